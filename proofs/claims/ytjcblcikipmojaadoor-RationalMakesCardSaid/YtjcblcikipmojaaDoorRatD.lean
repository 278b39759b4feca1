/- Rationals: Neg, Floor, Ceil, and sums of short ones. -/
import Derived.Test.YtjcblcikipmojaaDoorRatC
namespace Go.Proofs.YtjcblcikipmojaaDoor
open Go.RowKit

set_option maxHeartbeats 4000000 in
theorem rneg_any (a : Int) (P : Option Addr) (b : Int) (Q : Option Addr) (q : Rat) (w : World) (h : RatV w a P b Q q) :
    Calls Tryd.prog 72 #[.agg #[.int .i64 a, .pointer P, .int .i64 b, .pointer Q]] w (NewRat (-q) w) := by
  have kk := ((Below.refl w.heap.size w).alloc (Nat.le_refl _) (.cells #[.int .i64 a, .pointer P, .int .i64 b, .pointer Q] 41)).alloc (by simp) (.cells #[.int .i64 0, .pointer none, .int .i64 0, .pointer none] 41)
  have V := Lib.hid ((box_rat w a P b Q).keep ((Below.refl _ _).alloc (Nat.le_refl _) (.cells #[.int .i64 0, .pointer none, .int .i64 0, .pointer none] 41)))
  have R := Lib.hid (Cells.new (w.alloc (.cells #[.int .i64 a, .pointer P, .int .i64 b, .pointer Q] 41)) #[.int .i64 0, .pointer none, .int .i64 0, .pointer none] 41)
  simp only [World.size_alloc] at R
  have Hv := Lib.hid (h.keep kk)
  have Kk := Lib.hid kk
  obtain ⟨ws, hws⟩ : ∃ ws, (w.alloc (.cells #[.int .i64 a, .pointer P, .int .i64 b, .pointer Q] 41)).alloc (.cells #[.int .i64 0, .pointer none, .int .i64 0, .pointer none] 41) = ws := ⟨_, rfl⟩
  rw [hws] at V R Hv Kk
  clear h kk
  have HS := Lib.hid (fun v (hb : Below ws.heap.size ws v) => (⟨(V.out.keep hb).c0, (V.out.keep hb).c1, (V.out.keep hb).c2, (V.out.keep hb).c3⟩ : v.cell? ⟨w.heap.size, 0, none⟩ = some (.int .i64 a) ∧ v.cell? ⟨w.heap.size, 1, none⟩ = some (.pointer P) ∧ v.cell? ⟨w.heap.size, 2, none⟩ = some (.int .i64 b) ∧ v.cell? ⟨w.heap.size, 3, none⟩ = some (.pointer Q)))
  have HA := Lib.hid (fun v (hb : Below ws.heap.size ws v) => neg_any a P q.num v (Hv.out.keep hb).num)
  go_enter Tryd.func72, Tryd.ntmps72
  go_wp2_with fail
  try rw [hws]
  clear hws
  refine Till.begin 6 (fun v => v.cell? ⟨w.heap.size, 0, none⟩ = some (.int .i64 a) ∧ v.cell? ⟨w.heap.size, 1, none⟩ = some (.pointer P) ∧ v.cell? ⟨w.heap.size, 2, none⟩ = some (.int .i64 b) ∧ v.cell? ⟨w.heap.size, 3, none⟩ = some (.pointer Q)) (by kernel_rfl) (HS.out _ (Below.refl _ _).drew) (fun hH => ?_)
  refine Till.take (i := 0) (m := 1) (d := some 3) (u := .pointer (some ⟨w.heap.size, 0, none⟩)) rfl rfl (by kernel_rfl) (by kernel_rfl) (by kernel_rfl) (by kernel_rfl) (by kernel_rfl) (by kernel_rfl) (by kernel_rfl) (fun _ _ _ h => h) (by kernel_rfl) (by (intro w hSw; (try dsimp only at hSw); go_split_ands; go_simp)) hH ?_
  try simp only [Act.put, List.setIfInBounds_toArray, List.set_cons_zero, List.set_cons_succ]
  refine Till.take (i := 1) (m := 2) (d := some 4) (u := .agg #[.int .i64 a, .pointer P]) rfl rfl (by kernel_rfl) (by kernel_rfl) (by kernel_rfl) (by kernel_rfl) (by kernel_rfl) (by kernel_rfl) (by kernel_rfl) (fun _ _ _ h => h) (by kernel_rfl) (by (intro w hSw; (try dsimp only at hSw); go_split_ands; go_simp)) hH ?_
  try simp only [Act.put, List.setIfInBounds_toArray, List.set_cons_zero, List.set_cons_succ]
  refine Till.take (i := 3) (m := 4) (d := some 6) (u := .pointer (some ⟨w.heap.size, 2, none⟩)) rfl rfl (by kernel_rfl) (by kernel_rfl) (by kernel_rfl) (by kernel_rfl) (by kernel_rfl) (by kernel_rfl) (by kernel_rfl) (fun _ _ _ h => h) (by kernel_rfl) (by (intro w hSw; (try dsimp only at hSw); go_split_ands; go_simp)) hH ?_
  try simp only [Act.put, List.setIfInBounds_toArray, List.set_cons_zero, List.set_cons_succ]
  refine Till.take (i := 4) (m := 5) (d := some 7) (u := .agg #[.int .i64 b, .pointer Q]) rfl rfl (by kernel_rfl) (by kernel_rfl) (by kernel_rfl) (by kernel_rfl) (by kernel_rfl) (by kernel_rfl) (by kernel_rfl) (fun _ _ _ h => h) (by kernel_rfl) (by (intro w hSw; (try dsimp only at hSw); go_split_ands; go_simp)) hH ?_
  try simp only [Act.put, List.setIfInBounds_toArray, List.set_cons_zero, List.set_cons_succ]
  clear hH
  refine Till.one (i := 2) (by kernel_rfl) rfl (fun K hK => ?_)
  go_simp
  refine (HA.out _ (Below.refl _ _).drew).mono ?_
  rintro e v1 ⟨xa, xP, rfl, hx, g1⟩
  have B1 := Lib.hid (below_on (Below.refl ws.heap.size ws).drew g1)
  have Hx1 := Lib.hid hx
  have Hy1 := Lib.hid (Hv.out.den.keep B1.out)
  clear g1 hx
  go_wp2_with fail
  refine hK.out _ _ (fun _ => HS.out _ B1.out) ?_
  clear hK K
  try simp only [Act.put, List.setIfInBounds_toArray, List.set_cons_zero, List.set_cons_succ]
  refine Till.one (i := 5) (by kernel_rfl) rfl (fun K hK => ?_)
  go_simp
  refine hK.out _ _ (fun _ => HS.out _ B1.out) ?_
  clear hK K
  try simp only [Act.put, List.setIfInBounds_toArray, List.set_cons_zero, List.set_cons_succ]
  have R := Lib.hid (R.out.keep B1.out)
  have k0 := R.out.c0
  have k1 := R.out.c1
  have k2 := R.out.c2
  have k3 := R.out.c3
  have f0 := R.out.fz 0
  have f1 := R.out.fz 1
  have f2 := R.out.fz 2
  have f3 := R.out.fz 3
  refine Till.one (i := 6) (by kernel_rfl) rfl (fun K hK => ?_)
  go_simp
  refine hK.out _ _ (fun h => absurd h (by simp)) ?_
  clear hK K
  try simp only [Act.put, List.setIfInBounds_toArray, List.set_cons_zero, List.set_cons_succ]
  refine Till.done (by kernel_rfl) ?_ _
  have Hn := Lib.hid (Hx1.out.wrote R.out (by rfl) (put4_heap v1 (w.heap.size + 1) (.int .i64 xa) (.pointer xP) (.int .i64 b) (.pointer Q)).1 (put4_heap _ _ _ _ _ _).2)
  have Hd := Lib.hid (Hy1.out.wrote R.out (by rfl) (put4_heap v1 (w.heap.size + 1) (.int .i64 xa) (.pointer xP) (.int .i64 b) (.pointer Q)).1 (put4_heap _ _ _ _ _ _).2)
  have Kf := Lib.hid (below_put4 (below_on Kk.out B1.out) (show w.heap.size ≤ w.heap.size + 1 by omega) (.int .i64 xa) (.pointer xP) (.int .i64 b) (.pointer Q))
  go_wp2
  exact bodyPost_ret (v := .agg #[.int .i64 xa, .pointer xP, .int .i64 b, .pointer Q]) (by simp [results, Tryd.results72, go_sem, k0, k1, k2, k3]) rfl ⟨xa, xP, b, Q, rfl, ⟨by rw [Rat.neg_num]; exact Hn.out, by rw [Rat.neg_den]; exact Hd.out⟩, Kf.out⟩
set_option maxHeartbeats 4000000 in
theorem floor_any (a : Int) (P : Option Addr) (b : Int) (Q : Option Addr) (q : Rat) (w : World) (h : RatV w a P b Q q) (hn : q.num.natAbs < base 390) (hd9 : ((q.den : Nat) : Int).natAbs < base 390) :
    Calls Tryd.prog 39 #[.agg #[.int .i64 a, .pointer P, .int .i64 b, .pointer Q]] w (NewInt (q.num / (q.den : Int)) w) := by
  have kk := ((Below.refl w.heap.size w).alloc (Nat.le_refl _) (.cells #[.int .i64 a, .pointer P, .int .i64 b, .pointer Q] 41)).alloc (by simp) (.cells #[.int .i64 0, .pointer none] 26)
  have V := Lib.hid ((box_rat w a P b Q).keep ((Below.refl _ _).alloc (Nat.le_refl _) (.cells #[.int .i64 0, .pointer none] 26)))
  have R := Lib.hid (Cells.new (w.alloc (.cells #[.int .i64 a, .pointer P, .int .i64 b, .pointer Q] 41)) #[.int .i64 0, .pointer none] 26)
  simp only [World.size_alloc] at R
  have Hv := Lib.hid (h.keep kk)
  have Hs := Lib.hid (signZ_any _ (denZ q.den) _ (h.den.keep kk))
  rw [sgn_denZ] at Hs
  have Kk := Lib.hid kk
  have Hn9 := Lib.hid hn
  have Hd9 := Lib.hid hd9
  have Hpos := Lib.hid q.den_pos
  clear h kk hn hd9
  by_cases hd : q.den = 1
  · rw [if_pos hd] at Hs
    have Hfin := Lib.hid (show q.num / (q.den : Int) = q.num by rw [hd]; exact Int.ediv_one _)
    rw [Hfin.out]
    clear hd
    go_enter Tryd.func39, Tryd.ntmps39
    go_wp2_with fail
    refine Hs.out.mono ?_
    rintro e w1 ⟨rfl, h1⟩
    have R := Lib.hid (R.out.keep h1)
    have V := Lib.hid (V.out.keep h1)
    have K1 := Lib.hid (below_put2 (below_on Kk.out h1) (show w.heap.size ≤ w.heap.size + 1 by omega) (.int .i64 a) (.pointer P))
    have Hn := Lib.hid ((Hv.out.keep h1).num.wrote R.out (by rfl) (put2_heap _ (w.heap.size + 1) (.int .i64 a) (.pointer P)).1 (put2_heap _ _ _ _).2)
    have c0 := V.out.c0
    have c1 := V.out.c1
    have k0 := R.out.c0
    have k1 := R.out.c1
    have f0 := R.out.fz 0
    have f1 := R.out.fz 1
    clear h1
    go_wp2
    exact bodyPost_ret (v := .agg #[.int .i64 a, .pointer P]) (by simp [results, Tryd.results39, go_sem, k0, k1]) rfl ⟨a, P, rfl, Hn.out, K1.out⟩
  · rw [if_neg hd] at Hs
    have Hd1 := Lib.hid hd
    clear hd
    go_enter Tryd.func39, Tryd.ntmps39
    go_wp2_with fail
    refine Hs.out.mono ?_
    rintro e w1 ⟨rfl, h1⟩
    have R := Lib.hid (R.out.keep h1)
    have V := Lib.hid (V.out.keep h1)
    have Hv := Lib.hid (Hv.out.keep h1)
    have K1 := Lib.hid (below_on Kk.out h1)
    have HQ := Lib.hid (quotient_any a P b Q q.num (q.den : Int) w1 Hv.out.num (by have := Hv.out.den; rwa [denZ_ne Hd1.out] at this) (by have := Hpos.out; omega) Hn9.out Hd9.out)
    have c0 := V.out.c0
    have c1 := V.out.c1
    have c2 := V.out.c2
    have c3 := V.out.c3
    clear h1
    go_wp2_with fail
    refine HQ.out.mono ?_
    rintro e w2 ⟨xa, xP, rfl, hx, h2⟩
    have R := Lib.hid (R.out.keep h2)
    have K2 := Lib.hid (below_put2 (below_on K1.out h2) (show w.heap.size ≤ w.heap.size + 1 by omega) (.int .i64 xa) (.pointer xP))
    have Hn := Lib.hid (hx.wrote R.out (by rfl) (put2_heap _ (w.heap.size + 1) (.int .i64 xa) (.pointer xP)).1 (put2_heap _ _ _ _).2)
    clear c0 c1 c2 c3 hx h2
    have k0 := R.out.c0
    have k1 := R.out.c1
    have f0 := R.out.fz 0
    have f1 := R.out.fz 1
    go_wp2
    exact bodyPost_ret (v := .agg #[.int .i64 xa, .pointer xP]) (by simp [results, Tryd.results39, go_sem, k0, k1]) rfl ⟨xa, xP, rfl, Hn.out, K2.out⟩
set_option maxHeartbeats 4000000 in
theorem ceil_any (a : Int) (P : Option Addr) (b : Int) (Q : Option Addr) (q : Rat) (w : World) (h : RatV w a P b Q q) (hn : q.num.natAbs < base 390) (hd9 : ((q.den : Nat) : Int).natAbs < base 390) :
    Calls Tryd.prog 40 #[.agg #[.int .i64 a, .pointer P, .int .i64 b, .pointer Q]] w (NewInt (-(-q.num / (q.den : Int))) w) := by
  have kk := ((Below.refl w.heap.size w).alloc (Nat.le_refl _) (.cells #[.int .i64 a, .pointer P, .int .i64 b, .pointer Q] 41)).alloc (by simp) (.cells #[.int .i64 0, .pointer none] 26)
  have R := Lib.hid (Cells.new (w.alloc (.cells #[.int .i64 a, .pointer P, .int .i64 b, .pointer Q] 41)) #[.int .i64 0, .pointer none] 26)
  simp only [World.size_alloc] at R
  have HA := Lib.hid (rneg_any a P b Q q _ (h.keep kk))
  have HF := Lib.hid (fun v x X y Y (hv : RatV v x X y Y (-q)) => floor_any x X y Y (-q) v hv (by rw [Rat.neg_num, Int.natAbs_neg]; exact hn) (by rw [Rat.neg_den]; exact hd9))
  rw [Rat.neg_num, Rat.neg_den] at HF
  have Kk := Lib.hid kk
  clear h kk hn hd9
  go_enter Tryd.func40, Tryd.ntmps40
  go_wp2_with fail
  refine HA.out.mono ?_
  rintro e w1 ⟨xa, xP, ya, yP, rfl, hv, h1⟩
  have R := Lib.hid (R.out.keep h1)
  have K1 := Lib.hid (below_on Kk.out h1)
  have HF := Lib.hid (HF.out w1 xa xP ya yP hv)
  clear h1 hv
  go_wp2_with fail
  refine HF.out.mono ?_
  rintro e w2 ⟨za, zP, rfl, hz, h2⟩
  have R := Lib.hid (R.out.keep h2)
  have K2 := Lib.hid (below_on K1.out h2)
  have HN := Lib.hid (neg_any za zP _ w2 hz)
  clear h2 hz
  go_wp2_with fail
  refine HN.out.mono ?_
  rintro e w3 ⟨ua, uP, rfl, hu, h3⟩
  have R := Lib.hid (R.out.keep h3)
  have K3 := Lib.hid (below_put2 (below_on K2.out h3) (show w.heap.size ≤ w.heap.size + 1 by omega) (.int .i64 ua) (.pointer uP))
  have Hn := Lib.hid (hu.wrote R.out (by rfl) (put2_heap _ (w.heap.size + 1) (.int .i64 ua) (.pointer uP)).1 (put2_heap _ _ _ _).2)
  clear hu h3
  have k0 := R.out.c0
  have k1 := R.out.c1
  have f0 := R.out.fz 0
  have f1 := R.out.fz 1
  go_wp2
  exact bodyPost_ret (v := .agg #[.int .i64 ua, .pointer uP]) (by simp [results, Tryd.results40, go_sem, k0, k1]) rfl ⟨ua, uP, rfl, Hn.out, K3.out⟩
end Go.Proofs.YtjcblcikipmojaaDoor
