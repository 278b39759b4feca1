/- Rationals: short numbers. -/
import Derived.Test.YtjcblcikipmojaaGreatDoorRatC
namespace Go.Proofs.YtjcblcikipmojaaGreatDoor
open Go.RowKit

set_option maxHeartbeats 4000000 in
theorem rneg_any (a : Int) (P : Option Addr) (b : Int) (Q : Option Addr) (q : Rat) (w : World) (h : RatV w a P b Q q) :
    Calls Tryz.prog 41 #[.agg #[.int .i64 a, .pointer P, .int .i64 b, .pointer Q]] w (NewRat (-q) w) := by
  have kk := ((Below.refl w.heap.size w).alloc (Nat.le_refl _) (.cells #[.int .i64 a, .pointer P, .int .i64 b, .pointer Q] 27)).alloc (by simp) (.cells #[.int .i64 0, .pointer none, .int .i64 0, .pointer none] 27)
  have V := Lib.hid ((box_rat w a P b Q).keep ((Below.refl _ _).alloc (Nat.le_refl _) (.cells #[.int .i64 0, .pointer none, .int .i64 0, .pointer none] 27)))
  have R := Lib.hid (Cells.new (w.alloc (.cells #[.int .i64 a, .pointer P, .int .i64 b, .pointer Q] 27)) #[.int .i64 0, .pointer none, .int .i64 0, .pointer none] 27)
  simp only [World.size_alloc] at R
  have Hv := Lib.hid (h.keep kk)
  have Kk := Lib.hid kk
  obtain ⟨ws, hws⟩ : ∃ ws, (w.alloc (.cells #[.int .i64 a, .pointer P, .int .i64 b, .pointer Q] 27)).alloc (.cells #[.int .i64 0, .pointer none, .int .i64 0, .pointer none] 27) = ws := ⟨_, rfl⟩
  rw [hws] at V R Hv Kk
  clear h kk
  have HS := Lib.hid (fun v (hb : Below ws.heap.size ws v) => (⟨(V.out.keep hb).c0, (V.out.keep hb).c1, (V.out.keep hb).c2, (V.out.keep hb).c3⟩ : v.cell? ⟨w.heap.size, 0, none⟩ = some (.int .i64 a) ∧ v.cell? ⟨w.heap.size, 1, none⟩ = some (.pointer P) ∧ v.cell? ⟨w.heap.size, 2, none⟩ = some (.int .i64 b) ∧ v.cell? ⟨w.heap.size, 3, none⟩ = some (.pointer Q)))
  have HA := Lib.hid (fun v (hb : Below ws.heap.size ws v) => neg_any a P q.num v (Hv.out.keep hb).num)
  go_enter Tryz.func41, Tryz.ntmps41
  go_wp2_with fail
  try rw [hws]
  clear hws
  refine Till.begin 6 (fun v => v.cell? ⟨w.heap.size, 0, none⟩ = some (.int .i64 a) ∧ v.cell? ⟨w.heap.size, 1, none⟩ = some (.pointer P) ∧ v.cell? ⟨w.heap.size, 2, none⟩ = some (.int .i64 b) ∧ v.cell? ⟨w.heap.size, 3, none⟩ = some (.pointer Q)) (by kernel_rfl) (HS.out _ (Below.refl _ _).drew) (fun hH => ?_)
  refine Till.take (i := 0) (m := 1) (d := some 3) (u := .pointer (some ⟨w.heap.size, 0, none⟩)) rfl rfl (by kernel_rfl) (by kernel_rfl) (by kernel_rfl) (by kernel_rfl) (by kernel_rfl) (by kernel_rfl) (by kernel_rfl) (fun _ _ _ h => h) (by kernel_rfl) (by (intro w hSw; (try dsimp only at hSw); go_split_ands; go_simp)) hH ?_
  try simp only [Act.put, List.setIfInBounds_toArray, List.set_cons_zero, List.set_cons_succ]
  refine Till.take (i := 1) (m := 2) (d := some 4) (u := .agg #[.int .i64 a, .pointer P]) rfl rfl (by kernel_rfl) (by kernel_rfl) (by kernel_rfl) (by kernel_rfl) (by kernel_rfl) (by kernel_rfl) (by kernel_rfl) (fun _ _ _ h => h) (by kernel_rfl) (by (intro w hSw; (try dsimp only at hSw); go_split_ands; go_simp)) hH ?_
  try simp only [Act.put, List.setIfInBounds_toArray, List.set_cons_zero, List.set_cons_succ]
  refine Till.take (i := 3) (m := 4) (d := some 6) (u := .pointer (some ⟨w.heap.size, 2, none⟩)) rfl rfl (by kernel_rfl) (by kernel_rfl) (by kernel_rfl) (by kernel_rfl) (by kernel_rfl) (by kernel_rfl) (by kernel_rfl) (fun _ _ _ h => h) (by kernel_rfl) (by (intro w hSw; (try dsimp only at hSw); go_split_ands; go_simp)) hH ?_
  try simp only [Act.put, List.setIfInBounds_toArray, List.set_cons_zero, List.set_cons_succ]
  refine Till.take (i := 4) (m := 5) (d := some 7) (u := .agg #[.int .i64 b, .pointer Q]) rfl rfl (by kernel_rfl) (by kernel_rfl) (by kernel_rfl) (by kernel_rfl) (by kernel_rfl) (by kernel_rfl) (by kernel_rfl) (fun _ _ _ h => h) (by kernel_rfl) (by (intro w hSw; (try dsimp only at hSw); go_split_ands; go_simp)) hH ?_
  try simp only [Act.put, List.setIfInBounds_toArray, List.set_cons_zero, List.set_cons_succ]
  clear hH
  refine Till.one (i := 2) (by kernel_rfl) rfl (fun K hK => ?_)
  go_simp
  refine (HA.out _ (Below.refl _ _).drew).mono ?_
  rintro e v1 ⟨xa, xP, rfl, hx, g1⟩
  have B1 := Lib.hid (below_on (Below.refl ws.heap.size ws).drew g1)
  have Hx1 := Lib.hid hx
  have Hy1 := Lib.hid (Hv.out.den.keep B1.out)
  clear g1 hx
  go_wp2_with fail
  refine hK.out _ _ (fun _ => HS.out _ B1.out) ?_
  clear hK K
  try simp only [Act.put, List.setIfInBounds_toArray, List.set_cons_zero, List.set_cons_succ]
  refine Till.one (i := 5) (by kernel_rfl) rfl (fun K hK => ?_)
  go_simp
  refine hK.out _ _ (fun _ => HS.out _ B1.out) ?_
  clear hK K
  try simp only [Act.put, List.setIfInBounds_toArray, List.set_cons_zero, List.set_cons_succ]
  have R := Lib.hid (R.out.keep B1.out)
  have k0 := R.out.c0
  have k1 := R.out.c1
  have k2 := R.out.c2
  have k3 := R.out.c3
  have f0 := R.out.fz 0
  have f1 := R.out.fz 1
  have f2 := R.out.fz 2
  have f3 := R.out.fz 3
  refine Till.one (i := 6) (by kernel_rfl) rfl (fun K hK => ?_)
  go_simp
  refine hK.out _ _ (fun h => absurd h (by simp)) ?_
  clear hK K
  try simp only [Act.put, List.setIfInBounds_toArray, List.set_cons_zero, List.set_cons_succ]
  refine Till.done (by kernel_rfl) ?_ _
  have Hn := Lib.hid (Hx1.out.wrote R.out (by rfl) (put4_heap v1 (w.heap.size + 1) (.int .i64 xa) (.pointer xP) (.int .i64 b) (.pointer Q)).1 (put4_heap _ _ _ _ _ _).2)
  have Hd := Lib.hid (Hy1.out.wrote R.out (by rfl) (put4_heap v1 (w.heap.size + 1) (.int .i64 xa) (.pointer xP) (.int .i64 b) (.pointer Q)).1 (put4_heap _ _ _ _ _ _).2)
  have Kf := Lib.hid (below_put4 (below_on Kk.out B1.out) (show w.heap.size ≤ w.heap.size + 1 by omega) (.int .i64 xa) (.pointer xP) (.int .i64 b) (.pointer Q))
  go_wp2
  exact bodyPost_ret (v := .agg #[.int .i64 xa, .pointer xP, .int .i64 b, .pointer Q]) (by simp [results, Tryz.results41, go_sem, k0, k1, k2, k3]) rfl ⟨xa, xP, b, Q, rfl, ⟨by rw [Rat.neg_num]; exact Hn.out, by rw [Rat.neg_den]; exact Hd.out⟩, Kf.out⟩
set_option maxHeartbeats 4000000 in
theorem floor_any (a : Int) (P : Option Addr) (b : Int) (Q : Option Addr) (q : Rat) (w : World) (h : RatV w a P b Q q) (hn : q.num.natAbs < base 390) (hd9 : ((q.den : Nat) : Int).natAbs < base 390) :
    Calls Tryz.prog 55 #[.agg #[.int .i64 a, .pointer P, .int .i64 b, .pointer Q]] w (NewInt (q.num / (q.den : Int)) w) := by
  have kk := ((Below.refl w.heap.size w).alloc (Nat.le_refl _) (.cells #[.int .i64 a, .pointer P, .int .i64 b, .pointer Q] 27)).alloc (by simp) (.cells #[.int .i64 0, .pointer none] 25)
  have V := Lib.hid ((box_rat w a P b Q).keep ((Below.refl _ _).alloc (Nat.le_refl _) (.cells #[.int .i64 0, .pointer none] 25)))
  have R := Lib.hid (Cells.new (w.alloc (.cells #[.int .i64 a, .pointer P, .int .i64 b, .pointer Q] 27)) #[.int .i64 0, .pointer none] 25)
  simp only [World.size_alloc] at R
  have Hv := Lib.hid (h.keep kk)
  have Hs := Lib.hid (signZ_any _ (denZ q.den) _ (h.den.keep kk))
  rw [sgn_denZ] at Hs
  have Kk := Lib.hid kk
  have Hn9 := Lib.hid hn
  have Hd9 := Lib.hid hd9
  have Hpos := Lib.hid q.den_pos
  clear h kk hn hd9
  by_cases hd : q.den = 1
  · rw [if_pos hd] at Hs
    have Hfin := Lib.hid (show q.num / (q.den : Int) = q.num by rw [hd]; exact Int.ediv_one _)
    rw [Hfin.out]
    clear hd
    go_enter Tryz.func55, Tryz.ntmps55
    go_wp2_with fail
    refine Hs.out.mono ?_
    rintro e w1 ⟨rfl, h1⟩
    have R := Lib.hid (R.out.keep h1)
    have V := Lib.hid (V.out.keep h1)
    have K1 := Lib.hid (below_put2 (below_on Kk.out h1) (show w.heap.size ≤ w.heap.size + 1 by omega) (.int .i64 a) (.pointer P))
    have Hn := Lib.hid ((Hv.out.keep h1).num.wrote R.out (by rfl) (put2_heap _ (w.heap.size + 1) (.int .i64 a) (.pointer P)).1 (put2_heap _ _ _ _).2)
    have c0 := V.out.c0
    have c1 := V.out.c1
    have k0 := R.out.c0
    have k1 := R.out.c1
    have f0 := R.out.fz 0
    have f1 := R.out.fz 1
    clear h1
    go_wp2
    exact bodyPost_ret (v := .agg #[.int .i64 a, .pointer P]) (by simp [results, Tryz.results55, go_sem, k0, k1]) rfl ⟨a, P, rfl, Hn.out, K1.out⟩
  · rw [if_neg hd] at Hs
    have Hd1 := Lib.hid hd
    clear hd
    go_enter Tryz.func55, Tryz.ntmps55
    go_wp2_with fail
    refine Hs.out.mono ?_
    rintro e w1 ⟨rfl, h1⟩
    have R := Lib.hid (R.out.keep h1)
    have V := Lib.hid (V.out.keep h1)
    have Hv := Lib.hid (Hv.out.keep h1)
    have K1 := Lib.hid (below_on Kk.out h1)
    have HQ := Lib.hid (quotient_any a P b Q q.num (q.den : Int) w1 Hv.out.num (by have := Hv.out.den; rwa [denZ_ne Hd1.out] at this) (by have := Hpos.out; omega) Hn9.out Hd9.out)
    have c0 := V.out.c0
    have c1 := V.out.c1
    have c2 := V.out.c2
    have c3 := V.out.c3
    clear h1
    go_wp2_with fail
    refine HQ.out.mono ?_
    rintro e w2 ⟨xa, xP, rfl, hx, h2⟩
    have R := Lib.hid (R.out.keep h2)
    have K2 := Lib.hid (below_put2 (below_on K1.out h2) (show w.heap.size ≤ w.heap.size + 1 by omega) (.int .i64 xa) (.pointer xP))
    have Hn := Lib.hid (hx.wrote R.out (by rfl) (put2_heap _ (w.heap.size + 1) (.int .i64 xa) (.pointer xP)).1 (put2_heap _ _ _ _).2)
    clear c0 c1 c2 c3 hx h2
    have k0 := R.out.c0
    have k1 := R.out.c1
    have f0 := R.out.fz 0
    have f1 := R.out.fz 1
    go_wp2
    exact bodyPost_ret (v := .agg #[.int .i64 xa, .pointer xP]) (by simp [results, Tryz.results55, go_sem, k0, k1]) rfl ⟨xa, xP, rfl, Hn.out, K2.out⟩
set_option maxHeartbeats 4000000 in
theorem ceil_any (a : Int) (P : Option Addr) (b : Int) (Q : Option Addr) (q : Rat) (w : World) (h : RatV w a P b Q q) (hn : q.num.natAbs < base 390) (hd9 : ((q.den : Nat) : Int).natAbs < base 390) :
    Calls Tryz.prog 56 #[.agg #[.int .i64 a, .pointer P, .int .i64 b, .pointer Q]] w (NewInt (-(-q.num / (q.den : Int))) w) := by
  have kk := ((Below.refl w.heap.size w).alloc (Nat.le_refl _) (.cells #[.int .i64 a, .pointer P, .int .i64 b, .pointer Q] 27)).alloc (by simp) (.cells #[.int .i64 0, .pointer none] 25)
  have R := Lib.hid (Cells.new (w.alloc (.cells #[.int .i64 a, .pointer P, .int .i64 b, .pointer Q] 27)) #[.int .i64 0, .pointer none] 25)
  simp only [World.size_alloc] at R
  have HA := Lib.hid (rneg_any a P b Q q _ (h.keep kk))
  have HF := Lib.hid (fun v x X y Y (hv : RatV v x X y Y (-q)) => floor_any x X y Y (-q) v hv (by rw [Rat.neg_num, Int.natAbs_neg]; exact hn) (by rw [Rat.neg_den]; exact hd9))
  rw [Rat.neg_num, Rat.neg_den] at HF
  have Kk := Lib.hid kk
  clear h kk hn hd9
  go_enter Tryz.func56, Tryz.ntmps56
  go_wp2_with fail
  refine HA.out.mono ?_
  rintro e w1 ⟨xa, xP, ya, yP, rfl, hv, h1⟩
  have R := Lib.hid (R.out.keep h1)
  have K1 := Lib.hid (below_on Kk.out h1)
  have HF := Lib.hid (HF.out w1 xa xP ya yP hv)
  clear h1 hv
  go_wp2_with fail
  refine HF.out.mono ?_
  rintro e w2 ⟨za, zP, rfl, hz, h2⟩
  have R := Lib.hid (R.out.keep h2)
  have K2 := Lib.hid (below_on K1.out h2)
  have HN := Lib.hid (neg_any za zP _ w2 hz)
  clear h2 hz
  go_wp2_with fail
  refine HN.out.mono ?_
  rintro e w3 ⟨ua, uP, rfl, hu, h3⟩
  have R := Lib.hid (R.out.keep h3)
  have K3 := Lib.hid (below_put2 (below_on K2.out h3) (show w.heap.size ≤ w.heap.size + 1 by omega) (.int .i64 ua) (.pointer uP))
  have Hn := Lib.hid (hu.wrote R.out (by rfl) (put2_heap _ (w.heap.size + 1) (.int .i64 ua) (.pointer uP)).1 (put2_heap _ _ _ _).2)
  clear hu h3
  have k0 := R.out.c0
  have k1 := R.out.c1
  have f0 := R.out.fz 0
  have f1 := R.out.fz 1
  go_wp2
  exact bodyPost_ret (v := .agg #[.int .i64 ua, .pointer uP]) (by simp [results, Tryz.results56, go_sem, k0, k1]) rfl ⟨ua, uP, rfl, Hn.out, K3.out⟩
theorem ret_three {a b c d : Int} {x y : Bool} (h1 : a = c) (h2 : b = d) (h3 : x = y) : Ending.returned (.tuple #[.int .i64 a, .int .i64 b, .bool x]) = .returned (.tuple #[.int .i64 c, .int .i64 d, .bool y]) := by rw [h1, h2, h3]
/-- What ints returns. -/
def IntsPost (q : Rat) (w : World) (e : Ending) (w' : World) : Prop :=
  ∃ (n d : Int) (b : Bool), e = .returned (.tuple #[.int .i64 n, .int .i64 d, .bool b]) ∧ (b = true → n = q.num ∧ d = (q.den : Int)) ∧ (I64 q.num → I64 (q.den : Int) → b = true) ∧ I64 n ∧ I64 d ∧ Below w.heap.size w w'
theorem denZ_64 (q : Rat) : I64 (denZ q.den) ↔ I64 (q.den : Int) := by
  have := q.den_pos
  unfold denZ I64
  split <;> omega
set_option maxHeartbeats 8000000 in
theorem ints_any (a : Int) (P : Option Addr) (b : Int) (Q : Option Addr) (q : Rat) (w : World) (h : RatV w a P b Q q) :
    Calls Tryz.prog 81 #[.agg #[.int .i64 a, .pointer P, .int .i64 b, .pointer Q]] w (IntsPost q w) := by
  have kk := (Below.refl w.heap.size w).alloc (Nat.le_refl _) (.cells #[.int .i64 a, .pointer P, .int .i64 b, .pointer Q] 27)
  have V := Lib.hid (box_rat w a P b Q)
  have HA := Lib.hid (intZ_any a P q.num _ (h.keep kk).num)
  have HB := Lib.hid (fun w' (hb : Below w.heap.size w w') => intZ_any b Q (denZ q.den) w' (h.keep hb).den)
  have Kk := Lib.hid kk
  have Hp := Lib.hid q.den_pos
  have z64 := Lib.hid (denZ_64 q)
  have c2 := V.out.c2
  have c3 := V.out.c3
  clear h kk
  go_enter Tryz.func81, Tryz.ntmps81
  go_wp2_with fail
  refine HA.out.mono ?_
  rintro e w1 ⟨⟨n, b1, rfl, h1, h2⟩, h3⟩
  have V := Lib.hid (V.out.keep h3)
  have K1 := Lib.hid (below_on Kk.out h3)
  have hn64 : I64 n := by
    rcases Classical.em (I64 q.num) with h | h
    · rw [(h1 h).1]; exact h
    · rw [(h2 h).1]; exact ⟨by decide, by decide⟩
  have Hn := Lib.hid (show (b1 = true → n = q.num) ∧ (I64 q.num → b1 = true) by
    rcases Classical.em (I64 q.num) with h | h
    · exact ⟨fun _ => (h1 h).1, fun _ => (h1 h).2⟩
    · exact ⟨fun e => (by rw [(h2 h).2] at e; cases e), fun h' => absurd h' h⟩)
  have Hn64 := Lib.hid hn64
  clear h1 h2 h3 hn64 c2 c3
  have c2 := V.out.c2
  have c3 := V.out.c3
  go_wp2_with fail
  refine (HB.out _ K1.out).mono ?_
  rintro e w2 ⟨⟨d, b2, rfl, h1, h2⟩, h3⟩
  have K2 := Lib.hid (below_on K1.out h3)
  have hways : (d = 0 ∧ I64 (1 : Int) ∧ (b2 = true → (1 : Int) = (q.den : Int)) ∧ (I64 (q.den : Int) → b2 = true)) ∨ (d ≠ 0 ∧ I64 d ∧ (b2 = true → d = (q.den : Int)) ∧ (I64 (q.den : Int) → b2 = true)) := by
    have hp := Hp.out
    rcases Classical.em (I64 (denZ q.den)) with h | h
    · obtain ⟨e1, e2⟩ := h1 h
      by_cases hd : q.den = 1
      · rw [hd] at e1
        exact .inl ⟨e1, ⟨by decide, by decide⟩, fun _ => by rw [hd]; rfl, fun _ => e2⟩
      · rw [denZ_ne hd] at e1 h
        exact .inr ⟨by omega, by rw [e1]; exact h, fun _ => e1, fun _ => e2⟩
    · obtain ⟨e1, e2⟩ := h2 h
      exact .inl ⟨e1, ⟨by decide, by decide⟩, fun e => (by rw [e2] at e; cases e), fun h' => absurd (z64.out.2 h') h⟩
  clear h1 h2 h3 c2 c3
  rcases hways with ⟨rfl, hd64, hd1, hd2⟩ | ⟨hd0, hd64, hd1, hd2⟩
  · have Hd := Lib.hid (And.intro hd1 (And.intro hd2 hd64))
    clear hd1 hd2 hd64
    cases b1 with
    | false =>
      go_wp2
      go_ret3
      exact ⟨n, 1, false, rfl, fun e => (by cases e), fun x _ => Hn.out.2 x, Hn64.out, Hd.out.2.2, K2.out⟩
    | true =>
      go_wp2
      go_ret3
      exact ⟨n, 1, b2, rfl, fun e => ⟨Hn.out.1 (by first | rfl | trivial), Hd.out.1 e⟩, fun _ y => Hd.out.2.1 y, Hn64.out, Hd.out.2.2, K2.out⟩
  · have t0 : (d == 0) = false := by rw [beq_eq_false_iff_ne]; exact hd0
    have Hd := Lib.hid (And.intro hd1 (And.intro hd2 hd64))
    clear hd1 hd2 hd64 hd0
    cases b1 with
    | false =>
      go_wp2
      go_ret3
      exact ⟨n, d, false, rfl, fun e => (by cases e), fun x _ => Hn.out.2 x, Hn64.out, Hd.out.2.2, K2.out⟩
    | true =>
      go_wp2
      go_ret3
      exact ⟨n, d, b2, rfl, fun e => ⟨Hn.out.1 (by first | rfl | trivial), Hd.out.1 e⟩, fun _ y => Hd.out.2.1 y, Hn64.out, Hd.out.2.2, K2.out⟩
/-- The range of short numbers. -/
def shortB (n d : Int) : Bool := decide (-2147483648 < n) && decide (n < 2147483648) && decide (d < 2147483648)
theorem shortB_true {n d : Int} (h : shortB n d = true) : -2147483648 < n ∧ n < 2147483648 ∧ d < 2147483648 := by
  unfold shortB at h
  simp only [Bool.and_eq_true, decide_eq_true_eq] at h
  omega
set_option maxHeartbeats 1000000 in
theorem isShort_any (n d : Int) (w : World) : Calls Tryz.prog 82 #[.int .i64 n, .int .i64 d] w fun e w' => e = .returned (.bool (shortB n d)) ∧ w = w' := by
  obtain ⟨t, ht⟩ : ∃ t, shortB n d = t := ⟨_, rfl⟩
  rw [ht]
  have Ht := Lib.hid ht
  clear ht
  by_cases h1 : -2147483648 < n
  · by_cases h2 : n < 2147483648
    · by_cases h3 : d < 2147483648
      · obtain rfl : t = true := by rw [← Ht.out]; unfold shortB; rw [decide_eq_true h1, decide_eq_true h2, decide_eq_true h3]; rfl
        go_enter Tryz.func82, Tryz.ntmps82
        go_wp2
        go_ret
        exact ⟨rfl, rfl⟩
      · obtain rfl : t = false := by rw [← Ht.out]; unfold shortB; rw [decide_eq_false h3, Bool.and_false]
        go_enter Tryz.func82, Tryz.ntmps82
        go_wp2
        go_ret
        exact ⟨rfl, rfl⟩
    · obtain rfl : t = false := by rw [← Ht.out]; unfold shortB; rw [decide_eq_false h2, Bool.and_false, Bool.false_and]
      go_enter Tryz.func82, Tryz.ntmps82
      go_wp2
      go_ret
      exact ⟨rfl, rfl⟩
  · obtain rfl : t = false := by rw [← Ht.out]; unfold shortB; rw [decide_eq_false h1, Bool.false_and, Bool.false_and]
    go_enter Tryz.func82, Tryz.ntmps82
    go_wp2
    go_ret
    exact ⟨rfl, rfl⟩
def GcdIInv (g : Nat) (va vb : Value) : Prop := ∃ x y : Nat, va = .int .i64 (x : Nat) ∧ vb = .int .i64 (y : Nat) ∧ x ≤ 9223372036854775807 ∧ y ≤ 9223372036854775807 ∧ Nat.gcd x y = g
set_option maxHeartbeats 4000000 in
theorem gcdI_any (a : Int) (k : Nat) (w : World) (ha : a.natAbs ≤ 9223372036854775807) (hk : k ≤ 9223372036854775807) :
    Calls Tryz.prog 112 #[.int .i64 a, .int .i64 (k : Nat)] w fun e w' => e = .returned (.int .i64 (Nat.gcd a.natAbs k : Nat)) ∧ w = w' := by
  obtain ⟨g, hg⟩ : ∃ g, Nat.gcd a.natAbs k = g := ⟨_, rfl⟩
  rw [hg]
  obtain ⟨m, hm⟩ : ∃ m, a.natAbs = m := ⟨_, rfl⟩
  rw [hm] at hg ha
  have Hst := Lib.hid (show GcdIInv g (.int .i64 (m : Nat)) (.int .i64 (k : Nat)) from ⟨m, k, rfl, rfl, ha, hk, hg⟩)
  have hcase : a = (m : Int) ∨ (a < 0 ∧ a = -(m : Int)) := by omega
  have hm1 : (m : Int) ≤ 9223372036854775807 := by omega
  clear hg hm
  rcases hcase with rfl | ⟨hneg, rfl⟩
  · go_enter Tryz.func112, Tryz.ntmps112
    go_wp2
    go_loop [0, 1] (fun va vb => GcdIInv g va vb) (fun va _ => (intOf va).toNat)
    case atStart => first | exact Hst.out | (have h := Hst.out; simpa using h)
    case round =>
      obtain ⟨x, y, rfl, rfl, hx, hy, hg⟩ := hrel
      by_cases h0 : x = 0
      · subst h0
        have Hfin := Lib.hid (show y = g by rw [← hg, Nat.gcd_zero_left])
        clear hg
        go_wp2
        go_ret
        exact ⟨by rw [Hfin.out]; rfl, rfl⟩
      · have hxp : 0 < x := by omega
        have Hg := Lib.hid (show Nat.gcd (y % x) x = g by rw [← hg, ← Nat.gcd_rec])
        have hl := Nat.mod_lt y hxp
        obtain ⟨r, hr⟩ : ∃ r, y % x = r := ⟨_, rfl⟩
        rw [hr] at Hg hl
        have Hl := Lib.hid hl
        have t0 : ((x : Int) == 0) = false := by rw [beq_eq_false_iff_ne]; omega
        have e1 : (y : Int) % (x : Int) = (r : Int) := by rw [← hr]; simp
        have e2 : Int.tmod (y : Int) (x : Int) = (r : Int) := by rw [← hr]; rfl
        have Hnew := Lib.hid (show GcdIInv g (.int .i64 (r : Nat)) (.int .i64 (x : Nat)) from ⟨r, x, rfl, rfl, by omega, hx, Hg.out⟩)
        clear hg hr hl h0
        go_wp2
        go_round
        case rel => exact Hnew.out
        case measure => simp [intOf]; exact Hl.out
  · go_enter Tryz.func112, Tryz.ntmps112
    go_wp2
    go_loop [0, 1] (fun va vb => GcdIInv g va vb) (fun va _ => (intOf va).toNat)
    case atStart => first | exact Hst.out | (have h := Hst.out; simpa using h)
    case round =>
      obtain ⟨x, y, rfl, rfl, hx, hy, hg⟩ := hrel
      by_cases h0 : x = 0
      · subst h0
        have Hfin := Lib.hid (show y = g by rw [← hg, Nat.gcd_zero_left])
        clear hg
        go_wp2
        go_ret
        exact ⟨by rw [Hfin.out]; rfl, rfl⟩
      · have hxp : 0 < x := by omega
        have Hg := Lib.hid (show Nat.gcd (y % x) x = g by rw [← hg, ← Nat.gcd_rec])
        have hl := Nat.mod_lt y hxp
        obtain ⟨r, hr⟩ : ∃ r, y % x = r := ⟨_, rfl⟩
        rw [hr] at Hg hl
        have Hl := Lib.hid hl
        have t0 : ((x : Int) == 0) = false := by rw [beq_eq_false_iff_ne]; omega
        have e1 : (y : Int) % (x : Int) = (r : Int) := by rw [← hr]; simp
        have e2 : Int.tmod (y : Int) (x : Int) = (r : Int) := by rw [← hr]; rfl
        have Hnew := Lib.hid (show GcdIInv g (.int .i64 (r : Nat)) (.int .i64 (x : Nat)) from ⟨r, x, rfl, rfl, by omega, hx, Hg.out⟩)
        clear hg hr hl h0
        go_wp2
        go_round
        case rel => exact Hnew.out
        case measure => simp [intOf]; exact Hl.out
theorem rat_int (n : Int) : ((n : Int) : Rat).num = n ∧ ((n : Int) : Rat).den = 1 := ⟨Rat.num_intCast n, Rat.den_intCast n⟩
set_option maxHeartbeats 4000000 in
theorem rfrom_any (n : Int) (w : World) (hn : I64 n) : Calls Tryz.prog 26 #[.int .i64 n] w (NewRat ((n : Int) : Rat) w) := by
  have R := Lib.hid (Cells.new w #[.int .i64 0, .pointer none, .int .i64 0, .pointer none] 27)
  have Kk := Lib.hid ((Below.refl w.heap.size w).alloc (Nat.le_refl _) (.cells #[.int .i64 0, .pointer none, .int .i64 0, .pointer none] 27))
  have Hn := Lib.hid hn
  clear hn
  go_enter Tryz.func26, Tryz.ntmps26
  go_wp2_with fail
  refine (from_any _ _).mono ?_
  rintro e w1 ⟨rfl, h1⟩
  have R := Lib.hid (R.out.keep h1)
  have K1 := Lib.hid (below_put4 (below_on Kk.out h1) (Nat.le_refl w.heap.size) (.int .i64 n) (.pointer none) (.int .i64 0) (.pointer none))
  clear h1
  have k0 := R.out.c0
  have k1 := R.out.c1
  have k2 := R.out.c2
  have k3 := R.out.c3
  have f0 := R.out.fz 0
  have f1 := R.out.fz 1
  have f2 := R.out.fz 2
  have f3 := R.out.fz 3
  go_wp2
  exact bodyPost_ret (v := .agg #[.int .i64 n, .pointer none, .int .i64 0, .pointer none]) (by simp [results, Tryz.results26, go_sem, k0, k1, k2, k3]) rfl ⟨n, none, 0, none, rfl, ⟨by rw [(rat_int n).1]; exact small_int Hn.out, by rw [(rat_int n).2, denZ_one]; exact small_int ⟨by decide, by decide⟩⟩, K1.out⟩
end Go.Proofs.YtjcblcikipmojaaGreatDoor
