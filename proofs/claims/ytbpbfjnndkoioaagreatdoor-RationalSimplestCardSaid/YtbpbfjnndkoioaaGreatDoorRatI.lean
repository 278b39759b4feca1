/- The examples of layer 2's chapter. -/
import Derived.Test.YtbpbfjnndkoioaaGreatDoorRatC
import Derived.Test.YtbpbfjnndkoioaaGreatDoorRatG
namespace Go.Proofs.YtbpbfjnndkoioaaGreatDoor
open Go.RowKit

set_option maxHeartbeats 4000000 in
theorem rneg_any (a : Int) (P : Option Addr) (b : Int) (Q : Option Addr) (q : Rat) (w : World) (h : RatV w a P b Q q) :
    Calls Tryz.prog 21 #[.agg #[.int .i64 a, .pointer P, .int .i64 b, .pointer Q]] w (NewRat (-q) w) := by
  have kk := ((Below.refl w.heap.size w).alloc (Nat.le_refl _) (.cells #[.int .i64 a, .pointer P, .int .i64 b, .pointer Q] 28)).alloc (by simp) (.cells #[.int .i64 0, .pointer none, .int .i64 0, .pointer none] 28)
  have V := Lib.hid ((box_rat w a P b Q).keep ((Below.refl _ _).alloc (Nat.le_refl _) (.cells #[.int .i64 0, .pointer none, .int .i64 0, .pointer none] 28)))
  have R := Lib.hid (Cells.new (w.alloc (.cells #[.int .i64 a, .pointer P, .int .i64 b, .pointer Q] 28)) #[.int .i64 0, .pointer none, .int .i64 0, .pointer none] 28)
  simp only [World.size_alloc] at R
  have Hv := Lib.hid (h.keep kk)
  have Kk := Lib.hid kk
  obtain ⟨ws, hws⟩ : ∃ ws, (w.alloc (.cells #[.int .i64 a, .pointer P, .int .i64 b, .pointer Q] 28)).alloc (.cells #[.int .i64 0, .pointer none, .int .i64 0, .pointer none] 28) = ws := ⟨_, rfl⟩
  rw [hws] at V R Hv Kk
  clear h kk
  have HS := Lib.hid (fun v (hb : Below ws.heap.size ws v) => (⟨(V.out.keep hb).c0, (V.out.keep hb).c1, (V.out.keep hb).c2, (V.out.keep hb).c3⟩ : v.cell? ⟨w.heap.size, 0, none⟩ = some (.int .i64 a) ∧ v.cell? ⟨w.heap.size, 1, none⟩ = some (.pointer P) ∧ v.cell? ⟨w.heap.size, 2, none⟩ = some (.int .i64 b) ∧ v.cell? ⟨w.heap.size, 3, none⟩ = some (.pointer Q)))
  have HA := Lib.hid (fun v (hb : Below ws.heap.size ws v) => neg_any a P q.num v (Hv.out.keep hb).num)
  go_enter Tryz.func21, Tryz.ntmps21
  go_wp2_with fail
  try rw [hws]
  clear hws
  refine Till.begin 6 (fun v => v.cell? ⟨w.heap.size, 0, none⟩ = some (.int .i64 a) ∧ v.cell? ⟨w.heap.size, 1, none⟩ = some (.pointer P) ∧ v.cell? ⟨w.heap.size, 2, none⟩ = some (.int .i64 b) ∧ v.cell? ⟨w.heap.size, 3, none⟩ = some (.pointer Q)) (by kernel_rfl) (HS.out _ (Below.refl _ _).drew) (fun hH => ?_)
  refine Till.tk 0 1 3 (.pointer (some ⟨w.heap.size, 0, none⟩)) hH ?_
  try simp only [Act.put, List.setIfInBounds_toArray, List.set_cons_zero, List.set_cons_succ]
  refine Till.tk 1 2 4 (.agg #[.int .i64 a, .pointer P]) hH ?_
  try simp only [Act.put, List.setIfInBounds_toArray, List.set_cons_zero, List.set_cons_succ]
  refine Till.tk 3 4 6 (.pointer (some ⟨w.heap.size, 2, none⟩)) hH ?_
  try simp only [Act.put, List.setIfInBounds_toArray, List.set_cons_zero, List.set_cons_succ]
  refine Till.tk 4 5 7 (.agg #[.int .i64 b, .pointer Q]) hH ?_
  try simp only [Act.put, List.setIfInBounds_toArray, List.set_cons_zero, List.set_cons_succ]
  clear hH
  refine Till.one (i := 2) (by kernel_rfl) rfl (fun K hK => ?_)
  go_simp
  refine (HA.out _ (Below.refl _ _).drew).mono ?_
  rintro e v1 ⟨xa, xP, rfl, hx, g1⟩
  have B1 := Lib.hid (below_on (Below.refl ws.heap.size ws).drew g1)
  have Hx1 := Lib.hid hx
  have Hy1 := Lib.hid (Hv.out.den.keep B1.out)
  clear g1 hx
  go_wp2_with fail
  refine hK.out _ _ (fun _ => HS.out _ B1.out) ?_
  clear hK K
  try simp only [Act.put, List.setIfInBounds_toArray, List.set_cons_zero, List.set_cons_succ]
  refine Till.one (i := 5) (by kernel_rfl) rfl (fun K hK => ?_)
  go_simp
  refine hK.out _ _ (fun _ => HS.out _ B1.out) ?_
  clear hK K
  try simp only [Act.put, List.setIfInBounds_toArray, List.set_cons_zero, List.set_cons_succ]
  have R := Lib.hid (R.out.keep B1.out)
  have k0 := R.out.c0
  have k1 := R.out.c1
  have k2 := R.out.c2
  have k3 := R.out.c3
  have f0 := R.out.fz 0
  have f1 := R.out.fz 1
  have f2 := R.out.fz 2
  have f3 := R.out.fz 3
  refine Till.one (i := 6) (by kernel_rfl) rfl (fun K hK => ?_)
  go_simp
  refine hK.out _ _ (fun h => absurd h (by simp)) ?_
  clear hK K
  try simp only [Act.put, List.setIfInBounds_toArray, List.set_cons_zero, List.set_cons_succ]
  refine Till.done (by kernel_rfl) ?_ _
  have Hn := Lib.hid (Hx1.out.wrote R.out (by rfl) (put4_heap v1 (w.heap.size + 1) (.int .i64 xa) (.pointer xP) (.int .i64 b) (.pointer Q)).1 (put4_heap _ _ _ _ _ _).2)
  have Hd := Lib.hid (Hy1.out.wrote R.out (by rfl) (put4_heap v1 (w.heap.size + 1) (.int .i64 xa) (.pointer xP) (.int .i64 b) (.pointer Q)).1 (put4_heap _ _ _ _ _ _).2)
  have Kf := Lib.hid (below_put4 (below_on Kk.out B1.out) (show w.heap.size ≤ w.heap.size + 1 by omega) (.int .i64 xa) (.pointer xP) (.int .i64 b) (.pointer Q))
  go_wp2
  exact bodyPost_ret (v := .agg #[.int .i64 xa, .pointer xP, .int .i64 b, .pointer Q]) (by simp [results, Tryz.results21, go_sem, k0, k1, k2, k3]) rfl ⟨xa, xP, b, Q, rfl, ⟨by rw [Rat.neg_num]; exact Hn.out, by rw [Rat.neg_den]; exact Hd.out⟩, Kf.out⟩
set_option maxHeartbeats 4000000 in
theorem floor_any (a : Int) (P : Option Addr) (b : Int) (Q : Option Addr) (q : Rat) (w : World) (h : RatV w a P b Q q) (hn : q.num.natAbs < base 390) (hd9 : ((q.den : Nat) : Int).natAbs < base 390) :
    Calls Tryz.prog 14 #[.agg #[.int .i64 a, .pointer P, .int .i64 b, .pointer Q]] w (NewInt (q.num / (q.den : Int)) w) := by
  have kk := ((Below.refl w.heap.size w).alloc (Nat.le_refl _) (.cells #[.int .i64 a, .pointer P, .int .i64 b, .pointer Q] 28)).alloc (by simp) (.cells #[.int .i64 0, .pointer none] 26)
  have V := Lib.hid ((box_rat w a P b Q).keep ((Below.refl _ _).alloc (Nat.le_refl _) (.cells #[.int .i64 0, .pointer none] 26)))
  have R := Lib.hid (Cells.new (w.alloc (.cells #[.int .i64 a, .pointer P, .int .i64 b, .pointer Q] 28)) #[.int .i64 0, .pointer none] 26)
  simp only [World.size_alloc] at R
  have Hv := Lib.hid (h.keep kk)
  have Hs := Lib.hid (signZ_any _ (denZ q.den) _ (h.den.keep kk))
  rw [sgn_denZ] at Hs
  have Kk := Lib.hid kk
  have Hn9 := Lib.hid hn
  have Hd9 := Lib.hid hd9
  have Hpos := Lib.hid q.den_pos
  clear h kk hn hd9
  by_cases hd : q.den = 1
  · rw [if_pos hd] at Hs
    have Hfin := Lib.hid (show q.num / (q.den : Int) = q.num by rw [hd]; exact Int.ediv_one _)
    rw [Hfin.out]
    clear hd
    go_enter Tryz.func14, Tryz.ntmps14
    go_wp2_with fail
    refine Hs.out.mono ?_
    rintro e w1 ⟨rfl, h1⟩
    have R := Lib.hid (R.out.keep h1)
    have V := Lib.hid (V.out.keep h1)
    have K1 := Lib.hid (below_put2 (below_on Kk.out h1) (show w.heap.size ≤ w.heap.size + 1 by omega) (.int .i64 a) (.pointer P))
    have Hn := Lib.hid ((Hv.out.keep h1).num.wrote R.out (by rfl) (put2_heap _ (w.heap.size + 1) (.int .i64 a) (.pointer P)).1 (put2_heap _ _ _ _).2)
    have c0 := V.out.c0
    have c1 := V.out.c1
    have k0 := R.out.c0
    have k1 := R.out.c1
    have f0 := R.out.fz 0
    have f1 := R.out.fz 1
    clear h1
    go_wp2
    exact bodyPost_ret (v := .agg #[.int .i64 a, .pointer P]) (by simp [results, Tryz.results14, go_sem, k0, k1]) rfl ⟨a, P, rfl, Hn.out, K1.out⟩
  · rw [if_neg hd] at Hs
    have Hd1 := Lib.hid hd
    clear hd
    go_enter Tryz.func14, Tryz.ntmps14
    go_wp2_with fail
    refine Hs.out.mono ?_
    rintro e w1 ⟨rfl, h1⟩
    have R := Lib.hid (R.out.keep h1)
    have V := Lib.hid (V.out.keep h1)
    have Hv := Lib.hid (Hv.out.keep h1)
    have K1 := Lib.hid (below_on Kk.out h1)
    have HQ := Lib.hid (quotient_any a P b Q q.num (q.den : Int) w1 Hv.out.num (by have := Hv.out.den; rwa [denZ_ne Hd1.out] at this) (by have := Hpos.out; omega) Hn9.out Hd9.out)
    have c0 := V.out.c0
    have c1 := V.out.c1
    have c2 := V.out.c2
    have c3 := V.out.c3
    clear h1
    go_wp2_with fail
    refine HQ.out.mono ?_
    rintro e w2 ⟨xa, xP, rfl, hx, h2⟩
    have R := Lib.hid (R.out.keep h2)
    have K2 := Lib.hid (below_put2 (below_on K1.out h2) (show w.heap.size ≤ w.heap.size + 1 by omega) (.int .i64 xa) (.pointer xP))
    have Hn := Lib.hid (hx.wrote R.out (by rfl) (put2_heap _ (w.heap.size + 1) (.int .i64 xa) (.pointer xP)).1 (put2_heap _ _ _ _).2)
    clear c0 c1 c2 c3 hx h2
    have k0 := R.out.c0
    have k1 := R.out.c1
    have f0 := R.out.fz 0
    have f1 := R.out.fz 1
    go_wp2
    exact bodyPost_ret (v := .agg #[.int .i64 xa, .pointer xP]) (by simp [results, Tryz.results14, go_sem, k0, k1]) rfl ⟨xa, xP, rfl, Hn.out, K2.out⟩
set_option maxHeartbeats 4000000 in
theorem ceil_any (a : Int) (P : Option Addr) (b : Int) (Q : Option Addr) (q : Rat) (w : World) (h : RatV w a P b Q q) (hn : q.num.natAbs < base 390) (hd9 : ((q.den : Nat) : Int).natAbs < base 390) :
    Calls Tryz.prog 16 #[.agg #[.int .i64 a, .pointer P, .int .i64 b, .pointer Q]] w (NewInt (-(-q.num / (q.den : Int))) w) := by
  have kk := ((Below.refl w.heap.size w).alloc (Nat.le_refl _) (.cells #[.int .i64 a, .pointer P, .int .i64 b, .pointer Q] 28)).alloc (by simp) (.cells #[.int .i64 0, .pointer none] 26)
  have R := Lib.hid (Cells.new (w.alloc (.cells #[.int .i64 a, .pointer P, .int .i64 b, .pointer Q] 28)) #[.int .i64 0, .pointer none] 26)
  simp only [World.size_alloc] at R
  have HA := Lib.hid (rneg_any a P b Q q _ (h.keep kk))
  have HF := Lib.hid (fun v x X y Y (hv : RatV v x X y Y (-q)) => floor_any x X y Y (-q) v hv (by rw [Rat.neg_num, Int.natAbs_neg]; exact hn) (by rw [Rat.neg_den]; exact hd9))
  rw [Rat.neg_num, Rat.neg_den] at HF
  have Kk := Lib.hid kk
  clear h kk hn hd9
  go_enter Tryz.func16, Tryz.ntmps16
  go_wp2_with fail
  refine HA.out.mono ?_
  rintro e w1 ⟨xa, xP, ya, yP, rfl, hv, h1⟩
  have R := Lib.hid (R.out.keep h1)
  have K1 := Lib.hid (below_on Kk.out h1)
  have HF := Lib.hid (HF.out w1 xa xP ya yP hv)
  clear h1 hv
  go_wp2_with fail
  refine HF.out.mono ?_
  rintro e w2 ⟨za, zP, rfl, hz, h2⟩
  have R := Lib.hid (R.out.keep h2)
  have K2 := Lib.hid (below_on K1.out h2)
  have HN := Lib.hid (neg_any za zP _ w2 hz)
  clear h2 hz
  go_wp2_with fail
  refine HN.out.mono ?_
  rintro e w3 ⟨ua, uP, rfl, hu, h3⟩
  have R := Lib.hid (R.out.keep h3)
  have K3 := Lib.hid (below_put2 (below_on K2.out h3) (show w.heap.size ≤ w.heap.size + 1 by omega) (.int .i64 ua) (.pointer uP))
  have Hn := Lib.hid (hu.wrote R.out (by rfl) (put2_heap _ (w.heap.size + 1) (.int .i64 ua) (.pointer uP)).1 (put2_heap _ _ _ _).2)
  clear hu h3
  have k0 := R.out.c0
  have k1 := R.out.c1
  have f0 := R.out.fz 0
  have f1 := R.out.fz 1
  go_wp2
  exact bodyPost_ret (v := .agg #[.int .i64 ua, .pointer uP]) (by simp [results, Tryz.results16, go_sem, k0, k1]) rfl ⟨ua, uP, rfl, Hn.out, K3.out⟩
theorem ret_three {a b c d : Int} {x y : Bool} (h1 : a = c) (h2 : b = d) (h3 : x = y) : Ending.returned (.tuple #[.int .i64 a, .int .i64 b, .bool x]) = .returned (.tuple #[.int .i64 c, .int .i64 d, .bool y]) := by rw [h1, h2, h3]
/-- What ints returns. -/
def IntsPost (q : Rat) (w : World) (e : Ending) (w' : World) : Prop :=
  ∃ (n d : Int) (b : Bool), e = .returned (.tuple #[.int .i64 n, .int .i64 d, .bool b]) ∧ (b = true → n = q.num ∧ d = (q.den : Int)) ∧ (I64 q.num → I64 (q.den : Int) → b = true) ∧ I64 n ∧ I64 d ∧ Below w.heap.size w w'
theorem denZ_64 (q : Rat) : I64 (denZ q.den) ↔ I64 (q.den : Int) := by
  have := q.den_pos
  unfold denZ I64
  split <;> omega
set_option maxHeartbeats 8000000 in
theorem ints_any (a : Int) (P : Option Addr) (b : Int) (Q : Option Addr) (q : Rat) (w : World) (h : RatV w a P b Q q) :
    Calls Tryz.prog 40 #[.agg #[.int .i64 a, .pointer P, .int .i64 b, .pointer Q]] w (IntsPost q w) := by
  have kk := (Below.refl w.heap.size w).alloc (Nat.le_refl _) (.cells #[.int .i64 a, .pointer P, .int .i64 b, .pointer Q] 28)
  have V := Lib.hid (box_rat w a P b Q)
  have HA := Lib.hid (intZ_any a P q.num _ (h.keep kk).num)
  have HB := Lib.hid (fun w' (hb : Below w.heap.size w w') => intZ_any b Q (denZ q.den) w' (h.keep hb).den)
  have Kk := Lib.hid kk
  have Hp := Lib.hid q.den_pos
  have z64 := Lib.hid (denZ_64 q)
  have c2 := V.out.c2
  have c3 := V.out.c3
  clear h kk
  go_enter Tryz.func40, Tryz.ntmps40
  go_wp2_with fail
  refine HA.out.mono ?_
  rintro e w1 ⟨⟨n, b1, rfl, h1, h2⟩, h3⟩
  have V := Lib.hid (V.out.keep h3)
  have K1 := Lib.hid (below_on Kk.out h3)
  have hn64 : I64 n := by
    rcases Classical.em (I64 q.num) with h | h
    · rw [(h1 h).1]; exact h
    · rw [(h2 h).1]; exact ⟨by decide, by decide⟩
  have Hn := Lib.hid (show (b1 = true → n = q.num) ∧ (I64 q.num → b1 = true) by
    rcases Classical.em (I64 q.num) with h | h
    · exact ⟨fun _ => (h1 h).1, fun _ => (h1 h).2⟩
    · exact ⟨fun e => (by rw [(h2 h).2] at e; cases e), fun h' => absurd h' h⟩)
  have Hn64 := Lib.hid hn64
  clear h1 h2 h3 hn64 c2 c3
  have c2 := V.out.c2
  have c3 := V.out.c3
  go_wp2_with fail
  refine (HB.out _ K1.out).mono ?_
  rintro e w2 ⟨⟨d, b2, rfl, h1, h2⟩, h3⟩
  have K2 := Lib.hid (below_on K1.out h3)
  have hways : (d = 0 ∧ I64 (1 : Int) ∧ (b2 = true → (1 : Int) = (q.den : Int)) ∧ (I64 (q.den : Int) → b2 = true)) ∨ (d ≠ 0 ∧ I64 d ∧ (b2 = true → d = (q.den : Int)) ∧ (I64 (q.den : Int) → b2 = true)) := by
    have hp := Hp.out
    rcases Classical.em (I64 (denZ q.den)) with h | h
    · obtain ⟨e1, e2⟩ := h1 h
      by_cases hd : q.den = 1
      · rw [hd] at e1
        exact .inl ⟨e1, ⟨by decide, by decide⟩, fun _ => by rw [hd]; rfl, fun _ => e2⟩
      · rw [denZ_ne hd] at e1 h
        exact .inr ⟨by omega, by rw [e1]; exact h, fun _ => e1, fun _ => e2⟩
    · obtain ⟨e1, e2⟩ := h2 h
      exact .inl ⟨e1, ⟨by decide, by decide⟩, fun e => (by rw [e2] at e; cases e), fun h' => absurd (z64.out.2 h') h⟩
  clear h1 h2 h3 c2 c3
  rcases hways with ⟨rfl, hd64, hd1, hd2⟩ | ⟨hd0, hd64, hd1, hd2⟩
  · have Hd := Lib.hid (And.intro hd1 (And.intro hd2 hd64))
    clear hd1 hd2 hd64
    cases b1 with
    | false =>
      go_wp2
      go_ret3
      exact ⟨n, 1, false, rfl, fun e => (by cases e), fun x _ => Hn.out.2 x, Hn64.out, Hd.out.2.2, K2.out⟩
    | true =>
      go_wp2
      go_ret3
      exact ⟨n, 1, b2, rfl, fun e => ⟨Hn.out.1 (by first | rfl | trivial), Hd.out.1 e⟩, fun _ y => Hd.out.2.1 y, Hn64.out, Hd.out.2.2, K2.out⟩
  · have t0 : (d == 0) = false := by rw [beq_eq_false_iff_ne]; exact hd0
    have Hd := Lib.hid (And.intro hd1 (And.intro hd2 hd64))
    clear hd1 hd2 hd64 hd0
    cases b1 with
    | false =>
      go_wp2
      go_ret3
      exact ⟨n, d, false, rfl, fun e => (by cases e), fun x _ => Hn.out.2 x, Hn64.out, Hd.out.2.2, K2.out⟩
    | true =>
      go_wp2
      go_ret3
      exact ⟨n, d, b2, rfl, fun e => ⟨Hn.out.1 (by first | rfl | trivial), Hd.out.1 e⟩, fun _ y => Hd.out.2.1 y, Hn64.out, Hd.out.2.2, K2.out⟩
/-- The range of short numbers. -/
def shortB (n d : Int) : Bool := decide (-2147483648 < n) && decide (n < 2147483648) && decide (d < 2147483648)
theorem shortB_true {n d : Int} (h : shortB n d = true) : -2147483648 < n ∧ n < 2147483648 ∧ d < 2147483648 := by
  unfold shortB at h
  simp only [Bool.and_eq_true, decide_eq_true_eq] at h
  omega
set_option maxHeartbeats 1000000 in
theorem isShort_any (n d : Int) (w : World) : Calls Tryz.prog 41 #[.int .i64 n, .int .i64 d] w fun e w' => e = .returned (.bool (shortB n d)) ∧ w = w' := by
  obtain ⟨t, ht⟩ : ∃ t, shortB n d = t := ⟨_, rfl⟩
  rw [ht]
  have Ht := Lib.hid ht
  clear ht
  by_cases h1 : -2147483648 < n
  · by_cases h2 : n < 2147483648
    · by_cases h3 : d < 2147483648
      · obtain rfl : t = true := by rw [← Ht.out]; unfold shortB; rw [decide_eq_true h1, decide_eq_true h2, decide_eq_true h3]; rfl
        go_enter Tryz.func41, Tryz.ntmps41
        go_wp2
        go_ret
        exact ⟨rfl, rfl⟩
      · obtain rfl : t = false := by rw [← Ht.out]; unfold shortB; rw [decide_eq_false h3, Bool.and_false]
        go_enter Tryz.func41, Tryz.ntmps41
        go_wp2
        go_ret
        exact ⟨rfl, rfl⟩
    · obtain rfl : t = false := by rw [← Ht.out]; unfold shortB; rw [decide_eq_false h2, Bool.and_false, Bool.false_and]
      go_enter Tryz.func41, Tryz.ntmps41
      go_wp2
      go_ret
      exact ⟨rfl, rfl⟩
  · obtain rfl : t = false := by rw [← Ht.out]; unfold shortB; rw [decide_eq_false h1, Bool.false_and, Bool.false_and]
    go_enter Tryz.func41, Tryz.ntmps41
    go_wp2
    go_ret
    exact ⟨rfl, rfl⟩
def GcdIInv (g : Nat) (va vb : Value) : Prop := ∃ x y : Nat, va = .int .i64 (x : Nat) ∧ vb = .int .i64 (y : Nat) ∧ x ≤ 9223372036854775807 ∧ y ≤ 9223372036854775807 ∧ Nat.gcd x y = g
set_option maxHeartbeats 4000000 in
theorem gcdI_any (a : Int) (k : Nat) (w : World) (ha : a.natAbs ≤ 9223372036854775807) (hk : k ≤ 9223372036854775807) :
    Calls Tryz.prog 74 #[.int .i64 a, .int .i64 (k : Nat)] w fun e w' => e = .returned (.int .i64 (Nat.gcd a.natAbs k : Nat)) ∧ w = w' := by
  obtain ⟨g, hg⟩ : ∃ g, Nat.gcd a.natAbs k = g := ⟨_, rfl⟩
  rw [hg]
  obtain ⟨m, hm⟩ : ∃ m, a.natAbs = m := ⟨_, rfl⟩
  rw [hm] at hg ha
  have Hst := Lib.hid (show GcdIInv g (.int .i64 (m : Nat)) (.int .i64 (k : Nat)) from ⟨m, k, rfl, rfl, ha, hk, hg⟩)
  have hcase : a = (m : Int) ∨ (a < 0 ∧ a = -(m : Int)) := by omega
  have hm1 : (m : Int) ≤ 9223372036854775807 := by omega
  clear hg hm
  rcases hcase with rfl | ⟨hneg, rfl⟩
  · go_enter Tryz.func74, Tryz.ntmps74
    go_wp2
    go_loop [0, 1] (fun va vb => GcdIInv g va vb) (fun va _ => (intOf va).toNat)
    case atStart => first | exact Hst.out | (have h := Hst.out; simpa using h)
    case round =>
      obtain ⟨x, y, rfl, rfl, hx, hy, hg⟩ := hrel
      by_cases h0 : x = 0
      · subst h0
        have Hfin := Lib.hid (show y = g by rw [← hg, Nat.gcd_zero_left])
        clear hg
        go_wp2
        go_ret
        exact ⟨by rw [Hfin.out]; rfl, rfl⟩
      · have hxp : 0 < x := by omega
        have Hg := Lib.hid (show Nat.gcd (y % x) x = g by rw [← hg, ← Nat.gcd_rec])
        have hl := Nat.mod_lt y hxp
        obtain ⟨r, hr⟩ : ∃ r, y % x = r := ⟨_, rfl⟩
        rw [hr] at Hg hl
        have Hl := Lib.hid hl
        have t0 : ((x : Int) == 0) = false := by rw [beq_eq_false_iff_ne]; omega
        have e1 : (y : Int) % (x : Int) = (r : Int) := by rw [← hr]; simp
        have e2 : Int.tmod (y : Int) (x : Int) = (r : Int) := by rw [← hr]; rfl
        have Hnew := Lib.hid (show GcdIInv g (.int .i64 (r : Nat)) (.int .i64 (x : Nat)) from ⟨r, x, rfl, rfl, by omega, hx, Hg.out⟩)
        clear hg hr hl h0
        go_wp2
        go_round
        case rel => exact Hnew.out
        case measure => simp [intOf]; exact Hl.out
  · go_enter Tryz.func74, Tryz.ntmps74
    go_wp2
    go_loop [0, 1] (fun va vb => GcdIInv g va vb) (fun va _ => (intOf va).toNat)
    case atStart => first | exact Hst.out | (have h := Hst.out; simpa using h)
    case round =>
      obtain ⟨x, y, rfl, rfl, hx, hy, hg⟩ := hrel
      by_cases h0 : x = 0
      · subst h0
        have Hfin := Lib.hid (show y = g by rw [← hg, Nat.gcd_zero_left])
        clear hg
        go_wp2
        go_ret
        exact ⟨by rw [Hfin.out]; rfl, rfl⟩
      · have hxp : 0 < x := by omega
        have Hg := Lib.hid (show Nat.gcd (y % x) x = g by rw [← hg, ← Nat.gcd_rec])
        have hl := Nat.mod_lt y hxp
        obtain ⟨r, hr⟩ : ∃ r, y % x = r := ⟨_, rfl⟩
        rw [hr] at Hg hl
        have Hl := Lib.hid hl
        have t0 : ((x : Int) == 0) = false := by rw [beq_eq_false_iff_ne]; omega
        have e1 : (y : Int) % (x : Int) = (r : Int) := by rw [← hr]; simp
        have e2 : Int.tmod (y : Int) (x : Int) = (r : Int) := by rw [← hr]; rfl
        have Hnew := Lib.hid (show GcdIInv g (.int .i64 (r : Nat)) (.int .i64 (x : Nat)) from ⟨r, x, rfl, rfl, by omega, hx, Hg.out⟩)
        clear hg hr hl h0
        go_wp2
        go_round
        case rel => exact Hnew.out
        case measure => simp [intOf]; exact Hl.out
theorem rat_int (n : Int) : ((n : Int) : Rat).num = n ∧ ((n : Int) : Rat).den = 1 := ⟨Rat.num_intCast n, Rat.den_intCast n⟩
set_option maxHeartbeats 4000000 in
theorem rfrom_any (n : Int) (w : World) (hn : I64 n) : Calls Tryz.prog 73 #[.int .i64 n] w (NewRat ((n : Int) : Rat) w) := by
  have R := Lib.hid (Cells.new w #[.int .i64 0, .pointer none, .int .i64 0, .pointer none] 28)
  have Kk := Lib.hid ((Below.refl w.heap.size w).alloc (Nat.le_refl _) (.cells #[.int .i64 0, .pointer none, .int .i64 0, .pointer none] 28))
  have Hn := Lib.hid hn
  clear hn
  go_enter Tryz.func73, Tryz.ntmps73
  go_wp2_with fail
  refine (from_any _ _).mono ?_
  rintro e w1 ⟨rfl, h1⟩
  have R := Lib.hid (R.out.keep h1)
  have K1 := Lib.hid (below_put4 (below_on Kk.out h1) (Nat.le_refl w.heap.size) (.int .i64 n) (.pointer none) (.int .i64 0) (.pointer none))
  clear h1
  have k0 := R.out.c0
  have k1 := R.out.c1
  have k2 := R.out.c2
  have k3 := R.out.c3
  have f0 := R.out.fz 0
  have f1 := R.out.fz 1
  have f2 := R.out.fz 2
  have f3 := R.out.fz 3
  go_wp2
  exact bodyPost_ret (v := .agg #[.int .i64 n, .pointer none, .int .i64 0, .pointer none]) (by simp [results, Tryz.results73, go_sem, k0, k1, k2, k3]) rfl ⟨n, none, 0, none, rfl, ⟨by rw [(rat_int n).1]; exact small_int Hn.out, by rw [(rat_int n).2, denZ_one]; exact small_int ⟨by decide, by decide⟩⟩, K1.out⟩
theorem tdiv_exact {n : Int} {g : Nat} (hg : 0 < g) (h : g ∣ n.natAbs) : Int.tdiv n g = n / g := by
  obtain ⟨c, hc⟩ := nat_dvd_int h
  have h0 : (g : Int) ≠ 0 := by omega
  rw [hc, Int.mul_tdiv_cancel_left _ h0, Int.mul_ediv_cancel_left _ h0]
theorem div_64 {n : Int} {g : Nat} (_hg : 0 < g) (h : n.natAbs ≤ 9223372036854775807) : (n / g).natAbs ≤ 9223372036854775807 := by
  have h1 := Int.natAbs_ediv_le_natAbs n g
  omega
theorem divInt_self_one (n : Int) : Rat.divInt n ((1 : Nat) : Int) = (n : Rat) := by
  obtain ⟨h1, h2⟩ := rat_make (n := n) (k := 1) (by decide)
  rw [Nat.gcd_one_right] at h1 h2
  exact Rat.ext (by rw [h1, Rat.num_intCast]; exact Int.ediv_one n) (by rw [h2, Rat.den_intCast])
theorem divInt_whole {n : Int} {k : Nat} (hk : 0 < k) (h : Nat.gcd n.natAbs k = k) : Rat.divInt n k = ((n / k : Int) : Rat) := by
  obtain ⟨h1, h2⟩ := rat_make (n := n) (k := k) hk
  rw [h] at h1 h2
  exact Rat.ext (by rw [h1, Rat.num_intCast]) (by rw [h2, Rat.den_intCast, Nat.div_self hk])
set_option maxHeartbeats 8000000 in
theorem ofInts_any (n : Int) (k : Nat) (w : World) (hn : n.natAbs ≤ 9223372036854775807) (hk : 0 < k) (hk2 : k ≤ 9223372036854775807) :
    Calls Tryz.prog 42 #[.int .i64 n, .int .i64 (k : Nat)] w (NewRat (Rat.divInt n k) w) := by
  have R := Lib.hid (Cells.new w #[.int .i64 0, .pointer none, .int .i64 0, .pointer none] 28)
  have kk := (Below.refl w.heap.size w).alloc (Nat.le_refl _) (.cells #[.int .i64 0, .pointer none, .int .i64 0, .pointer none] 28)
  have Kk := Lib.hid kk
  have n1 : -9223372036854775807 ≤ n := by omega
  have n2 : n ≤ 9223372036854775807 := by omega
  have m2 : (k : Int) ≤ 9223372036854775807 := by omega
  clear kk
  by_cases hk1 : k = 1
  · subst hk1
    rw [divInt_self_one]
    have HF := Lib.hid (fun w' => rfrom_any n w' ⟨by omega, n2⟩)
    clear hn hk hk2
    go_enter Tryz.func42, Tryz.ntmps42
    go_wp2_with fail
    refine (HF.out _).mono ?_
    rintro e w1 ⟨a, P, b, Q, rfl, hv, h1⟩
    have R := Lib.hid (R.out.keep h1)
    have Hv := Lib.hid (hv.wrote R.out (by rfl) (put4_heap w1 w.heap.size (.int .i64 a) (.pointer P) (.int .i64 b) (.pointer Q)).1 (put4_heap _ _ _ _ _ _).2)
    have K1 := Lib.hid (below_put4 (below_on Kk.out h1) (Nat.le_refl w.heap.size) (.int .i64 a) (.pointer P) (.int .i64 b) (.pointer Q))
    clear h1 hv
    have k0 := R.out.c0
    have k1 := R.out.c1
    have k2 := R.out.c2
    have k3 := R.out.c3
    have f0 := R.out.fz 0
    have f1 := R.out.fz 1
    have f2 := R.out.fz 2
    have f3 := R.out.fz 3
    go_wp2
    exact bodyPost_ret (v := .agg #[.int .i64 a, .pointer P, .int .i64 b, .pointer Q]) (by simp [results, Tryz.results42, go_sem, k0, k1, k2, k3]) rfl ⟨a, P, b, Q, rfl, Hv.out, K1.out⟩
  · have t1 : ((k : Int) == 1) = false := by rw [beq_eq_false_iff_ne]; omega
    have HG := Lib.hid (fun w' => gcdI_any n k w' hn hk2)
    obtain ⟨g, hg⟩ : ∃ g, Nat.gcd n.natAbs k = g := ⟨_, rfl⟩
    rw [hg] at HG
    have hgp : 0 < g := by rw [← hg]; exact Nat.gcd_pos_of_pos_right _ hk
    have hgk : g ≤ k := by rw [← hg]; exact Nat.gcd_le_right _ hk
    have hd1 : g ∣ n.natAbs := hg ▸ Nat.gcd_dvd_left _ _
    have hd2 : g ∣ ((k : Nat) : Int).natAbs := by rw [Int.natAbs_natCast]; exact hg ▸ Nat.gcd_dvd_right _ _
    have t2 : ((g : Int) == 0) = false := by rw [beq_eq_false_iff_ne]; omega
    by_cases hgk2 : g = k
    · subst hgk2
      rw [divInt_whole hk hg]
      obtain ⟨x, hx⟩ : ∃ x, n / (g : Int) = x := ⟨_, rfl⟩
      have e1 : Int.tdiv n (g : Int) = x := by rw [tdiv_exact hgp hd1, hx]
      have hx64 := div_64 hgp hn
      rw [hx] at hx64 ⊢
      have x1 : -9223372036854775807 ≤ x := by omega
      have x2 : x ≤ 9223372036854775807 := by omega
      have HF := Lib.hid (fun w' => rfrom_any x w' ⟨by omega, x2⟩)
      clear hn hk hk2 hk1 hg hd1 hd2 hx hx64 hgk
      go_enter Tryz.func42, Tryz.ntmps42
      go_wp2_with fail
      refine (HG.out _).mono ?_
      rintro e w0 ⟨rfl, rfl⟩
      go_wp2_with fail
      refine (HF.out _).mono ?_
      rintro e w1 ⟨a, P, b, Q, rfl, hv, h1⟩
      have R := Lib.hid (R.out.keep h1)
      have Hv := Lib.hid (hv.wrote R.out (by rfl) (put4_heap w1 w.heap.size (.int .i64 a) (.pointer P) (.int .i64 b) (.pointer Q)).1 (put4_heap _ _ _ _ _ _).2)
      have K1 := Lib.hid (below_put4 (below_on Kk.out h1) (Nat.le_refl w.heap.size) (.int .i64 a) (.pointer P) (.int .i64 b) (.pointer Q))
      clear h1 hv
      have k0 := R.out.c0
      have k1 := R.out.c1
      have k2 := R.out.c2
      have k3 := R.out.c3
      have f0 := R.out.fz 0
      have f1 := R.out.fz 1
      have f2 := R.out.fz 2
      have f3 := R.out.fz 3
      go_wp2
      exact bodyPost_ret (v := .agg #[.int .i64 a, .pointer P, .int .i64 b, .pointer Q]) (by simp [results, Tryz.results42, go_sem, k0, k1, k2, k3]) rfl ⟨a, P, b, Q, rfl, Hv.out, K1.out⟩
    · obtain ⟨q, hq⟩ : ∃ q, Rat.divInt n k = q := ⟨_, rfl⟩
      obtain ⟨h1, h2⟩ := rat_make (n := n) hk
      rw [hg, hq] at h1 h2
      rw [hq]
      obtain ⟨x, hx⟩ : ∃ x, n / (g : Int) = x := ⟨_, rfl⟩
      obtain ⟨y, hy⟩ : ∃ y, k / g = y := ⟨_, rfl⟩
      rw [hx] at h1
      rw [hy] at h2
      have e1 : Int.tdiv n (g : Int) = x := by rw [tdiv_exact hgp hd1, hx]
      have e2 : Int.tdiv (k : Int) (g : Int) = (y : Int) := by rw [tdiv_exact hgp hd2, ← hy]; simp
      have e2' : (k : Int) / (g : Int) = (y : Int) := by rw [← hy]; simp
      have hx64 := div_64 hgp hn
      rw [hx] at hx64
      have hy1 : y ≠ 1 := by
        intro h
        have h3 := Nat.div_mul_cancel (hg ▸ Nat.gcd_dvd_right n.natAbs k : g ∣ k)
        rw [hy, h] at h3
        omega
      have hyk : y ≤ k := by rw [← hy]; exact Nat.div_le_self _ _
      have x1 : -9223372036854775807 ≤ x := by omega
      have x2 : x ≤ 9223372036854775807 := by omega
      have y2 : (y : Int) ≤ 9223372036854775807 := by omega
      have t3 : ((g : Int) == (k : Int)) = false := by rw [beq_eq_false_iff_ne]; omega
      have w1' : IntKind.i64.wrap x = x := IntWalk.i64_in _ (by omega)
      have w2' : IntKind.i64.wrap (y : Int) = (y : Int) := IntWalk.i64_in _ (by omega)
      have Hq1 := Lib.hid h1
      have Hq2 := Lib.hid (show denZ q.den = (y : Int) by rw [h2, denZ_ne hy1])
      have Kf := Lib.hid (fun v (hb : Below w.heap.size w v) => hb)
      clear hn hk hk2 hk1 hg hd1 hd2 hx hy hx64 hgk h1 h2 hq hgk2 hy1 hyk
      go_enter Tryz.func42, Tryz.ntmps42
      go_wp2_with fail
      refine (HG.out _).mono ?_
      rintro e w0 ⟨rfl, rfl⟩
      obtain ⟨ws, hws⟩ : ∃ ws, w.alloc (.cells #[.int .i64 0, .pointer none, .int .i64 0, .pointer none] 28) = ws := ⟨_, rfl⟩
      rw [hws] at R Kk
      go_wp2_with fail
      try simp only [hws]
      clear hws
      refine Till.begin 9 (fun _ => True) (by kernel_rfl) trivial (fun hH => ?_)
      refine Till.take (i := 0) (m := 2) (d := some 20) (u := .int .i64 n) rfl rfl (by kernel_rfl) (by kernel_rfl) (by kernel_rfl) (by kernel_rfl) (by kernel_rfl) (by kernel_rfl) (by kernel_rfl) (fun _ _ _ h => h) (by kernel_rfl) (by (intro w hSw; (try dsimp only at hSw); go_split_ands; go_simp; try omega)) trivial ?_
      try simp only [Act.put, List.setIfInBounds_toArray, List.set_cons_zero, List.set_cons_succ]
      refine Till.take (i := 1) (m := 2) (d := some 21) (u := .int .i64 (g : Int)) rfl rfl (by kernel_rfl) (by kernel_rfl) (by kernel_rfl) (by kernel_rfl) (by kernel_rfl) (by kernel_rfl) (by kernel_rfl) (fun _ _ _ h => h) (by kernel_rfl) (by (intro w hSw; (try dsimp only at hSw); go_split_ands; go_simp; try omega)) trivial ?_
      try simp only [Act.put, List.setIfInBounds_toArray, List.set_cons_zero, List.set_cons_succ]
      refine Till.take (i := 2) (m := 3) (d := some 22) (u := .int .i64 x) rfl rfl (by kernel_rfl) (by kernel_rfl) (by kernel_rfl) (by kernel_rfl) (by kernel_rfl) (by kernel_rfl) (by kernel_rfl) (fun _ _ _ h => h) (by kernel_rfl) (by (intro w hSw; (try dsimp only at hSw); go_split_ands; go_simp; try omega)) trivial ?_
      try simp only [Act.put, List.setIfInBounds_toArray, List.set_cons_zero, List.set_cons_succ]
      refine Till.take (i := 4) (m := 6) (d := some 24) (u := .int .i64 (k : Int)) rfl rfl (by kernel_rfl) (by kernel_rfl) (by kernel_rfl) (by kernel_rfl) (by kernel_rfl) (by kernel_rfl) (by kernel_rfl) (fun _ _ _ h => h) (by kernel_rfl) (by (intro w hSw; (try dsimp only at hSw); go_split_ands; go_simp; try omega)) trivial ?_
      try simp only [Act.put, List.setIfInBounds_toArray, List.set_cons_zero, List.set_cons_succ]
      refine Till.take (i := 5) (m := 6) (d := some 25) (u := .int .i64 (g : Int)) rfl rfl (by kernel_rfl) (by kernel_rfl) (by kernel_rfl) (by kernel_rfl) (by kernel_rfl) (by kernel_rfl) (by kernel_rfl) (fun _ _ _ h => h) (by kernel_rfl) (by (intro w hSw; (try dsimp only at hSw); go_split_ands; go_simp; try omega)) trivial ?_
      try simp only [Act.put, List.setIfInBounds_toArray, List.set_cons_zero, List.set_cons_succ]
      refine Till.take (i := 6) (m := 7) (d := some 26) (u := .int .i64 (y : Int)) rfl rfl (by kernel_rfl) (by kernel_rfl) (by kernel_rfl) (by kernel_rfl) (by kernel_rfl) (by kernel_rfl) (by kernel_rfl) (fun _ _ _ h => h) (by kernel_rfl) (by (intro w hSw; (try dsimp only at hSw); go_split_ands; go_simp; try omega)) trivial ?_
      try simp only [Act.put, List.setIfInBounds_toArray, List.set_cons_zero, List.set_cons_succ]
      clear hH
      refine Till.one (i := 3) (by kernel_rfl) rfl (fun K hK => ?_)
      go_simp
      refine (from_any _ _).mono ?_
      rintro e v1 ⟨rfl, g1⟩
      have B1 := Lib.hid (below_on (Below.refl ws.heap.size ws).drew g1)
      clear g1
      go_wp2_with fail
      refine hK.out _ _ (fun _ => trivial) ?_
      clear hK K
      try simp only [Act.put, List.setIfInBounds_toArray, List.set_cons_zero, List.set_cons_succ]
      refine Till.one (i := 7) (by kernel_rfl) rfl (fun K hK => ?_)
      go_simp
      refine (from_any _ _).mono ?_
      rintro e v2 ⟨rfl, g2⟩
      have B2 := Lib.hid (below_on B1.out g2)
      clear g2
      go_wp2_with fail
      refine hK.out _ _ (fun _ => trivial) ?_
      clear hK K
      try simp only [Act.put, List.setIfInBounds_toArray, List.set_cons_zero, List.set_cons_succ]
      refine Till.one (i := 8) (by kernel_rfl) rfl (fun K hK => ?_)
      go_simp
      refine hK.out _ _ (fun _ => trivial) ?_
      clear hK K
      try simp only [Act.put, List.setIfInBounds_toArray, List.set_cons_zero, List.set_cons_succ]
      have R := Lib.hid (R.out.keep B2.out)
      have k0 := R.out.c0
      have k1 := R.out.c1
      have k2 := R.out.c2
      have k3 := R.out.c3
      have f0 := R.out.fz 0
      have f1 := R.out.fz 1
      have f2 := R.out.fz 2
      have f3 := R.out.fz 3
      refine Till.one (i := 9) (by kernel_rfl) rfl (fun K hK => ?_)
      go_simp
      refine hK.out _ _ (fun h => absurd h (by simp)) ?_
      clear hK K
      try simp only [Act.put, List.setIfInBounds_toArray, List.set_cons_zero, List.set_cons_succ]
      refine Till.done (by kernel_rfl) ?_ _
      have Kf := Lib.hid (below_put4 (below_on Kk.out B2.out) (Nat.le_refl w.heap.size) (.int .i64 x) (.pointer none) (.int .i64 (y : Int)) (.pointer none))
      go_wp2
      exact bodyPost_ret (v := .agg #[.int .i64 x, .pointer none, .int .i64 (y : Int), .pointer none]) (by simp [results, Tryz.results42, go_sem, k0, k1, k2, k3]) rfl ⟨x, none, y, none, rfl, ⟨by rw [Hq1.out]; exact small_int ⟨by omega, x2⟩, by rw [Hq2.out]; exact small_int ⟨by omega, y2⟩⟩, Kf.out⟩
theorem rat_sum (p q : Rat) : p + q = Rat.divInt (p.num * q.den + q.num * p.den) ((p.den * q.den : Nat) : Int) := by
  have hp := p.den_pos
  have hq := q.den_pos
  have e0 := Rat.divInt_add_divInt p.num q.num (d₁ := p.den) (d₂ := q.den) (by omega) (by omega)
  rw [rat_self, rat_self] at e0
  rw [e0, Int.natCast_mul]
theorem rat_sum_same (p q : Rat) (h : p.den = q.den) : p + q = Rat.divInt (p.num + q.num) (p.den : Int) := by
  have hp := p.den_pos
  have hq := q.den_pos
  rw [rat_sum, ← h, Rat.divInt_eq_divInt_iff (Int.ofNat_ne_zero.2 (Nat.ne_of_gt (Nat.mul_pos hp hp))) (by omega)]
  push_cast
  simp only [Int.add_mul, Int.mul_assoc]
theorem short_mul {x y : Int} (hx1 : -2147483648 < x) (hx2 : x < 2147483648) (hy0 : 0 ≤ y) (hy : y < 2147483648) : -4611686014132420609 ≤ x * y ∧ x * y ≤ 4611686014132420609 := by
  have h1 : x * y ≤ 2147483647 * y := Int.mul_le_mul_of_nonneg_right (by omega) hy0
  have h2 : -2147483647 * y ≤ x * y := Int.mul_le_mul_of_nonneg_right (by omega) hy0
  omega
set_option maxHeartbeats 8000000 in
theorem add_short (a : Int) (P : Option Addr) (b : Int) (Q : Option Addr) (c : Int) (U : Option Addr) (d : Int) (V : Option Addr) (p q : Rat) (w : World) (h : RatV w a P b Q p) (h' : RatV w c U d V q) (hp : shortB p.num p.den = true) (hq : shortB q.num q.den = true) :
    Calls Tryz.prog 17 #[.agg #[.int .i64 a, .pointer P, .int .i64 b, .pointer Q], .agg #[.int .i64 c, .pointer U, .int .i64 d, .pointer V]] w (NewRat (p + q) w) := by
  have kk := (((Below.refl w.heap.size w).alloc (Nat.le_refl _) (.cells #[.int .i64 a, .pointer P, .int .i64 b, .pointer Q] 28)).alloc (by simp) (.cells #[.int .i64 c, .pointer U, .int .i64 d, .pointer V] 28)).alloc (by simp; omega) (.cells #[.int .i64 0, .pointer none, .int .i64 0, .pointer none] 28)
  have V0 := Lib.hid (((box_rat w a P b Q).keep ((Below.refl _ _).alloc (Nat.le_refl _) (.cells #[.int .i64 c, .pointer U, .int .i64 d, .pointer V] 28))).keep ((Below.refl _ _).alloc (Nat.le_refl _) (.cells #[.int .i64 0, .pointer none, .int .i64 0, .pointer none] 28)))
  have V1 := Lib.hid ((box_rat (w.alloc (.cells #[.int .i64 a, .pointer P, .int .i64 b, .pointer Q] 28)) c U d V).keep ((Below.refl _ _).alloc (Nat.le_refl _) (.cells #[.int .i64 0, .pointer none, .int .i64 0, .pointer none] 28)))
  have R := Lib.hid (Cells.new ((w.alloc (.cells #[.int .i64 a, .pointer P, .int .i64 b, .pointer Q] 28)).alloc (.cells #[.int .i64 c, .pointer U, .int .i64 d, .pointer V] 28)) #[.int .i64 0, .pointer none, .int .i64 0, .pointer none] 28)
  simp only [World.size_alloc] at V1 R
  have HA := Lib.hid (ints_any a P b Q p _ (h.keep kk))
  have HB := Lib.hid (fun w' (hb : Below w.heap.size w w') => ints_any c U d V q w' (h'.keep hb))
  have Kk := Lib.hid kk
  have Hp := Lib.hid hp
  have Hq := Lib.hid hq
  clear h h' kk hp hq
  have c0 := V0.out.c0
  have c1 := V0.out.c1
  have c2 := V0.out.c2
  have c3 := V0.out.c3
  go_enter Tryz.func17, Tryz.ntmps17
  go_wp2_with fail
  refine HA.out.mono ?_
  rintro e w1 ⟨n1, d1, b1, rfl, h1, h2, _, _, h3⟩
  obtain ⟨s1, s2, s3⟩ := shortB_true Hp.out
  have pp := p.den_pos
  obtain rfl : b1 = true := h2 ⟨by omega, by omega⟩ ⟨by omega, by omega⟩
  obtain ⟨en1, ed1⟩ := h1 rfl
  have V1 := Lib.hid (V1.out.keep h3)
  have V0 := Lib.hid (V0.out.keep h3)
  have R := Lib.hid (R.out.keep h3)
  have K1 := Lib.hid (below_on Kk.out h3)
  have En1 := Lib.hid en1
  have Ed1 := Lib.hid ed1
  rw [← en1] at s1 s2
  have sd1 : d1 < 2147483648 := by omega
  have sp1 : 0 < d1 := by omega
  clear h1 h2 h3 c0 c1 c2 c3 en1 ed1 s3 pp
  have c0 := V1.out.c0
  have c1 := V1.out.c1
  have c2 := V1.out.c2
  have c3 := V1.out.c3
  go_wp2_with fail
  refine (HB.out _ K1.out).mono ?_
  rintro e w2 ⟨n2, d2, b2, rfl, h1, h2, _, _, h3⟩
  obtain ⟨r1, r2, r3⟩ := shortB_true Hq.out
  have pp := q.den_pos
  obtain rfl : b2 = true := h2 ⟨by omega, by omega⟩ ⟨by omega, by omega⟩
  obtain ⟨en2, ed2⟩ := h1 rfl
  have R := Lib.hid (R.out.keep h3)
  have K2 := Lib.hid (below_on K1.out h3)
  have En2 := Lib.hid en2
  have Ed2 := Lib.hid ed2
  rw [← en2] at r1 r2
  have sd2 : d2 < 2147483648 := by omega
  have sp2 : 0 < d2 := by omega
  clear h1 h2 h3 c0 c1 c2 c3 en2 ed2 r3 pp
  have HP := Lib.hid (show shortB n1 d1 = true by rw [En1.out, Ed1.out]; exact Hp.out)
  have HQ := Lib.hid (show shortB n2 d2 = true by rw [En2.out, Ed2.out]; exact Hq.out)
  have HC := Lib.hid (fun w' => isShort_any n1 d1 w')
  have HD := Lib.hid (fun w' => isShort_any n2 d2 w')
  rw [HP.out] at HC
  rw [HQ.out] at HD
  by_cases hd : d1 = d2
  · have Hsum := Lib.hid (show p + q = Rat.divInt (n1 + n2) ((d2.toNat : Nat) : Int) by
      have e := Ed1.out; have e' := Ed2.out
      rw [rat_sum_same p q (by omega), En1.out, En2.out]
      congr 1
      omega)
    have e9 : d2 = ((d2.toNat : Nat) : Int) := by omega
    have HO := Lib.hid (fun w' => ofInts_any (n1 + n2) d2.toNat w' (by omega) (by omega) (by omega))
    rw [← e9] at HO Hsum
    clear e9
    subst hd
    go_wp2_with fail
    refine (HC.out _).mono ?_
    rintro e w3 ⟨rfl, rfl⟩
    go_wp2_with fail
    refine (HD.out _).mono ?_
    rintro e w3 ⟨rfl, rfl⟩
    go_wp2_with fail
    refine (HO.out _).mono ?_
    rintro e w5 ⟨xa, xP, xb, xQ, rfl, hv, h5⟩
    have R := Lib.hid (R.out.keep h5)
    have Hv := Lib.hid (hv.wrote R.out (by rfl) (put4_heap w5 (w.heap.size + 1 + 1) (.int .i64 xa) (.pointer xP) (.int .i64 xb) (.pointer xQ)).1 (put4_heap _ _ _ _ _ _).2)
    have K5 := Lib.hid (below_put4 (below_on K2.out h5) (show w.heap.size ≤ w.heap.size + 1 + 1 by omega) (.int .i64 xa) (.pointer xP) (.int .i64 xb) (.pointer xQ))
    clear h5 hv
    have k0 := R.out.c0
    have k1 := R.out.c1
    have k2 := R.out.c2
    have k3 := R.out.c3
    have f0 := R.out.fz 0
    have f1 := R.out.fz 1
    have f2 := R.out.fz 2
    have f3 := R.out.fz 3
    go_wp2
    exact bodyPost_ret (v := .agg #[.int .i64 xa, .pointer xP, .int .i64 xb, .pointer xQ]) (by simp [results, Tryz.results17, go_sem, k0, k1, k2, k3]) rfl ⟨xa, xP, xb, xQ, rfl, by rw [Hsum.out]; exact Hv.out, K5.out⟩
  · have t0 : (d1 == d2) = false := by rw [beq_eq_false_iff_ne]; exact hd
    obtain ⟨m1, m2⟩ := short_mul s1 s2 (Int.le_of_lt sp2) sd2
    obtain ⟨m3, m4⟩ := short_mul r1 r2 (Int.le_of_lt sp1) sd1
    obtain ⟨m5, m6⟩ := short_mul (x := d1) (y := d2) (by omega) sd1 (Int.le_of_lt sp2) sd2
    have m7 : 0 < d1 * d2 := Int.mul_pos sp1 sp2
    have Hsum := Lib.hid (show p + q = Rat.divInt (n1 * d2 + n2 * d1) (((d1 * d2).toNat : Nat) : Int) by
      have e := Ed1.out; have e' := Ed2.out
      rw [rat_sum p q, En1.out, En2.out, Int.toNat_of_nonneg (by omega), e, e', Int.natCast_mul])
    have e9 : d1 * d2 = (((d1 * d2).toNat : Nat) : Int) := by rw [Int.toNat_of_nonneg (by omega)]
    obtain ⟨x1, hx1⟩ : ∃ x, n1 * d2 = x := ⟨_, rfl⟩
    obtain ⟨x2, hx2⟩ : ∃ x, n2 * d1 = x := ⟨_, rfl⟩
    obtain ⟨x3, hx3⟩ : ∃ x, d1 * d2 = x := ⟨_, rfl⟩
    rw [hx1] at m1 m2
    rw [hx2] at m3 m4
    rw [hx3] at m5 m6 m7
    rw [hx1, hx2, hx3] at Hsum
    rw [hx3] at e9
    have HO := Lib.hid (fun w' => ofInts_any (x1 + x2) x3.toNat w' (by omega) (by omega) (by omega))
    rw [← e9] at HO Hsum
    clear e9 hd
    go_wp2_with fail
    refine (HC.out _).mono ?_
    rintro e w3 ⟨rfl, rfl⟩
    go_wp2_with fail
    refine (HD.out _).mono ?_
    rintro e w3 ⟨rfl, rfl⟩
    go_wp2_with fail
    refine (HO.out _).mono ?_
    rintro e w5 ⟨xa, xP, xb, xQ, rfl, hv, h5⟩
    have R := Lib.hid (R.out.keep h5)
    have Hv := Lib.hid (hv.wrote R.out (by rfl) (put4_heap w5 (w.heap.size + 1 + 1) (.int .i64 xa) (.pointer xP) (.int .i64 xb) (.pointer xQ)).1 (put4_heap _ _ _ _ _ _).2)
    have K5 := Lib.hid (below_put4 (below_on K2.out h5) (show w.heap.size ≤ w.heap.size + 1 + 1 by omega) (.int .i64 xa) (.pointer xP) (.int .i64 xb) (.pointer xQ))
    clear h5 hv
    have k0 := R.out.c0
    have k1 := R.out.c1
    have k2 := R.out.c2
    have k3 := R.out.c3
    have f0 := R.out.fz 0
    have f1 := R.out.fz 1
    have f2 := R.out.fz 2
    have f3 := R.out.fz 3
    go_wp2
    exact bodyPost_ret (v := .agg #[.int .i64 xa, .pointer xP, .int .i64 xb, .pointer xQ]) (by simp [results, Tryz.results17, go_sem, k0, k1, k2, k3]) rfl ⟨xa, xP, xb, xQ, rfl, by rw [Hsum.out]; exact Hv.out, K5.out⟩
/-- A variable that holds a rational. -/
structure VarR (w : World) (p : Nat) (a : Int) (P : Option Addr) (b : Int) (Q : Option Addr) (q : Rat) : Prop where
  cells : Cells w p [.int .i64 a, .pointer P, .int .i64 b, .pointer Q]
  rat : RatV w a P b Q q
theorem VarR.keep {w w' : World} {p : Nat} {a b : Int} {P Q : Option Addr} {q : Rat} (h : VarR w p a P b Q q) (hb : Below w.heap.size w w') : VarR w' p a P b Q q := ⟨h.cells.keep hb, h.rat.keep hb⟩
theorem VarR.new {w : World} {a b : Int} {P Q : Option Addr} {q : Rat} (h : RatV w a P b Q q) : VarR (w.alloc (.cells #[.int .i64 a, .pointer P, .int .i64 b, .pointer Q] 28)) w.heap.size a P b Q q :=
  ⟨box_rat w a P b Q, h.keep ((Below.refl w.heap.size w).alloc (Nat.le_refl _) _)⟩
/-- is, where it is so. -/
theorem is_true (a : Int) (P : Option Addr) (b : Int) (Q : Option Addr) (q : Rat) (s : ByteArray) (w : World) (h : RatV w a P b Q q) (hn : q.num.natAbs < ten 3000) (hd : q.den < ten 3000) (hs : ratTxt q = s) (hg : Good w) :
    Calls Tryz.prog 9 #[.agg #[.int .i64 a, .pointer P, .int .i64 b, .pointer Q], .string s] w fun e w' => e = .returned (.bool true) ∧ Below w.heap.size w w' := by
  have kk := (Below.refl w.heap.size w).alloc (Nat.le_refl _) (.cells #[.int .i64 a, .pointer P, .int .i64 b, .pointer Q] 28)
  have HN := Lib.hid (number_any a P b Q q _ (h.keep kk) hn hd (hg.below kk))
  rw [hs] at HN
  have Kk := Lib.hid kk
  clear h hn hd hs hg kk
  go_enter Tryz.func9, Tryz.ntmps9
  go_wp2_with fail
  refine HN.out.mono ?_
  rintro e w1 ⟨rfl, h1⟩
  have K1 := Lib.hid (below_on Kk.out h1)
  clear h1
  go_wp2
  go_ret
  exact ⟨by simp, K1.out⟩
set_option maxRecDepth 100000 in
set_option maxHeartbeats 8000000 in
theorem known2_true (w : World) (hg : Good w) : Calls Tryz.prog 4 #[] w fun e w' => e = .returned (.bool true) ∧ Below w.heap.size w w' := by
  have Hw := Lib.hid (fun w' (hb : Below w.heap.size w w') => hg.below hb)
  have K0 := Lib.hid (Below.refl w.heap.size w)
  clear hg
  go_enter Tryz.func4, Tryz.ntmps4
  go_wp2_with fail
  refine (from_any _ _).mono ?_
  rintro e x1 ⟨rfl, h1⟩
  have k1 := Lib.hid (below_on K0.out h1)
  clear h1
  go_wp2_with fail
  refine (from_any _ _).mono ?_
  rintro e y1 ⟨rfl, h1⟩
  have k2 := Lib.hid (below_on k1.out h1)
  clear h1
  go_wp2_with fail
  refine (make_any (6) none (-4) none (6) (-4) _ (small_int ⟨by decide, by decide⟩) (small_int ⟨by decide, by decide⟩) (by decide) (by decide +kernel) (by decide +kernel) (Hw.out _ k2.out)).mono ?_
  rintro e z1 ⟨a1, P1, b1, Q1, rfl, hv, h1⟩
  have kv := (Below.refl z1.heap.size z1).alloc (Nat.le_refl _) (.cells #[.int .i64 a1, .pointer P1, .int .i64 b1, .pointer Q1] 28)
  have V1 := Lib.hid (VarR.new hv)
  have K1 := Lib.hid (below_on (below_on k2.out h1) kv)
  obtain ⟨p1, hp1⟩ : ∃ p, z1.heap.size = p := ⟨_, rfl⟩
  obtain ⟨w1, hw1⟩ : ∃ u, z1.alloc (.cells #[.int .i64 a1, .pointer P1, .int .i64 b1, .pointer Q1] 28) = u := ⟨_, rfl⟩
  rw [hw1] at K1 V1
  rw [hp1] at V1
  clear h1 hv kv k1 k2
  go_wp2_with fail
  refine (from_any _ _).mono ?_
  rintro e x2 ⟨rfl, h1⟩
  have k1 := Lib.hid (below_on K1.out h1)
  have V1 := Lib.hid (V1.out.keep h1)
  clear h1
  go_wp2_with fail
  refine (from_any _ _).mono ?_
  rintro e y2 ⟨rfl, h1⟩
  have k2 := Lib.hid (below_on k1.out h1)
  have V1 := Lib.hid (V1.out.keep h1)
  clear h1
  go_wp2_with fail
  refine (make_any (1) none (2) none (1) (2) _ (small_int ⟨by decide, by decide⟩) (small_int ⟨by decide, by decide⟩) (by decide) (by decide +kernel) (by decide +kernel) (Hw.out _ k2.out)).mono ?_
  rintro e z2 ⟨a2, P2, b2, Q2, rfl, hv, h1⟩
  have kv := (Below.refl z2.heap.size z2).alloc (Nat.le_refl _) (.cells #[.int .i64 a2, .pointer P2, .int .i64 b2, .pointer Q2] 28)
  have V2 := Lib.hid (VarR.new hv)
  have K2 := Lib.hid (below_on (below_on k2.out h1) kv)
  have V1 := Lib.hid ((V1.out.keep h1).keep kv)
  obtain ⟨p2, hp2⟩ : ∃ p, z2.heap.size = p := ⟨_, rfl⟩
  obtain ⟨w2, hw2⟩ : ∃ u, z2.alloc (.cells #[.int .i64 a2, .pointer P2, .int .i64 b2, .pointer Q2] 28) = u := ⟨_, rfl⟩
  rw [hw2] at K2 V1 V2
  rw [hp2] at V2
  clear h1 hv kv k1 k2
  go_wp2_with fail
  refine (from_any _ _).mono ?_
  rintro e x3 ⟨rfl, h1⟩
  have k1 := Lib.hid (below_on K2.out h1)
  have V1 := Lib.hid (V1.out.keep h1)
  have V2 := Lib.hid (V2.out.keep h1)
  clear h1
  go_wp2_with fail
  refine (from_any _ _).mono ?_
  rintro e y3 ⟨rfl, h1⟩
  have k2 := Lib.hid (below_on k1.out h1)
  have V1 := Lib.hid (V1.out.keep h1)
  have V2 := Lib.hid (V2.out.keep h1)
  clear h1
  go_wp2_with fail
  refine (make_any (1) none (3) none (1) (3) _ (small_int ⟨by decide, by decide⟩) (small_int ⟨by decide, by decide⟩) (by decide) (by decide +kernel) (by decide +kernel) (Hw.out _ k2.out)).mono ?_
  rintro e z3 ⟨a3, P3, b3, Q3, rfl, hv, h1⟩
  have kv := (Below.refl z3.heap.size z3).alloc (Nat.le_refl _) (.cells #[.int .i64 a3, .pointer P3, .int .i64 b3, .pointer Q3] 28)
  have V3 := Lib.hid (VarR.new hv)
  have K3 := Lib.hid (below_on (below_on k2.out h1) kv)
  have V1 := Lib.hid ((V1.out.keep h1).keep kv)
  have V2 := Lib.hid ((V2.out.keep h1).keep kv)
  obtain ⟨p3, hp3⟩ : ∃ p, z3.heap.size = p := ⟨_, rfl⟩
  obtain ⟨w3, hw3⟩ : ∃ u, z3.alloc (.cells #[.int .i64 a3, .pointer P3, .int .i64 b3, .pointer Q3] 28) = u := ⟨_, rfl⟩
  rw [hw3] at K3 V1 V2 V3
  rw [hp3] at V3
  clear h1 hv kv k1 k2
  have c10 := V1.out.cells.c0
  have c11 := V1.out.cells.c1
  have c12 := V1.out.cells.c2
  have c13 := V1.out.cells.c3
  go_wp2_with fail
  try simp only [hw1, hw2, hw3, hp1, hp2, hp3]
  clear hw1 hw2 hw3 hp1 hp2 hp3
  refine (number_any a1 P1 b1 Q1 (Rat.divInt 6 (-4)) _ V1.out.rat (by decide +kernel) (by decide +kernel) (Hw.out _ K3.out)).mono ?_
  rintro e w4 ⟨rfl, h4⟩
  rw [show ratTxt (Rat.divInt 6 (-4)) = ⟨#[45, 51, 47, 50]⟩ by decide +kernel]
  have V1 := Lib.hid (V1.out.keep h4)
  have V2 := Lib.hid (V2.out.keep h4)
  have V3 := Lib.hid (V3.out.keep h4)
  have K4 := Lib.hid (below_on K3.out h4)
  clear h4 c10 c11 c12 c13
  have c10 := V1.out.cells.c0
  have c11 := V1.out.cells.c1
  have c12 := V1.out.cells.c2
  have c13 := V1.out.cells.c3
  go_wp2_with fail
  refine (floor_any a1 P1 b1 Q1 (Rat.divInt 6 (-4)) _ V1.out.rat (by decide +kernel) (by decide +kernel)).mono ?_
  rintro e w5 ⟨xa, xP, rfl, hx, h5⟩
  rw [show (Rat.divInt 6 (-4)).num / ((Rat.divInt 6 (-4)).den : Int) = -2 by decide +kernel] at hx
  have V1 := Lib.hid (V1.out.keep h5)
  have V2 := Lib.hid (V2.out.keep h5)
  have V3 := Lib.hid (V3.out.keep h5)
  have K5 := Lib.hid (below_on K4.out h5)
  have HT := Lib.hid (show Calls Tryz.prog 15 _ w5 (fun e w2 => e = .returned (.string (txt (-2))) ∧ Below w5.heap.size w5 w2) from textZ_any _ (-2) w5 hx (Hw.out _ K5.out).1)
  rw [show txt (-2) = ⟨#[45, 50]⟩ by decide +kernel] at HT
  clear h5 hx c10 c11 c12 c13
  go_wp2_with fail
  refine HT.out.mono ?_
  rintro e w6 ⟨rfl, h6⟩
  have V1 := Lib.hid (V1.out.keep h6)
  have V2 := Lib.hid (V2.out.keep h6)
  have V3 := Lib.hid (V3.out.keep h6)
  have K6 := Lib.hid (below_on K5.out h6)
  clear h6
  have c10 := V1.out.cells.c0
  have c11 := V1.out.cells.c1
  have c12 := V1.out.cells.c2
  have c13 := V1.out.cells.c3
  go_wp2_with fail
  refine (ceil_any a1 P1 b1 Q1 (Rat.divInt 6 (-4)) _ V1.out.rat (by decide +kernel) (by decide +kernel)).mono ?_
  rintro e w7 ⟨xa, xP, rfl, hx, h7⟩
  rw [show -(-(Rat.divInt 6 (-4)).num / ((Rat.divInt 6 (-4)).den : Int)) = -1 by decide +kernel] at hx
  have V2 := Lib.hid (V2.out.keep h7)
  have V3 := Lib.hid (V3.out.keep h7)
  have K7 := Lib.hid (below_on K6.out h7)
  have HT := Lib.hid (show Calls Tryz.prog 15 _ w7 (fun e w2 => e = .returned (.string (txt (-1))) ∧ Below w7.heap.size w7 w2) from textZ_any _ (-1) w7 hx (Hw.out _ K7.out).1)
  rw [show txt (-1) = ⟨#[45, 49]⟩ by decide +kernel] at HT
  clear h7 hx c10 c11 c12 c13
  go_wp2_with fail
  refine HT.out.mono ?_
  rintro e w8 ⟨rfl, h8⟩
  have V2 := Lib.hid (V2.out.keep h8)
  have V3 := Lib.hid (V3.out.keep h8)
  have K8 := Lib.hid (below_on K7.out h8)
  clear h8
  have c20 := V2.out.cells.c0
  have c21 := V2.out.cells.c1
  have c22 := V2.out.cells.c2
  have c23 := V2.out.cells.c3
  have c30 := V3.out.cells.c0
  have c31 := V3.out.cells.c1
  have c32 := V3.out.cells.c2
  have c33 := V3.out.cells.c3
  go_wp2_with fail
  refine (add_short a2 P2 b2 Q2 a3 P3 b3 Q3 (Rat.divInt 1 2) (Rat.divInt 1 3) _ V2.out.rat V3.out.rat (by decide +kernel) (by decide +kernel)).mono ?_
  rintro e w9 ⟨ya, yP, yb, yQ, rfl, hy, h9⟩
  have K9 := Lib.hid (below_on K8.out h9)
  have HN := Lib.hid (number_any ya yP yb yQ _ w9 hy (by decide +kernel) (by decide +kernel) (Hw.out _ K9.out))
  rw [show ratTxt (Rat.divInt 1 2 + Rat.divInt 1 3) = ⟨#[53, 47, 54]⟩ by decide +kernel] at HN
  clear h9 hy c20 c21 c22 c23 c30 c31 c32 c33
  go_wp2_with fail
  refine HN.out.mono ?_
  rintro e w10 ⟨rfl, h10⟩
  have K10 := Lib.hid (below_on K9.out h10)
  clear h10
  go_wp2
  go_ret
  exact ⟨rfl, K10.out⟩
end Go.Proofs.YtbpbfjnndkoioaaGreatDoor
