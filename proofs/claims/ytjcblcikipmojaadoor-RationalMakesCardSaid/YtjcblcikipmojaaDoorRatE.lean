/- Rationals: short numbers. -/
import Derived.Test.YtjcblcikipmojaaDoorRatD
namespace Go.Proofs.YtjcblcikipmojaaDoor
open Go.RowKit

theorem ret_three {a b c d : Int} {x y : Bool} (h1 : a = c) (h2 : b = d) (h3 : x = y) : Ending.returned (.tuple #[.int .i64 a, .int .i64 b, .bool x]) = .returned (.tuple #[.int .i64 c, .int .i64 d, .bool y]) := by rw [h1, h2, h3]
/-- What ints returns. -/
def IntsPost (q : Rat) (w : World) (e : Ending) (w' : World) : Prop :=
  ∃ (n d : Int) (b : Bool), e = .returned (.tuple #[.int .i64 n, .int .i64 d, .bool b]) ∧ (b = true → n = q.num ∧ d = (q.den : Int)) ∧ (I64 q.num → I64 (q.den : Int) → b = true) ∧ I64 n ∧ I64 d ∧ Below w.heap.size w w'
theorem denZ_64 (q : Rat) : I64 (denZ q.den) ↔ I64 (q.den : Int) := by
  have := q.den_pos
  unfold denZ I64
  split <;> omega
set_option maxHeartbeats 8000000 in
theorem ints_any (a : Int) (P : Option Addr) (b : Int) (Q : Option Addr) (q : Rat) (w : World) (h : RatV w a P b Q q) :
    Calls Tryd.prog 73 #[.agg #[.int .i64 a, .pointer P, .int .i64 b, .pointer Q]] w (IntsPost q w) := by
  have kk := (Below.refl w.heap.size w).alloc (Nat.le_refl _) (.cells #[.int .i64 a, .pointer P, .int .i64 b, .pointer Q] 41)
  have V := Lib.hid (box_rat w a P b Q)
  have HA := Lib.hid (intZ_any a P q.num _ (h.keep kk).num)
  have HB := Lib.hid (fun w' (hb : Below w.heap.size w w') => intZ_any b Q (denZ q.den) w' (h.keep hb).den)
  have Kk := Lib.hid kk
  have Hp := Lib.hid q.den_pos
  have z64 := Lib.hid (denZ_64 q)
  have c2 := V.out.c2
  have c3 := V.out.c3
  clear h kk
  go_enter Tryd.func73, Tryd.ntmps73
  go_wp2_with fail
  refine HA.out.mono ?_
  rintro e w1 ⟨⟨n, b1, rfl, h1, h2⟩, h3⟩
  have V := Lib.hid (V.out.keep h3)
  have K1 := Lib.hid (below_on Kk.out h3)
  have hn64 : I64 n := by
    rcases Classical.em (I64 q.num) with h | h
    · rw [(h1 h).1]; exact h
    · rw [(h2 h).1]; exact ⟨by decide, by decide⟩
  have Hn := Lib.hid (show (b1 = true → n = q.num) ∧ (I64 q.num → b1 = true) by
    rcases Classical.em (I64 q.num) with h | h
    · exact ⟨fun _ => (h1 h).1, fun _ => (h1 h).2⟩
    · exact ⟨fun e => (by rw [(h2 h).2] at e; cases e), fun h' => absurd h' h⟩)
  have Hn64 := Lib.hid hn64
  clear h1 h2 h3 hn64 c2 c3
  have c2 := V.out.c2
  have c3 := V.out.c3
  go_wp2_with fail
  refine (HB.out _ K1.out).mono ?_
  rintro e w2 ⟨⟨d, b2, rfl, h1, h2⟩, h3⟩
  have K2 := Lib.hid (below_on K1.out h3)
  have hways : (d = 0 ∧ I64 (1 : Int) ∧ (b2 = true → (1 : Int) = (q.den : Int)) ∧ (I64 (q.den : Int) → b2 = true)) ∨ (d ≠ 0 ∧ I64 d ∧ (b2 = true → d = (q.den : Int)) ∧ (I64 (q.den : Int) → b2 = true)) := by
    have hp := Hp.out
    rcases Classical.em (I64 (denZ q.den)) with h | h
    · obtain ⟨e1, e2⟩ := h1 h
      by_cases hd : q.den = 1
      · rw [hd] at e1
        exact .inl ⟨e1, ⟨by decide, by decide⟩, fun _ => by rw [hd]; rfl, fun _ => e2⟩
      · rw [denZ_ne hd] at e1 h
        exact .inr ⟨by omega, by rw [e1]; exact h, fun _ => e1, fun _ => e2⟩
    · obtain ⟨e1, e2⟩ := h2 h
      exact .inl ⟨e1, ⟨by decide, by decide⟩, fun e => (by rw [e2] at e; cases e), fun h' => absurd (z64.out.2 h') h⟩
  clear h1 h2 h3 c2 c3
  rcases hways with ⟨rfl, hd64, hd1, hd2⟩ | ⟨hd0, hd64, hd1, hd2⟩
  · have Hd := Lib.hid (And.intro hd1 (And.intro hd2 hd64))
    clear hd1 hd2 hd64
    cases b1 with
    | false =>
      go_wp2
      go_ret3
      exact ⟨n, 1, false, rfl, fun e => (by cases e), fun x _ => Hn.out.2 x, Hn64.out, Hd.out.2.2, K2.out⟩
    | true =>
      go_wp2
      go_ret3
      exact ⟨n, 1, b2, rfl, fun e => ⟨Hn.out.1 (by first | rfl | trivial), Hd.out.1 e⟩, fun _ y => Hd.out.2.1 y, Hn64.out, Hd.out.2.2, K2.out⟩
  · have t0 : (d == 0) = false := by rw [beq_eq_false_iff_ne]; exact hd0
    have Hd := Lib.hid (And.intro hd1 (And.intro hd2 hd64))
    clear hd1 hd2 hd64 hd0
    cases b1 with
    | false =>
      go_wp2
      go_ret3
      exact ⟨n, d, false, rfl, fun e => (by cases e), fun x _ => Hn.out.2 x, Hn64.out, Hd.out.2.2, K2.out⟩
    | true =>
      go_wp2
      go_ret3
      exact ⟨n, d, b2, rfl, fun e => ⟨Hn.out.1 (by first | rfl | trivial), Hd.out.1 e⟩, fun _ y => Hd.out.2.1 y, Hn64.out, Hd.out.2.2, K2.out⟩
/-- The range of short numbers. -/
def shortB (n d : Int) : Bool := decide (-2147483648 < n) && decide (n < 2147483648) && decide (d < 2147483648)
theorem shortB_true {n d : Int} (h : shortB n d = true) : -2147483648 < n ∧ n < 2147483648 ∧ d < 2147483648 := by
  unfold shortB at h
  simp only [Bool.and_eq_true, decide_eq_true_eq] at h
  omega
set_option maxHeartbeats 1000000 in
theorem isShort_any (n d : Int) (w : World) : Calls Tryd.prog 74 #[.int .i64 n, .int .i64 d] w fun e w' => e = .returned (.bool (shortB n d)) ∧ w = w' := by
  obtain ⟨t, ht⟩ : ∃ t, shortB n d = t := ⟨_, rfl⟩
  rw [ht]
  have Ht := Lib.hid ht
  clear ht
  by_cases h1 : -2147483648 < n
  · by_cases h2 : n < 2147483648
    · by_cases h3 : d < 2147483648
      · obtain rfl : t = true := by rw [← Ht.out]; unfold shortB; rw [decide_eq_true h1, decide_eq_true h2, decide_eq_true h3]; rfl
        go_enter Tryd.func74, Tryd.ntmps74
        go_wp2
        go_ret
        exact ⟨rfl, rfl⟩
      · obtain rfl : t = false := by rw [← Ht.out]; unfold shortB; rw [decide_eq_false h3, Bool.and_false]
        go_enter Tryd.func74, Tryd.ntmps74
        go_wp2
        go_ret
        exact ⟨rfl, rfl⟩
    · obtain rfl : t = false := by rw [← Ht.out]; unfold shortB; rw [decide_eq_false h2, Bool.and_false, Bool.false_and]
      go_enter Tryd.func74, Tryd.ntmps74
      go_wp2
      go_ret
      exact ⟨rfl, rfl⟩
  · obtain rfl : t = false := by rw [← Ht.out]; unfold shortB; rw [decide_eq_false h1, Bool.false_and, Bool.false_and]
    go_enter Tryd.func74, Tryd.ntmps74
    go_wp2
    go_ret
    exact ⟨rfl, rfl⟩
def GcdIInv (g : Nat) (va vb : Value) : Prop := ∃ x y : Nat, va = .int .i64 (x : Nat) ∧ vb = .int .i64 (y : Nat) ∧ x ≤ 9223372036854775807 ∧ y ≤ 9223372036854775807 ∧ Nat.gcd x y = g
set_option maxHeartbeats 4000000 in
theorem gcdI_any (a : Int) (k : Nat) (w : World) (ha : a.natAbs ≤ 9223372036854775807) (hk : k ≤ 9223372036854775807) :
    Calls Tryd.prog 93 #[.int .i64 a, .int .i64 (k : Nat)] w fun e w' => e = .returned (.int .i64 (Nat.gcd a.natAbs k : Nat)) ∧ w = w' := by
  obtain ⟨g, hg⟩ : ∃ g, Nat.gcd a.natAbs k = g := ⟨_, rfl⟩
  rw [hg]
  obtain ⟨m, hm⟩ : ∃ m, a.natAbs = m := ⟨_, rfl⟩
  rw [hm] at hg ha
  have Hst := Lib.hid (show GcdIInv g (.int .i64 (m : Nat)) (.int .i64 (k : Nat)) from ⟨m, k, rfl, rfl, ha, hk, hg⟩)
  have hcase : a = (m : Int) ∨ (a < 0 ∧ a = -(m : Int)) := by omega
  have hm1 : (m : Int) ≤ 9223372036854775807 := by omega
  clear hg hm
  rcases hcase with rfl | ⟨hneg, rfl⟩
  · go_enter Tryd.func93, Tryd.ntmps93
    go_wp2
    go_loop [0, 1] (fun va vb => GcdIInv g va vb) (fun va _ => (intOf va).toNat)
    case atStart => first | exact Hst.out | (have h := Hst.out; simpa using h)
    case round =>
      obtain ⟨x, y, rfl, rfl, hx, hy, hg⟩ := hrel
      by_cases h0 : x = 0
      · subst h0
        have Hfin := Lib.hid (show y = g by rw [← hg, Nat.gcd_zero_left])
        clear hg
        go_wp2
        go_ret
        exact ⟨by rw [Hfin.out]; rfl, rfl⟩
      · have hxp : 0 < x := by omega
        have Hg := Lib.hid (show Nat.gcd (y % x) x = g by rw [← hg, ← Nat.gcd_rec])
        have hl := Nat.mod_lt y hxp
        obtain ⟨r, hr⟩ : ∃ r, y % x = r := ⟨_, rfl⟩
        rw [hr] at Hg hl
        have Hl := Lib.hid hl
        have t0 : ((x : Int) == 0) = false := by rw [beq_eq_false_iff_ne]; omega
        have e1 : (y : Int) % (x : Int) = (r : Int) := by rw [← hr]; simp
        have e2 : Int.tmod (y : Int) (x : Int) = (r : Int) := by rw [← hr]; rfl
        have Hnew := Lib.hid (show GcdIInv g (.int .i64 (r : Nat)) (.int .i64 (x : Nat)) from ⟨r, x, rfl, rfl, by omega, hx, Hg.out⟩)
        clear hg hr hl h0
        go_wp2
        go_round
        case rel => exact Hnew.out
        case measure => simp [intOf]; exact Hl.out
  · go_enter Tryd.func93, Tryd.ntmps93
    go_wp2
    go_loop [0, 1] (fun va vb => GcdIInv g va vb) (fun va _ => (intOf va).toNat)
    case atStart => first | exact Hst.out | (have h := Hst.out; simpa using h)
    case round =>
      obtain ⟨x, y, rfl, rfl, hx, hy, hg⟩ := hrel
      by_cases h0 : x = 0
      · subst h0
        have Hfin := Lib.hid (show y = g by rw [← hg, Nat.gcd_zero_left])
        clear hg
        go_wp2
        go_ret
        exact ⟨by rw [Hfin.out]; rfl, rfl⟩
      · have hxp : 0 < x := by omega
        have Hg := Lib.hid (show Nat.gcd (y % x) x = g by rw [← hg, ← Nat.gcd_rec])
        have hl := Nat.mod_lt y hxp
        obtain ⟨r, hr⟩ : ∃ r, y % x = r := ⟨_, rfl⟩
        rw [hr] at Hg hl
        have Hl := Lib.hid hl
        have t0 : ((x : Int) == 0) = false := by rw [beq_eq_false_iff_ne]; omega
        have e1 : (y : Int) % (x : Int) = (r : Int) := by rw [← hr]; simp
        have e2 : Int.tmod (y : Int) (x : Int) = (r : Int) := by rw [← hr]; rfl
        have Hnew := Lib.hid (show GcdIInv g (.int .i64 (r : Nat)) (.int .i64 (x : Nat)) from ⟨r, x, rfl, rfl, by omega, hx, Hg.out⟩)
        clear hg hr hl h0
        go_wp2
        go_round
        case rel => exact Hnew.out
        case measure => simp [intOf]; exact Hl.out
theorem rat_int (n : Int) : ((n : Int) : Rat).num = n ∧ ((n : Int) : Rat).den = 1 := ⟨Rat.num_intCast n, Rat.den_intCast n⟩
set_option maxHeartbeats 4000000 in
theorem rfrom_any (n : Int) (w : World) (hn : I64 n) : Calls Tryd.prog 92 #[.int .i64 n] w (NewRat ((n : Int) : Rat) w) := by
  have R := Lib.hid (Cells.new w #[.int .i64 0, .pointer none, .int .i64 0, .pointer none] 41)
  have Kk := Lib.hid ((Below.refl w.heap.size w).alloc (Nat.le_refl _) (.cells #[.int .i64 0, .pointer none, .int .i64 0, .pointer none] 41))
  have Hn := Lib.hid hn
  clear hn
  go_enter Tryd.func92, Tryd.ntmps92
  go_wp2_with fail
  refine (from_any _ _).mono ?_
  rintro e w1 ⟨rfl, h1⟩
  have R := Lib.hid (R.out.keep h1)
  have K1 := Lib.hid (below_put4 (below_on Kk.out h1) (Nat.le_refl w.heap.size) (.int .i64 n) (.pointer none) (.int .i64 0) (.pointer none))
  clear h1
  have k0 := R.out.c0
  have k1 := R.out.c1
  have k2 := R.out.c2
  have k3 := R.out.c3
  have f0 := R.out.fz 0
  have f1 := R.out.fz 1
  have f2 := R.out.fz 2
  have f3 := R.out.fz 3
  go_wp2
  exact bodyPost_ret (v := .agg #[.int .i64 n, .pointer none, .int .i64 0, .pointer none]) (by simp [results, Tryd.results92, go_sem, k0, k1, k2, k3]) rfl ⟨n, none, 0, none, rfl, ⟨by rw [(rat_int n).1]; exact small_int Hn.out, by rw [(rat_int n).2, denZ_one]; exact small_int ⟨by decide, by decide⟩⟩, K1.out⟩
end Go.Proofs.YtjcblcikipmojaaDoor
