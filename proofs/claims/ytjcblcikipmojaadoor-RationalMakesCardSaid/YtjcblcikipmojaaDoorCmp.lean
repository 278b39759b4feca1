/- Compare and Sign of any integers. -/
import Derived.Test.YtjcblcikipmojaaDoorInt1
import Derived.Test.YtjcblcikipmojaaDoorInt5
import Derived.Test.YtjcblcikipmojaaDoorFrom
import Derived.Deep.RegionHeld3
import Derived.Test.YtjcblcikipmojaaDoorNum
import Derived.Test.YtjcblcikipmojaaDoorBack
namespace Go.Proofs.YtjcblcikipmojaaDoor
open Go.RowKit

set_option maxHeartbeats 1000000 in
theorem divmod_known (w : World) :
    Calls Tryd.prog 12 #[small (-7), small 2] w fun e w' => e = .returned (.tuple #[small (-4), small 1, .int .i64 0]) ∧ Below w.heap.size w w' := by
  go_enter Tryd.func12, Tryd.ntmps12
  go_wp2_with fail
  refine (sign_any 2 _).mono ?_
  rintro e w1 ⟨rfl, hb⟩
  simp only [show sgn 2 = 1 from by decide]
  obtain ⟨hc, hf⟩ := bcell hb
  have hz : w.heap.size + 4 ≤ w1.heap.size := by have := hb.size; simp at this; omega
  go_wp2_with fail
  go_quiet (fail)
  go_wp2
  go_quiet (fail)
  go_wp2
  refine bodyPost_ret (v := .tuple #[small (-4), small 1, .int .i64 0]) ?_ rfl ⟨rfl, ?_⟩
  · simp [results, Tryd.results12, go_sem, hc]
  · refine Below.setCell (Below.setCell (Below.setCell (Below.setCell (below_drewN ?_ _) (by first | exact Nat.le_refl _ | (simp <;> omega)) _) (by first | exact Nat.le_refl _ | (simp <;> omega)) _) (by first | exact Nat.le_refl _ | (simp <;> omega)) _) (by first | exact Nat.le_refl _ | (simp <;> omega)) _
    refine Below.trans ?_ (hb.mono (by first | exact Nat.le_refl _ | (simp <;> omega)))
    repeat (first | exact Below.refl _ _ | refine Below.alloc ?_ (by first | exact Nat.le_refl _ | (simp <;> omega)) _)
theorem text_at (n : Int) (l : List UInt8) (w : World) (hn : I64 n) (hw : Good w) (hl : Lib.itoa n = l) :
    Calls Tryd.prog 9 #[small n] w fun e w' => e = .returned (.string ⟨l.toArray⟩) ∧ Below w.heap.size w w' := by
  subst hl; exact text_any n w hn hw.1
theorem itoa1 : Lib.itoa (-4) = [45, 52] := by simp [Lib.itoa, Lib.decDigits]
theorem itoa2 : Lib.itoa 1 = [49] := by simp [Lib.itoa, Lib.decDigits]
theorem itoa3 : Lib.itoa (-1000) = [45, 49, 48, 48, 48] := by simp [Lib.itoa, Lib.decDigits]
theorem itoa4 : Lib.itoa 6 = [54] := by simp [Lib.itoa, Lib.decDigits]

set_option maxHeartbeats 4000000 in
theorem known_true (w : World) (hw : Good w) :
    Calls Tryd.prog 5 #[] w fun e w' => e = .returned (.bool true) ∧ Below w.heap.size w w' := by
  have Hw := Lib.hid (fun w' (h : Below w.heap.size w w') => hw.below h)
  clear hw
  go_enter Tryd.func5, Tryd.ntmps5
  go_wp2_with fail
  refine (from_any _ _).mono ?_
  rintro e w1 ⟨rfl, h1⟩
  go_wp2_with fail
  refine (from_any _ _).mono ?_
  rintro e w2 ⟨rfl, h2⟩
  have k2 := Lib.hid (h1.trans (h2.mono h1.size))
  clear h1 h2
  go_wp2_with fail
  refine (divmod_known _).mono ?_
  rintro e w3 ⟨rfl, h3⟩
  have k3 := Lib.hid (k2.out.trans (h3.mono k2.out.size))
  clear h3 k2
  go_wp2_with fail
  refine (from_any _ _).mono ?_
  rintro e w4 ⟨rfl, h4⟩
  obtain ⟨hc, hf⟩ := bcell h4
  have c1 : w4.cell? ⟨w3.heap.size, 0, none⟩ = some (.int .i64 (-4)) := by rw [hc _ _ (by simp; try omega)]; simp [go_sem]
  have c2 : w4.cell? ⟨w3.heap.size, 1, none⟩ = some (.pointer none) := by rw [hc _ _ (by simp; try omega)]; simp [go_sem]
  have c3 : w4.cell? ⟨w3.heap.size + 1, 0, none⟩ = some (.int .i64 1) := by rw [hc _ _ (by simp; try omega)]; simp [go_sem]
  have c4 : w4.cell? ⟨w3.heap.size + 1, 1, none⟩ = some (.pointer none) := by rw [hc _ _ (by simp; try omega)]; simp [go_sem]
  have s4 : w3.heap.size + 1 < w4.heap.size := by have := h4.size; simp at this; omega
  have k4 := Lib.hid (show Below w.heap.size w w4 from (((k3.out).alloc (k3.out.size) _).alloc (by simp; have := k3.out.size; omega) _).trans (h4.mono (by simp; have := k3.out.size; omega)))
  clear h4 hc hf k3
  go_wp2_with fail
  refine (power_known _).mono ?_
  rintro e w5 ⟨rfl, h5⟩
  replace c1 := (h5.cell (p := ⟨w3.heap.size, 0, none⟩) (by simp; omega)).trans c1
  replace c2 := (h5.cell (p := ⟨w3.heap.size, 1, none⟩) (by simp; omega)).trans c2
  replace c3 := (h5.cell (p := ⟨w3.heap.size + 1, 0, none⟩) (by simp; omega)).trans c3
  replace c4 := (h5.cell (p := ⟨w3.heap.size + 1, 1, none⟩) (by simp; omega)).trans c4
  have s5 : w3.heap.size + 1 < w5.heap.size := Nat.lt_of_lt_of_le s4 h5.size
  have k5 := Lib.hid (k4.out.trans (h5.mono k4.out.size))
  have s5a : w3.heap.size < w5.heap.size := by omega
  clear h5 k4 s4
  go_wp2_with fail
  refine (text_at (-4) [45, 52] _ (i64_lit (by decide)) (Hw.out _ (k5.out.alloc k5.out.size _)) itoa1).mono ?_
  rintro e w6 ⟨rfl, h6⟩
  have c5 : w6.cell? ⟨w5.heap.size, 0, none⟩ = some (.int .i64 (-1000)) := by rw [h6.cell (p := ⟨w5.heap.size, 0, none⟩) (by simp)]; simp [go_sem]
  have c6 : w6.cell? ⟨w5.heap.size, 1, none⟩ = some (.pointer none) := by rw [h6.cell (p := ⟨w5.heap.size, 1, none⟩) (by simp)]; simp [go_sem]
  replace c3 : w6.cell? ⟨w3.heap.size + 1, 0, none⟩ = some (.int .i64 1) := by rw [h6.cell (p := ⟨w3.heap.size + 1, 0, none⟩) (by simp; omega)]; simp [go_sem, c3, s5]
  replace c4 : w6.cell? ⟨w3.heap.size + 1, 1, none⟩ = some (.pointer none) := by rw [h6.cell (p := ⟨w3.heap.size + 1, 1, none⟩) (by simp; omega)]; simp [go_sem, c4, s5]
  have s6 : w5.heap.size < w6.heap.size := by have := h6.size; simp at this; omega
  have k6 := Lib.hid (show Below w.heap.size w w6 from (k5.out.alloc k5.out.size _).trans (h6.mono (by simp; have := k5.out.size; omega)))
  clear h6 k5 c1 c2 s5 s5a
  go_wp2_with fail
  refine (text_at 1 [49] _ (i64_lit (by decide)) (Hw.out _ k6.out) itoa2).mono ?_
  rintro e w7 ⟨rfl, h7⟩
  replace c5 := (h7.cell (p := ⟨w5.heap.size, 0, none⟩) (by simp; omega)).trans c5
  replace c6 := (h7.cell (p := ⟨w5.heap.size, 1, none⟩) (by simp; omega)).trans c6
  have k7 := Lib.hid (k6.out.trans (h7.mono k6.out.size))
  clear h7 k6 c3 c4 s6
  go_wp2_with fail
  refine (text_at (-1000) [45, 49, 48, 48, 48] _ (i64_lit (by decide)) (Hw.out _ k7.out) itoa3).mono ?_
  rintro e w8 ⟨rfl, h8⟩
  have k8 := Lib.hid (k7.out.trans (h8.mono k7.out.size))
  clear h8 k7 c5 c6
  go_wp2_with fail
  refine (from_any _ _).mono ?_
  rintro e w9 ⟨rfl, h9⟩
  have k9 := Lib.hid (k8.out.trans (h9.mono k8.out.size))
  clear h9 k8
  go_wp2_with fail
  refine (from_any _ _).mono ?_
  rintro e w10 ⟨rfl, h10⟩
  have k10 := Lib.hid (k9.out.trans (h10.mono k9.out.size))
  clear h10 k9
  go_wp2_with fail
  refine (gcd_small (-12) 18 _ (i64_lit (by decide)) (i64_lit (by decide)) 6 (by decide) (by decide) (Hw.out _ k10.out).2 (Hw.out _ k10.out).size).mono ?_
  rintro e w11 ⟨rfl, h11⟩
  have k11 := Lib.hid (k10.out.trans (h11.mono k10.out.size))
  clear h11 k10
  go_wp2_with fail
  refine (text_at 6 [54] _ (i64_lit (by decide)) (Hw.out _ k11.out) itoa4).mono ?_
  rintro e w12 ⟨rfl, h12⟩
  have k12 := Lib.hid (k11.out.trans (h12.mono k11.out.size))
  clear h12 k11
  go_wp2_with fail
  refine (from_any _ _).mono ?_
  rintro e w13 ⟨rfl, h13⟩
  have k13 := Lib.hid (k12.out.trans (h13.mono k12.out.size))
  clear h13 k12
  go_wp2_with fail
  refine (bits_small 256 9 _ (i64_lit (by decide)) (by decide) (by decide) (by decide)).mono ?_
  rintro e w14 ⟨rfl, h14⟩
  have k14 := Lib.hid (k13.out.trans (h14.mono k13.out.size))
  clear h14 k13
  go_wp2
  go_ret
  exact ⟨rfl, k14.out⟩
/-- What stays while the last statement goes on: old memory, and the two variables lie there. -/
def Rest (w : World) (p q : Nat) (w' : World) : Prop := Below w.heap.size w w' ∧ p < w'.heap.size ∧ q < w'.heap.size
theorem Rest.old {w w' : World} {p q : Nat} (h : Rest w p q w') : Below w.heap.size w w' := h.1
theorem lawS_call {w wx w' : World} {p q : Nat} {n : Int} (h : wx.cell? ⟨p, 0, none⟩ = some (.int .i64 n) ∧ wx.cell? ⟨p, 1, none⟩ = some (.pointer none) ∧ wx.cell? ⟨q, 0, none⟩ = some (.int .i64 0) ∧ wx.cell? ⟨q, 1, none⟩ = some (.pointer none) ∧ Rest w p q wx)
    (hb : Below wx.heap.size wx w') :
    w'.cell? ⟨p, 0, none⟩ = some (.int .i64 n) ∧ w'.cell? ⟨p, 1, none⟩ = some (.pointer none) ∧ w'.cell? ⟨q, 0, none⟩ = some (.int .i64 0) ∧ w'.cell? ⟨q, 1, none⟩ = some (.pointer none) ∧ Rest w p q w' := by
  obtain ⟨h1, h2, h3, h4, hr⟩ := h
  exact ⟨(hb.cell (p := ⟨p, 0, none⟩) hr.2.1).trans h1, (hb.cell (p := ⟨p, 1, none⟩) hr.2.1).trans h2, (hb.cell (p := ⟨q, 0, none⟩) hr.2.2).trans h3, (hb.cell (p := ⟨q, 1, none⟩) hr.2.2).trans h4,
    hr.1.trans (hb.mono hr.1.size), Nat.lt_of_lt_of_le hr.2.1 hb.size, Nat.lt_of_lt_of_le hr.2.2 hb.size⟩
theorem sign_zero (w : World) : Calls Tryd.prog 11 #[small 0] w fun e w' => e = .returned (.int .i64 0) ∧ Below w.heap.size w w' := sign_any 0 w
theorem itoa_zero : Lib.itoa 0 = [48] := by simp [Lib.itoa, Lib.decDigits]
def cmpZ (a b : Int) : Int := if a < b then -1 else if b < a then 1 else 0
theorem cmpZ_pos {z k : Int} (hz : 0 ≤ z) (hk : 0 ≤ k) : cmpN z.natAbs k.natAbs = cmpZ z k := by
  unfold cmpN cmpZ
  by_cases h1 : z < k
  · rw [if_pos h1, if_pos (by omega)]
  · by_cases h2 : k < z
    · rw [if_neg h1, if_pos h2, if_neg (by omega), if_pos (by omega)]
    · rw [if_neg h1, if_neg h2, if_neg (by omega), if_neg (by omega)]
theorem cmpZ_neg {z k : Int} (hz : z < 0) (hk : k < 0) : cmpN k.natAbs z.natAbs = cmpZ z k := by
  unfold cmpN cmpZ
  by_cases h1 : z < k
  · rw [if_pos h1, if_pos (by omega)]
  · by_cases h2 : k < z
    · rw [if_neg h1, if_pos h2, if_neg (by omega), if_pos (by omega)]
    · rw [if_neg h1, if_neg h2, if_neg (by omega), if_neg (by omega)]
theorem IsInt.any {B : Nat} {w : World} {v : Value} {z : Int} (h : IsInt B w v z) : IsInt 0 w v z := h.mono (Nat.zero_le _)
/-- The two ways of a value. -/
theorem IsInt.ways {B : Nat} {w : World} {v : Value} {z : Int} (h : IsInt B w v z) : (I64 z ∧ v = small z) ∨ (¬ I64 z ∧ ∃ p, v = .agg #[.int .i64 0, .pointer (some ⟨p, 0, none⟩)] ∧ p < w.heap.size ∧ w.cell? ⟨p, 0, none⟩ = some (.bool (decide (z < 0)))) := by
  rcases h with h | ⟨hz, p, A, n, c, xs, rfl, hp, _, _, c0, _⟩
  · exact .inl h
  · exact .inr ⟨hz, p, rfl, hp, c0⟩
theorem parts_at (v : Value) (z : Int) (w : World) (b : Bool) (hb : decide (z < 0) = b) (h : IsInt 0 w v z) :
    Calls Tryd.prog 28 #[v] w fun e w' => ∃ (A : Option Addr) (n c : Nat) (xs : List Nat), e = .returned (.tuple #[.slice A n c, .bool b]) ∧ IsNat 0 w' A n c xs z.natAbs ∧ Below w.heap.size w w' := by
  subst hb
  exact parts_any v z w h (Nat.zero_le _)

set_option maxHeartbeats 4000000 in
theorem signZ_any (v : Value) (z : Int) (w : World) (h : IsInt 0 w v z) :
    Calls Tryd.prog 11 #[v] w fun e w' => e = .returned (.int .i64 (sgn z)) ∧ Below w.heap.size w w' := by
  rcases h.ways with ⟨hz, rfl⟩ | ⟨hz, p, rfl, hp, c0⟩
  · exact sign_any z w
  · unfold I64 at hz
    have e0 := (IsL.grow_cell (o := .cells #[.int .i64 0, .pointer (some ⟨p, 0, none⟩)] 26) hp 0).trans c0
    by_cases hneg : z < 0
    · have He := Lib.hid (show sgn z = -1 by unfold sgn; rw [if_pos hneg])
      rw [decide_eq_true hneg] at e0
      clear h hz c0 hneg
      go_enter Tryd.func11, Tryd.ntmps11
      go_wp2
      go_ret
      exact ⟨by rw [He.out]; rfl, (Below.refl _ _).alloc (Nat.le_refl _) _⟩
    · have He := Lib.hid (show sgn z = 1 by unfold sgn; rw [if_neg hneg, if_pos (by omega)])
      rw [decide_eq_false hneg] at e0
      clear h hz c0 hneg
      go_enter Tryd.func11, Tryd.ntmps11
      go_wp2
      go_ret
      exact ⟨by rw [He.out]; rfl, (Below.refl _ _).alloc (Nat.le_refl _) _⟩
end Go.Proofs.YtjcblcikipmojaaDoor
