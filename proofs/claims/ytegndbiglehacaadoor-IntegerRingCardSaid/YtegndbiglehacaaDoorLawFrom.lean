/- The law IntegerFrom: its walk. -/
import Derived.Test.YtegndbiglehacaaDoorKnown
import Derived.Test.YtegndbiglehacaaDoorFrom
import Derived.Deep.RegionHeld3
namespace Go.Proofs.YtegndbiglehacaaDoor
open Go.RowKit

set_option maxHeartbeats 1000000 in
theorem compare_small (a b : Int) (w : World) :
    Calls Tryd.prog 22 #[small a, small b] w fun e w' => e = .returned (.int .i64 (if a < b then -1 else if b < a then 1 else 0)) ∧ Below w.heap.size w w' := by
  rcases Int.lt_trichotomy a b with h | h | h
  · rw [if_pos h]
    go_enter Tryd.func22, Tryd.ntmps22
    go_wp2
    go_ret
    exact ⟨rfl, by repeat (first | exact Below.refl _ _ | refine Below.alloc ?_ (by first | exact Nat.le_refl _ | (simp <;> omega)) _)⟩
  · subst h
    rw [if_neg (by omega), if_neg (by omega)]
    go_enter Tryd.func22, Tryd.ntmps22
    go_wp2
    go_ret
    exact ⟨rfl, by repeat (first | exact Below.refl _ _ | refine Below.alloc ?_ (by first | exact Nat.le_refl _ | (simp <;> omega)) _)⟩
  · rw [if_neg (by omega), if_pos h]
    go_enter Tryd.func22, Tryd.ntmps22
    go_wp2
    go_ret
    exact ⟨rfl, by repeat (first | exact Below.refl _ _ | refine Below.alloc ?_ (by first | exact Nat.le_refl _ | (simp <;> omega)) _)⟩

/-- What stays while the last statement goes on: old memory, and the two variables lie there. -/
def Rest (w : World) (p q : Nat) (w' : World) : Prop := Below w.heap.size w w' ∧ p < w'.heap.size ∧ q < w'.heap.size
theorem Rest.old {w w' : World} {p q : Nat} (h : Rest w p q w') : Below w.heap.size w w' := h.1
theorem lawS_call {w wx w' : World} {p q : Nat} {n : Int} (h : wx.cell? ⟨p, 0, none⟩ = some (.int .i64 n) ∧ wx.cell? ⟨p, 1, none⟩ = some (.pointer none) ∧ wx.cell? ⟨q, 0, none⟩ = some (.int .i64 0) ∧ wx.cell? ⟨q, 1, none⟩ = some (.pointer none) ∧ Rest w p q wx)
    (hb : Below wx.heap.size wx w') :
    w'.cell? ⟨p, 0, none⟩ = some (.int .i64 n) ∧ w'.cell? ⟨p, 1, none⟩ = some (.pointer none) ∧ w'.cell? ⟨q, 0, none⟩ = some (.int .i64 0) ∧ w'.cell? ⟨q, 1, none⟩ = some (.pointer none) ∧ Rest w p q w' := by
  obtain ⟨h1, h2, h3, h4, hr⟩ := h
  exact ⟨(hb.cell (p := ⟨p, 0, none⟩) hr.2.1).trans h1, (hb.cell (p := ⟨p, 1, none⟩) hr.2.1).trans h2, (hb.cell (p := ⟨q, 0, none⟩) hr.2.2).trans h3, (hb.cell (p := ⟨q, 1, none⟩) hr.2.2).trans h4,
    hr.1.trans (hb.mono hr.1.size), Nat.lt_of_lt_of_le hr.2.1 hb.size, Nat.lt_of_lt_of_le hr.2.2 hb.size⟩
theorem sign_zero (w : World) : Calls Tryd.prog 21 #[small 0] w fun e w' => e = .returned (.int .i64 0) ∧ Below w.heap.size w w' := sign_any 0 w
theorem compare_zero (w : World) : Calls Tryd.prog 22 #[small 0, small 0] w fun e w' => e = .returned (.int .i64 0) ∧ Below w.heap.size w w' := compare_small 0 0 w
theorem itoa_zero : Lib.itoa 0 = [48] := by simp [Lib.itoa, Lib.decDigits]

set_option maxHeartbeats 4000000 in
theorem integerFrom_walk (n : Int) (w : World) (hn : I64 n) (hw : Good w) :
    Calls Tryd.prog 4 #[.int .i64 n] w fun e w' => e = .returned (.bool true) ∧ Below w.heap.size w w' := by
  have Hw := Lib.hid (fun w' (h : Below w.heap.size w w') => hw.below h)
  have Hk := Lib.hid (known_true w hw)
  clear hw
  go_enter Tryd.func4, Tryd.ntmps4
  go_wp2_with fail
  refine Hk.out.mono ?_
  rintro e w1 ⟨rfl, h1⟩
  have k1 := Lib.hid h1
  clear h1
  go_wp2_with fail
  refine (from_any _ _).mono ?_
  rintro e w2 ⟨rfl, h2⟩
  have k2 := Lib.hid (k1.out.trans (h2.mono k1.out.size))
  clear h2 k1
  go_wp2_with fail
  refine (int_any _ _).mono ?_
  rintro e w3 ⟨rfl, h3⟩
  have c1 : w3.cell? ⟨w2.heap.size, 0, none⟩ = some (.int .i64 n) := by rw [h3.cell (p := ⟨w2.heap.size, 0, none⟩) (by simp)]; simp [go_sem]
  have c2 : w3.cell? ⟨w2.heap.size, 1, none⟩ = some (.pointer none) := by rw [h3.cell (p := ⟨w2.heap.size, 1, none⟩) (by simp)]; simp [go_sem]
  have s3 : w2.heap.size < w3.heap.size := by have := h3.size; simp at this; omega
  have k3 := Lib.hid (show Below w.heap.size w w3 from (k2.out.alloc k2.out.size _).trans (h3.mono (by simp; have := k2.out.size; omega)))
  clear h3 k2
  go_wp2_with fail
  have d1 : (w3.alloc (.cells #[.int .i64 0, .pointer none] 25)).cell? ⟨w2.heap.size, 0, none⟩ = some (.int .i64 n) := by simp [go_sem, s3, c1]
  have d2 : (w3.alloc (.cells #[.int .i64 0, .pointer none] 25)).cell? ⟨w2.heap.size, 1, none⟩ = some (.pointer none) := by simp [go_sem, s3, c2]
  have d3 : (w3.alloc (.cells #[.int .i64 0, .pointer none] 25)).cell? ⟨w3.heap.size, 0, none⟩ = some (.int .i64 0) := by simp [go_sem]
  have d4 : (w3.alloc (.cells #[.int .i64 0, .pointer none] 25)).cell? ⟨w3.heap.size, 1, none⟩ = some (.pointer none) := by simp [go_sem]
  have d5 : Rest w w2.heap.size w3.heap.size (w3.alloc (.cells #[.int .i64 0, .pointer none] 25)) := ⟨k3.out.alloc k3.out.size _, by simp; omega, by simp⟩
  have HT := Lib.hid (fun (m : Int) w' (hm : I64 m) (h : w'.cell? ⟨w2.heap.size, 0, none⟩ = some (.int .i64 n) ∧ w'.cell? ⟨w2.heap.size, 1, none⟩ = some (.pointer none) ∧ w'.cell? ⟨w3.heap.size, 0, none⟩ = some (.int .i64 0) ∧ w'.cell? ⟨w3.heap.size, 1, none⟩ = some (.pointer none) ∧ Rest w w2.heap.size w3.heap.size w') => text_any m w' hm (Hw.out _ h.2.2.2.2.1).1)
  have hz : I64 0 := i64_lit (by decide)
  have hi0 : Lib.itoa 0 = [48] := itoa_zero
  clear c1 c2 s3 k3
  generalize w3.alloc (.cells #[.int .i64 0, .pointer none] 25) = w4 at *
  generalize w3.heap.size = q at *
  generalize w2.heap.size = p at *
  go_region_held3 (fun w' => w'.cell? ⟨p, 0, none⟩ = some (.int .i64 n) ∧ w'.cell? ⟨p, 1, none⟩ = some (.pointer none) ∧ w'.cell? ⟨q, 0, none⟩ = some (.int .i64 0) ∧ w'.cell? ⟨q, 1, none⟩ = some (.pointer none) ∧ Rest w p q w')
    (first
      | exact ⟨d1, d2, d3, d4, d5.1.drew, d5.2.1, d5.2.2⟩
      | exact lawS_call (by assumption) (by assumption))
    (first
      | (go_at_call 17; refine (HT.out _ _ (by assumption) (by assumption)).mono ?_; rintro e w' ⟨rfl, hb⟩)
      | (go_at_call 20; refine (refFrom_any n _ hn).mono ?_; rw [textOf_digN]; rintro e w' ⟨rfl, hb⟩)
      | (go_at_call 21; refine (sign_zero _).mono ?_; rintro e w' ⟨rfl, hb⟩)
      | (go_at_call 18; refine (from_any 0 _).mono ?_; rintro e w' ⟨rfl, hb⟩)
      | (go_at_call 22; refine (compare_zero _).mono ?_; rintro e w' ⟨rfl, hb⟩))
  go_wp2
  go_ret
  refine ⟨rfl, ?_⟩
  go_split_ands
  exact Rest.old (p := p) (q := q) (by assumption)
end Go.Proofs.YtegndbiglehacaaDoor
