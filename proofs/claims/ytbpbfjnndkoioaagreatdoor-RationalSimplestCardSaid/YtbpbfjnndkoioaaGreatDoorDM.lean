/- Quotient and rest, rounded down: plain mathematics. -/
import Derived.Test.YtbpbfjnndkoioaaGreatDoorSigned
namespace Go.Proofs.YtbpbfjnndkoioaaGreatDoor
open Go.RowKit

/-- Quotient and rest, as the document defines them. -/
def DM (z k q r : Int) : Prop := z = q * k + r ∧ ((0 ≤ r ∧ r < k) ∨ (k < r ∧ r ≤ 0))
theorem dm_negneg {m m' u : Nat} (h : m = u * m' + 0) (hr : 0 < m') (_e : (0 : Nat) = 0) : DM (-(m : Int)) (-(m' : Int)) (signZ false u) 0 := by
  rw [Nat.add_zero] at h
  unfold DM signZ
  simp only [Bool.false_eq_true, if_false, Int.mul_neg]
  rw [h]; push_cast
  refine ⟨by omega, ?_⟩
  simp only [true_and, and_true]
  omega
theorem dm_negneg' {m m' u r : Nat} (h : m = u * m' + r) (hr : r < m') : DM (-(m : Int)) (-(m' : Int)) (signZ false u) (signZ true r) := by
  unfold DM signZ
  simp only [Bool.false_eq_true, if_false, if_true, Int.mul_neg]
  rw [h]; push_cast
  omega
theorem dm_negpos {m m' u : Nat} (h : m = u * m' + 0) (hr : 0 < m') (_e : (0 : Nat) = 0) : DM (-(m : Int)) (m' : Int) (signZ true u) 0 := by
  rw [Nat.add_zero] at h
  unfold DM signZ
  simp only [if_true, Int.neg_mul]
  rw [h]; push_cast
  refine ⟨by omega, ?_⟩
  simp only [true_and, and_true]
  omega
theorem dm_negpos' {m m' u r : Nat} (h : m = u * m' + r) (hr : r < m') (h0 : 0 < r) : DM (-(m : Int)) (m' : Int) (signZ true u - 1) (signZ true r + (m' : Int)) := by
  unfold DM signZ
  simp only [if_true, Int.neg_mul, Int.sub_mul, Int.one_mul]
  rw [h]; push_cast
  omega
theorem dm_posneg {m m' u : Nat} (h : m = u * m' + 0) (hr : 0 < m') (_e : (0 : Nat) = 0) : DM (m : Int) (-(m' : Int)) (signZ true u) 0 := by
  rw [Nat.add_zero] at h
  unfold DM signZ
  simp only [if_true, Int.neg_mul, Int.mul_neg, Int.neg_neg]
  rw [h]; push_cast
  refine ⟨by omega, ?_⟩
  simp only [true_and, and_true]
  omega
theorem dm_posneg' {m m' u r : Nat} (h : m = u * m' + r) (hr : r < m') (h0 : 0 < r) : DM (m : Int) (-(m' : Int)) (signZ true u - 1) (signZ false r + (-(m' : Int))) := by
  unfold DM signZ
  simp only [Bool.false_eq_true, if_false, if_true, Int.neg_mul, Int.mul_neg, Int.sub_mul, Int.one_mul]
  rw [h]; push_cast
  omega
theorem dm_pospos {m m' u : Nat} (h : m = u * m' + 0) (hr : 0 < m') (_e : (0 : Nat) = 0) : DM (m : Int) (m' : Int) (signZ false u) 0 := by
  rw [Nat.add_zero] at h
  unfold DM signZ
  simp only [Bool.false_eq_true, if_false]
  rw [h]; push_cast
  refine ⟨by omega, ?_⟩
  simp only [true_and, and_true]
  omega
theorem dm_pospos' {m m' u r : Nat} (h : m = u * m' + r) (hr : r < m') : DM (m : Int) (m' : Int) (signZ false u) (signZ false r) := by
  unfold DM signZ
  simp only [Bool.false_eq_true, if_false]
  rw [h]; push_cast
  omega
theorem dm_zeroneg {m' u : Nat} (h : 0 = u * m' + 0) (hr : 0 < m') (_e : (0 : Nat) = 0) : DM 0 (-(m' : Int)) (signZ false u) 0 := by
  have h1 : u * 1 ≤ u * m' := Nat.mul_le_mul_left _ hr
  obtain rfl : u = 0 := by omega
  unfold DM signZ
  simp
  omega
theorem dm_zeropos {m' u : Nat} (h : 0 = u * m' + 0) (hr : 0 < m') (_e : (0 : Nat) = 0) : DM 0 (m' : Int) (signZ false u) 0 := by
  have h1 : u * 1 ≤ u * m' := Nat.mul_le_mul_left _ hr
  obtain rfl : u = 0 := by omega
  unfold DM signZ
  simp
  omega
theorem dm_unique {z k q r q' r' : Int} (h : DM z k q r) (h' : DM z k q' r') : q = q' ∧ r = r' := by
  unfold DM at h h'
  have e : (q - q') * k = r' - r := by rw [Int.sub_mul]; omega
  have hq : q - q' = 0 := by
    rcases Int.lt_trichotomy (q - q') 0 with h1 | h1 | h1
    · exfalso
      rcases Int.lt_or_le 0 k with hk | hk
      · have := Int.mul_le_mul_of_nonneg_right (show q - q' ≤ -1 by omega) (Int.le_of_lt hk)
        omega
      · have := Int.mul_le_mul_of_nonpos_right (show q - q' ≤ -1 by omega) hk
        omega
    · exact h1
    · exfalso
      rcases Int.lt_or_le 0 k with hk | hk
      · have := Int.mul_le_mul_of_nonneg_right (show 1 ≤ q - q' by omega) (Int.le_of_lt hk)
        omega
      · have := Int.mul_le_mul_of_nonpos_right (show 1 ≤ q - q' by omega) hk
        omega
  rw [hq, Int.zero_mul] at e
  omega
theorem dm_keep {z k : Int} {m m' : Nat} (hm : z.natAbs = m) (hm' : k.natAbs = m') (hk : k ≠ 0) (h : m % m' = 0 ∨ (decide (z < 0) != decide (k < 0)) = false) : DM z k (signZ (decide (z < 0) != decide (k < 0)) (m / m')) (signZ (decide (z < 0)) (m % m')) := by
  have hp : 0 < m' := by omega
  have hd := Nat.div_add_mod m m'
  have hl := Nat.mod_lt m hp
  generalize m / m' = u at *
  generalize m % m' = r at *
  rw [Nat.mul_comm] at hd
  by_cases hz : z < 0 <;> by_cases hk2 : k < 0
  · obtain rfl : z = -(m : Int) := by omega
    obtain rfl : k = -(m' : Int) := by omega
    rw [decide_eq_true hz, decide_eq_true hk2]
    exact dm_negneg' hd.symm hl
  · obtain rfl : z = -(m : Int) := by omega
    obtain rfl : k = (m' : Int) := by omega
    rw [decide_eq_true hz, decide_eq_false hk2] at h ⊢
    obtain rfl : r = 0 := by
      rcases h with h | h
      · exact h
      · cases h
    exact dm_negpos hd.symm hl rfl
  · obtain rfl : z = (m : Int) := by omega
    obtain rfl : k = -(m' : Int) := by omega
    rw [decide_eq_false hz, decide_eq_true hk2] at h ⊢
    obtain rfl : r = 0 := by
      rcases h with h | h
      · exact h
      · cases h
    exact dm_posneg hd.symm hl rfl
  · obtain rfl : z = (m : Int) := by omega
    obtain rfl : k = (m' : Int) := by omega
    rw [decide_eq_false hz, decide_eq_false hk2]
    exact dm_pospos' hd.symm hl
theorem dm_turn {z k : Int} {m m' : Nat} (hm : z.natAbs = m) (hm' : k.natAbs = m') (hk : k ≠ 0) (h0 : m % m' ≠ 0) (h : (decide (z < 0) != decide (k < 0)) = true) : DM z k (signZ (decide (z < 0) != decide (k < 0)) (m / m') - 1) (signZ (decide (z < 0)) (m % m') + k) := by
  have hp : 0 < m' := by omega
  have hd := Nat.div_add_mod m m'
  have hl := Nat.mod_lt m hp
  rw [h]
  generalize m / m' = u at *
  generalize m % m' = r at *
  rw [Nat.mul_comm] at hd
  by_cases hz : z < 0 <;> by_cases hk2 : k < 0
  · simp [hz, hk2] at h
  · obtain rfl : z = -(m : Int) := by omega
    obtain rfl : k = (m' : Int) := by omega
    rw [decide_eq_true hz]
    exact dm_negpos' hd.symm hl (by omega)
  · obtain rfl : z = (m : Int) := by omega
    obtain rfl : k = -(m' : Int) := by omega
    rw [decide_eq_false hz]
    exact dm_posneg' hd.symm hl (by omega)
  · simp [hz, hk2] at h
end Go.Proofs.YtbpbfjnndkoioaaGreatDoor
