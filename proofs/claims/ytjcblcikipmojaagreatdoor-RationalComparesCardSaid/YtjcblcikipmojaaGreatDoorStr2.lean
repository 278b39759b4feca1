/- Texts of integers: the reference's Check. -/
import Derived.Test.YtjcblcikipmojaaGreatDoorStr1
namespace Go.Proofs.YtjcblcikipmojaaGreatDoor
open Go.RowKit

def isNeg (s : ByteArray) : Bool := s.data.toList.head? == some 45
def bodyOf (s : ByteArray) : ByteArray := if isNeg s then s.extract 1 s.size else s
def lead0 (d : ByteArray) : Bool := d.data.toList.head? == some 48
def errOf (s : ByteArray) : Int :=
  if (bodyOf s).size = 0 then 14 else if allDig (bodyOf s).data.toList = false then 14 else if lead0 (bodyOf s) = true ∧ (1 < (bodyOf s).size ∨ 1 < s.size) then 3 else 0
theorem head_at {s : ByteArray} (h : 0 < s.size) : s.data.toList.head? = some s[0] := by
  have := str_at h
  rwa [← List.head?_eq_getElem?] at this
theorem byte_eq {c : UInt8} {n : Nat} (hn : n < 256) (h : c.toNat = n) : c = UInt8.ofNat n := by
  apply UInt8.toNat_inj.mp
  rw [h, UInt8.toNat_ofNat']
  omega
theorem isNeg_of {s : ByteArray} {x : Nat} (h : 0 < s.size) (hx : (s[0]).toNat = x) : isNeg s = decide (x = 45) := by
  unfold isNeg
  rw [head_at h]
  by_cases e : x = 45
  · subst e
    rw [byte_eq (by decide) hx]
    rfl
  · rw [decide_eq_false e]
    rw [beq_eq_false_iff_ne]
    intro h1
    injection h1 with h1
    rw [h1] at hx
    exact e hx.symm
theorem lead0_of {s : ByteArray} {x : Nat} (h : 0 < s.size) (hx : (s[0]).toNat = x) : lead0 s = decide (x = 48) := by
  unfold lead0
  rw [head_at h]
  by_cases e : x = 48
  · subst e
    rw [byte_eq (by decide) hx]
    rfl
  · rw [decide_eq_false e]
    rw [beq_eq_false_iff_ne]
    intro h1
    injection h1 with h1
    rw [h1] at hx
    exact e hx.symm
theorem isNeg_empty {s : ByteArray} (h : s.size = 0) : isNeg s = false := by
  unfold isNeg
  have : s.data.toList = [] := List.eq_nil_of_length_eq_zero (by rw [str_len]; exact h)
  rw [this]
  rfl
theorem tail_size (s : ByteArray) : (s.extract 1 s.size).size = s.size - 1 := by simp

theorem errOf_ways {s d : ByteArray} (hb : bodyOf s = d) : (d.size = 0 → errOf s = 14) ∧ (allDig d.data.toList = false → errOf s = 14) ∧ (allDig d.data.toList = true → 0 < d.size → lead0 d = true → (1 < d.size ∨ 1 < s.size) → errOf s = 3)
    ∧ (allDig d.data.toList = true → 0 < d.size → ¬ (lead0 d = true ∧ (1 < d.size ∨ 1 < s.size)) → errOf s = 0) := by
  subst hb
  unfold errOf
  refine ⟨fun h => by rw [if_pos h], fun h => by split <;> simp, fun h1 h2 h3 h4 => ?_, fun h1 h2 h3 => ?_⟩
  · rw [if_neg (by omega), if_neg (by simp [h1]), if_pos ⟨h3, h4⟩]
  · rw [if_neg (by omega), if_neg (by simp [h1]), if_neg h3]

end Go.Proofs.YtjcblcikipmojaaGreatDoor
