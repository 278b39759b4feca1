/- Plain mathematics: decimal digits, the lowest one first. No program. -/
import Derived.Test.YtegndbiglehacaaDoorList2
import Derived.Lib.ItoaNum
namespace Go.Proofs.YtegndbiglehacaaDoor
/-- The decimal digits of u, the lowest one first; nothing for 0. -/
def digN (u : Nat) : List Int := if u = 0 then [] else ((u % 10 : Nat) : Int) :: digN (u / 10)
termination_by u
decreasing_by omega
theorem digN_zero : digN 0 = [] := by rw [digN, if_pos rfl]
theorem digN_pos {u : Nat} (h : u ≠ 0) : digN u = ((u % 10 : Nat) : Int) :: digN (u / 10) := by rw [digN, if_neg h]
theorem digN_len : ∀ (k u : Nat), u < 10 ^ k → (digN u).length ≤ k
  | 0, u, h => by
    have : u = 0 := by simpa using h
    subst this; rw [digN_zero]; exact Nat.le_refl _
  | k + 1, u, h => by
    by_cases h0 : u = 0
    · subst h0; rw [digN_zero]; exact Nat.zero_le _
    · rw [digN_pos h0]
      have := digN_len k (u / 10) (by rw [Nat.pow_succ] at h; omega)
      simpa using this
theorem digN_mem (u : Nat) : ∀ x ∈ digN u, 0 ≤ x ∧ x ≤ 9 := by
  induction u using Nat.strongRecOn with
  | _ u ih =>
    intro x hx
    by_cases h0 : u = 0
    · subst h0; rw [digN_zero] at hx; cases hx
    · rw [digN_pos h0] at hx
      rcases List.mem_cons.1 hx with rfl | hx
      · omega
      · exact ih (u / 10) (by omega) x hx
theorem trimTo_full (l : List Int) (h : l.getLast? ≠ some 0) : trimTo l l.length = l.length := by
  rcases List.eq_nil_or_concat l with rfl | ⟨l', x, rfl⟩
  · rfl
  · rw [List.concat_eq_append] at h ⊢
    have hx : x ≠ 0 := by intro e; apply h; simp [e]
    rw [List.length_append]
    show trimTo _ (l'.length + 1) = _
    unfold trimTo
    rw [if_neg (by simpa [List.getD] using hx)]
    rfl
theorem digN_last (u : Nat) : (digN u).getLast? ≠ some 0 := by
  induction u using Nat.strongRecOn with
  | _ u ih =>
    by_cases h0 : u = 0
    · subst h0; rw [digN_zero]; simp
    · rw [digN_pos h0]
      by_cases h1 : u / 10 = 0
      · rw [h1, digN_zero]
        simp
        omega
      · have hne : digN (u / 10) ≠ [] := by rw [digN_pos h1]; simp
        rw [List.getLast?_cons_of_ne_nil hne]
        exact ih (u / 10) (by omega)
theorem digit_byte (u : Nat) : UInt8.ofNat (48 + ((u : Int))).toNat = UInt8.ofNat (48 + u) := by
  congr 1
theorem decDigits_digN (u : Nat) (h : u ≠ 0) : Lib.decDigits u = (digN u).reverse.map fun d => UInt8.ofNat (48 + d).toNat := by
  induction u using Nat.strongRecOn with
  | _ u ih =>
    rw [digN_pos h, Lib.decDigits]
    by_cases h1 : u < 10
    · rw [dif_pos h1, show u / 10 = 0 by omega, digN_zero, show u % 10 = u by omega]
      rw [List.reverse_singleton, List.map_singleton, digit_byte]
    · rw [dif_neg h1, ih (u / 10) (by omega) (by omega), List.reverse_cons, List.map_append, List.map_singleton, digit_byte]
/-- The text of digits is strconv's. -/
theorem textOf_digN (n : Int) : textOf (decide (n < 0)) (digN n.natAbs) = ⟨(Lib.itoa n).toArray⟩ := by
  unfold textOf
  rw [trimTo_full _ (digN_last _)]
  by_cases h0 : n = 0
  · subst h0
    rw [show (0 : Int).natAbs = 0 from rfl, digN_zero]
    simp [Lib.itoa, Lib.decDigits]
  · have hne : n.natAbs ≠ 0 := by omega
    have hl : (digN n.natAbs).length ≠ 0 := by rw [digN_pos hne]; simp
    rw [if_neg hl, List.take_length]
    unfold strOfNums outN Lib.itoa
    by_cases hn : n < 0
    · rw [if_pos hn, decDigits_digN _ hne]
      simp [hn]
    · rw [if_neg hn, show n.toNat = n.natAbs by omega, decDigits_digN _ hne]
      simp [hn]
end Go.Proofs.YtegndbiglehacaaDoor
