/- Liaisons: the pairs' mathematics. -/
import Derived.Test.YtdpfoegcmngdfaaDoorLr
import Derived.Test.YtdpfoegcmngdfaaDoorLm
namespace Go.Proofs.YtdpfoegcmngdfaaDoor
open Go.RowKit
def tri (b : Nat) : Nat := b * (b - 1) / 2
theorem tri_up : ∀ b : Nat, b < 6 → tri (b + 1) = tri b + b := by decide
def triP : List (Nat × Nat) := [(0,1),(0,2),(1,2),(0,3),(1,3),(2,3),(0,4),(1,4),(2,4),(3,4),(0,5),(1,5),(2,5),(3,5),(4,5)]
theorem tri_at : ∀ b : Nat, b < 6 → ∀ a : Nat, a < b → triP[tri b + a]? = some (a, b) ∧ tri b + a < 15 := by decide
theorem bit_u16a : (List.range 256).all (fun p => (List.range 256).all fun q => bits .and .u16 ((p * 256 + q : Nat) : Int) 1 == ((q % 2 : Nat) : Int)) = true := by decide +kernel
theorem bit_u16 {x k : Nat} (hx : x < 65536) : (bits .and .u16 ((x : Int) / 2 ^ k) 1 == 1) = x.testBit k := by
  have hy : x / 2 ^ k < 65536 := Nat.lt_of_le_of_lt (Nat.div_le_self _ _) hx
  have e : (x : Int) / 2 ^ k = ((x / 2 ^ k : Nat) : Int) := by simp
  rw [e]
  obtain ⟨y, hy2⟩ : ∃ y, x / 2 ^ k = y := ⟨_, rfl⟩
  have ht : x.testBit k = decide (y % 2 = 1) := by rw [Nat.testBit_eq_decide_div_mod_eq, hy2]
  rw [hy2] at hy ⊢
  have h := bit_u16a
  rw [List.all_eq_true] at h
  have h1 := h (y / 256) (List.mem_range.2 (by omega))
  rw [List.all_eq_true] at h1
  have h2 := h1 (y % 256) (List.mem_range.2 (by omega))
  rw [beq_iff_eq, show y / 256 * 256 + y % 256 = y by omega] at h2
  rw [h2, ht, Bool.eq_iff_iff, beq_iff_eq, decide_eq_true_eq]
  omega
def pU (x k : Nat) : List (Nat × Nat) := (triP.take k).zipIdx.flatMap fun p => if x.testBit p.2 then [(p.1.1, p.1.2), (p.1.2, p.1.1)] else []
theorem pU_up {x k a b : Nat} (h : triP[k]? = some (a, b)) : pU x (k + 1) = pU x k ++ if x.testBit k then [(a, b), (b, a)] else [] := by
  unfold pU
  have hk : k < triP.length := by
    rcases Nat.lt_or_ge k triP.length with h1 | h1
    · exact h1
    · rw [List.getElem?_eq_none h1] at h; cases h
  rw [List.take_add_one, h]
  simp only [Option.toList_some, List.zipIdx_append, List.flatMap_append, List.zipIdx_cons, List.zipIdx_nil, List.flatMap_cons, List.flatMap_nil, List.append_nil]
  rw [List.length_take, Nat.min_eq_left (by omega), Nat.zero_add]
theorem pU_mem {x k : Nat} {e : Nat × Nat} (h : e ∈ pU x k) : e.1 < 6 ∧ e.2 < 6 ∧ e.1 ≠ e.2 ∧ (e.2, e.1) ∈ pU x k := by
  unfold pU at h ⊢
  rw [List.mem_flatMap] at h
  obtain ⟨p, hp, he⟩ := h
  have hm : p.1 ∈ triP := by
    have := List.fst_mem_of_mem_zipIdx hp
    exact List.mem_of_mem_take this
  have hl : p.1.1 < 6 ∧ p.1.2 < 6 ∧ p.1.1 ≠ p.1.2 := by
    have : ∀ q ∈ triP, q.1 < 6 ∧ q.2 < 6 ∧ q.1 ≠ q.2 := by decide
    exact this _ hm
  split at he
  · next hb =>
    simp only [List.mem_cons, List.not_mem_nil, or_false] at he
    rcases he with rfl | rfl
    · exact ⟨hl.1, hl.2.1, hl.2.2, List.mem_flatMap.2 ⟨p, hp, by rw [if_pos hb]; simp⟩⟩
    · exact ⟨hl.2.1, hl.1, Ne.symm hl.2.2, List.mem_flatMap.2 ⟨p, hp, by rw [if_pos hb]; simp⟩⟩
  · cases he
theorem pU_low (x k : Nat) : Low 6 (pU x k) := fun _e he => ⟨(pU_mem he).1, (pU_mem he).2.1⟩
theorem pU_len : ∀ (x k : Nat), (pU x k).length ≤ 2 * k
  | x, 0 => by simp [pU]
  | x, k + 1 => by
    have ih := pU_len x k
    rcases h : triP[k]? with _ | ⟨a, b⟩
    · have hk : triP.length ≤ k := List.getElem?_eq_none_iff.1 h
      have : pU x (k + 1) = pU x k := by unfold pU; rw [List.take_of_length_le (by omega), List.take_of_length_le hk]
      rw [this]; omega
    · rw [pU_up h, List.length_append]
      split <;> simp <;> omega
theorem cast_app (a b : List (Nat × Nat)) : cast (a ++ b) = cast a ++ cast b := by unfold cast; simp
theorem flat_app (a b : List (Int × Int)) : flat (a ++ b) = flat a ++ flat b := by unfold flat; simp
end Go.Proofs.YtdpfoegcmngdfaaDoor
