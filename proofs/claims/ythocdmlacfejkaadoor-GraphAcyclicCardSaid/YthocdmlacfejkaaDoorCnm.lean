/- The condensation, in plain words. -/
import Derived.Test.YthocdmlacfejkaaDoorLvm
import Derived.Test.YthocdmlacfejkaaDoorRmk
namespace Go.Proofs.YthocdmlacfejkaaDoor
open Go.RowKit
/-- Of each node, the class among the first i that holds it. -/
def ofC (C : List (List Nat)) : Nat → Nat → Nat
  | 0, _ => 0
  | i + 1, v => if (C.getD i []).contains v then i else ofC C i v
/-- The same, while the nodes of class i are written. -/
def ofI (C : List (List Nat)) (i k v : Nat) : Nat := if ((C.getD i []).take k).contains v then i else ofC C i v
theorem ofI_zero (C : List (List Nat)) (i : Nat) : ofI C i 0 = ofC C i := by funext v; unfold ofI; simp
theorem ofI_end {C : List (List Nat)} {i k : Nat} (h : (C.getD i []).length ≤ k) : ofI C i k = ofC C (i + 1) := by funext v; unfold ofI; rw [ofC, List.take_of_length_le h]
theorem ofI_step {C : List (List Nat)} {i k x : Nat} (h : (C.getD i [])[k]? = some x) : (fun j => if x = j then i else ofI C i k j) = ofI C i (k + 1) := by
  funext j
  unfold ofI
  rw [List.take_add_one, h]
  simp only [List.contains_append, Option.toList_some, List.contains_cons, List.contains_nil, Bool.or_false]
  by_cases e : x = j
  · subst e; simp
  · rw [if_neg e]
    have : (j == x) = false := by rw [beq_eq_false_iff_ne]; exact fun h => e h.symm
    rw [this, Bool.or_false]
theorem ofC_lt {C : List (List Nat)} {v : Nat} : ∀ {i}, (∃ j, j < i ∧ (C.getD j []).contains v = true) → ofC C i v < i
  | 0, ⟨j, hj, _⟩ => absurd hj (Nat.not_lt_zero j)
  | i + 1, ⟨j, hj, h⟩ => by
    rw [ofC]
    by_cases e : (C.getD i []).contains v = true
    · rw [if_pos e]; omega
    · rw [if_neg e]
      have hji : j < i := by
        rcases Nat.lt_succ_iff_lt_or_eq.1 hj with h1 | h1
        · exact h1
        · subst h1; exact absurd h e
      have := ofC_lt (C := C) (v := v) (i := i) ⟨j, hji, h⟩
      omega
def cdM (f : Nat → Nat) (es : List (Nat × Nat)) : List (Nat × Nat) := (es.filter fun e => decide (f e.1 ≠ f e.2)).map fun e => (f e.1, f e.2)
theorem cdM_step {f : Nat → Nat} {es : List (Nat × Nat)} {k : Nat} {e : Nat × Nat} (h : es[k]? = some e) : cdM f (es.take (k + 1)) = cdM f (es.take k) ++ if f e.1 ≠ f e.2 then [(f e.1, f e.2)] else [] := by
  unfold cdM
  rw [List.take_add_one, h, List.filter_append, List.map_append]
  by_cases e : f e.1 = f e.2 <;> simp [e]
theorem cdM_len (f : Nat → Nat) (es : List (Nat × Nat)) : (cdM f es).length ≤ es.length := by
  unfold cdM
  rw [List.length_map]
  exact List.length_filter_le _ _
theorem cls_len (n : Nat) (es : List (Nat × Nat)) : (clsM n es).length ≤ n := by
  unfold clsM
  have : ∀ l : List Nat, (l.flatMap fun a => if (sccL n es a).head? = some a then [sccL n es a] else []).length ≤ l.length := by
    intro l
    induction l with
    | nil => simp
    | cons a l ih =>
      rw [List.flatMap_cons, List.length_append, List.length_cons]
      by_cases hh : (sccL n es a).head? = some a
      · rw [if_pos hh, List.length_singleton]; omega
      · rw [if_neg hh, List.length_nil]; omega
  have := this (List.range n)
  rwa [List.length_range] at this
theorem cls_in {n : Nat} {es : List (Nat × Nat)} {l : List Nat} (h : l ∈ clsM n es) : ∀ v ∈ l, v < n := by
  unfold clsM at h
  obtain ⟨a, _, ha⟩ := List.mem_flatMap.1 h
  split at ha
  · rw [List.mem_singleton.1 ha]
    intro v hv
    unfold sccL at hv
    exact List.mem_range.1 (List.mem_filter.1 hv).1
  · cases ha
theorem cls_has {n : Nat} {es : List (Nat × Nat)} (hl : Low n es) (hn : n ≤ 64) {v : Nat} (hv : v < n) : ∃ j, j < (clsM n es).length ∧ ((clsM n es).getD j []).contains v = true := by
  obtain ⟨j, hj, e⟩ := List.getElem_of_mem (scc_cls hl hn hv)
  refine ⟨j, hj, ?_⟩
  rw [List.getD_eq_getElem?_getD, List.getElem?_eq_getElem hj, e]
  rw [List.contains_iff_mem]
  exact (mem_scc hl hn hv).2 ⟨hv, Rc.refl _ _, Rc.refl _ _⟩
def ofN (n : Nat) (es : List (Nat × Nat)) : Nat → Nat := ofC (clsM n es) (clsM n es).length
def cdE (n : Nat) (es : List (Nat × Nat)) : List (Nat × Nat) := cdM (ofN n es) es
theorem cd_low {n : Nat} {es : List (Nat × Nat)} (hl : Low n es) (hn : n ≤ 64) : Low (clsM n es).length (cdE n es) := fun e he => by
  unfold cdE cdM at he
  obtain ⟨x, hx, rfl⟩ := List.mem_map.1 he
  have h := hl x (List.mem_filter.1 hx).1
  exact ⟨ofC_lt (cls_has hl hn h.1), ofC_lt (cls_has hl hn h.2)⟩
end Go.Proofs.YthocdmlacfejkaaDoor
