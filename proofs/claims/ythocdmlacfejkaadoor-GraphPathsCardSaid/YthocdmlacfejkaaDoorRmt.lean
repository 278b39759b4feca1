/- What a list of nodes reaches, node by node. -/
import Derived.Test.YthocdmlacfejkaaDoorClu
import Derived.Test.YthocdmlacfejkaaDoorClo
namespace Go.Proofs.YthocdmlacfejkaaDoor
open Go.RowKit
theorem filter_upto {p : Nat → Bool} : ∀ {m n : Nat}, n ≤ m → (∀ v, p v = true → v < n) → (List.range m).filter p = (List.range n).filter p
  | 0, n, h, _ => by obtain rfl : n = 0 := by omega
                     rfl
  | m + 1, n, h, hp => by
    rcases Nat.lt_or_ge m n with h1 | h1
    · obtain rfl : n = m + 1 := by omega
      rfl
    · rw [List.range_succ, List.filter_append, filter_upto h1 hp]
      have : p m = false := by
        cases e : p m with
        | false => rfl
        | true => have := hp m e; omega
      simp [this]
theorem setI_go {a : Nat} : ∀ (l : List Nat) (s : Nat), ((zs l).foldl (fun s x => s ||| sing x.toNat) s).testBit a = true ↔ s.testBit a = true ∨ a ∈ l
  | [], s => by simp [zs]
  | x :: l, s => by
    have e : zs (x :: l) = (x : Int) :: zs l := rfl
    rw [e, List.foldl_cons, setI_go l, Nat.testBit_or, Bool.or_eq_true, Int.toNat_natCast, sing_bit, decide_eq_true_eq, List.mem_cons, or_assoc]
    rw [eq_comm (a := x)]
theorem setI_bit {a : Nat} {l : List Nat} : (setI (zs l)).testBit a = true ↔ a ∈ l := by
  unfold setI; rw [setI_go]; simp
theorem lev_from {L : Nat → Nat} {S k v : Nat} : (lev L S k).testBit v = true ↔ ∃ a, S.testBit a = true ∧ (lev L (sing a) k).testBit v = true := by
  rw [lev_walk]
  constructor
  · rintro ⟨a, j, hj, ha, hw⟩
    exact ⟨a, ha, lev_walk.2 ⟨a, j, hj, by rw [sing_bit]; simp, hw⟩⟩
  · rintro ⟨a, ha, h⟩
    obtain ⟨b, j, hj, hb, hw⟩ := lev_walk.1 h
    rw [sing_bit, decide_eq_true_eq] at hb
    subst hb
    exact ⟨a, j, hj, ha, hw⟩
theorem dist_lev {L : Nat → Nat} {s v : Nat} : 0 ≤ dist L s v ↔ (lev L s 64).testBit v = true := by
  unfold dist
  rcases distTo_cases L s v 65 with ⟨h1, h2⟩ | ⟨j, h0, h1, h2, _⟩
  · rw [h1, h2 64 (by omega)]; simp
  · rw [h1]
    exact ⟨fun _ => lev_up (by omega) v h2, fun _ => by omega⟩
/-- Whether one of some nodes reaches a node. -/
def reachB (es : List (Nat × Nat)) (l : List Nat) (b : Nat) : Bool := l.any fun a => decide (0 ≤ dist (adj es) (sing a) b)
theorem reachB_iff {es : List (Nat × Nat)} {l : List Nat} {b : Nat} : reachB es l b = true ↔ (lev (adj es) (setI (zs l)) 64).testBit b = true := by
  unfold reachB
  rw [List.any_eq_true, lev_from]
  constructor
  · rintro ⟨a, ha, h⟩
    exact ⟨a, setI_bit.2 ha, dist_lev.1 (of_decide_eq_true h)⟩
  · rintro ⟨a, ha, h⟩
    exact ⟨a, setI_bit.1 ha, decide_eq_true (dist_lev.2 h)⟩
def reachL (n : Nat) (es : List (Nat × Nat)) (l : List Nat) : List Nat := (List.range n).filter (reachB es l)
theorem setI_in {n : Nat} {l : List Nat} (h : ∀ a ∈ l, a < n) : Under n (setI (zs l)) := fun v hv => h v (setI_bit.1 hv)
theorem reach_list {n : Nat} {es : List (Nat × Nat)} {l : List Nat} (hl : Low n es) (hn : n ≤ 64) (h : ∀ a ∈ l, a < n) : bitsOf (lev (adj es) (setI (zs l)) 64) = reachL n es l := by
  unfold bitsOf reachL
  rw [filter_upto hn (fun v hv => lev_under (adj_under hl) (setI_in h) 64 v hv)]
  apply List.filter_congr
  intro v _
  rw [Bool.eq_iff_iff, reachB_iff]
theorem reach_one (n : Nat) {es : List (Nat × Nat)} {a : Nat} (hl : Low n es) (hn : n ≤ 64) (ha : a < n) : bitsOf (lev (adj es) (sing a) 64) = reachL n es [a] := by
  rw [← reach_list hl hn (by simpa using ha)]
  have e : setI (zs [a]) = sing a := by simp [setI, zs]
  rw [e]
theorem clos_list {n : Nat} {es : List (Nat × Nat)} (hl : Low n es) (hn : n ≤ 64) : (closM es n).map bitsOf = (List.range n).map fun a => reachL n es [a] := by
  unfold closM
  rw [List.map_map]
  apply List.map_congr_left
  intro a ha
  exact reach_one n hl hn (List.mem_range.1 ha)
theorem lev_closed {es : List (Nat × Nat)} {S : Nat} (h : es.any (outE S) = false) : ∀ k, lev (adj es) S k = S
  | 0 => rfl
  | k + 1 => by
    rw [lev, lev_closed h k]
    apply Nat.eq_of_testBit_eq
    intro v
    rw [Nat.testBit_or]
    cases h1 : (stepM (adj es) S).testBit v with
    | false => simp
    | true =>
      obtain ⟨x, _, hx, hv⟩ := step_bit.1 h1
      have hm := adj_bit.1 hv
      rw [List.any_eq_false] at h
      have := h _ hm
      simp only [outE, hx, Bool.true_and] at this
      simpa using this
theorem closed_len {n : Nat} {es : List (Nat × Nat)} (hl : Low n es) (hn : n ≤ 64) {q : Nat → Bool} : (!es.any (outE (setI (zs ((List.range n).filter q))))) = decide ((reachL n es ((List.range n).filter q)).length = ((List.range n).filter q).length) := by
  have hmem : ∀ v, v ∈ (List.range n).filter q ↔ v < n ∧ q v = true := fun v => by rw [List.mem_filter, List.mem_range]
  have hq : ∀ v, (setI (zs ((List.range n).filter q))).testBit v = true ↔ v < n ∧ q v = true := fun v => by rw [setI_bit, hmem]
  have hsub : ∀ v, v < n → q v = true → reachB es ((List.range n).filter q) v = true := fun v hv hqv => reachB_iff.2 (lev_up (Nat.zero_le 64) v ((hq v).2 ⟨hv, hqv⟩))
  unfold reachL
  rw [← List.countP_eq_length_filter, ← List.countP_eq_length_filter]
  cases hc : es.any (outE (setI (zs ((List.range n).filter q)))) with
  | false =>
    have e : ∀ v ∈ List.range n, reachB es ((List.range n).filter q) v = true ↔ q v = true := fun v hv => by
      rw [reachB_iff, lev_closed hc, hq]
      simp [List.mem_range.1 hv]
    rw [List.countP_congr e]
    simp
  | true =>
    obtain ⟨⟨x, y⟩, he, ho⟩ := List.any_eq_true.1 hc
    simp only [outE, Bool.and_eq_true, Bool.not_eq_true'] at ho
    have hy : y < n := (hl _ he).2
    have hqy : q y = false := by
      cases e : q y with
      | false => rfl
      | true => have := (hq y).2 ⟨hy, e⟩; rw [ho.2] at this; cases this
    have hr : reachB es ((List.range n).filter q) y = true := by
      rw [reachB_iff]
      refine lev_up (show 1 ≤ 64 by omega) y ?_
      rw [lev, Nat.testBit_or, Bool.or_eq_true]
      have hx := ho.1
      exact .inr (step_bit.2 ⟨x, Nat.lt_of_lt_of_le (hl _ he).1 hn, hx, adj_bit.2 he⟩)
    have := countP_lt (l := List.range n) (fun v hv h => hsub v (List.mem_range.1 hv) h) ⟨y, List.mem_range.2 hy, hr, hqy⟩
    simp
    omega
end Go.Proofs.YthocdmlacfejkaaDoor
