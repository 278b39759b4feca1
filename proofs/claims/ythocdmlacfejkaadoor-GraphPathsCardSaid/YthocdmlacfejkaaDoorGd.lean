/- Edges, and distances. -/
import Derived.Test.YthocdmlacfejkaaDoorGm
namespace Go.Proofs.YthocdmlacfejkaaDoor
/-- To which nodes the edges lead from node i. -/
def adj (es : List (Nat × Nat)) (i : Nat) : Nat := es.foldl (fun s e => if e.1 = i then s ||| 2 ^ e.2 else s) 0
/-- From which nodes the edges come to node i. -/
def adjR (es : List (Nat × Nat)) (i : Nat) : Nat := es.foldl (fun s e => if e.2 = i then s ||| 2 ^ e.1 else s) 0
theorem adj_snoc (es : List (Nat × Nat)) (e : Nat × Nat) (i : Nat) : adj (es ++ [e]) i = if e.1 = i then adj es i ||| 2 ^ e.2 else adj es i := by
  unfold adj; rw [List.foldl_append]; rfl
theorem adjR_snoc (es : List (Nat × Nat)) (e : Nat × Nat) (i : Nat) : adjR (es ++ [e]) i = if e.2 = i then adjR es i ||| 2 ^ e.1 else adjR es i := by
  unfold adjR; rw [List.foldl_append]; rfl
theorem adj_go {i v : Nat} : ∀ (es : List (Nat × Nat)) (t : Nat), (es.foldl (fun s e => if e.1 = i then s ||| 2 ^ e.2 else s) t).testBit v = true ↔ t.testBit v = true ∨ (i, v) ∈ es
  | [], t => by simp
  | e :: es, t => by
    rw [List.foldl_cons, adj_go es, List.mem_cons]
    obtain ⟨x, y⟩ := e
    by_cases h : x = i
    · subst h
      simp only [if_true, Nat.testBit_or, Nat.testBit_two_pow, Bool.or_eq_true, decide_eq_true_eq, Prod.mk.injEq, true_and, or_assoc]
      rw [eq_comm (a := y)]
    · have hn : (i, v) ≠ (x, y) := fun e => h (congrArg Prod.fst e).symm
      simp [h, hn]
theorem adj_bit {es : List (Nat × Nat)} {i v : Nat} : (adj es i).testBit v = true ↔ (i, v) ∈ es := by
  unfold adj; rw [adj_go]; simp
theorem adjR_go {i v : Nat} : ∀ (es : List (Nat × Nat)) (t : Nat), (es.foldl (fun s e => if e.2 = i then s ||| 2 ^ e.1 else s) t).testBit v = true ↔ t.testBit v = true ∨ (v, i) ∈ es
  | [], t => by simp
  | e :: es, t => by
    rw [List.foldl_cons, adjR_go es, List.mem_cons]
    obtain ⟨x, y⟩ := e
    by_cases h : y = i
    · subst h
      simp only [if_true, Nat.testBit_or, Nat.testBit_two_pow, Bool.or_eq_true, decide_eq_true_eq, Prod.mk.injEq, and_true, or_assoc]
      rw [eq_comm (a := x)]
    · have hn : (v, i) ≠ (x, y) := fun e => h (congrArg Prod.snd e).symm
      simp [h, hn]
theorem adjR_bit {es : List (Nat × Nat)} {i v : Nat} : (adjR es i).testBit v = true ↔ (v, i) ∈ es := by
  unfold adjR; rw [adjR_go]; simp
/-- All nodes of some edges lie below n. -/
def Low (n : Nat) (es : List (Nat × Nat)) : Prop := ∀ e ∈ es, e.1 < n ∧ e.2 < n
theorem adj_under {n : Nat} {es : List (Nat × Nat)} (h : Low n es) (i : Nat) : Under n (adj es i) := fun _ hv => (h _ (adj_bit.1 hv)).2
theorem adjR_under {n : Nat} {es : List (Nat × Nat)} (h : Low n es) (i : Nat) : Under n (adjR es i) := fun _ hv => (h _ (adjR_bit.1 hv)).1
theorem Walk.front {L : Nat → Nat} {a b : Nat} (hb : a < 64) (h : (L a).testBit b = true) : ∀ {k c : Nat}, Walk L k b c → Walk L (k + 1) a c
  | _, _, .here _ => (Walk.here a).more hb h
  | _, _, .more hw h1 h2 => (Walk.front hb h hw).more h1 h2
theorem Walk.turn {es : List (Nat × Nat)} (h : Low 64 es) {a : Nat} : ∀ {k v : Nat}, Walk (adj es) k a v → Walk (adjR es) k v a
  | _, _, .here _ => .here _
  | _, _, .more hw _ h2 => by
    have := h _ (adj_bit.1 h2)
    exact Walk.front this.2 (adjR_bit.2 (adj_bit.1 h2)) (Walk.turn h hw)
theorem Walk.turn' {es : List (Nat × Nat)} (h : Low 64 es) {a : Nat} : ∀ {k v : Nat}, Walk (adjR es) k a v → Walk (adj es) k v a
  | _, _, .here _ => .here _
  | _, _, .more hw _ h2 => by
    have := h _ (adjR_bit.1 h2)
    exact Walk.front this.1 (adj_bit.2 (adjR_bit.1 h2)) (Walk.turn' h hw)
/-- How many steps lead to a node, if fewer than k suffice; else -1. -/
def distTo (L : Nat → Nat) (s k v : Nat) : Int := match (List.range k).find? (fun j => (lev L s j).testBit v) with | some j => j | none => -1
theorem distTo_zero (L : Nat → Nat) (s v : Nat) : distTo L s 0 v = -1 := rfl
theorem distTo_succ (L : Nat → Nat) (s k v : Nat) : distTo L s (k + 1) v = if 0 ≤ distTo L s k v then distTo L s k v else if (lev L s k).testBit v then (k : Int) else -1 := by
  unfold distTo
  rw [List.range_succ, List.find?_append]
  cases h : (List.range k).find? (fun j => (lev L s j).testBit v) with
  | some j => simp
  | none =>
    cases h1 : (lev L s k).testBit v <;> simp [h1]
theorem distTo_cases (L : Nat → Nat) (s v : Nat) : ∀ k, (distTo L s k v = -1 ∧ ∀ j, j < k → (lev L s j).testBit v = false) ∨ ∃ j : Nat, j < k ∧ distTo L s k v = j ∧ (lev L s j).testBit v = true ∧ ∀ i, i < j → (lev L s i).testBit v = false
  | 0 => .inl ⟨rfl, fun j hj => absurd hj (Nat.not_lt_zero _)⟩
  | k + 1 => by
    rw [distTo_succ]
    rcases distTo_cases L s v k with ⟨h1, h2⟩ | ⟨j, h0, h1, h2, h3⟩
    · rw [h1, if_neg (by decide)]
      cases h : (lev L s k).testBit v with
      | true => exact .inr ⟨k, by omega, by simp, h, h2⟩
      | false => exact .inl ⟨by simp, fun j hj => by
          rcases Nat.lt_or_ge j k with h4 | h4
          · exact h2 j h4
          · obtain rfl : j = k := by omega
            exact h⟩
    · rw [h1, if_pos (by omega)]
      exact .inr ⟨j, by omega, rfl, h2, h3⟩
theorem distTo_iff {L : Nat → Nat} {s v k j : Nat} : distTo L s k v = j ↔ j < k ∧ (lev L s j).testBit v = true ∧ ∀ i, i < j → (lev L s i).testBit v = false := by
  rcases distTo_cases L s v k with ⟨h1, h2⟩ | ⟨i, h0, h1, h2, h3⟩
  · constructor
    · intro h; omega
    · rintro ⟨h3, h4, _⟩; rw [h2 j h3] at h4; cases h4
  · constructor
    · intro h
      obtain rfl : i = j := by omega
      exact ⟨h0, h2, h3⟩
    · rintro ⟨h4, h5, h6⟩
      rcases Nat.lt_trichotomy i j with h | h | h
      · rw [h6 i h] at h2; cases h2
      · omega
      · rw [h3 j h] at h5; cases h5
theorem distTo_neg {L : Nat → Nat} {s v k : Nat} : distTo L s k v < 0 ↔ ∀ j, j < k → (lev L s j).testBit v = false := by
  rcases distTo_cases L s v k with ⟨h1, h2⟩ | ⟨i, h0, h1, h2, h3⟩
  · exact ⟨fun _ => h2, fun _ => by omega⟩
  · constructor
    · intro h; omega
    · intro h; rw [h i h0] at h2; cases h2
theorem distTo_bd (L : Nat → Nat) (s k v : Nat) : -1 ≤ distTo L s k v ∧ distTo L s k v < k := by
  rcases distTo_cases L s v k with ⟨h1, _⟩ | ⟨i, h0, h1, _, _⟩ <;> omega
/-- Once nothing is added, the distances stay. -/
theorem distTo_stay {L : Nat → Nat} {s k : Nat} (h : lev L s (k + 1) = lev L s k) (v : Nat) {j : Nat} (hj : k + 1 ≤ j) : distTo L s j v = distTo L s (k + 1) v := by
  rcases distTo_cases L s v (k + 1) with ⟨h1, h2⟩ | ⟨i, h0, h1, h2, h3⟩
  · have h4 : distTo L s j v < 0 := distTo_neg.2 fun i hi => by
      rcases Nat.lt_or_ge i (k + 1) with h5 | h5
      · exact h2 i h5
      · rw [lev_stay h i (by omega)]; exact h2 k (by omega)
    have := distTo_bd L s j v
    omega
  · rw [h1]; exact distTo_iff.2 ⟨by omega, h2, h3⟩
/-- The number of steps that lead from a set to a node; -1 if none do. -/
def dist (L : Nat → Nat) (s v : Nat) : Int := distTo L s 65 v
theorem dist_full {n : Nat} {L : Nat → Nat} {s : Nat} (h : ∀ i, Under n (L i)) (hs : Under n s) (hn : n ≤ 64) (v : Nat) {j : Nat} (hj : n + 1 ≤ j) : distTo L s j v = dist L s v := by
  have e : lev L s (n + 1) = lev L s n := lev_full h hs _ (Nat.le_succ n)
  unfold dist
  rw [distTo_stay e v hj, distTo_stay e v (by omega : n + 1 ≤ 65)]
end Go.Proofs.YthocdmlacfejkaaDoor
