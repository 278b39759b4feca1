/- The reference's table of distances, row by row. -/
import Derived.Test.YthocdmlacfejkaaDoorRmt
import Derived.Test.YthocdmlacfejkaaDoorTre
namespace Go.Proofs.YthocdmlacfejkaaDoor
open Go.RowKit
def tabF (es : List (Nat × Nat)) (a step v : Nat) : Int := distTo (adj es) (sing a) step v
def hitE (es : List (Nat × Nat)) (a step v : Nat) (e : Nat × Nat) : Bool := e.2 == v && tabF es a step e.1 == ((step : Int) - 1)
def rowP (es : List (Nat × Nat)) (a step k v : Nat) : Int := if 0 ≤ tabF es a step v then tabF es a step v else if (es.take k).any (hitE es a step v) then (step : Int) else -1
theorem tabF_bd (es : List (Nat × Nat)) (a step v : Nat) : -1 ≤ tabF es a step v ∧ tabF es a step v < step := distTo_bd _ _ _ _
theorem tabF_one (es : List (Nat × Nat)) (a v : Nat) : (if a = v then (0 : Int) else -1) = tabF es a 1 v := by
  show _ = distTo (adj es) (sing a) (0 + 1) v
  rw [distTo_succ, distTo_zero, if_neg (show ¬ (0 : Int) ≤ -1 by decide), lev, sing_bit]
  by_cases h : a = v <;> simp [h]
theorem rowP_zero (es : List (Nat × Nat)) (a step v : Nat) : rowP es a step 0 v = tabF es a step v := by
  unfold rowP
  have := tabF_bd es a step v
  simp
  intro h
  omega
theorem rowP_src {es : List (Nat × Nat)} {a step k x : Nat} (h1 : 1 ≤ step) : rowP es a step k x = (step : Int) - 1 ↔ tabF es a step x = (step : Int) - 1 := by
  unfold rowP
  have := tabF_bd es a step x
  by_cases h : 0 ≤ tabF es a step x
  · rw [if_pos h]
  · rw [if_neg h]
    split <;> omega
theorem rowP_bd (es : List (Nat × Nat)) (a step k v : Nat) : -1 ≤ rowP es a step k v ∧ rowP es a step k v ≤ step := by
  unfold rowP
  have := tabF_bd es a step v
  split
  · omega
  · split <;> omega
theorem take_any {es : List (Nat × Nat)} {k : Nat} {e : Nat × Nat} (p : Nat × Nat → Bool) (hk : es[k]? = some e) : (es.take (k + 1)).any p = ((es.take k).any p || p e) := by
  rw [List.take_add_one, hk, List.any_append]; simp
theorem rowP_no1 {es : List (Nat × Nat)} {a step k x y : Nat} (hk : es[k]? = some (x, y)) (h1 : 1 ≤ step) (hx : rowP es a step k x ≠ (step : Int) - 1) (v : Nat) : rowP es a step k v = rowP es a step (k + 1) v := by
  have hx' : tabF es a step x ≠ (step : Int) - 1 := fun e => hx ((rowP_src h1).2 e)
  unfold rowP
  rw [take_any _ hk]
  have e : hitE es a step v (x, y) = false := by unfold hitE; simp [hx']
  rw [e, Bool.or_false]
theorem rowP_no2 {es : List (Nat × Nat)} {a step k x y : Nat} (hk : es[k]? = some (x, y)) (hy : 0 ≤ rowP es a step k y) (v : Nat) : rowP es a step k v = rowP es a step (k + 1) v := by
  by_cases e : y = v
  · subst e
    unfold rowP at hy ⊢
    by_cases h : 0 ≤ tabF es a step y
    · rw [if_pos h, if_pos h]
    · rw [if_neg h] at hy
      rw [if_neg h, if_neg h, take_any _ hk]
      cases h2 : (es.take k).any (hitE es a step y) with
      | true => simp
      | false => rw [h2] at hy; simp at hy
  · unfold rowP
    rw [take_any _ hk]
    have e2 : hitE es a step v (x, y) = false := by unfold hitE; simp [e]
    rw [e2, Bool.or_false]
theorem rowP_yes {es : List (Nat × Nat)} {a step k x y : Nat} (hk : es[k]? = some (x, y)) (h1 : 1 ≤ step) (hx : rowP es a step k x = (step : Int) - 1) (hy : rowP es a step k y < 0) (v : Nat) : (if y = v then (step : Int) else rowP es a step k v) = rowP es a step (k + 1) v := by
  have hx' := (rowP_src h1).1 hx
  by_cases e : y = v
  · subst e
    rw [if_pos rfl]
    unfold rowP at hy ⊢
    have h : ¬ 0 ≤ tabF es a step y := fun h => by rw [if_pos h] at hy; omega
    rw [if_neg h, take_any _ hk]
    have e2 : hitE es a step y (x, y) = true := by unfold hitE; simp [hx']
    rw [e2, Bool.or_true, if_pos rfl]
  · rw [if_neg e]
    unfold rowP
    rw [take_any _ hk]
    have e2 : hitE es a step v (x, y) = false := by unfold hitE; simp [e]
    rw [e2, Bool.or_false]
theorem rowP_end {es : List (Nat × Nat)} {a step k : Nat} (hl : Low 64 es) (h1 : 1 ≤ step) (hk : es.length ≤ k) (v : Nat) : rowP es a step k v = tabF es a (step + 1) v := by
  unfold rowP
  rw [List.take_of_length_le hk]
  show _ = distTo (adj es) (sing a) (step + 1) v
  rw [distTo_succ]
  show _ = if 0 ≤ tabF es a step v then tabF es a step v else _
  by_cases h : 0 ≤ tabF es a step v
  · rw [if_pos h, if_pos h]
  · rw [if_neg h, if_neg h]
    have hno := distTo_neg.1 (show distTo (adj es) (sing a) step v < 0 by unfold tabF at h; omega)
    obtain ⟨s, rfl⟩ : ∃ s, step = s + 1 := ⟨step - 1, by omega⟩
    have e : es.any (hitE es a (s + 1) v) = (lev (adj es) (sing a) (s + 1)).testBit v := by
      rw [Bool.eq_iff_iff, lev, Nat.testBit_or, hno s (Nat.lt_succ_self s), Bool.false_or, step_bit, List.any_eq_true]
      constructor
      · rintro ⟨⟨x, y⟩, he, h2⟩
        unfold hitE at h2
        simp only [Bool.and_eq_true, beq_iff_eq] at h2
        obtain ⟨rfl, h3⟩ := h2
        have h4 : distTo (adj es) (sing a) (s + 1) x = ((s : Nat) : Int) := by unfold tabF at h3; rw [h3]; omega
        obtain ⟨_, h5, _⟩ := distTo_iff.1 h4
        exact ⟨x, (hl _ he).1, h5, adj_bit.2 he⟩
      · rintro ⟨x, _, h2, h3⟩
        refine ⟨(x, v), adj_bit.1 h3, ?_⟩
        unfold hitE
        have h4 : distTo (adj es) (sing a) (s + 1) x = ((s : Nat) : Int) := by
          refine distTo_iff.2 ⟨by omega, h2, fun i hi => ?_⟩
          cases h5 : (lev (adj es) (sing a) i).testBit x with
          | false => rfl
          | true =>
            have : (lev (adj es) (sing a) (i + 1)).testBit v = true := by
              rw [lev, Nat.testBit_or, Bool.or_eq_true, step_bit]
              exact .inr ⟨x, (hl _ (adj_bit.1 h3)).1, h5, h3⟩
            rw [hno (i + 1) (by omega)] at this
            cases this
        have h6 : tabF es a (s + 1) x = (((s + 1 : Nat) : Int)) - 1 := by unfold tabF; rw [h4]; omega
        simp [h6]
    rw [e]
theorem tabF_full {n : Nat} {es : List (Nat × Nat)} {a : Nat} (hl : Low n es) (hn : n ≤ 64) (ha : a < n) (v : Nat) : tabF es a (n + 1) v = dist (adj es) (sing a) v :=
  dist_full (adj_under hl) (fun i hi => by rw [sing_bit, decide_eq_true_eq] at hi; omega) hn v (Nat.le_refl _)
theorem made_row {w w1 : World} {n : Nat} (hown : w1.ownsRow w.heap.size 3 1 (.slice (some ⟨w.heap.size, 0, none⟩) n n) n (madeCells #[.int .i64 0] n).toList) : Row w1 w.heap.size 3 (numsN n fun _ => 0) := by
  have h0 := made_ints hown
  rcases hown.2 with ⟨h1, _⟩ | ⟨g', cap, cur, h1, hg, hh, hnc, hcm, hcs, hx⟩
  · cases h1
  · injection h1 with h1 _ h3
    injection h1 with h1
    injection h1 with h1
    subst h1 h3
    have e : cur.toList = numsN n fun _ => 0 := by
      apply List.ext_getElem?
      intro i
      rw [← h0.at_ i, cell_of_row _ _ _ _ _ _ hh]; simp
    unfold Row
    rw [← e]
    simpa using hh
/-- Rows of numbers, in a slice that one appends to. -/
def OutT (C : Nat) (w : World) (v : Value) (k n : Nat) (f : Nat → Nat → Int) : Prop :=
  ∃ vs, w.ownsRow C 50 1 v k vs ∧ ∀ a, a < k → ∃ p, vs[a]? = some (.slice (some ⟨p, 0, none⟩) n n) ∧ Row w p 3 (numsN n (f a))
theorem row_grown {C k p : Nat} {w w1 : World} {v : Value} {xs vs : List Value} {o : Obj} (hr : Row w p 3 vs) (hown : w.ownsRow C 50 1 v k xs) (hg : (w.alloc o).grownBy w1 v.ownBlock) : Row w1 p 3 vs := by
  have hp := hr.cells.lt
  unfold Row at hr ⊢
  rw [hg.block p (by simp; omega) ?_, Below.heap_alloc _ _ _ hp, hr]
  intro e
  rcases hown.2 with ⟨rfl, _⟩ | ⟨g, cap, cur, rfl, _, hh, _⟩
  · cases e
  · simp only [Value.ownBlock, Option.some.injEq] at e
    subst e
    rw [hr] at hh
    injection hh with hh
    injection hh with _ h2
    exact absurd h2 (by decide)
theorem OutT.keep {C k n : Nat} {w w' : World} {v : Value} {f : Nat → Nat → Int} (h : OutT C w v k n f) (hb : Below w.heap.size w w') : OutT C w' v k n f :=
  let ⟨vs, h1, h2⟩ := h; ⟨vs, own_below h1 hb, fun a ha => let ⟨p, e, hr⟩ := h2 a ha; ⟨p, e, hr.keep hb⟩⟩
theorem OutT.down {B C k n : Nat} {w : World} {v : Value} {f : Nat → Nat → Int} (h : OutT B w v k n f) (hC : C ≤ B) : OutT C w v k n f := let ⟨vs, h1, h2⟩ := h; ⟨vs, own_down' h1 hC, h2⟩
theorem OutT.at_ {C k n : Nat} {w : World} {v : Value} {f : Nat → Nat → Int} (h : OutT C w v k n f) : ∃ A c, v = .slice A k c ∧ ∀ a, a < k → ∃ g p, A = some ⟨g, 0, none⟩ ∧ w.cell? ⟨g, a, none⟩ = some (.slice (some ⟨p, 0, none⟩) n n) ∧ Cells w p (numsN n (f a)) := by
  obtain ⟨vs, h1, h2⟩ := h
  rcases h1.2 with ⟨rfl, h0⟩ | ⟨g, cap, cur, rfl, hg, hh, hnc, hcm, hcs, hx⟩
  · exact ⟨none, 0, by rw [h0], fun a ha => by omega⟩
  · refine ⟨_, cap, rfl, fun a ha => ?_⟩
    obtain ⟨p, e, hr⟩ := h2 a ha
    refine ⟨g, p, rfl, ?_, hr.cells⟩
    rw [cell_of_row _ _ _ _ _ _ hh, ← Array.getElem?_toList, ← e, ← hx, List.getElem?_take_of_lt (by omega)]
end Go.Proofs.YthocdmlacfejkaaDoor
