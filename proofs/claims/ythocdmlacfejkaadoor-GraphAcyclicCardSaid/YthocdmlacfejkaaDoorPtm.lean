/- The parts are the classes of the graph with each edge both ways; the reversed graph has the same classes. -/
import Derived.Test.YthocdmlacfejkaaDoorPts
import Derived.Test.YthocdmlacfejkaaDoorRvs
namespace Go.Proofs.YthocdmlacfejkaaDoor
open Go.RowKit
theorem adj_ext {a b : List (Nat × Nat)} (h : ∀ e, e ∈ a ↔ e ∈ b) : adj a = adj b := by
  funext i
  refine Nat.eq_of_testBit_eq fun v => ?_
  rw [Bool.eq_iff_iff, adj_bit, adj_bit]
  exact h (i, v)
theorem rev_mem {es : List (Nat × Nat)} {x y : Nat} : (x, y) ∈ revE es ↔ (y, x) ∈ es := by
  unfold revE
  rw [List.mem_map]
  constructor
  · rintro ⟨⟨a, b⟩, h, e⟩
    injection e with e1 e2
    simp only at e1 e2
    rw [← e1, ← e2]; exact h
  · intro h
    exact ⟨(y, x), h, rfl⟩
theorem adj_rev (es : List (Nat × Nat)) : adj (revE es) = adjR es := by
  funext i
  refine Nat.eq_of_testBit_eq fun v => ?_
  rw [Bool.eq_iff_iff, adj_bit, adjR_bit, rev_mem]
theorem adj_make {n : Nat} {es : List (Nat × Nat)} (h : Low n es) : adj (makeL n es) = adj es := adj_ext fun _ => mem_make h
def bothE (es : List (Nat × Nat)) : List (Nat × Nat) := es ++ revE es
theorem both_low {n : Nat} {es : List (Nat × Nat)} (h : Low n es) : Low n (bothE es) := fun e he => by
  rcases List.mem_append.1 he with h1 | h1
  · exact h e h1
  · exact revE_low h e h1
theorem adjB_adj (es : List (Nat × Nat)) : adjB es = adj (bothE es) := by
  funext i
  refine Nat.eq_of_testBit_eq fun v => ?_
  unfold adjB bothE
  rw [Nat.testBit_or, Bool.eq_iff_iff, Bool.or_eq_true, adj_bit, adjR_bit, adj_bit, List.mem_append, rev_mem]
theorem cls_adj {n : Nat} {a b : List (Nat × Nat)} (h : adj a = adj b) : clsM n a = clsM n b := by
  unfold clsM sccL mutE
  rw [h]
theorem cls_congr {n : Nat} {a b : List (Nat × Nat)} (h : ∀ x, x < n → ∀ y, y < n → mutE a x y = mutE b x y) : clsM n a = clsM n b := by
  have hs : ∀ x, x < n → sccL n a x = sccL n b x := fun x hx => by
    unfold sccL
    exact List.filter_congr fun y hy => h x hx y (List.mem_range.1 hy)
  unfold clsM
  rw [List.flatMap_def, List.flatMap_def]
  congr 1
  exact List.map_congr_left fun x hx => by rw [hs x (List.mem_range.1 hx)]
theorem rc_rev {es : List (Nat × Nat)} (h : Low 64 es) {a b : Nat} : Rc (adj (revE es)) a b ↔ Rc (adj es) b a := by
  rw [adj_rev]
  exact ⟨fun ⟨k, hk⟩ => ⟨k, hk.turn' h⟩, fun ⟨k, hk⟩ => ⟨k, hk.turn h⟩⟩
theorem low_up {n : Nat} {es : List (Nat × Nat)} (h : Low n es) (hn : n ≤ 64) : Low 64 es := fun e he => ⟨Nat.lt_of_lt_of_le (h e he).1 hn, Nat.lt_of_lt_of_le (h e he).2 hn⟩
theorem cls_rev {n : Nat} {es : List (Nat × Nat)} (hl : Low n es) (hn : n ≤ 64) : clsM n (makeL n (revE es)) = clsM n es := by
  rw [cls_adj (adj_make (revE_low hl))]
  refine cls_congr fun x hx y hy => ?_
  rw [Bool.eq_iff_iff, mut_iff (revE_low hl) hn hx hy, mut_iff hl hn hx hy, rc_rev (low_up hl hn), rc_rev (low_up hl hn)]
  exact And.comm
theorem both_rev {n : Nat} {es : List (Nat × Nat)} (hl : Low n es) : adj (bothE (makeL n (revE es))) = adj (bothE es) := adj_ext fun ⟨x, y⟩ => by
  unfold bothE
  rw [List.mem_append, List.mem_append, rev_mem, rev_mem, mem_make (revE_low hl), mem_make (revE_low hl), rev_mem, rev_mem]
  exact Or.comm
theorem rc_both {n : Nat} {es : List (Nat × Nat)} (hl : Low n es) (hn : n ≤ 64) {a b : Nat} (h : Rc (adj (bothE es)) a b) : Rc (adj (bothE es)) b a := by
  have e : adj (revE (bothE es)) = adj (bothE es) := adj_ext fun ⟨x, y⟩ => by
    unfold bothE
    rw [rev_mem, List.mem_append, List.mem_append, rev_mem, rev_mem]
    exact Or.comm
  have := (rc_rev (low_up (both_low hl) hn) (a := b) (b := a)).2 h
  rwa [e] at this
theorem parts_step {n : Nat} {es : List (Nat × Nat)} (hl : Low n es) (hn : n ≤ 64) : ∀ {i}, i ≤ n →
    (∀ v, (prtM (adj (bothE es)) i).1.testBit v = true ↔ ∃ a, a < i ∧ Rc (adj (bothE es)) a v) ∧
    (prtM (adj (bothE es)) i).2.map bitsOf = (List.range i).flatMap fun a => if (sccL n (bothE es) a).head? = some a then [sccL n (bothE es) a] else []
  | 0, _ => ⟨fun v => by simp [prtM], by simp [prtM]⟩
  | i + 1, hi => by
    obtain ⟨h1, h2⟩ := parts_step hl hn (i := i) (by omega)
    have hb := both_low hl
    have hU := fun j => adj_under (low_up hb hn) j
    have hin : i < n := by omega
    have hself : mutE (bothE es) i i = true := (mut_iff hb hn hin hin).2 ⟨Rc.refl _ _, Rc.refl _ _⟩
    have hhead : (sccL n (bothE es) i).head? = some i ↔ ∀ j, j < i → mutE (bothE es) i j = false := by
      unfold sccL
      rw [List.head?_filter, List.find?_range_eq_some]
      constructor
      · intro h j hj
        have := h.2.2 j hj
        simpa using this
      · intro h
        exact ⟨hself, List.mem_range.2 hin, fun j hj => by rw [h j hj]; rfl⟩
    have hscc : bitsOf (lev (adj (bothE es)) (sing i) 64) = sccL n (bothE es) i := by
      unfold bitsOf sccL
      rw [filter_upto' hn (fun v hv => rc_under hb hin ((rc_lev hU (by omega)).2 hv))]
      refine List.filter_congr fun v hv => ?_
      have hv := List.mem_range.1 hv
      rw [Bool.eq_iff_iff, mut_iff hb hn hin hv, ← rc_lev hU (by omega)]
      exact ⟨fun h => ⟨h, rc_both hl hn h⟩, fun h => h.1⟩
    rw [List.range_succ, List.flatMap_append]
    cases hbit : (prtM (adj (bothE es)) i).1.testBit i with
    | true =>
      rw [prtM_yes hbit]
      obtain ⟨a, ha, hr⟩ := (h1 i).1 hbit
      have hno : ¬ (sccL n (bothE es) i).head? = some i := fun h => by
        have := hhead.1 h a ha
        rw [(mut_iff hb hn hin (by omega)).2 ⟨rc_both hl hn hr, hr⟩] at this
        cases this
      refine ⟨fun v => ?_, ?_⟩
      · rw [h1]
        constructor
        · rintro ⟨b, hb, h⟩; exact ⟨b, by omega, h⟩
        · rintro ⟨b, hb, h⟩
          rcases Nat.lt_succ_iff_lt_or_eq.1 hb with h3 | h3
          · exact ⟨b, h3, h⟩
          · subst h3; exact ⟨a, ha, hr.trans h⟩
      · rw [h2]; simp [hno]
    | false =>
      rw [prtM_no hbit]
      have hyes : (sccL n (bothE es) i).head? = some i := hhead.2 fun j hj => by
        cases e : mutE (bothE es) i j with
        | false => rfl
        | true =>
          have := ((mut_iff hb hn hin (by omega)).1 e).2
          rw [(h1 i).2 ⟨j, hj, this⟩] at hbit
          cases hbit
      refine ⟨fun v => ?_, ?_⟩
      · simp only
        rw [Nat.testBit_or, Bool.or_eq_true, h1, ← rc_lev hU (by omega)]
        constructor
        · rintro (⟨b, hb, h⟩ | h)
          · exact ⟨b, by omega, h⟩
          · exact ⟨i, by omega, h⟩
        · rintro ⟨b, hb, h⟩
          rcases Nat.lt_succ_iff_lt_or_eq.1 hb with h3 | h3
          · exact .inl ⟨b, h3, h⟩
          · subst h3; exact .inr h
      · simp only
        rw [List.map_append, h2]
        simp [hyes, hscc]
theorem parts_cls {n : Nat} {es : List (Nat × Nat)} (hl : Low n es) (hn : n ≤ 64) : (prtM (adjB es) n).2.map bitsOf = clsM n (bothE es) := by
  rw [adjB_adj]
  exact (parts_step hl hn (Nat.le_refl n)).2
theorem lev_rev {n : Nat} {es : List (Nat × Nat)} (hl : Low n es) (hn : n ≤ 64) {u v : Nat} (hu : u < n) (hv : v < n) : (lev (adj es) (sing v) 64).testBit u = (lev (adj (makeL n (revE es))) (sing u) 64).testBit v := by
  have h64 := low_up hl hn
  rw [adj_make (revE_low hl), Bool.eq_iff_iff, ← rc_lev (fun i => adj_under h64 i) (by omega), ← rc_lev (fun i => adj_under (low_up (revE_low hl) hn) i) (by omega), rc_rev h64]
end Go.Proofs.YthocdmlacfejkaaDoor
