/- What is reached contains a component that no edge leaves. -/
import Derived.Test.YthocdmlacfejkaaDoorMH
import Derived.Test.YthocdmlacfejkaaDoorMF
import Derived.Test.YthocdmlacfejkaaDoorTj
import Derived.Test.YthocdmlacfejkaaDoorLvs
namespace Go.Proofs.YthocdmlacfejkaaDoor
open Go.RowKit
theorem mem_reach {n : Nat} {es : List (Nat × Nat)} {l : List Nat} {v : Nat} : v ∈ reachL n es l ↔ v < n ∧ (lev (adj es) (setI (zs l)) 64).testBit v = true := by
  unfold reachL
  rw [List.mem_filter, List.mem_range, reachB_iff]
theorem reach_step {n : Nat} {es : List (Nat × Nat)} {l : List Nat} (hl : Low n es) (hn : n ≤ 64) (h : ∀ a ∈ l, a < n) {x y : Nat} (hx : x ∈ reachL n es l) (he : (adj es x).testBit y = true) : y ∈ reachL n es l := by
  rw [mem_reach] at hx ⊢
  refine ⟨adj_under hl x y he, ?_⟩
  have h1 : (lev (adj es) (setI (zs l)) 65).testBit y = true := by
    rw [lev, Nat.testBit_or, Bool.or_eq_true]
    exact .inr (step_bit.2 ⟨x, by omega, hx.2, he⟩)
  have h2 := lev_full (adj_under hl) (setI_in h) 65 (by omega)
  have h3 := lev_full (adj_under hl) (setI_in h) 64 hn
  rw [h2, ← h3] at h1
  exact h1
theorem reach_rc {n : Nat} {es : List (Nat × Nat)} {l : List Nat} (hl : Low n es) (hn : n ≤ 64) (h : ∀ a ∈ l, a < n) {x y : Nat} (hx : x ∈ reachL n es l) : Rc (adj es) x y → y ∈ reachL n es l := fun ⟨_, hw⟩ =>
  Walk.stays (S := fun x => x ∈ reachL n es l) (fun _ _ hx he => reach_step hl hn h hx he) hx hw
theorem reach_shut {n : Nat} {es : List (Nat × Nat)} {l : List Nat} (hl : Low n es) (hn : n ≤ 64) (h : ∀ a ∈ l, a < n) : es.any (outE (setI (zs (reachL n es l)))) = false := by
  rw [List.any_eq_false]
  rintro ⟨x, y⟩ he ho
  simp only [outE, Bool.and_eq_true, Bool.not_eq_true'] at ho
  have hx := setI_bit.1 ho.1
  have hy := setI_bit.2 (reach_step hl hn h hx (adj_bit.2 he))
  rw [ho.2] at hy
  cases hy
theorem own_same {n : Nat} {es : List (Nat × Nat)} (hl : Low n es) (hn : n ≤ 64) {q : Nat → Bool} : (!es.any (outE (setI (zs ((List.range n).filter q))))) = (zs (reachL n es ((List.range n).filter q)) == zs ((List.range n).filter q)) := by
  have hin : ∀ a ∈ (List.range n).filter q, a < n := fun a ha => List.mem_range.1 (List.mem_filter.1 ha).1
  cases hc : es.any (outE (setI (zs ((List.range n).filter q)))) with
  | false =>
    have e : reachL n es ((List.range n).filter q) = (List.range n).filter q := by
      unfold reachL
      apply List.filter_congr
      intro v hv
      rw [Bool.eq_iff_iff, reachB_iff, lev_closed hc, setI_bit, List.mem_filter]
      simp [List.mem_range.1 hv]
    rw [e]
    simp
  | true =>
    have hne : zs (reachL n es ((List.range n).filter q)) ≠ zs ((List.range n).filter q) := fun e => by
      have e2 := zs_inj e
      have := reach_shut hl hn hin
      rw [e2, hc] at this
      cases this
    have : (zs (reachL n es ((List.range n).filter q)) == zs ((List.range n).filter q)) = false := beq_eq_false_iff_ne.2 hne
    rw [this]; rfl
theorem mut_same {n : Nat} {es : List (Nat × Nat)} (hl : Low n es) (hn : n ≤ 64) {a b : Nat} (ha : a < n) (hb : b < n) (h : mutE es a b = true) : sccL n es a = sccL n es b := by
  unfold sccL
  apply List.filter_congr
  intro v hv
  have hv := List.mem_range.1 hv
  obtain ⟨h1, h2⟩ := (mut_iff hl hn ha hb).1 h
  rw [Bool.eq_iff_iff, mut_iff hl hn ha hv, mut_iff hl hn hb hv]
  exact ⟨fun ⟨h3, h4⟩ => ⟨h2.trans h3, h4.trans h1⟩, fun ⟨h3, h4⟩ => ⟨h1.trans h3, h4.trans h2⟩⟩
theorem mem_scc {n : Nat} {es : List (Nat × Nat)} (hl : Low n es) (hn : n ≤ 64) {a v : Nat} (ha : a < n) : v ∈ sccL n es a ↔ v < n ∧ Rc (adj es) a v ∧ Rc (adj es) v a := by
  unfold sccL
  rw [List.mem_filter, List.mem_range]
  constructor
  · rintro ⟨h1, h2⟩; exact ⟨h1, (mut_iff hl hn ha h1).1 h2⟩
  · rintro ⟨h1, h2⟩; exact ⟨h1, (mut_iff hl hn ha h1).2 h2⟩
theorem scc_cls {n : Nat} {es : List (Nat × Nat)} (hl : Low n es) (hn : n ≤ 64) {x : Nat} (hx : x < n) : sccL n es x ∈ clsM n es := by
  have hmem : x ∈ sccL n es x := (mem_scc hl hn hx).2 ⟨hx, Rc.refl _ _, Rc.refl _ _⟩
  cases hh : sccL n es x with
  | nil => rw [hh] at hmem; cases hmem
  | cons a r =>
    have ha : a ∈ sccL n es x := by rw [hh]; exact List.mem_cons_self ..
    obtain ⟨han, h1, h2⟩ := (mem_scc hl hn hx).1 ha
    have e := mut_same hl hn hx han ((mut_iff hl hn hx han).2 ⟨h1, h2⟩)
    unfold clsM
    rw [List.mem_flatMap]
    refine ⟨a, List.mem_range.2 han, ?_⟩
    rw [← e, hh, if_pos (by rfl)]
    simp
theorem setI_bits {c : Nat} (hc : c < 18446744073709551616) : setI (zs (bitsOf c)) = c := by
  apply Nat.eq_of_testBit_eq
  intro i
  rw [Bool.eq_iff_iff, setI_bit, mem_bitsOf]
  exact ⟨fun h => h.2, fun h => ⟨lt_under (k := 64) hc i h, h⟩⟩
theorem leaf_find {n : Nat} {es : List (Nat × Nat)} (hl : Low n es) (hn : n ≤ 64) {l : List Nat} (h : ∀ a ∈ l, a < n) {out : List Nat} (ho64 : ∀ x ∈ out, x < 18446744073709551616) (ho : out.map bitsOf = clsM n es) :
    ∀ (k x : Nat), x ∈ reachL n es l → (List.range n).countP (fun v => (lev (adj es) (sing x) 64).testBit v) ≤ k → ((sinkM es out).map bitsOf).any (insL (reachL n es l)) = true
  | k, x, hx, hk => by
    have hL : ∀ i, Under 64 (adj es i) := fun i v hv => Nat.lt_of_lt_of_le (adj_under hl i v hv) hn
    have hxn : x < n := (mem_reach.1 hx).1
    by_cases hall : ∀ y, y < n → Rc (adj es) x y → Rc (adj es) y x
    · have hm := scc_cls hl hn hxn
      rw [← ho] at hm
      obtain ⟨c, hc, hce⟩ := List.mem_map.1 hm
      have hcb : ∀ v, c.testBit v = true ↔ v < n ∧ Rc (adj es) x v ∧ Rc (adj es) v x := fun v => by
        rw [← mem_scc hl hn hxn, ← hce, mem_bitsOf]
        exact ⟨fun h => ⟨lt_under (k := 64) (ho64 c hc) v h, h⟩, fun h => h.2⟩
      have hs : (lev (adj es) c 64 == c) = true := by
        rw [beq_iff_eq]
        apply Nat.eq_of_testBit_eq
        intro v
        rw [Bool.eq_iff_iff]
        refine ⟨fun hv => ?_, fun hv => lev_up (Nat.zero_le _) v hv⟩
        obtain ⟨a, ha, hav⟩ := lev_from.1 hv
        obtain ⟨ha1, ha2, _⟩ := (hcb a).1 ha
        have h1 := ha2.trans ((rc_lev hL (by omega)).2 hav)
        have hvn := rc_under hl hxn h1
        exact (hcb v).2 ⟨hvn, h1, hall v hvn h1⟩
      refine List.any_eq_true.2 ⟨bitsOf c, List.mem_map.2 ⟨c, List.mem_filter.2 ⟨hc, hs⟩, rfl⟩, ?_⟩
      unfold insL
      rw [Bool.and_eq_true, decide_eq_true_eq, Bool.not_eq_true', List.any_eq_false, hce]
      refine ⟨List.length_pos_iff.2 (fun e => ?_), fun v hv => ?_⟩
      · have := (mem_scc hl hn hxn).2 ⟨hxn, Rc.refl _ _, Rc.refl _ _⟩
        rw [e] at this
        cases this
      · have := reach_rc hl hn h hx ((mem_scc hl hn hxn).1 hv).2.1
        simp [this]
    · obtain ⟨y, hy⟩ := Classical.not_forall.1 hall
      obtain ⟨hyn, hy⟩ := Classical.not_imp.1 hy
      obtain ⟨hxy, hyx⟩ := Classical.not_imp.1 hy
      have hlt := countP_lt (l := List.range n) (p := fun v => (lev (adj es) (sing y) 64).testBit v) (q := fun v => (lev (adj es) (sing x) 64).testBit v) (fun v _ hv => (rc_lev hL (by omega)).1 (hxy.trans ((rc_lev hL (by omega)).2 hv))) ⟨x, List.mem_range.2 hxn, (rc_lev hL (by omega)).1 (Rc.refl _ _), by
        cases e : (lev (adj es) (sing y) 64).testBit x with
        | false => rfl
        | true => exact absurd ((rc_lev hL (by omega)).2 e) hyx⟩
      have hy2 := reach_rc hl hn h hx hxy
      cases k with
      | zero => omega
      | succ k => exact leaf_find hl hn h ho64 ho k y hy2 (by omega)
theorem leaf_all {n : Nat} {es : List (Nat × Nat)} (hl : Low n es) (hn : n ≤ 64) {l : List Nat} (h : ∀ a ∈ l, a < n) {out : List Nat} (ho64 : ∀ x ∈ out, x < 18446744073709551616) (ho : out.map bitsOf = clsM n es) :
    ((sinkM es out).map bitsOf).any (insL (reachL n es l)) = decide (0 < (reachL n es l).length) := by
  cases hr : reachL n es l with
  | nil =>
    have : ((sinkM es out).map bitsOf).any (insL []) = false := by
      rw [List.any_eq_false]
      intro s _ hs
      unfold insL at hs
      rw [Bool.and_eq_true, decide_eq_true_eq, Bool.not_eq_true', List.any_eq_false] at hs
      cases s with
      | nil => simp at hs
      | cons a s =>
        have := hs.2 a (List.mem_cons_self ..)
        simp at this
    rw [this]; rfl
  | cons x r =>
    rw [← hr, leaf_find hl hn h ho64 ho _ x (by rw [hr]; exact List.mem_cons_self ..) (Nat.le_refl _), hr]
    simp
end Go.Proofs.YthocdmlacfejkaaDoor
