/- A graph has an order exactly if it has no cycle. -/
import Derived.Test.YthocdmlacfejkaaDoorGor
import Derived.Test.YthocdmlacfejkaaDoorCnm
import Derived.Test.YthocdmlacfejkaaDoorPtm
namespace Go.Proofs.YthocdmlacfejkaaDoor
open Go.RowKit
/-- No edge lies on a way back to its start. -/
def Acyc (es : List (Nat × Nat)) : Prop := ∀ x y, (x, y) ∈ es → ¬ Rc (adj es) y x
theorem len_sub : ∀ {l m : List Nat}, l.Nodup → (∀ x ∈ l, x ∈ m) → l.length ≤ m.length
  | [], _, _, _ => Nat.zero_le _
  | a :: l, m, h, hs => by
    rw [List.nodup_cons] at h
    have ha := hs a (List.mem_cons_self ..)
    have h1 := len_sub (l := l) (m := m.erase a) h.2 fun x hx => (List.mem_erase_of_ne fun (e : x = a) => h.1 (by rw [← e]; exact hx)).2 (hs x (List.mem_cons_of_mem _ hx))
    rw [List.length_erase_of_mem ha] at h1
    have := List.length_pos_of_mem ha
    rw [List.length_cons]
    omega
theorem full_of {l : List Nat} {n : Nat} (h : l.Nodup) (hl : ∀ x ∈ l, x < n) (hn : l.length = n) {v : Nat} (hv : v < n) : v ∈ l := by
  refine Classical.byContradiction fun hm => ?_
  have := len_sub (l := v :: l) (m := List.range n) (List.nodup_cons.2 ⟨hm, h⟩) fun x hx => by
    rw [List.mem_range]
    rcases List.mem_cons.1 hx with e | e
    · rw [e]; exact hv
    · exact hl x e
  rw [List.length_cons, List.length_range] at this
  omega
theorem ok_iff {es : List (Nat × Nat)} {d v : Nat} : okO es d v = true ↔ d.testBit v = false ∧ ∀ x, (x, v) ∈ es → d.testBit x = true := by
  unfold okO
  rw [Bool.and_eq_true, beq_iff_eq, Bool.not_eq_true']
  constructor
  · rintro ⟨h1, h2⟩
    refine ⟨h1, fun x hx => ?_⟩
    have := congrArg (fun s => s.testBit x) h2
    simp only [diff_bit, Nat.zero_testBit, adjR_bit.2 hx, Bool.true_and, Bool.not_eq_false'] at this
    exact this
  · rintro ⟨h1, h2⟩
    refine ⟨h1, Nat.eq_of_testBit_eq fun x => ?_⟩
    rw [diff_bit, Nat.zero_testBit]
    cases e : (adjR es v).testBit x with
    | false => rfl
    | true => rw [h2 x (adjR_bit.1 e)]; rfl
theorem done_up {d v x : Nat} : (d ||| sing v).testBit x = true ↔ d.testBit x = true ∨ v = x := by
  rw [Nat.testBit_or, sing_bit, Bool.or_eq_true, decide_eq_true_eq]
theorem ord_next {es : List (Nat × Nat)} {n d v : Nat} (h : nextO es n d = some v) : v < n ∧ okO es d v = true :=
  ⟨nextO_lt h, by unfold nextO at h; exact List.find?_some h⟩
theorem ord_spec {es : List (Nat × Nat)} {n : Nat} : ∀ {k d : Nat} {l : List Nat}, ordO es n k d = some l → ∀ {i v : Nat}, l[i]? = some v → v < n ∧ d.testBit v = false ∧ v ∉ l.take i ∧ ∀ x, (x, v) ∈ es → d.testBit x = true ∨ x ∈ l.take i
  | 0, d, l, h, i, v, hv => by
    rw [ordO] at h; injection h with h; rw [← h] at hv; cases hv
  | k + 1, d, l, h, i, v, hv => by
    cases hn : nextO es n d with
    | none => rw [ordO_none hn] at h; cases h
    | some u =>
      rw [ordO_some hn] at h
      cases ho : ordO es n k (d ||| sing u) with
      | none => rw [ho] at h; cases h
      | some l' =>
        rw [ho, Option.map_some] at h
        injection h with h
        obtain ⟨hun, hok⟩ := ord_next hn
        obtain ⟨hud, hup⟩ := ok_iff.1 hok
        rw [← h] at hv ⊢
        cases i with
        | zero =>
          rw [List.getElem?_cons_zero] at hv
          injection hv with hv
          rw [← hv]
          exact ⟨hun, hud, by simp, fun x hx => .inl (hup x hx)⟩
        | succ i =>
          rw [List.getElem?_cons_succ] at hv
          obtain ⟨h1, h2, h3, h4⟩ := ord_spec ho hv
          rw [List.take_succ_cons]
          have hvd : d.testBit v = false ∧ u ≠ v := by
            constructor
            · cases e : d.testBit v with
              | false => rfl
              | true => rw [done_up.2 (.inl e)] at h2; cases h2
            · intro e
              rw [done_up.2 (.inr e)] at h2; cases h2
          refine ⟨h1, hvd.1, fun hm => ?_, fun x hx => ?_⟩
          · rcases List.mem_cons.1 hm with e | e
            · exact hvd.2 e.symm
            · exact h3 e
          · rcases h4 x hx with e | e
            · rcases done_up.1 e with e | e
              · exact .inl e
              · exact .inr (by rw [e]; exact List.mem_cons_self ..)
            · exact .inr (List.mem_cons_of_mem _ e)
theorem nodup_of : ∀ {l : List Nat}, (∀ i v, l[i]? = some v → v ∉ l.take i) → l.Nodup
  | [], _ => List.nodup_nil
  | a :: l, h => by
    rw [List.nodup_cons]
    refine ⟨fun hm => ?_, nodup_of fun i v hv hm => ?_⟩
    · obtain ⟨j, hj, e⟩ := List.getElem_of_mem hm
      refine h (j + 1) a (by rw [List.getElem?_cons_succ, List.getElem?_eq_getElem hj, e]) ?_
      rw [List.take_succ_cons]
      exact List.mem_cons_self ..
    · refine h (i + 1) v (by rw [List.getElem?_cons_succ]; exact hv) ?_
      rw [List.take_succ_cons]
      exact List.mem_cons_of_mem _ hm
theorem ord_nodup {es : List (Nat × Nat)} {n : Nat} {l : List Nat} (h : ordO es n n 0 = some l) : l.Nodup := nodup_of fun _ _ hv => (ord_spec h hv).2.2.1
theorem ord_in {es : List (Nat × Nat)} {n : Nat} {l : List Nat} (h : ordO es n n 0 = some l) {v : Nat} : v ∈ l ↔ v < n := by
  have hlt : ∀ x ∈ l, x < n := fun x hx => by
    obtain ⟨j, hj, e⟩ := List.getElem_of_mem hx
    exact (ord_spec h (by rw [List.getElem?_eq_getElem hj, e])).1
  exact ⟨hlt v, full_of (ord_nodup h) hlt (ordO_len h)⟩
/-- In the order, the edge's start stands before its end. -/
theorem ord_fwd {es : List (Nat × Nat)} {n : Nat} (hl : Low n es) {l : List Nat} (h : ordO es n n 0 = some l) {x y : Nat} (he : (x, y) ∈ es) : l.idxOf x < l.idxOf y := by
  have hy := (ord_in h).2 (hl _ he).2
  have hlt := List.idxOf_lt_length_of_mem hy
  have hget : l[l.idxOf y]? = some y := by rw [List.getElem?_eq_getElem hlt, List.getElem_idxOf hlt]
  obtain ⟨_, _, _, h4⟩ := ord_spec h hget
  rcases h4 x he with e | e
  · rw [Nat.zero_testBit] at e; cases e
  · have h5 := List.idxOf_lt_length_of_mem e
    rw [List.length_take] at h5
    have h6 : l.idxOf x = (l.take (l.idxOf y)).idxOf x := by
      conv => lhs; rw [← List.take_append_drop (l.idxOf y) l]
      rw [List.idxOf_append, if_pos e]
    omega
theorem ord_acyc {es : List (Nat × Nat)} {n : Nat} (hl : Low n es) {l : List Nat} (h : ordO es n n 0 = some l) : Acyc es := fun x y he => fun ⟨_, hw⟩ => by
  have h1 := ord_fwd hl h he
  have h2 := Walk.stays (S := fun v => l.idxOf y ≤ l.idxOf v) (fun a b ha hab => Nat.le_of_lt (Nat.lt_of_le_of_lt ha (ord_fwd hl h (adj_bit.1 hab)))) (Nat.le_refl _) hw
  omega
theorem min_node {es : List (Nat × Nat)} {n : Nat} (hl : Low n es) (hn : n ≤ 64) (ha : Acyc es) (d : Nat) : ∀ (q u : Nat), u < n → d.testBit u = false → (List.range n).countP (fun v => (lev (adj es) (sing v) 64).testBit u) ≤ q → ∃ v, v < n ∧ okO es d v = true
  | q, u, hu, hd, hq => by
    by_cases hok : okO es d u = true
    · exact ⟨u, hu, hok⟩
    · have hex : ∃ x, (x, u) ∈ es ∧ d.testBit x = false := by
        refine Classical.byContradiction fun hne => hok (ok_iff.2 ⟨hd, fun x hx => ?_⟩)
        cases e : d.testBit x with
        | true => rfl
        | false => exact absurd ⟨x, hx, e⟩ hne
      obtain ⟨x, hx, hxd⟩ := hex
      have hxn : x < n := (hl _ hx).1
      have hL := fun i => adj_under (low_up hl hn) i
      have hlt := countP_lt (l := List.range n) (p := fun v => (lev (adj es) (sing v) 64).testBit x) (q := fun v => (lev (adj es) (sing v) 64).testBit u)
        (fun v hv h => by
          have hv := List.mem_range.1 hv
          exact (rc_lev hL (by omega)).1 (((rc_lev hL (by omega)).2 h).trans (Rc.edge (by omega) (adj_bit.2 hx))))
        ⟨u, List.mem_range.2 hu, (rc_lev hL (by omega)).1 (Rc.refl _ _), by
          cases e : (lev (adj es) (sing u) 64).testBit x with
          | false => rfl
          | true => exact absurd ((rc_lev hL (by omega)).2 e) (ha x u hx)⟩
      cases q with
      | zero => omega
      | succ q => exact min_node hl hn ha d q x hxn hxd (by omega)
theorem ord_ex {es : List (Nat × Nat)} {n : Nat} (hl : Low n es) (hn : n ≤ 64) (ha : Acyc es) : ∀ (k d : Nat) (p : List Nat), p.length + k ≤ n → (∀ v, d.testBit v = true → v ∈ p) → ∃ l, ordO es n k d = some l
  | 0, _, _, _, _ => ⟨[], rfl⟩
  | k + 1, d, p, hp, hd => by
    have hex : ∃ u, u < n ∧ d.testBit u = false := by
      refine Classical.byContradiction fun hne => ?_
      have := len_sub (l := List.range n) (m := p) List.nodup_range fun x hx => hd x (by
        cases e : d.testBit x with
        | true => rfl
        | false => exact absurd ⟨x, List.mem_range.1 hx, e⟩ hne)
      rw [List.length_range] at this
      omega
    obtain ⟨u, hu, hud⟩ := hex
    obtain ⟨v, hv, hok⟩ := min_node hl hn ha d _ u hu hud (Nat.le_refl _)
    cases hno : nextO es n d with
    | none =>
      unfold nextO at hno
      exact absurd hok (by simpa using List.find?_eq_none.1 hno v (List.mem_range.2 hv))
    | some w =>
      obtain ⟨l, ho⟩ := ord_ex hl hn ha k (d ||| sing w) (w :: p) (by rw [List.length_cons]; omega) fun x hx => by
        rcases done_up.1 hx with e | e
        · exact List.mem_cons_of_mem _ (hd x e)
        · rw [e]; exact List.mem_cons_self ..
      exact ⟨w :: l, by rw [ordO_some hno, ho]; rfl⟩
theorem ord_iff {es : List (Nat × Nat)} {n : Nat} (hl : Low n es) (hn : n ≤ 64) : (∃ l, ordO es n n 0 = some l) ↔ Acyc es :=
  ⟨fun ⟨_, h⟩ => ord_acyc hl h, fun h => ord_ex hl hn h n 0 [] (by rw [List.length_nil]; omega) fun v hv => by rw [Nat.zero_testBit] at hv; cases hv⟩
end Go.Proofs.YthocdmlacfejkaaDoor
