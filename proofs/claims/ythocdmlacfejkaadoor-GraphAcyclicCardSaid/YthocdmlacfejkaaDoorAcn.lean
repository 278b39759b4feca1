/- A cycle is found exactly if there is one, and it is one; the condensation has none. -/
import Derived.Test.YthocdmlacfejkaaDoorAcm
import Derived.Test.YthocdmlacfejkaaDoorCls
namespace Go.Proofs.YthocdmlacfejkaaDoor
open Go.RowKit
theorem back_rc {n : Nat} {es : List (Nat × Nat)} (hl : Low n es) (hn : n ≤ 64) {a y : Nat} (ha : a < n) : 0 ≤ dist (adjR es) (sing a) y ↔ Rc (adj es) y a := by
  have h64 := low_up hl hn
  rw [dist_lev', ← rc_lev (fun i => adjR_under h64 i) (by omega)]
  exact ⟨fun ⟨k, hk⟩ => ⟨k, hk.turn' h64⟩, fun ⟨k, hk⟩ => ⟨k, hk.turn h64⟩⟩
theorem cyc_none {es : List (Nat × Nat)} {a : Nat} (h : cycM es a = none) : ∀ y, y ∈ bitsOf (adj es a) → dist (adjR es) (sing a) y < 0 := by
  unfold cycM at h
  rcases bestP (dist (adjR es) (sing a)) (bitsOf (adj es a)) with ⟨_, h2⟩ | ⟨b, h1, _⟩
  · exact h2
  · rw [h1] at h; cases h
theorem cycle_none {es : List (Nat × Nat)} : ∀ {k : Nat}, cycleM es k = none → ∀ a, a < k → cycM es a = none
  | 0, _, a, ha => absurd ha (Nat.not_lt_zero a)
  | k + 1, h, a, ha => by
    rw [cycleM] at h
    cases hc : cycM es k with
    | none =>
      rw [hc] at h
      rcases Nat.lt_succ_iff_lt_or_eq.1 ha with e | e
      · exact cycle_none h a e
      · rw [e]; exact hc
    | some l =>
      rw [hc] at h
      simp only at h
      cases hr : cycleM es k with
      | none => rw [hr] at h; cases h
      | some b => rw [hr] at h; simp only at h; split at h <;> cases h
theorem cycle_some {es : List (Nat × Nat)} : ∀ {k : Nat} {l : List Nat}, cycleM es k = some l → ∃ a, a < k ∧ cycM es a = some l
  | 0, _, h => by cases h
  | k + 1, l, h => by
    rw [cycleM] at h
    cases hc : cycM es k with
    | none =>
      rw [hc] at h
      obtain ⟨a, h1, h2⟩ := cycle_some h
      exact ⟨a, by omega, h2⟩
    | some b =>
      rw [hc] at h
      simp only at h
      cases hr : cycleM es k with
      | none => rw [hr] at h; exact ⟨k, by omega, by rw [← h]; exact hc⟩
      | some m =>
        rw [hr] at h
        simp only at h
        obtain ⟨a, h1, h2⟩ := cycle_some hr
        split at h
        · exact ⟨k, by omega, by rw [← h]; exact hc⟩
        · exact ⟨a, by omega, by rw [← h]; exact h2⟩
theorem cyc_yes {n : Nat} {es : List (Nat × Nat)} (hl : Low n es) (hn : n ≤ 64) {a : Nat} (ha : a < n) {l : List Nat} (h : cycM es a = some l) : ∃ b d, (a, b) ∈ es ∧ Rc (adj es) b a ∧ dist (adjR es) (sing a) b = ((d : Nat) : Int) ∧ l = a :: (wayM (adj es) (dist (adjR es) (sing a)) d b).dropLast := by
  unfold cycM at h
  rcases bestP (dist (adjR es) (sing a)) (bitsOf (adj es a)) with ⟨h1, _⟩ | ⟨b, h1, h2, h3, _⟩
  · rw [h1] at h; cases h
  · rw [h1, Option.map_some] at h
    injection h with h
    refine ⟨b, (dist (adjR es) (sing a) b).toNat, adj_bit.1 (mem_bitsOf.1 h2).2, (back_rc hl hn ha).1 h3, ?_, h.symm⟩
    omega
theorem cycle_iff {n : Nat} {es : List (Nat × Nat)} (hl : Low n es) (hn : n ≤ 64) : cycleM es n = none ↔ Acyc es := by
  constructor
  · intro h x y he hr
    have hx : x < n := (hl _ he).1
    have h1 := cyc_none (cycle_none h x hx) y (mem_bitsOf.2 ⟨by have := (hl _ he).2; simp only at this; omega, adj_bit.2 he⟩)
    have h2 := (back_rc hl hn hx).2 hr
    omega
  · intro h
    cases hc : cycleM es n with
    | none => rfl
    | some l =>
      obtain ⟨a, ha, h1⟩ := cycle_some hc
      obtain ⟨b, d, he, hr, _⟩ := cyc_yes hl hn ha h1
      exact absurd hr (h a b he)
/-- The way down: its distances fall by one at each step. -/
theorem way_down {es : List (Nat × Nat)} (hl : Low 64 es) {s : Nat} : ∀ (d b : Nat), dist (adjR es) s b = ((d : Nat) : Int) → ∀ i, i ≤ d → ∃ v, (wayM (adj es) (dist (adjR es) s) d b)[i]? = some v ∧ dist (adjR es) s v = ((d - i : Nat) : Int) ∧ (i < d → ∃ u, (wayM (adj es) (dist (adjR es) s) d b)[i + 1]? = some u ∧ (v, u) ∈ es)
  | 0, b, h, i, hi => by
    have : i = 0 := by omega
    subst this
    exact ⟨b, rfl, h, fun h => absurd h (Nat.lt_irrefl _)⟩
  | d + 1, b, h, i, hi => by
    rw [wayM]
    obtain ⟨n, hn1, hn2⟩ := dist_down hl h
    cases hf : (bitsOf (adj es b)).find? (fun n => dist (adjR es) s n == (d : Int)) with
    | none =>
      have := List.find?_eq_none.1 hf n hn1
      rw [hn2] at this
      simp at this
    | some c =>
      have hc1 := List.find?_some hf
      simp only [beq_iff_eq] at hc1
      have hc2 := List.mem_of_find?_eq_some hf
      rw [Option.getD_some]
      cases i with
      | zero =>
        refine ⟨b, rfl, h, fun _ => ⟨c, ?_, adj_bit.1 (mem_bitsOf.1 hc2).2⟩⟩
        rw [List.getElem?_cons_succ, wayM_head]
        rfl
      | succ i =>
        obtain ⟨v, h1, h2, h3⟩ := way_down hl d c hc1 i (by omega)
        refine ⟨v, by rw [List.getElem?_cons_succ]; exact h1, ?_, fun hi => ?_⟩
        · rw [h2]; congr 1; omega
        · obtain ⟨u, h4, h5⟩ := h3 (by omega)
          exact ⟨u, by rw [List.getElem?_cons_succ]; exact h4, h5⟩
theorem dist_self {L : Nat → Nat} {a v : Nat} : dist L (sing a) v = ((0 : Nat) : Int) ↔ v = a := by
  unfold dist
  rw [distTo_iff, lev, sing_bit, decide_eq_true_eq]
  exact ⟨fun h => h.2.1.symm, fun h => ⟨by omega, h.symm, fun i hi => absurd hi (Nat.not_lt_zero _)⟩⟩
/-- What the search returns is a cycle. -/
theorem cycle_ok {n : Nat} {es : List (Nat × Nat)} (hl : Low n es) (hn : n ≤ 64) {l : List Nat} (h : cycleM es n = some l) : 0 < l.length ∧ ∀ {k v : Nat}, l[k]? = some v → (∃ u, l[(k + 1) % l.length]? = some u ∧ (v, u) ∈ es) ∧ v ∉ l.take k := by
  obtain ⟨a, ha, h1⟩ := cycle_some h
  obtain ⟨b, d, he, _, hd, hll⟩ := cyc_yes hl hn ha h1
  have h64 := low_up hl hn
  have hlen : l.length = d + 1 := by rw [hll, List.length_cons, List.length_dropLast, wayM_len]; omega
  have hW := way_down h64 d b hd
  have h0 : l[0]? = some a := by rw [hll]; rfl
  have hS : ∀ i, i < d → l[i + 1]? = (wayM (adj es) (dist (adjR es) (sing a)) d b)[i]? := fun i hi => by
    rw [hll, List.getElem?_cons_succ, List.dropLast_eq_take, wayM_len, List.getElem?_take_of_lt (by omega)]
  have hD : ∀ {i v : Nat}, l[i]? = some v → (i = 0 ∧ v = a) ∨ (0 < i ∧ i ≤ d ∧ dist (adjR es) (sing a) v = ((d + 1 - i : Nat) : Int)) := fun {i v} hv => by
    cases i with
    | zero => rw [h0] at hv; injection hv with hv; exact .inl ⟨rfl, hv.symm⟩
    | succ i =>
      have hi : i + 1 < l.length := by
        rcases Nat.lt_or_ge (i + 1) l.length with h | h
        · exact h
        · rw [List.getElem?_eq_none h] at hv; cases hv
      rw [hS i (by omega)] at hv
      obtain ⟨u, h2, h3, _⟩ := hW i (by omega)
      rw [h2] at hv
      injection hv with hv
      subst hv
      refine .inr ⟨by omega, by omega, ?_⟩
      rw [h3]; congr 1; omega
  refine ⟨by omega, fun {k v} hv => ⟨?_, fun hm => ?_⟩⟩
  · have hk : k < l.length := by
      rcases Nat.lt_or_ge k l.length with h | h
      · exact h
      · rw [List.getElem?_eq_none h] at hv; cases hv
    cases k with
    | zero =>
      rw [h0] at hv
      injection hv with hv
      subst hv
      rcases Nat.eq_zero_or_pos d with e | e
      · subst e
        have hb := dist_self.1 hd
        subst hb
        refine ⟨b, ?_, he⟩
        rw [hlen]; exact h0
      · refine ⟨b, ?_, he⟩
        rw [hlen, Nat.mod_eq_of_lt (by omega), hS 0 e, wayM_head]
        rfl
    | succ k =>
      rw [hS k (by omega)] at hv
      obtain ⟨u, h2, h3, h4⟩ := hW k (by omega)
      rw [h2] at hv
      injection hv with hv
      subst hv
      obtain ⟨w, h5, h6⟩ := h4 (by omega)
      refine ⟨w, ?_, h6⟩
      rcases Nat.lt_or_ge (k + 1) d with e | e
      · rw [hlen, Nat.mod_eq_of_lt (by omega), hS (k + 1) e]; exact h5
      · have e : k + 1 = d := by omega
        obtain ⟨w', h7, h8, _⟩ := hW d (Nat.le_refl d)
        rw [e, h7] at h5
        injection h5 with h5
        subst h5
        rw [Nat.sub_self] at h8
        rw [dist_self.1 h8, hlen, e, Nat.mod_self]
        exact h0
  · obtain ⟨j, hj, e⟩ := List.getElem_of_mem hm
    rw [List.length_take] at hj
    rw [List.getElem_take] at e
    have hj2 : l[j]? = some v := by rw [List.getElem?_eq_getElem (by omega), e]
    rcases hD hv with ⟨h2, _⟩ | ⟨h2, h3, h4⟩
    · omega
    · rcases hD hj2 with ⟨h5, h6⟩ | ⟨h5, h6, h7⟩
      · rw [h6, dist_self.2 rfl] at h4
        omega
      · rw [h4] at h7
        omega
theorem ofC_in {C : List (List Nat)} {v : Nat} : ∀ {i}, (∃ j, j < i ∧ (C.getD j []).contains v = true) → (C.getD (ofC C i v) []).contains v = true
  | 0, ⟨j, hj, _⟩ => absurd hj (Nat.not_lt_zero j)
  | i + 1, ⟨j, hj, h⟩ => by
    rw [ofC]
    by_cases e : (C.getD i []).contains v = true
    · rw [if_pos e]; exact e
    · rw [if_neg e]
      refine ofC_in ⟨j, ?_, h⟩
      rcases Nat.lt_succ_iff_lt_or_eq.1 hj with h1 | h1
      · exact h1
      · subst h1; exact absurd h e
theorem ofC_congr {C : List (List Nat)} {u v : Nat} (h : ∀ j, (C.getD j []).contains u = (C.getD j []).contains v) : ∀ i, ofC C i u = ofC C i v
  | 0 => rfl
  | i + 1 => by rw [ofC, ofC, h i, ofC_congr h i]
theorem cls_getD {n : Nat} {es : List (Nat × Nat)} (hl : Low n es) (hn : n ≤ 64) {j u v : Nat} (hu : ((clsM n es).getD j []).contains u = true) (hv : v < n) : ((clsM n es).getD j []).contains v = true ↔ Rc (adj es) u v ∧ Rc (adj es) v u := by
  rcases Nat.lt_or_ge j (clsM n es).length with hj | hj
  · rw [List.getD_eq_getElem?_getD, List.getElem?_eq_getElem hj, Option.getD_some] at hu ⊢
    have hm := List.getElem_mem hj
    obtain ⟨l, hl2⟩ : ∃ l, (clsM n es)[j] = l := ⟨_, rfl⟩
    rw [hl2] at hu hm ⊢
    unfold clsM at hm
    obtain ⟨a, ha, hm⟩ := List.mem_flatMap.1 hm
    have ha := List.mem_range.1 ha
    split at hm
    · rw [List.mem_singleton] at hm
      rw [hm, List.contains_iff_mem, mem_scc hl hn ha] at hu
      rw [hm, List.contains_iff_mem, mem_scc hl hn ha]
      exact ⟨fun h => ⟨hu.2.2.trans h.2.1, h.2.2.trans hu.2.1⟩, fun h => ⟨hv, hu.2.1.trans h.1, h.2.trans hu.2.2⟩⟩
    · cases hm
  · rw [List.getD_eq_getElem?_getD, List.getElem?_eq_none hj, Option.getD_none] at hu
    cases hu
theorem of_iff {n : Nat} {es : List (Nat × Nat)} (hl : Low n es) (hn : n ≤ 64) {u v : Nat} (hu : u < n) (hv : v < n) : ofN n es u = ofN n es v ↔ Rc (adj es) u v ∧ Rc (adj es) v u := by
  unfold ofN
  constructor
  · intro h
    have h1 := ofC_in (cls_has hl hn hu)
    have h2 := ofC_in (cls_has hl hn hv)
    rw [← h] at h2
    exact (cls_getD hl hn h1 hv).1 h2
  · intro h
    refine ofC_congr (fun j => ?_) _
    rw [Bool.eq_iff_iff]
    constructor
    · intro h1; exact (cls_getD hl hn h1 hv).2 h
    · intro h1; exact (cls_getD hl hn h1 hu).2 ⟨h.2, h.1⟩
theorem mem_cd {n : Nat} {es : List (Nat × Nat)} {i j : Nat} : (i, j) ∈ cdE n es ↔ ∃ x y, (x, y) ∈ es ∧ ofN n es x ≠ ofN n es y ∧ ofN n es x = i ∧ ofN n es y = j := by
  unfold cdE cdM
  rw [List.mem_map]
  constructor
  · rintro ⟨⟨x, y⟩, h, e⟩
    rw [List.mem_filter, decide_eq_true_eq] at h
    injection e with e1 e2
    exact ⟨x, y, h.1, h.2, e1, e2⟩
  · rintro ⟨x, y, h1, h2, h3, h4⟩
    refine ⟨(x, y), ?_, by rw [← h3, ← h4]⟩
    rw [List.mem_filter, decide_eq_true_eq]
    exact ⟨h1, h2⟩
theorem cd_lift {n : Nat} {es : List (Nat × Nat)} (hl : Low n es) (hn : n ≤ 64) {y : Nat} (hy : y < n) : ∀ {k j : Nat}, Walk (adj (cdE n es)) k (ofN n es y) j → ∃ v, v < n ∧ ofN n es v = j ∧ Rc (adj es) y v
  | _, _, .here _ => ⟨y, hy, rfl, Rc.refl _ _⟩
  | _, _, .more hw _ h2 => by
    obtain ⟨v, hv, e, hr⟩ := cd_lift hl hn hy hw
    obtain ⟨a, b, hab, _, ea, eb⟩ := mem_cd.1 (adj_bit.1 h2)
    have hlow := hl _ hab
    simp only at hlow
    have := (of_iff hl hn hv hlow.1).1 (by rw [e, ea])
    exact ⟨b, hlow.2, eb, hr.trans (this.1.trans (Rc.edge (by omega) (adj_bit.2 hab)))⟩
theorem cd_acyc {n : Nat} {es : List (Nat × Nat)} (hl : Low n es) (hn : n ≤ 64) : Acyc (cdE n es) := fun i j he => fun ⟨_, hw⟩ => by
  obtain ⟨x, y, hxy, hne, ex, ey⟩ := mem_cd.1 he
  have hlow := hl _ hxy
  simp only at hlow
  subst ex ey
  obtain ⟨v, hv, e, hr⟩ := cd_lift hl hn hlow.2 hw
  have h1 := (of_iff hl hn hv hlow.1).1 e
  exact hne ((of_iff hl hn hlow.1 hlow.2).2 ⟨Rc.edge (by omega) (adj_bit.2 hxy), hr.trans h1.1⟩)
theorem acyc_make {n : Nat} {es : List (Nat × Nat)} (hl : Low n es) : Acyc (makeL n es) ↔ Acyc es := by
  unfold Acyc
  rw [adj_make hl]
  exact ⟨fun h x y he => h x y ((mem_make hl).2 he), fun h x y he => h x y ((mem_make hl).1 he)⟩
/-- The condensation has an order. -/
theorem cd_ord {n : Nat} {es : List (Nat × Nat)} (hl : Low n es) (hn : n ≤ 64) : Fine (clsM n es).length (makeL (clsM n es).length (cdE n es)) ∧ ordC (makeL (clsM n es).length (cdE n es)) (clsM n es).length = 0 := by
  have hK : (clsM n es).length ≤ 64 := Nat.le_trans (cls_len n es) hn
  have hc := cd_low hl hn
  have hF := made_fine hc hK
  obtain ⟨l, h⟩ := (ord_iff hF.low hK).2 ((acyc_make hc).2 (cd_acyc hl hn))
  exact ⟨hF, (ord_yes h).1⟩
theorem ord_cyc {n : Nat} {es : List (Nat × Nat)} (hl : Low n es) (hn : n ≤ 64) : (∃ l, ordC es n = 0 ∧ cylE es n = 10 ∧ ordLs es n = l ∧ l.length = n ∧ l.Nodup ∧ (∀ v ∈ l, v < n) ∧ ∀ e ∈ es, l.idxOf e.1 < l.idxOf e.2) ∨
    ∃ l, ordC es n = 30 ∧ cylE es n = 0 ∧ cylL es n = l ∧ 0 < l.length ∧ ∀ k v, l[k]? = some v → (∃ u, l[(k + 1) % l.length]? = some u ∧ (v, u) ∈ es) ∧ v ∉ l.take k := by
  cases ho : ordO es n n 0 with
  | some l =>
    have hc := (cycle_iff hl hn).2 ((ord_iff hl hn).1 ⟨l, ho⟩)
    refine .inl ⟨l, (ord_yes ho).1, by unfold cylE; rw [hc], (ord_yes ho).2, ordO_len ho, ord_nodup ho, fun v hv => (ord_in ho).1 hv, fun e he => ord_fwd hl ho he⟩
  | none =>
    cases hc : cycleM es n with
    | none =>
      obtain ⟨l, h⟩ := (ord_iff hl hn).2 ((cycle_iff hl hn).1 hc)
      rw [ho] at h; cases h
    | some l =>
      obtain ⟨h1, h2⟩ := cycle_ok hl hn hc
      exact .inr ⟨l, (ord_no ho).1, by unfold cylE; rw [hc], by unfold cylL; rw [hc]; rfl, h1, fun k v hv => h2 hv⟩
end Go.Proofs.YthocdmlacfejkaaDoor
