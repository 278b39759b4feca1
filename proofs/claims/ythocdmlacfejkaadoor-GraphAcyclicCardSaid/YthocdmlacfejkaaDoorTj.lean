/- The search for components finds them: Tarjan's argument. -/
import Derived.Test.YthocdmlacfejkaaDoorMD
namespace Go.Proofs.YthocdmlacfejkaaDoor
open Go.RowKit
theorem Walk.trans {L : Nat → Nat} {a b j : Nat} (h : Walk L j a b) : ∀ {k c : Nat}, Walk L k b c → Walk L (j + k) a c
  | _, _, .here _ => h
  | _, _, .more hw h1 h2 => (Walk.trans h hw).more h1 h2
/-- A node reaches another one. -/
def Rc (L : Nat → Nat) (x y : Nat) : Prop := ∃ k, Walk L k x y
theorem Rc.refl (L : Nat → Nat) (x : Nat) : Rc L x x := ⟨0, .here x⟩
theorem Rc.trans {L : Nat → Nat} {x y z : Nat} : Rc L x y → Rc L y z → Rc L x z := fun ⟨_, h⟩ ⟨_, k⟩ => ⟨_, h.trans k⟩
theorem Rc.edge {L : Nat → Nat} {x y : Nat} (hx : x < 64) (h : (L x).testBit y = true) : Rc L x y := ⟨1, (Walk.here x).more hx h⟩
theorem Walk.stays {L : Nat → Nat} {S : Nat → Prop} (h : ∀ x y, S x → (L x).testBit y = true → S y) {x : Nat} (hx : S x) : ∀ {k y : Nat}, Walk L k x y → S y
  | _, _, .here _ => hx
  | _, _, .more hw _ h2 => h _ _ (Walk.stays h hx hw) h2
theorem getD_put {l : List Int} {n x : Nat} {v : Int} (hn : n < l.length) : (l.set n v).getD x 0 = if x = n then v else l.getD x 0 := by
  rw [List.getD_eq_getElem?_getD, List.getD_eq_getElem?_getD, List.getElem?_set]
  by_cases h : n = x
  · subst h; simp [hn]
  · rw [if_neg h, if_neg (fun e => h e.symm)]
def InF (s : St) (x : Nat) : Prop := ∃ c ∈ s.found, c.testBit x = true
def wh (s : St) : Nat := (List.range 64).countP fun x => s.low.getD x 0 == 0
structure TInv (L : Nat → Nat) (s : St) (gray : List Nat) (num : Nat → Nat) : Prop where
  len : s.low.length = 64
  on64 : s.on < 18446744073709551616
  onway : ∀ x, s.on.testBit x = true ↔ x ∈ s.way
  way64 : ∀ x ∈ s.way, x < 64
  white : ∀ x, x < 64 → (s.low.getD x 0 ≠ 0 ↔ x ∈ s.way ∨ InF s x)
  inc : s.way.Pairwise (fun x y => num x < num y)
  numv : ∀ x ∈ s.way, 1 ≤ num x ∧ num x ≤ s.vis
  lowv : ∀ x ∈ s.way, ∃ y ∈ s.way, s.low.getD x 0 = (num y : Int) ∧ num y ≤ num x ∧ Rc L x y
  fcomp : ∀ c ∈ s.found, (∃ x, c.testBit x = true) ∧ ∀ x, c.testBit x = true → x < 64 ∧ ∀ y, c.testBit y = true ↔ Rc L x y ∧ Rc L y x
  fway : ∀ x, InF s x → x ∉ s.way
  fdis : s.found.Pairwise (fun c d => ∀ x, c.testBit x = true → d.testBit x = false)
  fclosed : ∀ x y, InF s x → (L x).testBit y = true → InF s y
  black : ∀ x ∈ s.way, x ∉ gray → ∀ y, (L x).testBit y = true → s.low.getD y 0 ≠ 0
  grayway : ∀ g ∈ gray, g ∈ s.way
  togray : ∀ x ∈ s.way, ∃ g ∈ gray, num g ≤ num x ∧ Rc L x g
  up : ∀ x ∈ s.way, ∀ y ∈ s.way, num x ≤ num y → Rc L x y
  cnt : s.vis + wh s = 64
  cnt2 : s.found.length + s.way.length ≤ s.vis
/-- What a visit leaves as it was. -/
structure Ext (s t : St) (num num' : Nat → Nat) : Prop where
  low : ∀ x, x < 64 → s.low.getD x 0 ≠ 0 → t.low.getD x 0 = s.low.getD x 0
  num : ∀ x, x < 64 → s.low.getD x 0 ≠ 0 → num' x = num x
  found : ∀ x, InF s x → InF t x
theorem inc_inj {num : Nat → Nat} : ∀ {l : List Nat}, l.Pairwise (fun x y => num x < num y) → ∀ {x y : Nat}, x ∈ l → y ∈ l → num x = num y → x = y
  | [], _, _, _, h, _, _ => by cases h
  | a :: l, hp, x, y, hx, hy, e => by
    rw [List.pairwise_cons] at hp
    rcases List.mem_cons.1 hx with h1 | h1
    · rcases List.mem_cons.1 hy with h2 | h2
      · rw [h1, h2]
      · have := hp.1 y h2; rw [h1] at e; omega
    · rcases List.mem_cons.1 hy with h2 | h2
      · have := hp.1 x h1; rw [h2] at e; omega
      · exact inc_inj hp.2 h1 h2 e
theorem wh_le {s t : St} (h : ∀ x, x < 64 → s.low.getD x 0 ≠ 0 → t.low.getD x 0 ≠ 0) : wh t ≤ wh s := by
  unfold wh
  refine List.countP_mono_left fun x hx h1 => ?_
  have hx64 := List.mem_range.1 hx
  rw [beq_iff_eq] at h1 ⊢
  exact Classical.byContradiction fun hn => h x hx64 hn h1
theorem wh_eq {s t : St} (h : ∀ x, x < 64 → (s.low.getD x 0 = 0 ↔ t.low.getD x 0 = 0)) : wh t = wh s :=
  Nat.le_antisymm (wh_le fun x hx hn e => hn ((h x hx).2 e)) (wh_le fun x hx hn e => hn ((h x hx).1 e))
theorem wh_put {s : St} {n : Nat} {v : Int} (hl : s.low.length = 64) (hn : n < 64) (h0 : s.low.getD n 0 = 0) (hv : v ≠ 0) {t : St} (ht : t.low = s.low.set n v) : wh t + 1 ≤ wh s := by
  unfold wh
  refine countP_lt (fun x hx h1 => ?_) ⟨n, List.mem_range.2 hn, beq_iff_eq.2 h0, ?_⟩
  · rw [ht, getD_put (by omega), beq_iff_eq] at h1
    rw [beq_iff_eq]
    by_cases e : x = n
    · rw [e]; exact h0
    · rwa [if_neg e] at h1
  · rw [ht, getD_put (by omega), if_pos rfl]; exact beq_eq_false_iff_ne.2 hv
theorem wh_put_le {s : St} {n : Nat} {v : Int} (hl : s.low.length = 64) (hn : n < 64) {t : St} (ht : t.low = s.low.set n v) : wh s ≤ wh t + 1 := by
  unfold wh
  have : ∀ l : List Nat, l.Nodup → l.countP (fun x => s.low.getD x 0 == 0) ≤ l.countP (fun x => t.low.getD x 0 == 0) + if n ∈ l then 1 else 0 := by
    intro l
    induction l with
    | nil => simp
    | cons a l ih =>
      intro hd
      rw [List.nodup_cons] at hd
      have ih := ih hd.2
      rw [List.countP_cons, List.countP_cons]
      by_cases e : a = n
      · subst e
        rw [if_neg hd.1] at ih
        rw [if_pos (List.mem_cons_self ..)]
        have : (if (s.low.getD a 0 == 0) = true then 1 else 0) ≤ 1 := by split <;> omega
        omega
      · have e1 : t.low.getD a 0 = s.low.getD a 0 := by rw [ht, getD_put (by omega), if_neg e]
        rw [e1]
        have e2 : (if n ∈ a :: l then 1 else 0) = if n ∈ l then 1 else 0 := by
          have e3 : n ≠ a := fun h => e h.symm
          simp [List.mem_cons, e3]
        rw [e2]
        omega
  have h := this (List.range 64) List.nodup_range
  rw [if_pos (List.mem_range.2 hn)] at h
  exact h
theorem popM_all {node : Nat} {w0 : List Nat} : ∀ (f : Nat) (seg : List Nat) (c : Nat), seg.length + 2 ≤ f → (∀ x ∈ node :: seg, x < 64 ∧ c.testBit x = false) → (node :: seg).Nodup →
    ∃ d, popM node f (w0 ++ node :: seg) c = some (w0, d) ∧ ∀ x, d.testBit x = true ↔ c.testBit x = true ∨ x ∈ node :: seg
  | 0, seg, c, h, _, _ => by omega
  | f + 1, seg, c, hf, hx, hd => by
    have hn := hx node (List.mem_cons_self ..)
    rw [popM, if_neg (by simp [hn.2])]
    rcases List.eq_nil_or_concat seg with rfl | ⟨sg, z, rfl⟩
    · rw [List.getLast?_concat]
      have hg : ¬ (64 ≤ node ∨ c.testBit node = true) := fun h => by
        rcases h with h | h
        · omega
        · rw [hn.2] at h; cases h
      simp only [hg, if_false, List.dropLast_concat]
      obtain ⟨g, rfl⟩ : ∃ g, f = g + 1 := ⟨f - 1, by simp at hf; omega⟩
      refine ⟨c ||| sing node, ?_, fun x => ?_⟩
      · rw [popM, if_pos]
        rw [Nat.testBit_or, sing_bit]; simp
      · rw [Nat.testBit_or, sing_bit, Bool.or_eq_true, decide_eq_true_eq]
        rw [List.mem_singleton, eq_comm (a := node)]
    · rw [List.concat_eq_append] at *
      have e : w0 ++ node :: (sg ++ [z]) = (w0 ++ node :: sg) ++ [z] := by simp
      rw [e, List.getLast?_concat]
      have hz := hx z (by simp)
      have hg : ¬ (64 ≤ z ∨ c.testBit z = true) := fun h => by
        rcases h with h | h
        · omega
        · rw [hz.2] at h; cases h
      simp only [hg, if_false, List.dropLast_concat]
      have hd' : (node :: sg).Nodup ∧ z ∉ node :: sg := by
        have e2 : node :: (sg ++ [z]) = (node :: sg) ++ [z] := rfl
        rw [e2, List.nodup_append] at hd
        exact ⟨hd.1, fun hm => hd.2.2 z hm z (by simp) rfl⟩
      obtain ⟨d, h1, h2⟩ := popM_all f sg (c ||| sing z) (by simp at hf; omega) (fun x hxm => ⟨(hx x (by simp at hxm ⊢; rcases hxm with h | h <;> simp [h])).1, by
        rw [Nat.testBit_or, sing_bit, (hx x (by simp at hxm ⊢; rcases hxm with h | h <;> simp [h])).2]
        have : z ≠ x := fun e => hd'.2 (e ▸ hxm)
        simp [this]⟩) hd'.1
      refine ⟨d, h1, fun x => ?_⟩
      rw [h2, Nat.testBit_or, sing_bit, Bool.or_eq_true, decide_eq_true_eq]
      simp only [List.mem_cons, List.mem_append, List.not_mem_nil, or_false]
      constructor
      · rintro ((h | h) | h | h)
        · exact .inl h
        · exact .inr (.inr (.inr h.symm))
        · exact .inr (.inl h)
        · exact .inr (.inr (.inl h))
      · rintro (h | h | h | h)
        · exact .inl (.inl h)
        · exact .inr (.inl h)
        · exact .inr (.inr h)
        · exact .inl (.inr h.symm)
/-- Between two successors of a node. -/
structure Mid (L : Nat → Nat) (s t : St) (gray : List Nat) (num0 num : Nat → Nat) (node N : Nat) (w0 l : List Nat) : Prop where
  inv : TInv L t (gray ++ [node]) num
  way : ∃ seg, t.way = w0 ++ node :: seg
  numN : num node = N
  low0 : ∀ x ∈ w0, num x < N
  ext : ∀ x, x < 64 → s.low.getD x 0 ≠ 0 → t.low.getD x 0 = s.low.getD x 0 ∧ num x = num0 x
  fnd : ∀ x, InF s x → InF t x
  done : ∀ y, (L node).testBit y = true → y ∉ l → t.low.getD y 0 ≠ 0 ∧ (y ∈ t.way → t.low.getD node 0 ≤ (num y : Int))
  cross : ∀ u ∈ t.way, u ∉ w0 → u ≠ node → ∀ v ∈ w0, (L u).testBit v = true → t.low.getD node 0 ≤ (num v : Int)
  gn : node < 64 ∧ node ∉ w0 ∧ (∀ g ∈ gray, g ∈ w0) ∧ s.low.getD node 0 = 0
  whd : wh t + 1 ≤ wh s
/-- What a visit ends in. -/
structure Vst (L : Nat → Nat) (s t : St) (gray : List Nat) (num num' : Nat → Nat) (node : Nat) : Prop where
  inv : TInv L t gray num'
  ext : Ext s t num num'
  way : ∃ seg, t.way = s.way ++ seg
  on : (node ∈ t.way ∧ node ∉ s.way) ∨ t.way = s.way
  seen : t.low.getD node 0 ≠ 0
  cross : ∀ u ∈ t.way, u ∉ s.way → ∀ v ∈ s.way, (L u).testBit v = true → t.low.getD node 0 ≤ (num v : Int)
theorem TInv.way_low {L : Nat → Nat} {s : St} {gray : List Nat} {num : Nat → Nat} (h : TInv L s gray num) {x : Nat} (hx : x ∈ s.way) : s.low.getD x 0 ≠ 0 ∧ 1 ≤ s.low.getD x 0 ∧ s.low.getD x 0 ≤ (num x : Int) := by
  obtain ⟨y, hy, e, h1, _⟩ := h.lowv x hx
  have := (h.numv y hy).1
  rw [e]
  omega
theorem TInv.nodup {L : Nat → Nat} {s : St} {gray : List Nat} {num : Nat → Nat} (h : TInv L s gray num) : s.way.Nodup := h.inc.imp fun h e => by rw [e] at h; omega
/-- A node is entered. -/
theorem TInv.enter {L : Nat → Nat} (hL : ∀ i, Under 64 (L i)) {s : St} {gray : List Nat} {num : Nat → Nat} {node : Nat} (h : TInv L s gray num) (hn : node < 64) (h0 : s.low.getD node 0 = 0) (hg : ∀ g ∈ gray, Rc L g node) :
    Mid L s (inM node s) gray num (fun x => if x = node then s.vis + 1 else num x) node (s.vis + 1) s.way (bitsOf (L node)) ∧ node ∉ s.way := by
  have hw : node ∉ s.way := fun hm => (h.way_low hm).1 h0
  have hf : ¬ InF s node := fun hf => ((h.white node hn).2 (.inr hf)) h0
  have hne : ∀ x ∈ s.way, x ≠ node := fun x hx e => hw (e ▸ hx)
  have hlow : ∀ x, (inM node s).low.getD x 0 = if x = node then ((s.vis + 1 : Nat) : Int) else s.low.getD x 0 := fun x => getD_put (by rw [h.len]; exact hn)
  have hway : (inM node s).way = s.way ++ [node] := rfl
  have hfd : ∀ x, InF (inM node s) x ↔ InF s x := fun x => Iff.rfl
  have hnum : ∀ x ∈ s.way, (if x = node then s.vis + 1 else num x) = num x := fun x hx => if_neg (hne x hx)
  have hto : ∀ x ∈ s.way, Rc L x node := fun x hx => by
    obtain ⟨g, hgm, _, hr⟩ := h.togray x hx
    exact hr.trans (hg g hgm)
  have hwh : wh (inM node s) + 1 ≤ wh s := wh_put h.len hn h0 (v := ((s.vis + 1 : Nat) : Int)) (by omega) rfl
  have hwh2 : wh s ≤ wh (inM node s) + 1 := wh_put_le h.len hn (v := ((s.vis + 1 : Nat) : Int)) rfl
  refine ⟨⟨⟨?_, ?_, ?_, ?_, ?_, ?_, ?_, ?_, h.fcomp, ?_, h.fdis, h.fclosed, ?_, ?_, ?_, ?_, ?_, ?_⟩, ⟨[], by rw [hway]⟩, if_pos rfl, ?_, ?_, fun x hx => hx, ?_, ?_, ⟨hn, hw, h.grayway, h0⟩, hwh⟩, hw⟩
  · show (s.low.set node _).length = 64
    rw [List.length_set]; exact h.len
  · exact or_lt h.on64 (sing_lt hn)
  · intro x
    show (s.on ||| sing node).testBit x = true ↔ _
    rw [Nat.testBit_or, sing_bit, Bool.or_eq_true, decide_eq_true_eq, h.onway, hway, List.mem_append, List.mem_singleton, eq_comm (a := node)]
  · intro x hx
    rw [hway, List.mem_append, List.mem_singleton] at hx
    rcases hx with hx | hx
    · exact h.way64 x hx
    · omega
  · intro x hx
    rw [hlow, hway, List.mem_append, List.mem_singleton, hfd]
    by_cases e : x = node
    · rw [if_pos e]
      exact ⟨fun _ => .inl (.inr e), fun _ => by omega⟩
    · rw [if_neg e, h.white x hx]
      simp [e]
  · rw [hway, List.pairwise_append]
    refine ⟨List.Pairwise.imp_of_mem (fun ha hb hab => by rw [hnum _ ha, hnum _ hb]; exact hab) h.inc, List.pairwise_singleton _ _, fun a ha b hb => ?_⟩
    rw [List.mem_singleton] at hb
    rw [hnum a ha, if_pos hb]
    have := (h.numv a ha).2
    omega
  · intro x hx
    rw [hway, List.mem_append, List.mem_singleton] at hx
    show _ ∧ _ ≤ s.vis + 1
    rcases hx with hx | hx
    · rw [hnum x hx]; have := h.numv x hx; omega
    · rw [if_pos hx]; omega
  · intro x hx
    rw [hway] at hx ⊢
    rw [List.mem_append, List.mem_singleton] at hx
    rcases hx with hx | hx
    · obtain ⟨y, hy, e, h1, h2⟩ := h.lowv x hx
      refine ⟨y, List.mem_append_left _ hy, ?_, ?_, h2⟩
      · rw [hlow, if_neg (hne x hx), hnum y hy]; exact e
      · rw [hnum x hx, hnum y hy]; exact h1
    · refine ⟨node, by simp, ?_, ?_, ?_⟩
      · rw [hlow, if_pos hx, if_pos rfl]
      · rw [if_pos rfl, if_pos hx]; omega
      · rw [hx]; exact Rc.refl _ _
  · intro x hx hm
    rw [hway, List.mem_append, List.mem_singleton] at hm
    rcases hm with hm | hm
    · exact h.fway x hx hm
    · exact hf (hm ▸ hx)
  · intro x hx hng y hy
    rw [hlow]
    by_cases e : y = node
    · rw [if_pos e]; omega
    · rw [if_neg e]
      rw [hway, List.mem_append, List.mem_singleton] at hx
      rw [List.mem_append, List.mem_singleton] at hng
      rcases hx with hx | hx
      · exact h.black x hx (fun hg => hng (.inl hg)) y hy
      · exact absurd (.inr hx) hng
  · intro g hgm
    rw [hway]
    rw [List.mem_append, List.mem_singleton] at hgm ⊢
    rcases hgm with hgm | hgm
    · exact .inl (h.grayway g hgm)
    · exact .inr hgm
  · intro x hx
    rw [hway, List.mem_append, List.mem_singleton] at hx
    rcases hx with hx | hx
    · obtain ⟨g, hgm, h1, h2⟩ := h.togray x hx
      exact ⟨g, List.mem_append_left _ hgm, by rw [hnum x hx, hnum g (h.grayway g hgm)]; exact h1, h2⟩
    · exact ⟨node, by simp, by rw [hx]; exact Nat.le_refl _, by rw [hx]; exact Rc.refl _ _⟩
  · intro x hx y hy hxy
    rw [hway, List.mem_append, List.mem_singleton] at hx hy
    rcases hx with hx | hx
    · rcases hy with hy | hy
      · rw [hnum x hx, hnum y hy] at hxy
        exact h.up x hx y hy hxy
      · rw [hy]; exact hto x hx
    · rcases hy with hy | hy
      · rw [if_pos hx, hnum y hy] at hxy
        have := (h.numv y hy).2
        omega
      · rw [hx, hy]; exact Rc.refl _ _
  · show s.vis + 1 + wh (inM node s) = 64
    have := h.cnt
    omega
  · show s.found.length + (s.way ++ [node]).length ≤ s.vis + 1
    rw [List.length_append, List.length_singleton]
    have := h.cnt2
    omega
  · intro x hx
    rw [hnum x hx]
    have := (h.numv x hx).2
    omega
  · intro x hx hxn
    have e : x ≠ node := fun e => hxn (e ▸ h0)
    rw [hlow, if_neg e, if_neg e]
    exact ⟨rfl, rfl⟩
  · intro y hy hl
    exact absurd (mem_bitsOf.2 ⟨hL _ _ hy, hy⟩) hl
  · intro u hu h1 h2
    rw [hway, List.mem_append, List.mem_singleton] at hu
    rcases hu with hu | hu
    · exact absurd hu h1
    · exact absurd hu h2
theorem TInv.lower {L : Nat → Nat} {t : St} {gray : List Nat} {num : Nat → Nat} {node n : Nat} (h : TInv L t gray num) (hn : node ∈ t.way) (hm : n ∈ t.way) (he : (L node).testBit n = true) :
    TInv L { t with low := t.low.set node (min (t.low.getD node 0) (t.low.getD n 0)) } gray num := by
  have hlow : ∀ x, (t.low.set node (min (t.low.getD node 0) (t.low.getD n 0))).getD x 0 = if x = node then min (t.low.getD node 0) (t.low.getD n 0) else t.low.getD x 0 := fun x => getD_put (by rw [h.len]; exact h.way64 node hn)
  have hz : ∀ x, ((t.low.set node (min (t.low.getD node 0) (t.low.getD n 0))).getD x 0 ≠ 0 ↔ t.low.getD x 0 ≠ 0) := fun x => by
    rw [hlow]
    by_cases e : x = node
    · subst e
      rw [if_pos rfl]
      have h1 := (h.way_low hn).2.1
      have h2 := (h.way_low hm).2.1
      constructor <;> intro _ <;> omega
    · rw [if_neg e]
  refine ⟨?_, h.on64, h.onway, h.way64, fun x hx => (hz x).trans (h.white x hx), h.inc, h.numv, ?_, h.fcomp, h.fway, h.fdis, h.fclosed, fun x hx hg y hy => (hz y).2 (h.black x hx hg y hy), h.grayway, h.togray, h.up, ?_, h.cnt2⟩
  · show (t.low.set node _).length = 64
    rw [List.length_set]; exact h.len
  · intro x hx
    show ∃ y ∈ t.way, (t.low.set node _).getD x 0 = (num y : Int) ∧ _
    rw [hlow]
    by_cases e : x = node
    · subst e
      rw [if_pos rfl]
      obtain ⟨y, hy, e1, h1, h2⟩ := h.lowv x hx
      rcases Int.le_total (t.low.getD x 0) (t.low.getD n 0) with hle | hle
      · exact ⟨y, hy, by rw [Int.min_eq_left hle]; exact e1, h1, h2⟩
      · obtain ⟨z, hz1, e2, h3, h4⟩ := h.lowv n hm
        exact ⟨z, hz1, by rw [Int.min_eq_right hle]; exact e2, by omega, (Rc.edge (h.way64 x hx) he).trans h4⟩
    · rw [if_neg e]
      exact h.lowv x hx
  · show t.vis + wh _ = 64
    rw [wh_eq (s := t) (t := { t with low := t.low.set node (min (t.low.getD node 0) (t.low.getD n 0)) }) fun x _ => by
      have := hz x
      show t.low.getD x 0 = 0 ↔ (t.low.set node _).getD x 0 = 0
      exact ⟨fun h1 => Classical.byContradiction fun h2 => this.1 h2 h1, fun h1 => Classical.byContradiction fun h2 => this.2 h2 h1⟩]
    exact h.cnt
theorem Mid.node_way {L : Nat → Nat} {s t : St} {gray : List Nat} {num0 num : Nat → Nat} {node N : Nat} {w0 l : List Nat} (h : Mid L s t gray num0 num node N w0 l) : node ∈ t.way := by
  obtain ⟨seg, e⟩ := h.way
  rw [e]; simp
theorem Mid.w0_way {L : Nat → Nat} {s t : St} {gray : List Nat} {num0 num : Nat → Nat} {node N : Nat} {w0 l : List Nat} (h : Mid L s t gray num0 num node N w0 l) {x : Nat} (hx : x ∈ w0) : x ∈ t.way := by
  obtain ⟨seg, e⟩ := h.way
  rw [e]; exact List.mem_append_left _ hx
/-- Behind one successor. -/
theorem Mid.step {L : Nat → Nat} {s t t1 : St} {gray : List Nat} {num0 num num1 : Nat → Nat} {node N n : Nat} {w0 l : List Nat} (h : Mid L s t gray num0 num node N w0 (n :: l)) (_hs : ∀ x ∈ w0, s.low.getD x 0 ≠ 0) (he : (L node).testBit n = true) (i1 : TInv L t1 (gray ++ [node]) num1) (x1 : Ext t t1 num num1) (hw : ∃ seg, t1.way = t.way ++ seg) (hseen : t1.low.getD n 0 ≠ 0)
    (hc : ∀ u ∈ t1.way, u ∉ t.way → ∀ v ∈ t.way, (L u).testBit v = true → n ∈ t1.way ∧ t1.low.getD n 0 ≤ (num v : Int)) :
    Mid L s (if t1.on.testBit n then { t1 with low := t1.low.set node (min (t1.low.getD node 0) (t1.low.getD n 0)) } else t1) gray num0 num1 node N w0 l := by
  have hnw := h.node_way
  obtain ⟨sg, esg⟩ := hw
  have hsub : ∀ x ∈ t.way, x ∈ t1.way := fun x hx => by rw [esg]; exact List.mem_append_left _ hx
  have hnum : ∀ x ∈ t.way, num1 x = num x := fun x hx => x1.num x (h.inv.way64 x hx) (h.inv.way_low hx).1
  have hlowt : ∀ x ∈ t.way, t1.low.getD x 0 = t.low.getD x 0 := fun x hx => x1.low x (h.inv.way64 x hx) (h.inv.way_low hx).1
  have hback : ∀ x, x < 64 → t.low.getD x 0 ≠ 0 → x ∈ t1.way → x ∈ t.way := fun x hx h0 hm => by
    rcases (h.inv.white x hx).1 h0 with h1 | h1
    · exact h1
    · exact absurd hm (i1.fway x (x1.found x h1))
  have hn64 : n < 64 := by
    rcases Nat.lt_or_ge n 64 with h1 | h1
    · exact h1
    · exact absurd (by rw [List.getD_eq_getElem?_getD, List.getElem?_eq_none (by rw [i1.len]; exact h1)]; rfl) hseen
  -- what does not lean on the new value
  have key : ∀ t2 : St, TInv L t2 (gray ++ [node]) num1 → t2.way = t1.way → t2.found = t1.found → (∀ x, x ≠ node → t2.low.getD x 0 = t1.low.getD x 0) → t2.low.getD node 0 ≤ t1.low.getD node 0 → (n ∈ t1.way → t2.low.getD node 0 ≤ t1.low.getD n 0) → Mid L s t2 gray num0 num1 node N w0 l := by
    intro t2 i2 ew ef hne hle hlen
    have hg := h.gn
    have hnode64 := hg.1
    have hfe : ∀ x, InF t2 x ↔ InF t1 x := fun x => by unfold InF; rw [ef]
    have hnz : ∀ x, t1.low.getD x 0 ≠ 0 → t2.low.getD x 0 ≠ 0 := fun x hx => by
      by_cases e : x = node
      · rw [e]; exact (i2.way_low (by rw [ew]; exact hsub _ hnw)).1
      · rw [hne x e]; exact hx
    refine ⟨i2, ?_, ?_, ?_, ?_, ?_, ?_, ?_, hg, ?_⟩
    · obtain ⟨seg, e⟩ := h.way
      exact ⟨seg ++ sg, by rw [ew, esg, e]; simp⟩
    · rw [hnum _ hnw]; exact h.numN
    · intro x hx
      rw [hnum x (h.w0_way hx)]; exact h.low0 x hx
    · intro x hx h0
      obtain ⟨e1, e2⟩ := h.ext x hx h0
      have e : x ≠ node := fun e => h0 (e ▸ hg.2.2.2)
      have h0' : t.low.getD x 0 ≠ 0 := by rw [e1]; exact h0
      exact ⟨by rw [hne x e, x1.low x hx h0', e1], by rw [x1.num x hx h0', e2]⟩
    · exact fun x hx => (hfe x).2 (x1.found x (h.fnd x hx))
    · intro y hy hyl
      by_cases e : y = n
      · subst e
        refine ⟨hnz y hseen, fun hm => ?_⟩
        rw [ew] at hm
        have := hlen hm
        have := (i1.way_low hm).2.2
        omega
      · obtain ⟨h1, h2⟩ := h.done y hy (fun hm => by
          rcases List.mem_cons.1 hm with h3 | h3
          · exact e h3
          · exact hyl h3)
        have hy64 : y < 64 := by
          rcases Nat.lt_or_ge y 64 with h3 | h3
          · exact h3
          · exact absurd (by rw [List.getD_eq_getElem?_getD, List.getElem?_eq_none (by rw [h.inv.len]; exact h3)]; rfl) h1
        refine ⟨hnz y (by rw [x1.low y hy64 h1]; exact h1), fun hm => ?_⟩
        rw [ew] at hm
        have hyt := hback y hy64 h1 hm
        have := h2 hyt
        rw [hnum y hyt]
        have := hlowt node hnw
        omega
    · intro u hu hu0 hun v hv hev
      rw [ew] at hu
      rw [hnum v (h.w0_way hv)]
      by_cases hut : u ∈ t.way
      · have := h.cross u hut hu0 hun v hv hev
        have := hlowt node hnw
        omega
      · obtain ⟨h1, h2⟩ := hc u hu hut v (h.w0_way hv) hev
        have := hlen h1
        omega
    · have h1 : wh t2 ≤ wh t := wh_le fun x hx h0 => hnz x (by rw [x1.low x hx h0]; exact h0)
      have := h.whd
      omega
  by_cases hon : t1.on.testBit n = true
  · rw [if_pos hon]
    have hm := (i1.onway n).1 hon
    have hnode64 := h.gn.1
    have hl : ∀ x, (t1.low.set node (min (t1.low.getD node 0) (t1.low.getD n 0))).getD x 0 = if x = node then min (t1.low.getD node 0) (t1.low.getD n 0) else t1.low.getD x 0 := fun x => getD_put (by rw [i1.len]; exact hnode64)
    refine key _ (i1.lower (hsub _ hnw) hm he) rfl rfl (fun x hx => by show (t1.low.set node _).getD x 0 = _; rw [hl, if_neg hx]) ?_ (fun _ => ?_)
    · show (t1.low.set node _).getD node 0 ≤ _
      rw [hl, if_pos rfl]; omega
    · show (t1.low.set node _).getD node 0 ≤ _
      rw [hl, if_pos rfl]; omega
  · rw [if_neg hon]
    exact key t1 i1 rfl rfl (fun _ _ => rfl) (Int.le_refl _) (fun hm => absurd ((i1.onway n).2 hm) hon)
theorem Mid.split {L : Nat → Nat} {s t : St} {gray : List Nat} {num0 num : Nat → Nat} {node N : Nat} {w0 l seg : List Nat} (h : Mid L s t gray num0 num node N w0 l) (e : t.way = w0 ++ node :: seg) : (∀ x ∈ node :: seg, x ∈ t.way ∧ x ∉ w0 ∧ N ≤ num x) ∧ ∀ x ∈ t.way, x ∈ w0 ∨ x ∈ node :: seg := by
  have hi := h.inv.inc
  rw [e, List.pairwise_append] at hi
  have hN := h.numN
  refine ⟨fun x hx => ⟨by rw [e]; exact List.mem_append_right _ hx, fun hm => ?_, ?_⟩, fun x hx => by rw [e] at hx; exact List.mem_append.1 hx⟩
  · have := hi.2.2 x hm x hx; omega
  · rcases List.mem_cons.1 hx with h1 | h1
    · rw [h1, hN]; exact Nat.le_refl _
    · have := (List.pairwise_cons.1 hi.2.1).1 x h1; omega
/-- The node stays on the way: an earlier node is reached. -/
theorem Mid.stay {L : Nat → Nat} {s t : St} {gray : List Nat} {num0 num : Nat → Nat} {node N : Nat} {w0 : List Nat} (h : Mid L s t gray num0 num node N w0 []) (ew : w0 = s.way) (hi : TInv L s gray num0) (hlt : t.low.getD node 0 < (N : Int)) : Vst L s t gray num0 num node := by
  obtain ⟨seg, e⟩ := h.way
  obtain ⟨hin, hall⟩ := h.split e
  have hnode := hin node (List.mem_cons_self ..)
  have hnd : ∀ x ∈ w0, x ≠ node := fun x hx e => hnode.2.1 (e ▸ hx)
  subst ew
  have hn0 : ∀ v ∈ s.way, num v = num0 v := fun v hv => (h.ext v (hi.way64 v hv) (hi.way_low hv).1).2
  refine ⟨⟨h.inv.len, h.inv.on64, h.inv.onway, h.inv.way64, h.inv.white, h.inv.inc, h.inv.numv, h.inv.lowv, h.inv.fcomp, h.inv.fway, h.inv.fdis, h.inv.fclosed, ?_, fun g hg => h.w0_way (h.gn.2.2.1 g hg), ?_, h.inv.up, h.inv.cnt, h.inv.cnt2⟩, ⟨fun x hx h0 => (h.ext x hx h0).1, fun x hx h0 => (h.ext x hx h0).2, h.fnd⟩, ⟨node :: seg, e⟩, .inl ⟨hnode.1, hnode.2.1⟩, (h.inv.way_low hnode.1).1, ?_⟩
  · intro x hx hxg y hy
    by_cases ex : x = node
    · subst ex; exact (h.done y hy (by simp)).1
    · exact h.inv.black x hx (fun hm => by
        rw [List.mem_append, List.mem_singleton] at hm
        rcases hm with h1 | h1
        · exact hxg h1
        · exact ex h1) y hy
  · intro x hx
    obtain ⟨y, hy, e1, h1, h2⟩ := h.inv.lowv node hnode.1
    have hyN : num y < N := by omega
    obtain ⟨g, hg, h3, h4⟩ := h.inv.togray y hy
    have hgg : g ∈ gray := by
      rw [List.mem_append, List.mem_singleton] at hg
      rcases hg with h5 | h5
      · exact h5
      · rw [h5, h.numN] at h3; omega
    obtain ⟨g2, hg2, h5, h6⟩ := h.inv.togray x hx
    rw [List.mem_append, List.mem_singleton] at hg2
    rcases hg2 with h7 | h7
    · exact ⟨g2, h7, h5, h6⟩
    · rw [h7] at h5 h6
      rw [h.numN] at h5
      exact ⟨g, hgg, by omega, h6.trans (h2.trans h4)⟩
  · intro u hu hus v hv hev
    rw [← hn0 v hv]
    by_cases eu : u = node
    · subst eu
      exact (h.done v hev (by simp)).2 (h.w0_way hv)
    · exact h.cross u hu hus eu v hv hev
/-- The node is the earliest one that it reaches: the way from it on is a component. -/
theorem Mid.leave {L : Nat → Nat} {s t : St} {gray : List Nat} {num0 num : Nat → Nat} {node N : Nat} {w0 seg : List Nat} (h : Mid L s t gray num0 num node N w0 []) (ew : w0 = s.way) (hi : TInv L s gray num0) (hge : ¬ t.low.getD node 0 < (N : Int)) (e : t.way = w0 ++ node :: seg) {c : Nat} (hc : ∀ x, c.testBit x = true ↔ x ∈ node :: seg) :
    Vst L s { t with way := w0, on := diff t.on c, found := t.found ++ [c] } gray num0 num node := by
  obtain ⟨hin, hall⟩ := h.split e
  have hnode := hin node (List.mem_cons_self ..)
  have hg := h.gn
  subst ew
  have hn0 : ∀ v ∈ s.way, num v = num0 v := fun v hv => (h.ext v (hi.way64 v hv) (hi.way_low hv).1).2
  have hcw : ∀ x, c.testBit x = true → x ∈ t.way ∧ x ∉ s.way ∧ N ≤ num x := fun x hx => hin x ((hc x).1 hx)
  have hback : ∀ x ∈ t.way, c.testBit x = true ∨ x ∈ s.way := fun x hx => by
    rcases hall x hx with h1 | h1
    · exact .inr h1
    · exact .inl ((hc x).2 h1)
  have hto : ∀ x, c.testBit x = true → Rc L x node ∧ Rc L node x := fun x hx => by
    have hw := hcw x hx
    refine ⟨?_, h.inv.up node hnode.1 x hw.1 (by rw [h.numN]; exact hw.2.2)⟩
    obtain ⟨g, hgm, _, h2⟩ := h.inv.togray x hw.1
    refine h2.trans (h.inv.up g (h.inv.grayway g hgm) node hnode.1 ?_)
    rw [List.mem_append, List.mem_singleton] at hgm
    rcases hgm with h3 | h3
    · have := h.low0 g (hg.2.2.1 g h3); rw [h.numN]; omega
    · rw [h3]; exact Nat.le_refl _
  have hclosed : ∀ x y, c.testBit x = true → (L x).testBit y = true → c.testBit y = true ∨ InF t y := fun x y hx hy => by
    have hw := hcw x hx
    have hy0 : t.low.getD y 0 ≠ 0 := by
      by_cases ex : x = node
      · subst ex; exact (h.done y hy (by simp)).1
      · refine h.inv.black x hw.1 (fun hm => ?_) y hy
        rw [List.mem_append, List.mem_singleton] at hm
        rcases hm with h1 | h1
        · exact hw.2.1 (hg.2.2.1 x h1)
        · exact ex h1
    have hy64 : y < 64 := by
      rcases Nat.lt_or_ge y 64 with h3 | h3
      · exact h3
      · exact absurd (by rw [List.getD_eq_getElem?_getD, List.getElem?_eq_none (by rw [h.inv.len]; exact h3)]; rfl) hy0
    rcases (h.inv.white y hy64).1 hy0 with h1 | h1
    · rcases hback y h1 with h2 | h2
      · exact .inl h2
      · exfalso
        have h3 := h.low0 y h2
        have h4 : t.low.getD node 0 ≤ (num y : Int) := by
          by_cases ex : x = node
          · subst ex; exact (h.done y hy (by simp)).2 h1
          · exact h.cross x hw.1 hw.2.1 ex y h2 hy
        omega
    · exact .inr h1
  have hnf : ¬ InF t node := fun hf => h.inv.fway node hf hnode.1
  have hfl : ∀ {k x y : Nat}, InF t x → Walk L k x y → InF t y := fun hx hw => hw.stays (S := InF t) h.inv.fclosed hx
  have hscc : ∀ x, c.testBit x = true → ∀ y, c.testBit y = true ↔ Rc L x y ∧ Rc L y x := fun x hx y => by
    constructor
    · intro hy
      exact ⟨(hto x hx).1.trans (hto y hy).2, (hto y hy).1.trans (hto x hx).2⟩
    · rintro ⟨⟨k, hw⟩, hr⟩
      have h1 : c.testBit y = true ∨ InF t y := Walk.stays (S := fun z => c.testBit z = true ∨ InF t z) (fun a b ha hab => by
        rcases ha with ha | ha
        · exact hclosed a b ha hab
        · exact .inr (h.inv.fclosed a b ha hab)) (.inl hx) hw
      rcases h1 with h1 | h1
      · exact h1
      · obtain ⟨j, hj⟩ := hr.trans (hto x hx).1
        exact absurd (hfl h1 hj) hnf
  have hF : ∀ x, InF { t with way := s.way, on := diff t.on c, found := t.found ++ [c] } x ↔ InF t x ∨ c.testBit x = true := fun x => by
    unfold InF
    constructor
    · rintro ⟨d, hd, hx⟩
      rcases List.mem_append.1 hd with h1 | h1
      · exact .inl ⟨d, h1, hx⟩
      · rw [List.mem_singleton] at h1; rw [h1] at hx; exact .inr hx
    · rintro (⟨d, hd, hx⟩ | hx)
      · exact ⟨d, List.mem_append_left _ hd, hx⟩
      · exact ⟨c, by simp, hx⟩
  have hdl : diff t.on c < 18446744073709551616 := Nat.lt_of_le_of_lt (diff_le _ _) h.inv.on64
  refine ⟨⟨h.inv.len, hdl, ?_, hi.way64, ?_, ?_, ?_, ?_, ?_, ?_, ?_, ?_, ?_, hi.grayway, ?_, ?_, h.inv.cnt, ?_⟩, ⟨fun x hx h0 => (h.ext x hx h0).1, fun x hx h0 => (h.ext x hx h0).2, fun x hx => (hF x).2 (.inl (h.fnd x hx))⟩, ⟨[], by simp⟩, .inr rfl, (h.inv.way_low hnode.1).1, ?_⟩
  · intro x
    show (diff t.on c).testBit x = true ↔ x ∈ s.way
    rw [diff_bit, Bool.and_eq_true, Bool.not_eq_true', h.inv.onway]
    constructor
    · rintro ⟨h1, h2⟩
      rcases hback x h1 with h3 | h3
      · rw [h3] at h2; cases h2
      · exact h3
    · intro hx
      refine ⟨h.w0_way hx, ?_⟩
      cases h1 : c.testBit x with
      | false => rfl
      | true => exact absurd hx (hcw x h1).2.1
  · intro x hx
    rw [hF]
    show t.low.getD x 0 ≠ 0 ↔ x ∈ s.way ∨ _
    rw [h.inv.white x hx]
    constructor
    · rintro (h1 | h1)
      · rcases hback x h1 with h2 | h2
        · exact .inr (.inr h2)
        · exact .inl h2
      · exact .inr (.inl h1)
    · rintro (h1 | h1 | h1)
      · exact .inl (h.w0_way h1)
      · exact .inr h1
      · exact .inl (hcw x h1).1
  · have := h.inv.inc
    rw [e, List.pairwise_append] at this
    exact this.1
  · exact fun x hx => h.inv.numv x (h.w0_way hx)
  · intro x hx
    obtain ⟨y, hy, e1, h1, h2⟩ := h.inv.lowv x (h.w0_way hx)
    refine ⟨y, ?_, e1, h1, h2⟩
    rcases hback y hy with h3 | h3
    · have := (hcw y h3).2.2
      have := h.low0 x hx
      omega
    · exact h3
  · intro d hd
    rcases List.mem_append.1 hd with h1 | h1
    · exact h.inv.fcomp d h1
    · rw [List.mem_singleton] at h1
      subst h1
      exact ⟨⟨node, (hc node).2 (List.mem_cons_self ..)⟩, fun x hx => ⟨h.inv.way64 x (hcw x hx).1, hscc x hx⟩⟩
  · intro x hx hm
    rcases (hF x).1 hx with h1 | h1
    · exact h.inv.fway x h1 (h.w0_way hm)
    · exact (hcw x h1).2.1 hm
  · show (t.found ++ [c]).Pairwise _
    rw [List.pairwise_append]
    refine ⟨h.inv.fdis, List.pairwise_singleton _ _, fun a ha b hb x hx => ?_⟩
    rw [List.mem_singleton] at hb
    subst hb
    cases h1 : b.testBit x with
    | false => rfl
    | true => exact absurd (hcw x h1).1 (h.inv.fway x ⟨a, ha, hx⟩)
  · intro x y hx hy
    rw [hF]
    rcases (hF x).1 hx with h1 | h1
    · exact .inl (h.inv.fclosed x y h1 hy)
    · exact (hclosed x y h1 hy).symm
  · intro x hx hxg y hy
    refine h.inv.black x (h.w0_way hx) (fun hm => ?_) y hy
    rw [List.mem_append, List.mem_singleton] at hm
    rcases hm with h1 | h1
    · exact hxg h1
    · exact hnode.2.1 (h1 ▸ hx)
  · intro x hx
    obtain ⟨g, hgm, h1, h2⟩ := h.inv.togray x (h.w0_way hx)
    refine ⟨g, ?_, h1, h2⟩
    rw [List.mem_append, List.mem_singleton] at hgm
    rcases hgm with h3 | h3
    · exact h3
    · rw [h3, h.numN] at h1
      have := h.low0 x hx
      omega
  · exact fun x hx y hy hxy => h.inv.up x (h.w0_way hx) y (h.w0_way hy) hxy
  · have := h.inv.cnt2
    rw [e] at this
    show (t.found ++ [c]).length + s.way.length ≤ t.vis
    rw [List.length_append, List.length_cons] at this
    rw [List.length_append, List.length_singleton]
    omega
  · intro u hu hus
    exact absurd hu hus
theorem TInv.few {L : Nat → Nat} {s : St} {gray : List Nat} {num : Nat → Nat} (h : TInv L s gray num) : s.vis ≤ 64 ∧ s.way.length ≤ 64 ∧ s.found.length ≤ 64 := by
  have h1 := h.cnt
  have h2 := h.cnt2
  omega
theorem go_main {L : Nat → Nat} (hL : ∀ i, Under 64 (L i)) {f : Nat} (IH : ∀ (s : St) (gray : List Nat) (num : Nat → Nat) (node : Nat), TInv L s gray num → node < 64 → s.low.getD node 0 = 0 → (∀ g ∈ gray, Rc L g node) → wh s < f → ∃ t num', visitM L f node s = some t ∧ Vst L s t gray num num' node)
    {s : St} {gray : List Nat} {num0 : Nat → Nat} {node N : Nat} {w0 : List Nat} (hs : ∀ x ∈ w0, s.low.getD x 0 ≠ 0) (hf : wh s ≤ f) : ∀ (l : List Nat) (t : St) (num : Nat → Nat), (∀ n ∈ l, (L node).testBit n = true) → Mid L s t gray num0 num node N w0 l →
    ∃ t' num', goM (visitM L f) node l t = some t' ∧ Mid L s t' gray num0 num' node N w0 []
  | [], t, num, _, h => ⟨t, num, rfl, h⟩
  | n :: l, t, num, hl, h => by
    have he := hl n (List.mem_cons_self ..)
    have hn64 := hL _ _ he
    have fin : ∀ t1 num1, (if t.low.getD n 0 = 0 then visitM L f n t else some t) = some t1 → TInv L t1 (gray ++ [node]) num1 → Mid L s (if t1.on.testBit n then { t1 with low := t1.low.set node (min (t1.low.getD node 0) (t1.low.getD n 0)) } else t1) gray num0 num1 node N w0 l → ∃ t' num', goM (visitM L f) node (n :: l) t = some t' ∧ Mid L s t' gray num0 num' node N w0 [] := by
      intro t1 num1 e1 i1 h1
      obtain ⟨t', num', h2, h3⟩ := go_main hL IH hs hf l _ num1 (fun x hx => hl x (List.mem_cons_of_mem _ hx)) h1
      refine ⟨t', num', ?_, h3⟩
      rw [goM, e1]
      simp only
      rw [if_pos ⟨i1.len, i1.on64⟩]
      exact h2
    by_cases h0 : t.low.getD n 0 = 0
    · obtain ⟨t1, num1, e1, v⟩ := IH t (gray ++ [node]) num n h.inv hn64 h0 (fun g hg => by
        refine (h.inv.up g (h.inv.grayway g hg) node h.node_way ?_).trans (Rc.edge h.gn.1 he)
        rw [List.mem_append, List.mem_singleton] at hg
        rcases hg with h3 | h3
        · have := h.low0 g (h.gn.2.2.1 g h3); rw [h.numN]; omega
        · rw [h3]; exact Nat.le_refl _) (by have := h.whd; omega)
      exact fin t1 num1 (by rw [if_pos h0]; exact e1) v.inv (h.step hs he v.inv v.ext v.way v.seen (fun u hu hut w hw hew => by
        rcases v.on with h1 | h1
        · exact ⟨h1.1, v.cross u hu hut w hw hew⟩
        · rw [h1] at hu; exact absurd hu hut))
    · exact fin t num (by rw [if_neg h0]) h.inv (h.step hs he h.inv ⟨fun _ _ _ => rfl, fun _ _ _ => rfl, fun _ h => h⟩ ⟨[], by simp⟩ h0 (fun u hu hut => absurd hu hut))
theorem visit_main {L : Nat → Nat} (hL : ∀ i, Under 64 (L i)) : ∀ (f : Nat) (s : St) (gray : List Nat) (num : Nat → Nat) (node : Nat), TInv L s gray num → node < 64 → s.low.getD node 0 = 0 → (∀ g ∈ gray, Rc L g node) → wh s < f → ∃ t num', visitM L f node s = some t ∧ Vst L s t gray num num' node
  | 0, _, _, _, _, _, _, _, _, hf => by omega
  | f + 1, s, gray, num, node, h, hn, h0, hg, hf => by
    have hfew := h.few
    have hok : okM node s = true := by
      unfold okM
      simp only [Bool.and_eq_true, decide_eq_true_eq]
      exact ⟨⟨⟨⟨⟨hn, h.len⟩, by omega⟩, by omega⟩, by omega⟩, h.on64⟩
    obtain ⟨hm, _⟩ := h.enter hL hn h0 hg
    obtain ⟨t, num', h1, h2⟩ := go_main hL (visit_main hL f) (fun x hx => (h.way_low hx).1) (by omega) (bitsOf (L node)) (inM node s) _ (fun n hn => (mem_bitsOf.1 hn).2) hm
    rw [visitM, if_pos hok, h1]
    simp only
    by_cases hlt : t.low.getD node 0 < ((s.vis + 1 : Nat) : Int)
    · rw [if_pos hlt]
      exact ⟨t, num', rfl, h2.stay rfl h hlt⟩
    · rw [if_neg hlt]
      obtain ⟨seg, e⟩ := h2.way
      obtain ⟨hin, _⟩ := h2.split e
      have hnd := h2.inv.nodup
      rw [e, List.nodup_append] at hnd
      have hfw := h2.inv.few
      have hlen : seg.length + 2 ≤ 65 := by
        have := hfw.2.1
        rw [e, List.length_append, List.length_cons] at this
        have h3 := h2.inv.cnt2
        have h4 := h2.inv.cnt
        rw [e, List.length_append, List.length_cons] at h3
        omega
      obtain ⟨c, h3, h4⟩ := popM_all (w0 := s.way) 65 seg 0 hlen (fun x hx => ⟨h2.inv.way64 x (hin x hx).1, Nat.zero_testBit x⟩) hnd.2.1
      rw [e, h3]
      simp only
      rw [if_pos (by have := hfw.2.2; omega)]
      exact ⟨_, num', rfl, h2.leave rfl h hlt e (fun x => by rw [h4]; simp)⟩
theorem TInv.start (L : Nat → Nat) : TInv L st0 [] (fun _ => 0) := by
  have hz : ∀ x, st0.low.getD x 0 = 0 := fun x => by
    show (List.replicate 64 (0 : Int)).getD x 0 = 0
    rw [List.getD_eq_getElem?_getD, List.getElem?_replicate]
    split <;> rfl
  have hf : ∀ x, ¬ InF st0 x := fun x ⟨c, hc, _⟩ => by cases hc
  refine ⟨by simp [st0], by decide, fun x => by simp [st0], (fun x hx => by cases hx), fun x _ => ?_, List.Pairwise.nil, (fun x hx => by cases hx), (fun x hx => by cases hx), (fun x hx => by cases hx), fun x hx => absurd hx (hf x), List.Pairwise.nil, fun x y hx => absurd hx (hf x), (fun x hx => by cases hx), (fun x hx => by cases hx), (fun x hx => by cases hx), (fun x hx => by cases hx), by decide +kernel, by decide⟩
  constructor
  · intro h; exact absurd (hz x) h
  · rintro (h | h)
    · cases h
    · exact absurd h (hf x)
theorem TInv.empty {L : Nat → Nat} {s : St} {num : Nat → Nat} (h : TInv L s [] num) : s.way = [] := by
  cases e : s.way with
  | nil => rfl
  | cons x l =>
    obtain ⟨g, hg, _⟩ := h.togray x (by rw [e]; exact List.mem_cons_self ..)
    cases hg
theorem all_main {L : Nat → Nat} (hL : ∀ i, Under 64 (L i)) : ∀ (l : List Nat) (s : St) (num : Nat → Nat), TInv L s [] num → (∀ n ∈ l, n < 64) → ∃ t num', allM L l s = some t ∧ TInv L t [] num' ∧ (∀ n ∈ l, InF t n) ∧ ∀ x, InF s x → InF t x
  | [], s, num, h, _ => ⟨s, num, rfl, h, (fun n hn => by cases hn), fun _ h => h⟩
  | n :: l, s, num, h, hl => by
    have hn := hl n (List.mem_cons_self ..)
    have fin : ∀ t1 num1, (if s.low.getD n 0 = 0 then visitM L 65 n s else some s) = some t1 → TInv L t1 [] num1 → t1.low.getD n 0 ≠ 0 → (∀ x, InF s x → InF t1 x) → ∃ t num', allM L (n :: l) s = some t ∧ TInv L t [] num' ∧ (∀ m ∈ n :: l, InF t m) ∧ ∀ x, InF s x → InF t x := by
      intro t1 num1 e1 i1 hs h1
      obtain ⟨t, num', h2, h3, h4, h5⟩ := all_main hL l t1 num1 i1 (fun x hx => hl x (List.mem_cons_of_mem _ hx))
      refine ⟨t, num', ?_, h3, fun m hm => ?_, fun x hx => h5 x (h1 x hx)⟩
      · rw [allM, e1]; exact h2
      · rcases List.mem_cons.1 hm with h6 | h6
        · rcases (i1.white n hn).1 hs with h7 | h7
          · rw [i1.empty] at h7; cases h7
          · rw [h6]; exact h5 n h7
        · exact h4 m h6
    by_cases h0 : s.low.getD n 0 = 0
    · have hw : wh s < 65 := by have := h.cnt; omega
      obtain ⟨t1, num1, e1, v⟩ := visit_main hL 65 s [] num n h hn h0 (fun g hg => by cases hg) hw
      exact fin t1 num1 (by rw [if_pos h0]; exact e1) v.inv v.seen v.ext.found
    · exact fin s num (by rw [if_neg h0]) h h0 (fun _ h => h)
theorem rc_lev {L : Nat → Nat} (hL : ∀ i, Under 64 (L i)) {a b : Nat} (ha : a < 64) : Rc L a b ↔ (lev L (sing a) 64).testBit b = true := by
  constructor
  · rintro ⟨k, hw⟩
    have h1 : (lev L (sing a) k).testBit b = true := lev_walk.2 ⟨a, k, Nat.le_refl _, by rw [sing_bit]; simp, hw⟩
    rcases Nat.le_total k 64 with h2 | h2
    · exact lev_up h2 b h1
    · rw [lev_full hL (fun i hi => by rw [sing_bit, decide_eq_true_eq] at hi; omega) k h2] at h1
      exact h1
  · intro h
    obtain ⟨x, j, _, hx, hw⟩ := lev_walk.1 h
    rw [sing_bit, decide_eq_true_eq] at hx
    subst hx
    exact ⟨j, hw⟩
/-- Two nodes reach one another. -/
def mutE (es : List (Nat × Nat)) (a b : Nat) : Bool := decide (0 ≤ dist (adj es) (sing a) b) && decide (0 ≤ dist (adj es) (sing b) a)
def sccL (n : Nat) (es : List (Nat × Nat)) (a : Nat) : List Nat := (List.range n).filter (mutE es a)
def clsM (n : Nat) (es : List (Nat × Nat)) : List (List Nat) := (List.range n).flatMap fun a => if (sccL n es a).head? = some a then [sccL n es a] else []
theorem dist_lev' {L : Nat → Nat} {s v : Nat} : 0 ≤ dist L s v ↔ (lev L s 64).testBit v = true := by
  unfold dist
  rcases distTo_cases L s v 65 with ⟨h1, h2⟩ | ⟨j, h0, h1, h2, _⟩
  · rw [h1, h2 64 (by omega)]; simp
  · rw [h1]
    exact ⟨fun _ => lev_up (by omega) v h2, fun _ => by omega⟩
theorem mut_iff {n : Nat} {es : List (Nat × Nat)} (hl : Low n es) (hn : n ≤ 64) {a b : Nat} (ha : a < n) (hb : b < n) : mutE es a b = true ↔ Rc (adj es) a b ∧ Rc (adj es) b a := by
  have hL : ∀ i, Under 64 (adj es i) := fun i v hv => Nat.lt_of_lt_of_le (adj_under hl i v hv) hn
  unfold mutE
  rw [Bool.and_eq_true, decide_eq_true_eq, decide_eq_true_eq, rc_lev hL (by omega), rc_lev hL (by omega), dist_lev', dist_lev']
theorem rc_under {n : Nat} {es : List (Nat × Nat)} (hl : Low n es) {a b : Nat} (ha : a < n) : Rc (adj es) a b → b < n := fun ⟨_, h⟩ =>
  Walk.stays (S := fun x => x < n) (fun x y _ hxy => adj_under hl x y hxy) ha h
theorem filter_one {i c : Nat} {p : Nat → Bool} : ∀ {l : List Nat}, l.Pairwise (fun c d => ∀ x, c.testBit x = true → d.testBit x = false) → c ∈ l → c.testBit i = true → p c = true → (∀ d ∈ l, p d = true → d.testBit i = true) → l.filter p = [c]
  | [], _, h, _, _, _ => by cases h
  | a :: l, hp, hc, hi, hpc, hd => by
    rw [List.pairwise_cons] at hp
    rcases List.mem_cons.1 hc with h1 | h1
    · have hno : ∀ d ∈ l, p d = false := fun d hdm => by
        cases e : p d with
        | false => rfl
        | true =>
          have h2 := hd d (List.mem_cons_of_mem _ hdm) e
          have h3 := hp.1 d hdm i (by rw [← h1]; exact hi)
          rw [h2] at h3; cases h3
      rw [List.filter_cons, if_pos (by rw [← h1]; exact hpc), List.filter_eq_nil_iff.2 (fun d hdm => by rw [hno d hdm]; simp), h1]
    · have ha : p a = false := by
        cases e : p a with
        | false => rfl
        | true =>
          have h2 := hd a (List.mem_cons_self ..) e
          have h3 := hp.1 c h1 i h2
          rw [hi] at h3; cases h3
      rw [List.filter_cons, ha]
      simp only [Bool.false_eq_true, if_false]
      exact filter_one hp.2 h1 hi hpc (fun d hdm => hd d (List.mem_cons_of_mem _ hdm))
theorem filter_upto' {p : Nat → Bool} : ∀ {m n : Nat}, n ≤ m → (∀ v, p v = true → v < n) → (List.range m).filter p = (List.range n).filter p
  | 0, n, h, _ => by obtain rfl : n = 0 := by omega
                     rfl
  | m + 1, n, h, hp => by
    rcases Nat.lt_or_ge m n with h1 | h1
    · obtain rfl : n = m + 1 := by omega
      rfl
    · rw [List.range_succ, List.filter_append, filter_upto' h1 hp]
      have : p m = false := by
        cases e : p m with
        | false => rfl
        | true => have := hp m e; omega
      simp [this]
/-- What the search finds: the classes of nodes that reach one another, in the order of their least nodes. -/
theorem comp_ok {n : Nat} {es : List (Nat × Nat)} (hl : Low n es) (hn : n ≤ 64) : ∃ out, compM es n = some out ∧ (∀ x ∈ out, x < 18446744073709551616) ∧ out.length ≤ 1000 ∧ out.map bitsOf = clsM n es := by
  have hL : ∀ i, Under 64 (adj es i) := fun i v hv => Nat.lt_of_lt_of_le (adj_under hl i v hv) hn
  obtain ⟨t, num, h1, h2, h3, _⟩ := all_main hL (List.range n) st0 _ (TInv.start (adj es)) (fun x hx => by have := List.mem_range.1 hx; omega)
  have hc64 : ∀ c ∈ t.found, c < 18446744073709551616 := fun c hc => under_lt (k := 64) fun x hx => ((h2.fcomp c hc).2 x hx).1
  have hfew := h2.few
  have hbits : ∀ c ∈ t.found, ∀ i, i < n → c.testBit i = true → bitsOf c = sccL n es i := fun c hc i hi hci => by
    have hs := ((h2.fcomp c hc).2 i hci).2
    unfold bitsOf sccL
    rw [filter_upto' hn (fun v hv => rc_under hl hi ((hs v).1 hv).1)]
    apply List.filter_congr
    intro v hv
    rw [Bool.eq_iff_iff, mut_iff hl hn hi (List.mem_range.1 hv)]
    exact hs v
  have hctz : ∀ c ∈ t.found, (bitsOf c).head? = some (Lib.ctz 64 c) ∧ c.testBit (Lib.ctz 64 c) = true := fun c hc => by
    obtain ⟨⟨x, hx⟩, _⟩ := h2.fcomp c hc
    have h0 : c ≠ 0 := fun e => by rw [e, Nat.zero_testBit] at hx; cases hx
    have e := bits_low h0 (hc64 c hc)
    refine ⟨by rw [e]; rfl, ?_⟩
    have : Lib.ctz 64 c ∈ bitsOf c := by rw [e]; exact List.mem_cons_self ..
    exact (mem_bitsOf.1 this).2
  have hout : (ordM n t.found).map bitsOf = clsM n es := by
    unfold ordM clsM
    rw [List.map_flatMap]
    have fm : ∀ (l : List Nat) (f g : Nat → List (List Nat)), (∀ i ∈ l, f i = g i) → l.flatMap f = l.flatMap g := by
      intro l f g
      induction l with
      | nil => intro _; rfl
      | cons a l ih =>
        intro h
        rw [List.flatMap_cons, List.flatMap_cons, h a (List.mem_cons_self ..), ih fun i hi => h i (List.mem_cons_of_mem _ hi)]
    apply fm
    intro i hi
    have hin := List.mem_range.1 hi
    by_cases hh : (sccL n es i).head? = some i
    · rw [if_pos hh]
      obtain ⟨c, hc, hci⟩ := h3 i hi
      have e := hbits c hc i hin hci
      have hz := (hctz c hc).1
      rw [e, hh] at hz
      injection hz with hz
      rw [filter_one (i := i) (c := c) h2.fdis hc hci (by rw [← hz]; simp) (fun d hd hdi => by
        rw [beq_iff_eq] at hdi
        have := (hctz d hd).2
        rw [hdi] at this
        exact this), List.map_singleton, e]
    · rw [if_neg hh, List.filter_eq_nil_iff.2, List.map_nil]
      intro d hd hdi
      rw [beq_iff_eq] at hdi
      obtain ⟨hz, hb⟩ := hctz d hd
      rw [hdi] at hz hb
      rw [hbits d hd i hin hb] at hz
      exact hh hz
  refine ⟨ordM n t.found, ?_, fun x hx => ?_, ?_, hout⟩
  · unfold compM
    rw [h1, Option.bind_some, if_pos]
    rw [Bool.and_eq_true, List.all_eq_true, decide_eq_true_eq]
    exact ⟨fun c hc => decide_eq_true (hc64 c hc), by omega⟩
  · unfold ordM at hx
    obtain ⟨i, _, hx⟩ := List.mem_flatMap.1 hx
    exact hc64 x (List.mem_filter.1 hx).1
  · have e := congrArg List.length hout
    rw [List.length_map] at e
    rw [e]
    unfold clsM
    have : ∀ l : List Nat, (l.flatMap fun a => if (sccL n es a).head? = some a then [sccL n es a] else []).length ≤ l.length := by
      intro l
      induction l with
      | nil => simp
      | cons a l ih =>
        rw [List.flatMap_cons, List.length_append, List.length_cons]
        have h1 : (if (sccL n es a).head? = some a then [sccL n es a] else []).length ≤ 1 := by split <;> simp
        omega
    have := this (List.range n)
    rw [List.length_range] at this
    omega
end Go.Proofs.YthocdmlacfejkaaDoor
