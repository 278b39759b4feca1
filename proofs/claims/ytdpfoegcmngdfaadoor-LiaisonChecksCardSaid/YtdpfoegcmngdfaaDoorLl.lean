/- Liaisons: Cuts. -/
import Derived.Test.YtdpfoegcmngdfaaDoorLj
namespace Go.Proofs.YtdpfoegcmngdfaaDoor
open Go.RowKit Go.Shelf
theorem info_cut : (Tryd.prog.info? 56).map (fun i => (i.zero, i.size, i.bytes)) = some (some (.agg #[.slice none 0 0, .slice none 0 0]), 2, 48) := by kernel_rfl
/-- A cut with the places of its two lists. -/
abbrev Ct := (List Nat × Option Addr × Nat) × (List Nat × Option Addr × Nat)
def cflat (qs : List Ct) : List Value := qs.flatMap fun q => [.slice q.1.2.1 q.1.1.length q.1.2.2, .slice q.2.2.1 q.2.1.length q.2.2.2]
theorem cflat_app (a b : List Ct) : cflat (a ++ b) = cflat a ++ cflat b := by unfold cflat; rw [List.flatMap_append]
theorem RowL.kept {W W' : World} {row : Option Nat} {A : Option Addr} {l : List Nat} (h : RowL W A l) (hg : W.grownBy W' row) (hr : ∀ r, row = some r → ∀ vs : Array Value, W.heap[r]? ≠ some (.cells vs 3)) : RowL W' A l :=
  h.imp id fun ⟨g, vs', e1, hg1, hc⟩ => ⟨g, vs', e1, by
    unfold Row at hg1 ⊢
    exact (hg.block g (Array.getElem?_eq_some_iff.1 hg1).1 fun e' => hr g e'.symm _ hg1).trans hg1, hc⟩
/-- Cuts in a slice that one appends to. -/
def OutC (C : Nat) (w : World) (v : Value) (cs : List (List Nat × List Nat)) : Prop :=
  ∃ qs : List Ct, qs.map (fun q => (q.1.1, q.2.1)) = cs ∧ w.ownsRow C 56 2 v qs.length (cflat qs) ∧ ∀ q ∈ qs, RowL w q.1.2.1 q.1.1 ∧ RowL w q.2.2.1 q.2.1
theorem OutC.nil (C : Nat) (w : World) : OutC C w (.slice none 0 0) [] := ⟨[], rfl, World.ownsRow_nil _ _ _ _, fun q hq => by cases hq⟩
theorem OutC.kept {C : Nat} {W W' : World} {row : Option Nat} {v : Value} {cs : List (List Nat × List Nat)} (h : OutC C W v cs) (hg : W.grownBy W' row) (hr : ∀ r, row = some r → ∃ o : Obj, W.heap[r]? = some o ∧ o.isCells = false) : OutC C W' v cs := by
  obtain ⟨qs, h0, h1, h2⟩ := h
  have hx : ∀ r, row = some r → ∀ vs : Array Value, W.heap[r]? ≠ some (.cells vs 3) := fun r e vs h3 => by
    obtain ⟨o, ho, hc⟩ := hr r e
    rw [h3] at ho; cases ho; cases hc
  refine ⟨qs, h0, h1.kept hg ?_, fun q hq => ⟨(h2 q hq).1.kept hg hx, (h2 q hq).2.kept hg hx⟩⟩
  rcases h1.2 with ⟨rfl, _⟩ | ⟨g, cap, cur, rfl, _, hgb, _⟩
  · exact .inl rfl
  · refine .inr fun e' => ?_
    obtain ⟨o, ho, hc⟩ := hr g (by simpa [Value.ownBlock] using e'.symm)
    rw [hgb] at ho; cases ho; cases hc
theorem OutC.down {B C : Nat} {w : World} {v : Value} {cs : List (List Nat × List Nat)} (h : OutC B w v cs) (hC : C ≤ B) : OutC C w v cs := let ⟨qs, h0, h1, h2⟩ := h; ⟨qs, h0, ⟨h1.1, h1.2.imp id fun ⟨g, cap, cur, h3, hg, hr⟩ => ⟨g, cap, cur, h3, Nat.le_trans hC hg, hr⟩⟩, h2⟩
theorem RowL.other {w : World} {p i : Nat} {u : Value} {us : Array Value} {T : TypeId} {A : Option Addr} {l : List Nat} (h : RowL w A l) (ho : w.heap[p]? = some (.cells us T)) (hT : T ≠ 3) : RowL (w.setCell ⟨p, i, none⟩ u) A l :=
  h.imp id fun ⟨g, vs', e1, hg1, hc⟩ => ⟨g, vs', e1, by
    unfold Row at hg1 ⊢
    refine (Below.heap_setCell w ⟨p, i, none⟩ u g fun e => ?_).trans hg1
    rw [e, ho] at hg1
    injection hg1 with hg1
    injection hg1 with _ h4
    exact hT h4, hc⟩
theorem OutC.set {C : Nat} {w : World} {v u : Value} {cs : List (List Nat × List Nat)} {p i : Nat} {us : Array Value} {T : TypeId} (h : OutC C w v cs) (hp : p < C) (ho : w.heap[p]? = some (.cells us T)) (hT : T ≠ 3) : OutC C (w.setCell ⟨p, i, none⟩ u) v cs := by
  obtain ⟨qs, h0, h1, h2⟩ := h
  refine ⟨qs, h0, ⟨h1.1, ?_⟩, fun q hq => ⟨(h2 q hq).1.other ho hT, (h2 q hq).2.other ho hT⟩⟩
  rcases h1.2 with h0 | ⟨g, cap, cur, h3, hgC, hh, hrest⟩
  · exact .inl h0
  · exact .inr ⟨g, cap, cur, h3, hgC, (Below.heap_setCell w ⟨p, i, none⟩ u g (by simp; omega)).trans hh, hrest⟩
theorem OutC.grow {C n : Nat} {w w1 : World} {v v' : Value} {qs : List Ct} {o : Obj} {a b : List Nat} {A B : Option Addr} {c d : Nat} (hown : w.ownsRow C 56 2 v n (cflat qs)) (hn : n = qs.length) (hqs : ∀ q ∈ qs, RowL w q.1.2.1 q.1.1 ∧ RowL w q.2.2.1 q.2.1) (ha : RowL w A a) (hb : RowL w B b)
    (hown' : w1.ownsRow C 56 2 v' (n + 1) (cflat qs ++ [.slice A a.length c, .slice B b.length d])) (hg : (w.alloc o).grownBy w1 v.ownBlock) : OutC C w1 v' (qs.map (fun q => (q.1.1, q.2.1)) ++ [(a, b)]) := by
  subst hn
  have hr : ∀ {X : Option Addr} {l : List Nat}, RowL w X l → RowL w1 X l := fun h => by
    have h1 : RowL (w.alloc o) _ _ := h.keep ((Below.refl _ w).alloc (Nat.le_refl _) o)
    refine h1.kept hg fun r e vs h3 => ?_
    rcases hown.2 with ⟨rfl, _⟩ | ⟨g, cap, cur, rfl, _, hgb, _⟩
    · cases e
    · simp only [Value.ownBlock, Option.some.injEq] at e
      subst e
      rw [heap_old (o := o) hgb] at h3
      injection h3 with h3
      injection h3 with _ h4
      exact absurd h4 (by decide)
  refine ⟨qs ++ [((a, A, c), (b, B, d))], by rw [List.map_append]; rfl, by rw [cflat_app, List.length_append]; exact hown', fun q hq => ?_⟩
  rcases List.mem_append.1 hq with h | h
  · exact ⟨hr (hqs q h).1, hr (hqs q h).2⟩
  · rw [List.mem_singleton.1 h]; exact ⟨hr ha, hr hb⟩
/-- The cuts among some subsets. -/
def isCut (L : Nat → Nat) (s f x : Nat) : Bool := x.testBit f && conM L x && conM L (diff s x)
def cutsL (L : Nat → Nat) (s f : Nat) (pre : List Cf) : List (List Nat × List Nat) := ((pre.map (·.1)).filter (isCut L s f)).map fun x => (bitsOf x, bitsOf (diff s x))
theorem cutsL_snoc (L : Nat → Nat) (s f : Nat) (pre : List Cf) (x : Cf) : cutsL L s f (pre ++ [x]) = if isCut L s f x.1 then cutsL L s f pre ++ [(bitsOf x.1, bitsOf (diff s x.1))] else cutsL L s f pre := by
  unfold cutsL
  rw [List.map_append, List.filter_append, List.map_append]
  cases h : isCut L s f x.1 <;> simp [h]
theorem cutsL_len (L : Nat → Nat) (s f : Nat) (pre : List Cf) : (cutsL L s f pre).length ≤ pre.length := by
  unfold cutsL
  rw [List.length_map]
  exact Nat.le_trans (List.length_filter_le _ _) (by rw [List.length_map]; exact Nat.le_refl _)
section
attribute [local go_sem] Oper.semAt_some
set_option maxRecDepth 100000 in
set_option maxHeartbeats 8000000 in
theorem cutsF_con (gn ge : Value) (SA : Option Addr) (SN SC : Nat) (L : Nat → Nat) (s : Nat) (w : World) (hR : ∀ w', Below w.heap.size w w' → Calls Tryd.prog 47 #[.agg #[gn, ge], .slice SA SN SC] w' fun e w1 => e = .returned (.tuple #[lvV L, .int .u64 (s : Nat), .int .i64 0]) ∧ Below w'.heap.size w' w1) (_hgn : gn.oneCell' = true) (_hge : ge.oneCell' = true) (hL : ∀ i, Under 64 (L i)) (hs : s < 4096) (hw : Good w) (hc : conM L s = false) :
    Calls Tryd.prog 27 #[.agg #[gn, ge], .slice SA SN SC] w fun e w' => e = .returned (.tuple #[.slice none 0 0, .int .i64 17]) ∧ Below w.heap.size w w' := by
  have kv := ((Below.refl w.heap.size w).alloc (Nat.le_refl _) (.cells #[gn, ge] 24)).alloc (by simp) (.cells #[.slice SA SN SC] 25)
  have P0 := (Cells.new w #[gn, ge] 24).keep ((Below.refl _ _).alloc (Nat.le_refl _) (.cells #[.slice SA SN SC] 25))
  have HR := Lib.hid (hR _ kv)
  have g0 := P0.at_ 0
  have g1 := P0.at_ 1
  simp only [List.getElem?_cons_zero, List.getElem?_cons_succ] at g0 g1
  have hb0 := heap_new (w.alloc (.cells #[gn, ge] 24)) (.cells #[.slice SA SN SC] 25)
  simp only [World.size_alloc] at hb0
  have cB0 := cell_one hb0
  have HB0 := Lib.hid hb0
  have hz0 : ((w.alloc (.cells #[gn, ge] 24)).alloc (.cells #[.slice SA SN SC] 25)).heap.size = w.heap.size + 1 + 1 := by simp
  have kv := Lib.hid kv
  have HL := Lib.hid hL
  have HW := Lib.hid (fun w' (h : Below w.heap.size w w') => hw.below h hw.size)
  have HCN := Lib.hid (fun w1 (h : Below w.heap.size w w1) => conn_any L s ((w1.alloc (.cells (lvC L) 80)).alloc (.cells #[.int .u64 (s : Nat)] 78)) hL hs (hw.below ((h.alloc h.size _).alloc (Nat.le_trans h.size (by simp)) _) hw.size))
  rw [hc] at HCN
  clear hR hL hw P0
  refine (callsIn_wide (n := 6)).1 ?_
  refine callsIn_of_wp_marks Tryd.func27 rfl trivial ?_ rfl
  simp only [Tryd.ntmps27, List.size_toArray, List.length_cons, List.length_nil, Nat.reduceAdd, Nat.reduceSub, Array.replicate_succ, Array.replicate_zero, List.push_toArray, List.append_toArray, List.nil_append, List.cons_append]
  gi_wp2_with (first
    | (refine ⟨trivial, ?_⟩; gi_at_call 47; refine (callsIn_wide.2 HR.out).mono ?_; rintro e w1 ⟨rfl, hb1⟩; have B1 := Lib.hid (below_on kv.out hb1); have hS1 := (hb1.block (w.heap.size + 1) (by omega)).trans HB0.out; have cB1 := cell_one hS1; have z1 := Lib.hid (show w.heap.size + 1 + 1 ≤ w1.heap.size by have := hb1.size; omega); clear hb1 g0 g1 kv HR cB0 hb0)
    | (refine ⟨trivial, ?_⟩; gi_at_call 48; refine (callsIn_wide.2 (HCN.out w1 B1.out)).mono ?_; rintro e w2 ⟨rfl, hb2⟩; clear cB1; have hL2 := (hb2.block w1.heap.size (by simp; omega)).trans (heap_old (o := (.cells #[.int .u64 (s : Nat)] 78)) (heap_new w1 (.cells (lvC L) 80))); have hs2 := (hb2.block (w1.heap.size + 1) (by simp)).trans (show ((w1.alloc (.cells (lvC L) 80)).alloc (.cells #[.int .u64 (s : Nat)] 78)).heap[w1.heap.size + 1]? = some (.cells #[.int .u64 (s : Nat)] 78) from by simpa using heap_new (w1.alloc (.cells (lvC L) 80)) (.cells #[.int .u64 (s : Nat)] 78)); have hS2 := (hb2.block (w.heap.size + 1) (by simp; have := z1.out; omega)).trans (heap_old (o := (.cells #[.int .u64 (s : Nat)] 78)) (heap_old (o := (.cells (lvC L) 80)) hS1)); have cs2 := cell_one hs2; have cB2 := cell_one hS2; have cs3 := cell_one (heap_old (o := (.cells #[.slice none 0 0] 50)) hs2); have cB3 := cell_one (heap_old (o := (.cells #[.slice none 0 0] 50)) hS2); have B2 := Lib.hid (((B1.out.alloc B1.out.size (.cells (lvC L) 80)).alloc (Nat.le_trans B1.out.size (by simp)) (.cells #[.int .u64 (s : Nat)] 78)).trans (hb2.mono (Nat.le_trans B1.out.size (by simp; omega)))); have z2 := Lib.hid (show w1.heap.size + 1 + 1 ≤ w2.heap.size by have := hb2.size; simp at this; omega); clear hb2))
  exact ⟨.tuple #[.slice none 0 0, .int .i64 17], by simp [results, Tryd.f27, go_sem], rfl, B2.out⟩
theorem own_cellsN {C n sz : Nat} {W : World} {v : Value} {xs : List Value} {e : TypeId} (h : W.ownsRow C e sz v n xs) {j : Nat} {o : Obj} (hj : v.ownBlock = some j) (ho : W.heap[j]? = some o) : o.isCells = true := by
  rcases h.2 with ⟨rfl, _⟩ | ⟨g, cap, cur, rfl, _, hgb, _⟩
  · cases hj
  · simp only [Value.ownBlock, Option.some.injEq] at hj
    subst hj
    rw [hgb] at ho; cases ho; rfl
theorem OutC.keep {C : Nat} {w w' : World} {v : Value} {cs : List (List Nat × List Nat)} (h : OutC C w v cs) (hb : Below w.heap.size w w') : OutC C w' v cs := by
  obtain ⟨qs, h0, h1, h2⟩ := h
  refine ⟨qs, h0, h1.kept (grown_below hb) ?_, fun q hq => ⟨(h2 q hq).1.keep hb, (h2 q hq).2.keep hb⟩⟩
  rcases h1.2 with ⟨rfl, _⟩ | ⟨g, cap, cur, rfl, _, hgb, _⟩
  · exact .inl rfl
  · exact .inr (by simp [Value.ownBlock])
end
end Go.Proofs.YtdpfoegcmngdfaaDoor
