/- The search for components: visit. -/
import Derived.Test.YthocdmlacfejkaaDoorVm
import Derived.Test.YthocdmlacfejkaaDoorTill
import Derived.RegionTactic
import Derived.Deep.DeepCutAuto
import Derived.StillTailTactics
namespace Go.Proofs.YthocdmlacfejkaaDoor
open Go.RowKit
theorem visit_split {L : Nat → Nat} {f node : Nat} {s s' : St} (h : visitM L (f + 1) node s = some s') :
    (node < 64 ∧ s.low.length = 64 ∧ s.vis < 1000 ∧ s.way.length < 1000 ∧ s.found.length < 1000 ∧ s.on < 18446744073709551616) ∧ ∃ t, goM (visitM L f) node (bitsOf (L node)) (inM node s) = some t ∧
      ((t.low.getD node 0 < ((s.vis + 1 : Nat) : Int) ∧ s' = t) ∨ (¬ t.low.getD node 0 < ((s.vis + 1 : Nat) : Int) ∧ ∃ way c, popM node 65 t.way 0 = some (way, c) ∧ t.found.length < 1000 ∧ s' = { t with way := way, on := diff t.on c, found := t.found ++ [c] })) := by
  rw [visitM] at h
  by_cases h0 : okM node s = true
  · rw [if_pos h0] at h
    simp only [okM, Bool.and_eq_true, decide_eq_true_eq] at h0
    refine ⟨by omega, ?_⟩
    cases h1 : goM (visitM L f) node (bitsOf (L node)) (inM node s) with
    | none => rw [h1] at h; cases h
    | some t =>
      rw [h1] at h
      refine ⟨t, rfl, ?_⟩
      simp only at h
      by_cases h2 : t.low.getD node 0 < ((s.vis + 1 : Nat) : Int)
      · rw [if_pos h2] at h; injection h with h; exact .inl ⟨h2, h.symm⟩
      · rw [if_neg h2] at h
        refine .inr ⟨h2, ?_⟩
        cases h3 : popM node 65 t.way 0 with
        | none => rw [h3] at h; cases h
        | some x =>
          obtain ⟨way, c⟩ := x
          rw [h3] at h
          simp only at h
          by_cases h4 : t.found.length < 1000
          · rw [if_pos h4] at h; injection h with h; exact ⟨way, c, rfl, h4, h.symm⟩
          · rw [if_neg h4] at h; cases h
  · rw [if_neg h0] at h; cases h
/-- As a visit begins: the way not yet longer. -/
def inMa (node : Nat) (s : St) : St := { s with vis := s.vis + 1, low := s.low.set node ((s.vis : Int) + 1) }
/-- What a visit does. -/
def VisPost (C : Nat) (p q : Nat) (L : Nat → Nat) (s' : St) (vW vF : Value) (w : World) (e : Ending) (w' : World) : Prop :=
  e = .returned (.tuple #[]) ∧ ∃ vW' vF', Srch C w' p q L s' vW' vF' ∧ Below C w w' ∧ Kept w w' p vW vF vW' vF'
theorem Srch.at_low {C : Nat} {w : World} {p q : Nat} {L : Nat → Nat} {s : St} {vW vF : Value} (h : Srch C w p q L s vW vF) {n : Nat} (hn : n < 64) : w.cell? ⟨p, n + 1, none⟩ = some (.int .i64 (s.low.getD n 0)) := (h.cells.at_ _).trans (sc_low h.low hn)
theorem Srch.at_low' {C : Nat} {w : World} {p q : Nat} {L : Nat → Nat} {s : St} {vW vF : Value} (h : Srch C w p q L s vW vF) {n : Nat} (hn : n < 64) : w.cell? ⟨p, 1 + n, none⟩ = some (.int .i64 (s.low.getD n 0)) := by rw [Nat.add_comm]; exact h.at_low hn
theorem Srch.setLow' {C : Nat} {w : World} {p q : Nat} {L : Nat → Nat} {s : St} {vW vF : Value} (h : Srch C w p q L s vW vF) {n : Nat} (hn : n < 64) (x : Int) : Srch C (w.setCell ⟨p, 1 + n, none⟩ (.int .i64 x)) p q L { s with low := s.low.set n x } vW vF := by rw [Nat.add_comm]; exact h.setLow hn x
theorem Srch.at_vis {C : Nat} {w : World} {p q : Nat} {L : Nat → Nat} {s : St} {vW vF : Value} (h : Srch C w p q L s vW vF) : w.cell? ⟨p, 65, none⟩ = some (.int .i64 (s.vis : Nat)) := (h.cells.at_ _).trans (sc_end (j := 0) h.low)
theorem Srch.at_way {C : Nat} {w : World} {p q : Nat} {L : Nat → Nat} {s : St} {vW vF : Value} (h : Srch C w p q L s vW vF) : w.cell? ⟨p, 66, none⟩ = some vW := (h.cells.at_ _).trans (sc_end (j := 1) h.low)
theorem Srch.at_on {C : Nat} {w : World} {p q : Nat} {L : Nat → Nat} {s : St} {vW vF : Value} (h : Srch C w p q L s vW vF) : w.cell? ⟨p, 67, none⟩ = some (.int .u64 (s.on : Nat)) := (h.cells.at_ _).trans (sc_end (j := 2) h.low)
theorem Srch.at_found {C : Nat} {w : World} {p q : Nat} {L : Nat → Nat} {s : St} {vW vF : Value} (h : Srch C w p q L s vW vF) : w.cell? ⟨p, 68, none⟩ = some vF := (h.cells.at_ _).trans (sc_end (j := 3) h.low)
theorem Srch.at_after {C : Nat} {w : World} {p q : Nat} {L : Nat → Nat} {s : St} {vW vF : Value} (h : Srch C w p q L s vW vF) : w.cell? ⟨p, 0, none⟩ = some (.pointer (some ⟨q, 0, none⟩)) := h.cells.at_ _
theorem append_way {C : Nat} {w w1 : World} {p q g cap node : Nat} {L : Nat → Nat} {s : St} {vW vF : Value} {o : Obj} (h : Srch C w p q L s vW vF) (hown : w1.ownsRow C 3 1 (.slice (some ⟨g, 0, none⟩) (s.way.length + 1) cap) (s.way.length + 1) (nats s.way ++ [.int .i64 (node : Nat)])) (hg : (w.alloc o).grownBy w1 vW.ownBlock) (hat : vW.ownBlock = some g ∨ g = w.heap.size + 1) (hC : C ≤ w.heap.size) :
    Srch C (w1.setCell ⟨p, 66, none⟩ (.slice (some ⟨g, 0, none⟩) (s.way.length + 1) cap)) p q L { s with way := s.way ++ [node] } (.slice (some ⟨g, 0, none⟩) (s.way.length + 1) cap) vF ∧ Kept w (w1.setCell ⟨p, 66, none⟩ (.slice (some ⟨g, 0, none⟩) (s.way.length + 1) cap)) p vW vF (.slice (some ⟨g, 0, none⟩) (s.way.length + 1) cap) vF ∧ Cells w1 p (scells q s vW vF) ∧
      w1.cell? ⟨p, 67, none⟩ = some (.int .u64 (s.on : Nat)) ∧ w1.cell? ⟨p, 66, none⟩ = some vW ∧ (w1.setCell ⟨p, 66, none⟩ (.slice (some ⟨g, 0, none⟩) (s.way.length + 1) cap)).cell? ⟨p, 67, none⟩ = some (.int .u64 (s.on : Nat)) ∧ Below C w (w1.setCell ⟨p, 66, none⟩ (.slice (some ⟨g, 0, none⟩) (s.way.length + 1) cap)) := by
  have hb := (Below.refl w.heap.size w).alloc (Nat.le_refl _) o
  have h0 := h.keep hb
  have hk := Kept.below hb p vW vF
  obtain ⟨a, b, c⟩ := h0.pushW (l := s.way ++ [node]) hg (by rw [nats_snoc, List.length_append]; exact hown) (fun b hb => by
    simp only [Value.ownBlock, Option.some.injEq] at hb
    subst hb
    rcases hat with e | e
    · exact .inl e
    · exact .inr (by simp; omega))
  exact ⟨a, hk.trans b, c, (c.at_ 67).trans (sc_end (j := 2) h.low), (c.at_ 66).trans (sc_end (j := 1) h.low), a.at_on, (((Below.refl C w).alloc hC o).grown hg (by simp; omega) (fun k hk => own_ge h.way hk)).setCell h.pC _⟩
theorem push_on {C : Nat} {w : World} {p q node : Nat} {L : Nat → Nat} {s : St} {vW vF : Value} (h : Srch C w p q L { inMa node s with way := s.way ++ [node] } vW vF) (ho : s.on < 18446744073709551616) (hn : node < 64) :
    Srch C (w.setCell ⟨p, 67, none⟩ (.int .u64 ((s.on ||| sing node : Nat) : Int))) p q L (inM node s) vW vF := h.setOn (or_lt ho (sing_lt hn))
theorem Kept.frame {C : Nat} {w w' : World} {p : Nat} {a b a1 b1 : Value} (h : Kept w w' p a b a1 b1) (hp : C ≤ p) (ha : ∀ k, a.ownBlock = some k → C ≤ k) (hb : ∀ k, b.ownBlock = some k → C ≤ k) (hC : C ≤ w.heap.size) : ∀ k, k < C → w'.heap[k]? = w.heap[k]? :=
  fun k hk => h.block k (by omega) (by omega) (fun e => by have := ha k e; omega) (fun e => by have := hb k e; omega)
def mid (node n : Nat) (t : St) : St := if t.on.testBit n then { t with low := t.low.set node (min (t.low.getD node 0) (t.low.getD n 0)) } else t
theorem mid_yes {node n : Nat} {t : St} (h : t.on.testBit n = true) : mid node n t = { t with low := t.low.set node (min (t.low.getD node 0) (t.low.getD n 0)) } := if_pos h
theorem mid_no {node n : Nat} {t : St} (h : ¬ t.on.testBit n = true) : mid node n t = t := if_neg h
theorem go_step {rec : Nat → St → Option St} {node k n : Nat} {l : List Nat} {s t : St} (hk : l[k]? = some n) (h : goM rec node (l.drop k) s = some t) :
    ∃ t1, (if s.low.getD n 0 = 0 then rec n s else some s) = some t1 ∧ t1.low.length = 64 ∧ t1.on < 18446744073709551616 ∧ goM rec node (l.drop (k + 1)) (mid node n t1) = some t := by
  have hlt : k < l.length := by
    rcases Nat.lt_or_ge k l.length with h1 | h1
    · exact h1
    · rw [List.getElem?_eq_none h1] at hk; cases hk
  rw [List.drop_eq_getElem_cons hlt, goM] at h
  rw [List.getElem?_eq_getElem hlt] at hk
  injection hk with hk
  rw [hk] at h
  cases h1 : (if s.low.getD n 0 = 0 then rec n s else some s) with
  | none => rw [h1] at h; cases h
  | some t1 =>
    rw [h1] at h
    simp only at h
    by_cases h2 : t1.low.length = 64 ∧ t1.on < 18446744073709551616
    · rw [if_pos h2] at h
      exact ⟨t1, rfl, h2.1, h2.2, h⟩
    · rw [if_neg h2] at h; cases h
def VisInv (C p q : Nat) (L : Nat → Nat) (node : Nat) (rec : Nat → St → Option St) (l : List Nat) (t : St) (w V2 : World) (vW1 vF : Value) (i : Value) (wr : World) : Prop :=
  ∃ (k : Nat) (tk : St) (vWk vFk : Value), i = .int .i64 (k : Nat) ∧ k ≤ l.length ∧ goM rec node (l.drop k) tk = some t ∧ Srch C wr p q L tk vWk vFk ∧ Below C w wr ∧ Kept V2 wr p vW1 vF vWk vFk
theorem or_gt {c v : Nat} (h : c.testBit v = false) : c < c ||| sing v := by
  have h1 : c ≤ c ||| sing v := Nat.left_le_or
  rcases Nat.lt_or_ge c (c ||| sing v) with h2 | h2
  · exact h2
  · have e : c ||| sing v = c := Nat.le_antisymm h2 h1
    have : (c ||| sing v).testBit v = true := by rw [Nat.testBit_or, sing_bit]; simp
    rw [e, h] at this
    cases this
theorem own_last {w : World} {C v : Nat} {vW : Value} {way : List Nat} (h : w.ownsRow C 3 1 vW way.length (nats way)) (hl : way.getLast? = some v) :
    ∃ g cap, vW = .slice (some ⟨g, 0, none⟩) way.length cap ∧ 1 ≤ way.length ∧ way.length ≤ cap ∧ cap ≤ maxLen ∧ w.cell? ⟨g, way.length - 1, none⟩ = some (.int .i64 (v : Nat)) := by
  have h1 : 1 ≤ way.length := by
    cases way with
    | nil => cases hl
    | cons a l => simp
  have hk : way[way.length - 1]? = some v := by rw [← List.getLast?_eq_getElem?]; exact hl
  obtain ⟨A, c, rfl, hn, hc1, hc2⟩ := own_nats h
  obtain ⟨b, o, e, hb, hlt, hcell⟩ := hn _ _ hk
  rcases h.2 with ⟨e', _⟩ | ⟨g, cap, cur, e', _⟩
  · injection e' with e1 _ _
    rw [e] at e1
    cases e1
  · injection e' with e1 _ e3
    rw [e] at e1
    injection e1 with e1
    injection e1 with e1 e2
    subst e1 e2 e3
    refine ⟨b, c, by rw [e], h1, hc2, hc1, ?_⟩
    rw [Nat.zero_add] at hcell
    exact hcell
theorem own_cut {w : World} {C g cap : Nat} {way : List Nat} (h : w.ownsRow C 3 1 (.slice (some ⟨g, 0, none⟩) way.length cap) way.length (nats way)) : w.ownsRow C 3 1 (.slice (some ⟨g, 0, none⟩) (way.length - 1) cap) (way.length - 1) (nats way.dropLast) := by
  refine ⟨by rw [nats_len, List.length_dropLast, Nat.mul_one], .inr ?_⟩
  rcases h.2 with ⟨e, _⟩ | ⟨g', cap', cur, e, hg, hh, hnc, hcm, hcs, hx⟩
  · cases e
  · injection e with e1 _ e3
    injection e1 with e1
    injection e1 with e1
    subst e1 e3
    refine ⟨g, cap, cur, rfl, hg, hh, by omega, hcm, hcs, ?_⟩
    rw [Nat.mul_one] at hx ⊢
    have : (cur.toList.take way.length).take (way.length - 1) = (nats way).take (way.length - 1) := by rw [hx]
    rw [List.take_take, Nat.min_eq_left (by omega)] at this
    rw [this]
    unfold nats
    rw [← List.map_take, List.dropLast_eq_take]
theorem append_found {C : Nat} {w w1 : World} {p q g cap c : Nat} {L : Nat → Nat} {s : St} {vW vF : Value} {o : Obj} (h : Srch C w p q L s vW vF) (hown : w1.ownsRow C 98 1 (.slice (some ⟨g, 0, none⟩) (s.found.length + 1) cap) (s.found.length + 1) (u64s s.found ++ [.int .u64 (c : Nat)])) (hg : (w.alloc o).grownBy w1 vF.ownBlock) (hat : vF.ownBlock = some g ∨ g = w.heap.size + 1) (hC : C ≤ w.heap.size) :
    Srch C (w1.setCell ⟨p, 68, none⟩ (.slice (some ⟨g, 0, none⟩) (s.found.length + 1) cap)) p q L { s with found := s.found ++ [c] } vW (.slice (some ⟨g, 0, none⟩) (s.found.length + 1) cap) ∧ Kept w (w1.setCell ⟨p, 68, none⟩ (.slice (some ⟨g, 0, none⟩) (s.found.length + 1) cap)) p vW vF vW (.slice (some ⟨g, 0, none⟩) (s.found.length + 1) cap) ∧ Cells w1 p (scells q s vW vF) ∧
      w1.cell? ⟨p, 68, none⟩ = some vF ∧ Below C w (w1.setCell ⟨p, 68, none⟩ (.slice (some ⟨g, 0, none⟩) (s.found.length + 1) cap)) := by
  have hb := (Below.refl w.heap.size w).alloc (Nat.le_refl _) o
  have h0 := h.keep hb
  have hk := Kept.below hb p vW vF
  obtain ⟨a, b, c'⟩ := h0.pushF (l := s.found ++ [c]) hg (by unfold u64s at *; rw [List.map_append, List.length_append]; exact hown) (fun b hb => by
    simp only [Value.ownBlock, Option.some.injEq] at hb
    subst hb
    rcases hat with e | e
    · exact .inl e
    · exact .inr (by simp; omega))
  exact ⟨a, hk.trans b, c', (c'.at_ 68).trans (sc_end (j := 3) h.low), (((Below.refl C w).alloc hC o).grown hg (by simp; omega) (fun k hk => own_ge h.found hk)).setCell h.pC _⟩
theorem info_set : (Tryd.prog.info? 98).map (fun i => (i.zero, i.size, i.bytes)) = some (some (.int .u64 0), 1, 8) := by kernel_rfl
def PopInv (C p q : Nat) (L : Nat → Nat) (node : Nat) (t : St) (way' : List Nat) (c' : Nat) (w : World) (vW vF : Value) (cv : Value) (wr : World) : Prop :=
  ∃ (fu c : Nat) (way : List Nat) (vWk vFk : Value), cv = .int .u64 (c : Nat) ∧ c < 18446744073709551616 ∧ popM node fu way c = some (way', c') ∧ Srch C wr p q L { t with way := way } vWk vFk ∧ Below C w wr ∧ Kept w wr p vW vF vWk vFk
set_option maxRecDepth 100000 in
set_option maxHeartbeats 8000000 in
theorem visit_any (L : Nat → Nat) (hL : ∀ i, Under 64 (L i)) (C p q : Nat) (hC : TzG < C) (f : Nat) : ∀ (node : Nat) (s s' : St) (w : World) (vW vF : Value), visitM L f node s = some s' → Srch C w p q L s vW vF → C ≤ w.heap.size → Good w →
    Calls Tryd.prog 114 #[.pointer (some ⟨p, 0, none⟩), .int .i64 node] w (VisPost C p q L s' vW vF w) := by
  have HL := Lib.hid hL
  obtain ⟨i0, hi0, hz0, hz1, hz2⟩ := info_parts info_int
  obtain ⟨j0, hj0, jz0, jz1, jz2⟩ := info_parts info_set
  clear hL
  induction f with
  | zero => intro node s s' w vW vF hv; cases hv
  | succ f ih =>
    intro node s s' w vW vF hv hs hCw hw
    obtain ⟨⟨hn64, hl64, hvis, hway, hfound, hon⟩, t, hgo, hend⟩ := visit_split hv
    have Ih := Lib.hid ih
    have Hgo := Lib.hid hgo
    have Hend := Lib.hid hend
    have HS := Lib.hid hs
    have HW := Lib.hid (fun w' (h : Below C w w') => hw.below h hC)
    have c65 := hs.at_vis
    have f65 := hs.cells.fz 65
    have hni : (node : Int) < 64 := by omega
    have e65 : IntKind.i64.wrap ((s.vis : Int) + 1) = ((s.vis + 1 : Nat) : Int) := IntWalk.i64_in _ (by omega)
    have S1 : Srch C (w.setCell ⟨p, 65, none⟩ (.int .i64 ((s.vis : Int) + 1))) p q L { s with vis := s.vis + 1 } vW vF := hs.setVis (s.vis + 1)
    have K1 : Kept w (w.setCell ⟨p, 65, none⟩ (.int .i64 ((s.vis : Int) + 1))) p vW vF vW vF := Kept.put vW vF 65 _
    have B1 : Below C w (w.setCell ⟨p, 65, none⟩ (.int .i64 ((s.vis : Int) + 1))) := (Below.refl C w).setCell (p := ⟨p, 65, none⟩) hs.pC _
    obtain ⟨W1, hW1⟩ : ∃ u, w.setCell ⟨p, 65, none⟩ (.int .i64 ((s.vis : Int) + 1)) = u := ⟨_, rfl⟩
    rw [hW1] at S1 K1 B1
    have S2 : Srch C (W1.setCell ⟨p, 1 + node, none⟩ (.int .i64 ((s.vis : Int) + 1))) p q L (inMa node s) vW vF := S1.setLow' hn64 ((s.vis : Int) + 1)
    have K2 := K1.trans (Kept.put (p := p) (w := W1) vW vF (1 + node) (.int .i64 ((s.vis : Int) + 1)))
    have B2 := B1.setCell (p := ⟨p, 1 + node, none⟩) hs.pC (.int .i64 ((s.vis : Int) + 1))
    obtain ⟨W2, hW2⟩ : ∃ u, W1.setCell ⟨p, 1 + node, none⟩ (.int .i64 ((s.vis : Int) + 1)) = u := ⟨_, rfl⟩
    rw [hW2] at S2 K2 B2
    have d65 := S1.at_vis
    have d1 := S1.at_low' hn64
    have g1 := S1.cells.fz (1 + node)
    simp only at d65 d1
    have d66 := S2.at_way
    have d67 := S2.at_on
    have S2 := Lib.hid S2
    have K2 := Lib.hid K2
    have B2 := Lib.hid B2
    clear S1 K1 B1
    clear hv hgo hend hs hw ih
    go_enter Tryd.func114, Tryd.ntmps114
    go_upto_region 3 with fail
    go_cut [4] (fun x wx => x = .int .i64 ((s.vis : Int) + 1) ∧ ∃ vW1, Srch C wx p q L (inM node s) vW1 vF ∧ Below C w wx ∧ Kept w wx p vW vF vW1 vF)
    case first =>
      have S3 := Lib.hid (S2.out.drew)
      have K3 := Lib.hid (K2.out.drew)
      have B3 := Lib.hid (B2.out.drew)
      refine Till.begin 21 (fun w' => w'.cell? ⟨p, 67, none⟩ = some (.int .u64 (s.on : Nat))) (by kernel_rfl) S3.out.at_on (fun hH => ?_)
      clear hH
      generalize W2.drew = V0 at S3 K3 B3 ⊢
      have v66 := S3.out.at_way
      have v67 : V0.cell? ⟨p, 67, none⟩ = some (.int .u64 (s.on : Nat)) := S3.out.at_on
      have HV := Lib.hid (fun w' (h : Below V0.heap.size V0 w') => ((S3.out.keep h).at_on : w'.cell? ⟨p, 67, none⟩ = some (.int .u64 (s.on : Nat))))
      have eor : bits .or .u64 ((s.on : Nat) : Int) ((sing node : Nat) : Int) = ((s.on ||| sing node : Nat) : Int) := bits_or_u64_nat _ _ hon (sing_lt hn64)
      have w66 : (V0.alloc (.cells #[.int .i64 (node : Nat)] 3)).cell? ⟨p, 66, none⟩ = some vW := (S3.out.keep ((Below.refl _ _).alloc (Nat.le_refl _) _)).at_way
      clear d65 d1 g1 d66 d67 c65 f65 hW1 hW2
      try simp only [List.setIfInBounds_toArray, List.set_cons_zero, List.set_cons_succ]
      refine Till.tk 0 21 26 (.pointer (some ⟨p, 0, none⟩)) (v67) ?_
      try simp only [Act.put, List.setIfInBounds_toArray, List.set_cons_zero, List.set_cons_succ]
      refine Till.tk 1 21 27 (.pointer (some ⟨p, 0, none⟩)) (v67) ?_
      try simp only [Act.put, List.setIfInBounds_toArray, List.set_cons_zero, List.set_cons_succ]
      refine Till.tk 2 21 28 (.pointer (some ⟨p, 0, none⟩)) (v67) ?_
      try simp only [Act.put, List.setIfInBounds_toArray, List.set_cons_zero, List.set_cons_succ]
      refine Till.tk 3 21 29 (.pointer (some ⟨p, 0, none⟩)) (v67) ?_
      try simp only [Act.put, List.setIfInBounds_toArray, List.set_cons_zero, List.set_cons_succ]
      refine Till.tk 4 21 30 (.pointer (some ⟨p, 66, none⟩)) (v67) ?_
      try simp only [Act.put, List.setIfInBounds_toArray, List.set_cons_zero, List.set_cons_succ]
      refine Till.tk 6 21 32 (.int .i64 (node : Nat)) (v67) ?_
      try simp only [Act.put, List.setIfInBounds_toArray, List.set_cons_zero, List.set_cons_succ]
      refine Till.tk 9 21 35 (.pointer (some ⟨p, 0, none⟩)) (v67) ?_
      try simp only [Act.put, List.setIfInBounds_toArray, List.set_cons_zero, List.set_cons_succ]
      refine Till.tk 10 21 36 (.pointer (some ⟨p, 0, none⟩)) (v67) ?_
      try simp only [Act.put, List.setIfInBounds_toArray, List.set_cons_zero, List.set_cons_succ]
      refine Till.tk 11 21 37 (.pointer (some ⟨p, 67, none⟩)) (v67) ?_
      try simp only [Act.put, List.setIfInBounds_toArray, List.set_cons_zero, List.set_cons_succ]
      refine Till.tk 12 21 38 (.int .u64 (s.on : Nat)) (v67) ?_
      try simp only [Act.put, List.setIfInBounds_toArray, List.set_cons_zero, List.set_cons_succ]
      refine Till.tk 13 21 39 (.int .i64 (node : Nat)) (v67) ?_
      try simp only [Act.put, List.setIfInBounds_toArray, List.set_cons_zero, List.set_cons_succ]
      refine Till.two (i := 5) (j := 7) (by kernel_rfl) rfl rfl ?_ ?_
      · intro K hK
        go_simp
        refine hK.out _ _ (fun _ => v67) ?_
        clear hK K
        try simp only [List.setIfInBounds_toArray, List.set_cons_zero, List.set_cons_succ]
        refine Till.one (i := 7) (by kernel_rfl) rfl (fun K hK => ?_)
        go_simp
        refine hK.out _ _ (fun _ => HV.out _ ((Below.refl _ _).alloc (Nat.le_refl _) _)) ?_
        clear hK K
        try simp only [List.setIfInBounds_toArray, List.set_cons_zero, List.set_cons_succ]
        refine Till.one (i := 8) (by kernel_rfl) rfl (fun K hK => ?_)
        refine step_append_lies _ rfl (.tmp 31) (.tmp 33) 50 rfl C 3 i0 (.int .i64 0) 1 8 Tryd.underlying50 hi0 hz0 hz1 hz2 rfl (by decide) vW s.way.length (nats s.way) rfl (S3.out.way.alloc _) ⟨V0.heap.size, 0, none⟩ 1 1 [.int .i64 (node : Nat)] rfl rfl (World.news_of_block (cs := #[.int .i64 (node : Nat)]) (t := 3) (fr := (0, 0)) (heap_new V0 _)) (by simp [Value.oneCell']) (by decide) (by unfold maxLen; omega) (by omega) (by simp; have := B3.out.size; omega) (V0.heap.size + 1) (by simp) ?_
        intro g cap w3 hown hgrow hat hlt
        have A3 := Lib.hid (append_way S3.out hown hgrow hat (Nat.le_trans hCw B3.out.size))
        have z67 : w3.cell? ⟨p, 67, none⟩ = some (.int .u64 (s.on : Nat)) := A3.out.2.2.2.1
        have z66 := A3.out.2.2.2.2.1
        have y66 := A3.out.2.2.1.fz 66
        have y67 := A3.out.2.2.1.fz 67
        clear hown hgrow hat hlt
        refine hK.out _ _ (fun _ => z67) ?_
        clear hK K
        try simp only [List.setIfInBounds_toArray, List.set_cons_zero, List.set_cons_succ]
        refine Till.one (i := 14) (by kernel_rfl) rfl (fun K hK => ?_)
        go_simp
        refine (single_any node _ hn64).mono ?_
        rintro e v1 ⟨rfl, rfl⟩
        go_wp2_with fail
        refine hK.out _ _ (fun _ => z67) ?_
        clear hK K
        try simp only [List.setIfInBounds_toArray, List.set_cons_zero, List.set_cons_succ]
        refine Till.tk 15 21 41 (.int .u64 ((s.on ||| sing node : Nat) : Int)) (z67) ?_
        try simp only [Act.put, List.setIfInBounds_toArray, List.set_cons_zero, List.set_cons_succ]
        refine Till.one (i := 16) (by kernel_rfl) rfl (fun K hK => ?_)
        go_simp
        refine hK.out _ _ (fun _ => z67) ?_
        clear hK K
        try simp only [List.setIfInBounds_toArray, List.set_cons_zero, List.set_cons_succ]
        refine Till.one (i := 17) (by kernel_rfl) rfl (fun K hK => ?_)
        go_simp
        refine hK.out _ _ (fun _ => z67) ?_
        clear hK K
        try simp only [List.setIfInBounds_toArray, List.set_cons_zero, List.set_cons_succ]
        have x67 : (w3.setCell ⟨p, 66, none⟩ (.slice (some ⟨g, 0, none⟩) (s.way.length + 1) cap)).cell? ⟨p, 67, none⟩ = some (.int .u64 (s.on : Nat)) := A3.out.2.2.2.2.2.1
        refine Till.one (i := 18) (by kernel_rfl) rfl (fun K hK => ?_)
        go_simp
        refine hK.out _ _ (fun _ => x67) ?_
        clear hK K
        try simp only [List.setIfInBounds_toArray, List.set_cons_zero, List.set_cons_succ]
        refine Till.one (i := 19) (by kernel_rfl) rfl (fun K hK => ?_)
        go_simp
        refine hK.out _ _ (fun _ => x67) ?_
        clear hK K
        try simp only [List.setIfInBounds_toArray, List.set_cons_zero, List.set_cons_succ]
        refine Till.one (i := 20) (by kernel_rfl) rfl (fun K hK => ?_)
        go_simp
        refine hK.out _ _ (fun _ => x67) ?_
        clear hK K
        try simp only [List.setIfInBounds_toArray, List.set_cons_zero, List.set_cons_succ]
        refine Till.one (i := 21) (by kernel_rfl) rfl (fun K hK => ?_)
        go_simp
        refine hK.out _ _ (fun h => absurd h (by simp)) ?_
        clear hK K
        try simp only [List.setIfInBounds_toArray, List.set_cons_zero, List.set_cons_succ]
        refine Till.done (by kernel_rfl) ?_ _
        go_wp2_with fail
        go_meet
        exact ⟨rfl, _, push_on A3.out.1 hon hn64, (B3.out.trans A3.out.2.2.2.2.2.2).setCell (p := ⟨p, 67, none⟩) S3.out.pC _, (K3.out.trans A3.out.2.1).trans (Kept.put _ _ 67 _)⟩
      · intro K hK
        go_simp
        refine hK.out _ _ (fun _ => HV.out _ ((Below.refl _ _).alloc (Nat.le_refl _) _)) ?_
        clear hK K
        try simp only [List.setIfInBounds_toArray, List.set_cons_zero, List.set_cons_succ]
        refine Till.one (i := 5) (by kernel_rfl) rfl (fun K hK => ?_)
        go_simp
        refine hK.out _ _ (fun _ => HV.out _ ((Below.refl _ _).alloc (Nat.le_refl _) _)) ?_
        clear hK K
        try simp only [List.setIfInBounds_toArray, List.set_cons_zero, List.set_cons_succ]
        refine Till.one (i := 8) (by kernel_rfl) rfl (fun K hK => ?_)
        refine step_append_lies _ rfl (.tmp 31) (.tmp 33) 50 rfl C 3 i0 (.int .i64 0) 1 8 Tryd.underlying50 hi0 hz0 hz1 hz2 rfl (by decide) vW s.way.length (nats s.way) rfl (S3.out.way.alloc _) ⟨V0.heap.size, 0, none⟩ 1 1 [.int .i64 (node : Nat)] rfl rfl (World.news_of_block (cs := #[.int .i64 (node : Nat)]) (t := 3) (fr := (0, 0)) (heap_new V0 _)) (by simp [Value.oneCell']) (by decide) (by unfold maxLen; omega) (by omega) (by simp; have := B3.out.size; omega) (V0.heap.size + 1) (by simp) ?_
        intro g cap w3 hown hgrow hat hlt
        have A3 := Lib.hid (append_way S3.out hown hgrow hat (Nat.le_trans hCw B3.out.size))
        have z67 : w3.cell? ⟨p, 67, none⟩ = some (.int .u64 (s.on : Nat)) := A3.out.2.2.2.1
        have z66 := A3.out.2.2.2.2.1
        have y66 := A3.out.2.2.1.fz 66
        have y67 := A3.out.2.2.1.fz 67
        clear hown hgrow hat hlt
        refine hK.out _ _ (fun _ => z67) ?_
        clear hK K
        try simp only [List.setIfInBounds_toArray, List.set_cons_zero, List.set_cons_succ]
        refine Till.one (i := 14) (by kernel_rfl) rfl (fun K hK => ?_)
        go_simp
        refine (single_any node _ hn64).mono ?_
        rintro e v1 ⟨rfl, rfl⟩
        go_wp2_with fail
        refine hK.out _ _ (fun _ => z67) ?_
        clear hK K
        try simp only [List.setIfInBounds_toArray, List.set_cons_zero, List.set_cons_succ]
        refine Till.tk 15 21 41 (.int .u64 ((s.on ||| sing node : Nat) : Int)) (z67) ?_
        try simp only [Act.put, List.setIfInBounds_toArray, List.set_cons_zero, List.set_cons_succ]
        refine Till.one (i := 16) (by kernel_rfl) rfl (fun K hK => ?_)
        go_simp
        refine hK.out _ _ (fun _ => z67) ?_
        clear hK K
        try simp only [List.setIfInBounds_toArray, List.set_cons_zero, List.set_cons_succ]
        refine Till.one (i := 17) (by kernel_rfl) rfl (fun K hK => ?_)
        go_simp
        refine hK.out _ _ (fun _ => z67) ?_
        clear hK K
        try simp only [List.setIfInBounds_toArray, List.set_cons_zero, List.set_cons_succ]
        have x67 : (w3.setCell ⟨p, 66, none⟩ (.slice (some ⟨g, 0, none⟩) (s.way.length + 1) cap)).cell? ⟨p, 67, none⟩ = some (.int .u64 (s.on : Nat)) := A3.out.2.2.2.2.2.1
        refine Till.one (i := 18) (by kernel_rfl) rfl (fun K hK => ?_)
        go_simp
        refine hK.out _ _ (fun _ => x67) ?_
        clear hK K
        try simp only [List.setIfInBounds_toArray, List.set_cons_zero, List.set_cons_succ]
        refine Till.one (i := 19) (by kernel_rfl) rfl (fun K hK => ?_)
        go_simp
        refine hK.out _ _ (fun _ => x67) ?_
        clear hK K
        try simp only [List.setIfInBounds_toArray, List.set_cons_zero, List.set_cons_succ]
        refine Till.one (i := 20) (by kernel_rfl) rfl (fun K hK => ?_)
        go_simp
        refine hK.out _ _ (fun _ => x67) ?_
        clear hK K
        try simp only [List.setIfInBounds_toArray, List.set_cons_zero, List.set_cons_succ]
        refine Till.one (i := 21) (by kernel_rfl) rfl (fun K hK => ?_)
        go_simp
        refine hK.out _ _ (fun h => absurd h (by simp)) ?_
        clear hK K
        try simp only [List.setIfInBounds_toArray, List.set_cons_zero, List.set_cons_succ]
        refine Till.done (by kernel_rfl) ?_ _
        go_wp2_with fail
        go_meet
        exact ⟨rfl, _, push_on A3.out.1 hon hn64, (B3.out.trans A3.out.2.2.2.2.2.2).setCell (p := ⟨p, 67, none⟩) S3.out.pC _, (K3.out.trans A3.out.2.1).trans (Kept.put _ _ 67 _)⟩
    case rest =>
      obtain ⟨rfl, vW1, hs1, hb1, hk1⟩ := hcut
      generalize wc = V1 at *
      obtain ⟨l, hl⟩ : ∃ l, bitsOf (L node) = l := ⟨_, rfl⟩
      have Hl := list_any (L node) V1 (under_lt (HL.out node)) (HW.out _ hb1)
      have Hm := Lib.hid (fun i n (hi : (bitsOf (L node))[i]? = some n) => (mem_bitsOf.1 (List.mem_of_getElem? hi)).1)
      rw [hl] at Hgo Hl Hm
      have a0 := hs1.at_after
      have a1 := (hs1.links.at_ node).trans (sets_at L hn64)
      have S1 := Lib.hid hs1
      have B1 := Lib.hid hb1
      have K1 := Lib.hid hk1
      have Hl := Lib.hid Hl
      have hl64 : l.length ≤ 64 := by rw [← hl]; exact bitsOf_len _
      have hCV : C ≤ V1.heap.size := Nat.le_trans hCw hb1.size
      clear hs1 hb1 hk1 hl e65
      go_wp2_with fail
      refine Hl.out.mono ?_
      rintro e V2 ⟨v, rfl, hown, hb2⟩
      obtain ⟨A, c0, rfl, hn, _, _⟩ := own_nats hown
      have S2 := Lib.hid (S1.out.keep hb2)
      have B2 := Lib.hid (B1.out.trans (hb2.mono hCV))
      have K2 := Lib.hid (K1.out.trans (Kept.below hb2 p vW1 vF))
      have N2 := Lib.hid hn
      have hV : V1.heap.size ≤ V2.heap.size := hb2.size
      clear hown hb2 hn
      go_wp2_with fail
      go_loopw [56] (fun i wr => VisInv C p q L node (visitM L f) l t w V2 vW1 vF i wr) (fun i _ => l.length - (intOf i).toNat)
      case atStart => exact ⟨0, _, _, _, rfl, Nat.zero_le _, Hgo.out, S2.out, B2.out, Kept.refl _ _ _ _⟩
      case round =>
        obtain ⟨k, tk, vWk, vFk, rfl, hk, hg, hsk, hbk, hkk⟩ := hrel
        have Hg := Lib.hid hg
        have Sk := Lib.hid hsk
        have Bk := Lib.hid hbk
        have Kk := Lib.hid hkk
        clear hg hsk hbk hkk
        by_cases hlt : k < l.length
        · obtain ⟨n, b, o, hkn, rfl, hB, hbl, hcell⟩ := N2.out.at_ hlt
          have hn := Hm.out _ _ hkn
          have hni : (n : Int) < 64 := by omega
          have Hlt := Lib.hid (show k + 1 ≤ l.length by omega)
          have hcell := (World.cell?_of_block (a := ⟨b, o + k, none⟩) (Kk.out.block b hbl (by have := S1.out.cells.lt; omega) (fun e => by have := (S1.out.way.lt b e).2; omega) (fun e => by have := (S1.out.found.lt b e).2; omega))).trans hcell
          obtain ⟨t1, hr1, hl1, ho1, hg1⟩ := go_step hkn Hg.out
          have Hr1 := Lib.hid hr1
          have Hg1 := Lib.hid hg1
          have c1 := Sk.out.at_low' hn
          obtain ⟨x0, hx0⟩ : ∃ x0, tk.low.getD n 0 = x0 := ⟨_, rfl⟩
          rw [hx0] at c1 Hr1
          have Hx0 := Lib.hid hx0
          clear hkn hr1 hg1 hx0
          by_cases h0 : x0 = 0
          · subst h0
            rw [if_pos rfl] at Hr1
            have HV := Lib.hid (Ih.out n tk t1 wr vWk vFk Hr1.out Sk.out (Nat.le_trans hCw Bk.out.size) (HW.out _ Bk.out))
            go_wp2_with fail
            refine HV.out.mono ?_
            rintro e V3 ⟨rfl, vW3, vF3, hs3, hb3, hk3⟩
            have T := hs3
            have BT := Lib.hid (Bk.out.trans hb3)
            have KT := Lib.hid (Kk.out.trans hk3)
            clear hs3 hb3 hk3
            have v67 := T.at_on
            have cb := T.low
            have HHas := Lib.hid (fun w => has_any t1.on n w hn (T.on))
            have T0 := Lib.hid T
            have n0 := T.at_low' hn64
            have n1 := T.at_low' hn
            have nz := T.cells.fz (1 + node)
            clear T
            go_wp2_with fail
            refine (HHas.out _).mono ?_
            rintro e V4 ⟨rfl, rfl⟩
            by_cases hh : t1.on.testBit n = true
            · rw [mid_yes hh] at Hg1
              obtain ⟨x1, hx1⟩ : ∃ x, t1.low.getD node 0 = x := ⟨_, rfl⟩
              obtain ⟨x2, hx2⟩ : ∃ x, t1.low.getD n 0 = x := ⟨_, rfl⟩
              rw [hx1] at n0 Hg1
              rw [hx2] at n1 Hg1
              clear hx1 hx2
              go_wp2_with fail
              go_still_tail 18, (by kernel_rfl)
              change wpList _ _ _ _ _ V3.drew
              go_wp2_with fail
              go_roundw
              case rel => exact ⟨k + 1, _, _, _, by go_num, Hlt.out, Hg1.out, (T0.out.setLow' hn64 _).drew, (BT.out.setCell (p := ⟨p, 1 + node, none⟩) T0.out.pC _).drew, (KT.out.trans (Kept.put _ _ _ _)).drew⟩
              case measure => simp [intOf]; have := Hlt.out; omega
            · rw [mid_no hh] at Hg1
              have hh' : t1.on.testBit n = false := by simpa using hh
              go_wp2_with fail
              go_roundw
              case rel => exact ⟨k + 1, _, _, _, by go_num, Hlt.out, Hg1.out, T0.out, BT.out, KT.out⟩
              case measure => simp [intOf]; have := Hlt.out; omega
          · rw [if_neg h0] at Hr1
            have e1 : t1 = tk := (Option.some.inj Hr1.out).symm
            have t0 : (x0 == 0) = false := by simp [h0]
            clear h0 Hr1
            subst e1
            obtain ⟨V3, rfl⟩ : ∃ V3, V3 = wr := ⟨_, rfl⟩
            have T := Sk.out
            have BT := Bk
            have KT := Kk
            have v67 := T.at_on
            have cb := T.low
            have HHas := Lib.hid (fun w => has_any t1.on n w hn (T.on))
            have T0 := Lib.hid T
            have n0 := T.at_low' hn64
            have n1 := T.at_low' hn
            rw [Hx0.out] at n1
            have nz := T.cells.fz (1 + node)
            clear T
            go_wp2_with fail
            refine (HHas.out _).mono ?_
            rintro e V4 ⟨rfl, rfl⟩
            by_cases hh : t1.on.testBit n = true
            · rw [mid_yes hh] at Hg1
              obtain ⟨x1, hx1⟩ : ∃ x, t1.low.getD node 0 = x := ⟨_, rfl⟩
              have hx2 := Hx0.out
              rw [hx1] at n0 Hg1
              rw [hx2] at Hg1
              clear hx1 hx2
              go_wp2_with fail
              go_still_tail 18, (by kernel_rfl)
              change wpList _ _ _ _ _ V3.drew
              go_wp2_with fail
              go_roundw
              case rel => exact ⟨k + 1, _, _, _, by go_num, Hlt.out, Hg1.out, (T0.out.setLow' hn64 _).drew, (BT.out.setCell (p := ⟨p, 1 + node, none⟩) T0.out.pC _).drew, (KT.out.trans (Kept.put _ _ _ _)).drew⟩
              case measure => simp [intOf]; have := Hlt.out; omega
            · rw [mid_no hh] at Hg1
              have hh' : t1.on.testBit n = false := by simpa using hh
              go_wp2_with fail
              go_roundw
              case rel => exact ⟨k + 1, _, _, _, by go_num, Hlt.out, Hg1.out, T0.out, BT.out, KT.out⟩
              case measure => simp [intOf]; have := Hlt.out; omega
        · obtain rfl : k = l.length := by omega
          have hg := Hg.out
          rw [List.drop_length, goM] at hg
          injection hg with hg
          subst hg
          clear Hg
          obtain ⟨x0, hx0⟩ : ∃ x0, tk.low.getD node 0 = x0 := ⟨_, rfl⟩
          have c1 := Sk.out.at_low' hn64
          rw [hx0] at c1 Hend
          clear hx0
          have K2f := Lib.hid (K2.out.trans Kk.out)
          rcases Hend.out with ⟨hx, rfl⟩ | ⟨hx, way', c', hpop, hfl, rfl⟩
          · have tx : decide (x0 < (s.vis : Int) + 1) = true := decide_eq_true hx
            clear hx Hend
            go_wp2_with fail
            exact bodyPost_ret (v := .tuple #[]) (by simp [results, Tryd.results114, go_sem]) rfl ⟨rfl, _, _, Sk.out, Bk.out, K2f.out⟩
          · have tx : decide (x0 < (s.vis : Int) + 1) = false := decide_eq_false (by omega)
            have Hpop := Lib.hid hpop
            clear hx hpop Hend
            go_wp2_with fail
            go_loopw [7, 8] (fun cv _ wr => PopInv C p q L node tk way' c' w vW vF cv wr) (fun cv _ _ => 18446744073709551616 - (intOf cv).toNat)
            case atStart => exact ⟨65, 0, tk.way, _, _, rfl, by decide, Hpop.out, Sk.out, Bk.out, K2f.out⟩
            case round =>
              obtain ⟨fu, c, way, vWk, vFk, rfl, hc, hp, hsk, hbk, hkk⟩ := hrel
              cases fu with
              | zero => cases hp
              | succ fu =>
                have S5 := Lib.hid hsk
                have B5 := Lib.hid hbk
                have K5 := Lib.hid hkk
                have HHas := Lib.hid (fun w => has_any c node w hn64 hc)
                by_cases hh : c.testBit node = true
                · rw [popM, if_pos hh] at hp
                  injection hp with hp
                  injection hp with hp1 hp2
                  subst hp1 hp2
                  have h67 := hsk.at_on
                  have f67 := hsk.cells.fz 67
                  have e67 : bits .andNot .u64 ((tk.on : Nat) : Int) ((c : Nat) : Int) = ((diff tk.on c : Nat) : Int) := bits_diff _ _ hsk.on hc
                  have S6 := hsk.setOn (x := diff tk.on c) (Nat.lt_of_le_of_lt (diff_le _ _) hsk.on)
                  have B6 := hbk.setCell (p := ⟨p, 67, none⟩) hsk.pC (.int .u64 ((diff tk.on c : Nat) : Int))
                  have K6 := hkk.trans (Kept.put (p := p) (w := wr) vWk vFk 67 (.int .u64 ((diff tk.on c : Nat) : Int)))
                  obtain ⟨w6, hw6⟩ : ∃ u, wr.setCell ⟨p, 67, none⟩ (.int .u64 ((diff tk.on c : Nat) : Int)) = u := ⟨_, rfl⟩
                  rw [hw6] at S6 B6 K6
                  have h68 := S6.at_found
                  simp only at h67 h68
                  have S6 := Lib.hid S6
                  have B6 := Lib.hid B6
                  have K6 := Lib.hid K6
                  have hC6 : C ≤ w6.heap.size := Nat.le_trans hCw B6.out.size
                  clear hsk hbk hkk S5 B5 K5 Hpop
                  go_wp2_with fail
                  refine (HHas.out _).mono ?_
                  rintro e v3 ⟨rfl, rfl⟩
                  go_wp2_with (at_builtin; refine wpList_append_lies _ rfl (.tmp 149) (.tmp 151) 103 rfl C 98 j0 (.int .u64 0) 1 8 Tryd.underlying103 hj0 jz0 jz1 jz2 rfl (by decide) vFk tk.found.length (u64s tk.found) rfl (S6.out.found.alloc _) ⟨w6.heap.size, 0, none⟩ 1 1 [.int .u64 (c : Nat)] rfl rfl (World.news_of_block (cs := #[.int .u64 (c : Nat)]) (t := 98) (fr := (0, 0)) (heap_new w6 _)) (by simp [Value.oneCell']) (by decide) (by unfold maxLen; omega) (by omega) (by simp; omega) (w6.heap.size + 1) (by simp) ?_)
                  intro g cap w7 hown hgrow hat hlt
                  have A7 := Lib.hid (append_found S6.out hown hgrow hat hC6)
                  have z68 := A7.out.2.2.2.1
                  have y68 := A7.out.2.2.1.fz 68
                  clear hown hgrow hat hlt
                  go_wp2_with fail
                  exact bodyPost_ret (v := .tuple #[]) (by simp [results, Tryd.results114, go_sem]) rfl ⟨rfl, _, _, A7.out.1, B6.out.trans A7.out.2.2.2.2, K6.out.trans A7.out.2.1⟩
                · rw [popM, if_neg hh] at hp
                  cases hlast : way.getLast? with
                  | none => rw [hlast] at hp; cases hp
                  | some v =>
                    rw [hlast] at hp
                    simp only at hp
                    by_cases hv : 64 ≤ v ∨ c.testBit v = true
                    · rw [if_pos hv] at hp; cases hp
                    · rw [if_neg hv] at hp
                      have hv64 : v < 64 := by omega
                      have hvi : (v : Int) < 64 := by omega
                      have hvc : c.testBit v = false := by
                        cases e : c.testBit v with
                        | false => rfl
                        | true => exact absurd (.inr e) hv
                      have hh' : c.testBit node = false := by simpa using hh
                      obtain ⟨g, cap, rfl, hwl, hwc, hwg, hcell⟩ := own_last hsk.way hlast
                      obtain ⟨m, hm⟩ : ∃ m, way.length = m := ⟨_, rfl⟩
                      have h66 := hsk.at_way
                      have Hcut := own_cut hsk.way
                      simp only at h66
                      rw [hm] at h66 hwl hwc hcell Hcut
                      unfold maxLen at hwg
                      have Sd := Lib.hid hsk.drew
                      have Bd := Lib.hid hbk.drew
                      have Kd := Lib.hid hkk.drew
                      have Hdl := Lib.hid (show way.dropLast.length = m - 1 by rw [List.length_dropLast, hm])
                      have Hcut : wr.drew.ownsRow C 3 1 (.slice (some ⟨g, 0, none⟩) (m - 1) cap) (m - 1) (nats way.dropLast) := Hcut
                      have Hcut := Lib.hid Hcut
                      have Hp := Lib.hid hp
                      have ec : bits .or .u64 ((c : Nat) : Int) ((sing v : Nat) : Int) = ((c ||| sing v : Nat) : Int) := bits_or_u64_nat _ _ hc (sing_lt hv64)
                      have Hlt := Lib.hid (or_gt hvc)
                      have Hlt2 := Lib.hid (or_lt hc (sing_lt hv64))
                      have HSg := Lib.hid (fun w => single_any v w hv64)
                      have em : IntKind.i64.wrap ((m : Int) - 1) = (m : Int) - 1 := IntWalk.i64_in _ (by omega)
                      have i0 : (1 : Int) ≤ (m : Int) := by omega
                      have i1 : (m : Int) - 1 < (m : Int) := by omega
                      have i2 : (m : Int) - 1 ≤ (cap : Int) := by omega
                      clear hsk hbk hkk hp hv hlast Hpop S5 B5 K5
                      go_wp2_with fail
                      refine (HHas.out _).mono ?_
                      rintro e v3 ⟨rfl, rfl⟩
                      go_wp2_with fail
                      go_still_tail 12, (by kernel_rfl)
                      change wpList _ _ _ _ _ wr.drew
                      generalize wr.drew = wd at Sd Bd Kd Hcut ⊢
                      have h66 := Sd.out.at_way
                      have f66 := Sd.out.cells.fz 66
                      rw [hm] at h66
                      clear hm
                      go_wp2_with fail
                      go_still_tail 14, (by kernel_rfl)
                      change wpList _ _ _ _ _ wd.drew
                      have S6 := Lib.hid (Sd.out.drew.setWay (l := way.dropLast) (v := .slice (some ⟨g, 0, none⟩) (m - 1) cap) (by rw [Hdl.out]; exact Hcut.out) (fun b hb => Sd.out.wp b (by simpa [Value.ownBlock] using hb)))
                      go_wp2_with fail
                      refine (HSg.out _).mono ?_
                      rintro e v4 ⟨rfl, rfl⟩
                      go_wp2_with fail
                      go_roundw
                      case rel => exact ⟨fu, c ||| sing v, _, _, _, rfl, Hlt2.out, Hp.out, S6.out, Bd.out.drew.setCell (p := ⟨p, 66, none⟩) S6.out.pC _, Kd.out.drew.trans (Kept.putW _ _ _ (fun b hb => .inl (by simpa [Value.ownBlock] using hb)))⟩
                      case measure => simp [intOf]; have := Hlt.out; have := Hlt2.out; omega
end Go.Proofs.YthocdmlacfejkaaDoor
