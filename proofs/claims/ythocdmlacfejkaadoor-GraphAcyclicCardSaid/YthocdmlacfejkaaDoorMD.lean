/- Graph: Vm, Vis, Cmp, Lsts. -/
import Derived.Test.YthocdmlacfejkaaDoorMB
import Derived.Deep.AppendLies
import Derived.Test.YthocdmlacfejkaaDoorMC
import Derived.RegionTactic
import Derived.Deep.DeepCutAuto
import Derived.StillTailTactics
import Derived.Deep.WholeRow
namespace Go.Proofs.YthocdmlacfejkaaDoor
open Go.RowKit
structure St where
  low : List Int
  vis : Nat
  way : List Nat
  on : Nat
  found : List Nat
deriving DecidableEq
def popM (node : Nat) : Nat → List Nat → Nat → Option (List Nat × Nat)
  | 0, _, _ => none
  | f + 1, way, c =>
    if c.testBit node then some (way, c) else
    match way.getLast? with
    | none => none
    | some v => if 64 ≤ v ∨ c.testBit v = true then none else popM node f way.dropLast (c ||| sing v)
def goM (rec : Nat → St → Option St) (node : Nat) : List Nat → St → Option St
  | [], s => some s
  | n :: l, s =>
    match (if s.low.getD n 0 = 0 then rec n s else some s) with
    | none => none
    | some t => if t.low.length = 64 ∧ t.on < 18446744073709551616 then goM rec node l (if t.on.testBit n then { t with low := t.low.set node (min (t.low.getD node 0) (t.low.getD n 0)) } else t) else none
def inM (node : Nat) (s : St) : St := { s with vis := s.vis + 1, low := s.low.set node ((s.vis + 1 : Nat) : Int), way := s.way ++ [node], on := s.on ||| sing node }
def okM (node : Nat) (s : St) : Bool := decide (node < 64) && decide (s.low.length = 64) && decide (s.vis < 1000) && decide (s.way.length < 1000) && decide (s.found.length < 1000) && decide (s.on < 18446744073709551616)
def visitM (L : Nat → Nat) : Nat → Nat → St → Option St
  | 0, _, _ => none
  | f + 1, node, s =>
    if okM node s then
      match goM (visitM L f) node (bitsOf (L node)) (inM node s) with
      | none => none
      | some t =>
        if t.low.getD node 0 < ((s.vis + 1 : Nat) : Int) then some t else
        match popM node 65 t.way 0 with
        | none => none
        | some (way, c) => if t.found.length < 1000 then some { t with way := way, on := diff t.on c, found := t.found ++ [c] } else none
    else none
def st0 : St := ⟨List.replicate 64 0, 0, [], 0, []⟩
/-- All components that are found, in the order in which they are found. -/
def allM (L : Nat → Nat) : List Nat → St → Option St
  | [], s => some s
  | n :: l, s =>
    match (if s.low.getD n 0 = 0 then visitM L 65 n s else some s) with
    | none => none
    | some t => allM L l t
def ordM (n : Nat) (found : List Nat) : List Nat := (List.range n).flatMap fun i => found.filter fun c => Lib.ctz 64 c == i
def compM (es : List (Nat × Nat)) (n : Nat) : Option (List Nat) := (allM (adj es) (List.range n) st0).bind fun s => if s.found.all (fun c => decide (c < 18446744073709551616)) && decide (s.found.length < 1000) then some (ordM n s.found) else none
theorem comp_example : compM [(0, 1), (1, 0), (1, 2), (3, 2)] 4 = some [3, 4, 8] := by decide +kernel
/-- The cells of a search. -/
def scells (q : Nat) (s : St) (vW vF : Value) : List Value := .pointer (some ⟨q, 0, none⟩) :: (s.low.map (Value.int .i64) ++ [.int .i64 (s.vis : Nat), vW, .int .u64 (s.on : Nat), vF])
def u64s (l : List Nat) : List Value := l.map fun n => Value.int .u64 (n : Nat)
theorem sc_low {q n : Nat} {s : St} {vW vF : Value} (h : s.low.length = 64) (hn : n < 64) : (scells q s vW vF)[n + 1]? = some (.int .i64 (s.low.getD n 0)) := by
  unfold scells
  rw [List.getElem?_cons_succ, List.getElem?_append_left (by simp; omega), List.getElem?_map]
  simp [List.getD, h, hn]
theorem sc_end {q j : Nat} {s : St} {vW vF : Value} (h : s.low.length = 64) : (scells q s vW vF)[65 + j]? = [Value.int .i64 (s.vis : Nat), vW, .int .u64 (s.on : Nat), vF][j]? := by
  unfold scells
  rw [show 65 + j = (64 + j) + 1 by omega, List.getElem?_cons_succ, List.getElem?_append_right (by simp [h])]
  simp [h]
theorem sc_setlow {q n : Nat} {s : St} {vW vF : Value} {x : Int} (h : s.low.length = 64) (hn : n < 64) : (scells q s vW vF).set (n + 1) (.int .i64 x) = scells q { s with low := s.low.set n x } vW vF := by
  unfold scells
  rw [List.set_cons_succ, List.set_append_left _ _ (by simp; omega), List.map_set]
theorem sc_setend {q j : Nat} {s : St} {vW vF u : Value} (h : s.low.length = 64) : (scells q s vW vF).set (65 + j) u = .pointer (some ⟨q, 0, none⟩) :: (s.low.map (Value.int .i64) ++ [Value.int .i64 (s.vis : Nat), vW, .int .u64 (s.on : Nat), vF].set j u) := by
  unfold scells
  rw [show 65 + j = (64 + j) + 1 by omega, List.set_cons_succ, List.set_append_right _ _ (by simp [h])]
  simp [h]
theorem sc_len {q : Nat} {s : St} {vW vF : Value} (h : s.low.length = 64) : (scells q s vW vF).length = 69 := by
  unfold scells; simp [h]
/-- A search in memory. -/
structure Srch (C : Nat) (w : World) (p q : Nat) (L : Nat → Nat) (s : St) (vW vF : Value) : Prop where
  cells : Cells w p (scells q s vW vF)
  low : s.low.length = 64
  on : s.on < 18446744073709551616
  way : w.ownsRow C 3 1 vW s.way.length (nats s.way)
  found : w.ownsRow C 98 1 vF s.found.length (u64s s.found)
  links : Cells w q (sets L)
  pC : C ≤ p
  pq : p ≠ q
  wp : ∀ b, vW.ownBlock = some b → b ≠ p ∧ b ≠ q ∧ vF.ownBlock ≠ some b
  fp : ∀ b, vF.ownBlock = some b → b ≠ p ∧ b ≠ q
/-- What a visit leaves alone. -/
structure Kept (w w' : World) (p : Nat) (vW vF vW' vF' : Value) : Prop where
  size : w.heap.size ≤ w'.heap.size
  block : ∀ b, b < w.heap.size → b ≠ p → vW.ownBlock ≠ some b → vF.ownBlock ≠ some b → w'.heap[b]? = w.heap[b]?
  newW : ∀ b, vW'.ownBlock = some b → vW.ownBlock = some b ∨ w.heap.size ≤ b
  newF : ∀ b, vF'.ownBlock = some b → vF.ownBlock = some b ∨ w.heap.size ≤ b
theorem Kept.refl (w : World) (p : Nat) (vW vF : Value) : Kept w w p vW vF vW vF := ⟨Nat.le_refl _, fun _ _ _ _ _ => rfl, fun _ h => .inl h, fun _ h => .inl h⟩
theorem Kept.trans {w w1 w2 : World} {p : Nat} {a b a1 b1 a2 b2 : Value} (h : Kept w w1 p a b a1 b1) (k : Kept w1 w2 p a1 b1 a2 b2) : Kept w w2 p a b a2 b2 := by
  refine ⟨Nat.le_trans h.size k.size, fun x hx hp hw hf => ?_, fun x hx => ?_, fun x hx => ?_⟩
  · rw [k.block x (Nat.lt_of_lt_of_le hx h.size) hp ?_ ?_, h.block x hx hp hw hf]
    · intro e
      rcases h.newW x e with e' | e'
      · exact hw e'
      · omega
    · intro e
      rcases h.newF x e with e' | e'
      · exact hf e'
      · omega
  · rcases k.newW x hx with e | e
    · exact h.newW x e
    · exact .inr (Nat.le_trans h.size e)
  · rcases k.newF x hx with e | e
    · exact h.newF x e
    · exact .inr (Nat.le_trans h.size e)
theorem Kept.below {w w' : World} (hb : Below w.heap.size w w') (p : Nat) (vW vF : Value) : Kept w w' p vW vF vW vF := ⟨hb.size, fun b h _ _ _ => hb.block b h, fun _ h => .inl h, fun _ h => .inl h⟩
theorem Kept.put {w : World} {p : Nat} (vW vF : Value) (i : Nat) (u : Value) : Kept w (w.setCell ⟨p, i, none⟩ u) p vW vF vW vF :=
  ⟨by simp [World.setCell], fun b _ hp _ _ => Below.heap_setCell w ⟨p, i, none⟩ u b hp, fun _ h => .inl h, fun _ h => .inl h⟩
/-- A store into the search's own block, which may hand over another row. -/
theorem Kept.putW {w : World} {p : Nat} {vW vW' : Value} (vF : Value) (i : Nat) (u : Value) (h : ∀ b, vW'.ownBlock = some b → vW.ownBlock = some b ∨ w.heap.size ≤ b) : Kept w (w.setCell ⟨p, i, none⟩ u) p vW vF vW' vF :=
  ⟨by simp [World.setCell], fun b _ hp _ _ => Below.heap_setCell w ⟨p, i, none⟩ u b hp, h, fun _ h => .inl h⟩
theorem Kept.drew {w w' : World} {p : Nat} {a b a1 b1 : Value} (h : Kept w w' p a b a1 b1) : Kept w w'.drew p a b a1 b1 := ⟨h.size, h.block, h.newW, h.newF⟩
theorem grown_put (w : World) (p i : Nat) (u : Value) : w.grownBy (w.setCell ⟨p, i, none⟩ u) (some p) :=
  ⟨rfl, rfl, rfl, by simp [World.setCell], fun k _ hk => Below.heap_setCell w ⟨p, i, none⟩ u k (fun e => hk (by rw [e]))⟩
theorem Cells.of_block {w w' : World} {p : Nat} {vs : List Value} (h : Cells w p vs) (hb : w'.heap[p]? = w.heap[p]?) (hs : w.heap.size ≤ w'.heap.size) : Cells w' p vs :=
  ⟨fun i => (World.cell?_of_block (a := ⟨p, i, none⟩) hb).trans (h.at_ i), fun i => (World.frozen?_of_block (a := ⟨p, i, none⟩) hb).trans (h.fz i), Nat.lt_of_lt_of_le h.lt hs⟩
theorem Srch.put {C : Nat} {w : World} {p q : Nat} {L : Nat → Nat} {s s' : St} {vW vF vW' vF' : Value} (h : Srch C w p q L s vW vF) (i : Nat) (u : Value) (hi : i < 69) (hs : (scells q s vW vF).set i u = scells q s' vW' vF') (hl : s'.low.length = 64) (ho : s'.on < 18446744073709551616)
    (hw : w.ownsRow C 3 1 vW' s'.way.length (nats s'.way)) (hf : w.ownsRow C 98 1 vF' s'.found.length (u64s s'.found)) (wp : ∀ b, vW'.ownBlock = some b → b ≠ p ∧ b ≠ q ∧ vF'.ownBlock ≠ some b) (fp : ∀ b, vF'.ownBlock = some b → b ≠ p ∧ b ≠ q) : Srch C (w.setCell ⟨p, i, none⟩ u) p q L s' vW' vF' := by
  have hc := h.cells.set i u (by rw [sc_len h.low]; exact hi)
  rw [hs] at hc
  refine ⟨hc, hl, ho, hw.kept (grown_put w p i u) ?_, hf.kept (grown_put w p i u) ?_, h.links.other (Ne.symm h.pq) i u, h.pC, h.pq, wp, fp⟩
  · cases e : vW'.ownBlock with
    | none => exact .inl rfl
    | some b => exact .inr fun e' => (wp b e).1 (Option.some.inj e')
  · cases e : vF'.ownBlock with
    | none => exact .inl rfl
    | some b => exact .inr fun e' => (fp b e).1 (Option.some.inj e')
theorem Srch.keep {C : Nat} {w w' : World} {p q : Nat} {L : Nat → Nat} {s : St} {vW vF : Value} (h : Srch C w p q L s vW vF) (hb : Below w.heap.size w w') : Srch C w' p q L s vW vF := by
  have hg : w.grownBy w' none := ⟨hb.os, hb.tape, hb.output, hb.size, fun k hk _ => hb.block k hk⟩
  refine ⟨h.cells.keep hb, h.low, h.on, h.way.kept hg ?_, h.found.kept hg ?_, h.links.keep hb, h.pC, h.pq, h.wp, h.fp⟩
  · cases vW.ownBlock <;> simp
  · cases vF.ownBlock <;> simp
theorem Srch.drew {C : Nat} {w : World} {p q : Nat} {L : Nat → Nat} {s : St} {vW vF : Value} (h : Srch C w p q L s vW vF) : Srch C w.drew p q L s vW vF := h.keep (Below.refl _ _).drew
theorem Srch.setLow {C : Nat} {w : World} {p q : Nat} {L : Nat → Nat} {s : St} {vW vF : Value} (h : Srch C w p q L s vW vF) {n : Nat} (hn : n < 64) (x : Int) : Srch C (w.setCell ⟨p, n + 1, none⟩ (.int .i64 x)) p q L { s with low := s.low.set n x } vW vF :=
  h.put (s' := { s with low := s.low.set n x }) (n + 1) _ (by omega) (sc_setlow h.low hn) (by simp [h.low]) h.on h.way h.found h.wp h.fp
theorem Srch.setVis {C : Nat} {w : World} {p q : Nat} {L : Nat → Nat} {s : St} {vW vF : Value} (h : Srch C w p q L s vW vF) (x : Nat) : Srch C (w.setCell ⟨p, 65, none⟩ (.int .i64 (x : Nat))) p q L { s with vis := x } vW vF :=
  h.put (s' := { s with vis := x }) 65 _ (by omega) (sc_setend (j := 0) h.low) h.low h.on h.way h.found h.wp h.fp
theorem Srch.setOn {C : Nat} {w : World} {p q : Nat} {L : Nat → Nat} {s : St} {vW vF : Value} (h : Srch C w p q L s vW vF) {x : Nat} (hx : x < 18446744073709551616) : Srch C (w.setCell ⟨p, 67, none⟩ (.int .u64 (x : Nat))) p q L { s with on := x } vW vF :=
  h.put (s' := { s with on := x }) 67 _ (by omega) (sc_setend (j := 2) h.low) h.low hx h.way h.found h.wp h.fp
theorem Srch.setWay {C : Nat} {w : World} {p q : Nat} {L : Nat → Nat} {s : St} {vW vF v : Value} {l : List Nat} (h : Srch C w p q L s vW vF) (hv : w.ownsRow C 3 1 v l.length (nats l)) (wp : ∀ b, v.ownBlock = some b → b ≠ p ∧ b ≠ q ∧ vF.ownBlock ≠ some b) : Srch C (w.setCell ⟨p, 66, none⟩ v) p q L { s with way := l } v vF :=
  h.put (s' := { s with way := l }) 66 _ (by omega) (sc_setend (j := 1) h.low) h.low h.on hv h.found wp h.fp
theorem Srch.setFound {C : Nat} {w : World} {p q : Nat} {L : Nat → Nat} {s : St} {vW vF v : Value} {l : List Nat} (h : Srch C w p q L s vW vF) (hv : w.ownsRow C 98 1 v l.length (u64s l)) (fp : ∀ b, v.ownBlock = some b → b ≠ p ∧ b ≠ q ∧ vW.ownBlock ≠ some b) : Srch C (w.setCell ⟨p, 68, none⟩ v) p q L { s with found := l } vW v :=
  h.put (s' := { s with found := l }) 68 _ (by omega) (sc_setend (j := 3) h.low) h.low h.on h.way hv (fun b hb => ⟨(h.wp b hb).1, (h.wp b hb).2.1, fun e => (fp b e).2.2 hb⟩) (fun b hb => ⟨(fp b hb).1, (fp b hb).2.1⟩)
theorem Kept.grown {w w1 : World} {p : Nat} {vW vF : Value} (hg : w.grownBy w1 vW.ownBlock) : ∀ b, b < w.heap.size → b ≠ p → vW.ownBlock ≠ some b → vF.ownBlock ≠ some b → w1.heap[b]? = w.heap[b]? := fun b hb _ hw _ => hg.block b hb (Ne.symm hw)
theorem own_sep {v u : Value} (h : ∀ b, v.ownBlock = some b → u.ownBlock ≠ some b) : v.ownBlock = none ∨ v.ownBlock ≠ u.ownBlock := by
  cases e : v.ownBlock with
  | none => exact .inl rfl
  | some b => exact .inr fun e' => h b e e'.symm
/-- Behind an append to the way. -/
theorem Srch.pushW {C : Nat} {w w1 : World} {p q : Nat} {L : Nat → Nat} {s : St} {vW vF v : Value} {l : List Nat} (h : Srch C w p q L s vW vF) (hg : w.grownBy w1 vW.ownBlock) (hv : w1.ownsRow C 3 1 v l.length (nats l)) (hn : ∀ b, v.ownBlock = some b → vW.ownBlock = some b ∨ w.heap.size ≤ b) :
    Srch C (w1.setCell ⟨p, 66, none⟩ v) p q L { s with way := l } v vF ∧ Kept w (w1.setCell ⟨p, 66, none⟩ v) p vW vF v vF ∧ Cells w1 p (scells q s vW vF) := by
  have np : some p ≠ vW.ownBlock := fun e => (h.wp p e.symm).1 rfl
  have nq : some q ≠ vW.ownBlock := fun e => (h.wp q e.symm).2.1 rfl
  have cp := h.cells.of_block (hg.block p h.cells.lt np) hg.size
  have cq := h.links.of_block (hg.block q h.links.lt nq) hg.size
  have wpv : ∀ b, v.ownBlock = some b → b ≠ p ∧ b ≠ q ∧ vF.ownBlock ≠ some b := fun b hb => by
    rcases hn b hb with e | e
    · exact h.wp b e
    · refine ⟨?_, ?_, fun e' => ?_⟩
      · have := h.cells.lt; omega
      · have := h.links.lt; omega
      · have := (h.found.lt b e').2; omega
  have hf : w1.ownsRow C 98 1 vF s.found.length (u64s s.found) := h.found.kept hg (own_sep fun b e e' => (h.wp b e').2.2 e)
  refine ⟨?_, ⟨by simpa [World.setCell] using hg.size, fun b hb hp hw hfb => ?_, hn, fun _ h => .inl h⟩, cp⟩
  · have hc := cp.set 66 v (by rw [sc_len h.low]; omega)
    rw [show (scells q s vW vF).set 66 v = scells q { s with way := l } v vF from sc_setend (j := 1) h.low] at hc
    refine ⟨hc, h.low, h.on, hv.kept (grown_put w1 p 66 v) ?_, hf.kept (grown_put w1 p 66 v) ?_, cq.other (Ne.symm h.pq) 66 v, h.pC, h.pq, wpv, h.fp⟩
    · cases e : v.ownBlock with
      | none => exact .inl rfl
      | some b => exact .inr fun e' => (wpv b e).1 (Option.some.inj e')
    · cases e : vF.ownBlock with
      | none => exact .inl rfl
      | some b => exact .inr fun e' => (h.fp b e).1 (Option.some.inj e')
  · rw [Below.heap_setCell w1 ⟨p, 66, none⟩ v b hp]
    exact hg.block b hb (Ne.symm hw)
/-- Behind an append to what is found. -/
theorem Srch.pushF {C : Nat} {w w1 : World} {p q : Nat} {L : Nat → Nat} {s : St} {vW vF v : Value} {l : List Nat} (h : Srch C w p q L s vW vF) (hg : w.grownBy w1 vF.ownBlock) (hv : w1.ownsRow C 98 1 v l.length (u64s l)) (hn : ∀ b, v.ownBlock = some b → vF.ownBlock = some b ∨ w.heap.size ≤ b) :
    Srch C (w1.setCell ⟨p, 68, none⟩ v) p q L { s with found := l } vW v ∧ Kept w (w1.setCell ⟨p, 68, none⟩ v) p vW vF vW v ∧ Cells w1 p (scells q s vW vF) := by
  have np : some p ≠ vF.ownBlock := fun e => (h.fp p e.symm).1 rfl
  have nq : some q ≠ vF.ownBlock := fun e => (h.fp q e.symm).2 rfl
  have cp := h.cells.of_block (hg.block p h.cells.lt np) hg.size
  have cq := h.links.of_block (hg.block q h.links.lt nq) hg.size
  have fpv : ∀ b, v.ownBlock = some b → b ≠ p ∧ b ≠ q ∧ vW.ownBlock ≠ some b := fun b hb => by
    rcases hn b hb with e | e
    · exact ⟨(h.fp b e).1, (h.fp b e).2, fun e' => (h.wp b e').2.2 e⟩
    · refine ⟨?_, ?_, fun e' => ?_⟩
      · have := h.cells.lt; omega
      · have := h.links.lt; omega
      · have := (h.way.lt b e').2; omega
  have hw : w1.ownsRow C 3 1 vW s.way.length (nats s.way) := h.way.kept hg (own_sep fun b e e' => (h.wp b e).2.2 e')
  refine ⟨?_, ⟨by simpa [World.setCell] using hg.size, fun b hb hp hwb hfb => ?_, fun _ h => .inl h, hn⟩, cp⟩
  · have hc := cp.set 68 v (by rw [sc_len h.low]; omega)
    rw [show (scells q s vW vF).set 68 v = scells q { s with found := l } vW v from sc_setend (j := 3) h.low] at hc
    refine ⟨hc, h.low, h.on, hw.kept (grown_put w1 p 68 v) ?_, hv.kept (grown_put w1 p 68 v) ?_, cq.other (Ne.symm h.pq) 68 v, h.pC, h.pq, fun b hb => ⟨(h.wp b hb).1, (h.wp b hb).2.1, fun e => (fpv b e).2.2 hb⟩, fun b hb => ⟨(fpv b hb).1, (fpv b hb).2.1⟩⟩
    · cases e : vW.ownBlock with
      | none => exact .inl rfl
      | some b => exact .inr fun e' => (h.wp b e).1 (Option.some.inj e')
    · cases e : v.ownBlock with
      | none => exact .inl rfl
      | some b => exact .inr fun e' => (fpv b e).1 (Option.some.inj e')
  · rw [Below.heap_setCell w1 ⟨p, 68, none⟩ v b hp]
    exact hg.block b hb (Ne.symm hfb)
end Go.Proofs.YthocdmlacfejkaaDoor
namespace Go.Proofs.YthocdmlacfejkaaDoor
open Go.RowKit
theorem visit_split {L : Nat → Nat} {f node : Nat} {s s' : St} (h : visitM L (f + 1) node s = some s') :
    (node < 64 ∧ s.low.length = 64 ∧ s.vis < 1000 ∧ s.way.length < 1000 ∧ s.found.length < 1000 ∧ s.on < 18446744073709551616) ∧ ∃ t, goM (visitM L f) node (bitsOf (L node)) (inM node s) = some t ∧
      ((t.low.getD node 0 < ((s.vis + 1 : Nat) : Int) ∧ s' = t) ∨ (¬ t.low.getD node 0 < ((s.vis + 1 : Nat) : Int) ∧ ∃ way c, popM node 65 t.way 0 = some (way, c) ∧ t.found.length < 1000 ∧ s' = { t with way := way, on := diff t.on c, found := t.found ++ [c] })) := by
  rw [visitM] at h
  by_cases h0 : okM node s = true
  · rw [if_pos h0] at h
    simp only [okM, Bool.and_eq_true, decide_eq_true_eq] at h0
    refine ⟨by omega, ?_⟩
    cases h1 : goM (visitM L f) node (bitsOf (L node)) (inM node s) with
    | none => rw [h1] at h; cases h
    | some t =>
      rw [h1] at h
      refine ⟨t, rfl, ?_⟩
      simp only at h
      by_cases h2 : t.low.getD node 0 < ((s.vis + 1 : Nat) : Int)
      · rw [if_pos h2] at h; injection h with h; exact .inl ⟨h2, h.symm⟩
      · rw [if_neg h2] at h
        refine .inr ⟨h2, ?_⟩
        cases h3 : popM node 65 t.way 0 with
        | none => rw [h3] at h; cases h
        | some x =>
          obtain ⟨way, c⟩ := x
          rw [h3] at h
          simp only at h
          by_cases h4 : t.found.length < 1000
          · rw [if_pos h4] at h; injection h with h; exact ⟨way, c, rfl, h4, h.symm⟩
          · rw [if_neg h4] at h; cases h
  · rw [if_neg h0] at h; cases h
/-- As a visit begins: the way not yet longer. -/
def inMa (node : Nat) (s : St) : St := { s with vis := s.vis + 1, low := s.low.set node ((s.vis : Int) + 1) }
/-- What a visit does. -/
def VisPost (C : Nat) (p q : Nat) (L : Nat → Nat) (s' : St) (vW vF : Value) (w : World) (e : Ending) (w' : World) : Prop :=
  e = .returned (.tuple #[]) ∧ ∃ vW' vF', Srch C w' p q L s' vW' vF' ∧ Below C w w' ∧ Kept w w' p vW vF vW' vF'
theorem Srch.at_low {C : Nat} {w : World} {p q : Nat} {L : Nat → Nat} {s : St} {vW vF : Value} (h : Srch C w p q L s vW vF) {n : Nat} (hn : n < 64) : w.cell? ⟨p, n + 1, none⟩ = some (.int .i64 (s.low.getD n 0)) := (h.cells.at_ _).trans (sc_low h.low hn)
theorem Srch.at_low' {C : Nat} {w : World} {p q : Nat} {L : Nat → Nat} {s : St} {vW vF : Value} (h : Srch C w p q L s vW vF) {n : Nat} (hn : n < 64) : w.cell? ⟨p, 1 + n, none⟩ = some (.int .i64 (s.low.getD n 0)) := by rw [Nat.add_comm]; exact h.at_low hn
theorem Srch.setLow' {C : Nat} {w : World} {p q : Nat} {L : Nat → Nat} {s : St} {vW vF : Value} (h : Srch C w p q L s vW vF) {n : Nat} (hn : n < 64) (x : Int) : Srch C (w.setCell ⟨p, 1 + n, none⟩ (.int .i64 x)) p q L { s with low := s.low.set n x } vW vF := by rw [Nat.add_comm]; exact h.setLow hn x
theorem Srch.at_vis {C : Nat} {w : World} {p q : Nat} {L : Nat → Nat} {s : St} {vW vF : Value} (h : Srch C w p q L s vW vF) : w.cell? ⟨p, 65, none⟩ = some (.int .i64 (s.vis : Nat)) := (h.cells.at_ _).trans (sc_end (j := 0) h.low)
theorem Srch.at_way {C : Nat} {w : World} {p q : Nat} {L : Nat → Nat} {s : St} {vW vF : Value} (h : Srch C w p q L s vW vF) : w.cell? ⟨p, 66, none⟩ = some vW := (h.cells.at_ _).trans (sc_end (j := 1) h.low)
theorem Srch.at_on {C : Nat} {w : World} {p q : Nat} {L : Nat → Nat} {s : St} {vW vF : Value} (h : Srch C w p q L s vW vF) : w.cell? ⟨p, 67, none⟩ = some (.int .u64 (s.on : Nat)) := (h.cells.at_ _).trans (sc_end (j := 2) h.low)
theorem Srch.at_found {C : Nat} {w : World} {p q : Nat} {L : Nat → Nat} {s : St} {vW vF : Value} (h : Srch C w p q L s vW vF) : w.cell? ⟨p, 68, none⟩ = some vF := (h.cells.at_ _).trans (sc_end (j := 3) h.low)
theorem Srch.at_after {C : Nat} {w : World} {p q : Nat} {L : Nat → Nat} {s : St} {vW vF : Value} (h : Srch C w p q L s vW vF) : w.cell? ⟨p, 0, none⟩ = some (.pointer (some ⟨q, 0, none⟩)) := h.cells.at_ _
theorem append_way {C : Nat} {w w1 : World} {p q g cap node : Nat} {L : Nat → Nat} {s : St} {vW vF : Value} {o : Obj} (h : Srch C w p q L s vW vF) (hown : w1.ownsRow C 3 1 (.slice (some ⟨g, 0, none⟩) (s.way.length + 1) cap) (s.way.length + 1) (nats s.way ++ [.int .i64 (node : Nat)])) (hg : (w.alloc o).grownBy w1 vW.ownBlock) (hat : vW.ownBlock = some g ∨ g = w.heap.size + 1) (hC : C ≤ w.heap.size) :
    Srch C (w1.setCell ⟨p, 66, none⟩ (.slice (some ⟨g, 0, none⟩) (s.way.length + 1) cap)) p q L { s with way := s.way ++ [node] } (.slice (some ⟨g, 0, none⟩) (s.way.length + 1) cap) vF ∧ Kept w (w1.setCell ⟨p, 66, none⟩ (.slice (some ⟨g, 0, none⟩) (s.way.length + 1) cap)) p vW vF (.slice (some ⟨g, 0, none⟩) (s.way.length + 1) cap) vF ∧ Cells w1 p (scells q s vW vF) ∧
      w1.cell? ⟨p, 67, none⟩ = some (.int .u64 (s.on : Nat)) ∧ w1.cell? ⟨p, 66, none⟩ = some vW ∧ (w1.setCell ⟨p, 66, none⟩ (.slice (some ⟨g, 0, none⟩) (s.way.length + 1) cap)).cell? ⟨p, 67, none⟩ = some (.int .u64 (s.on : Nat)) ∧ Below C w (w1.setCell ⟨p, 66, none⟩ (.slice (some ⟨g, 0, none⟩) (s.way.length + 1) cap)) := by
  have hb := (Below.refl w.heap.size w).alloc (Nat.le_refl _) o
  have h0 := h.keep hb
  have hk := Kept.below hb p vW vF
  obtain ⟨a, b, c⟩ := h0.pushW (l := s.way ++ [node]) hg (by rw [nats_snoc, List.length_append]; exact hown) (fun b hb => by
    simp only [Value.ownBlock, Option.some.injEq] at hb
    subst hb
    rcases hat with e | e
    · exact .inl e
    · exact .inr (by simp; omega))
  exact ⟨a, hk.trans b, c, (c.at_ 67).trans (sc_end (j := 2) h.low), (c.at_ 66).trans (sc_end (j := 1) h.low), a.at_on, (((Below.refl C w).alloc hC o).grown hg (by simp; omega) (fun k hk => own_ge h.way hk)).setCell h.pC _⟩
theorem push_on {C : Nat} {w : World} {p q node : Nat} {L : Nat → Nat} {s : St} {vW vF : Value} (h : Srch C w p q L { inMa node s with way := s.way ++ [node] } vW vF) (ho : s.on < 18446744073709551616) (hn : node < 64) :
    Srch C (w.setCell ⟨p, 67, none⟩ (.int .u64 ((s.on ||| sing node : Nat) : Int))) p q L (inM node s) vW vF := h.setOn (or_lt ho (sing_lt hn))
theorem Kept.frame {C : Nat} {w w' : World} {p : Nat} {a b a1 b1 : Value} (h : Kept w w' p a b a1 b1) (hp : C ≤ p) (ha : ∀ k, a.ownBlock = some k → C ≤ k) (hb : ∀ k, b.ownBlock = some k → C ≤ k) (hC : C ≤ w.heap.size) : ∀ k, k < C → w'.heap[k]? = w.heap[k]? :=
  fun k hk => h.block k (by omega) (by omega) (fun e => by have := ha k e; omega) (fun e => by have := hb k e; omega)
def mid (node n : Nat) (t : St) : St := if t.on.testBit n then { t with low := t.low.set node (min (t.low.getD node 0) (t.low.getD n 0)) } else t
theorem mid_yes {node n : Nat} {t : St} (h : t.on.testBit n = true) : mid node n t = { t with low := t.low.set node (min (t.low.getD node 0) (t.low.getD n 0)) } := if_pos h
theorem mid_no {node n : Nat} {t : St} (h : ¬ t.on.testBit n = true) : mid node n t = t := if_neg h
theorem go_step {rec : Nat → St → Option St} {node k n : Nat} {l : List Nat} {s t : St} (hk : l[k]? = some n) (h : goM rec node (l.drop k) s = some t) :
    ∃ t1, (if s.low.getD n 0 = 0 then rec n s else some s) = some t1 ∧ t1.low.length = 64 ∧ t1.on < 18446744073709551616 ∧ goM rec node (l.drop (k + 1)) (mid node n t1) = some t := by
  have hlt : k < l.length := by
    rcases Nat.lt_or_ge k l.length with h1 | h1
    · exact h1
    · rw [List.getElem?_eq_none h1] at hk; cases hk
  rw [List.drop_eq_getElem_cons hlt, goM] at h
  rw [List.getElem?_eq_getElem hlt] at hk
  injection hk with hk
  rw [hk] at h
  cases h1 : (if s.low.getD n 0 = 0 then rec n s else some s) with
  | none => rw [h1] at h; cases h
  | some t1 =>
    rw [h1] at h
    simp only at h
    by_cases h2 : t1.low.length = 64 ∧ t1.on < 18446744073709551616
    · rw [if_pos h2] at h
      exact ⟨t1, rfl, h2.1, h2.2, h⟩
    · rw [if_neg h2] at h; cases h
def VisInv (C p q : Nat) (L : Nat → Nat) (node : Nat) (rec : Nat → St → Option St) (l : List Nat) (t : St) (w V2 : World) (vW1 vF : Value) (i : Value) (wr : World) : Prop :=
  ∃ (k : Nat) (tk : St) (vWk vFk : Value), i = .int .i64 (k : Nat) ∧ k ≤ l.length ∧ goM rec node (l.drop k) tk = some t ∧ Srch C wr p q L tk vWk vFk ∧ Below C w wr ∧ Kept V2 wr p vW1 vF vWk vFk
theorem or_gt {c v : Nat} (h : c.testBit v = false) : c < c ||| sing v := by
  have h1 : c ≤ c ||| sing v := Nat.left_le_or
  rcases Nat.lt_or_ge c (c ||| sing v) with h2 | h2
  · exact h2
  · have e : c ||| sing v = c := Nat.le_antisymm h2 h1
    have : (c ||| sing v).testBit v = true := by rw [Nat.testBit_or, sing_bit]; simp
    rw [e, h] at this
    cases this
theorem own_last {w : World} {C v : Nat} {vW : Value} {way : List Nat} (h : w.ownsRow C 3 1 vW way.length (nats way)) (hl : way.getLast? = some v) :
    ∃ g cap, vW = .slice (some ⟨g, 0, none⟩) way.length cap ∧ 1 ≤ way.length ∧ way.length ≤ cap ∧ cap ≤ maxLen ∧ w.cell? ⟨g, way.length - 1, none⟩ = some (.int .i64 (v : Nat)) := by
  have h1 : 1 ≤ way.length := by
    cases way with
    | nil => cases hl
    | cons a l => simp
  have hk : way[way.length - 1]? = some v := by rw [← List.getLast?_eq_getElem?]; exact hl
  obtain ⟨A, c, rfl, hn, hc1, hc2⟩ := own_nats h
  obtain ⟨b, o, e, hb, hlt, hcell⟩ := hn _ _ hk
  rcases h.2 with ⟨e', _⟩ | ⟨g, cap, cur, e', _⟩
  · injection e' with e1 _ _
    rw [e] at e1
    cases e1
  · injection e' with e1 _ e3
    rw [e] at e1
    injection e1 with e1
    injection e1 with e1 e2
    subst e1 e2 e3
    refine ⟨b, c, by rw [e], h1, hc2, hc1, ?_⟩
    rw [Nat.zero_add] at hcell
    exact hcell
theorem own_cut {w : World} {C g cap : Nat} {way : List Nat} (h : w.ownsRow C 3 1 (.slice (some ⟨g, 0, none⟩) way.length cap) way.length (nats way)) : w.ownsRow C 3 1 (.slice (some ⟨g, 0, none⟩) (way.length - 1) cap) (way.length - 1) (nats way.dropLast) := by
  refine ⟨by rw [nats_len, List.length_dropLast, Nat.mul_one], .inr ?_⟩
  rcases h.2 with ⟨e, _⟩ | ⟨g', cap', cur, e, hg, hh, hnc, hcm, hcs, hx⟩
  · cases e
  · injection e with e1 _ e3
    injection e1 with e1
    injection e1 with e1
    subst e1 e3
    refine ⟨g, cap, cur, rfl, hg, hh, by omega, hcm, hcs, ?_⟩
    rw [Nat.mul_one] at hx ⊢
    have : (cur.toList.take way.length).take (way.length - 1) = (nats way).take (way.length - 1) := by rw [hx]
    rw [List.take_take, Nat.min_eq_left (by omega)] at this
    rw [this]
    unfold nats
    rw [← List.map_take, List.dropLast_eq_take]
theorem append_found {C : Nat} {w w1 : World} {p q g cap c : Nat} {L : Nat → Nat} {s : St} {vW vF : Value} {o : Obj} (h : Srch C w p q L s vW vF) (hown : w1.ownsRow C 98 1 (.slice (some ⟨g, 0, none⟩) (s.found.length + 1) cap) (s.found.length + 1) (u64s s.found ++ [.int .u64 (c : Nat)])) (hg : (w.alloc o).grownBy w1 vF.ownBlock) (hat : vF.ownBlock = some g ∨ g = w.heap.size + 1) (hC : C ≤ w.heap.size) :
    Srch C (w1.setCell ⟨p, 68, none⟩ (.slice (some ⟨g, 0, none⟩) (s.found.length + 1) cap)) p q L { s with found := s.found ++ [c] } vW (.slice (some ⟨g, 0, none⟩) (s.found.length + 1) cap) ∧ Kept w (w1.setCell ⟨p, 68, none⟩ (.slice (some ⟨g, 0, none⟩) (s.found.length + 1) cap)) p vW vF vW (.slice (some ⟨g, 0, none⟩) (s.found.length + 1) cap) ∧ Cells w1 p (scells q s vW vF) ∧
      w1.cell? ⟨p, 68, none⟩ = some vF ∧ Below C w (w1.setCell ⟨p, 68, none⟩ (.slice (some ⟨g, 0, none⟩) (s.found.length + 1) cap)) := by
  have hb := (Below.refl w.heap.size w).alloc (Nat.le_refl _) o
  have h0 := h.keep hb
  have hk := Kept.below hb p vW vF
  obtain ⟨a, b, c'⟩ := h0.pushF (l := s.found ++ [c]) hg (by unfold u64s at *; rw [List.map_append, List.length_append]; exact hown) (fun b hb => by
    simp only [Value.ownBlock, Option.some.injEq] at hb
    subst hb
    rcases hat with e | e
    · exact .inl e
    · exact .inr (by simp; omega))
  exact ⟨a, hk.trans b, c', (c'.at_ 68).trans (sc_end (j := 3) h.low), (((Below.refl C w).alloc hC o).grown hg (by simp; omega) (fun k hk => own_ge h.found hk)).setCell h.pC _⟩
theorem info_set : (Tryd.prog.info? 98).map (fun i => (i.zero, i.size, i.bytes)) = some (some (.int .u64 0), 1, 8) := by kernel_rfl
def PopInv (C p q : Nat) (L : Nat → Nat) (node : Nat) (t : St) (way' : List Nat) (c' : Nat) (w : World) (vW vF : Value) (cv : Value) (wr : World) : Prop :=
  ∃ (fu c : Nat) (way : List Nat) (vWk vFk : Value), cv = .int .u64 (c : Nat) ∧ c < 18446744073709551616 ∧ popM node fu way c = some (way', c') ∧ Srch C wr p q L { t with way := way } vWk vFk ∧ Below C w wr ∧ Kept w wr p vW vF vWk vFk
set_option maxRecDepth 100000 in
set_option maxHeartbeats 8000000 in
theorem visit_any (L : Nat → Nat) (hL : ∀ i, Under 64 (L i)) (C p q : Nat) (hC : TzG < C) (f : Nat) : ∀ (node : Nat) (s s' : St) (w : World) (vW vF : Value), visitM L f node s = some s' → Srch C w p q L s vW vF → C ≤ w.heap.size → Good w →
    Calls Tryd.prog 114 #[.pointer (some ⟨p, 0, none⟩), .int .i64 node] w (VisPost C p q L s' vW vF w) := by
  have HL := Lib.hid hL
  obtain ⟨i0, hi0, hz0, hz1, hz2⟩ := info_parts info_int
  obtain ⟨j0, hj0, jz0, jz1, jz2⟩ := info_parts info_set
  clear hL
  induction f with
  | zero => intro node s s' w vW vF hv; cases hv
  | succ f ih =>
    intro node s s' w vW vF hv hs hCw hw
    obtain ⟨⟨hn64, hl64, hvis, hway, hfound, hon⟩, t, hgo, hend⟩ := visit_split hv
    have Ih := Lib.hid ih
    have Hgo := Lib.hid hgo
    have Hend := Lib.hid hend
    have HS := Lib.hid hs
    have HW := Lib.hid (fun w' (h : Below C w w') => hw.below h hC)
    have c65 := hs.at_vis
    have f65 := hs.cells.fz 65
    have hni : (node : Int) < 64 := by omega
    have e65 : IntKind.i64.wrap ((s.vis : Int) + 1) = ((s.vis + 1 : Nat) : Int) := IntWalk.i64_in _ (by omega)
    have S1 : Srch C (w.setCell ⟨p, 65, none⟩ (.int .i64 ((s.vis : Int) + 1))) p q L { s with vis := s.vis + 1 } vW vF := hs.setVis (s.vis + 1)
    have K1 : Kept w (w.setCell ⟨p, 65, none⟩ (.int .i64 ((s.vis : Int) + 1))) p vW vF vW vF := Kept.put vW vF 65 _
    have B1 : Below C w (w.setCell ⟨p, 65, none⟩ (.int .i64 ((s.vis : Int) + 1))) := (Below.refl C w).setCell (p := ⟨p, 65, none⟩) hs.pC _
    obtain ⟨W1, hW1⟩ : ∃ u, w.setCell ⟨p, 65, none⟩ (.int .i64 ((s.vis : Int) + 1)) = u := ⟨_, rfl⟩
    rw [hW1] at S1 K1 B1
    have S2 : Srch C (W1.setCell ⟨p, 1 + node, none⟩ (.int .i64 ((s.vis : Int) + 1))) p q L (inMa node s) vW vF := S1.setLow' hn64 ((s.vis : Int) + 1)
    have K2 := K1.trans (Kept.put (p := p) (w := W1) vW vF (1 + node) (.int .i64 ((s.vis : Int) + 1)))
    have B2 := B1.setCell (p := ⟨p, 1 + node, none⟩) hs.pC (.int .i64 ((s.vis : Int) + 1))
    obtain ⟨W2, hW2⟩ : ∃ u, W1.setCell ⟨p, 1 + node, none⟩ (.int .i64 ((s.vis : Int) + 1)) = u := ⟨_, rfl⟩
    rw [hW2] at S2 K2 B2
    have d65 := S1.at_vis
    have d1 := S1.at_low' hn64
    have g1 := S1.cells.fz (1 + node)
    simp only at d65 d1
    have d66 := S2.at_way
    have d67 := S2.at_on
    have S2 := Lib.hid S2
    have K2 := Lib.hid K2
    have B2 := Lib.hid B2
    clear S1 K1 B1
    clear hv hgo hend hs hw ih
    go_enter Tryd.func114, Tryd.ntmps114
    go_upto_region 3 with fail
    go_cut [4] (fun x wx => x = .int .i64 ((s.vis : Int) + 1) ∧ ∃ vW1, Srch C wx p q L (inM node s) vW1 vF ∧ Below C w wx ∧ Kept w wx p vW vF vW1 vF)
    case first =>
      have S3 := Lib.hid (S2.out.drew)
      have K3 := Lib.hid (K2.out.drew)
      have B3 := Lib.hid (B2.out.drew)
      refine Till.begin 21 (fun w' => w'.cell? ⟨p, 67, none⟩ = some (.int .u64 (s.on : Nat))) (by kernel_rfl) S3.out.at_on (fun hH => ?_)
      clear hH
      generalize W2.drew = V0 at S3 K3 B3 ⊢
      have v66 := S3.out.at_way
      have v67 : V0.cell? ⟨p, 67, none⟩ = some (.int .u64 (s.on : Nat)) := S3.out.at_on
      have HV := Lib.hid (fun w' (h : Below V0.heap.size V0 w') => ((S3.out.keep h).at_on : w'.cell? ⟨p, 67, none⟩ = some (.int .u64 (s.on : Nat))))
      have eor : bits .or .u64 ((s.on : Nat) : Int) ((sing node : Nat) : Int) = ((s.on ||| sing node : Nat) : Int) := bits_or_u64_nat _ _ hon (sing_lt hn64)
      have w66 : (V0.alloc (.cells #[.int .i64 (node : Nat)] 3)).cell? ⟨p, 66, none⟩ = some vW := (S3.out.keep ((Below.refl _ _).alloc (Nat.le_refl _) _)).at_way
      clear d65 d1 g1 d66 d67 c65 f65 hW1 hW2
      try simp only [List.setIfInBounds_toArray, List.set_cons_zero, List.set_cons_succ]
      refine Till.tk 0 21 26 (.pointer (some ⟨p, 0, none⟩)) (v67) ?_
      try simp only [Act.put, List.setIfInBounds_toArray, List.set_cons_zero, List.set_cons_succ]
      refine Till.tk 1 21 27 (.pointer (some ⟨p, 0, none⟩)) (v67) ?_
      try simp only [Act.put, List.setIfInBounds_toArray, List.set_cons_zero, List.set_cons_succ]
      refine Till.tk 2 21 28 (.pointer (some ⟨p, 0, none⟩)) (v67) ?_
      try simp only [Act.put, List.setIfInBounds_toArray, List.set_cons_zero, List.set_cons_succ]
      refine Till.tk 3 21 29 (.pointer (some ⟨p, 0, none⟩)) (v67) ?_
      try simp only [Act.put, List.setIfInBounds_toArray, List.set_cons_zero, List.set_cons_succ]
      refine Till.tk 4 21 30 (.pointer (some ⟨p, 66, none⟩)) (v67) ?_
      try simp only [Act.put, List.setIfInBounds_toArray, List.set_cons_zero, List.set_cons_succ]
      refine Till.tk 6 21 32 (.int .i64 (node : Nat)) (v67) ?_
      try simp only [Act.put, List.setIfInBounds_toArray, List.set_cons_zero, List.set_cons_succ]
      refine Till.tk 9 21 35 (.pointer (some ⟨p, 0, none⟩)) (v67) ?_
      try simp only [Act.put, List.setIfInBounds_toArray, List.set_cons_zero, List.set_cons_succ]
      refine Till.tk 10 21 36 (.pointer (some ⟨p, 0, none⟩)) (v67) ?_
      try simp only [Act.put, List.setIfInBounds_toArray, List.set_cons_zero, List.set_cons_succ]
      refine Till.tk 11 21 37 (.pointer (some ⟨p, 67, none⟩)) (v67) ?_
      try simp only [Act.put, List.setIfInBounds_toArray, List.set_cons_zero, List.set_cons_succ]
      refine Till.tk 12 21 38 (.int .u64 (s.on : Nat)) (v67) ?_
      try simp only [Act.put, List.setIfInBounds_toArray, List.set_cons_zero, List.set_cons_succ]
      refine Till.tk 13 21 39 (.int .i64 (node : Nat)) (v67) ?_
      try simp only [Act.put, List.setIfInBounds_toArray, List.set_cons_zero, List.set_cons_succ]
      refine Till.two (i := 5) (j := 7) (by kernel_rfl) rfl rfl ?_ ?_
      · intro K hK
        go_simp
        refine hK.out _ _ (fun _ => v67) ?_
        clear hK K
        try simp only [List.setIfInBounds_toArray, List.set_cons_zero, List.set_cons_succ]
        refine Till.one (i := 7) (by kernel_rfl) rfl (fun K hK => ?_)
        go_simp
        refine hK.out _ _ (fun _ => HV.out _ ((Below.refl _ _).alloc (Nat.le_refl _) _)) ?_
        clear hK K
        try simp only [List.setIfInBounds_toArray, List.set_cons_zero, List.set_cons_succ]
        refine Till.one (i := 8) (by kernel_rfl) rfl (fun K hK => ?_)
        refine step_append_lies _ rfl (.tmp 31) (.tmp 33) 50 rfl C 3 i0 (.int .i64 0) 1 8 Tryd.underlying50 hi0 hz0 hz1 hz2 rfl (by decide) vW s.way.length (nats s.way) rfl (S3.out.way.alloc _) ⟨V0.heap.size, 0, none⟩ 1 1 [.int .i64 (node : Nat)] rfl rfl (World.news_of_block (cs := #[.int .i64 (node : Nat)]) (t := 3) (fr := (0, 0)) (heap_new V0 _)) (by simp [Value.oneCell']) (by decide) (by unfold maxLen; omega) (by omega) (by simp; have := B3.out.size; omega) (V0.heap.size + 1) (by simp) ?_
        intro g cap w3 hown hgrow hat hlt
        have A3 := Lib.hid (append_way S3.out hown hgrow hat (Nat.le_trans hCw B3.out.size))
        have z67 : w3.cell? ⟨p, 67, none⟩ = some (.int .u64 (s.on : Nat)) := A3.out.2.2.2.1
        have z66 := A3.out.2.2.2.2.1
        have y66 := A3.out.2.2.1.fz 66
        have y67 := A3.out.2.2.1.fz 67
        clear hown hgrow hat hlt
        refine hK.out _ _ (fun _ => z67) ?_
        clear hK K
        try simp only [List.setIfInBounds_toArray, List.set_cons_zero, List.set_cons_succ]
        refine Till.one (i := 14) (by kernel_rfl) rfl (fun K hK => ?_)
        go_simp
        refine (single_any node _ hn64).mono ?_
        rintro e v1 ⟨rfl, rfl⟩
        go_wp2_with fail
        refine hK.out _ _ (fun _ => z67) ?_
        clear hK K
        try simp only [List.setIfInBounds_toArray, List.set_cons_zero, List.set_cons_succ]
        refine Till.tk 15 21 41 (.int .u64 ((s.on ||| sing node : Nat) : Int)) (z67) ?_
        try simp only [Act.put, List.setIfInBounds_toArray, List.set_cons_zero, List.set_cons_succ]
        refine Till.one (i := 16) (by kernel_rfl) rfl (fun K hK => ?_)
        go_simp
        refine hK.out _ _ (fun _ => z67) ?_
        clear hK K
        try simp only [List.setIfInBounds_toArray, List.set_cons_zero, List.set_cons_succ]
        refine Till.one (i := 17) (by kernel_rfl) rfl (fun K hK => ?_)
        go_simp
        refine hK.out _ _ (fun _ => z67) ?_
        clear hK K
        try simp only [List.setIfInBounds_toArray, List.set_cons_zero, List.set_cons_succ]
        have x67 : (w3.setCell ⟨p, 66, none⟩ (.slice (some ⟨g, 0, none⟩) (s.way.length + 1) cap)).cell? ⟨p, 67, none⟩ = some (.int .u64 (s.on : Nat)) := A3.out.2.2.2.2.2.1
        refine Till.one (i := 18) (by kernel_rfl) rfl (fun K hK => ?_)
        go_simp
        refine hK.out _ _ (fun _ => x67) ?_
        clear hK K
        try simp only [List.setIfInBounds_toArray, List.set_cons_zero, List.set_cons_succ]
        refine Till.one (i := 19) (by kernel_rfl) rfl (fun K hK => ?_)
        go_simp
        refine hK.out _ _ (fun _ => x67) ?_
        clear hK K
        try simp only [List.setIfInBounds_toArray, List.set_cons_zero, List.set_cons_succ]
        refine Till.one (i := 20) (by kernel_rfl) rfl (fun K hK => ?_)
        go_simp
        refine hK.out _ _ (fun _ => x67) ?_
        clear hK K
        try simp only [List.setIfInBounds_toArray, List.set_cons_zero, List.set_cons_succ]
        refine Till.one (i := 21) (by kernel_rfl) rfl (fun K hK => ?_)
        go_simp
        refine hK.out _ _ (fun h => absurd h (by simp)) ?_
        clear hK K
        try simp only [List.setIfInBounds_toArray, List.set_cons_zero, List.set_cons_succ]
        refine Till.done (by kernel_rfl) ?_ _
        go_wp2_with fail
        go_meet
        exact ⟨rfl, _, push_on A3.out.1 hon hn64, (B3.out.trans A3.out.2.2.2.2.2.2).setCell (p := ⟨p, 67, none⟩) S3.out.pC _, (K3.out.trans A3.out.2.1).trans (Kept.put _ _ 67 _)⟩
      · intro K hK
        go_simp
        refine hK.out _ _ (fun _ => HV.out _ ((Below.refl _ _).alloc (Nat.le_refl _) _)) ?_
        clear hK K
        try simp only [List.setIfInBounds_toArray, List.set_cons_zero, List.set_cons_succ]
        refine Till.one (i := 5) (by kernel_rfl) rfl (fun K hK => ?_)
        go_simp
        refine hK.out _ _ (fun _ => HV.out _ ((Below.refl _ _).alloc (Nat.le_refl _) _)) ?_
        clear hK K
        try simp only [List.setIfInBounds_toArray, List.set_cons_zero, List.set_cons_succ]
        refine Till.one (i := 8) (by kernel_rfl) rfl (fun K hK => ?_)
        refine step_append_lies _ rfl (.tmp 31) (.tmp 33) 50 rfl C 3 i0 (.int .i64 0) 1 8 Tryd.underlying50 hi0 hz0 hz1 hz2 rfl (by decide) vW s.way.length (nats s.way) rfl (S3.out.way.alloc _) ⟨V0.heap.size, 0, none⟩ 1 1 [.int .i64 (node : Nat)] rfl rfl (World.news_of_block (cs := #[.int .i64 (node : Nat)]) (t := 3) (fr := (0, 0)) (heap_new V0 _)) (by simp [Value.oneCell']) (by decide) (by unfold maxLen; omega) (by omega) (by simp; have := B3.out.size; omega) (V0.heap.size + 1) (by simp) ?_
        intro g cap w3 hown hgrow hat hlt
        have A3 := Lib.hid (append_way S3.out hown hgrow hat (Nat.le_trans hCw B3.out.size))
        have z67 : w3.cell? ⟨p, 67, none⟩ = some (.int .u64 (s.on : Nat)) := A3.out.2.2.2.1
        have z66 := A3.out.2.2.2.2.1
        have y66 := A3.out.2.2.1.fz 66
        have y67 := A3.out.2.2.1.fz 67
        clear hown hgrow hat hlt
        refine hK.out _ _ (fun _ => z67) ?_
        clear hK K
        try simp only [List.setIfInBounds_toArray, List.set_cons_zero, List.set_cons_succ]
        refine Till.one (i := 14) (by kernel_rfl) rfl (fun K hK => ?_)
        go_simp
        refine (single_any node _ hn64).mono ?_
        rintro e v1 ⟨rfl, rfl⟩
        go_wp2_with fail
        refine hK.out _ _ (fun _ => z67) ?_
        clear hK K
        try simp only [List.setIfInBounds_toArray, List.set_cons_zero, List.set_cons_succ]
        refine Till.tk 15 21 41 (.int .u64 ((s.on ||| sing node : Nat) : Int)) (z67) ?_
        try simp only [Act.put, List.setIfInBounds_toArray, List.set_cons_zero, List.set_cons_succ]
        refine Till.one (i := 16) (by kernel_rfl) rfl (fun K hK => ?_)
        go_simp
        refine hK.out _ _ (fun _ => z67) ?_
        clear hK K
        try simp only [List.setIfInBounds_toArray, List.set_cons_zero, List.set_cons_succ]
        refine Till.one (i := 17) (by kernel_rfl) rfl (fun K hK => ?_)
        go_simp
        refine hK.out _ _ (fun _ => z67) ?_
        clear hK K
        try simp only [List.setIfInBounds_toArray, List.set_cons_zero, List.set_cons_succ]
        have x67 : (w3.setCell ⟨p, 66, none⟩ (.slice (some ⟨g, 0, none⟩) (s.way.length + 1) cap)).cell? ⟨p, 67, none⟩ = some (.int .u64 (s.on : Nat)) := A3.out.2.2.2.2.2.1
        refine Till.one (i := 18) (by kernel_rfl) rfl (fun K hK => ?_)
        go_simp
        refine hK.out _ _ (fun _ => x67) ?_
        clear hK K
        try simp only [List.setIfInBounds_toArray, List.set_cons_zero, List.set_cons_succ]
        refine Till.one (i := 19) (by kernel_rfl) rfl (fun K hK => ?_)
        go_simp
        refine hK.out _ _ (fun _ => x67) ?_
        clear hK K
        try simp only [List.setIfInBounds_toArray, List.set_cons_zero, List.set_cons_succ]
        refine Till.one (i := 20) (by kernel_rfl) rfl (fun K hK => ?_)
        go_simp
        refine hK.out _ _ (fun _ => x67) ?_
        clear hK K
        try simp only [List.setIfInBounds_toArray, List.set_cons_zero, List.set_cons_succ]
        refine Till.one (i := 21) (by kernel_rfl) rfl (fun K hK => ?_)
        go_simp
        refine hK.out _ _ (fun h => absurd h (by simp)) ?_
        clear hK K
        try simp only [List.setIfInBounds_toArray, List.set_cons_zero, List.set_cons_succ]
        refine Till.done (by kernel_rfl) ?_ _
        go_wp2_with fail
        go_meet
        exact ⟨rfl, _, push_on A3.out.1 hon hn64, (B3.out.trans A3.out.2.2.2.2.2.2).setCell (p := ⟨p, 67, none⟩) S3.out.pC _, (K3.out.trans A3.out.2.1).trans (Kept.put _ _ 67 _)⟩
    case rest =>
      obtain ⟨rfl, vW1, hs1, hb1, hk1⟩ := hcut
      generalize wc = V1 at *
      obtain ⟨l, hl⟩ : ∃ l, bitsOf (L node) = l := ⟨_, rfl⟩
      have Hl := list_any (L node) V1 (under_lt (HL.out node)) (HW.out _ hb1)
      have Hm := Lib.hid (fun i n (hi : (bitsOf (L node))[i]? = some n) => (mem_bitsOf.1 (List.mem_of_getElem? hi)).1)
      rw [hl] at Hgo Hl Hm
      have a0 := hs1.at_after
      have a1 := (hs1.links.at_ node).trans (sets_at L hn64)
      have S1 := Lib.hid hs1
      have B1 := Lib.hid hb1
      have K1 := Lib.hid hk1
      have Hl := Lib.hid Hl
      have hl64 : l.length ≤ 64 := by rw [← hl]; exact bitsOf_len _
      have hCV : C ≤ V1.heap.size := Nat.le_trans hCw hb1.size
      clear hs1 hb1 hk1 hl e65
      go_wp2_with fail
      refine Hl.out.mono ?_
      rintro e V2 ⟨v, rfl, hown, hb2⟩
      obtain ⟨A, c0, rfl, hn, _, _⟩ := own_nats hown
      have S2 := Lib.hid (S1.out.keep hb2)
      have B2 := Lib.hid (B1.out.trans (hb2.mono hCV))
      have K2 := Lib.hid (K1.out.trans (Kept.below hb2 p vW1 vF))
      have N2 := Lib.hid hn
      have hV : V1.heap.size ≤ V2.heap.size := hb2.size
      clear hown hb2 hn
      go_wp2_with fail
      go_loopw [56] (fun i wr => VisInv C p q L node (visitM L f) l t w V2 vW1 vF i wr) (fun i _ => l.length - (intOf i).toNat)
      case atStart => exact ⟨0, _, _, _, rfl, Nat.zero_le _, Hgo.out, S2.out, B2.out, Kept.refl _ _ _ _⟩
      case round =>
        obtain ⟨k, tk, vWk, vFk, rfl, hk, hg, hsk, hbk, hkk⟩ := hrel
        have Hg := Lib.hid hg
        have Sk := Lib.hid hsk
        have Bk := Lib.hid hbk
        have Kk := Lib.hid hkk
        clear hg hsk hbk hkk
        by_cases hlt : k < l.length
        · obtain ⟨n, b, o, hkn, rfl, hB, hbl, hcell⟩ := N2.out.at_ hlt
          have hn := Hm.out _ _ hkn
          have hni : (n : Int) < 64 := by omega
          have Hlt := Lib.hid (show k + 1 ≤ l.length by omega)
          have hcell := (World.cell?_of_block (a := ⟨b, o + k, none⟩) (Kk.out.block b hbl (by have := S1.out.cells.lt; omega) (fun e => by have := (S1.out.way.lt b e).2; omega) (fun e => by have := (S1.out.found.lt b e).2; omega))).trans hcell
          obtain ⟨t1, hr1, hl1, ho1, hg1⟩ := go_step hkn Hg.out
          have Hr1 := Lib.hid hr1
          have Hg1 := Lib.hid hg1
          have c1 := Sk.out.at_low' hn
          obtain ⟨x0, hx0⟩ : ∃ x0, tk.low.getD n 0 = x0 := ⟨_, rfl⟩
          rw [hx0] at c1 Hr1
          have Hx0 := Lib.hid hx0
          clear hkn hr1 hg1 hx0
          by_cases h0 : x0 = 0
          · subst h0
            rw [if_pos rfl] at Hr1
            have HV := Lib.hid (Ih.out n tk t1 wr vWk vFk Hr1.out Sk.out (Nat.le_trans hCw Bk.out.size) (HW.out _ Bk.out))
            go_wp2_with fail
            refine HV.out.mono ?_
            rintro e V3 ⟨rfl, vW3, vF3, hs3, hb3, hk3⟩
            have T := hs3
            have BT := Lib.hid (Bk.out.trans hb3)
            have KT := Lib.hid (Kk.out.trans hk3)
            clear hs3 hb3 hk3
            have v67 := T.at_on
            have cb := T.low
            have HHas := Lib.hid (fun w => has_any t1.on n w hn (T.on))
            have T0 := Lib.hid T
            have n0 := T.at_low' hn64
            have n1 := T.at_low' hn
            have nz := T.cells.fz (1 + node)
            clear T
            go_wp2_with fail
            refine (HHas.out _).mono ?_
            rintro e V4 ⟨rfl, rfl⟩
            by_cases hh : t1.on.testBit n = true
            · rw [mid_yes hh] at Hg1
              obtain ⟨x1, hx1⟩ : ∃ x, t1.low.getD node 0 = x := ⟨_, rfl⟩
              obtain ⟨x2, hx2⟩ : ∃ x, t1.low.getD n 0 = x := ⟨_, rfl⟩
              rw [hx1] at n0 Hg1
              rw [hx2] at n1 Hg1
              clear hx1 hx2
              go_wp2_with fail
              go_still_tail 18, (by kernel_rfl)
              change wpList _ _ _ _ _ V3.drew
              go_wp2_with fail
              go_roundw
              case rel => exact ⟨k + 1, _, _, _, by go_num, Hlt.out, Hg1.out, (T0.out.setLow' hn64 _).drew, (BT.out.setCell (p := ⟨p, 1 + node, none⟩) T0.out.pC _).drew, (KT.out.trans (Kept.put _ _ _ _)).drew⟩
              case measure => simp [intOf]; have := Hlt.out; omega
            · rw [mid_no hh] at Hg1
              have hh' : t1.on.testBit n = false := by simpa using hh
              go_wp2_with fail
              go_roundw
              case rel => exact ⟨k + 1, _, _, _, by go_num, Hlt.out, Hg1.out, T0.out, BT.out, KT.out⟩
              case measure => simp [intOf]; have := Hlt.out; omega
          · rw [if_neg h0] at Hr1
            have e1 : t1 = tk := (Option.some.inj Hr1.out).symm
            have t0 : (x0 == 0) = false := by simp [h0]
            clear h0 Hr1
            subst e1
            obtain ⟨V3, rfl⟩ : ∃ V3, V3 = wr := ⟨_, rfl⟩
            have T := Sk.out
            have BT := Bk
            have KT := Kk
            have v67 := T.at_on
            have cb := T.low
            have HHas := Lib.hid (fun w => has_any t1.on n w hn (T.on))
            have T0 := Lib.hid T
            have n0 := T.at_low' hn64
            have n1 := T.at_low' hn
            rw [Hx0.out] at n1
            have nz := T.cells.fz (1 + node)
            clear T
            go_wp2_with fail
            refine (HHas.out _).mono ?_
            rintro e V4 ⟨rfl, rfl⟩
            by_cases hh : t1.on.testBit n = true
            · rw [mid_yes hh] at Hg1
              obtain ⟨x1, hx1⟩ : ∃ x, t1.low.getD node 0 = x := ⟨_, rfl⟩
              have hx2 := Hx0.out
              rw [hx1] at n0 Hg1
              rw [hx2] at Hg1
              clear hx1 hx2
              go_wp2_with fail
              go_still_tail 18, (by kernel_rfl)
              change wpList _ _ _ _ _ V3.drew
              go_wp2_with fail
              go_roundw
              case rel => exact ⟨k + 1, _, _, _, by go_num, Hlt.out, Hg1.out, (T0.out.setLow' hn64 _).drew, (BT.out.setCell (p := ⟨p, 1 + node, none⟩) T0.out.pC _).drew, (KT.out.trans (Kept.put _ _ _ _)).drew⟩
              case measure => simp [intOf]; have := Hlt.out; omega
            · rw [mid_no hh] at Hg1
              have hh' : t1.on.testBit n = false := by simpa using hh
              go_wp2_with fail
              go_roundw
              case rel => exact ⟨k + 1, _, _, _, by go_num, Hlt.out, Hg1.out, T0.out, BT.out, KT.out⟩
              case measure => simp [intOf]; have := Hlt.out; omega
        · obtain rfl : k = l.length := by omega
          have hg := Hg.out
          rw [List.drop_length, goM] at hg
          injection hg with hg
          subst hg
          clear Hg
          obtain ⟨x0, hx0⟩ : ∃ x0, tk.low.getD node 0 = x0 := ⟨_, rfl⟩
          have c1 := Sk.out.at_low' hn64
          rw [hx0] at c1 Hend
          clear hx0
          have K2f := Lib.hid (K2.out.trans Kk.out)
          rcases Hend.out with ⟨hx, rfl⟩ | ⟨hx, way', c', hpop, hfl, rfl⟩
          · have tx : decide (x0 < (s.vis : Int) + 1) = true := decide_eq_true hx
            clear hx Hend
            go_wp2_with fail
            exact bodyPost_ret (v := .tuple #[]) (by simp [results, Tryd.results114, go_sem]) rfl ⟨rfl, _, _, Sk.out, Bk.out, K2f.out⟩
          · have tx : decide (x0 < (s.vis : Int) + 1) = false := decide_eq_false (by omega)
            have Hpop := Lib.hid hpop
            clear hx hpop Hend
            go_wp2_with fail
            go_loopw [7, 8] (fun cv _ wr => PopInv C p q L node tk way' c' w vW vF cv wr) (fun cv _ _ => 18446744073709551616 - (intOf cv).toNat)
            case atStart => exact ⟨65, 0, tk.way, _, _, rfl, by decide, Hpop.out, Sk.out, Bk.out, K2f.out⟩
            case round =>
              obtain ⟨fu, c, way, vWk, vFk, rfl, hc, hp, hsk, hbk, hkk⟩ := hrel
              cases fu with
              | zero => cases hp
              | succ fu =>
                have S5 := Lib.hid hsk
                have B5 := Lib.hid hbk
                have K5 := Lib.hid hkk
                have HHas := Lib.hid (fun w => has_any c node w hn64 hc)
                by_cases hh : c.testBit node = true
                · rw [popM, if_pos hh] at hp
                  injection hp with hp
                  injection hp with hp1 hp2
                  subst hp1 hp2
                  have h67 := hsk.at_on
                  have f67 := hsk.cells.fz 67
                  have e67 : bits .andNot .u64 ((tk.on : Nat) : Int) ((c : Nat) : Int) = ((diff tk.on c : Nat) : Int) := bits_diff _ _ hsk.on hc
                  have S6 := hsk.setOn (x := diff tk.on c) (Nat.lt_of_le_of_lt (diff_le _ _) hsk.on)
                  have B6 := hbk.setCell (p := ⟨p, 67, none⟩) hsk.pC (.int .u64 ((diff tk.on c : Nat) : Int))
                  have K6 := hkk.trans (Kept.put (p := p) (w := wr) vWk vFk 67 (.int .u64 ((diff tk.on c : Nat) : Int)))
                  obtain ⟨w6, hw6⟩ : ∃ u, wr.setCell ⟨p, 67, none⟩ (.int .u64 ((diff tk.on c : Nat) : Int)) = u := ⟨_, rfl⟩
                  rw [hw6] at S6 B6 K6
                  have h68 := S6.at_found
                  simp only at h67 h68
                  have S6 := Lib.hid S6
                  have B6 := Lib.hid B6
                  have K6 := Lib.hid K6
                  have hC6 : C ≤ w6.heap.size := Nat.le_trans hCw B6.out.size
                  clear hsk hbk hkk S5 B5 K5 Hpop
                  go_wp2_with fail
                  refine (HHas.out _).mono ?_
                  rintro e v3 ⟨rfl, rfl⟩
                  go_wp2_with (at_builtin; refine wpList_append_lies _ rfl (.tmp 149) (.tmp 151) 103 rfl C 98 j0 (.int .u64 0) 1 8 Tryd.underlying103 hj0 jz0 jz1 jz2 rfl (by decide) vFk tk.found.length (u64s tk.found) rfl (S6.out.found.alloc _) ⟨w6.heap.size, 0, none⟩ 1 1 [.int .u64 (c : Nat)] rfl rfl (World.news_of_block (cs := #[.int .u64 (c : Nat)]) (t := 98) (fr := (0, 0)) (heap_new w6 _)) (by simp [Value.oneCell']) (by decide) (by unfold maxLen; omega) (by omega) (by simp; omega) (w6.heap.size + 1) (by simp) ?_)
                  intro g cap w7 hown hgrow hat hlt
                  have A7 := Lib.hid (append_found S6.out hown hgrow hat hC6)
                  have z68 := A7.out.2.2.2.1
                  have y68 := A7.out.2.2.1.fz 68
                  clear hown hgrow hat hlt
                  go_wp2_with fail
                  exact bodyPost_ret (v := .tuple #[]) (by simp [results, Tryd.results114, go_sem]) rfl ⟨rfl, _, _, A7.out.1, B6.out.trans A7.out.2.2.2.2, K6.out.trans A7.out.2.1⟩
                · rw [popM, if_neg hh] at hp
                  cases hlast : way.getLast? with
                  | none => rw [hlast] at hp; cases hp
                  | some v =>
                    rw [hlast] at hp
                    simp only at hp
                    by_cases hv : 64 ≤ v ∨ c.testBit v = true
                    · rw [if_pos hv] at hp; cases hp
                    · rw [if_neg hv] at hp
                      have hv64 : v < 64 := by omega
                      have hvi : (v : Int) < 64 := by omega
                      have hvc : c.testBit v = false := by
                        cases e : c.testBit v with
                        | false => rfl
                        | true => exact absurd (.inr e) hv
                      have hh' : c.testBit node = false := by simpa using hh
                      obtain ⟨g, cap, rfl, hwl, hwc, hwg, hcell⟩ := own_last hsk.way hlast
                      obtain ⟨m, hm⟩ : ∃ m, way.length = m := ⟨_, rfl⟩
                      have h66 := hsk.at_way
                      have Hcut := own_cut hsk.way
                      simp only at h66
                      rw [hm] at h66 hwl hwc hcell Hcut
                      unfold maxLen at hwg
                      have Sd := Lib.hid hsk.drew
                      have Bd := Lib.hid hbk.drew
                      have Kd := Lib.hid hkk.drew
                      have Hdl := Lib.hid (show way.dropLast.length = m - 1 by rw [List.length_dropLast, hm])
                      have Hcut : wr.drew.ownsRow C 3 1 (.slice (some ⟨g, 0, none⟩) (m - 1) cap) (m - 1) (nats way.dropLast) := Hcut
                      have Hcut := Lib.hid Hcut
                      have Hp := Lib.hid hp
                      have ec : bits .or .u64 ((c : Nat) : Int) ((sing v : Nat) : Int) = ((c ||| sing v : Nat) : Int) := bits_or_u64_nat _ _ hc (sing_lt hv64)
                      have Hlt := Lib.hid (or_gt hvc)
                      have Hlt2 := Lib.hid (or_lt hc (sing_lt hv64))
                      have HSg := Lib.hid (fun w => single_any v w hv64)
                      have em : IntKind.i64.wrap ((m : Int) - 1) = (m : Int) - 1 := IntWalk.i64_in _ (by omega)
                      have i0 : (1 : Int) ≤ (m : Int) := by omega
                      have i1 : (m : Int) - 1 < (m : Int) := by omega
                      have i2 : (m : Int) - 1 ≤ (cap : Int) := by omega
                      clear hsk hbk hkk hp hv hlast Hpop S5 B5 K5
                      go_wp2_with fail
                      refine (HHas.out _).mono ?_
                      rintro e v3 ⟨rfl, rfl⟩
                      go_wp2_with fail
                      go_still_tail 12, (by kernel_rfl)
                      change wpList _ _ _ _ _ wr.drew
                      generalize wr.drew = wd at Sd Bd Kd Hcut ⊢
                      have h66 := Sd.out.at_way
                      have f66 := Sd.out.cells.fz 66
                      rw [hm] at h66
                      clear hm
                      go_wp2_with fail
                      go_still_tail 14, (by kernel_rfl)
                      change wpList _ _ _ _ _ wd.drew
                      have S6 := Lib.hid (Sd.out.drew.setWay (l := way.dropLast) (v := .slice (some ⟨g, 0, none⟩) (m - 1) cap) (by rw [Hdl.out]; exact Hcut.out) (fun b hb => Sd.out.wp b (by simpa [Value.ownBlock] using hb)))
                      go_wp2_with fail
                      refine (HSg.out _).mono ?_
                      rintro e v4 ⟨rfl, rfl⟩
                      go_wp2_with fail
                      go_roundw
                      case rel => exact ⟨fu, c ||| sing v, _, _, _, rfl, Hlt2.out, Hp.out, S6.out, Bd.out.drew.setCell (p := ⟨p, 66, none⟩) S6.out.pC _, Kd.out.drew.trans (Kept.putW _ _ _ (fun b hb => .inl (by simpa [Value.ownBlock] using hb)))⟩
                      case measure => simp [intOf]; have := Hlt.out; have := Hlt2.out; omega
end Go.Proofs.YthocdmlacfejkaaDoor
namespace Go.Proofs.YthocdmlacfejkaaDoor
open Go.RowKit
/-- A slice of sets; its cells lie at block B or above. -/
def UL (B : Nat) (w : World) (A : Option Addr) (l : List Nat) : Prop :=
  ∀ k n, l[k]? = some n → ∃ b o, A = some ⟨b, o, none⟩ ∧ B ≤ b ∧ b < w.heap.size ∧ w.cell? ⟨b, o + k, none⟩ = some (.int .u64 (n : Nat))
theorem UL.keep {B : Nat} {w w' : World} {A : Option Addr} {l : List Nat} (h : UL B w A l) (hb : Below w.heap.size w w') : UL B w' A l :=
  fun k n hk => let ⟨b, o, e1, h1, hlt, hc⟩ := h k n hk; ⟨b, o, e1, h1, Nat.lt_of_lt_of_le hlt hb.size, (hb.cell (p := ⟨b, o + k, none⟩) hlt).trans hc⟩
theorem UL.at_ {B : Nat} {w : World} {A : Option Addr} {l : List Nat} (h : UL B w A l) {k : Nat} (hk : k < l.length) : ∃ n b o, l[k]? = some n ∧ A = some ⟨b, o, none⟩ ∧ B ≤ b ∧ b < w.heap.size ∧ w.cell? ⟨b, o + k, none⟩ = some (.int .u64 (n : Nat)) := by
  obtain ⟨b, o, e, hb, hc⟩ := h k l[k] (List.getElem?_eq_getElem hk)
  exact ⟨_, b, o, List.getElem?_eq_getElem hk, e, hb, hc⟩
theorem own_sets {w : World} {base : Nat} {v : Value} {l : List Nat} (h : w.ownsRow base 98 1 v l.length (u64s l)) : ∃ A c, v = .slice A l.length c ∧ UL base w A l ∧ c ≤ maxLen ∧ l.length ≤ c := by
  rcases h.2 with ⟨rfl, h0⟩ | ⟨g, cap, cur, rfl, hg, hh, hnc, hcm, hcs, hx⟩
  · have hl : l = [] := List.eq_nil_of_length_eq_zero h0
    subst hl
    exact ⟨none, 0, rfl, fun k n hk => by simp at hk, by unfold maxLen; omega, Nat.le_refl _⟩
  · refine ⟨_, cap, rfl, fun k n hk => ⟨g, 0, rfl, hg, ?_, ?_⟩, hcm, hnc⟩
    · rcases Nat.lt_or_ge g w.heap.size with h1 | h1
      · exact h1
      · rw [Array.getElem?_eq_none h1] at hh; cases hh
    · rw [cell_of_row _ _ _ _ _ _ hh, Nat.zero_add]
      have hk2 : k < l.length := by
        rcases Nat.lt_or_ge k l.length with h1 | h1
        · exact h1
        · rw [List.getElem?_eq_none h1] at hk; cases hk
      have e1 : (cur.toList.take (l.length * 1))[k]? = cur.toList[k]? := List.getElem?_take_of_lt (by omega)
      have e : cur.toList[k]? = some (.int .u64 (n : Nat)) := by
        rw [← e1, hx]
        unfold u64s
        rw [List.getElem?_map, hk]
        rfl
      simpa using e
theorem u64s_snoc (l : List Nat) (n : Nat) : u64s (l ++ [n]) = u64s l ++ [.int .u64 (n : Nat)] := by unfold u64s; simp
theorem comp_split {es : List (Nat × Nat)} {n : Nat} {out : List Nat} (h : compM es n = some out) : ∃ s, allM (adj es) (List.range n) st0 = some s ∧ (∀ c ∈ s.found, c < 18446744073709551616) ∧ s.found.length < 1000 ∧ out = ordM n s.found := by
  unfold compM at h
  cases h1 : allM (adj es) (List.range n) st0 with
  | none => rw [h1] at h; cases h
  | some s =>
    rw [h1, Option.bind_some] at h
    by_cases h2 : (s.found.all (fun c => decide (c < 18446744073709551616)) && decide (s.found.length < 1000)) = true
    · rw [if_pos h2] at h
      injection h with h
      rw [Bool.and_eq_true, List.all_eq_true, decide_eq_true_eq] at h2
      exact ⟨s, rfl, fun c hc => by simpa using h2.1 c hc, h2.2, h.symm⟩
    · rw [if_neg h2] at h; cases h
theorem all_step {L : Nat → Nat} {k n : Nat} {l : List Nat} {s t : St} (hk : l[k]? = some n) (h : allM L (l.drop k) s = some t) :
    ∃ t1, (if s.low.getD n 0 = 0 then visitM L 65 n s else some s) = some t1 ∧ allM L (l.drop (k + 1)) t1 = some t := by
  have hlt : k < l.length := by
    rcases Nat.lt_or_ge k l.length with h1 | h1
    · exact h1
    · rw [List.getElem?_eq_none h1] at hk; cases hk
  rw [List.drop_eq_getElem_cons hlt, allM] at h
  rw [List.getElem?_eq_getElem hlt] at hk
  injection hk with hk
  rw [hk] at h
  cases h1 : (if s.low.getD n 0 = 0 then visitM L 65 n s else some s) with
  | none => rw [h1] at h; cases h
  | some t1 => rw [h1] at h; exact ⟨t1, rfl, h⟩
theorem zero_search (q : Nat) : Tryd.zeroCells135.toList.set 0 (.pointer (some ⟨q, 0, none⟩)) = scells q st0 (.slice none 0 0) (.slice none 0 0) := by rfl
theorem zero_size : Tryd.zeroCells135.size = 69 := by rfl
theorem info_search : (Tryd.prog.info? 135).map (·.size) = some 69 := by kernel_rfl
theorem store_search (q : Nat) (w : World) : (storeCells ⟨w.heap.size, 0, none⟩ (Tryd.zeroCells135.toList.set 0 (.pointer (some ⟨q, 0, none⟩)))).run Tryd.prog (w.alloc (.cells Tryd.zeroCells135 135)) = .ok () (w.alloc (.cells (scells q st0 (.slice none 0 0) (.slice none 0 0)).toArray 135)) := by
  rw [zero_search]
  exact run_storeCells_new (P := Tryd.prog) w 135 Tryd.zeroCells135 (scells q st0 (.slice none 0 0) (.slice none 0 0)).toArray (by rw [info_search]; rfl) (by rw [zero_size]; rfl) (by simp [scells, st0, Value.oneCell', List.replicate])
theorem search_start {C q : Nat} {L : Nat → Nat} {w : World} (hq : Cells w q (sets L)) (hC : C ≤ w.heap.size) : Srch C (w.alloc (.cells (scells q st0 (.slice none 0 0) (.slice none 0 0)).toArray 135)) w.heap.size q L st0 (.slice none 0 0) (.slice none 0 0) :=
  ⟨by simpa using Cells.new w (scells q st0 (.slice none 0 0) (.slice none 0 0)).toArray 135, by simp [st0], by decide, World.ownsRow_nil _ _ _ _, World.ownsRow_nil _ _ _ _, hq.keep ((Below.refl _ _).alloc (Nat.le_refl _) _), hC, by have := hq.lt; omega, fun b h => by simp [Value.ownBlock] at h, fun b h => by simp [Value.ownBlock] at h⟩
theorem ordM_succ (j : Nat) (l : List Nat) : ordM (j + 1) l = ordM j l ++ l.filter fun c => Lib.ctz 64 c == j := by
  unfold ordM; rw [List.range_succ, List.flatMap_append]; simp
theorem ordM_len (j : Nat) (l : List Nat) : (ordM j l).length ≤ j * l.length := by
  induction j with
  | zero => simp [ordM]
  | succ j ih =>
    rw [ordM_succ, List.length_append, Nat.succ_mul]
    have := List.length_filter_le (fun c => Lib.ctz 64 c == j) l
    omega
theorem ord_up {j x r : Nat} {o fo : List Nat} (hx : fo[r]? = some x) (hz : (Lib.ctz 64 x == j) = true) : o ++ (fo.take (r + 1)).filter (fun c => Lib.ctz 64 c == j) = (o ++ (fo.take r).filter fun c => Lib.ctz 64 c == j) ++ [x] := by
  rw [List.take_add_one, hx, List.filter_append, List.append_assoc]
  simp [hz]
theorem ord_stay {j x r : Nat} {o fo : List Nat} (hx : fo[r]? = some x) (hz : (Lib.ctz 64 x == j) = false) : o ++ (fo.take (r + 1)).filter (fun c => Lib.ctz 64 c == j) = o ++ (fo.take r).filter fun c => Lib.ctz 64 c == j := by
  rw [List.take_add_one, hx, List.filter_append]
  simp [hz]
theorem own_up {w : World} {B x : Nat} {v : Value} {l l' : List Nat} (h : l' = l ++ [x]) (hown : w.ownsRow B 98 1 v (l.length + 1) (u64s l ++ [.int .u64 (x : Nat)])) : w.ownsRow B 98 1 v l'.length (u64s l') := by
  rw [h, u64s_snoc, List.length_append]; exact hown
theorem ord_done {w : World} {B j r : Nat} {v : Value} {fo : List Nat} (hr : fo.length ≤ r) (h : w.ownsRow B 98 1 v (ordM j fo ++ (fo.take r).filter fun c => Lib.ctz 64 c == j).length (u64s (ordM j fo ++ (fo.take r).filter fun c => Lib.ctz 64 c == j))) : w.ownsRow B 98 1 v (ordM (j + 1) fo).length (u64s (ordM (j + 1) fo)) := by
  rw [List.take_of_length_le hr] at h
  rw [ordM_succ]
  exact h
theorem own_down {w : World} {B C : Nat} {e : TypeId} {v : Value} {n : Nat} {xs : List Value} (h : w.ownsRow B e 1 v n xs) (hC : C ≤ B) : w.ownsRow C e 1 v n xs :=
  ⟨h.1, h.2.imp id fun ⟨g, cap, cur, e, hg, r⟩ => ⟨g, cap, cur, e, Nat.le_trans hC hg, r⟩⟩
/-- The graph's own block, which no search writes. -/
def Boxed (C p n : Nat) (vW vF : Value) (w : World) : Prop := C < w.heap.size ∧ C ≠ p ∧ vW.ownBlock ≠ some C ∧ vF.ownBlock ≠ some C ∧ w.cell? ⟨C, 0, none⟩ = some (.int .i64 (n : Nat))
theorem Boxed.kept {C p n : Nat} {a b a1 b1 : Value} {w w' : World} (h : Boxed C p n a b w) (k : Kept w w' p a b a1 b1) : Boxed C p n a1 b1 w' := by
  obtain ⟨h1, h2, h3, h4, h5⟩ := h
  refine ⟨Nat.lt_of_lt_of_le h1 k.size, h2, fun e => ?_, fun e => ?_, (World.cell?_of_block (a := ⟨C, 0, none⟩) (k.block C h1 h2 h3 h4)).trans h5⟩
  · rcases k.newW C e with e | e
    · exact h3 e
    · omega
  · rcases k.newF C e with e | e
    · exact h4 e
    · omega
def AllInv (C p q : Nat) (L : Nat → Nat) (n : Nat) (t : St) (w : World) (i : Value) (wr : World) : Prop :=
  ∃ (k : Nat) (s : St) (vW vF : Value), i = .int .i64 (k : Nat) ∧ k ≤ n ∧ allM L ((List.range n).drop k) s = some t ∧ Srch C wr p q L s vW vF ∧ Below C w wr ∧ Boxed C p n vW vF wr
set_option maxRecDepth 100000 in
set_option maxHeartbeats 8000000 in
theorem components_any (n : Nat) (A : Option Addr) (m c : Nat) (es : List (Nat × Nat)) (out : List Nat) (w : World) (h : EL w A m (cast es)) (hl : Low 64 es) (hm : m ≤ 4096) (hn : n ≤ 64) (hout : compM es n = some out) (hw : Good w) :
    Calls Tryd.prog 83 #[gV n A m c] w fun e w' => ∃ v, e = .returned v ∧ w'.ownsRow w.heap.size 98 1 v out.length (u64s out) ∧ Below w.heap.size w w' := by
  obtain ⟨j0, hj0, jz0, jz1, jz2⟩ := info_parts info_set
  obtain ⟨s, hall, hlt64, hfl, rfl⟩ := comp_split hout
  have kv := (Below.refl w.heap.size w).alloc (Nat.le_refl _) (.cells #[.int .i64 (n : Nat), .slice A m c] 26)
  have HN := Lib.hid (next_any n A m c es (w.alloc (.cells #[.int .i64 (n : Nat), .slice A m c] 26)) (h.keep kv) hl hm)
  have Hall := Lib.hid hall
  have Hlt := Lib.hid hlt64
  have HL := Lib.hid hl
  have HW := Lib.hid (fun w' (h : Below w.heap.size w w') => hw.below h hw.size)
  have kv := Lib.hid kv
  obtain ⟨fo, hfo⟩ : ∃ fo, s.found = fo := ⟨_, rfl⟩
  have Hfo := Lib.hid hfo
  rw [hfo] at Hlt hfl ⊢
  clear h hl hout hw hall hlt64 hfo
  go_enter Tryd.func83, Tryd.ntmps83
  go_wp2_with fail
  refine HN.out.mono ?_
  rintro e w1 ⟨q, rfl, hq, hqs, hb1⟩
  have hst := store_search q w1
  have hqs' : w.heap.size ≤ q := by have : (w.alloc (.cells #[.int .i64 (n : Nat), .slice A m c] 26)).heap.size = w.heap.size + 1 := by simp
                                    omega
  have B1 := Lib.hid ((kv.out.trans (hb1.mono (by simp))).alloc (by have := kv.out.size; have := hb1.size; simp at *; omega) (.cells (scells q st0 (.slice none 0 0) (.slice none 0 0)).toArray 135))
  have hsz : w.heap.size ≤ w1.heap.size := by have := hb1.size; simp at this; omega
  have g0 : (w1.alloc (.cells (scells q st0 (.slice none 0 0) (.slice none 0 0)).toArray 135)).cell? ⟨w.heap.size, 0, none⟩ = some (.int .i64 (n : Nat)) := by
    rw [World.cell?_alloc_lt _ _ _ (show w.heap.size < w1.heap.size by have := hb1.size; simp at this; omega), hb1.cell (p := ⟨w.heap.size, 0, none⟩) (by simp)]
    simp [go_sem]
  have S0 := search_start (C := w.heap.size) hq hsz
  obtain ⟨w2, hw2⟩ : ∃ u, w1.alloc (.cells (scells q st0 (.slice none 0 0) (.slice none 0 0)).toArray 135) = u := ⟨_, rfl⟩
  obtain ⟨p, hp⟩ : ∃ p, w1.heap.size = p := ⟨_, rfl⟩
  rw [hw2] at hst B1 g0 S0
  rw [hp] at S0 hst
  have S0 := Lib.hid S0
  have X0 := Lib.hid (show Boxed w.heap.size p n (.slice none 0 0) (.slice none 0 0) w2 from ⟨size_of_cell g0, by rw [← hp]; have := hb1.size; simp at this; omega, by simp [Value.ownBlock], by simp [Value.ownBlock], g0⟩)
  clear hq hqs hb1 hqs'
  go_wp2_with fail
  go_loopw [14] (fun i wr => AllInv w.heap.size p q (adj es) n s w i wr) (fun i _ => n - (intOf i).toNat)
  case atStart => exact ⟨0, _, _, _, rfl, Nat.zero_le _, Hall.out, S0.out, B1.out, X0.out⟩
  case round =>
    obtain ⟨k, sk, vW, vF, rfl, hk, hg, hsk, hbk, hbox⟩ := hrel
    have Sk := Lib.hid hsk
    have Bk := Lib.hid hbk
    have Hg := Lib.hid hg
    have Hbox := Lib.hid hbox
    clear hsk hbk hg hbox
    by_cases hlt : k < n
    · have hkn : (List.range n)[k]? = some k := by simp [hlt]
      obtain ⟨t1, hr1, hg1⟩ := all_step hkn Hg.out
      have Hlt := Lib.hid hlt
      have Hg1 := Lib.hid hg1
      have c1 := Sk.out.at_low' (show k < 64 by omega)
      have hki : (k : Int) < 64 := by omega
      obtain ⟨x0, hx0⟩ : ∃ x0, sk.low.getD k 0 = x0 := ⟨_, rfl⟩
      rw [hx0] at c1 hr1
      have Hr1 := Lib.hid hr1
      clear hx0 hg1 hkn hr1
      by_cases h0 : x0 = 0
      · subst h0
        rw [if_pos rfl] at Hr1
        have HV := Lib.hid (visit_any (adj es) (fun i => adj_under HL.out i) w.heap.size p q (HW.out w (Below.refl _ _)).size 65 k sk t1 wr vW vF Hr1.out Sk.out Bk.out.size (HW.out _ Bk.out))
        go_wp2_with fail
        refine HV.out.mono ?_
        rintro e w3 ⟨rfl, vW3, vF3, hs3, hb3, hk3⟩
        have S3 := Lib.hid hs3
        have B3 := Lib.hid (Bk.out.trans hb3)
        have X3 := Lib.hid (Hbox.out.kept hk3)
        clear hs3 hb3 hk3
        go_wp2_with fail
        go_roundw
        case rel => exact ⟨k + 1, _, _, _, by go_num, Hlt.out, Hg1.out, S3.out, B3.out, X3.out⟩
        case measure => simp [intOf]; have := Hlt.out; omega
      · rw [if_neg h0] at Hr1
        have e1 : t1 = sk := (Option.some.inj Hr1.out).symm
        have t0 : (x0 == 0) = false := by simp [h0]
        clear h0 Hr1
        subst e1
        go_wp2_with fail
        go_roundw
        case rel => exact ⟨k + 1, _, _, _, by go_num, Hlt.out, Hg1.out, Sk.out, Bk.out, Hbox.out⟩
        case measure => simp [intOf]; have := Hlt.out; omega
    · obtain rfl : k = n := by omega
      obtain ⟨wa, rfl⟩ : ∃ wa : World, wa = wr := ⟨_, rfl⟩
      have hg : allM (adj es) [] sk = some s := by have := Hg.out; rwa [List.drop_eq_nil_of_le (by simp)] at this
      rw [allM] at hg
      injection hg with hg
      subst hg
      obtain ⟨A0, c0, hvF, hU, hc0, hl0⟩ := own_sets Sk.out.found
      have h68 := Sk.out.at_found
      have g1 : wa.cell? ⟨w.heap.size, 0, none⟩ = some (.int .i64 (k : Nat)) := Hbox.out.2.2.2.2
      rw [hvF] at h68
      have HU := Lib.hid hU
      have H68 := Lib.hid (fun w' (h : Below wa.heap.size wa w') => (Sk.out.keep h).at_found)
      rw [hvF] at H68
      rw [Hfo.out] at h68 HU H68
      clear hvF hU hl0 Hg
      go_wp2_with (at_make; refine wpList_make_own _ rfl _ _ 103 rfl wa.heap.size 98 j0 (.int .u64 0) 1 Tryd.underlying103 hj0 jz0 jz1 .i64 .i64 (fo.length : Int) fo.length rfl rfl rfl (by rw [jz2]; omega) (by unfold maxLen; omega) (Nat.le_refl _) ?_)
      intro w3 hown hgr
      have O3 := Lib.hid hown
      have B3 := Lib.hid ((Below.refl wa.heap.size wa).grown hgr (Nat.le_refl _) (by simp))
      have hwr := Bk.out.size
      have g3 : w3.cell? ⟨w.heap.size, 0, none⟩ = some (.int .i64 (k : Nat)) := (B3.out.cell (p := ⟨w.heap.size, 0, none⟩) Hbox.out.1).trans g1
      clear hown hgr
      go_wp2_with fail
      go_loopw [31, 5] (fun i v wx => ∃ j : Nat, i = .int .i64 (j : Nat) ∧ j ≤ k ∧ wx.ownsRow wa.heap.size 98 1 v (ordM j fo).length (u64s (ordM j fo)) ∧ Below wa.heap.size wa wx) (fun i _ _ => k - (intOf i).toNat)
      case atStart => exact ⟨0, rfl, Nat.zero_le _, O3.out, B3.out⟩
      case round =>
        obtain ⟨j, rfl, hj, hown, hbx⟩ := hrel
        have Ox := Lib.hid hown
        have Bx2 := Lib.hid hbx
        have x68 := H68.out _ hbx
        have hol := ordM_len j fo
        clear hown hbx
        by_cases hlt : j < k
        · have Hlj := Lib.hid hlt
          go_wp2_with fail
          obtain ⟨wb, rfl⟩ : ∃ wb : World, wb = wr := ⟨_, rfl⟩
          go_loopw [37, 5] (fun i v wy => ∃ r : Nat, i = .int .i64 (r : Nat) ∧ r ≤ fo.length ∧ wy.ownsRow wa.heap.size 98 1 v (ordM j fo ++ (fo.take r).filter fun c => Lib.ctz 64 c == j).length (u64s (ordM j fo ++ (fo.take r).filter fun c => Lib.ctz 64 c == j)) ∧ Below wa.heap.size wa wy) (fun i _ _ => fo.length - (intOf i).toNat)
          case atStart => exact ⟨0, rfl, Nat.zero_le _, by simpa using Ox.out, Bx2.out⟩
          case round =>
            obtain ⟨r, rfl, hr, hown, hby⟩ := hrel
            have Oy := Lib.hid hown
            have By := Lib.hid hby
            have hsy := hby.size
            have hyl : (ordM j fo ++ (fo.take r).filter fun c => Lib.ctz 64 c == j).length ≤ 100000 := by
              rw [List.length_append]
              have h1 := List.length_filter_le (fun c => Lib.ctz 64 c == j) (fo.take r)
              rw [List.length_take] at h1
              have h2 : j * fo.length ≤ 64 * 1000 := Nat.mul_le_mul (by omega) (by omega)
              omega
            clear hown hby
            by_cases hlr : r < fo.length
            · obtain ⟨x, b, o, hx, rfl, _, hbl, hcell⟩ := (HU.out.keep By.out).at_ hlr
              have hx64 := Hlt.out x (List.mem_of_getElem? hx)
              have Hr := Lib.hid hlr
              have HT := Lib.hid (fun w hw => tz_any x hx64 w hw)
              by_cases hz : Lib.ctz 64 x = j
              · have tz : (((Lib.ctz 64 x : Nat) : Int) == (j : Nat)) = true := by rw [hz]; simp
                have Hup := Lib.hid (ord_up (j := j) (o := ordM j fo) hx (by simpa using hz))
                obtain ⟨ll, hll⟩ : ∃ ll, (ordM j fo ++ (fo.take r).filter fun c => Lib.ctz 64 c == j) = ll := ⟨_, rfl⟩
                rw [hll] at Oy hyl Hup
                clear hll
                obtain ⟨z, hz0⟩ : ∃ z, Lib.ctz 64 x = z := ⟨_, rfl⟩
                rw [hz0] at tz HT
                clear hx hz hz0
                go_wp2_with fail
                refine (HT.out _ (HW.out _ (Bk.out.trans (By.out.mono hwr)))).mono ?_
                rintro e w5 ⟨rfl, rfl⟩
                go_wp2_with (at_builtin; refine wpList_append_own _ rfl _ _ 103 rfl wa.heap.size 98 j0 (.int .u64 0) 1 8 Tryd.underlying103 hj0 jz0 jz1 jz2 rfl (by decide) _ _ _ rfl (Oy.out.alloc _) ⟨wr.heap.size, 0, none⟩ 1 1 [.int .u64 (x : Nat)] rfl rfl ?c1 ?c2 ?c3 ?c4 ?c5 ?_)
                case c1 =>
                  intro k u hu
                  match k, hu with
                  | 0, hu => simp at hu; subst hu; simp [Addr.add]
                case c2 => intro u hu; simp at hu; subst hu; rfl
                case c3 => unfold maxLen; omega
                case c4 => omega
                case c5 => simp; omega
                intro v' w6 hown' hgrow _
                have O6 := Lib.hid (own_up Hup.out hown')
                have B6 := Lib.hid ((By.out.alloc hsy _).grown hgrow (by simp; omega) (fun k hk => own_ge Oy.out hk))
                clear hown' hgrow
                go_wp2_with fail
                go_roundw
                case rel => exact ⟨r + 1, by go_num, Hr.out, O6.out, B6.out⟩
                case measure => simp [intOf]; have := Hr.out; omega
              · have tz : (((Lib.ctz 64 x : Nat) : Int) == (j : Nat)) = false := by simp; omega
                have Hup := Lib.hid (ord_stay (j := j) (o := ordM j fo) hx (by simpa using hz))
                obtain ⟨ll, hll⟩ : ∃ ll, (ordM j fo ++ (fo.take r).filter fun c => Lib.ctz 64 c == j) = ll := ⟨_, rfl⟩
                rw [hll] at Oy hyl Hup
                clear hll
                obtain ⟨z, hz0⟩ : ∃ z, Lib.ctz 64 x = z := ⟨_, rfl⟩
                rw [hz0] at tz HT
                clear hx hz hz0
                go_wp2_with fail
                refine (HT.out _ (HW.out _ (Bk.out.trans (By.out.mono hwr)))).mono ?_
                rintro e w5 ⟨rfl, rfl⟩
                go_wp2_with fail
                go_roundw
                case rel => exact ⟨r + 1, by go_num, Hr.out, by rw [Hup.out]; exact Oy.out, By.out⟩
                case measure => simp [intOf]; have := Hr.out; omega
            · have Of := Lib.hid (ord_done (j := j) (fo := fo) (by omega) Oy.out)
              go_wp2_with fail
              go_roundw
              case rel => exact ⟨j + 1, by go_num, Hlj.out, Of.out, By.out⟩
              case measure => simp [intOf]; have := Hlj.out; omega
        · obtain rfl : j = k := by omega
          have Of := Lib.hid (own_down Ox.out hwr)
          have Bf := Lib.hid (Bk.out.trans (Bx2.out.mono hwr))
          go_wp2_with fail
          go_ret
          exact ⟨_, rfl, Of.out, Bf.out⟩
end Go.Proofs.YthocdmlacfejkaaDoor
namespace Go.Proofs.YthocdmlacfejkaaDoor
open Go.RowKit
/-- A slice of slices of nodes; all cells lie at block B or above. -/
def LL (B : Nat) (w : World) (A : Option Addr) (ls : List (List Nat)) : Prop :=
  ∀ k l, ls[k]? = some l → ∃ b o Ak ck, A = some ⟨b, o, none⟩ ∧ B ≤ b ∧ b < w.heap.size ∧ w.cell? ⟨b, o + k, none⟩ = some (.slice Ak l.length ck) ∧ NL B w Ak l
theorem LL.keep {B : Nat} {w w' : World} {A : Option Addr} {ls : List (List Nat)} (h : LL B w A ls) (hb : Below w.heap.size w w') : LL B w' A ls :=
  fun k l hk => let ⟨b, o, Ak, ck, e1, h1, hlt, hc, hn⟩ := h k l hk; ⟨b, o, Ak, ck, e1, h1, Nat.lt_of_lt_of_le hlt hb.size, (hb.cell (p := ⟨b, o + k, none⟩) hlt).trans hc, hn.keep hb⟩
theorem LL.down {B C : Nat} {w : World} {A : Option Addr} {ls : List (List Nat)} (h : LL B w A ls) (hC : C ≤ B) : LL C w A ls :=
  fun k l hk => let ⟨b, o, Ak, ck, e1, h1, hlt, hc, hn⟩ := h k l hk; ⟨b, o, Ak, ck, e1, Nat.le_trans hC h1, hlt, hc, hn.down hC⟩
theorem LL.at_ {B : Nat} {w : World} {A : Option Addr} {ls : List (List Nat)} (h : LL B w A ls) {k : Nat} (hk : k < ls.length) : ∃ l b o Ak ck, ls[k]? = some l ∧ A = some ⟨b, o, none⟩ ∧ B ≤ b ∧ b < w.heap.size ∧ w.cell? ⟨b, o + k, none⟩ = some (.slice Ak l.length ck) ∧ NL B w Ak l := by
  obtain ⟨b, o, Ak, ck, e, hb⟩ := h k ls[k] (List.getElem?_eq_getElem hk)
  exact ⟨_, b, o, Ak, ck, List.getElem?_eq_getElem hk, e, hb⟩
theorem info_ints : (Tryd.prog.info? 50).map (fun i => (i.zero, i.size, i.bytes)) = some (some (.slice none 0 0), 1, 24) := by kernel_rfl
theorem NL.put {B : Nat} {w : World} {A : Option Addr} {l : List Nat} (h : NL B w A l) {g i : Nat} {u : Value} (hg : g < B) : NL B (w.setCell ⟨g, i, none⟩ u) A l :=
  fun k n hk => let ⟨b, o, e1, h1, hlt, hc⟩ := h k n hk; ⟨b, o, e1, h1, by simpa [World.setCell] using hlt, (World.cell?_of_block (a := ⟨b, o + k, none⟩) (Below.heap_setCell w ⟨g, i, none⟩ u b (by simp; omega))).trans hc⟩
/-- The first k rows are there. -/
def LsInv (_C g : Nat) (ls : List (List Nat)) (k : Nat) (w : World) : Prop :=
  ∃ vs : List Value, vs.length = ls.length ∧ Cells w g vs ∧ ∀ j l, j < k → ls[j]? = some l → ∃ A c, vs[j]? = some (.slice A l.length c) ∧ NL (g + 1) w A l
theorem LsInv.start {C g : Nat} {ls : List (List Nat)} {w : World} (h : Cells w g (List.replicate ls.length (.slice none 0 0))) : LsInv C g ls 0 w := ⟨_, by simp, h, fun j l hj => absurd hj (Nat.not_lt_zero _)⟩
theorem LsInv.keep {C g k : Nat} {ls : List (List Nat)} {w w' : World} (h : LsInv C g ls k w) (hb : Below w.heap.size w w') : LsInv C g ls k w' :=
  let ⟨vs, h1, h2, h3⟩ := h; ⟨vs, h1, h2.keep hb, fun j l hj hl => let ⟨A, c, e, hn⟩ := h3 j l hj hl; ⟨A, c, e, hn.keep hb⟩⟩
theorem LsInv.step {C g k c : Nat} {ls : List (List Nat)} {w : World} {l : List Nat} {A : Option Addr} (h : LsInv C g ls k w) (hk : ls[k]? = some l) (hn : NL (g + 1) w A l) : LsInv C g ls (k + 1) (w.setCell ⟨g, k, none⟩ (.slice A l.length c)) := by
  obtain ⟨vs, h1, h2, h3⟩ := h
  have hlt : k < ls.length := by
    rcases Nat.lt_or_ge k ls.length with h4 | h4
    · exact h4
    · rw [List.getElem?_eq_none h4] at hk; cases hk
  refine ⟨vs.set k (.slice A l.length c), by rw [List.length_set]; exact h1, h2.set k _ (by omega), fun j l' hj hl => ?_⟩
  by_cases e : j = k
  · subst e
    rw [hk] at hl
    injection hl with hl
    subst hl
    exact ⟨A, c, by rw [List.getElem?_set_self (by omega)], hn.put (Nat.lt_succ_self g)⟩
  · obtain ⟨A', c', e1, e2⟩ := h3 j l' (by omega) hl
    exact ⟨A', c', by rw [List.getElem?_set_ne (Ne.symm e)]; exact e1, e2.put (Nat.lt_succ_self g)⟩
theorem LsInv.done {C g k : Nat} {ls : List (List Nat)} {w : World} (h : LsInv C g ls k w) (hk : ls.length ≤ k) (hg : C ≤ g) : LL C w (some ⟨g, 0, none⟩) ls := by
  obtain ⟨vs, h1, h2, h3⟩ := h
  intro j l hl
  have hlt : j < ls.length := by
    rcases Nat.lt_or_ge j ls.length with h4 | h4
    · exact h4
    · rw [List.getElem?_eq_none h4] at hl; cases hl
  obtain ⟨A, c, e, hn⟩ := h3 j l (by omega) hl
  exact ⟨g, 0, A, c, rfl, hg, h2.lt, by rw [Nat.zero_add, h2.at_ j, e], hn.down (by omega)⟩
theorem made_slices {w w1 : World} {n : Nat} (hown : w1.ownsRow w.heap.size 50 1 (.slice (some ⟨w.heap.size, 0, none⟩) n n) n (madeCells #[.slice none 0 0] n).toList) : Cells w1 w.heap.size (List.replicate n (.slice none 0 0)) := by
  rcases hown.2 with ⟨h1, _⟩ | ⟨g', cap, cur, h1, hg, hh, hnc, hcm, hcs, hx⟩
  · cases h1
  · injection h1 with h1 _ h3
    injection h1 with h1
    injection h1 with h1
    subst h1 h3
    rw [List.take_of_length_le (by rw [Array.length_toList, hcs]; exact Nat.le_refl _)] at hx
    have e : cur.toList = List.replicate n (.slice none 0 0) := by
      rw [hx]
      apply List.ext_getElem?
      intro i
      by_cases hi : i < n
      · simp [madeCells, hi, Nat.mod_one]
      · rw [List.getElem?_eq_none (by simp [madeCells]; omega), List.getElem?_eq_none (by simp; omega)]
    rw [← e]
    exact Cells.of_row hh
set_option maxRecDepth 100000 in
set_option maxHeartbeats 4000000 in
theorem lists_any (B : Nat) (A : Option Addr) (c : Nat) (l : List Nat) (w : World) (h : UL B w A l) (hl : ∀ x ∈ l, x < 18446744073709551616) (hn : l.length ≤ 1000) (hw : Good w) :
    Calls Tryd.prog 82 #[.slice A l.length c] w fun e w' => ∃ A', e = .returned (.slice A' l.length l.length) ∧ LL w.heap.size w' A' (l.map bitsOf) ∧ Below w.heap.size w w' := by
  obtain ⟨i0, hi, hz0, hz1, hz2⟩ := info_parts info_ints
  have H := Lib.hid h
  have Hl := Lib.hid hl
  have HW := Lib.hid (fun w' (h : Below w.heap.size w w') => hw.below h hw.size)
  clear h hl hw
  go_enter Tryd.func82, Tryd.ntmps82
  go_wp2_with (at_make; refine wpList_make_full _ rfl _ _ 47 rfl w.heap.size 50 i0 (.slice none 0 0) 1 Tryd.underlying47 hi hz0 hz1 _ _ _ _ l.length rfl rfl rfl rfl (by rw [hz2]; omega) (by unfold maxLen; omega) (Nat.le_refl _) ?_)
  intro w1 hown hgr
  have C1 := Lib.hid (LsInv.start (C := w.heap.size) (ls := l.map bitsOf) (by rw [List.length_map]; exact made_slices hown))
  have B1 := Lib.hid ((Below.refl w.heap.size w).grown hgr (Nat.le_refl _) (by simp))
  clear hown hgr
  go_wp2_with fail
  go_loopw [11] (fun i wr => ∃ k : Nat, i = .int .i64 (k : Nat) ∧ k ≤ l.length ∧ LsInv w.heap.size w.heap.size (l.map bitsOf) k wr ∧ Below w.heap.size w wr ∧ w.heap.size < wr.heap.size) (fun i _ => l.length - (intOf i).toNat)
  case atStart => exact ⟨0, rfl, Nat.zero_le _, C1.out, B1.out, by obtain ⟨vs, _, h2, _⟩ := C1.out; exact h2.lt⟩
  case round =>
    obtain ⟨k, rfl, hk, hinv, hb, hsz⟩ := hrel
    have Hinv := Lib.hid hinv
    have Hb := Lib.hid hb
    clear hinv hb
    by_cases hlt : k < l.length
    · obtain ⟨x, b, o, hx, rfl, _, hbl, hcell⟩ := (H.out.keep Hb.out).at_ hlt
      have Hlt := Lib.hid hlt
      have Hx := Lib.hid hx
      have HLs := Lib.hid (list_any x wr (Hl.out x (List.mem_of_getElem? hx)) (HW.out _ Hb.out))
      clear hx
      go_wp2_with fail
      refine HLs.out.mono ?_
      rintro e w2 ⟨v, rfl, hown, hb2⟩
      obtain ⟨A2, c2, rfl, hn2, _, _⟩ := own_nats hown
      have I2 := Hinv.out.keep hb2
      obtain ⟨vs, hv1, hv2, hv3⟩ := I2
      have f0 := hv2.fz k
      have z0 := hv2.at_ k
      rw [List.getElem?_eq_getElem (show k < vs.length by rw [hv1, List.length_map]; exact hlt)] at z0
      obtain ⟨u0, hu0⟩ : ∃ u, vs[k]'(by rw [hv1, List.length_map]; exact hlt) = u := ⟨_, rfl⟩
      rw [hu0] at z0
      have I3 := Lib.hid (LsInv.step (C := w.heap.size) (c := c2) ⟨vs, hv1, hv2, hv3⟩ (l := bitsOf x) (by rw [List.getElem?_map, Hx.out]; rfl) (hn2.down hsz))
      have B3 := Lib.hid ((below_on Hb.out hb2).setCell (p := ⟨w.heap.size, k, none⟩) (Nat.le_refl _) (.slice A2 (bitsOf x).length c2))
      have hs2 := hb2.size
      clear hown hb2 hn2 hv1 hv2 hv3 hu0
      go_wp2_with fail
      go_roundw
      case rel => exact ⟨k + 1, by go_num, Hlt.out, I3.out, B3.out, by simp [World.setCell]; omega⟩
      case measure => simp [intOf]; have := Hlt.out; omega
    · have Hf := Lib.hid (Hinv.out.done (by rw [List.length_map]; omega) (Nat.le_refl _))
      go_wp2_with fail
      go_ret
      exact ⟨_, rfl, Hf.out, Hb.out⟩
end Go.Proofs.YthocdmlacfejkaaDoor
