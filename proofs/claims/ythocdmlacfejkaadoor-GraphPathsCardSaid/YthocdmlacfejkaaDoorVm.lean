/- The search for components: what it does, as a function; its memory. -/
import Derived.Test.YthocdmlacfejkaaDoorStp
import Derived.Deep.AppendLies
namespace Go.Proofs.YthocdmlacfejkaaDoor
open Go.RowKit
structure St where
  low : List Int
  vis : Nat
  way : List Nat
  on : Nat
  found : List Nat
deriving DecidableEq
def popM (node : Nat) : Nat → List Nat → Nat → Option (List Nat × Nat)
  | 0, _, _ => none
  | f + 1, way, c =>
    if c.testBit node then some (way, c) else
    match way.getLast? with
    | none => none
    | some v => if 64 ≤ v ∨ c.testBit v = true then none else popM node f way.dropLast (c ||| sing v)
def goM (rec : Nat → St → Option St) (node : Nat) : List Nat → St → Option St
  | [], s => some s
  | n :: l, s =>
    match (if s.low.getD n 0 = 0 then rec n s else some s) with
    | none => none
    | some t => if t.low.length = 64 ∧ t.on < 18446744073709551616 then goM rec node l (if t.on.testBit n then { t with low := t.low.set node (min (t.low.getD node 0) (t.low.getD n 0)) } else t) else none
def inM (node : Nat) (s : St) : St := { s with vis := s.vis + 1, low := s.low.set node ((s.vis + 1 : Nat) : Int), way := s.way ++ [node], on := s.on ||| sing node }
def okM (node : Nat) (s : St) : Bool := decide (node < 64) && decide (s.low.length = 64) && decide (s.vis < 1000) && decide (s.way.length < 1000) && decide (s.found.length < 1000) && decide (s.on < 18446744073709551616)
def visitM (L : Nat → Nat) : Nat → Nat → St → Option St
  | 0, _, _ => none
  | f + 1, node, s =>
    if okM node s then
      match goM (visitM L f) node (bitsOf (L node)) (inM node s) with
      | none => none
      | some t =>
        if t.low.getD node 0 < ((s.vis + 1 : Nat) : Int) then some t else
        match popM node 65 t.way 0 with
        | none => none
        | some (way, c) => if t.found.length < 1000 then some { t with way := way, on := diff t.on c, found := t.found ++ [c] } else none
    else none
def st0 : St := ⟨List.replicate 64 0, 0, [], 0, []⟩
/-- All components that are found, in the order in which they are found. -/
def allM (L : Nat → Nat) : List Nat → St → Option St
  | [], s => some s
  | n :: l, s =>
    match (if s.low.getD n 0 = 0 then visitM L 65 n s else some s) with
    | none => none
    | some t => allM L l t
def ordM (n : Nat) (found : List Nat) : List Nat := (List.range n).flatMap fun i => found.filter fun c => Lib.ctz 64 c == i
def compM (es : List (Nat × Nat)) (n : Nat) : Option (List Nat) := (allM (adj es) (List.range n) st0).bind fun s => if s.found.all (fun c => decide (c < 18446744073709551616)) && decide (s.found.length < 1000) then some (ordM n s.found) else none
theorem comp_example : compM [(0, 1), (1, 0), (1, 2), (3, 2)] 4 = some [3, 4, 8] := by decide +kernel
/-- The cells of a search. -/
def scells (q : Nat) (s : St) (vW vF : Value) : List Value := .pointer (some ⟨q, 0, none⟩) :: (s.low.map (Value.int .i64) ++ [.int .i64 (s.vis : Nat), vW, .int .u64 (s.on : Nat), vF])
def u64s (l : List Nat) : List Value := l.map fun n => Value.int .u64 (n : Nat)
theorem sc_low {q n : Nat} {s : St} {vW vF : Value} (h : s.low.length = 64) (hn : n < 64) : (scells q s vW vF)[n + 1]? = some (.int .i64 (s.low.getD n 0)) := by
  unfold scells
  rw [List.getElem?_cons_succ, List.getElem?_append_left (by simp; omega), List.getElem?_map]
  simp [List.getD, h, hn]
theorem sc_end {q j : Nat} {s : St} {vW vF : Value} (h : s.low.length = 64) : (scells q s vW vF)[65 + j]? = [Value.int .i64 (s.vis : Nat), vW, .int .u64 (s.on : Nat), vF][j]? := by
  unfold scells
  rw [show 65 + j = (64 + j) + 1 by omega, List.getElem?_cons_succ, List.getElem?_append_right (by simp [h])]
  simp [h]
theorem sc_setlow {q n : Nat} {s : St} {vW vF : Value} {x : Int} (h : s.low.length = 64) (hn : n < 64) : (scells q s vW vF).set (n + 1) (.int .i64 x) = scells q { s with low := s.low.set n x } vW vF := by
  unfold scells
  rw [List.set_cons_succ, List.set_append_left _ _ (by simp; omega), List.map_set]
theorem sc_setend {q j : Nat} {s : St} {vW vF u : Value} (h : s.low.length = 64) : (scells q s vW vF).set (65 + j) u = .pointer (some ⟨q, 0, none⟩) :: (s.low.map (Value.int .i64) ++ [Value.int .i64 (s.vis : Nat), vW, .int .u64 (s.on : Nat), vF].set j u) := by
  unfold scells
  rw [show 65 + j = (64 + j) + 1 by omega, List.set_cons_succ, List.set_append_right _ _ (by simp [h])]
  simp [h]
theorem sc_len {q : Nat} {s : St} {vW vF : Value} (h : s.low.length = 64) : (scells q s vW vF).length = 69 := by
  unfold scells; simp [h]
/-- A search in memory. -/
structure Srch (C : Nat) (w : World) (p q : Nat) (L : Nat → Nat) (s : St) (vW vF : Value) : Prop where
  cells : Cells w p (scells q s vW vF)
  low : s.low.length = 64
  on : s.on < 18446744073709551616
  way : w.ownsRow C 3 1 vW s.way.length (nats s.way)
  found : w.ownsRow C 98 1 vF s.found.length (u64s s.found)
  links : Cells w q (sets L)
  pC : C ≤ p
  pq : p ≠ q
  wp : ∀ b, vW.ownBlock = some b → b ≠ p ∧ b ≠ q ∧ vF.ownBlock ≠ some b
  fp : ∀ b, vF.ownBlock = some b → b ≠ p ∧ b ≠ q
/-- What a visit leaves alone. -/
structure Kept (w w' : World) (p : Nat) (vW vF vW' vF' : Value) : Prop where
  size : w.heap.size ≤ w'.heap.size
  block : ∀ b, b < w.heap.size → b ≠ p → vW.ownBlock ≠ some b → vF.ownBlock ≠ some b → w'.heap[b]? = w.heap[b]?
  newW : ∀ b, vW'.ownBlock = some b → vW.ownBlock = some b ∨ w.heap.size ≤ b
  newF : ∀ b, vF'.ownBlock = some b → vF.ownBlock = some b ∨ w.heap.size ≤ b
theorem Kept.refl (w : World) (p : Nat) (vW vF : Value) : Kept w w p vW vF vW vF := ⟨Nat.le_refl _, fun _ _ _ _ _ => rfl, fun _ h => .inl h, fun _ h => .inl h⟩
theorem Kept.trans {w w1 w2 : World} {p : Nat} {a b a1 b1 a2 b2 : Value} (h : Kept w w1 p a b a1 b1) (k : Kept w1 w2 p a1 b1 a2 b2) : Kept w w2 p a b a2 b2 := by
  refine ⟨Nat.le_trans h.size k.size, fun x hx hp hw hf => ?_, fun x hx => ?_, fun x hx => ?_⟩
  · rw [k.block x (Nat.lt_of_lt_of_le hx h.size) hp ?_ ?_, h.block x hx hp hw hf]
    · intro e
      rcases h.newW x e with e' | e'
      · exact hw e'
      · omega
    · intro e
      rcases h.newF x e with e' | e'
      · exact hf e'
      · omega
  · rcases k.newW x hx with e | e
    · exact h.newW x e
    · exact .inr (Nat.le_trans h.size e)
  · rcases k.newF x hx with e | e
    · exact h.newF x e
    · exact .inr (Nat.le_trans h.size e)
theorem Kept.below {w w' : World} (hb : Below w.heap.size w w') (p : Nat) (vW vF : Value) : Kept w w' p vW vF vW vF := ⟨hb.size, fun b h _ _ _ => hb.block b h, fun _ h => .inl h, fun _ h => .inl h⟩
theorem Kept.put {w : World} {p : Nat} (vW vF : Value) (i : Nat) (u : Value) : Kept w (w.setCell ⟨p, i, none⟩ u) p vW vF vW vF :=
  ⟨by simp [World.setCell], fun b _ hp _ _ => Below.heap_setCell w ⟨p, i, none⟩ u b hp, fun _ h => .inl h, fun _ h => .inl h⟩
/-- A store into the search's own block, which may hand over another row. -/
theorem Kept.putW {w : World} {p : Nat} {vW vW' : Value} (vF : Value) (i : Nat) (u : Value) (h : ∀ b, vW'.ownBlock = some b → vW.ownBlock = some b ∨ w.heap.size ≤ b) : Kept w (w.setCell ⟨p, i, none⟩ u) p vW vF vW' vF :=
  ⟨by simp [World.setCell], fun b _ hp _ _ => Below.heap_setCell w ⟨p, i, none⟩ u b hp, h, fun _ h => .inl h⟩
theorem Kept.drew {w w' : World} {p : Nat} {a b a1 b1 : Value} (h : Kept w w' p a b a1 b1) : Kept w w'.drew p a b a1 b1 := ⟨h.size, h.block, h.newW, h.newF⟩
theorem grown_put (w : World) (p i : Nat) (u : Value) : w.grownBy (w.setCell ⟨p, i, none⟩ u) (some p) :=
  ⟨rfl, rfl, rfl, by simp [World.setCell], fun k _ hk => Below.heap_setCell w ⟨p, i, none⟩ u k (fun e => hk (by rw [e]))⟩
theorem Cells.of_block {w w' : World} {p : Nat} {vs : List Value} (h : Cells w p vs) (hb : w'.heap[p]? = w.heap[p]?) (hs : w.heap.size ≤ w'.heap.size) : Cells w' p vs :=
  ⟨fun i => (World.cell?_of_block (a := ⟨p, i, none⟩) hb).trans (h.at_ i), fun i => (World.frozen?_of_block (a := ⟨p, i, none⟩) hb).trans (h.fz i), Nat.lt_of_lt_of_le h.lt hs⟩
theorem Srch.put {C : Nat} {w : World} {p q : Nat} {L : Nat → Nat} {s s' : St} {vW vF vW' vF' : Value} (h : Srch C w p q L s vW vF) (i : Nat) (u : Value) (hi : i < 69) (hs : (scells q s vW vF).set i u = scells q s' vW' vF') (hl : s'.low.length = 64) (ho : s'.on < 18446744073709551616)
    (hw : w.ownsRow C 3 1 vW' s'.way.length (nats s'.way)) (hf : w.ownsRow C 98 1 vF' s'.found.length (u64s s'.found)) (wp : ∀ b, vW'.ownBlock = some b → b ≠ p ∧ b ≠ q ∧ vF'.ownBlock ≠ some b) (fp : ∀ b, vF'.ownBlock = some b → b ≠ p ∧ b ≠ q) : Srch C (w.setCell ⟨p, i, none⟩ u) p q L s' vW' vF' := by
  have hc := h.cells.set i u (by rw [sc_len h.low]; exact hi)
  rw [hs] at hc
  refine ⟨hc, hl, ho, hw.kept (grown_put w p i u) ?_, hf.kept (grown_put w p i u) ?_, h.links.other (Ne.symm h.pq) i u, h.pC, h.pq, wp, fp⟩
  · cases e : vW'.ownBlock with
    | none => exact .inl rfl
    | some b => exact .inr fun e' => (wp b e).1 (Option.some.inj e')
  · cases e : vF'.ownBlock with
    | none => exact .inl rfl
    | some b => exact .inr fun e' => (fp b e).1 (Option.some.inj e')
theorem Srch.keep {C : Nat} {w w' : World} {p q : Nat} {L : Nat → Nat} {s : St} {vW vF : Value} (h : Srch C w p q L s vW vF) (hb : Below w.heap.size w w') : Srch C w' p q L s vW vF := by
  have hg : w.grownBy w' none := ⟨hb.os, hb.tape, hb.output, hb.size, fun k hk _ => hb.block k hk⟩
  refine ⟨h.cells.keep hb, h.low, h.on, h.way.kept hg ?_, h.found.kept hg ?_, h.links.keep hb, h.pC, h.pq, h.wp, h.fp⟩
  · cases vW.ownBlock <;> simp
  · cases vF.ownBlock <;> simp
theorem Srch.drew {C : Nat} {w : World} {p q : Nat} {L : Nat → Nat} {s : St} {vW vF : Value} (h : Srch C w p q L s vW vF) : Srch C w.drew p q L s vW vF := h.keep (Below.refl _ _).drew
theorem Srch.setLow {C : Nat} {w : World} {p q : Nat} {L : Nat → Nat} {s : St} {vW vF : Value} (h : Srch C w p q L s vW vF) {n : Nat} (hn : n < 64) (x : Int) : Srch C (w.setCell ⟨p, n + 1, none⟩ (.int .i64 x)) p q L { s with low := s.low.set n x } vW vF :=
  h.put (s' := { s with low := s.low.set n x }) (n + 1) _ (by omega) (sc_setlow h.low hn) (by simp [h.low]) h.on h.way h.found h.wp h.fp
theorem Srch.setVis {C : Nat} {w : World} {p q : Nat} {L : Nat → Nat} {s : St} {vW vF : Value} (h : Srch C w p q L s vW vF) (x : Nat) : Srch C (w.setCell ⟨p, 65, none⟩ (.int .i64 (x : Nat))) p q L { s with vis := x } vW vF :=
  h.put (s' := { s with vis := x }) 65 _ (by omega) (sc_setend (j := 0) h.low) h.low h.on h.way h.found h.wp h.fp
theorem Srch.setOn {C : Nat} {w : World} {p q : Nat} {L : Nat → Nat} {s : St} {vW vF : Value} (h : Srch C w p q L s vW vF) {x : Nat} (hx : x < 18446744073709551616) : Srch C (w.setCell ⟨p, 67, none⟩ (.int .u64 (x : Nat))) p q L { s with on := x } vW vF :=
  h.put (s' := { s with on := x }) 67 _ (by omega) (sc_setend (j := 2) h.low) h.low hx h.way h.found h.wp h.fp
theorem Srch.setWay {C : Nat} {w : World} {p q : Nat} {L : Nat → Nat} {s : St} {vW vF v : Value} {l : List Nat} (h : Srch C w p q L s vW vF) (hv : w.ownsRow C 3 1 v l.length (nats l)) (wp : ∀ b, v.ownBlock = some b → b ≠ p ∧ b ≠ q ∧ vF.ownBlock ≠ some b) : Srch C (w.setCell ⟨p, 66, none⟩ v) p q L { s with way := l } v vF :=
  h.put (s' := { s with way := l }) 66 _ (by omega) (sc_setend (j := 1) h.low) h.low h.on hv h.found wp h.fp
theorem Srch.setFound {C : Nat} {w : World} {p q : Nat} {L : Nat → Nat} {s : St} {vW vF v : Value} {l : List Nat} (h : Srch C w p q L s vW vF) (hv : w.ownsRow C 98 1 v l.length (u64s l)) (fp : ∀ b, v.ownBlock = some b → b ≠ p ∧ b ≠ q ∧ vW.ownBlock ≠ some b) : Srch C (w.setCell ⟨p, 68, none⟩ v) p q L { s with found := l } vW v :=
  h.put (s' := { s with found := l }) 68 _ (by omega) (sc_setend (j := 3) h.low) h.low h.on h.way hv (fun b hb => ⟨(h.wp b hb).1, (h.wp b hb).2.1, fun e => (fp b e).2.2 hb⟩) (fun b hb => ⟨(fp b hb).1, (fp b hb).2.1⟩)
theorem Kept.grown {w w1 : World} {p : Nat} {vW vF : Value} (hg : w.grownBy w1 vW.ownBlock) : ∀ b, b < w.heap.size → b ≠ p → vW.ownBlock ≠ some b → vF.ownBlock ≠ some b → w1.heap[b]? = w.heap[b]? := fun b hb _ hw _ => hg.block b hb (Ne.symm hw)
theorem own_sep {v u : Value} (h : ∀ b, v.ownBlock = some b → u.ownBlock ≠ some b) : v.ownBlock = none ∨ v.ownBlock ≠ u.ownBlock := by
  cases e : v.ownBlock with
  | none => exact .inl rfl
  | some b => exact .inr fun e' => h b e e'.symm
/-- Behind an append to the way. -/
theorem Srch.pushW {C : Nat} {w w1 : World} {p q : Nat} {L : Nat → Nat} {s : St} {vW vF v : Value} {l : List Nat} (h : Srch C w p q L s vW vF) (hg : w.grownBy w1 vW.ownBlock) (hv : w1.ownsRow C 3 1 v l.length (nats l)) (hn : ∀ b, v.ownBlock = some b → vW.ownBlock = some b ∨ w.heap.size ≤ b) :
    Srch C (w1.setCell ⟨p, 66, none⟩ v) p q L { s with way := l } v vF ∧ Kept w (w1.setCell ⟨p, 66, none⟩ v) p vW vF v vF ∧ Cells w1 p (scells q s vW vF) := by
  have np : some p ≠ vW.ownBlock := fun e => (h.wp p e.symm).1 rfl
  have nq : some q ≠ vW.ownBlock := fun e => (h.wp q e.symm).2.1 rfl
  have cp := h.cells.of_block (hg.block p h.cells.lt np) hg.size
  have cq := h.links.of_block (hg.block q h.links.lt nq) hg.size
  have wpv : ∀ b, v.ownBlock = some b → b ≠ p ∧ b ≠ q ∧ vF.ownBlock ≠ some b := fun b hb => by
    rcases hn b hb with e | e
    · exact h.wp b e
    · refine ⟨?_, ?_, fun e' => ?_⟩
      · have := h.cells.lt; omega
      · have := h.links.lt; omega
      · have := (h.found.lt b e').2; omega
  have hf : w1.ownsRow C 98 1 vF s.found.length (u64s s.found) := h.found.kept hg (own_sep fun b e e' => (h.wp b e').2.2 e)
  refine ⟨?_, ⟨by simpa [World.setCell] using hg.size, fun b hb hp hw hfb => ?_, hn, fun _ h => .inl h⟩, cp⟩
  · have hc := cp.set 66 v (by rw [sc_len h.low]; omega)
    rw [show (scells q s vW vF).set 66 v = scells q { s with way := l } v vF from sc_setend (j := 1) h.low] at hc
    refine ⟨hc, h.low, h.on, hv.kept (grown_put w1 p 66 v) ?_, hf.kept (grown_put w1 p 66 v) ?_, cq.other (Ne.symm h.pq) 66 v, h.pC, h.pq, wpv, h.fp⟩
    · cases e : v.ownBlock with
      | none => exact .inl rfl
      | some b => exact .inr fun e' => (wpv b e).1 (Option.some.inj e')
    · cases e : vF.ownBlock with
      | none => exact .inl rfl
      | some b => exact .inr fun e' => (h.fp b e).1 (Option.some.inj e')
  · rw [Below.heap_setCell w1 ⟨p, 66, none⟩ v b hp]
    exact hg.block b hb (Ne.symm hw)
/-- Behind an append to what is found. -/
theorem Srch.pushF {C : Nat} {w w1 : World} {p q : Nat} {L : Nat → Nat} {s : St} {vW vF v : Value} {l : List Nat} (h : Srch C w p q L s vW vF) (hg : w.grownBy w1 vF.ownBlock) (hv : w1.ownsRow C 98 1 v l.length (u64s l)) (hn : ∀ b, v.ownBlock = some b → vF.ownBlock = some b ∨ w.heap.size ≤ b) :
    Srch C (w1.setCell ⟨p, 68, none⟩ v) p q L { s with found := l } vW v ∧ Kept w (w1.setCell ⟨p, 68, none⟩ v) p vW vF vW v ∧ Cells w1 p (scells q s vW vF) := by
  have np : some p ≠ vF.ownBlock := fun e => (h.fp p e.symm).1 rfl
  have nq : some q ≠ vF.ownBlock := fun e => (h.fp q e.symm).2 rfl
  have cp := h.cells.of_block (hg.block p h.cells.lt np) hg.size
  have cq := h.links.of_block (hg.block q h.links.lt nq) hg.size
  have fpv : ∀ b, v.ownBlock = some b → b ≠ p ∧ b ≠ q ∧ vW.ownBlock ≠ some b := fun b hb => by
    rcases hn b hb with e | e
    · exact ⟨(h.fp b e).1, (h.fp b e).2, fun e' => (h.wp b e').2.2 e⟩
    · refine ⟨?_, ?_, fun e' => ?_⟩
      · have := h.cells.lt; omega
      · have := h.links.lt; omega
      · have := (h.way.lt b e').2; omega
  have hw : w1.ownsRow C 3 1 vW s.way.length (nats s.way) := h.way.kept hg (own_sep fun b e e' => (h.wp b e).2.2 e')
  refine ⟨?_, ⟨by simpa [World.setCell] using hg.size, fun b hb hp hwb hfb => ?_, fun _ h => .inl h, hn⟩, cp⟩
  · have hc := cp.set 68 v (by rw [sc_len h.low]; omega)
    rw [show (scells q s vW vF).set 68 v = scells q { s with found := l } vW v from sc_setend (j := 3) h.low] at hc
    refine ⟨hc, h.low, h.on, hw.kept (grown_put w1 p 68 v) ?_, hv.kept (grown_put w1 p 68 v) ?_, cq.other (Ne.symm h.pq) 68 v, h.pC, h.pq, fun b hb => ⟨(h.wp b hb).1, (h.wp b hb).2.1, fun e => (fpv b e).2.2 hb⟩, fun b hb => ⟨(fpv b hb).1, (fpv b hb).2.1⟩⟩
    · cases e : vW.ownBlock with
      | none => exact .inl rfl
      | some b => exact .inr fun e' => (h.wp b e).1 (Option.some.inj e')
    · cases e : v.ownBlock with
      | none => exact .inl rfl
      | some b => exact .inr fun e' => (fpv b e).1 (Option.some.inj e')
  · rw [Below.heap_setCell w1 ⟨p, 68, none⟩ v b hp]
    exact hg.block b hb (Ne.symm hfb)
end Go.Proofs.YthocdmlacfejkaaDoor
