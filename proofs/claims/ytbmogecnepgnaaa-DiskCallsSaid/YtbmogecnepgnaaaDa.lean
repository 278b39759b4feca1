/- Basics: blocks, calls, what lies where. -/
import Derived.Test.YtbmogecnepgnaaaChecked
import Derived.WalkKit
import Derived.WalkSmall
import Derived.Deep.QuietTactic
import Derived.BigQuiet
import Derived.RegionTactic
import Derived.Below
import Derived.Lib.Hide
import Derived.Lib.SmallJoins
import Derived.Laws.ResultCell
import Derived.OwnWalk
import Derived.Laws.Bits64b
import Derived.Deep.RegionHeld3
import Derived.Deep.RegionWith
import Derived.Laws.BytesArg
import Derived.WalkSpells
import Derived.StillTailTactics
import Derived.Deep.DeepCutAuto
import Derived.Deep.AppendLies
import Derived.Deep.WholeRow
import Derived.Deep.DeepAppendWide
import Derived.Lib.SliceRun
namespace Go.Proofs.Ytbmogecnepgnaaa
open Go.RowKit
theorem bcell {W w1 : World} (hb : Below W.heap.size W w1) : (∀ b o, b < W.heap.size → w1.cell? ⟨b, o, none⟩ = W.cell? ⟨b, o, none⟩) ∧ (∀ b o, b < W.heap.size → w1.frozen? ⟨b, o, none⟩ = W.frozen? ⟨b, o, none⟩) :=
  ⟨fun b o h => hb.cell (p := ⟨b, o, none⟩) h, fun b o h => hb.frozen (p := ⟨b, o, none⟩) h⟩
theorem ret_bool {a b : Bool} (h : a = b) : Ending.returned (.bool a) = .returned (.bool b) := by rw [h]
theorem ret_int {k : IntKind} {a b : Int} (h : a = b) : Ending.returned (.int k a) = .returned (.int k b) := by rw [h]
theorem size_of_cell {w : World} {b o : Nat} {v : Value} (h : w.cell? ⟨b, o, none⟩ = some v) : b < w.heap.size := World.block_lt_of_cell? w ⟨b, o, none⟩ h
theorem heap_new (w : World) (o : Obj) : (w.alloc o).heap[w.heap.size]? = some o := by
  show (w.heap.push o)[w.heap.size]? = some o
  rw [Array.getElem?_push, if_pos rfl]
theorem below_on {w0 w w' : World} (h : Below w0.heap.size w0 w) (h' : Below w.heap.size w w') : Below w0.heap.size w0 w' := h.trans (h'.mono h.size)
/-- A block and what its cells hold; it may be written. -/
structure Cells (w : World) (p : Nat) (vs : List Value) : Prop where
  at_ : ∀ i, w.cell? ⟨p, i, none⟩ = vs[i]?
  fz : ∀ i, w.frozen? ⟨p, i, none⟩ = false
  lt : p < w.heap.size
theorem Cells.keep {w w' : World} {p : Nat} {vs : List Value} (h : Cells w p vs) (hb : Below w.heap.size w w') : Cells w' p vs :=
  ⟨fun i => (hb.cell (p := ⟨p, i, none⟩) h.lt).trans (h.at_ i), fun i => (hb.frozen (p := ⟨p, i, none⟩) h.lt).trans (h.fz i), Nat.lt_of_lt_of_le h.lt hb.size⟩
theorem Cells.of_row {w : World} {p : Nat} {vs : Array Value} {T : TypeId} (h : w.heap[p]? = some (.cells vs T (0, 0))) : Cells w p vs.toList := by
  refine ⟨fun i => by rw [cell_of_row _ _ _ _ _ _ h]; simp, fun i => by simp [World.frozen?, h], ?_⟩
  rcases Nat.lt_or_ge p w.heap.size with h1 | h1
  · exact h1
  · rw [Array.getElem?_eq_none h1] at h; cases h
theorem Cells.new (w : World) (vs : Array Value) (T : TypeId) : Cells (w.alloc (.cells vs T)) w.heap.size vs.toList := Cells.of_row (heap_new w _)
theorem Cells.set {w : World} {p : Nat} {vs : List Value} (h : Cells w p vs) (i : Nat) (u : Value) (hi : i < vs.length) : Cells (w.setCell ⟨p, i, none⟩ u) p (vs.set i u) := by
  refine ⟨fun k => ?_, fun k => by rw [World.frozen?_setCell]; exact h.fz k, by simpa [World.setCell] using h.lt⟩
  by_cases hk : k = i
  · subst hk
    rw [World.cell?_setCell_same _ _ _ ((h.at_ k).trans (List.getElem?_eq_getElem hi))]
    simp [hi]
  · rw [World.cell?_setCell_other _ _ _ _ (by simp <;> omega), h.at_ k, List.getElem?_set_ne (by omega)]
theorem Cells.other {w : World} {p q : Nat} {vs : List Value} (h : Cells w p vs) (hq : p ≠ q) (i : Nat) (u : Value) : Cells (w.setCell ⟨q, i, none⟩ u) p vs := by
  have hb := Below.heap_setCell w ⟨q, i, none⟩ u p hq
  exact ⟨fun k => (World.cell?_of_block hb).trans (h.at_ k), fun k => by rw [World.frozen?_setCell]; exact h.fz k, by simpa [World.setCell] using h.lt⟩
theorem Cells.drew {w : World} {p : Nat} {vs : List Value} (h : Cells w p vs) : Cells w.drew p vs := ⟨h.at_, h.fz, h.lt⟩
theorem Calls.still {P : Program} {f : FuncId} {args : Array Value} {w : World} {v : Value} (h : Calls P f args w fun e w' => e = .returned v ∧ w = w') : Calls P f args w fun e w' => e = .returned v ∧ w' = w :=
  h.mono fun _ _ ⟨h1, h2⟩ => ⟨h1, h2.symm⟩
theorem all_take {α : Type} {p : α → Bool} {l : List α} {k : Nat} {x : α} (h : l[k]? = some x) (ha : (l.take k).all p = true) (hx : p x = true) : (l.take (k + 1)).all p = true := by
  rw [List.take_add_one, h, List.all_append, ha]; simp [hx]
section
variable {P : Program} {md : Region.Mode} {ops : Array Oper} {Q : Exit → Act → World → Prop} {S : World → Prop} {k : Nat}
/-- What is left of the region, in whatever order; S is shown behind each operation as long as number k has not come up. -/
def Till (P : Program) (md : Region.Mode) (ops : Array Oper) (Q : Exit → Act → World → Prop) (S : World → Prop) (k : Nat) : Nat → Array Bool → Act → World → Prop
  | 0, l, a, w => Region.ready md ops l = [] ∧ Q .normal a w
  | n + 1, l, a, w => (Region.ready md ops l = [] → Q .normal a w) ∧ ∀ i ∈ Region.ready md ops l, wpOp P ops Q i (fun b v => ((l.setIfInBounds i true).getD k true = false → S v) ∧ Till P md ops Q S k n (l.setIfInBounds i true) b v) a w
theorem Till.any : ∀ (n : Nat) (l : Array Bool) (a : Act) (w : World), Till P md ops Q S k n l a w → wpAny P md ops Q n l a w
  | 0, _, _, _, h => h
  | n + 1, _, _, _, h => ⟨h.1, fun i hi => wpOp_mono (fun b v hb => Till.any n _ b v hb.2) (h.2 i hi)⟩
def waits (md : Region.Mode) (ops : Array Oper) (k i : Nat) : Bool :=
  match ops[k]? with
  | some o => o.after.any fun e => Region.binds md e && e.on == i
  | none => false
theorem Till.first {i : Nat} {oi : Oper} {u : Value} (hi : ops[i]? = some oi) (hs : Region.noSelect ops = true) (hQ : ∀ c a w, Q (.panic c) (a.put oi.dst u) w → Q (.panic c) a w) {m : Nat} (hm : waits md ops m i = true) (hmk : m = k ∨ waits md ops k m = true) (hik : i ≠ k) (him : i ≠ m) (n : Nat) :
    ∀ (l : Array Bool) (a : Act) (w : World), l.getD m true = false → (∀ j oj, ops[j]? = some oj → j ≠ i → l.getD j true = false → (∀ e ∈ oj.after, Region.binds md e = true → e.on ≠ i) → oi.apart ops oj = true) →
      i ∈ Region.ready md ops l → l.getD k true = false → YieldsIf P ops S oi u a → S w → Till P md ops Q S k n (l.setIfInBounds i true) (a.put oi.dst u) w → Till P md ops Q S k (n + 1) l a w := by
  induction n with
  | zero =>
    intro l a w _ _ hr _ hy hS H
    refine ⟨fun h0 => absurd hr (by rw [h0]; simp), fun j hj => ?_⟩
    rcases Nat.decEq j i with hne | heq
    · have := ready_mono hj hne
      rw [H.1] at this
      cases this
    · subst heq
      exact hy.wpOp hi hS ⟨fun _ => hS, H⟩
  | succ n ih =>
    intro l a w hml0 hfree hr hkl hy hS H
    have hi0 := (mem_ready.1 hr).1
    refine ⟨fun h0 => absurd hr (by rw [h0]; simp), fun j hj => ?_⟩
    rcases Nat.decEq j i with hne | heq
    · obtain ⟨hj0, oj, hoj, hafter⟩ := mem_ready.1 hj
      have open_ : ∀ m' : Nat, l.getD m' true = false → ∀ e ∈ oj.after, Region.binds md e = true → e.on ≠ m' := by
        intro m' hm0 e he hb h1
        have h2 := hafter e he hb
        rw [h1] at h2
        cases hl : l[m']? with
        | none => simp [Array.getD_eq_getD_getElem?, hl] at h2
        | some t => simp [Array.getD_eq_getD_getElem?, hl] at h2 hm0; rw [h2] at hm0; cases hm0
      have hnone := open_ i hi0
      have apart : ∀ k' m' : Nat, l.getD m' true = false → waits md ops k' m' = true → j ≠ k' := by
        intro k' m' hm0 hw h1
        subst h1
        unfold waits at hw
        rw [hoj] at hw
        obtain ⟨e, he, h2⟩ := Array.any_eq_true'.1 hw
        simp only [Bool.and_eq_true, beq_iff_eq] at h2
        exact open_ m' hm0 e he h2.1 h2.2
      have hjm : j ≠ m := apart m i hi0 hm
      have hjk : j ≠ k := by
        rcases hmk with h1 | h1
        · rw [← h1]; exact hjm
        · exact apart k m hml0 h1
      have hkl2 : (l.setIfInBounds j true).getD k true = false := by rw [getD_set_ne true hjk]; exact hkl
      have step := wpOp_putIf hoj (hfree j oj hoj hne hj0 hnone) (fun cs b => Region.noSelect_spec hs i oi cs b hi) (fun cs b => Region.noSelect_spec hs j oj cs b hoj) hQ hy (H.2 j (ready_mono hj hne))
      refine wpOp_mono (fun b v hb => ?_) step
      have hSv : S v := hb.2.1 (by rw [getD_set_ne true hjk, getD_set_ne true hik]; exact hkl)
      refine ⟨fun _ => hSv, ih (l.setIfInBounds j true) b v (by rw [getD_set_ne true hjm]; exact hml0) (fun m om hm hmi hml hmn => hfree m om hm hmi ?_ hmn) (ready_mono hr (Ne.symm hne)) hkl2 hb.1 hSv ?_⟩
      · rcases Nat.decEq j m with h1 | h1
        · rwa [getD_set_ne true h1] at hml
        · subst h1; exact hj0
      · rw [Array.setIfInBounds_comm _ _ hne]
        exact hb.2.2
    · subst heq
      exact hy.wpOp hi hS ⟨fun _ => hS, H⟩
theorem Till.take {i m : Nat} {oi : Oper} {d : Option Tmp} {u : Value} {n : Nat} {l : Array Bool} {a : Act} {w : World} (hi : ops[i]? = some oi) (hd : oi.dst = d) (hs : Region.noSelect ops = true) (hf : Region.free md ops l i = true) (hr : (Region.ready md ops l).contains i = true) (hm : waits md ops m i = true) (hmk : (m == k || waits md ops k m) = true) (hik : (i == k || i == m) = false) (hkl : (l.getD k true || l.getD m true) = false)
    (hQ : ∀ c a w, Q (.panic c) (a.put d u) w → Q (.panic c) a w) (hw : Region.wanted oi (yielded ops a.tmps) = true) (hy : ∀ w, S w → (execOp a.eval oi).run P w = .ok (.value u) w) (hS : S w) (h : Till P md ops Q S k n (l.setIfInBounds i true) (a.put d u) w) : Till P md ops Q S k (n + 1) l a w := by
  subst hd
  rw [Bool.or_eq_false_iff] at hkl hik
  exact Till.first hi hs hQ hm (by simpa using hmk) (by simpa using hik.1) (by simpa using hik.2) n l a w hkl.2 (Region.free_spec hi hf) (by simpa using hr) hkl.1 (Or.inl ⟨hw, hy⟩) hS h
/-- A load that is taken first: what the kernel can tell is told by itself. -/
theorem Till.tk (i m : Nat) (d : Tmp) (u : Value) {oi : Oper} {n : Nat} {l : Array Bool} {a : Act} {w : World} (hS : S w) (h : Till P md ops Q S k n (l.setIfInBounds i true) (a.put (some d) u) w) (hi : ops[i]? = some oi := by exact rfl) (hd : oi.dst = some d := by exact rfl) (hs : Region.noSelect ops = true := by kernel_rfl) (hf : Region.free md ops l i = true := by kernel_rfl) (hr : (Region.ready md ops l).contains i = true := by kernel_rfl) (hm : waits md ops m i = true := by kernel_rfl) (hmk : (m == k || waits md ops k m) = true := by kernel_rfl) (hik : (i == k || i == m) = false := by kernel_rfl) (hkl : (l.getD k true || l.getD m true) = false := by kernel_rfl)
    (hQ : ∀ c a w, Q (.panic c) (a.put (some d) u) w → Q (.panic c) a w := by exact fun _ _ _ h => h) (hw : Region.wanted oi (yielded ops a.tmps) = true := by kernel_rfl) (hy : ∀ w, S w → (execOp a.eval oi).run P w = .ok (.value u) w := by (intro w hSw; (try dsimp only at hSw); go_split_ands; go_simp)) : Till P md ops Q S k (n + 1) l a w :=
  Till.take hi hd hs hf hr hm hmk hik hkl hQ hw hy hS h
theorem Till.one {i : Nat} {o : Oper} {n : Nat} {l : Array Bool} {a : Act} {w : World} (hr : Region.ready md ops l = [i]) (ho : ops[i]? = some o)
    (h : ∀ K : Act → World → Prop, Shut (∀ b v, ((l.setIfInBounds i true).getD k true = false → S v) → Till P md ops Q S k n (l.setIfInBounds i true) b v → K b v) → if Region.wanted o (yielded ops a.tmps) = true then Oper.wp P o a w K Q else K (a.put o.dst undef) w) : Till P md ops Q S k (n + 1) l a w := by
  refine ⟨fun h0 => absurd (hr.symm.trans h0) (by simp), fun j hj => ?_⟩
  rw [hr] at hj
  obtain rfl : j = i := by simpa using hj
  exact wpOp_step ho fun K hK => h K fun b v h1 h2 => hK b v ⟨h1, h2⟩
theorem Till.done {l : Array Bool} {a : Act} {w : World} (hr : Region.ready md ops l = []) (h : Q .normal a w) : ∀ n, Till P md ops Q S k n l a w
  | 0 => ⟨hr, h⟩
  | _ + 1 => ⟨fun _ => h, by rw [hr]; simp⟩
theorem Till.begin {id : Nat} {a : Act} {w : World} (k : Nat) (S : World → Prop) (hm : P.follows .mixedOrders = true) (hS : S w.drew) (h : S w.drew → Till P .any ops Q S k ops.size (Array.replicate ops.size false) a w.drew) : (Code.region id ops true).wp P Q a w :=
  wp_region_any hm (Till.any _ _ _ _ (h hS))
end
section
variable {P : Program} {md : Region.Mode} {ops : Array Oper} {Q : Exit → Act → World → Prop} {S : World → Prop} {k : Nat}
/-- One way on of a drawn region. -/
def Arm (P : Program) (md : Region.Mode) (ops : Array Oper) (Q : Exit → Act → World → Prop) (S : World → Prop) (k n : Nat) (l : Array Bool) (a : Act) (w : World) (i : Nat) (o : Oper) : Prop :=
  ∀ K : Act → World → Prop, Shut (∀ b v, ((l.setIfInBounds i true).getD k true = false → S v) → Till P md ops Q S k n (l.setIfInBounds i true) b v → K b v) → if Region.wanted o (yielded ops a.tmps) = true then Oper.wp P o a w K Q else K (a.put o.dst undef) w
theorem Arm.op {i : Nat} {o : Oper} {n : Nat} {l : Array Bool} {a : Act} {w : World} (ho : ops[i]? = some o) (h : Arm P md ops Q S k n l a w i o) : wpOp P ops Q i (fun b v => ((l.setIfInBounds i true).getD k true = false → S v) ∧ Till P md ops Q S k n (l.setIfInBounds i true) b v) a w :=
  wpOp_step ho fun K hK => h K fun b v h1 h2 => hK b v ⟨h1, h2⟩
theorem Till.two {i j : Nat} {o o' : Oper} {n : Nat} {l : Array Bool} {a : Act} {w : World} (hr : Region.ready md ops l = [i, j]) (ho : ops[i]? = some o) (ho' : ops[j]? = some o')
    (h : Arm P md ops Q S k n l a w i o) (h' : Arm P md ops Q S k n l a w j o') : Till P md ops Q S k (n + 1) l a w := by
  refine ⟨fun h0 => absurd (hr.symm.trans h0) (by simp), fun m hm => ?_⟩
  rw [hr] at hm
  rcases List.mem_cons.1 hm with rfl | hm
  · exact h.op ho
  · obtain rfl := List.mem_singleton.1 hm
    exact h'.op ho'
theorem Till.three {i j g : Nat} {o o' o2 : Oper} {n : Nat} {l : Array Bool} {a : Act} {w : World} (hr : Region.ready md ops l = [i, j, g]) (ho : ops[i]? = some o) (ho' : ops[j]? = some o') (ho2 : ops[g]? = some o2)
    (h : Arm P md ops Q S k n l a w i o) (h' : Arm P md ops Q S k n l a w j o') (h2 : Arm P md ops Q S k n l a w g o2) : Till P md ops Q S k (n + 1) l a w := by
  refine ⟨fun h0 => absurd (hr.symm.trans h0) (by simp), fun m hm => ?_⟩
  rw [hr] at hm
  rcases List.mem_cons.1 hm with rfl | hm
  · exact h.op ho
  rcases List.mem_cons.1 hm with rfl | hm
  · exact h'.op ho'
  · obtain rfl := List.mem_singleton.1 hm
    exact h2.op ho2
end
section
variable {P : Program} {md : Region.Mode} {ops : Array Oper} {Q : Exit → Act → World → Prop} {S : World → Prop} {k : Nat}
theorem Till.sk (i m : Nat) (d : Tmp) {oi : Oper} {n : Nat} {l : Array Bool} {a : Act} {w : World} (hS : S w) (h : Till P md ops Q S k n (l.setIfInBounds i true) (a.put (some d) undef) w) (hi : ops[i]? = some oi := by exact rfl) (hd : oi.dst = some d := by exact rfl) (hs : Region.noSelect ops = true := by kernel_rfl) (hf : Region.free md ops l i = true := by kernel_rfl) (hr : (Region.ready md ops l).contains i = true := by kernel_rfl) (hm : waits md ops m i = true := by kernel_rfl) (hmk : (m == k || waits md ops k m) = true := by kernel_rfl) (hik : (i == k || i == m) = false := by kernel_rfl) (hkl : (l.getD k true || l.getD m true) = false := by kernel_rfl)
    (hQ : ∀ c a w, Q (.panic c) (a.put (some d) undef) w → Q (.panic c) a w := by exact fun _ _ _ h => h) (hw : Region.wanted oi (yielded ops a.tmps) = false := by kernel_rfl) : Till P md ops Q S k (n + 1) l a w := by
  rw [Bool.or_eq_false_iff] at hkl hik
  rw [← hd] at h hQ
  exact Till.first hi hs hQ hm (by simpa using hmk) (by simpa using hik.1) (by simpa using hik.2) n l a w hkl.2 (Region.free_spec hi hf) (by simpa using hr) hkl.1 (Or.inr ⟨hw, rfl⟩) hS h
theorem Till.rek {k' : Nat} : ∀ (n : Nat) (l : Array Bool) (a : Act) (w : World), l.getD k true = true → Till P md ops Q S k' n l a w → Till P md ops Q S k n l a w
  | 0, _, _, _, _, h => h
  | n + 1, l, a, w, hk, h => ⟨h.1, fun i hi => wpOp_mono (fun b v hb => by
      have e : (l.setIfInBounds i true).getD k true = true := by
        rw [Array.getD_eq_getD_getElem?, Array.getElem?_setIfInBounds]
        rw [Array.getD_eq_getD_getElem?] at hk
        split
        · split <;> rfl
        · exact hk
      exact ⟨fun hf => absurd (e.symm.trans hf) (by decide), Till.rek n _ b v e hb.2⟩) (h.2 i hi)⟩
end
section
variable {P : Program} {md : Region.Mode} {ops : Array Oper} {Q : Exit → Act → World → Prop} {S : World → Prop} {k : Nat}
theorem Till.firstL {i : Nat} {oi : Oper} {u : Value} (hi : ops[i]? = some oi) (hs : Region.noSelect ops = true) (hQ : ∀ c a w, Q (.panic c) (a.put oi.dst u) w → Q (.panic c) a w) {L : List Nat} (hL : ∀ m ∈ L, waits md ops m i = true ∨ ∃ m' ∈ L, waits md ops m m' = true) (hkL : k ∈ L) (hiL : i ∉ L) (n : Nat) :
    ∀ (l : Array Bool) (a : Act) (w : World), (∀ m ∈ L, l.getD m true = false) → (∀ j oj, ops[j]? = some oj → j ≠ i → l.getD j true = false → (∀ e ∈ oj.after, Region.binds md e = true → e.on ≠ i) → oi.apart ops oj = true) →
      i ∈ Region.ready md ops l → YieldsIf P ops S oi u a → S w → Till P md ops Q S k n (l.setIfInBounds i true) (a.put oi.dst u) w → Till P md ops Q S k (n + 1) l a w := by
  have hik : i ≠ k := fun e => hiL (e ▸ hkL)
  induction n with
  | zero =>
    intro l a w _ _ hr hy hS H
    refine ⟨fun h0 => absurd hr (by rw [h0]; simp), fun j hj => ?_⟩
    rcases Nat.decEq j i with hne | heq
    · have := ready_mono hj hne
      rw [H.1] at this
      cases this
    · subst heq
      exact hy.wpOp hi hS ⟨fun _ => hS, H⟩
  | succ n ih =>
    intro l a w hl0 hfree hr hy hS H
    have hi0 := (mem_ready.1 hr).1
    refine ⟨fun h0 => absurd hr (by rw [h0]; simp), fun j hj => ?_⟩
    rcases Nat.decEq j i with hne | heq
    · obtain ⟨hj0, oj, hoj, hafter⟩ := mem_ready.1 hj
      have open_ : ∀ m' : Nat, l.getD m' true = false → ∀ e ∈ oj.after, Region.binds md e = true → e.on ≠ m' := by
        intro m' hm0 e he hb h1
        have h2 := hafter e he hb
        rw [h1] at h2
        cases hl : l[m']? with
        | none => simp [Array.getD_eq_getD_getElem?, hl] at h2
        | some t => simp [Array.getD_eq_getD_getElem?, hl] at h2 hm0; rw [h2] at hm0; cases hm0
      have hnone := open_ i hi0
      have apart : ∀ m' : Nat, l.getD m' true = false → waits md ops j m' = true → False := by
        intro m' hm0 hw
        unfold waits at hw
        rw [hoj] at hw
        obtain ⟨e, he, h2⟩ := Array.any_eq_true'.1 hw
        simp only [Bool.and_eq_true, beq_iff_eq] at h2
        exact open_ m' hm0 e he h2.1 h2.2
      have hjL : j ∉ L := fun hj' => by
        rcases hL j hj' with h1 | ⟨m', hm', h1⟩
        · exact apart i hi0 h1
        · exact apart m' (hl0 m' hm') h1
      have hjk : j ≠ k := fun e => hjL (e ▸ hkL)
      have hl2 : ∀ m ∈ L, (l.setIfInBounds j true).getD m true = false := fun m hm => by
        rw [getD_set_ne true (show j ≠ m from fun e => hjL (by rw [e]; exact hm))]
        exact hl0 m hm
      have step := wpOp_putIf hoj (hfree j oj hoj hne hj0 hnone) (fun cs b => Region.noSelect_spec hs i oi cs b hi) (fun cs b => Region.noSelect_spec hs j oj cs b hoj) hQ hy (H.2 j (ready_mono hj hne))
      refine wpOp_mono (fun b v hb => ?_) step
      have hSv : S v := hb.2.1 (by rw [getD_set_ne true hjk, getD_set_ne true hik]; exact hl0 k hkL)
      refine ⟨fun _ => hSv, ih (l.setIfInBounds j true) b v hl2 (fun m om hm hmi hml hmn => hfree m om hm hmi ?_ hmn) (ready_mono hr (Ne.symm hne)) hb.1 hSv ?_⟩
      · rcases Nat.decEq j m with h1 | h1
        · rwa [getD_set_ne true h1] at hml
        · subst h1; exact hj0
      · rw [Array.setIfInBounds_comm _ _ hne]
        exact hb.2.2
    · subst heq
      exact hy.wpOp hi hS ⟨fun _ => hS, H⟩
theorem chain_all {L : List Nat} {i : Nat} (h : (L.all fun m => waits md ops m i || L.any fun m' => waits md ops m m') = true) : ∀ m ∈ L, waits md ops m i = true ∨ ∃ m' ∈ L, waits md ops m m' = true := fun m hm => by
  have h1 := List.all_eq_true.1 h m hm
  rw [Bool.or_eq_true] at h1
  exact h1.imp id fun h2 => List.any_eq_true.1 h2
theorem Till.tL (i : Nat) (L : List Nat) (d : Tmp) (u : Value) {oi : Oper} {n : Nat} {l : Array Bool} {a : Act} {w : World} (hS : S w) (h : Till P md ops Q S k n (l.setIfInBounds i true) (a.put (some d) u) w) (hi : ops[i]? = some oi := by exact rfl) (hd : oi.dst = some d := by exact rfl) (hs : Region.noSelect ops = true := by kernel_rfl) (hf : Region.free md ops l i = true := by kernel_rfl) (hr : (Region.ready md ops l).contains i = true := by kernel_rfl) (hL : (L.all fun m => waits md ops m i || L.any fun m' => waits md ops m m') = true := by kernel_rfl) (hkL : L.contains k = true := by kernel_rfl) (hiL : L.contains i = false := by kernel_rfl) (hl0 : (L.all fun m => !l.getD m true) = true := by kernel_rfl)
    (hQ : ∀ c a w, Q (.panic c) (a.put (some d) u) w → Q (.panic c) a w := by exact fun _ _ _ h => h) (hw : Region.wanted oi (yielded ops a.tmps) = true := by kernel_rfl) (hy : ∀ w, S w → (execOp a.eval oi).run P w = .ok (.value u) w := by (intro w hSw; (try dsimp only at hSw); go_split_ands; go_simp)) : Till P md ops Q S k (n + 1) l a w := by
  rw [← hd] at h hQ
  exact Till.firstL hi hs hQ (chain_all hL) (by simpa using hkL) (by simpa using hiL) n l a w (fun m hm => by simpa using List.all_eq_true.1 hl0 m hm) (Region.free_spec hi hf) (by simpa using hr) (Or.inl ⟨hw, hy⟩) hS h
theorem Till.sL (i : Nat) (L : List Nat) (d : Tmp) {oi : Oper} {n : Nat} {l : Array Bool} {a : Act} {w : World} (hS : S w) (h : Till P md ops Q S k n (l.setIfInBounds i true) (a.put (some d) undef) w) (hi : ops[i]? = some oi := by exact rfl) (hd : oi.dst = some d := by exact rfl) (hs : Region.noSelect ops = true := by kernel_rfl) (hf : Region.free md ops l i = true := by kernel_rfl) (hr : (Region.ready md ops l).contains i = true := by kernel_rfl) (hL : (L.all fun m => waits md ops m i || L.any fun m' => waits md ops m m') = true := by kernel_rfl) (hkL : L.contains k = true := by kernel_rfl) (hiL : L.contains i = false := by kernel_rfl) (hl0 : (L.all fun m => !l.getD m true) = true := by kernel_rfl)
    (hQ : ∀ c a w, Q (.panic c) (a.put (some d) undef) w → Q (.panic c) a w := by exact fun _ _ _ h => h) (hw : Region.wanted oi (yielded ops a.tmps) = false := by kernel_rfl) : Till P md ops Q S k (n + 1) l a w := by
  rw [← hd] at h hQ
  exact Till.firstL hi hs hQ (chain_all hL) (by simpa using hkL) (by simpa using hiL) n l a w (fun m hm => by simpa using List.all_eq_true.1 hl0 m hm) (Region.free_spec hi hf) (by simpa using hr) (Or.inr ⟨hw, rfl⟩) hS h
theorem Till.bH {id : Nat} {a : Act} {w : World} (k : Nat) {S : World → Prop} (HS : RowKit.Hid (∀ w', Below w.heap.size w w' → S w')) (h : ∀ v, RowKit.Hid (Below w.heap.size w v) → Till P .any ops Q S k ops.size (Array.replicate ops.size false) a v) (hm : P.follows .mixedOrders = true := by kernel_rfl) : (Code.region id ops true).wp P Q a w :=
  Till.begin k S hm (HS _ (Below.refl _ _).drew) (fun _ => h _ (Lib.hid (Below.refl _ _).drew))
theorem Till.oY {i : Nat} {o : Oper} {u : Value} {n : Nat} {l : Array Bool} {a : Act} {w : World} (hr : Region.ready md ops l = [i]) (ho : ops[i]? = some o) (hy : YieldsIf P ops S o u a) (hS : S w) (h : Till P md ops Q S k n (l.setIfInBounds i true) (a.put o.dst u) w) : Till P md ops Q S k (n + 1) l a w := by
  refine ⟨fun h0 => absurd (hr.symm.trans h0) (by simp), fun j hj => ?_⟩
  rw [hr] at hj
  obtain rfl : j = i := by simpa using hj
  exact hy.wpOp ho hS ⟨fun _ => hS, h⟩
theorem Till.oN (i : Nat) (d : Tmp) {o : Oper} {n : Nat} {l : Array Bool} {a : Act} {w : World} (hS : S w) (h : Till P md ops Q S k n (l.setIfInBounds i true) (a.put (some d) undef) w) (hr : Region.ready md ops l = [i] := by kernel_rfl) (ho : ops[i]? = some o := by exact rfl) (hd : o.dst = some d := by exact rfl) (hw : Region.wanted o (yielded ops a.tmps) = false := by kernel_rfl) : Till P md ops Q S k (n + 1) l a w := by
  rw [← hd] at h
  exact Till.oY hr ho (Or.inr ⟨hw, rfl⟩) hS h
theorem Till.oP (i : Nat) (d : Tmp) (u : Value) {o : Oper} {n : Nat} {l : Array Bool} {a : Act} {w : World} (hS : S w) (h : Till P md ops Q S k n (l.setIfInBounds i true) (a.put (some d) u) w) (hr : Region.ready md ops l = [i] := by kernel_rfl) (ho : ops[i]? = some o := by exact rfl) (hd : o.dst = some d := by exact rfl) (hw : Region.wanted o (yielded ops a.tmps) = true := by kernel_rfl) (hy : ∀ w, S w → (execOp a.eval o).run P w = .ok (.value u) w := by (intro w hSw; (try dsimp only at hSw); go_split_ands; go_simp)) : Till P md ops Q S k (n + 1) l a w := by
  rw [← hd] at h
  exact Till.oY hr ho (Or.inl ⟨hw, hy⟩) hS h
end
end Go.Proofs.Ytbmogecnepgnaaa
