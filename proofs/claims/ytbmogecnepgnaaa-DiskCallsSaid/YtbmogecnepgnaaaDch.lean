/- The model: sync. -/
import Derived.Test.YtbmogecnepgnaaaDcg
namespace Go.Proofs.Ytbmogecnepgnaaa
open Go.RowKit Go.Maps Go.Shelf
/-- Bounds of a model's state. -/
structure MB (md : Md) : Prop where
  nl : md.names.length ≤ 900
  fl : md.files.length ≤ 900
  pl : md.pend.length ≤ 900
  dl : md.dur.length ≤ 900
  lm : -1 ≤ md.lim ∧ md.lim ≤ 4611686018427387904
  ix : ∀ e ∈ md.names, e.2 < md.files.length
  dx : ∀ e ∈ md.dur, e.2 < md.files.length
  sz : ∀ f ∈ md.files, f.1.size ≤ 16777216 ∧ f.2 ≤ f.1.size
  cp : md.cap ≤ 16777216
theorem findM_in {l : List Ent} {name : ByteArray} (h : ¬ findM l name < 0) : ∃ e ∈ l, findM l name = (e.2 : Nat) ∧ e.1.data.toList = name.data.toList := by
  unfold findM at h ⊢
  cases hx : l.find? (fun e => decide (e.1.data.toList = name.data.toList)) with
  | some e => exact ⟨e, List.mem_of_find?_eq_some hx, rfl, of_decide_eq_true (by simpa using List.find?_some hx)⟩
  | none => rw [hx] at h; exact absurd (show (-1 : Int) < 0 by omega) h
theorem findM_neg {l : List Ent} {name : ByteArray} (h : findM l name < 0) : findM l name = -1 := by
  unfold findM at h ⊢
  cases hx : l.find? (fun e => decide (e.1.data.toList = name.data.toList)) with
  | some e => rw [hx] at h; exact absurd h (by show ¬ ((e.2 : Nat) : Int) < 0; omega)
  | none => rfl
theorem entC_set (l : List Ent) (k : Nat) (e : Ent) : entC (l.set k e) = ((entC l).set (k * 2) (.string e.1)).set (k * 2 + 1) (.int .i64 (e.2 : Nat)) := by
  induction l generalizing k with
  | nil => simp [entC]
  | cons a l ih =>
    cases k with
    | zero => rfl
    | succ k =>
      have hc : ∀ (a : Ent) l, entC (a :: l) = .string a.1 :: .int .i64 (a.2 : Nat) :: entC l := fun _ _ => rfl
      rw [List.set_cons_succ, hc, hc, ih, show (k + 1) * 2 = k * 2 + 1 + 1 by omega]
      rfl
/-- A cell of an own row is written. -/
theorem own_put {w : World} {B : Nat} {T : TypeId} {k n g c : Nat} {xs : List Value} (h : w.ownsRow B T k (.slice (some ⟨g, 0, none⟩) n c) n xs) (i : Nat) (u : Value) : (w.setCell ⟨g, i, none⟩ u).ownsRow B T k (.slice (some ⟨g, 0, none⟩) n c) n (xs.set i u) := by
  refine ⟨by rw [List.length_set, h.1], .inr ?_⟩
  rcases h.2 with ⟨e, _⟩ | ⟨g', c', cur, e, hb, hh, h1, h2, h3, h4⟩
  · cases e
  · injection e with e1 _ e3
    injection e1 with e1
    injection e1 with e1 _
    subst e1 e3
    refine ⟨g, c, cur.setIfInBounds i u, rfl, hb, heap_setF w g i _ _ _ u hh, h1, h2, by simp [h3], ?_⟩
    rw [Array.toList_setIfInBounds, List.take_set, h4]
theorem own_cells {w : World} {B : Nat} {T : TypeId} {k n g c : Nat} {xs : List Value} (h : w.ownsRow B T k (.slice (some ⟨g, 0, none⟩) n c) n xs) : g < w.heap.size ∧ B ≤ g ∧ (∃ cur, w.heap[g]? = some (.cells cur T (0, 0))) ∧ (∀ i, w.frozen? ⟨g, i, none⟩ = false) ∧ ∀ i x, xs[i]? = some x → w.cell? ⟨g, i, none⟩ = some x := by
  rcases h.2 with ⟨e, _⟩ | ⟨g', c', cur, e, hb, hh, h1, h2, h3, h4⟩
  · cases e
  · injection e with e1 _ e3
    injection e1 with e1
    injection e1 with e1 _
    subst e1 e3
    refine ⟨row_lt hh, hb, ⟨cur, hh⟩, fun i => (Cells.of_row hh).fz i, fun i x hx => ?_⟩
    rw [cell_of_row _ _ _ _ _ _ hh, ← Array.getElem?_toList]
    have hi : i < n * k := by rw [← h.1]; exact (List.getElem?_eq_some_iff.1 hx).1
    rw [← h4, List.getElem?_take_of_lt hi] at hx
    exact hx
theorem gb_fresh {a b c : World} {g q : Nat} (h : a.grownBy b (some q)) (k : b.grownBy c (some g)) (hg : a.heap.size ≤ g) : a.grownBy c (some q) :=
  ⟨k.os.trans h.os, k.tape.trans h.tape, k.output.trans h.output, Nat.le_trans h.size k.size, fun i hi hne => (k.block i (Nat.lt_of_lt_of_le hi h.size) (fun e => by injection e with e; omega)).trans (h.block i hi hne)⟩
/-- The model's files lie in a row of their own. -/
theorem MdV.files {w : World} {pm : Nat} {md : Md} {vf vn vd vp : Value} (h : MdV w pm md vf vn vd vp) {g i : Nat} {u : Value} {F : List Ent} (hg : ∃ cur, w.heap[g]? = some (.cells cur 73 (0, 0))) (hF : RowAt (w.setCell ⟨g, i, none⟩ u) 73 2 vf F.length (entC F)) : MdV (w.setCell ⟨g, i, none⟩ u) pm { md with files := F } vf vn vd vp := by
  obtain ⟨cur, hg⟩ := hg
  have hgr := grown_cells g [u] i w
  have e : w.setCells g i [u] = w.setCell ⟨g, i, none⟩ u := rfl
  rw [e] at hgr
  have ev : ∀ T, 73 ≠ T → ∀ j, (some g : Option Nat) = some j → ∃ us T' fz, w.heap[j]? = some (.cells us T' fz) ∧ T' ≠ T := fun T hT j e => by injection e with e; subst e; exact ⟨_, _, _, hg, hT⟩
  refine ⟨heap_stay h.obj hgr (fun e => ?_), hF, h.n.stay hgr (ev _ (by decide)), h.d.stay hgr (ev _ (by decide)), h.p.stay hgr (ev _ (by decide))⟩
  injection e with e
  rw [e, h.obj] at hg
  injection hg with hg
  injection hg with _ hg
  exact absurd hg (by decide)
def durM (l : List Ent) (k : Nat) : List Ent := match l[k]? with
  | some f => l.set k (f.1, f.1.size)
  | none => l
def sMe (md : Md) (name : ByteArray) : Int := if md.down then 18 else if findM md.names name < 0 then 10 else if flB md then 32 else 0
def sMs (md : Md) (name : ByteArray) : Md := if md.down then md else if findM md.names name < 0 then md else if flB md then flS md else { flS md with files := durM (flS md).files (findM md.names name).toNat }
theorem flS_keep (md : Md) : (flS md).files = md.files ∧ (flS md).names = md.names ∧ (flS md).dur = md.dur ∧ (flS md).pend = md.pend ∧ (flS md).cap = md.cap := by
  unfold flS
  split
  · exact ⟨rfl, rfl, rfl, rfl, rfl⟩
  · split <;> exact ⟨rfl, rfl, rfl, rfl, rfl⟩
end Go.Proofs.Ytbmogecnepgnaaa
