/- Rows, blocks, what stays. -/
import Derived.Laws.IdiomCopy
import Derived.Lib.AppendStr
import Derived.Lib.ConvBytes
import Derived.Laws.IdiomStrings
import Derived.Maps.OwnSet
import Derived.Maps.RangeWalk
import Derived.Test.YtbmogecnepgnaaaDa
namespace Go.Proofs.Ytbmogecnepgnaaa
open Go.RowKit
theorem own_ge {w : World} {base : Nat} {e : TypeId} {size n : Nat} {v : Value} {xs : List Value} (h : w.ownsRow base e size v n xs) {k : Nat} (hk : v.ownBlock = some k) : base ≤ k := by
  rcases h.2 with ⟨rfl, _⟩ | ⟨g, cap, cur, rfl, hg, _⟩
  · simp [Value.ownBlock] at hk
  · simp [Value.ownBlock] at hk; omega
theorem own_down {w : World} {B C : Nat} {e : TypeId} {sz : Nat} {v : Value} {n : Nat} {xs : List Value} (h : w.ownsRow B e sz v n xs) (hC : C ≤ B) : w.ownsRow C e sz v n xs :=
  ⟨h.1, h.2.imp id fun ⟨g, cap, cur, e, hg, r⟩ => ⟨g, cap, cur, e, Nat.le_trans hC hg, r⟩⟩
theorem own_row {w : World} {base : Nat} {T : TypeId} {sz n : Nat} {v : Value} {xs : List Value} (h : w.ownsRow base T sz v n xs) : ∃ A c, v = .slice A n c ∧ n ≤ c ∧ c ≤ maxLen ∧ (0 < n → ∃ g, A = some ⟨g, 0, none⟩) ∧ ∀ i u, xs[i]? = some u → ∃ g, A = some ⟨g, 0, none⟩ ∧ base ≤ g ∧ g < w.heap.size ∧ w.cell? ⟨g, i, none⟩ = some u := by
  rcases h.2 with ⟨rfl, h0⟩ | ⟨g, cap, cur, rfl, hg, hh, hnc, hcm, hcs, hx⟩
  · subst h0
    refine ⟨none, 0, rfl, Nat.le_refl _, by unfold maxLen; omega, fun h => absurd h (Nat.lt_irrefl _), fun i u hu => ?_⟩
    have := h.1
    have hl : xs = [] := List.eq_nil_of_length_eq_zero (by omega)
    rw [hl] at hu; cases hu
  · refine ⟨_, cap, rfl, hnc, hcm, fun _ => ⟨g, rfl⟩, fun i u hu => ⟨g, rfl, hg, ?_, ?_⟩⟩
    · rcases Nat.lt_or_ge g w.heap.size with h1 | h1
      · exact h1
      · rw [Array.getElem?_eq_none h1] at hh; cases hh
    · rw [cell_of_row _ _ _ _ _ _ hh]
      rw [← hx] at hu
      have hi : i < (cur.toList.take (n * sz)).length := by
        rcases Nat.lt_or_ge i (cur.toList.take (n * sz)).length with h1 | h1
        · exact h1
        · rw [List.getElem?_eq_none h1] at hu; cases hu
      rw [List.length_take] at hi
      rw [List.getElem?_take_of_lt (by omega)] at hu
      simpa using hu
theorem own_keep {w w' : World} {B : Nat} {e : TypeId} {sz : Nat} {v : Value} {n : Nat} {xs : List Value} (h : w.ownsRow B e sz v n xs) (hb : Below w.heap.size w w') : w'.ownsRow B e sz v n xs := by
  refine ⟨h.1, ?_⟩
  rcases h.2 with h0 | ⟨g, cap, cur, hv, hg, hh, hr⟩
  · exact .inl h0
  · have hlt : g < w.heap.size := by
      rcases Nat.lt_or_ge g w.heap.size with h1 | h1
      · exact h1
      · rw [Array.getElem?_eq_none h1] at hh; cases hh
    exact .inr ⟨g, cap, cur, hv, hg, (hb.block g hlt).trans hh, hr⟩
theorem own_lt' {w : World} {B n sz : Nat} {e : TypeId} {v : Value} {xs : List Value} (h : w.ownsRow B e sz v n xs) {k : Nat} (hk : v.ownBlock = some k) : k < w.heap.size := by
  rcases h.2 with ⟨rfl, _⟩ | ⟨g, cap, cur, rfl, _, hh, _⟩
  · simp [Value.ownBlock] at hk
  · simp [Value.ownBlock] at hk
    subst hk
    rcases Nat.lt_or_ge g w.heap.size with h1 | h1
    · exact h1
    · rw [Array.getElem?_eq_none h1] at hh; cases hh
theorem own_grown {w w' : World} {B : Nat} {e : TypeId} {sz : Nat} {v : Value} {n : Nat} {xs : List Value} (h : w.ownsRow B e sz v n xs) {k : Nat} (hb : w.grownBy w' (some k)) (hk : v.ownBlock ≠ some k) : w'.ownsRow B e sz v n xs := by
  refine ⟨h.1, ?_⟩
  rcases h.2 with h0 | ⟨g, cap, cur, hv, hg, hh, hr⟩
  · exact .inl h0
  · have hlt : g < w.heap.size := by
      rcases Nat.lt_or_ge g w.heap.size with h1 | h1
      · exact h1
      · rw [Array.getElem?_eq_none h1] at hh; cases hh
    exact .inr ⟨g, cap, cur, hv, hg, (hb.block g hlt (fun e => hk (by rw [hv]; exact e))).trans hh, hr⟩
theorem own_stay {x y : World} {B n sz : Nat} {e : TypeId} {v : Value} {xs : List Value} {row : Option Nat} (h : x.ownsRow B e sz v n xs) (hg : x.grownBy y row) (hne : ∀ k, v.ownBlock = some k → some k ≠ row) : y.ownsRow B e sz v n xs := by
  refine ⟨h.1, ?_⟩
  rcases h.2 with h0 | ⟨g, cap, cur, rfl, hB, hh, hr⟩
  · exact .inl h0
  · have hlt : g < x.heap.size := own_lt' h rfl
    exact .inr ⟨g, cap, cur, rfl, hB, (hg.block g hlt (hne g rfl)).trans hh, hr⟩
theorem size_cells (g : Nat) : ∀ (vs : List Value) (o : Nat) (w : World), (w.setCells g o vs).heap.size = w.heap.size
  | [], _, _ => rfl
  | v :: vs, o, w => by rw [World.setCells, size_cells g vs (o + 1)]; simp [World.setCell]
theorem grown_cells (g : Nat) : ∀ (vs : List Value) (o : Nat) (w : World), w.grownBy (w.setCells g o vs) (some g)
  | [], _, w => World.grownBy.refl w _
  | v :: vs, o, w => by
    rw [World.setCells]
    have h := grown_cells g vs (o + 1) (w.setCell ⟨g, o, none⟩ v)
    exact ⟨h.os.trans rfl, h.tape.trans rfl, h.output.trans rfl, Nat.le_trans (by simp [World.setCell]) h.size, fun k hk hne => (h.block k (by simpa [World.setCell] using hk) hne).trans (Below.heap_setCell w ⟨g, o, none⟩ v k (fun e => hne (by rw [e])))⟩
theorem grown_trans {a b c : World} {g : Nat} (h : a.grownBy b (some g)) (k : b.grownBy c (some g)) : a.grownBy c (some g) :=
  ⟨k.os.trans h.os, k.tape.trans h.tape, k.output.trans h.output, Nat.le_trans h.size k.size, fun i hi hne => (k.block i (Nat.lt_of_lt_of_le hi h.size) hne).trans (h.block i hi hne)⟩
theorem grown_drew (w : World) (r : Option Nat) : w.grownBy w.drew r := ⟨rfl, rfl, rfl, Nat.le_refl _, fun _ _ _ => rfl⟩
def putL (old : Array Value) (o : Nat) : List Value → Array Value
  | [] => old
  | v :: vs => putL (old.setIfInBounds o v) (o + 1) vs
theorem row_setCells (g : Nat) (T : TypeId) : ∀ (vs : List Value) (o : Nat) (w : World) (old : Array Value), w.heap[g]? = some (.cells old T (0, 0)) → (w.setCells g o vs).heap[g]? = some (.cells (putL old o vs) T (0, 0))
  | [], _, _, _, h => h
  | v :: vs, o, w, old, h => by
    rw [World.setCells]
    exact row_setCells g T vs (o + 1) _ _ (heap_setCell_same w g o old T v h)
theorem row_lt {w : World} {g : Nat} {o : Obj} (h : w.heap[g]? = some o) : g < w.heap.size := by
  rcases Nat.lt_or_ge g w.heap.size with h1 | h1
  · exact h1
  · rw [Array.getElem?_eq_none h1] at h; cases h
theorem row_keep {w w' : World} {g : Nat} {o : Obj} (h : w.heap[g]? = some o) (hb : Below w.heap.size w w') : w'.heap[g]? = some o := by
  have hk : g < w.heap.size := by
    rcases Nat.lt_or_ge g w.heap.size with h1 | h1
    · exact h1
    · rw [Array.getElem?_eq_none h1] at h; cases h
  exact (hb.block g hk).trans h
theorem blk_grown {B0 p sz n : Nat} {T : TypeId} {x y : World} {v : Value} {xs : List Value} (ho : x.ownsRow B0 T sz v n xs) (hp : p < B0) (hs : B0 ≤ x.heap.size) (hg : x.grownBy y v.ownBlock) : y.heap[p]? = x.heap[p]? :=
  hg.block p (Nat.lt_of_lt_of_le hp hs) (fun e => by have := own_ge ho e.symm; omega)
theorem cells_grown {B0 p sz n : Nat} {T : TypeId} {x y : World} {v : Value} {xs vs : List Value} (ho : x.ownsRow B0 T sz v n xs) (hp : p < B0) (hs : B0 ≤ x.heap.size) (hc : Cells x p vs) (hg : x.grownBy y v.ownBlock) : Cells y p vs := by
  have e := blk_grown ho hp hs hg
  exact ⟨fun i => (World.cell?_of_block (a := ⟨p, i, none⟩) e).trans (hc.at_ i), fun i => (World.frozen?_of_block (a := ⟨p, i, none⟩) e).trans (hc.fz i), Nat.lt_of_lt_of_le hc.lt hg.size⟩
theorem cells_apart {x y : World} {p : Nat} {vs : List Value} {row : Option Nat} (h : Cells x p vs) (hg : x.grownBy y row) (hne : row ≠ some p) : Cells y p vs := by
  have hb := hg.block p h.lt (fun e => hne e.symm)
  exact ⟨fun i => (World.cell?_of_block (a := ⟨p, i, none⟩) hb).trans (h.at_ i), fun i => (World.frozen?_of_block (a := ⟨p, i, none⟩) hb).trans (h.fz i), Nat.lt_of_lt_of_le h.lt hg.size⟩
theorem Cells.grown {w w' : World} {p b : Nat} {vs : List Value} (h : Cells w p vs) (hg : w.grownBy w' (some b)) (hne : p ≠ b) : Cells w' p vs := by
  have hb := hg.block p h.lt (fun e => hne (by injection e))
  exact ⟨fun i => (World.cell?_of_block (a := ⟨p, i, none⟩) hb).trans (h.at_ i), fun i => (World.frozen?_of_block (a := ⟨p, i, none⟩) hb).trans (h.fz i), Nat.lt_of_lt_of_le h.lt hg.size⟩
theorem own_apart {x : World} {B e n sz k : Nat} {v : Value} {xs : List Value} (h : x.ownsRow B e sz v n xs) (hk : k < B) : v.ownBlock ≠ some k := fun hc => by have := own_ge h hc; omega
theorem grown_of {W W' : World} (h : Below W.heap.size W W') : W.grownBy W' none := ⟨h.os, h.tape, h.output, h.size, fun k hk _ => h.block k hk⟩
theorem heap_setF (w : World) (g o : Nat) (cur : Array Value) (t : TypeId) (fz : Nat × Nat) (v : Value) (h : w.heap[g]? = some (.cells cur t fz)) : (w.setCell ⟨g, o, none⟩ v).heap[g]? = some (.cells (cur.setIfInBounds o v) t fz) := by
  rw [setCell_eq_setRow w g o cur t fz v h]
  exact setRow_heap w g cur _ t _ h
theorem row_setF (g : Nat) (T : TypeId) (fz : Nat × Nat) : ∀ (vs : List Value) (o : Nat) (w : World) (old : Array Value), w.heap[g]? = some (.cells old T fz) → (w.setCells g o vs).heap[g]? = some (.cells (putL old o vs) T fz)
  | [], _, _, _, h => h
  | v :: vs, o, w, old, h => by
    rw [World.setCells]
    exact row_setF g T fz vs (o + 1) _ _ (heap_setF w g o old T fz v h)
theorem putL_size : ∀ (vs : List Value) (o : Nat) (old : Array Value), (putL old o vs).size = old.size
  | [], _, _ => rfl
  | v :: vs, o, old => by rw [putL, putL_size vs]; simp
theorem putL_list : ∀ (vs : List Value) (o : Nat) (old : Array Value), o + vs.length ≤ old.size → (putL old o vs).toList = old.toList.take o ++ vs ++ old.toList.drop (o + vs.length)
  | [], o, old, _ => by simp [putL]
  | v :: vs, o, old, h => by
    have h' : o + 1 + vs.length ≤ old.size := by simp at h; omega
    rw [putL, putL_list vs (o + 1) _ (by simpa using h')]
    refine List.ext_getElem? fun j => ?_
    simp only [Array.toList_setIfInBounds, List.length_cons]
    have hol : o < old.toList.length := by simp; omega
    have hvl : (v :: vs).length = vs.length + 1 := rfl
    rcases Nat.lt_trichotomy j o with h1 | h1 | h1
    · rw [List.append_assoc, List.append_assoc, List.getElem?_append_left (by rw [List.length_take, List.length_set]; omega), List.getElem?_append_left (by rw [List.length_take]; omega), List.getElem?_take_of_lt (by omega), List.getElem?_take_of_lt h1, List.getElem?_set_ne (by omega)]
    · subst h1
      rw [List.append_assoc, List.append_assoc, List.getElem?_append_left (by rw [List.length_take, List.length_set]; omega), List.getElem?_append_right (by rw [List.length_take]; omega), List.getElem?_take_of_lt (by omega), List.getElem?_set_self hol, List.length_take, Nat.min_eq_left (by omega), Nat.sub_self]
      rfl
    · have eL : ((old.toList.set o v).take (o + 1)).length = o + 1 := by rw [List.length_take, List.length_set]; omega
      have eR : (old.toList.take o).length = o := by rw [List.length_take]; omega
      rw [List.append_assoc, List.append_assoc, List.getElem?_append_right (l₁ := (old.toList.set o v).take (o + 1)) (by rw [eL]; omega), List.getElem?_append_right (l₁ := old.toList.take o) (by rw [eR]; omega), eL, eR]
      rw [show j - o = (j - (o + 1)) + 1 by omega, List.cons_append, List.getElem?_cons_succ]
      rcases Nat.lt_or_ge (j - (o + 1)) vs.length with h2 | h2
      · rw [List.getElem?_append_left h2, List.getElem?_append_left h2]
      · rw [List.getElem?_append_right h2, List.getElem?_append_right h2, List.getElem?_drop, List.getElem?_drop, List.getElem?_set_ne (by omega)]
        congr 1
        omega
/-- The block of a row that a slice owns. -/
theorem own_obj {w : World} {B n sz : Nat} {e : TypeId} {v : Value} {xs : List Value} (h : w.ownsRow B e sz v n xs) {k : Nat} (hk : v.ownBlock = some k) : ∃ cur, w.heap[k]? = some (.cells cur e (0, 0)) := by
  rcases h.2 with ⟨rfl, _⟩ | ⟨g, cap, cur, rfl, _, hh, _⟩
  · simp [Value.ownBlock] at hk
  · simp [Value.ownBlock] at hk
    subst hk
    exact ⟨cur, hh⟩
theorem heap_stay {w w' : World} {a : Nat} {o : Obj} {k : Option Nat} (h : w.heap[a]? = some o) (hg : w.grownBy w' k) (hne : k ≠ some a) : w'.heap[a]? = some o :=
  (hg.block a (row_lt h) (fun e => hne e.symm)).trans h
end Go.Proofs.Ytbmogecnepgnaaa
