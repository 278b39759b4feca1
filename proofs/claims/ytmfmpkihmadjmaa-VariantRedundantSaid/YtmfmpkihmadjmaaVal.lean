/- The reference's Family: what its walk carries. -/
import Derived.Test.YtmfmpkihmadjmaaVak
namespace Go.Proofs.Ytmfmpkihmadjmaa
open Go.RowKit Go.Shelf
/-- Literals with the place where they lie. -/
abbrev Lq := List (Nat × Bool) × Option Addr × Nat
/-- The cells of a base, and of a family on it. -/
def famC (bc : List Value) (vO vR vG vV : Value) : List Value := bc ++ [vO, vR, vG, vV]
def Z10 : Array Value := #[.string { data := #[] }, .slice none 0 0, .slice none 0 0, .slice none 0 0, .slice none 0 0, .slice none 0 0, .slice none 0 0, .slice none 0 0, .slice none 0 0, .slice none 0 0]
/-- What the walk of Family carries: the boxes of its arguments, the cell of its result, the family under way, and the rows that its slices own. -/
structure FS (w x : World) (kc bc : List Value) (vO vR vG vV : Value) (xo : List ByteArray) (qr : List Rq) (nG nV : Nat) (xg xv : List Value) (ls : List Lq) : Prop where
  kin : Cells x w.heap.size kc
  base : Cells x (w.heap.size + 1) bc
  b6 : bc.length = 6
  res : x.heap[w.heap.size + 1 + 1]? = some (.cells Z10 40 (0, 0))
  fam : Cells x (w.heap.size + 1 + 1 + 1) (famC bc vO vR vG vV)
  low : Below w.heap.size w x
  siz : w.heap.size + 1 + 1 + 1 + 1 ≤ x.heap.size
  rO : x.ownsRow (w.heap.size + 1 + 1 + 1 + 1) 9 1 vO xo.length (strs xo)
  rR : x.ownsRow (w.heap.size + 1 + 1 + 1 + 1) 76 2 vR qr.length (rflat qr)
  rG : x.ownsRow (w.heap.size + 1 + 1 + 1 + 1) 88 2 vG nG xg
  rV : x.ownsRow (w.heap.size + 1 + 1 + 1 + 1) 92 6 vV nV xv
  lits : ∀ q ∈ ls, x.ownsRow (w.heap.size + 1 + 1 + 1 + 1) 68 2 (.slice q.2.1 q.1.length q.2.2) q.1.length (litV q.1)
section
variable {w x y : World} {kc bc : List Value} {vO vR vG vV : Value} {xo : List ByteArray} {qr : List Rq} {nG nV : Nat} {xg xv : List Value} {ls : List Lq}
theorem FS.keep (h : FS w x kc bc vO vR vG vV xo qr nG nV xg xv ls) (hb : Below x.heap.size x y) : FS w y kc bc vO vR vG vV xo qr nG nV xg xv ls :=
  { kin := h.kin.keep hb, base := h.base.keep hb, b6 := h.b6, res := row_keep h.res hb, fam := h.fam.keep hb, low := h.low.trans (hb.mono h.low.size), siz := Nat.le_trans h.siz hb.size
    rO := own_keep h.rO hb, rR := own_keep h.rR hb, rG := own_keep h.rG hb, rV := own_keep h.rV hb, lits := fun q hq => own_keep (h.lits q hq) hb }
theorem FS.lit (h : FS w x kc bc vO vR vG vV xo qr nG nV xg xv ls) (hb : Below x.heap.size x y) {l : List (Nat × Bool)} {A : Option Addr} {c : Nat} (ho : y.ownsRow x.heap.size 68 2 (.slice A l.length c) l.length (litV l)) : FS w y kc bc vO vR vG vV xo qr nG nV xg xv (ls ++ [(l, A, c)]) :=
  have H : ∀ q ∈ ls ++ [(l, A, c)], y.ownsRow (w.heap.size + 1 + 1 + 1 + 1) 68 2 (.slice q.2.1 q.1.length q.2.2) q.1.length (litV q.1) := fun q hq => by
    rcases List.mem_append.1 hq with hq | hq
    · exact own_keep (h.lits q hq) hb
    · rw [List.mem_singleton.1 hq]
      exact own_down ho h.siz
  { h.keep hb with lits := H }
theorem fam_set6 (h6 : bc.length = 6) (v : Value) : (famC bc vO vR vG vV).set 6 v = famC bc v vR vG vV := by unfold famC; rw [List.set_append_right _ _ (by omega), h6]; rfl
theorem fam_set7 (h6 : bc.length = 6) (v : Value) : (famC bc vO vR vG vV).set 7 v = famC bc vO v vG vV := by unfold famC; rw [List.set_append_right _ _ (by omega), h6]; rfl
theorem fam_set8 (h6 : bc.length = 6) (v : Value) : (famC bc vO vR vG vV).set 8 v = famC bc vO vR v vV := by unfold famC; rw [List.set_append_right _ _ (by omega), h6]; rfl
theorem fam_set9 (h6 : bc.length = 6) (v : Value) : (famC bc vO vR vG vV).set 9 v = famC bc vO vR vG v := by unfold famC; rw [List.set_append_right _ _ (by omega), h6]; rfl
theorem fam_len (h6 : bc.length = 6) : (famC bc vO vR vG vV).length = 10 := by unfold famC; rw [List.length_append, h6]; rfl
theorem own_apart {B e n sz k : Nat} {v : Value} {xs : List Value} (h : x.ownsRow B e sz v n xs) (hk : k < B) : v.ownBlock ≠ some k := fun hc => by have := own_ge h hc; omega
theorem FS.appO (h : FS w x kc bc vO vR vG vV xo qr nG nV xg xv ls) (hg : x.grownBy y vO.ownBlock) {v' : Value} {s : ByteArray} (ho : y.ownsRow (w.heap.size + 1 + 1 + 1 + 1) 9 1 v' (xo ++ [s]).length (strs (xo ++ [s]))) :
    (y.cell? ⟨w.heap.size + 1 + 1 + 1, 6, none⟩ = some vO ∧ y.frozen? ⟨w.heap.size + 1 + 1 + 1, 6, none⟩ = false) ∧ FS w (y.setCell ⟨w.heap.size + 1 + 1 + 1, 6, none⟩ v') kc bc v' vR vG vV (xo ++ [s]) qr nG nV xg xv ls := by
  have hs4 := h.siz
  have C := cells_grown h.rO (p := w.heap.size + 1 + 1 + 1) (by omega) hs4 h.fam hg
  have G4 := grown_cells (w.heap.size + 1 + 1 + 1) [v'] 6 y
  have e4 : y.setCells (w.heap.size + 1 + 1 + 1) 6 [v'] = y.setCell ⟨w.heap.size + 1 + 1 + 1, 6, none⟩ v' := rfl
  rw [e4] at G4
  refine ⟨⟨?_, C.fz 6⟩, ?_⟩
  · rw [C.at_ 6]
    unfold famC
    rw [List.getElem?_append_right (by rw [h.b6]; decide), h.b6]
    rfl
  · exact {
      kin := (cells_grown h.rO (by omega) hs4 h.kin hg).grown G4 (by omega)
      base := (cells_grown h.rO (by omega) hs4 h.base hg).grown G4 (by omega)
      b6 := h.b6
      res := (G4.block _ (by have := hg.size; omega) (fun e => by injection e with e; omega)).trans ((blk_grown h.rO (by omega) hs4 hg).trans h.res)
      fam := by
        have := C.set 6 v' (by rw [fam_len h.b6]; decide)
        rwa [fam_set6 h.b6] at this
      low := (h.low.grown hg h.low.size (fun k hk => by have := own_ge h.rO hk; omega)).setCell (p := ⟨w.heap.size + 1 + 1 + 1, 6, none⟩) (by show w.heap.size ≤ w.heap.size + 1 + 1 + 1; omega) v'
      siz := Nat.le_trans (Nat.le_trans hs4 hg.size) G4.size
      rO := own_grown ho G4 (own_apart ho (by omega))
      rR := own_grown (own_other h.rO h.rR (by decide) hg) G4 (own_apart h.rR (by omega))
      rG := own_grown (own_other h.rO h.rG (by decide) hg) G4 (own_apart h.rG (by omega))
      rV := own_grown (own_other h.rO h.rV (by decide) hg) G4 (own_apart h.rV (by omega))
      lits := fun q hq => own_grown (own_other h.rO (h.lits q hq) (by decide) hg) G4 (own_apart (h.lits q hq) (by omega)) }
theorem FS.appR (h : FS w x kc bc vO vR vG vV xo qr nG nV xg xv ls) (hg : x.grownBy y vR.ownBlock) {v' : Value} {q : Rq} (ho : y.ownsRow (w.heap.size + 1 + 1 + 1 + 1) 76 2 v' (qr ++ [q]).length (rflat (qr ++ [q]))) :
    (y.cell? ⟨w.heap.size + 1 + 1 + 1, 7, none⟩ = some vR ∧ y.frozen? ⟨w.heap.size + 1 + 1 + 1, 7, none⟩ = false) ∧ FS w (y.setCell ⟨w.heap.size + 1 + 1 + 1, 7, none⟩ v') kc bc vO v' vG vV xo (qr ++ [q]) nG nV xg xv ls := by
  have hs4 := h.siz
  have C := cells_grown h.rR (p := w.heap.size + 1 + 1 + 1) (by omega) hs4 h.fam hg
  have G4 := grown_cells (w.heap.size + 1 + 1 + 1) [v'] 7 y
  have e4 : y.setCells (w.heap.size + 1 + 1 + 1) 7 [v'] = y.setCell ⟨w.heap.size + 1 + 1 + 1, 7, none⟩ v' := rfl
  rw [e4] at G4
  refine ⟨⟨?_, C.fz 7⟩, ?_⟩
  · rw [C.at_ 7]
    unfold famC
    rw [List.getElem?_append_right (by rw [h.b6]; decide), h.b6]
    rfl
  · exact {
      kin := (cells_grown h.rR (by omega) hs4 h.kin hg).grown G4 (by omega)
      base := (cells_grown h.rR (by omega) hs4 h.base hg).grown G4 (by omega)
      b6 := h.b6
      res := (G4.block _ (by have := hg.size; omega) (fun e => by injection e with e; omega)).trans ((blk_grown h.rR (by omega) hs4 hg).trans h.res)
      fam := by
        have := C.set 7 v' (by rw [fam_len h.b6]; decide)
        rwa [fam_set7 h.b6] at this
      low := (h.low.grown hg h.low.size (fun k hk => by have := own_ge h.rR hk; omega)).setCell (p := ⟨w.heap.size + 1 + 1 + 1, 7, none⟩) (by show w.heap.size ≤ w.heap.size + 1 + 1 + 1; omega) v'
      siz := Nat.le_trans (Nat.le_trans hs4 hg.size) G4.size
      rO := own_grown (own_other h.rR h.rO (by decide) hg) G4 (own_apart h.rO (by omega))
      rR := own_grown ho G4 (own_apart ho (by omega))
      rG := own_grown (own_other h.rR h.rG (by decide) hg) G4 (own_apart h.rG (by omega))
      rV := own_grown (own_other h.rR h.rV (by decide) hg) G4 (own_apart h.rV (by omega))
      lits := fun q hq => own_grown (own_other h.rR (h.lits q hq) (by decide) hg) G4 (own_apart (h.lits q hq) (by omega)) }
theorem FS.appG (h : FS w x kc bc vO vR vG vV xo qr nG nV xg xv ls) (hg : x.grownBy y vG.ownBlock) {v' : Value} {us : List Value} (ho : y.ownsRow (w.heap.size + 1 + 1 + 1 + 1) 88 2 v' (nG + 1) (xg ++ us)) :
    (y.cell? ⟨w.heap.size + 1 + 1 + 1, 8, none⟩ = some vG ∧ y.frozen? ⟨w.heap.size + 1 + 1 + 1, 8, none⟩ = false) ∧ FS w (y.setCell ⟨w.heap.size + 1 + 1 + 1, 8, none⟩ v') kc bc vO vR v' vV xo qr (nG + 1) nV (xg ++ us) xv ls := by
  have hs4 := h.siz
  have C := cells_grown h.rG (p := w.heap.size + 1 + 1 + 1) (by omega) hs4 h.fam hg
  have G4 := grown_cells (w.heap.size + 1 + 1 + 1) [v'] 8 y
  have e4 : y.setCells (w.heap.size + 1 + 1 + 1) 8 [v'] = y.setCell ⟨w.heap.size + 1 + 1 + 1, 8, none⟩ v' := rfl
  rw [e4] at G4
  refine ⟨⟨?_, C.fz 8⟩, ?_⟩
  · rw [C.at_ 8]
    unfold famC
    rw [List.getElem?_append_right (by rw [h.b6]; decide), h.b6]
    rfl
  · exact {
      kin := (cells_grown h.rG (by omega) hs4 h.kin hg).grown G4 (by omega)
      base := (cells_grown h.rG (by omega) hs4 h.base hg).grown G4 (by omega)
      b6 := h.b6
      res := (G4.block _ (by have := hg.size; omega) (fun e => by injection e with e; omega)).trans ((blk_grown h.rG (by omega) hs4 hg).trans h.res)
      fam := by
        have := C.set 8 v' (by rw [fam_len h.b6]; decide)
        rwa [fam_set8 h.b6] at this
      low := (h.low.grown hg h.low.size (fun k hk => by have := own_ge h.rG hk; omega)).setCell (p := ⟨w.heap.size + 1 + 1 + 1, 8, none⟩) (by show w.heap.size ≤ w.heap.size + 1 + 1 + 1; omega) v'
      siz := Nat.le_trans (Nat.le_trans hs4 hg.size) G4.size
      rO := own_grown (own_other h.rG h.rO (by decide) hg) G4 (own_apart h.rO (by omega))
      rR := own_grown (own_other h.rG h.rR (by decide) hg) G4 (own_apart h.rR (by omega))
      rG := own_grown ho G4 (own_apart ho (by omega))
      rV := own_grown (own_other h.rG h.rV (by decide) hg) G4 (own_apart h.rV (by omega))
      lits := fun q hq => own_grown (own_other h.rG (h.lits q hq) (by decide) hg) G4 (own_apart (h.lits q hq) (by omega)) }
theorem FS.appV (h : FS w x kc bc vO vR vG vV xo qr nG nV xg xv ls) (hg : x.grownBy y vV.ownBlock) {v' : Value} {us : List Value} (ho : y.ownsRow (w.heap.size + 1 + 1 + 1 + 1) 92 6 v' (nV + 1) (xv ++ us)) :
    (y.cell? ⟨w.heap.size + 1 + 1 + 1, 9, none⟩ = some vV ∧ y.frozen? ⟨w.heap.size + 1 + 1 + 1, 9, none⟩ = false) ∧ FS w (y.setCell ⟨w.heap.size + 1 + 1 + 1, 9, none⟩ v') kc bc vO vR vG v' xo qr nG (nV + 1) xg (xv ++ us) ls := by
  have hs4 := h.siz
  have C := cells_grown h.rV (p := w.heap.size + 1 + 1 + 1) (by omega) hs4 h.fam hg
  have G4 := grown_cells (w.heap.size + 1 + 1 + 1) [v'] 9 y
  have e4 : y.setCells (w.heap.size + 1 + 1 + 1) 9 [v'] = y.setCell ⟨w.heap.size + 1 + 1 + 1, 9, none⟩ v' := rfl
  rw [e4] at G4
  refine ⟨⟨?_, C.fz 9⟩, ?_⟩
  · rw [C.at_ 9]
    unfold famC
    rw [List.getElem?_append_right (by rw [h.b6]; decide), h.b6]
    rfl
  · exact {
      kin := (cells_grown h.rV (by omega) hs4 h.kin hg).grown G4 (by omega)
      base := (cells_grown h.rV (by omega) hs4 h.base hg).grown G4 (by omega)
      b6 := h.b6
      res := (G4.block _ (by have := hg.size; omega) (fun e => by injection e with e; omega)).trans ((blk_grown h.rV (by omega) hs4 hg).trans h.res)
      fam := by
        have := C.set 9 v' (by rw [fam_len h.b6]; decide)
        rwa [fam_set9 h.b6] at this
      low := (h.low.grown hg h.low.size (fun k hk => by have := own_ge h.rV hk; omega)).setCell (p := ⟨w.heap.size + 1 + 1 + 1, 9, none⟩) (by show w.heap.size ≤ w.heap.size + 1 + 1 + 1; omega) v'
      siz := Nat.le_trans (Nat.le_trans hs4 hg.size) G4.size
      rO := own_grown (own_other h.rV h.rO (by decide) hg) G4 (own_apart h.rO (by omega))
      rR := own_grown (own_other h.rV h.rR (by decide) hg) G4 (own_apart h.rR (by omega))
      rG := own_grown (own_other h.rV h.rG (by decide) hg) G4 (own_apart h.rG (by omega))
      rV := own_grown ho G4 (own_apart ho (by omega))
      lits := fun q hq => own_grown (own_other h.rV (h.lits q hq) (by decide) hg) G4 (own_apart (h.lits q hq) (by omega)) }
end
end Go.Proofs.Ytmfmpkihmadjmaa
