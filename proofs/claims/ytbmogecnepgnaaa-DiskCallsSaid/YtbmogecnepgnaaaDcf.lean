/- The model's state. -/
import Derived.Test.YtbmogecnepgnaaaDce
namespace Go.Proofs.Ytbmogecnepgnaaa
open Go.RowKit Go.Maps Go.Shelf
structure Md where
  cap : Nat
  lim : Int
  down : Bool
  files : List Ent
  names : List Ent
  dur : List Ent
  pend : List Chg
abbrev mdV (md : Md) (vf vn vd vp : Value) : Array Value := #[.int .i64 (md.cap : Nat), .int .i64 md.lim, .bool md.down, vf, vn, vd, vp]
/-- The model lies in memory. -/
structure MdV (w : World) (pm : Nat) (md : Md) (vf vn vd vp : Value) : Prop where
  obj : w.heap[pm]? = some (.cells (mdV md vf vn vd vp) 34 (0, 0))
  f : RowAt w 73 2 vf md.files.length (entC md.files)
  n : RowAt w 75 2 vn md.names.length (entC md.names)
  d : RowAt w 75 2 vd md.dur.length (entC md.dur)
  p : RowAt w 87 3 vp md.pend.length (chC md.pend)
def MdAt (w : World) (pm : Nat) (md : Md) : Prop := ∃ vf vn vd vp, MdV w pm md vf vn vd vp
section
variable {w w' : World} {pm : Nat} {md : Md} {vf vn vd vp : Value}
theorem MdV.keep (h : MdV w pm md vf vn vd vp) (hb : Below w.heap.size w w') : MdV w' pm md vf vn vd vp := ⟨row_keep h.obj hb, h.f.keep hb, h.n.keep hb, h.d.keep hb, h.p.keep hb⟩
theorem MdAt.keep (h : MdAt w pm md) (hb : Below w.heap.size w w') : MdAt w' pm md := let ⟨vf, vn, vd, vp, h⟩ := h; ⟨vf, vn, vd, vp, h.keep hb⟩
theorem MdV.fr (h : MdV w pm md vf vn vd vp) (hf : Fr (fun j => w.heap[j]?) w') : MdV w' pm md vf vn vd vp :=
  ⟨hf _ _ _ _ h.obj rfl, h.f.fr rfl hf, h.n.fr rfl hf, h.d.fr rfl hf, h.p.fr rfl hf⟩
theorem MdAt.fr (h : MdAt w pm md) (hf : Fr (fun j => w.heap[j]?) w') : MdAt w' pm md := let ⟨vf, vn, vd, vp, h⟩ := h; ⟨vf, vn, vd, vp, h.fr hf⟩
/-- Rows stay where the model's own cells turn. -/
theorem RowAt.mset {T : TypeId} {k n i : Nat} {v u : Value} {xs : List Value} {us : Array Value} {fz : Nat × Nat} (h : RowAt w T k v n xs) (ho : w.heap[pm]? = some (.cells us 34 fz)) (hT : 34 ≠ T) : RowAt (w.setCell ⟨pm, i, none⟩ u) T k v n xs := by
  have hg := grown_cells pm [u] i w
  have e : w.setCells pm i [u] = w.setCell ⟨pm, i, none⟩ u := rfl
  rw [e] at hg
  exact h.stay hg (fun j e => by injection e with e; subst e; exact ⟨_, _, _, ho, hT⟩)
theorem MdV.set (h : MdV w pm md vf vn vd vp) (i : Nat) (u : Value) {md' : Md} {vf' vn' vd' vp' : Value} (hv : (mdV md vf vn vd vp).setIfInBounds i u = mdV md' vf' vn' vd' vp')
    (hf : RowAt w 73 2 vf' md'.files.length (entC md'.files)) (hn : RowAt w 75 2 vn' md'.names.length (entC md'.names)) (hd : RowAt w 75 2 vd' md'.dur.length (entC md'.dur)) (hp : RowAt w 87 3 vp' md'.pend.length (chC md'.pend)) :
    MdV (w.setCell ⟨pm, i, none⟩ u) pm md' vf' vn' vd' vp' ∧ w.grownBy (w.setCell ⟨pm, i, none⟩ u) (some pm) := by
  have h1 := heap_setF w pm i _ _ _ u h.obj
  rw [hv] at h1
  exact ⟨⟨h1, hf.mset h.obj (by decide), hn.mset h.obj (by decide), hd.mset h.obj (by decide), hp.mset h.obj (by decide)⟩, grown_cells pm [u] i w⟩
theorem MdV.at7 (h : MdV w pm md vf vn vd vp) : w.cell? ⟨pm, 0, none⟩ = some (.int .i64 (md.cap : Nat)) ∧ w.cell? ⟨pm, 1, none⟩ = some (.int .i64 md.lim) ∧ w.cell? ⟨pm, 2, none⟩ = some (.bool md.down) ∧ w.cell? ⟨pm, 3, none⟩ = some vf ∧ w.cell? ⟨pm, 4, none⟩ = some vn ∧ w.cell? ⟨pm, 5, none⟩ = some vd ∧ w.cell? ⟨pm, 6, none⟩ = some vp := by
  have C := Cells.of_row h.obj
  exact ⟨C.at_ 0, C.at_ 1, C.at_ 2, C.at_ 3, C.at_ 4, C.at_ 5, C.at_ 6⟩
theorem MdV.fz (h : MdV w pm md vf vn vd vp) (i : Nat) : w.frozen? ⟨pm, i, none⟩ = false := (Cells.of_row h.obj).fz i
end
def flS (md : Md) : Md := if md.lim = 0 then { md with down := true } else if 0 < md.lim then { md with lim := md.lim - 1 } else md
def flB (md : Md) : Bool := decide (md.lim = 0)
set_option maxRecDepth 100000 in
set_option maxHeartbeats 8000000 in
theorem fails_any {w : World} {pm : Nat} {md : Md} (hM : MdAt w pm md) (hl : md.lim ≤ 4611686018427387904 ∧ -1 ≤ md.lim) :
    Calls Try.prog 47 #[ptrV pm] w fun e w' => e = .returned (.bool (flB md)) ∧ MdAt w' pm (flS md) ∧ w.grownBy w' (some pm) := by
  obtain ⟨vf, vn, vd, vp, h⟩ := hM
  obtain ⟨_, c1, c2, _, _, _, _⟩ := h.at7
  have y1 := h.fz 1
  have y2 := h.fz 2
  by_cases h0 : md.lim = 0
  · have hb : flB md = true := decide_eq_true h0
    have hs : flS md = { md with down := true } := by unfold flS; rw [if_pos h0]
    have hS := Lib.hid (h.set (md' := { md with down := true }) 2 (.bool true) rfl h.f h.n h.d h.p)
    rw [hb, hs]
    rw [h0] at c1
    clear hb hs h h0
    go_enter Try.func47, Try.ntmps47
    go_wp2_with fail
    go_ret
    exact ⟨rfl, ⟨_, _, _, _, hS.out.1⟩, hS.out.2⟩
  · have hb : flB md = false := decide_eq_false h0
    by_cases hp : 0 < md.lim
    · have hs : flS md = { md with lim := md.lim - 1 } := by unfold flS; rw [if_neg h0, if_pos hp]
      have hS := Lib.hid (h.set (md' := { md with lim := md.lim - 1 }) 1 (.int .i64 (md.lim - 1)) rfl h.f h.n h.d h.p)
      have e1 : IntKind.i64.wrap (md.lim - 1) = md.lim - 1 := IntWalk.i64_in _ (by omega)
      have e2 : (md.lim == 0) = false := beq_eq_false_iff_ne.2 h0
      rw [hb, hs]
      clear hb hs h
      go_enter Try.func47, Try.ntmps47
      go_wp2_with fail
      go_ret
      exact ⟨rfl, ⟨_, _, _, _, hS.out.1⟩, hS.out.2⟩
    · have hs : flS md = md := by unfold flS; rw [if_neg h0, if_neg hp]
      have HM := Lib.hid h
      have e2 : (md.lim == 0) = false := beq_eq_false_iff_ne.2 h0
      rw [hb, hs]
      clear hb hs h
      go_enter Try.func47, Try.ntmps47
      go_wp2_with fail
      go_ret
      exact ⟨rfl, ⟨_, _, _, _, HM.out⟩, World.grownBy.refl _ _⟩
def hsM (md : Md) (name : ByteArray) : Bool := !md.down && decide (0 ≤ findM md.names name)
set_option maxRecDepth 100000 in
set_option maxHeartbeats 8000000 in
theorem hasM_any {w : World} {pm : Nat} {md : Md} (hM : MdAt w pm md) (hn : md.names.length ≤ 1000) (name : ByteArray) :
    Calls Try.prog 27 #[ptrV pm, .string name] w fun e w' => e = .returned (.bool (hsM md name)) ∧ w' = w := by
  obtain ⟨vf, vn, vd, vp, h⟩ := hM
  obtain ⟨_, _, c2, _, c4, _, _⟩ := h.at7
  have HN := Lib.hid h.n
  clear h
  obtain ⟨b, hb⟩ : ∃ b, md.down = b := ⟨_, rfl⟩
  have HR := Lib.hid (show hsM md name = (!b && decide (0 ≤ findM md.names name)) by unfold hsM; rw [hb])
  rw [hb] at c2
  obtain ⟨R, hR⟩ : ∃ R, hsM md name = R := ⟨_, rfl⟩
  rw [hR] at HR ⊢
  clear hR hb
  cases b
  · go_enter Try.func27, Try.ntmps27
    go_wp2_with fail
    refine (findE_any HN.out rfl (by omega) name).mono ?_
    rintro e w2 ⟨rfl, rfl⟩
    go_wp2_with fail
    go_ret
    exact ⟨by rw [HR.out]; rfl, rfl⟩
  · go_enter Try.func27, Try.ntmps27
    go_wp2_with fail
    go_ret
    exact ⟨by rw [HR.out]; rfl, rfl⟩
/-- The bytes of all files that have a name. -/
def usM (files : List Ent) (l : List Ent) : Nat := (l.map fun e => ((files[e.2]?).map fun f => f.1.size).getD 0).sum
theorem usM_snoc (files l : List Ent) (j : Nat) (e f : Ent) (h : l[j]? = some e) (hf : files[e.2]? = some f) : usM files (l.take (j + 1)) = usM files (l.take j) + f.1.size := by
  unfold usM
  rw [List.take_add_one, h, List.map_append, List.sum_append]
  show _ + (((files[e.2]?).map fun f => f.1.size).getD 0 + 0) = _
  rw [hf]
  rfl
set_option maxRecDepth 100000 in
set_option maxHeartbeats 8000000 in
theorem usedM_any {w : World} {pm : Nat} {md : Md} (hM : MdAt w pm md) (hn : md.names.length ≤ 1000) (hi : ∀ e ∈ md.names, ∃ f : Ent, md.files[e.2]? = some f ∧ f.1.size ≤ 16777216) :
    Calls Try.prog 37 #[ptrV pm] w fun e w' => e = .returned (.int .i64 (usM md.files md.names : Nat)) ∧ Below w.heap.size w w' := by
  have HM := Lib.hid hM
  have HI := Lib.hid hi
  obtain ⟨n, hnn⟩ : ∃ n, md.names.length = n := ⟨_, rfl⟩
  have HN := Lib.hid hnn
  rw [hnn] at hn
  clear hM hi hnn
  go_enter Try.func37, Try.ntmps37
  go_wp2_with fail
  go_loopw [3, 4] (fun u i wr => ∃ j : Nat, i = .int .i64 (j : Nat) ∧ j ≤ n ∧ u = .int .i64 (usM md.files (md.names.take j) : Nat) ∧ usM md.files (md.names.take j) ≤ 16777216 * j ∧ Below w.heap.size w wr) (fun _ i _ => n - (intOf i).toNat)
  case atStart => exact ⟨0, rfl, Nat.zero_le _, rfl, Nat.zero_le _, Below.refl _ _⟩
  case round =>
    obtain ⟨j, rfl, hj, rfl, hle, hb⟩ := hrel
    have HB := Lib.hid hb
    obtain ⟨vf, vn, vd, vp, h⟩ := HM.out.keep hb
    obtain ⟨_, _, _, c3, c4, _, _⟩ := h.at7
    obtain ⟨An, cn, en, hn1, hn2, _, hnc⟩ := h.n.slice
    obtain ⟨Af, cf, ef, hf1, hf2, _, hfc⟩ := h.f.slice
    subst en ef
    rw [HN.out] at c4 hn1
    obtain ⟨U, hU⟩ : ∃ U, usM md.files (md.names.take j) = U := ⟨_, rfl⟩
    rw [hU] at hle
    have HU := Lib.hid hU
    rw [hU]
    obtain ⟨nf, hnf⟩ : ∃ n, md.files.length = n := ⟨_, rfl⟩
    have HNF := Lib.hid hnf
    rw [hnf] at c3 hf1
    clear hb h hU hnf
    by_cases hlt : j < n
    · have i1 : (j : Int) < (n : Int) := by omega
      have i2 : IntKind.i64.wrap ((j : Int) + 1) = (j : Int) + 1 := IntWalk.i64_in _ (by omega)
      obtain ⟨x, hx⟩ : ∃ x, md.names[j]? = some x := ⟨_, List.getElem?_eq_getElem (by have := HN.out; omega)⟩
      obtain ⟨f, hfx, hfs⟩ := HI.out x (List.mem_of_getElem? hx)
      have hxl : x.2 < nf := by rw [← HNF.out]; exact (List.getElem?_eq_some_iff.1 hfx).1
      obtain ⟨g, o, e, _, z1⟩ := hnc _ _ (entC_at md.names j x hx).2
      subst e
      obtain ⟨g', o', e, _, y0⟩ := hfc _ _ (entC_at md.files x.2 f hfx).1
      subst e
      rw [show o + (j * 2 + 1) = o + j * 2 + 1 by omega] at z1
      have HX := Lib.hid (usM_snoc md.files md.names j x f hx hfx)
      have hxl2 : (x.2 : Int) < (nf : Int) := by omega
      have e1 : IntKind.i64.wrap ((U : Int) + (f.1.size : Int)) = ((U + f.1.size : Nat) : Int) := by rw [show (U : Int) + (f.1.size : Int) = ((U + f.1.size : Nat) : Int) by omega]; exact IntWalk.i64_in _ (by omega)
      clear hnc hfc hx hfx
      go_wp2_with fail
      go_quiet (fail)
      go_wp2_with fail
      go_roundw
      case rel => exact ⟨j + 1, by go_num, by omega, by rw [HX.out, HU.out, Int.natCast_add], by rw [HX.out, HU.out]; omega, below_drewN HB.out _⟩
      case measure => simp [intOf]; omega
    · have i1 : ¬ (j : Int) < (n : Int) := by omega
      have hjn : j = n := by omega
      have HF := Lib.hid (show usM md.files md.names = U by rw [← HU.out, List.take_of_length_le (by have := HN.out; omega)])
      clear hnc hfc hjn
      go_wp2_with fail
      go_ret
      exact ⟨by rw [HF.out]; rfl, HB.out⟩
end Go.Proofs.Ytbmogecnepgnaaa
