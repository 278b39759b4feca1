/- Lists of lists of nodes. -/
import Derived.Test.YthocdmlacfejkaaDoorCmp
namespace Go.Proofs.YthocdmlacfejkaaDoor
open Go.RowKit
/-- A slice of slices of nodes; all cells lie at block B or above. -/
def LL (B : Nat) (w : World) (A : Option Addr) (ls : List (List Nat)) : Prop :=
  ∀ k l, ls[k]? = some l → ∃ b o Ak ck, A = some ⟨b, o, none⟩ ∧ B ≤ b ∧ b < w.heap.size ∧ w.cell? ⟨b, o + k, none⟩ = some (.slice Ak l.length ck) ∧ NL B w Ak l
theorem LL.keep {B : Nat} {w w' : World} {A : Option Addr} {ls : List (List Nat)} (h : LL B w A ls) (hb : Below w.heap.size w w') : LL B w' A ls :=
  fun k l hk => let ⟨b, o, Ak, ck, e1, h1, hlt, hc, hn⟩ := h k l hk; ⟨b, o, Ak, ck, e1, h1, Nat.lt_of_lt_of_le hlt hb.size, (hb.cell (p := ⟨b, o + k, none⟩) hlt).trans hc, hn.keep hb⟩
theorem LL.down {B C : Nat} {w : World} {A : Option Addr} {ls : List (List Nat)} (h : LL B w A ls) (hC : C ≤ B) : LL C w A ls :=
  fun k l hk => let ⟨b, o, Ak, ck, e1, h1, hlt, hc, hn⟩ := h k l hk; ⟨b, o, Ak, ck, e1, Nat.le_trans hC h1, hlt, hc, hn.down hC⟩
theorem LL.at_ {B : Nat} {w : World} {A : Option Addr} {ls : List (List Nat)} (h : LL B w A ls) {k : Nat} (hk : k < ls.length) : ∃ l b o Ak ck, ls[k]? = some l ∧ A = some ⟨b, o, none⟩ ∧ B ≤ b ∧ b < w.heap.size ∧ w.cell? ⟨b, o + k, none⟩ = some (.slice Ak l.length ck) ∧ NL B w Ak l := by
  obtain ⟨b, o, Ak, ck, e, hb⟩ := h k ls[k] (List.getElem?_eq_getElem hk)
  exact ⟨_, b, o, Ak, ck, List.getElem?_eq_getElem hk, e, hb⟩
theorem info_ints : (Tryd.prog.info? 50).map (fun i => (i.zero, i.size, i.bytes)) = some (some (.slice none 0 0), 1, 24) := by kernel_rfl
theorem NL.put {B : Nat} {w : World} {A : Option Addr} {l : List Nat} (h : NL B w A l) {g i : Nat} {u : Value} (hg : g < B) : NL B (w.setCell ⟨g, i, none⟩ u) A l :=
  fun k n hk => let ⟨b, o, e1, h1, hlt, hc⟩ := h k n hk; ⟨b, o, e1, h1, by simpa [World.setCell] using hlt, (World.cell?_of_block (a := ⟨b, o + k, none⟩) (Below.heap_setCell w ⟨g, i, none⟩ u b (by simp; omega))).trans hc⟩
/-- The first k rows are there. -/
def LsInv (_C g : Nat) (ls : List (List Nat)) (k : Nat) (w : World) : Prop :=
  ∃ vs : List Value, vs.length = ls.length ∧ Cells w g vs ∧ ∀ j l, j < k → ls[j]? = some l → ∃ A c, vs[j]? = some (.slice A l.length c) ∧ NL (g + 1) w A l
theorem LsInv.start {C g : Nat} {ls : List (List Nat)} {w : World} (h : Cells w g (List.replicate ls.length (.slice none 0 0))) : LsInv C g ls 0 w := ⟨_, by simp, h, fun j l hj => absurd hj (Nat.not_lt_zero _)⟩
theorem LsInv.keep {C g k : Nat} {ls : List (List Nat)} {w w' : World} (h : LsInv C g ls k w) (hb : Below w.heap.size w w') : LsInv C g ls k w' :=
  let ⟨vs, h1, h2, h3⟩ := h; ⟨vs, h1, h2.keep hb, fun j l hj hl => let ⟨A, c, e, hn⟩ := h3 j l hj hl; ⟨A, c, e, hn.keep hb⟩⟩
theorem LsInv.step {C g k c : Nat} {ls : List (List Nat)} {w : World} {l : List Nat} {A : Option Addr} (h : LsInv C g ls k w) (hk : ls[k]? = some l) (hn : NL (g + 1) w A l) : LsInv C g ls (k + 1) (w.setCell ⟨g, k, none⟩ (.slice A l.length c)) := by
  obtain ⟨vs, h1, h2, h3⟩ := h
  have hlt : k < ls.length := by
    rcases Nat.lt_or_ge k ls.length with h4 | h4
    · exact h4
    · rw [List.getElem?_eq_none h4] at hk; cases hk
  refine ⟨vs.set k (.slice A l.length c), by rw [List.length_set]; exact h1, h2.set k _ (by omega), fun j l' hj hl => ?_⟩
  by_cases e : j = k
  · subst e
    rw [hk] at hl
    injection hl with hl
    subst hl
    exact ⟨A, c, by rw [List.getElem?_set_self (by omega)], hn.put (Nat.lt_succ_self g)⟩
  · obtain ⟨A', c', e1, e2⟩ := h3 j l' (by omega) hl
    exact ⟨A', c', by rw [List.getElem?_set_ne (Ne.symm e)]; exact e1, e2.put (Nat.lt_succ_self g)⟩
theorem LsInv.done {C g k : Nat} {ls : List (List Nat)} {w : World} (h : LsInv C g ls k w) (hk : ls.length ≤ k) (hg : C ≤ g) : LL C w (some ⟨g, 0, none⟩) ls := by
  obtain ⟨vs, h1, h2, h3⟩ := h
  intro j l hl
  have hlt : j < ls.length := by
    rcases Nat.lt_or_ge j ls.length with h4 | h4
    · exact h4
    · rw [List.getElem?_eq_none h4] at hl; cases hl
  obtain ⟨A, c, e, hn⟩ := h3 j l (by omega) hl
  exact ⟨g, 0, A, c, rfl, hg, h2.lt, by rw [Nat.zero_add, h2.at_ j, e], hn.down (by omega)⟩
theorem made_slices {w w1 : World} {n : Nat} (hown : w1.ownsRow w.heap.size 50 1 (.slice (some ⟨w.heap.size, 0, none⟩) n n) n (madeCells #[.slice none 0 0] n).toList) : Cells w1 w.heap.size (List.replicate n (.slice none 0 0)) := by
  rcases hown.2 with ⟨h1, _⟩ | ⟨g', cap, cur, h1, hg, hh, hnc, hcm, hcs, hx⟩
  · cases h1
  · injection h1 with h1 _ h3
    injection h1 with h1
    injection h1 with h1
    subst h1 h3
    rw [List.take_of_length_le (by rw [Array.length_toList, hcs]; exact Nat.le_refl _)] at hx
    have e : cur.toList = List.replicate n (.slice none 0 0) := by
      rw [hx]
      apply List.ext_getElem?
      intro i
      by_cases hi : i < n
      · simp [madeCells, hi, Nat.mod_one]
      · rw [List.getElem?_eq_none (by simp [madeCells]; omega), List.getElem?_eq_none (by simp; omega)]
    rw [← e]
    exact Cells.of_row hh
set_option maxRecDepth 100000 in
set_option maxHeartbeats 4000000 in
theorem lists_any (B : Nat) (A : Option Addr) (c : Nat) (l : List Nat) (w : World) (h : UL B w A l) (hl : ∀ x ∈ l, x < 18446744073709551616) (hn : l.length ≤ 1000) (hw : Good w) :
    Calls Tryd.prog 82 #[.slice A l.length c] w fun e w' => ∃ A', e = .returned (.slice A' l.length l.length) ∧ LL w.heap.size w' A' (l.map bitsOf) ∧ Below w.heap.size w w' := by
  obtain ⟨i0, hi, hz0, hz1, hz2⟩ := info_parts info_ints
  have H := Lib.hid h
  have Hl := Lib.hid hl
  have HW := Lib.hid (fun w' (h : Below w.heap.size w w') => hw.below h hw.size)
  clear h hl hw
  go_enter Tryd.func82, Tryd.ntmps82
  go_wp2_with (at_make; refine wpList_make_full _ rfl _ _ 47 rfl w.heap.size 50 i0 (.slice none 0 0) 1 Tryd.underlying47 hi hz0 hz1 _ _ _ _ l.length rfl rfl rfl rfl (by rw [hz2]; omega) (by unfold maxLen; omega) (Nat.le_refl _) ?_)
  intro w1 hown hgr
  have C1 := Lib.hid (LsInv.start (C := w.heap.size) (ls := l.map bitsOf) (by rw [List.length_map]; exact made_slices hown))
  have B1 := Lib.hid ((Below.refl w.heap.size w).grown hgr (Nat.le_refl _) (by simp))
  clear hown hgr
  go_wp2_with fail
  go_loopw [11] (fun i wr => ∃ k : Nat, i = .int .i64 (k : Nat) ∧ k ≤ l.length ∧ LsInv w.heap.size w.heap.size (l.map bitsOf) k wr ∧ Below w.heap.size w wr ∧ w.heap.size < wr.heap.size) (fun i _ => l.length - (intOf i).toNat)
  case atStart => exact ⟨0, rfl, Nat.zero_le _, C1.out, B1.out, by obtain ⟨vs, _, h2, _⟩ := C1.out; exact h2.lt⟩
  case round =>
    obtain ⟨k, rfl, hk, hinv, hb, hsz⟩ := hrel
    have Hinv := Lib.hid hinv
    have Hb := Lib.hid hb
    clear hinv hb
    by_cases hlt : k < l.length
    · obtain ⟨x, b, o, hx, rfl, _, hbl, hcell⟩ := (H.out.keep Hb.out).at_ hlt
      have Hlt := Lib.hid hlt
      have Hx := Lib.hid hx
      have HLs := Lib.hid (list_any x wr (Hl.out x (List.mem_of_getElem? hx)) (HW.out _ Hb.out))
      clear hx
      go_wp2_with fail
      refine HLs.out.mono ?_
      rintro e w2 ⟨v, rfl, hown, hb2⟩
      obtain ⟨A2, c2, rfl, hn2, _, _⟩ := own_nats hown
      have I2 := Hinv.out.keep hb2
      obtain ⟨vs, hv1, hv2, hv3⟩ := I2
      have f0 := hv2.fz k
      have z0 := hv2.at_ k
      rw [List.getElem?_eq_getElem (show k < vs.length by rw [hv1, List.length_map]; exact hlt)] at z0
      obtain ⟨u0, hu0⟩ : ∃ u, vs[k]'(by rw [hv1, List.length_map]; exact hlt) = u := ⟨_, rfl⟩
      rw [hu0] at z0
      have I3 := Lib.hid (LsInv.step (C := w.heap.size) (c := c2) ⟨vs, hv1, hv2, hv3⟩ (l := bitsOf x) (by rw [List.getElem?_map, Hx.out]; rfl) (hn2.down hsz))
      have B3 := Lib.hid ((below_on Hb.out hb2).setCell (p := ⟨w.heap.size, k, none⟩) (Nat.le_refl _) (.slice A2 (bitsOf x).length c2))
      have hs2 := hb2.size
      clear hown hb2 hn2 hv1 hv2 hv3 hu0
      go_wp2_with fail
      go_roundw
      case rel => exact ⟨k + 1, by go_num, Hlt.out, I3.out, B3.out, by simp [World.setCell]; omega⟩
      case measure => simp [intOf]; have := Hlt.out; omega
    · have Hf := Lib.hid (Hinv.out.done (by rw [List.length_map]; omega) (Nat.le_refl _))
      go_wp2_with fail
      go_ret
      exact ⟨_, rfl, Hf.out, Hb.out⟩
end Go.Proofs.YthocdmlacfejkaaDoor
