/- The lists of what each node reaches. -/
import Derived.Test.YthocdmlacfejkaaDoorClu
import Derived.Test.YthocdmlacfejkaaDoorPth
namespace Go.Proofs.YthocdmlacfejkaaDoor
open Go.RowKit
theorem closM_len (es : List (Nat × Nat)) (n : Nat) : (closM es n).length = n := by unfold closM; simp
theorem closM_lt {es : List (Nat × Nat)} {n : Nat} (hl : Low 64 es) (hn : n ≤ 64) : ∀ x ∈ closM es n, x < 18446744073709551616 := fun x hx => by
  unfold closM at hx
  obtain ⟨i, hi, rfl⟩ := List.mem_map.1 hx
  have hi64 : i < 64 := by have := List.mem_range.1 hi; omega
  exact under_lt (lev_under (fun i => adj_under hl i) (lt_under (k := 64) (sing_lt hi64)) 64)
theorem UL.other {B : Nat} {w : World} {A : Option Addr} {l : List Nat} (h : UL B w A l) {q : Nat} (hq : q < B) (i : Nat) (u : Value) : UL B (w.setCell ⟨q, i, none⟩ u) A l := fun k n hk => by
  obtain ⟨b, o, e, h1, h2, h3⟩ := h k n hk
  exact ⟨b, o, e, h1, by simpa [World.setCell] using h2, (World.cell?_of_block (Below.heap_setCell w ⟨q, i, none⟩ u b (by simp; omega))).trans h3⟩
set_option maxRecDepth 100000 in
set_option maxHeartbeats 8000000 in
theorem closureG_any (n : Nat) (A : Option Addr) (m c : Nat) (es : List (Nat × Nat)) (w : World) (h : EL w A m (cast es)) (hg : Fine n es) (hw : Good w) :
    Calls Tryd.prog 27 #[gV n A m c] w fun e w' => ∃ A', e = .returned (.tuple #[.slice A' n n, .int .i64 0]) ∧ LL w.heap.size w' A' ((closM es n).map bitsOf) ∧ Below w.heap.size w w' := by
  obtain ⟨i0, hi, hz0, hz1, hz2⟩ := info_parts info_ints
  have hlen := h.len
  have hm : m ≤ 4096 := by have := hg.len; omega
  have hn64 := hg.n64
  have kv := (Below.refl w.heap.size w).alloc (Nat.le_refl _) (.cells #[.int .i64 (n : Nat), .slice A m c] 26)
  have G0 := Lib.hid (Cells.new w #[.int .i64 (n : Nat), .slice A m c] 26)
  have HC := check_any (n : Int) A m c (cast es) (w.alloc (.cells #[.int .i64 (n : Nat), .slice A m c] 26)) (h.keep kv) (by omega)
  rw [hg.check] at HC
  have HC := Lib.hid HC
  have HG := Lib.hid (fun w' (hb' : Below w.heap.size w w') => hw.below hb' hw.size)
  have HK := Lib.hid (fun w' (hb' : Below w.heap.size w w') => closure_any n A m c es w' (h.keep hb') hg.low64 hm hn64 (hw.below hb' hw.size))
  have Hlt := Lib.hid (closM_lt hg.low64 hn64)
  have kv := Lib.hid kv
  have hcl := closM_len es n
  obtain ⟨l, hl⟩ : ∃ l, closM es n = l := ⟨_, rfl⟩
  rw [hl] at HK Hlt hcl ⊢
  clear h hg hw hlen hl
  go_enter Tryd.func27, Tryd.ntmps27
  go_wp2_with fail
  refine HC.out.mono ?_
  rintro e w1 ⟨rfl, hb1⟩
  have G1 := Lib.hid (G0.out.keep hb1)
  have B1 := Lib.hid (below_on kv.out hb1)
  have g0 := G1.out.at_ 0
  have g1 := G1.out.at_ 1
  simp only [List.getElem?_cons_zero, List.getElem?_cons_succ] at g0 g1
  have hsz := B1.out.size
  clear hb1
  go_wp2_with (at_make; refine wpList_make_full _ rfl _ _ 47 rfl w1.heap.size 50 i0 (.slice none 0 0) 1 Tryd.underlying47 hi hz0 hz1 _ _ _ _ n rfl rfl rfl rfl (by rw [hz2]; omega) (by unfold maxLen; omega) (Nat.le_refl _) ?_)
  intro w2 hown hgr
  have b2 := (Below.refl w1.heap.size w1).grown hgr (Nat.le_refl _) (by simp)
  have C2 := Lib.hid (LsInv.start (C := w1.heap.size) (ls := l.map bitsOf) (by rw [List.length_map, hcl]; exact made_slices hown))
  have G2 := Lib.hid (G1.out.keep b2)
  have B2 := Lib.hid (below_on B1.out b2)
  have hg2 : w1.heap.size < w2.heap.size := by obtain ⟨vs, _, h2, _⟩ := C2.out; exact h2.lt
  clear hown hgr b2 g0 g1
  have g0 := G2.out.at_ 0
  have g1 := G2.out.at_ 1
  simp only [List.getElem?_cons_zero, List.getElem?_cons_succ] at g0 g1
  go_wp2_with fail
  refine (HK.out _ B2.out).mono ?_
  rintro e w3 ⟨A3, rfl, hU, hb3⟩
  have U3 := Lib.hid hU
  have B3 := Lib.hid (below_on B2.out hb3)
  have C3 := Lib.hid (C2.out.keep hb3)
  have hg3 : w1.heap.size < w3.heap.size := Nat.lt_of_lt_of_le hg2 hb3.size
  clear hU hb3 g0 g1
  go_wp2_with fail
  go_loopw [19] (fun i wr => ∃ k : Nat, i = .int .i64 (k : Nat) ∧ k ≤ n ∧ LsInv w1.heap.size w1.heap.size (l.map bitsOf) k wr ∧ UL w2.heap.size wr A3 l ∧ Below w.heap.size w wr ∧ w1.heap.size < wr.heap.size) (fun i _ => n - (intOf i).toNat)
  case atStart => exact ⟨0, rfl, Nat.zero_le _, C3.out, U3.out, B3.out, hg3⟩
  case round =>
    obtain ⟨k, rfl, hk, hinv, hu, hb, hszr⟩ := hrel
    have Hinv := Lib.hid hinv
    have Hb := Lib.hid hb
    have Hu := Lib.hid hu
    clear hinv hb hu
    obtain ⟨wa, rfl⟩ : ∃ wa : World, wa = wr := ⟨_, rfl⟩
    by_cases hlt : k < n
    · obtain ⟨x, b, o, hx, rfl, _, hbl, hcell⟩ := Hu.out.at_ (k := k) (by omega)
      have Hlk := Lib.hid hlt
      have Hx := Lib.hid hx
      have HLs := Lib.hid (list_any x wa (Hlt.out x (List.mem_of_getElem? hx)) (HG.out _ Hb.out))
      clear hx
      go_wp2_with fail
      refine HLs.out.mono ?_
      rintro e w4 ⟨v, rfl, hown, hb4⟩
      obtain ⟨A4, c4, rfl, hn4, _, _⟩ := own_nats hown
      have I2 := Hinv.out.keep hb4
      obtain ⟨vs, hv1, hv2, hv3⟩ := I2
      have f0 := hv2.fz k
      have z0 := hv2.at_ k
      have hkv : k < vs.length := by rw [hv1, List.length_map]; omega
      rw [List.getElem?_eq_getElem hkv] at z0
      obtain ⟨u0, hu0⟩ : ∃ u, vs[k]'hkv = u := ⟨_, rfl⟩
      rw [hu0] at z0
      have I3 := Lib.hid (LsInv.step (C := w1.heap.size) (c := c4) ⟨vs, hv1, hv2, hv3⟩ (l := bitsOf x) (by rw [List.getElem?_map, Hx.out]; rfl) (hn4.down (by omega)))
      have B5 := Lib.hid ((below_on Hb.out hb4).setCell (p := ⟨w1.heap.size, k, none⟩) hsz (.slice A4 (bitsOf x).length c4))
      have U5 := Lib.hid ((Hu.out.keep hb4).other hg2 k (.slice A4 (bitsOf x).length c4))
      have hs4 := hb4.size
      clear hown hb4 hn4 hv1 hv2 hv3 hu0
      go_wp2_with fail
      go_roundw
      case rel => exact ⟨k + 1, by go_num, Hlk.out, I3.out, U5.out, B5.out, by simp [World.setCell]; omega⟩
      case measure => simp [intOf]; have := Hlk.out; omega
    · have Hf := Lib.hid ((Hinv.out.done (by rw [List.length_map]; omega) (Nat.le_refl _)).down hsz)
      go_wp2_with fail
      go_ret2
      exact ⟨_, rfl, Hf.out, Hb.out⟩
end Go.Proofs.YthocdmlacfejkaaDoor
