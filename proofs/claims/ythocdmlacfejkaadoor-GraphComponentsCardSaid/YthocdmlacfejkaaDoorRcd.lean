/- The reference's Condense. -/
import Derived.Test.YthocdmlacfejkaaDoorRsk
import Derived.Test.YthocdmlacfejkaaDoorCnd
namespace Go.Proofs.YthocdmlacfejkaaDoor
open Go.RowKit
def RcdPost (n K : Nat) (f : Nat → Nat) (cd : List (Nat × Nat)) (w : World) (e : Ending) (w' : World) : Prop :=
  (∃ B c g, e = .returned (.tuple #[gV K B (makeL K cd).length c, .slice (some ⟨g, 0, none⟩) n n]) ∧ EL w' B (makeL K cd).length (cast (makeL K cd)) ∧ IL w' (some ⟨g, 0, none⟩) ((List.range n).map fun v => ((f v : Nat) : Int))) ∧ Below w.heap.size w w'
set_option maxRecDepth 100000 in
set_option maxHeartbeats 8000000 in
theorem refCondense_any (n : Nat) (A : Option Addr) (m c : Nat) (es : List (Nat × Nat)) (L : List (List Nat)) (w : World) (h : EL w A m (cast es)) (hg : Fine n es) (hL : clsM n es = L) (f : Nat → Nat) (hf : ofC L L.length = f) (cd : List (Nat × Nat)) (hcdq : cdM f es = cd) (hcd : Low L.length cd) :
    Calls Tryd.prog 51 #[gV n A m c] w (RcdPost n L.length f cd w) := by
  obtain ⟨i0, hi, hz0, hz1, hz2⟩ := info_parts info_pair
  obtain ⟨j0, hj, jz0, jz1, jz2⟩ := info_parts info_int
  have hlen := h.len
  have hm : m ≤ 4096 := by have := hg.len; omega
  have hn64 := hg.n64
  have kv := ((Below.refl w.heap.size w).alloc (Nat.le_refl _) (.cells #[.int .i64 (n : Nat), .slice A m c] 35)).alloc (by simp) (.cells #[.int .i64 0, .slice none 0 0] 35)
  have HM := refComps_any n A m c es _ (h.keep kv) hg
  rw [hL] at HM
  have HM := Lib.hid HM
  have G0 := Lib.hid ((Cells.new w #[.int .i64 (n : Nat), .slice A m c] 35).keep ((Below.refl _ _).alloc (Nat.le_refl _) (.cells #[.int .i64 0, .slice none 0 0] 35)))
  have X0 := Cells.new (w.alloc (.cells #[.int .i64 (n : Nat), .slice A m c] 35)) #[.int .i64 0, .slice none 0 0] 35
  simp only [World.size_alloc] at X0
  have X0 := Lib.hid X0
  have E0 := Lib.hid (fun w' (hb' : Below w.heap.size w w') => h.keep hb')
  have Hlow := Lib.hid hg.low
  have Hin := Lib.hid (show ∀ l ∈ L, ∀ v ∈ l, v < n from fun l hl => cls_in' (by rw [hL]; exact hl))
  have hLn : L.length ≤ 64 := by have := cls_len n es; rw [hL] at this; omega
  have Hls := Lib.hid (show ∀ l ∈ L, l.length ≤ 64 from fun l hl => by
    obtain ⟨out, _, _, hol, hcl⟩ := comp_ok hg.low hg.n64
    rw [← hL, ← hcl] at hl
    obtain ⟨x, _, rfl⟩ := List.mem_map.1 hl
    exact bitsOf_len x)
  have Hcd := Lib.hid hcd
  have Hf := Lib.hid hf
  have Hcdq := Lib.hid hcdq
  have Kv := Lib.hid kv
  have Hlen := Lib.hid hlen
  clear h hg hlen hcd kv hf hcdq hL
  go_enter Tryd.func51, Tryd.ntmps51
  go_wp2_with fail
  refine HM.out.mono ?_
  rintro e w2 ⟨v, rfl, hout, hb2⟩
  obtain ⟨T, cT, rfl, hT⟩ := hout.rl
  have T2 := Lib.hid hT
  have G2 := Lib.hid (G0.out.keep hb2)
  have X2 := Lib.hid (X0.out.keep hb2)
  have B2 := Lib.hid (below_on Kv.out hb2)
  have hx2 := X2.out.lt
  clear hout hT hb2
  have g0 := G2.out.at_ 0
  have g1 := G2.out.at_ 1
  simp only [List.getElem?_cons_zero, List.getElem?_cons_succ] at g0 g1
  go_wp2_with (at_make; refine wpList_make_full _ rfl _ _ 50 rfl w2.heap.size 3 j0 (.int .i64 0) 1 Tryd.underlying50 hj jz0 jz1 _ _ _ _ n rfl rfl rfl rfl (by rw [jz2]; omega) (by unfold maxLen; omega) (Nat.le_refl _) ?_)
  intro w3 hown hgr
  have b3 := Lib.hid ((Below.refl w2.heap.size w2).grown hgr (Nat.le_refl _) (by simp))
  have I3 := Lib.hid (show Cells w3 w2.heap.size (fI n (ofC L 0)) from made_ints hown)
  clear hown hgr g0 g1
  obtain ⟨g, hg⟩ : ∃ g, w2.heap.size = g := ⟨_, rfl⟩
  rw [hg] at b3 I3 ⊢
  have Hg := Lib.hid hg
  clear hg
  go_wp2_with fail
  go_loopw [6, 7] (fun iv _ wr => ∃ i : Nat, iv = .int .i64 (i : Nat) ∧ i ≤ L.length ∧ Cells wr g (fI n (ofC L i)) ∧ Below g w2 wr) (fun iv _ _ => L.length - (intOf iv).toNat)
  case atStart => exact ⟨0, rfl, Nat.zero_le _, I3.out, b3.out⟩
  case round =>
    obtain ⟨i, rfl, hi2, hcl, hb⟩ := hrel
    have C6 := Lib.hid hcl
    have B6 := Lib.hid hb
    have Bw := Lib.hid (show Below w.heap.size w wr from B2.out.trans (hb.mono (by have := B2.out.size; have := Hg.out; omega)))
    have hgw := hcl.lt
    clear hcl hb
    obtain ⟨wa, rfl⟩ : ∃ wa : World, wa = wr := ⟨_, rfl⟩
    by_cases hlt : i < L.length
    · obtain ⟨ls, hs⟩ : ∃ s, L[i]? = some s := ⟨_, List.getElem?_eq_getElem hlt⟩
      have Hlt := Lib.hid hlt
      have Hgi := Lib.hid (show L.getD i [] = ls by rw [List.getD_eq_getElem?_getD, hs]; rfl)
      have Hmi := Lib.hid (List.mem_of_getElem? hs)
      have hll := Hls.out ls Hmi.out
      have Hs := Lib.hid hs
      have C4 := Lib.hid (show Cells wa g (fI n (ofI L i 0)) by rw [ofI_zero]; exact C6.out)
      have ii : (i : Int) < (L.length : Int) := by omega
      clear hs
      go_wp2_with fail
      clear hlt
      go_loopw [7] (fun kv wr => ∃ k : Nat, kv = .int .i64 (k : Nat) ∧ k ≤ ls.length ∧ Cells wr g (fI n (ofI L i k)) ∧ Below g w2 wr) (fun kv _ => ls.length - (intOf kv).toNat)
      case atStart => exact ⟨0, rfl, Nat.zero_le _, C4.out, B6.out⟩
      case round =>
        obtain ⟨k, rfl, hk, hcl, hb⟩ := hrel
        have C7 := Lib.hid hcl
        have B7 := Lib.hid hb
        have T7 := T2.out.keep ((Hg.out ▸ hb : Below w2.heap.size w2 wr))
        clear hcl hb
        obtain ⟨wb, rfl⟩ : ∃ wb : World, wb = wr := ⟨_, rfl⟩
        obtain ⟨b, o, As, cs, rfl, _, c0, hrow⟩ := T7 i ls Hs.out
        clear T7
        by_cases hkl : k < ls.length
        · obtain ⟨x, hx⟩ : ∃ x, ls[k]? = some x := ⟨_, List.getElem?_eq_getElem hkl⟩
          obtain ⟨b2, o2, rfl, _, _, c1⟩ := hrow.nl k x hx
          have hxn : x < n := Hin.out _ Hmi.out x (List.mem_of_getElem? hx)
          have Hkl := Lib.hid hkl
          have xi : (x : Int) < (n : Int) := by omega
          have ki : (k : Int) < (ls.length : Int) := by omega
          have z0 := (C7.out.at_ x).trans (fI_at _ hxn)
          have f0 := C7.out.fz x
          have C8 := C7.out.set x (.int .i64 (i : Nat)) (by rw [fI_len]; exact hxn)
          rw [fI_set, ofI_step (by rw [Hgi.out]; exact hx)] at C8
          have C8 := Lib.hid C8
          have B8 := Lib.hid (B7.out.setCell (p := ⟨g, x, none⟩) (Nat.le_refl _) (.int .i64 (i : Nat)))
          obtain ⟨z, hz⟩ : ∃ z, ofI L i k x = z := ⟨_, rfl⟩
          rw [hz] at z0
          clear hx hz hrow
          go_wp2_with fail
          go_roundw
          case rel => exact ⟨k + 1, by go_num, Hkl.out, C8.out, B8.out⟩
          case measure => simp [intOf]; have := Hkl.out; omega
        · have Ce := Lib.hid (show Cells wb g (fI n (ofC L (i + 1))) by rw [← ofI_end (k := k) (by rw [Hgi.out]; omega)]; exact C7.out)
          have nki : ¬ ((k : Int) < (ls.length : Int)) := by omega
          clear hrow
          go_wp2_with fail
          go_roundw
          case rel => exact ⟨i + 1, by go_num, Hlt.out, Ce.out, B7.out⟩
          case measure => simp [intOf]; have := Hlt.out; omega
    · have hio : i = L.length := by omega
      have F6 := C6.out
      rw [hio] at F6
      rw [Hf.out] at F6
      have F6 := Lib.hid F6
      have G6 := Lib.hid (G2.out.keepB B6.out (by have := Hg.out; omega))
      have X6 := Lib.hid (X2.out.keepB B6.out (by have := Hg.out; omega))
      have hnio : ¬ ((i : Int) < (L.length : Int)) := by omega
      clear hio
      go_wp2_with fail
      clear hnio hlt
      go_loopw [8, 9, 10, 11] (fun lv kv _ _ wr => ∃ k : Nat, kv = .int .i64 (k : Nat) ∧ k ≤ m ∧ wr.ownsRow wa.heap.size 55 2 lv (cdM f (es.take k)).length (flat (cast (cdM f (es.take k)))) ∧ Below wa.heap.size wa wr) (fun _ kv _ _ _ => m - (intOf kv).toNat)
      case atStart => exact ⟨0, rfl, Nat.zero_le _, World.ownsRow_nil _ _ _ _, Below.refl _ _⟩
      case round =>
        obtain ⟨k, rfl, hk, hown, hb⟩ := hrel
        have O7 := Lib.hid hown
        have D7 := Lib.hid hb
        have Bx := Lib.hid (below_on Bw.out hb)
        have hsz := hb.size
        have G7 := Lib.hid (G6.out.keep hb)
        clear hown hb
        obtain ⟨wb, rfl⟩ : ∃ wb : World, wb = wr := ⟨_, rfl⟩
        have g0 := G7.out.at_ 0
        have g1 := G7.out.at_ 1
        simp only [List.getElem?_cons_zero, List.getElem?_cons_succ] at g0 g1
        by_cases hkm : k < m
        · obtain ⟨e, b, o, he, rfl, hbl, c0, c1⟩ := (E0.out _ Bx.out).at_ hkm
          obtain ⟨x, y, hxy, rfl⟩ := cast_at he
          simp only at c0 c1
          obtain ⟨hx, hy⟩ := Hlow.out _ (List.mem_of_getElem? hxy)
          simp only at hx hy
          have Hkm := Lib.hid hkm
          have Hst := Lib.hid (cdM_step (f := f) hxy)
          have hll := cdM_len f (es.take k)
          rw [List.length_take] at hll
          have Hlb := Lib.hid (show (cdM f (es.take k)).length ≤ 5000 by omega)
          have F8 := F6.out.keep D7.out
          have p0 := (F8.at_ x).trans (fI_at _ hx)
          have p1 := (F8.at_ y).trans (fI_at _ hy)
          have xi : (x : Int) < (n : Int) := by omega
          have yi : (y : Int) < (n : Int) := by omega
          have ki : (k : Int) < (m : Int) := by omega
          obtain ⟨fx, hfx⟩ : ∃ fx, f x = fx := ⟨_, rfl⟩
          obtain ⟨fy, hfy⟩ : ∃ fy, f y = fy := ⟨_, rfl⟩
          simp only at Hst
          rw [hfx, hfy] at Hst
          rw [hfx] at p0
          rw [hfy] at p1
          clear he hxy F8 hll hfx hfy hkm
          by_cases hff : fx = fy
          · subst hff
            have tq : ((fx : Int) != (fx : Int)) = false := by simp
            rw [if_neg (by simp), List.append_nil] at Hst
            have O9 := Lib.hid (show wb.ownsRow wa.heap.size 55 2 _ (cdM f (es.take (k + 1))).length (flat (cast (cdM f (es.take (k + 1))))) by rw [Hst.out]; exact O7.out)
            go_wp2_with fail
            go_still_tail 19, (by kernel_rfl)
            change wpList _ _ _ _ _ wb.drew
            go_wp2_with fail
            go_roundw
            case rel => exact ⟨k + 1, by go_num, Hkm.out, own_drew2 O9.out, D7.out.drew⟩
            case measure => simp [intOf]; have := Hkm.out; omega
          · have tq : ((fx : Int) != (fy : Int)) = true := by simp; omega
            rw [if_pos hff] at Hst
            have O8 := Lib.hid (own_drew2 O7.out)
            have D8 := Lib.hid D7.out.drew
            have hsz8 : wa.heap.size ≤ wb.drew.heap.size := hsz
            clear hff
            go_wp2_with fail
            go_still_tail 19, (by kernel_rfl)
            change wpList _ _ _ _ _ wb.drew
            go_wp2_with (at_builtin; refine wpList_append_own_wide _ rfl (.tmp 72) (.tmp 76) 33 rfl wa.heap.size 55 i0 (.agg #[.int .i64 0, .int .i64 0]) 2 16 Tryd.underlying33 hi hz0 hz1 hz2 rfl (by decide) _ _ _ rfl (O8.out.alloc _) ⟨wb.drew.heap.size, 0, none⟩ 1 1 [.int .i64 (fx : Int), .int .i64 (fy : Int)] rfl rfl ?c1 ?c2 ?c3 ?c4 ?c5 ?_)
            case c1 =>
              intro k u hu
              match k, hu with
              | 0, hu => simp at hu; subst hu; simp [Addr.add, go_sem]
              | 1, hu => simp at hu; subst hu; simp [Addr.add, go_sem]
            case c2 => intro u hu; simp at hu; rcases hu with rfl | rfl <;> rfl
            case c3 => unfold maxLen; have := Hlb.out; omega
            case c4 => have := Hlb.out; omega
            case c5 => simp; omega
            intro v' w9 hown' hgrow _
            have D9 := Lib.hid ((D8.out.alloc hsz8 (.cells #[.int .i64 (fx : Int), .int .i64 (fy : Int)] 55)).grown hgrow (by simp; omega) (fun k hk => own_ge O8.out hk))
            have O9 := Lib.hid (show w9.ownsRow wa.heap.size 55 2 v' (cdM f (es.take (k + 1))).length (flat (cast (cdM f (es.take (k + 1))))) by
              rw [Hst.out, List.length_append, cast_snoc, flat_snoc]; exact hown')
            clear hown' hgrow
            go_wp2_with fail
            go_roundw
            case rel => exact ⟨k + 1, by go_num, Hkm.out, O9.out, D9.out⟩
            case measure => simp [intOf]; have := Hkm.out; omega
        · have hkm2 : es.take k = es := List.take_of_length_le (by rw [Hlen.out]; omega)
          have hnk : ¬ ((k : Int) < (m : Int)) := by omega
          have Of := O7.out
          rw [hkm2, Hcdq.out] at Of
          have hll := cdM_len f es
          rw [Hcdq.out] at hll
          have hcl : (cast cd).length = cd.length := cast_len _
          rw [← hcl] at Of
          obtain ⟨B, cB, hv, hE, hBb⟩ := own_pairs Of
          rw [hcl] at hv hE
          subst hv
          have HMk := Lib.hid (refMake_ok L.length B cd.length cB cd wb hE (by have := Hlen.out; omega) Hcd.out hLn)
          have F7 := Lib.hid (F6.out.keep D7.out)
          have X7 := Lib.hid (X6.out.keep D7.out)
          have hgx : g ≠ w.heap.size + 1 := by have := Hg.out; omega
          clear hkm2 Of hE hBb hcl hll
          go_wp2_with fail
          refine HMk.out.mono ?_
          rintro e w9 ⟨⟨B9, c9, rfl, hE, hBb⟩, hb9⟩
          have Bw9 := below_on Bx.out hb9
          have b10 := (Below.refl w9.heap.size w9).alloc (Nat.le_refl _) (.cells #[.int .i64 (L.length : Nat), .slice B9 (makeL L.length cd).length c9] 35)
          have hE10 := hE.keep b10
          have X10 := (X7.out.keep hb9).keep b10
          have F10 := (F7.out.keep hb9).keep b10
          have Z10 := Lib.hid (Cells.new w9 #[.int .i64 (L.length : Nat), .slice B9 (makeL L.length cd).length c9] 35)
          have Bw10 := below_on Bw9 b10
          obtain ⟨w10, hw10⟩ : ∃ u, w9.alloc (.cells #[.int .i64 (L.length : Nat), .slice B9 (makeL L.length cd).length c9] 35) = u := ⟨_, rfl⟩
          rw [hw10] at hE10 X10 F10 Z10 Bw10
          have z0 := Z10.out.at_ 0
          have z1 := Z10.out.at_ 1
          have x0 := X10.at_ 0
          have x1 := X10.at_ 1
          have f0 := X10.fz 0
          have f1 := X10.fz 1
          simp only [List.getElem?_cons_zero, List.getElem?_cons_succ] at x0 x1 z0 z1
          have X11 := Lib.hid ((X10.set 0 (.int .i64 (L.length : Nat)) (by simp)).set 1 (.slice B9 (makeL L.length cd).length c9) (by simp))
          have F11 := Lib.hid (numsN_il ((F10.other hgx 0 (.int .i64 (L.length : Nat))).other hgx 1 (.slice B9 (makeL L.length cd).length c9)))
          have B11 := Lib.hid ((Bw10.setCell (p := ⟨w.heap.size + 1, 0, none⟩) (by simp) (.int .i64 (L.length : Nat))).setCell (p := ⟨w.heap.size + 1, 1, none⟩) (by simp) (.slice B9 (makeL L.length cd).length c9))
          have E11 := Lib.hid (el_sets2 (q := w.heap.size + 1) hE10 (fun b o hb => (hBb b o hb).imp (fun h1 => by have := Hg.out; omega) (fun h1 => by rw [h1]; rfl)) (.int .i64 (L.length : Nat)) (.slice B9 (makeL L.length cd).length c9))
          clear hE hBb hb9 b10 hE10 X10 F10 Bw10 Bw9
          go_wp2_with fail
          exact bodyPost_ret (ret_refg rfl _ _ (w.heap.size + 1) _ _ rfl X11.out) rfl ⟨⟨B9, c9, g, rfl, E11.out, F11.out⟩, B11.out⟩
theorem refCondC_any (n : Nat) (A : Option Addr) (m c : Nat) (es : List (Nat × Nat)) (w : World) (h : EL w A m (cast es)) (hg : Fine n es) :
    Calls Tryd.prog 51 #[gV n A m c] w (RcdPost n (clsM n es).length (ofN n es) (cdE n es) w) :=
  refCondense_any n A m c es (clsM n es) w h hg rfl (ofN n es) rfl (cdE n es) rfl (cd_low hg.low hg.n64)
end Go.Proofs.YthocdmlacfejkaaDoor
