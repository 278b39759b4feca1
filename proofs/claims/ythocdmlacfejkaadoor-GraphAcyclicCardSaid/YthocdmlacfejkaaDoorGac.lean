/- The law GraphAcyclic. -/
import Derived.Test.YthocdmlacfejkaaDoorMI
import Derived.Test.YthocdmlacfejkaaDoorGrh
import Derived.Test.YthocdmlacfejkaaDoorGor
import Derived.Test.YthocdmlacfejkaaDoorCnd
import Derived.Test.YthocdmlacfejkaaDoorAcn
import Derived.Test.YthocdmlacfejkaaDoorAcf
namespace Go.Proofs.YthocdmlacfejkaaDoor
open Go.RowKit
theorem CylPost.two {es : List (Nat × Nat)} {n : Nat} {w w' : World} {e : Ending} (h : CylPost es n w e w') (hE : cylE es n = 0) : (∃ g c, e = .returned (.tuple #[.slice (some ⟨g, 0, none⟩) (cylL es n).length c, .int .i64 0]) ∧ NL w.heap.size w' (some ⟨g, 0, none⟩) (cylL es n) ∧ (cylL es n).length ≤ c) ∧ Below w.heap.size w w' := by
  obtain ⟨h1, h2⟩ := h
  refine ⟨?_, h2⟩
  rcases h1 with ⟨h0, rfl⟩ | ⟨l, g, c, h0, rfl, hn⟩
  · unfold cylE at hE; rw [h0] at hE; cases hE
  · unfold cylL; rw [h0]; exact ⟨g, c, rfl, hn⟩
set_option maxRecDepth 100000 in
set_option maxHeartbeats 8000000 in
theorem gac_any (n : Int) (A : Option Addr) (m c : Nat) (es : List (Int × Int)) (w : World) (h : EL w A m es) (hw : Good w) :
    Calls Tryd.prog 13 #[gV n A m c] w fun e w' => e = .returned (.bool true) ∧ Below w.heap.size w w' := by
  have kv := (Below.refl w.heap.size w).alloc (Nat.le_refl _) (.cells #[.int .i64 n, .slice A m c] 26)
  have HG := Lib.hid (fun w' (hb : Below w.heap.size w w') => hw.below hb hw.size)
  have HK := Lib.hid (fun w' (hb : Below w.heap.size w w') => known_any w' (hw.below hb hw.size))
  have HE := Lib.hid (fun w' (hb : Below w.heap.size w w') => h.keep hb)
  have G0 := Lib.hid (Cells.new w #[.int .i64 n, .slice A m c] 26)
  have HF := Lib.hid (fun w' (hb : Below w.heap.size w w') => fine_any n A m c es w' (h.keep hb))
  have hml := h.1
  obtain ⟨fb, hfb⟩ : ∃ fb, fineG n m es = fb := ⟨_, rfl⟩
  rw [hfb] at HF
  have B0 := Lib.hid kv
  clear h hw kv
  go_enter Tryd.func13, Tryd.ntmps13
  go_wp2_with fail
  refine (HK.out _ B0.out).mono ?_
  rintro e w1 ⟨rfl, hb1⟩
  have G1 := Lib.hid (G0.out.keep hb1)
  have B1 := Lib.hid (below_on B0.out hb1)
  have g0 := G1.out.at_ 0
  have g1 := G1.out.at_ 1
  simp only [List.getElem?_cons_zero, List.getElem?_cons_succ] at g0 g1
  clear hb1
  go_wp2_with fail
  refine (HF.out _ B1.out).mono ?_
  rintro e w2 ⟨rfl, hb2⟩
  have G2 := Lib.hid (G1.out.keep hb2)
  have B2 := Lib.hid (below_on B1.out hb2)
  clear hb2 g0 g1
  cases fb with
  | false =>
    clear hfb
    go_wp2_with fail
    refine (HK.out _ B2.out).mono ?_
    rintro e w3 ⟨rfl, hb3⟩
    have B3 := Lib.hid (below_on B2.out hb3)
    clear hb3
    go_wp2_with fail
    go_ret
    exact ⟨rfl, B3.out⟩
  | true =>
    obtain ⟨k, l, rfl, rfl, hf, hk8, hm24⟩ := fine_split hfb
    have Hf := Lib.hid hf
    have hM2 := Lib.hid (show m ≤ 100000 by omega)
    clear hfb
    have HPa := fun P d w' (h : EL w' P m (cast l)) => order_any k P m d l w' h hf
    have HPb := fun P d w' (h : EL w' P m (cast l)) (hb : Below w.heap.size w w') => (cycle_any k P m d l w' h hf (HG.out _ hb)).mono fun e w2 h => h.one
    have HPb2 := fun (he : cylE l k = 0) P d w' (h : EL w' P m (cast l)) (hb : Below w.heap.size w w') => (cycle_any k P m d l w' h hf (HG.out _ hb)).mono fun e w2 h => h.two he
    have HCg := fun P d w' (hE : EL w' P m (cast l)) (hb : Below w.heap.size w w') => condC_any k P m d l w' hE Hf.out (HG.out _ hb)
    have hcd := cd_ord hf.low hf.n64
    have hoc := ord_cyc hf.low hf.n64
    unfold OrdPost at HPa
    unfold CycQ at HPb
    unfold CndPost at HCg
    obtain ⟨K, hK⟩ : ∃ K, (clsM k l).length = K := ⟨_, rfl⟩
    rw [hK] at HCg hcd
    obtain ⟨ML, hML⟩ : ∃ ML, makeL K (cdE k l) = ML := ⟨_, rfl⟩
    rw [hML] at HCg hcd
    obtain ⟨hFc, hoc0⟩ := hcd
    have HPc := fun P d w' (h : EL w' P ML.length (cast ML)) => order_any K P ML.length d ML w' h hFc
    unfold OrdPost at HPc
    rw [hoc0] at HPc
    obtain ⟨OC, hOC⟩ : ∃ OC, ordLs ML K = OC := ⟨_, rfl⟩
    rw [hOC] at HPc
    obtain ⟨oz, hoz⟩ : ∃ oz, ((List.range k).map fun v => ((ofN k l v : Nat) : Int)) = oz := ⟨_, rfl⟩
    rw [hoz] at HCg
    obtain ⟨L1, hL1⟩ : ∃ L1, ordLs l k = L1 := ⟨_, rfl⟩
    obtain ⟨L2, hL2⟩ : ∃ L2, cylL l k = L2 := ⟨_, rfl⟩
    obtain ⟨e1, he1⟩ : ∃ e1, ordC l k = e1 := ⟨_, rfl⟩
    obtain ⟨e2, he2⟩ : ∃ e2, cylE l k = e2 := ⟨_, rfl⟩
    have hl1 := ordLs_len l k
    have hl2 := cylL_len l k
    have hlow := hf.low
    have hn64 := hf.n64
    rw [hL1, he1] at HPa hoc
    rw [hL2, he2] at HPb hoc
    rw [hL2, he2] at HPb2
    rw [hL1] at hl1
    rw [hL2] at hl2
    have HPc := Lib.hid HPc
    have HCg := Lib.hid HCg
    clear hK hML hFc hoc0 hOC hoz hL1 hL2 he1 he2 hf
    rcases hoc with ⟨L, h1, h2, h3, hlen, hnd, hin0, hfwd⟩ | ⟨L, h1, h2, h3, hpos, hcy⟩
    · subst h3
      rw [h1] at HPa
      rw [h2] at HPb
      have hin : ∀ v, v < k → v ∈ L1 := fun v hv => full_of hnd hin0 hlen hv
      clear h1 h2 hnd hin0 HPb2
      rw [hlen] at HPa
      have Hlen := Lib.hid hlen
      clear hlen
      have HPa := Lib.hid HPa
      have HPb := Lib.hid HPb
      have Hnd := Lib.hid hfwd
      have Hin := Lib.hid hin
      have g0 := G2.out.at_ 0
      have g1 := G2.out.at_ 1
      simp only [List.getElem?_cons_zero, List.getElem?_cons_succ] at g0 g1
      go_wp2_with fail
      refine (HPa.out _ _ _ (HE.out _ B2.out)).mono ?_
      rintro e w3 ⟨⟨A3, c3, rfl, hN3⟩, hb3⟩
      have kx := (Below.refl w3.heap.size w3).alloc (Nat.le_refl _) (.cells #[.slice A3 k c3] 50)
      have b3 := below_on hb3 kx
      have G3 := Lib.hid (G2.out.keep b3)
      have B3 := Lib.hid (below_on B2.out b3)
      have N3 := Lib.hid ((hN3.il).keep kx)
      have X3 := Lib.hid (Cells.new w3 #[.slice A3 k c3] 50)
      clear hb3 kx b3 g0 g1 hN3
      obtain ⟨wa, hwa⟩ : ∃ u, w3.alloc (.cells #[.slice A3 k c3] 50) = u := ⟨_, rfl⟩
      rw [hwa] at G3 B3 N3 X3
      have g0 := G3.out.at_ 0
      have g1 := G3.out.at_ 1
      simp only [List.getElem?_cons_zero, List.getElem?_cons_succ] at g0 g1
      go_wp2_with fail
      refine (HPb.out _ _ _ (HE.out _ B3.out) B3.out).mono ?_
      rintro e w4 ⟨⟨A4, c4, rfl, hN4⟩, hb4⟩
      have G4 := Lib.hid (G3.out.keep hb4)
      have N4 := Lib.hid (N3.out.keep hb4)
      have X4 := Lib.hid (X3.out.keep hb4)
      have B4 := Lib.hid (below_on B3.out hb4)
      have M4 := Lib.hid (hN4.il)
      clear hb4 g0 g1 hN4 hwa
      have g0 := G4.out.at_ 0
      have g1 := G4.out.at_ 1
      simp only [List.getElem?_cons_zero, List.getElem?_cons_succ] at g0 g1
      go_wp2_with fail
      refine (HCg.out _ _ _ (HE.out _ B4.out) B4.out).mono ?_
      rintro e w5 ⟨⟨P5, d5, o5, rfl, hE5, hI5⟩, hb5⟩
      have kx := (Below.refl w5.heap.size w5).alloc (Nat.le_refl _) (.cells #[.int .i64 (K : Nat), .slice P5 ML.length d5] 26)
      have b5 := below_on hb5 kx
      have G5 := Lib.hid (G4.out.keep b5)
      have N5 := Lib.hid (N4.out.keep b5)
      have X5 := Lib.hid (X4.out.keep b5)
      have M5 := Lib.hid (M4.out.keep b5)
      have B5 := Lib.hid (below_on B4.out b5)
      have R5 := Lib.hid ((hE5).keep kx)
      have Y5 := Lib.hid (Cells.new w5 #[.int .i64 (K : Nat), .slice P5 ML.length d5] 26)
      clear hb5 kx b5 g0 g1 hE5 hI5
      obtain ⟨wb, hwb⟩ : ∃ u, w5.alloc (.cells #[.int .i64 (K : Nat), .slice P5 ML.length d5] 26) = u := ⟨_, rfl⟩
      rw [hwb] at G5 B5 N5 X5 M5 R5 Y5
      have y0 := Y5.out.at_ 0
      have y1 := Y5.out.at_ 1
      simp only [List.getElem?_cons_zero, List.getElem?_cons_succ] at y0 y1
      go_wp2_with fail
      refine (HPc.out _ _ _ R5.out).mono ?_
      rintro e w6 ⟨⟨A6, c6, rfl, hN6⟩, hb6⟩
      have G6 := Lib.hid (G5.out.keep hb6)
      have N6 := Lib.hid (N5.out.keep hb6)
      have X6 := Lib.hid (X5.out.keep hb6)
      have M6 := Lib.hid (M5.out.keep hb6)
      have B6 := Lib.hid (below_on B5.out hb6)
      clear hb6 y0 y1 hN6 hwb
      have g0 := G6.out.at_ 0
      have g1 := G6.out.at_ 1
      simp only [List.getElem?_cons_zero, List.getElem?_cons_succ] at g0 g1
      have t1 : ((k : Int) == (k : Int)) = true := by simp
      have HQ := conA_any A m c l (fun _ => false) (.pointer (some ⟨w3.heap.size, 0, none⟩)) w6 (HE.out _ B6.out) (by omega) (fun w' e he hb => acy1_any w3.heap.size A3 c3 L1 e.1 e.2 w' (by have := (X6.out.keep hb).at_ 0; rw [Hlen.out]; simpa using this) (N6.out.keep hb) (by have := Hlen.out; omega) (Hin.out _ (hlow e he).1) (Hin.out _ (hlow e he).2) (Hnd.out e he))
      rw [show l.any (fun _ => false) = false by simp] at HQ
      have HQ := Lib.hid HQ
      have x0 := X6.out.at_ 0
      simp only [List.getElem?_cons_zero] at x0
      go_wp2_with fail
      refine (HQ.out).mono ?_
      rintro e w7 ⟨rfl, hb7⟩
      have G7 := Lib.hid (G6.out.keep hb7)
      have N7 := Lib.hid (N6.out.keep hb7)
      have X7 := Lib.hid (X6.out.keep hb7)
      have M7 := Lib.hid (M6.out.keep hb7)
      have B7 := Lib.hid (below_on B6.out hb7)
      clear hb7 g0 g1 x0 
      go_wp2_with fail
      go_ret
      exact ⟨rfl, B7.out⟩
    · subst h3
      rw [h1] at HPa
      have HPb := HPb2 h2
      clear h1 h2 HPb2
      obtain ⟨q, hq⟩ : ∃ q, L2.length = q := ⟨_, rfl⟩
      rw [hq] at HPb hl2 hpos
      have hpq : 0 < q := hpos
      have hq0 : ¬ q = 0 := by omega
      have hq1 : ((q : Int) == 0) = false := by simp; omega
      have Hq := Lib.hid hq
      clear hq
      have HPa := Lib.hid HPa
      have HPb := Lib.hid HPb
      have Hcy := Lib.hid hcy
      have Hpos := Lib.hid hpos
      have g0 := G2.out.at_ 0
      have g1 := G2.out.at_ 1
      simp only [List.getElem?_cons_zero, List.getElem?_cons_succ] at g0 g1
      go_wp2_with fail
      refine (HPa.out _ _ _ (HE.out _ B2.out)).mono ?_
      rintro e w3 ⟨⟨A3, c3, rfl, hN3⟩, hb3⟩
      have kx := (Below.refl w3.heap.size w3).alloc (Nat.le_refl _) (.cells #[.slice A3 L1.length c3] 50)
      have b3 := below_on hb3 kx
      have G3 := Lib.hid (G2.out.keep b3)
      have B3 := Lib.hid (below_on B2.out b3)
      have N3 := Lib.hid ((hN3.il).keep kx)
      have X3 := Lib.hid (Cells.new w3 #[.slice A3 L1.length c3] 50)
      clear hb3 kx b3 g0 g1 hN3
      obtain ⟨wa, hwa⟩ : ∃ u, w3.alloc (.cells #[.slice A3 L1.length c3] 50) = u := ⟨_, rfl⟩
      rw [hwa] at G3 B3 N3 X3
      have g0 := G3.out.at_ 0
      have g1 := G3.out.at_ 1
      simp only [List.getElem?_cons_zero, List.getElem?_cons_succ] at g0 g1
      go_wp2_with fail
      refine (HPb.out _ _ _ (HE.out _ B3.out) B3.out).mono ?_
      rintro e w4 ⟨⟨ba, c4, rfl, hN4, hcap⟩, hb4⟩
      have G4 := Lib.hid (G3.out.keep hb4)
      have N4 := Lib.hid (N3.out.keep hb4)
      have X4 := Lib.hid (X3.out.keep hb4)
      have B4 := Lib.hid (below_on B3.out hb4)
      have M4 := Lib.hid (hN4.il)
      clear hb4 g0 g1 hN4 hwa
      have g0 := G4.out.at_ 0
      have g1 := G4.out.at_ 1
      simp only [List.getElem?_cons_zero, List.getElem?_cons_succ] at g0 g1
      go_wp2_with fail
      refine (HCg.out _ _ _ (HE.out _ B4.out) B4.out).mono ?_
      rintro e w5 ⟨⟨P5, d5, o5, rfl, hE5, hI5⟩, hb5⟩
      have kx := (Below.refl w5.heap.size w5).alloc (Nat.le_refl _) (.cells #[.int .i64 (K : Nat), .slice P5 ML.length d5] 26)
      have b5 := below_on hb5 kx
      have G5 := Lib.hid (G4.out.keep b5)
      have N5 := Lib.hid (N4.out.keep b5)
      have X5 := Lib.hid (X4.out.keep b5)
      have M5 := Lib.hid (M4.out.keep b5)
      have B5 := Lib.hid (below_on B4.out b5)
      have R5 := Lib.hid ((hE5).keep kx)
      have Y5 := Lib.hid (Cells.new w5 #[.int .i64 (K : Nat), .slice P5 ML.length d5] 26)
      clear hb5 kx b5 g0 g1 hE5 hI5
      obtain ⟨wb, hwb⟩ : ∃ u, w5.alloc (.cells #[.int .i64 (K : Nat), .slice P5 ML.length d5] 26) = u := ⟨_, rfl⟩
      rw [hwb] at G5 B5 N5 X5 M5 R5 Y5
      have y0 := Y5.out.at_ 0
      have y1 := Y5.out.at_ 1
      simp only [List.getElem?_cons_zero, List.getElem?_cons_succ] at y0 y1
      go_wp2_with fail
      refine (HPc.out _ _ _ R5.out).mono ?_
      rintro e w6 ⟨⟨A6, c6, rfl, hN6⟩, hb6⟩
      have G6 := Lib.hid (G5.out.keep hb6)
      have N6 := Lib.hid (N5.out.keep hb6)
      have X6 := Lib.hid (X5.out.keep hb6)
      have M6 := Lib.hid (M5.out.keep hb6)
      have B6 := Lib.hid (below_on B5.out hb6)
      clear hb6 y0 y1 hN6 hwb
      clear N6 X6
      go_wp2_with fail
      go_loopw [12, 13, 88] (fun _ _ i wr => ∃ j : Nat, i = .int .i64 (j : Nat) ∧ j ≤ q ∧ Below w6.heap.size w6 wr) (fun _ _ i _ => q - (intOf i).toNat)
      case atStart => exact ⟨0, rfl, Nat.zero_le _, Below.refl _ _⟩
      case round =>
        obtain ⟨j, rfl, hj, hb⟩ := hrel
        have Bu := Lib.hid hb
        clear hb
        obtain ⟨wb, rfl⟩ : ∃ wb : World, wb = wr := ⟨_, rfl⟩
        by_cases hjq : j < q
        · have Hjq := Lib.hid hjq
          obtain ⟨v0, ba0, oa, hv0, hA0, _, cv⟩ := (M6.out.keep Bu.out).at_ (k := j) (by rw [zs_len, Hq.out]; exact Hjq.out)
          injection hA0 with hA0
          injection hA0 with h1 h2
          subst h1 h2
          obtain ⟨v, hv, rfl⟩ := zs_at hv0
          obtain ⟨⟨u, hu, hvu⟩, hnt⟩ := Hcy.out j v hv
          rw [Hq.out] at hu
          have hmod : (j + 1) % q < q := Nat.mod_lt _ hpq
          obtain ⟨r, hr⟩ : ∃ r, (j + 1) % q = r := ⟨_, rfl⟩
          rw [hr] at hu hmod
          obtain ⟨u0, ba1, oa1, hu0, hA, _, cu⟩ := (M6.out.keep Bu.out).at_ (k := r) (by rw [zs_len, Hq.out]; exact hmod)
          injection hA with hA
          injection hA with h1 h2
          subst h1 h2
          obtain ⟨u1, hu1, rfl⟩ := zs_at hu0
          rw [Nat.zero_add] at cv cu
          have icap : (j : Int) ≤ (c4 : Int) := by omega
          have icap2 : j ≤ c4 := by omega
          rw [hu] at hu1
          injection hu1 with hu1
          subst hu1
          have trem : ((j : Int) + 1) % (q : Int) = (r : Int) := by rw [← hr]; simp
          have ew : IntKind.i64.wrap ((j : Int) + 1) = (j : Int) + 1 := IntWalk.i64_in _ (by omega)
          have er : IntKind.i64.wrap (r : Int) = (r : Int) := IntWalk.i64_in _ (by omega)
          have ttm : Int.tmod ((j : Int) + 1) (q : Int) = (r : Int) := by rw [Int.tmod_eq_emod_of_nonneg (by omega), trem]
          have ri : (r : Int) < (q : Int) := by omega
          have HSa := Lib.hid (fun w' (hb : Below w.heap.size w w') => edc_any A m c l v u w' (HE.out _ hb) (by omega))
          have hcon : l.contains (v, u) = true := List.contains_iff_mem.2 hvu
          rw [hcon] at HSa
          have htl : (L2.take j).length = j := by rw [List.length_take, Hq.out]; omega
          have HSb := fun w' (hb : Below wb.heap.size wb w') => containsI_any (some ⟨ba, 0, none⟩) c4 (L2.take j) v w' (((M6.out.keep Bu.out).keep hb).take j) (by omega)
          have hcn : (L2.take j).contains v = false := by
            cases e : (L2.take j).contains v with
            | false => rfl
            | true => exact absurd (List.contains_iff_mem.1 e) hnt
          rw [hcn, htl] at HSb
          have HSb := Lib.hid HSb
          have Bw := Lib.hid (below_on B6.out Bu.out)
          have K0 := Lib.hid (fun w' (h : Below wb.heap.size wb w') => ((G6.out.keep Bu.out).keep h).at_ 1)
          have K1 := Lib.hid (fun w' (h : Below wb.heap.size wb w') => (h.cell (World.block_lt_of_cell? _ _ cu)).trans cu)
          have Hr := Lib.hid hr
          clear hv hv0 hu hu0 hvu hnt hcon hcn htl hr hj
          go_wp2_with fail
          have HS := Lib.hid (fun w' (hb : Below wb.heap.size wb w') => (⟨by have := K0.out _ hb; simpa using this, K1.out _ hb⟩ : w'.cell? ⟨w.heap.size, 1, none⟩ = some (.slice A m c) ∧ w'.cell? ⟨ba, r, none⟩ = some (.int .i64 (u : Nat))))
          refine Till.begin 20 (fun w' => w'.cell? ⟨w.heap.size, 1, none⟩ = some (.slice A m c) ∧ w'.cell? ⟨ba, r, none⟩ = some (.int .i64 (u : Nat))) (by kernel_rfl) (HS.out _ (Below.refl _ _).drew) (fun hH => ?_)
          clear hH
          have HB := Lib.hid (Below.refl wb.heap.size wb).drew
          generalize wb.drew = v0 at HB ⊢
          try simp only [List.setIfInBounds_toArray, List.set_cons_zero, List.set_cons_succ]
          refine Till.tL 0 [1, 12, 14, 20] 93 (.pointer (some ⟨w.heap.size, 1, none⟩)) (HS.out _ HB.out) ?_
          try simp only [Act.put, List.setIfInBounds_toArray, List.set_cons_zero, List.set_cons_succ]
          refine Till.tL 1 [12, 14, 20] 94 (.slice A m c) (HS.out _ HB.out) ?_
          try simp only [Act.put, List.setIfInBounds_toArray, List.set_cons_zero, List.set_cons_succ]
          refine Till.tL 2 [11, 12, 14, 20] 95 (.int .i64 (v : Nat)) (HS.out _ HB.out) ?_
          try simp only [Act.put, List.setIfInBounds_toArray, List.set_cons_zero, List.set_cons_succ]
          refine Till.tL 3 [9, 10, 11, 12, 14, 20] 96 (.slice (some ⟨ba, 0, none⟩) q c4) (HS.out _ HB.out) ?_
          try simp only [Act.put, List.setIfInBounds_toArray, List.set_cons_zero, List.set_cons_succ]
          refine Till.tL 4 [5, 8, 9, 10, 11, 12, 14, 20] 97 (.int .i64 (j : Nat)) (HS.out _ HB.out) ?_
          try simp only [Act.put, List.setIfInBounds_toArray, List.set_cons_zero, List.set_cons_succ]
          refine Till.tL 5 [8, 9, 10, 11, 12, 14, 20] 98 (.int .i64 ((j : Int) + 1)) (HS.out _ HB.out) ?_
          try simp only [Act.put, List.setIfInBounds_toArray, List.set_cons_zero, List.set_cons_succ]
          refine Till.one (i := 6) (by kernel_rfl) rfl (fun K hK => ?_)
          go_simp
          refine hK.out _ _ (fun _ => HS.out _ HB.out) ?_
          clear hK K
          try simp only [List.setIfInBounds_toArray, List.set_cons_zero, List.set_cons_succ]
          refine Till.one (i := 7) (by kernel_rfl) rfl (fun K hK => ?_)
          go_simp
          refine hK.out _ _ (fun _ => HS.out _ HB.out) ?_
          clear hK K
          try simp only [List.setIfInBounds_toArray, List.set_cons_zero, List.set_cons_succ]
          refine Till.one (i := 8) (by kernel_rfl) rfl (fun K hK => ?_)
          go_simp
          refine hK.out _ _ (fun _ => HS.out _ HB.out) ?_
          clear hK K
          try simp only [List.setIfInBounds_toArray, List.set_cons_zero, List.set_cons_succ]
          refine Till.one (i := 9) (by kernel_rfl) rfl (fun K hK => ?_)
          go_simp
          refine hK.out _ _ (fun _ => HS.out _ HB.out) ?_
          clear hK K
          try simp only [List.setIfInBounds_toArray, List.set_cons_zero, List.set_cons_succ]
          refine Till.tL 10 [11, 12, 14, 20] 103 (.int .i64 (u : Nat)) (HS.out _ HB.out) ?_
          try simp only [Act.put, List.setIfInBounds_toArray, List.set_cons_zero, List.set_cons_succ]
          refine Till.one (i := 11) (by kernel_rfl) rfl (fun K hK => ?_)
          go_simp
          refine hK.out _ _ (fun _ => HS.out _ HB.out) ?_
          clear hK K
          try simp only [List.setIfInBounds_toArray, List.set_cons_zero, List.set_cons_succ]
          refine Till.one (i := 12) (by kernel_rfl) rfl (fun K hK => ?_)
          go_simp
          refine (HSa.out _ (below_on Bw.out HB.out)).mono ?_
          rintro e v1 ⟨rfl, g⟩
          replace HB := Lib.hid (below_on HB.out g)
          clear g
          go_wp2_with fail
          refine hK.out _ _ (fun _ => HS.out _ HB.out) ?_
          clear hK K
          try simp only [List.setIfInBounds_toArray, List.set_cons_zero, List.set_cons_succ]
          refine Till.one (i := 13) (by kernel_rfl) rfl (fun K hK => ?_)
          go_simp
          refine hK.out _ _ (fun _ => HS.out _ HB.out) ?_
          clear hK K
          try simp only [List.setIfInBounds_toArray, List.set_cons_zero, List.set_cons_succ]
          refine Till.one (i := 14) (by kernel_rfl) rfl (fun K hK => ?_)
          go_simp
          refine hK.out _ _ (fun _ => HS.out _ HB.out) ?_
          clear hK K
          try simp only [List.setIfInBounds_toArray, List.set_cons_zero, List.set_cons_succ]
          refine Till.tL 15 [17, 19, 20] 108 (.slice (some ⟨ba, 0, none⟩) q c4) (HS.out _ HB.out) ?_
          try simp only [Act.put, List.setIfInBounds_toArray, List.set_cons_zero, List.set_cons_succ]
          refine Till.tL 16 [17, 19, 20] 109 (.int .i64 (j : Nat)) (HS.out _ HB.out) ?_
          try simp only [Act.put, List.setIfInBounds_toArray, List.set_cons_zero, List.set_cons_succ]
          refine Till.tk 17 19 110 (.slice (some ⟨ba, 0, none⟩) j c4) (HS.out _ HB.out) ?_
          try simp only [Act.put, List.setIfInBounds_toArray, List.set_cons_zero, List.set_cons_succ]
          refine Till.one (i := 18) (by kernel_rfl) rfl (fun K hK => ?_)
          go_simp
          refine hK.out _ _ (fun _ => HS.out _ HB.out) ?_
          clear hK K
          try simp only [List.setIfInBounds_toArray, List.set_cons_zero, List.set_cons_succ]
          refine Till.one (i := 19) (by kernel_rfl) rfl (fun K hK => ?_)
          go_simp
          refine (HSb.out _ HB.out).mono ?_
          rintro e v2 ⟨rfl, g⟩
          replace HB := Lib.hid (below_on HB.out g)
          clear g
          go_wp2_with fail
          refine hK.out _ _ (fun _ => HS.out _ HB.out) ?_
          clear hK K
          try simp only [List.setIfInBounds_toArray, List.set_cons_zero, List.set_cons_succ]
          refine Till.one (i := 20) (by kernel_rfl) rfl (fun K hK => ?_)
          go_simp
          refine hK.out _ _ (fun h => absurd h (by simp)) ?_
          clear hK K
          try simp only [List.setIfInBounds_toArray, List.set_cons_zero, List.set_cons_succ]
          refine Till.done (by kernel_rfl) ?_ _
          have Bz := Lib.hid (below_on Bu.out HB.out)
          go_wp2_with fail
          go_roundw
          case rel => exact ⟨j + 1, by go_num, Hjq.out, Bz.out⟩
          case measure => simp [intOf]; have := Hjq.out; omega
        · have hjq2 : ¬ ((j : Int) < (q : Int)) := by omega
          have t0 : decide ((0 : Int) < (q : Int)) = true := decide_eq_true (by omega)
          clear hjq
          go_wp2_with fail
          go_ret
          exact ⟨rfl, below_on B6.out Bu.out⟩
end Go.Proofs.YthocdmlacfejkaaDoor
