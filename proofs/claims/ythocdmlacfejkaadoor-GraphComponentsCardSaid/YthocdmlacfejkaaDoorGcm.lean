/- The law GraphComponents. -/
import Derived.Test.YthocdmlacfejkaaDoorMI
import Derived.Test.YthocdmlacfejkaaDoorGrh
import Derived.Test.YthocdmlacfejkaaDoorCls
import Derived.Test.YthocdmlacfejkaaDoorRpa
import Derived.Test.YthocdmlacfejkaaDoorRcd
namespace Go.Proofs.YthocdmlacfejkaaDoor
open Go.RowKit
theorem sinksC_any (n : Nat) (A : Option Addr) (m c : Nat) (es : List (Nat × Nat)) (w : World) (h : EL w A m (cast es)) (hg : Fine n es) (hw : Good w) :
    Calls Tryd.prog 49 #[gV n A m c] w fun e w' => ∃ A', e = .returned (.tuple #[.slice A' ((clsM n es).filter (snkP n es)).length ((clsM n es).filter (snkP n es)).length, .int .i64 0]) ∧ LL w.heap.size w' A' ((clsM n es).filter (snkP n es)) ∧ Below w.heap.size w w' := by
  obtain ⟨out, hout, h64, hol, hcl⟩ := comp_ok hg.low hg.n64
  rw [← sink_same hg.low hg.n64 h64 hcl, List.length_map]
  exact sinks_any n A m c es out w h hg hout h64 hol hw
set_option maxRecDepth 100000 in
set_option maxHeartbeats 8000000 in
theorem gcm_any (n : Int) (A : Option Addr) (m c : Nat) (es : List (Int × Int)) (w : World) (h : EL w A m es) (hw : Good w) :
    Calls Tryd.prog 8 #[gV n A m c] w fun e w' => e = .returned (.bool true) ∧ Below w.heap.size w w' := by
  have kv := (Below.refl w.heap.size w).alloc (Nat.le_refl _) (.cells #[.int .i64 n, .slice A m c] 26)
  have HG := Lib.hid (fun w' (hb : Below w.heap.size w w') => hw.below hb hw.size)
  have HK := Lib.hid (fun w' (hb : Below w.heap.size w w') => known_any w' (hw.below hb hw.size))
  have HE := Lib.hid (fun w' (hb : Below w.heap.size w w') => h.keep hb)
  have G0 := Lib.hid (Cells.new w #[.int .i64 n, .slice A m c] 26)
  have HF := Lib.hid (fun w' (hb : Below w.heap.size w w') => fine_any n A m c es w' (h.keep hb))
  have hml := h.1
  obtain ⟨fb, hfb⟩ : ∃ fb, fineG n m es = fb := ⟨_, rfl⟩
  rw [hfb] at HF
  have B0 := Lib.hid kv
  clear h hw kv
  go_enter Tryd.func8, Tryd.ntmps8
  go_wp2_with fail
  refine (HK.out _ B0.out).mono ?_
  rintro e w1 ⟨rfl, hb1⟩
  have G1 := Lib.hid (G0.out.keep hb1)
  have B1 := Lib.hid (below_on B0.out hb1)
  have g0 := G1.out.at_ 0
  have g1 := G1.out.at_ 1
  simp only [List.getElem?_cons_zero, List.getElem?_cons_succ] at g0 g1
  clear hb1
  go_wp2_with fail
  refine (HF.out _ B1.out).mono ?_
  rintro e w2 ⟨rfl, hb2⟩
  have G2 := Lib.hid (G1.out.keep hb2)
  have B2 := Lib.hid (below_on B1.out hb2)
  clear hb2 g0 g1
  cases fb with
  | false =>
    clear hfb
    go_wp2_with fail
    refine (HK.out _ B2.out).mono ?_
    rintro e w3 ⟨rfl, hb3⟩
    have B3 := Lib.hid (below_on B2.out hb3)
    clear hb3
    go_wp2_with fail
    go_ret
    exact ⟨rfl, B3.out⟩
  | true =>
    obtain ⟨k, l, rfl, rfl, hf, hk8, hm24⟩ := fine_split hfb
    have Hf := Lib.hid hf
    have hM2 := Lib.hid (show m ≤ 100000 by omega)
    clear hfb
    have Hl := Lib.hid Hf.out.low
    have Hn := Lib.hid Hf.out.n64
    have hcs := cls_small Hl.out Hn.out
    have hps := cls_small (both_low Hl.out) Hn.out
    have hml2 : (makeL (clsM k l).length (cdE k l)).length ≤ 100000 := by
      have := make_len (n := (clsM k l).length) (es := cdE k l)
      have h1 := cls_len k l
      have : (clsM k l).length * (clsM k l).length ≤ 64 * 64 := Nat.mul_le_mul (by omega) (by omega)
      omega
    have HKg := Lib.hid (fun P d w' (hE : EL w' P m (cast l)) (hb : Below w.heap.size w w') => compsC_any k P m d l w' hE Hf.out (HG.out _ hb))
    have HSg := Lib.hid (fun P d w' (hE : EL w' P m (cast l)) (hb : Below w.heap.size w w') => sinksC_any k P m d l w' hE Hf.out (HG.out _ hb))
    have HPg := Lib.hid (fun P d w' (hE : EL w' P m (cast l)) (hb : Below w.heap.size w w') => partsC_any k P m d l w' hE Hf.out (HG.out _ hb))
    have HCg := fun P d w' (hE : EL w' P m (cast l)) (hb : Below w.heap.size w w') => condC_any k P m d l w' hE Hf.out (HG.out _ hb)
    have HKr := Lib.hid (fun P d w' (hE : EL w' P m (cast l)) => refComps_any k P m d l w' hE Hf.out)
    have HSr := Lib.hid (fun P d w' (hE : EL w' P m (cast l)) => refSinks_any k P m d l w' hE Hf.out)
    have HPr := Lib.hid (fun P d w' (hE : EL w' P m (cast l)) => refParts_any k P m d l w' hE Hf.out)
    have HCr := fun P d w' (hE : EL w' P m (cast l)) => refCondC_any k P m d l w' hE Hf.out
    unfold CndPost at HCg
    unfold RcdPost at HCr
    obtain ⟨ML, hML⟩ : ∃ ML, makeL (clsM k l).length (cdE k l) = ML := ⟨_, rfl⟩
    obtain ⟨oz, hoz⟩ : ∃ oz, ((List.range k).map fun v => ((ofN k l v : Nat) : Int)) = oz := ⟨_, rfl⟩
    have hozl : oz.length = k := by rw [← hoz]; simp
    rw [hML, hoz] at HCg HCr
    rw [hML] at hml2
    obtain ⟨SG, hSG⟩ : ∃ SG, (clsM k l).filter (snkP k l) = SG := ⟨_, rfl⟩
    have hss : SG.length ≤ 1000 ∧ ∀ x ∈ SG, x.length ≤ 64 := by
      rw [← hSG]
      exact ⟨Nat.le_trans (List.length_filter_le _ _) hcs.1, fun x hx => hcs.2 x (List.mem_filter.1 hx).1⟩
    rw [hSG] at HSg HSr
    obtain ⟨KG, hKG⟩ : ∃ KG, clsM k l = KG := ⟨_, rfl⟩
    obtain ⟨PG, hPG⟩ : ∃ PG, clsM k (bothE l) = PG := ⟨_, rfl⟩
    rw [hKG] at hcs HKg HKr HCg HCr
    rw [hPG] at hps HPg HPr
    have HCg := Lib.hid HCg
    have HCr := Lib.hid HCr
    have Hcs := Lib.hid hcs
    have Hps := Lib.hid hps
    have Hss := Lib.hid hss
    have Hoz := Lib.hid hozl
    clear hML hoz hSG hKG hPG hcs hps hss hozl
    have g0 := G2.out.at_ 0
    have g1 := G2.out.at_ 1
    simp only [List.getElem?_cons_zero, List.getElem?_cons_succ] at g0 g1
    go_wp2_with fail
    refine (plain_any k A m c (cast l) w2 (HE.out _ B2.out) hM2.out).mono ?_
    rintro e w3 ⟨P3, d3, rfl, hE3, hb3⟩
    have kx := (Below.refl w3.heap.size w3).alloc (Nat.le_refl _) (.cells #[.int .i64 (k : Nat), .slice P3 m d3] 35)
    have b3 := below_on hb3 kx
    have G3 := Lib.hid (G2.out.keep b3)
    have B3 := Lib.hid (below_on B2.out b3)
    have E3 := Lib.hid ((hE3).keep kx)
    have X3 := Lib.hid (Cells.new w3 #[.int .i64 (k : Nat), .slice P3 m d3] 35)
    clear hb3 kx b3 g0 g1 hE3
    obtain ⟨wn3, hw3⟩ : ∃ u, w3.alloc (.cells #[.int .i64 (k : Nat), .slice P3 m d3] 35) = u := ⟨_, rfl⟩
    rw [hw3] at G3 B3 E3 X3
    have g0 := G3.out.at_ 0
    have g1 := G3.out.at_ 1
    simp only [List.getElem?_cons_zero, List.getElem?_cons_succ] at g0 g1
    go_wp2_with fail
    refine (copied_any k A m c (cast l) wn3 (HE.out _ B3.out) hM2.out).mono ?_
    rintro e w4 ⟨P4, d4, rfl, hE4, hb4⟩
    have G4 := Lib.hid (G3.out.keep hb4)
    have E4 := Lib.hid (E3.out.keep hb4)
    have X4 := Lib.hid (X3.out.keep hb4)
    have B4 := Lib.hid (below_on B3.out hb4)
    have F4 := Lib.hid (hE4)
    clear hb4 g0 g1 hE4 hw3
    go_wp2_with fail
    refine (HKg.out _ _ _ F4.out B4.out).mono ?_
    rintro e w5 ⟨A5, rfl, hl5, hb5⟩
    have G5 := Lib.hid (G4.out.keep hb5)
    have E5 := Lib.hid (E4.out.keep hb5)
    have X5 := Lib.hid (X4.out.keep hb5)
    have B5 := Lib.hid (below_on B4.out hb5)
    have K5 := Lib.hid (hl5)
    clear hb5  hl5
    have g0 := G5.out.at_ 0
    have g1 := G5.out.at_ 1
    simp only [List.getElem?_cons_zero, List.getElem?_cons_succ] at g0 g1
    go_wp2_with fail
    refine (copied_any k A m c (cast l) w5 (HE.out _ B5.out) hM2.out).mono ?_
    rintro e w6 ⟨P6, d6, rfl, hE6, hb6⟩
    have G6 := Lib.hid (G5.out.keep hb6)
    have E6 := Lib.hid (E5.out.keep hb6)
    have X6 := Lib.hid (X5.out.keep hb6)
    have K6 := Lib.hid (K5.out.keep hb6)
    have B6 := Lib.hid (below_on B5.out hb6)
    have F6 := Lib.hid (hE6)
    clear hb6 g0 g1 hE6
    go_wp2_with fail
    refine (HCg.out _ _ _ F6.out B6.out).mono ?_
    rintro e w7 ⟨⟨P7, d7, o7, rfl, hE7, hI7⟩, hb7⟩
    have kx := (Below.refl w7.heap.size w7).alloc (Nat.le_refl _) (.cells #[.int .i64 (KG.length : Nat), .slice P7 ML.length d7] 26)
    have b7 := below_on hb7 kx
    have G7 := Lib.hid (G6.out.keep b7)
    have E7 := Lib.hid (E6.out.keep b7)
    have X7 := Lib.hid (X6.out.keep b7)
    have K7 := Lib.hid (K6.out.keep b7)
    have B7 := Lib.hid (below_on B6.out b7)
    have R7 := Lib.hid ((hE7).keep kx)
    have I7 := Lib.hid ((hI7).keep kx)
    have Y7 := Lib.hid (Cells.new w7 #[.int .i64 (KG.length : Nat), .slice P7 ML.length d7] 26)
    clear hb7 kx b7  hE7 hI7
    obtain ⟨wn7, hw7⟩ : ∃ u, w7.alloc (.cells #[.int .i64 (KG.length : Nat), .slice P7 ML.length d7] 26) = u := ⟨_, rfl⟩
    rw [hw7] at G7 B7 E7 X7 K7 R7 I7 Y7
    have g0 := G7.out.at_ 0
    have g1 := G7.out.at_ 1
    simp only [List.getElem?_cons_zero, List.getElem?_cons_succ] at g0 g1
    go_wp2_with fail
    refine (copied_any k A m c (cast l) wn7 (HE.out _ B7.out) hM2.out).mono ?_
    rintro e w8 ⟨P8, d8, rfl, hE8, hb8⟩
    have G8 := Lib.hid (G7.out.keep hb8)
    have E8 := Lib.hid (E7.out.keep hb8)
    have X8 := Lib.hid (X7.out.keep hb8)
    have K8 := Lib.hid (K7.out.keep hb8)
    have R8 := Lib.hid (R7.out.keep hb8)
    have I8 := Lib.hid (I7.out.keep hb8)
    have Y8 := Lib.hid (Y7.out.keep hb8)
    have B8 := Lib.hid (below_on B7.out hb8)
    have F8 := Lib.hid (hE8)
    clear hb8 g0 g1 hE8 hw7
    go_wp2_with fail
    refine (HSg.out _ _ _ F8.out B8.out).mono ?_
    rintro e w9 ⟨A9, rfl, hl9, hb9⟩
    have G9 := Lib.hid (G8.out.keep hb9)
    have E9 := Lib.hid (E8.out.keep hb9)
    have X9 := Lib.hid (X8.out.keep hb9)
    have K9 := Lib.hid (K8.out.keep hb9)
    have R9 := Lib.hid (R8.out.keep hb9)
    have I9 := Lib.hid (I8.out.keep hb9)
    have Y9 := Lib.hid (Y8.out.keep hb9)
    have B9 := Lib.hid (below_on B8.out hb9)
    have S9 := Lib.hid (hl9)
    clear hb9  hl9
    have g0 := G9.out.at_ 0
    have g1 := G9.out.at_ 1
    simp only [List.getElem?_cons_zero, List.getElem?_cons_succ] at g0 g1
    go_wp2_with fail
    refine (copied_any k A m c (cast l) w9 (HE.out _ B9.out) hM2.out).mono ?_
    rintro e w10 ⟨P10, d10, rfl, hE10, hb10⟩
    have E10 := Lib.hid (E9.out.keep hb10)
    have X10 := Lib.hid (X9.out.keep hb10)
    have K10 := Lib.hid (K9.out.keep hb10)
    have R10 := Lib.hid (R9.out.keep hb10)
    have I10 := Lib.hid (I9.out.keep hb10)
    have Y10 := Lib.hid (Y9.out.keep hb10)
    have S10 := Lib.hid (S9.out.keep hb10)
    have B10 := Lib.hid (below_on B9.out hb10)
    have F10 := Lib.hid (hE10)
    clear hb10 g0 g1 hE10
    go_wp2_with fail
    refine (HPg.out _ _ _ F10.out B10.out).mono ?_
    rintro e w11 ⟨A11, rfl, hl11, hb11⟩
    have E11 := Lib.hid (E10.out.keep hb11)
    have X11 := Lib.hid (X10.out.keep hb11)
    have K11 := Lib.hid (K10.out.keep hb11)
    have R11 := Lib.hid (R10.out.keep hb11)
    have I11 := Lib.hid (I10.out.keep hb11)
    have Y11 := Lib.hid (Y10.out.keep hb11)
    have S11 := Lib.hid (S10.out.keep hb11)
    have B11 := Lib.hid (below_on B10.out hb11)
    have T11 := Lib.hid (hl11)
    clear hb11  hl11
    have x0 := X11.out.at_ 0
    have x1 := X11.out.at_ 1
    simp only [List.getElem?_cons_zero, List.getElem?_cons_succ] at x0 x1
    go_wp2_with fail
    refine (HCr.out _ _ _ E11.out).mono ?_
    rintro e w12 ⟨⟨P12, d12, o12, rfl, hE12, hI12⟩, hb12⟩
    have kx := (Below.refl w12.heap.size w12).alloc (Nat.le_refl _) (.cells #[.int .i64 (KG.length : Nat), .slice P12 ML.length d12] 35)
    have b12 := below_on hb12 kx
    have E12 := Lib.hid (E11.out.keep b12)
    have X12 := Lib.hid (X11.out.keep b12)
    have K12 := Lib.hid (K11.out.keep b12)
    have R12 := Lib.hid (R11.out.keep b12)
    have I12 := Lib.hid (I11.out.keep b12)
    have Y12 := Lib.hid (Y11.out.keep b12)
    have S12 := Lib.hid (S11.out.keep b12)
    have T12 := Lib.hid (T11.out.keep b12)
    have B12 := Lib.hid (below_on B11.out b12)
    have U12 := Lib.hid ((hE12).keep kx)
    have J12 := Lib.hid ((hI12).keep kx)
    have Z12 := Lib.hid (Cells.new w12 #[.int .i64 (KG.length : Nat), .slice P12 ML.length d12] 35)
    clear hb12 kx b12 x0 x1 hE12 hI12
    obtain ⟨wn12, hw12⟩ : ∃ u, w12.alloc (.cells #[.int .i64 (KG.length : Nat), .slice P12 ML.length d12] 35) = u := ⟨_, rfl⟩
    rw [hw12] at B12 E12 X12 K12 R12 I12 Y12 S12 T12 U12 J12 Z12
    have x0 := X12.out.at_ 0
    have x1 := X12.out.at_ 1
    simp only [List.getElem?_cons_zero, List.getElem?_cons_succ] at x0 x1
    have HKr12 := Lib.hid (HKr.out P3 d3 wn12 E12.out)
    go_wp2_with fail
    refine (HKr12.out).mono ?_
    rintro e w13 ⟨v13, rfl, hout13, hb13⟩
    obtain ⟨A13, c13, rfl, hl13⟩ := hout13.ll
    have E13 := Lib.hid (E12.out.keep hb13)
    have X13 := Lib.hid (X12.out.keep hb13)
    have K13 := Lib.hid (K12.out.keep hb13)
    have R13 := Lib.hid (R12.out.keep hb13)
    have I13 := Lib.hid (I12.out.keep hb13)
    have Y13 := Lib.hid (Y12.out.keep hb13)
    have S13 := Lib.hid (S12.out.keep hb13)
    have T13 := Lib.hid (T12.out.keep hb13)
    have U13 := Lib.hid (U12.out.keep hb13)
    have J13 := Lib.hid (J12.out.keep hb13)
    have Z13 := Lib.hid (Z12.out.keep hb13)
    have B13 := Lib.hid (below_on B12.out hb13)
    have L13 := Lib.hid (hl13)
    clear hb13 x0 x1 hl13 hout13 hw12
    have HQ := lawLists_any _ _ A5 A13 KG.length c13 KG KG w13 K13.out L13.out (by have := Hcs.out.1; omega) (by have := Hcs.out.1; omega) (fun x hx => by have := Hcs.out.2 x hx; omega) (fun x hx => by have := Hcs.out.2 x hx; omega)
    rw [beq_self_eq_true] at HQ
    have HQ := Lib.hid HQ
    go_wp2_with fail
    refine (HQ.out).mono ?_
    rintro e w14 ⟨rfl, hb14⟩
    have E14 := Lib.hid (E13.out.keep hb14)
    have X14 := Lib.hid (X13.out.keep hb14)
    have R14 := Lib.hid (R13.out.keep hb14)
    have I14 := Lib.hid (I13.out.keep hb14)
    have Y14 := Lib.hid (Y13.out.keep hb14)
    have S14 := Lib.hid (S13.out.keep hb14)
    have T14 := Lib.hid (T13.out.keep hb14)
    have U14 := Lib.hid (U13.out.keep hb14)
    have J14 := Lib.hid (J13.out.keep hb14)
    have Z14 := Lib.hid (Z13.out.keep hb14)
    have B14 := Lib.hid (below_on B13.out hb14)
    clear hb14  
    have y0 := Y14.out.at_ 0
    have y1 := Y14.out.at_ 1
    have z0 := Z14.out.at_ 0
    have z1 := Z14.out.at_ 1
    simp only [List.getElem?_cons_zero, List.getElem?_cons_succ] at y0 y1 z0 z1
    go_wp2_with fail
    refine (same_eq KG.length P7 P12 ML.length d7 d12 (cast ML) w14 R14.out U14.out hml2).mono ?_
    rintro e w15 ⟨rfl, hb15⟩
    have E15 := Lib.hid (E14.out.keep hb15)
    have X15 := Lib.hid (X14.out.keep hb15)
    have I15 := Lib.hid (I14.out.keep hb15)
    have S15 := Lib.hid (S14.out.keep hb15)
    have T15 := Lib.hid (T14.out.keep hb15)
    have J15 := Lib.hid (J14.out.keep hb15)
    have B15 := Lib.hid (below_on B14.out hb15)
    clear hb15 y0 y1 z0 z1 
    have HQ := equal_any (some ⟨o7, 0, none⟩) (some ⟨o12, 0, none⟩) k k oz oz w15 I15.out J15.out (by have := Hoz.out; omega) (by have := Hoz.out; omega)
    rw [Hoz.out, beq_self_eq_true] at HQ
    have HQ := Lib.hid HQ
    go_wp2_with fail
    refine (HQ.out).mono ?_
    rintro e w16 ⟨rfl, hb16⟩
    have E16 := Lib.hid (E15.out.keep hb16)
    have X16 := Lib.hid (X15.out.keep hb16)
    have S16 := Lib.hid (S15.out.keep hb16)
    have T16 := Lib.hid (T15.out.keep hb16)
    have B16 := Lib.hid (below_on B15.out hb16)
    clear hb16  
    have x0 := X16.out.at_ 0
    have x1 := X16.out.at_ 1
    simp only [List.getElem?_cons_zero, List.getElem?_cons_succ] at x0 x1
    go_wp2_with fail
    refine (HSr.out _ _ _ E16.out).mono ?_
    rintro e w17 ⟨v17, rfl, hout17, hb17⟩
    obtain ⟨A17, c17, rfl, hl17⟩ := hout17.ll
    have E17 := Lib.hid (E16.out.keep hb17)
    have X17 := Lib.hid (X16.out.keep hb17)
    have S17 := Lib.hid (S16.out.keep hb17)
    have T17 := Lib.hid (T16.out.keep hb17)
    have B17 := Lib.hid (below_on B16.out hb17)
    have L17 := Lib.hid (hl17)
    clear hb17 x0 x1 hl17 hout17
    have HQ := lawLists_any _ _ A9 A17 SG.length c17 SG SG w17 S17.out L17.out (by have := Hss.out.1; omega) (by have := Hss.out.1; omega) (fun x hx => by have := Hss.out.2 x hx; omega) (fun x hx => by have := Hss.out.2 x hx; omega)
    rw [beq_self_eq_true] at HQ
    have HQ := Lib.hid HQ
    go_wp2_with fail
    refine (HQ.out).mono ?_
    rintro e w18 ⟨rfl, hb18⟩
    have E18 := Lib.hid (E17.out.keep hb18)
    have X18 := Lib.hid (X17.out.keep hb18)
    have T18 := Lib.hid (T17.out.keep hb18)
    have B18 := Lib.hid (below_on B17.out hb18)
    clear hb18  
    have x0 := X18.out.at_ 0
    have x1 := X18.out.at_ 1
    simp only [List.getElem?_cons_zero, List.getElem?_cons_succ] at x0 x1
    go_wp2_with fail
    refine (HPr.out _ _ _ E18.out).mono ?_
    rintro e w19 ⟨v19, rfl, hout19, hb19⟩
    obtain ⟨A19, c19, rfl, hl19⟩ := hout19.ll
    have T19 := Lib.hid (T18.out.keep hb19)
    have B19 := Lib.hid (below_on B18.out hb19)
    have L19 := Lib.hid (hl19)
    clear hb19 x0 x1 hl19 hout19
    have HQ := lawLists_any _ _ A11 A19 PG.length c19 PG PG w19 T19.out L19.out (by have := Hps.out.1; omega) (by have := Hps.out.1; omega) (fun x hx => by have := Hps.out.2 x hx; omega) (fun x hx => by have := Hps.out.2 x hx; omega)
    rw [beq_self_eq_true] at HQ
    have HQ := Lib.hid HQ
    go_wp2_with fail
    refine (HQ.out).mono ?_
    rintro e w20 ⟨rfl, hb20⟩
    have B20 := Lib.hid (below_on B19.out hb20)
    clear hb20  
    go_wp2_with fail
    go_ret
    exact ⟨by simp, B20.out⟩
end Go.Proofs.YthocdmlacfejkaaDoor
