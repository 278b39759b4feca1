/- The law GraphChecks. -/
import Derived.Test.YthocdmlacfejkaaDoorSam
import Derived.Test.YthocdmlacfejkaaDoorKno
import Derived.Test.YthocdmlacfejkaaDoorRef2
namespace Go.Proofs.YthocdmlacfejkaaDoor
open Go.RowKit
set_option maxRecDepth 100000 in
set_option maxHeartbeats 8000000 in
theorem gck_any (n : Int) (A : Option Addr) (m c : Nat) (es : List (Int × Int)) (w : World) (h : EL w A m es) (hw : Good w) :
    Calls Tryd.prog 4 #[gV n A m c] w fun e w' => e = .returned (.bool true) ∧ Below w.heap.size w w' := by
  have kv := (Below.refl w.heap.size w).alloc (Nat.le_refl _) (.cells #[.int .i64 n, .slice A m c] 26)
  have HK := Lib.hid (fun w' (hb : Below w.heap.size w w') => known_any w' (hw.below hb hw.size))
  have HE := Lib.hid (fun w' (hb : Below w.heap.size w w') => h.keep hb)
  have G0 := Lib.hid (Cells.new w #[.int .i64 n, .slice A m c] 26)
  have kv := Lib.hid kv
  clear h hw
  go_enter Tryd.func4, Tryd.ntmps4
  go_wp2_with fail
  refine (HK.out _ kv.out).mono ?_
  rintro e w1 ⟨rfl, hb1⟩
  have G1 := Lib.hid (G0.out.keep hb1)
  have B1 := Lib.hid (below_on kv.out hb1)
  have g0 := G1.out.at_ 0
  have g1 := G1.out.at_ 1
  simp only [List.getElem?_cons_zero, List.getElem?_cons_succ] at g0 g1
  clear hb1
  go_wp2_with fail
  refine (few_any n A m c w1).mono ?_
  rintro e w2 ⟨rfl, hb2⟩
  have G2 := Lib.hid (G1.out.keep hb2)
  have B2 := Lib.hid (below_on B1.out hb2)
  clear hb2 g0 g1
  cases hf : fewG n m with
  | false =>
    clear hf
    go_wp2_with fail
    refine (HK.out _ B2.out).mono ?_
    rintro e w3 ⟨rfl, hb3⟩
    have B3 := Lib.hid (below_on B2.out hb3)
    clear hb3
    go_wp2_with fail
    go_ret
    exact ⟨rfl, B3.out⟩
  | true =>
    have hm : m ≤ 24 := by unfold fewG at hf; simp at hf; exact hf.1
    have hM := Lib.hid (show m ≤ 4611686018427387904 by omega)
    have hM2 := Lib.hid (show m ≤ 100000 by omega)
    clear hf hm
    have g0 := G2.out.at_ 0
    have g1 := G2.out.at_ 1
    simp only [List.getElem?_cons_zero, List.getElem?_cons_succ] at g0 g1
    go_wp2_with fail
    refine (plain_any n A m c es w2 (HE.out _ B2.out) hM2.out).mono ?_
    rintro e w3 ⟨P3, d3, rfl, hE3, hb3⟩
    have G3 := Lib.hid (G2.out.keep hb3)
    have B3 := Lib.hid (below_on B2.out hb3)
    have HR := Lib.hid (refCheck_any n P3 m d3 es w3 hE3 hM.out)
    clear hb3 hE3 g0 g1
    go_wp2_with fail
    refine HR.out.mono ?_
    rintro e w4 ⟨rfl, hb4⟩
    have G4 := Lib.hid (G3.out.keep hb4)
    have B4 := Lib.hid (below_on B3.out hb4)
    have g0 := G4.out.at_ 0
    have g1 := G4.out.at_ 1
    simp only [List.getElem?_cons_zero, List.getElem?_cons_succ] at g0 g1
    clear hb4
    go_wp2_with fail
    refine (copied_any n A m c es w4 (HE.out _ B4.out) hM2.out).mono ?_
    rintro e w5 ⟨P5, d5, rfl, hE5, hb5⟩
    have G5 := Lib.hid (G4.out.keep hb5)
    have B5 := Lib.hid (below_on B4.out hb5)
    have HC := Lib.hid (check_any n P5 m d5 es w5 hE5 hM.out)
    clear hb5 hE5 g0 g1
    go_wp2_with fail
    refine HC.out.mono ?_
    rintro e w6 ⟨rfl, hb6⟩
    have G6 := Lib.hid (G5.out.keep hb6)
    have B6 := Lib.hid (below_on B5.out hb6)
    have g0 := G6.out.at_ 0
    have g1 := G6.out.at_ 1
    simp only [List.getElem?_cons_zero, List.getElem?_cons_succ] at g0 g1
    clear hb6
    by_cases hd : checkG n es = 0
    · rw [hd]
      clear hd
      go_wp2_with fail
      go_ret
      exact ⟨rfl, B6.out⟩
    · have R1 := Lib.hid (fun w' (hb : Below w.heap.size w w') => reverse_bad n A m c es w' (HE.out _ hb) hM.out hd)
      have R2 := Lib.hid (fun w' (hb : Below w.heap.size w w') => induced_bad n A m c es (.slice none 0 0) w' (HE.out _ hb) hM.out hd)
      have R3 := Lib.hid (fun w' (hb : Below w.heap.size w w') => closure_bad n A m c es w' (HE.out _ hb) hM.out hd)
      have R4 := Lib.hid (fun w' (hb : Below w.heap.size w w') => comps_bad n A m c es w' (HE.out _ hb) hM.out hd)
      have R5 := Lib.hid (fun w' (hb : Below w.heap.size w w') => condense_bad n A m c es w' (HE.out _ hb) hM.out hd)
      have R6 := Lib.hid (fun w' (hb : Below w.heap.size w w') => order_bad n A m c es w' (HE.out _ hb) hM.out hd)
      have R7 := Lib.hid (fun w' (hb : Below w.heap.size w w') => cycle_bad n A m c es w' (HE.out _ hb) hM.out hd)
      obtain ⟨d, hd0⟩ : ∃ d, checkG n es = d := ⟨_, rfl⟩
      rw [hd0] at R1 R2 R3 R4 R5 R6 R7 hd ⊢
      have t0 : (d == 0) = false := by simpa using hd
      clear hd hd0
      go_wp2_with fail
      refine (R1.out _ B6.out).mono ?_
      rintro e w7 ⟨rfl, hb7⟩
      have G7 := Lib.hid ((G6.out.keep hb7).keep ((Below.refl _ _).alloc (Nat.le_refl _) (.cells #[.int .i64 0, .slice none 0 0] 26)))
      have X7 := Lib.hid (Cells.new w7 #[.int .i64 0, .slice none 0 0] 26)
      have B7 := Lib.hid ((below_on B6.out hb7).alloc (below_on B6.out hb7).size (.cells #[.int .i64 0, .slice none 0 0] 26))
      have g0 := G7.out.at_ 0
      have g1 := G7.out.at_ 1
      simp only [List.getElem?_cons_zero, List.getElem?_cons_succ] at g0 g1
      clear hb7
      go_wp2_with fail
      refine (R2.out _ B7.out).mono ?_
      rintro e w8 ⟨rfl, hb8⟩
      have G8 := Lib.hid ((G7.out.keep hb8).keep ((Below.refl _ _).alloc (Nat.le_refl _) (.cells #[.int .i64 0, .slice none 0 0] 26)))
      have X8 := Lib.hid ((X7.out.keep hb8).keep ((Below.refl _ _).alloc (Nat.le_refl _) (.cells #[.int .i64 0, .slice none 0 0] 26)))
      have Y8 := Lib.hid (Cells.new w8 #[.int .i64 0, .slice none 0 0] 26)
      have B8 := Lib.hid ((below_on B7.out hb8).alloc (below_on B7.out hb8).size (.cells #[.int .i64 0, .slice none 0 0] 26))
      clear hb8 g0 g1
      have g0 := G8.out.at_ 0
      have g1 := G8.out.at_ 1
      simp only [List.getElem?_cons_zero, List.getElem?_cons_succ] at g0 g1
      go_wp2_with fail
      refine (R3.out _ B8.out).mono ?_
      rintro e w9 ⟨rfl, hb9⟩
      have G9 := Lib.hid (G8.out.keep hb9)
      have X9 := Lib.hid (X8.out.keep hb9)
      have Y9 := Lib.hid (Y8.out.keep hb9)
      have B9 := Lib.hid (below_on B8.out hb9)
      clear hb9 g0 g1
      have g0 := G9.out.at_ 0
      have g1 := G9.out.at_ 1
      simp only [List.getElem?_cons_zero, List.getElem?_cons_succ] at g0 g1
      go_wp2_with fail
      refine (R4.out _ B9.out).mono ?_
      rintro e w10 ⟨rfl, hb10⟩
      have G10 := Lib.hid (G9.out.keep hb10)
      have X10 := Lib.hid (X9.out.keep hb10)
      have Y10 := Lib.hid (Y9.out.keep hb10)
      have B10 := Lib.hid (below_on B9.out hb10)
      clear hb10 g0 g1
      have g0 := G10.out.at_ 0
      have g1 := G10.out.at_ 1
      simp only [List.getElem?_cons_zero, List.getElem?_cons_succ] at g0 g1
      go_wp2_with fail
      refine (R5.out _ B10.out).mono ?_
      rintro e w11 ⟨rfl, hb11⟩
      have G11 := Lib.hid ((G10.out.keep hb11).keep ((Below.refl _ _).alloc (Nat.le_refl _) (.cells #[.int .i64 0, .slice none 0 0] 26)))
      have X11 := Lib.hid ((X10.out.keep hb11).keep ((Below.refl _ _).alloc (Nat.le_refl _) (.cells #[.int .i64 0, .slice none 0 0] 26)))
      have Y11 := Lib.hid ((Y10.out.keep hb11).keep ((Below.refl _ _).alloc (Nat.le_refl _) (.cells #[.int .i64 0, .slice none 0 0] 26)))
      have Z11 := Lib.hid (Cells.new w11 #[.int .i64 0, .slice none 0 0] 26)
      have B11 := Lib.hid ((below_on B10.out hb11).alloc (below_on B10.out hb11).size (.cells #[.int .i64 0, .slice none 0 0] 26))
      clear hb11 g0 g1
      have g0 := G11.out.at_ 0
      have g1 := G11.out.at_ 1
      simp only [List.getElem?_cons_zero, List.getElem?_cons_succ] at g0 g1
      go_wp2_with fail
      refine (R6.out _ B11.out).mono ?_
      rintro e w12 ⟨rfl, hb12⟩
      have G12 := Lib.hid (G11.out.keep hb12)
      have X12 := Lib.hid (X11.out.keep hb12)
      have Y12 := Lib.hid (Y11.out.keep hb12)
      have Z12 := Lib.hid (Z11.out.keep hb12)
      have B12 := Lib.hid (below_on B11.out hb12)
      clear hb12 g0 g1
      have g0 := G12.out.at_ 0
      have g1 := G12.out.at_ 1
      simp only [List.getElem?_cons_zero, List.getElem?_cons_succ] at g0 g1
      go_wp2_with fail
      refine (R7.out _ B12.out).mono ?_
      rintro e w13 ⟨rfl, hb13⟩
      have X13 := Lib.hid (X12.out.keep hb13)
      have Y13 := Lib.hid (Y12.out.keep hb13)
      have Z13 := Lib.hid (Z12.out.keep hb13)
      have B13 := Lib.hid (below_on B12.out hb13)
      clear hb13 g0 g1
      have x0 := X13.out.at_ 0
      have x1 := X13.out.at_ 1
      have y0 := Y13.out.at_ 0
      have y1 := Y13.out.at_ 1
      have z0 := Z13.out.at_ 0
      have z1 := Z13.out.at_ 1
      simp only [List.getElem?_cons_zero, List.getElem?_cons_succ] at x0 x1 y0 y1 z0 z1
      go_wp2_with fail
      refine (same_zero w13).mono ?_
      rintro e w14 ⟨rfl, hb14⟩
      have X14 := Lib.hid (X13.out.keep hb14)
      have Y14 := Lib.hid (Y13.out.keep hb14)
      have Z14 := Lib.hid (Z13.out.keep hb14)
      have B14 := Lib.hid (below_on B13.out hb14)
      clear hb14 x0 x1 y0 y1 z0 z1
      have x0 := X14.out.at_ 0
      have x1 := X14.out.at_ 1
      have y0 := Y14.out.at_ 0
      have y1 := Y14.out.at_ 1
      have z0 := Z14.out.at_ 0
      have z1 := Z14.out.at_ 1
      simp only [List.getElem?_cons_zero, List.getElem?_cons_succ] at x0 x1 y0 y1 z0 z1
      go_wp2_with fail
      refine (same_zero w14).mono ?_
      rintro e w15 ⟨rfl, hb15⟩
      have X15 := Lib.hid (X14.out.keep hb15)
      have Y15 := Lib.hid (Y14.out.keep hb15)
      have Z15 := Lib.hid (Z14.out.keep hb15)
      have B15 := Lib.hid (below_on B14.out hb15)
      clear hb15 x0 x1 y0 y1 z0 z1
      have x0 := X15.out.at_ 0
      have x1 := X15.out.at_ 1
      have y0 := Y15.out.at_ 0
      have y1 := Y15.out.at_ 1
      have z0 := Z15.out.at_ 0
      have z1 := Z15.out.at_ 1
      simp only [List.getElem?_cons_zero, List.getElem?_cons_succ] at x0 x1 y0 y1 z0 z1
      go_wp2_with fail
      refine (same_zero w15).mono ?_
      rintro e w16 ⟨rfl, hb16⟩
      have B16 := Lib.hid (below_on B15.out hb16)
      clear hb16 x0 x1 y0 y1 z0 z1
      go_wp2_with fail
      go_ret
      exact ⟨by simp, B16.out⟩
end Go.Proofs.YthocdmlacfejkaaDoor
