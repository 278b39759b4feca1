/- The law GraphOrders. -/
import Derived.Test.YthocdmlacfejkaaDoorMK
import Derived.Test.YthocdmlacfejkaaDoorMI
import Derived.Test.YthocdmlacfejkaaDoorGrh
namespace Go.Proofs.YthocdmlacfejkaaDoor
open Go.RowKit
theorem ordO_len {es : List (Nat × Nat)} {n : Nat} : ∀ {k d : Nat} {l : List Nat}, ordO es n k d = some l → l.length = k
  | 0, d, l, h => by rw [ordO] at h; injection h with h; rw [← h]; rfl
  | k + 1, d, l, h => by
    rw [ordO] at h
    cases hn : nextO es n d with
    | none => rw [hn] at h; cases h
    | some v =>
      rw [hn] at h
      simp only at h
      cases ho : ordO es n k (d ||| sing v) with
      | none => rw [ho] at h; cases h
      | some l' =>
        rw [ho] at h
        injection h with h
        rw [← h, List.length_cons, ordO_len ho]
theorem ordLs_len (es : List (Nat × Nat)) (n : Nat) : (ordLs es n).length ≤ n := by
  unfold ordLs
  cases h : ordO es n n 0 with
  | none => simp
  | some l => rw [Option.getD_some, ordO_len h]; exact Nat.le_refl _
theorem cylL_len (es : List (Nat × Nat)) (n : Nat) : (cylL es n).length ≤ 65 := by
  have h := cyc_link es n
  unfold cylL
  cases hr : refC es n with
  | none => rw [hr] at h; simp only at h; rw [h]; simp
  | some p =>
    obtain ⟨b, a⟩ := p
    rw [hr] at h
    simp only at h
    rw [h.2.2.2, Option.getD_some, List.length_take]
    omega
set_option maxRecDepth 100000 in
set_option maxHeartbeats 8000000 in
theorem gor_any (n : Int) (A : Option Addr) (m c : Nat) (es : List (Int × Int)) (w : World) (h : EL w A m es) (hw : Good w) :
    Calls Tryd.prog 9 #[gV n A m c] w fun e w' => e = .returned (.bool true) ∧ Below w.heap.size w w' := by
  have kv := (Below.refl w.heap.size w).alloc (Nat.le_refl _) (.cells #[.int .i64 n, .slice A m c] 26)
  have HG := Lib.hid (fun w' (hb : Below w.heap.size w w') => hw.below hb hw.size)
  have HK := Lib.hid (fun w' (hb : Below w.heap.size w w') => known_any w' (hw.below hb hw.size))
  have HE := Lib.hid (fun w' (hb : Below w.heap.size w w') => h.keep hb)
  have G0 := Lib.hid (Cells.new w #[.int .i64 n, .slice A m c] 26)
  have HF := Lib.hid (fun w' (hb : Below w.heap.size w w') => fine_any n A m c es w' (h.keep hb))
  have hml := h.1
  obtain ⟨fb, hfb⟩ : ∃ fb, fineG n m es = fb := ⟨_, rfl⟩
  rw [hfb] at HF
  have B0 := Lib.hid kv
  clear h hw kv
  go_enter Tryd.func9, Tryd.ntmps9
  go_wp2_with fail
  refine (HK.out _ B0.out).mono ?_
  rintro e w1 ⟨rfl, hb1⟩
  have G1 := Lib.hid (G0.out.keep hb1)
  have B1 := Lib.hid (below_on B0.out hb1)
  have g0 := G1.out.at_ 0
  have g1 := G1.out.at_ 1
  simp only [List.getElem?_cons_zero, List.getElem?_cons_succ] at g0 g1
  clear hb1
  go_wp2_with fail
  refine (HF.out _ B1.out).mono ?_
  rintro e w2 ⟨rfl, hb2⟩
  have G2 := Lib.hid (G1.out.keep hb2)
  have B2 := Lib.hid (below_on B1.out hb2)
  clear hb2 g0 g1
  cases fb with
  | false =>
    clear hfb
    go_wp2_with fail
    refine (HK.out _ B2.out).mono ?_
    rintro e w3 ⟨rfl, hb3⟩
    have B3 := Lib.hid (below_on B2.out hb3)
    clear hb3
    go_wp2_with fail
    go_ret
    exact ⟨rfl, B3.out⟩
  | true =>
    obtain ⟨k, l, rfl, rfl, hf, hk8, hm24⟩ := fine_split hfb
    have Hf := Lib.hid hf
    have hM2 := Lib.hid (show m ≤ 100000 by omega)
    clear hfb
    have HPa := Lib.hid (fun P d w' (h : EL w' P m (cast l)) => order_any k P m d l w' h hf)
    have HPb := Lib.hid (fun P d w' (h : EL w' P m (cast l)) (hb : Below w.heap.size w w') => (cycle_any k P m d l w' h hf (HG.out _ hb)).mono fun e w2 h => h.one)
    have HRa := Lib.hid (fun P d w' (h : EL w' P m (cast l)) => refOrder_any k P m d l w' h hf)
    have HRb := Lib.hid (fun P d w' (h : EL w' P m (cast l)) => refCycle_any k P m d l w' h hf)
    unfold OrdPost at HPa HRa
    unfold CycQ at HPb HRb
    have hl1 := ordLs_len l k
    have hl2 := cylL_len l k
    obtain ⟨e1, he1⟩ : ∃ e1, ordC l k = e1 := ⟨_, rfl⟩
    obtain ⟨e2, he2⟩ : ∃ e2, cylE l k = e2 := ⟨_, rfl⟩
    obtain ⟨L1, hL1⟩ : ∃ L1, ordLs l k = L1 := ⟨_, rfl⟩
    obtain ⟨L2, hL2⟩ : ∃ L2, cylL l k = L2 := ⟨_, rfl⟩
    rw [he1, hL1] at HPa HRa
    rw [he2, hL2] at HPb HRb
    rw [hL1] at hl1
    rw [hL2] at hl2
    have t1 : (e1 == e1) = true := by simp
    have t2 : (e2 == e2) = true := by simp
    clear he1 he2 hL1 hL2 hf
    have g0 := G2.out.at_ 0
    have g1 := G2.out.at_ 1
    simp only [List.getElem?_cons_zero, List.getElem?_cons_succ] at g0 g1
    go_wp2_with fail
    refine (copied_any k A m c (cast l) w2 (HE.out _ B2.out) hM2.out).mono ?_
    rintro e w3 ⟨P3, d3, rfl, hE3, hb3⟩
    have G3 := Lib.hid (G2.out.keep hb3)
    have B3 := Lib.hid (below_on B2.out hb3)
    have E3 := Lib.hid (hE3)
    clear hb3 g0 g1 hE3
    go_wp2_with fail
    refine (HPa.out _ _ _ E3.out).mono ?_
    rintro e w4 ⟨⟨A4, c4, rfl, hN4⟩, hb4⟩
    have G4 := Lib.hid (G3.out.keep hb4)
    have B4 := Lib.hid (below_on B3.out hb4)
    have N4 := Lib.hid (hN4.il)
    clear hb4  hN4
    have g0 := G4.out.at_ 0
    have g1 := G4.out.at_ 1
    simp only [List.getElem?_cons_zero, List.getElem?_cons_succ] at g0 g1
    go_wp2_with fail
    refine (copied_any k A m c (cast l) w4 (HE.out _ B4.out) hM2.out).mono ?_
    rintro e w5 ⟨P5, d5, rfl, hE5, hb5⟩
    have G5 := Lib.hid (G4.out.keep hb5)
    have N5 := Lib.hid (N4.out.keep hb5)
    have B5 := Lib.hid (below_on B4.out hb5)
    have E5 := Lib.hid (hE5)
    clear hb5 g0 g1 hE5
    go_wp2_with fail
    refine (HPb.out _ _ _ E5.out B5.out).mono ?_
    rintro e w6 ⟨⟨A6, c6, rfl, hN6⟩, hb6⟩
    have G6 := Lib.hid (G5.out.keep hb6)
    have N6 := Lib.hid (N5.out.keep hb6)
    have B6 := Lib.hid (below_on B5.out hb6)
    have M6 := Lib.hid (hN6.il)
    clear hb6  hN6
    have g0 := G6.out.at_ 0
    have g1 := G6.out.at_ 1
    simp only [List.getElem?_cons_zero, List.getElem?_cons_succ] at g0 g1
    go_wp2_with fail
    refine (plain_any k A m c (cast l) w6 (HE.out _ B6.out) hM2.out).mono ?_
    rintro e w7 ⟨P7, d7, rfl, hE7, hb7⟩
    have G7 := Lib.hid (G6.out.keep hb7)
    have N7 := Lib.hid (N6.out.keep hb7)
    have M7 := Lib.hid (M6.out.keep hb7)
    have B7 := Lib.hid (below_on B6.out hb7)
    have E7 := Lib.hid (hE7)
    clear hb7 g0 g1 hE7
    go_wp2_with fail
    refine (HRa.out _ _ _ E7.out).mono ?_
    rintro e w8 ⟨⟨A8, c8, rfl, hN8⟩, hb8⟩
    have G8 := Lib.hid (G7.out.keep hb8)
    have N8 := Lib.hid (N7.out.keep hb8)
    have M8 := Lib.hid (M7.out.keep hb8)
    have B8 := Lib.hid (below_on B7.out hb8)
    have O8 := Lib.hid (hN8.il)
    clear hb8  hN8
    have g0 := G8.out.at_ 0
    have g1 := G8.out.at_ 1
    simp only [List.getElem?_cons_zero, List.getElem?_cons_succ] at g0 g1
    go_wp2_with fail
    refine (plain_any k A m c (cast l) w8 (HE.out _ B8.out) hM2.out).mono ?_
    rintro e w9 ⟨P9, d9, rfl, hE9, hb9⟩
    have G9 := Lib.hid (G8.out.keep hb9)
    have N9 := Lib.hid (N8.out.keep hb9)
    have M9 := Lib.hid (M8.out.keep hb9)
    have O9 := Lib.hid (O8.out.keep hb9)
    have B9 := Lib.hid (below_on B8.out hb9)
    have E9 := Lib.hid (hE9)
    clear hb9 g0 g1 hE9
    go_wp2_with fail
    refine (HRb.out _ _ _ E9.out).mono ?_
    rintro e w10 ⟨⟨A10, c10, rfl, hN10⟩, hb10⟩
    have G10 := Lib.hid (G9.out.keep hb10)
    have N10 := Lib.hid (N9.out.keep hb10)
    have M10 := Lib.hid (M9.out.keep hb10)
    have O10 := Lib.hid (O9.out.keep hb10)
    have B10 := Lib.hid (below_on B9.out hb10)
    have Q10 := Lib.hid (hN10.il)
    clear hb10  hN10
    have HQ := equal_any A4 A8 c4 c8 (zs L1) (zs L1) w10 N10.out O10.out (by rw [zs_len]; omega) (by rw [zs_len]; omega)
    rw [zs_len, beq_self_eq_true] at HQ
    have HQ := Lib.hid HQ
    go_wp2_with fail
    refine (HQ.out).mono ?_
    rintro e w11 ⟨rfl, hb11⟩
    have M11 := Lib.hid (M10.out.keep hb11)
    have Q11 := Lib.hid (Q10.out.keep hb11)
    have B11 := Lib.hid (below_on B10.out hb11)
    clear hb11  
    have HQ := equal_any A6 A10 c6 c10 (zs L2) (zs L2) w11 M11.out Q11.out (by rw [zs_len]; omega) (by rw [zs_len]; omega)
    rw [zs_len, beq_self_eq_true] at HQ
    have HQ := Lib.hid HQ
    go_wp2_with fail
    refine (HQ.out).mono ?_
    rintro e w12 ⟨rfl, hb12⟩
    have B12 := Lib.hid (below_on B11.out hb12)
    clear hb12  
    go_wp2_with fail
    go_ret
    exact ⟨by simp, B12.out⟩
end Go.Proofs.YthocdmlacfejkaaDoor
