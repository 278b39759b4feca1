/- The law GraphMirrors. -/
import Derived.Test.YthocdmlacfejkaaDoorMI
import Derived.Test.YthocdmlacfejkaaDoorGrh
import Derived.Test.YthocdmlacfejkaaDoorCls
import Derived.Test.YthocdmlacfejkaaDoorLvs
namespace Go.Proofs.YthocdmlacfejkaaDoor
open Go.RowKit
set_option maxRecDepth 100000 in
set_option maxHeartbeats 8000000 in
theorem gmi_any (n : Int) (A : Option Addr) (m c : Nat) (es : List (Int × Int)) (w : World) (h : EL w A m es) (hw : Good w) :
    Calls Tryd.prog 11 #[gV n A m c] w fun e w' => e = .returned (.bool true) ∧ Below w.heap.size w w' := by
  have kv := (Below.refl w.heap.size w).alloc (Nat.le_refl _) (.cells #[.int .i64 n, .slice A m c] 26)
  have HG := Lib.hid (fun w' (hb : Below w.heap.size w w') => hw.below hb hw.size)
  have HK := Lib.hid (fun w' (hb : Below w.heap.size w w') => known_any w' (hw.below hb hw.size))
  have HE := Lib.hid (fun w' (hb : Below w.heap.size w w') => h.keep hb)
  have G0 := Lib.hid (Cells.new w #[.int .i64 n, .slice A m c] 26)
  have HF := Lib.hid (fun w' (hb : Below w.heap.size w w') => fine_any n A m c es w' (h.keep hb))
  have hml := h.1
  obtain ⟨fb, hfb⟩ : ∃ fb, fineG n m es = fb := ⟨_, rfl⟩
  rw [hfb] at HF
  have B0 := Lib.hid kv
  clear h hw kv
  go_enter Tryd.func11, Tryd.ntmps11
  go_wp2_with fail
  refine (HK.out _ B0.out).mono ?_
  rintro e w1 ⟨rfl, hb1⟩
  have G1 := Lib.hid (G0.out.keep hb1)
  have B1 := Lib.hid (below_on B0.out hb1)
  have g0 := G1.out.at_ 0
  have g1 := G1.out.at_ 1
  simp only [List.getElem?_cons_zero, List.getElem?_cons_succ] at g0 g1
  clear hb1
  go_wp2_with fail
  refine (HF.out _ B1.out).mono ?_
  rintro e w2 ⟨rfl, hb2⟩
  have G2 := Lib.hid (G1.out.keep hb2)
  have B2 := Lib.hid (below_on B1.out hb2)
  clear hb2 g0 g1
  cases fb with
  | false =>
    clear hfb
    go_wp2_with fail
    refine (HK.out _ B2.out).mono ?_
    rintro e w3 ⟨rfl, hb3⟩
    have B3 := Lib.hid (below_on B2.out hb3)
    clear hb3
    go_wp2_with fail
    go_ret
    exact ⟨rfl, B3.out⟩
  | true =>
    obtain ⟨k, l, rfl, rfl, hf, hk8, hm24⟩ := fine_split hfb
    have Hf := Lib.hid hf
    have hM2 := Lib.hid (show m ≤ 100000 by omega)
    clear hfb
    have Hl := Lib.hid Hf.out.low
    have Hn := Lib.hid Hf.out.n64
    have Hr := Lib.hid (made_fine (revE_low Hl.out) Hn.out)
    have hcs := cls_small Hl.out Hn.out
    have hps := cls_small (both_low Hl.out) Hn.out
    have Hcr := Lib.hid (cls_rev Hl.out Hn.out)
    have Hpr := Lib.hid (show clsM k (bothE (makeL k (revE l))) = clsM k (bothE l) from cls_adj (both_rev Hl.out))
    have Hmi := Lib.hid (fun u v a b hu hv ha hb => clos_mirror (u := u) (v := v) (a := a) (b := b) Hl.out Hn.out hu hv ha hb)
    have hclg : ((closM l k).map bitsOf).length = k := by rw [List.length_map, closM_len]
    have hclr : ((closM (makeL k (revE l)) k).map bitsOf).length = k := by rw [List.length_map, closM_len]
    have hR := reverse_ok k A m c l w2 (HE.out _ B2.out) Hf.out
    unfold MakPost at hR
    obtain ⟨r, hr⟩ : ∃ r, makeL k (revE l) = r := ⟨_, rfl⟩
    rw [hr] at hR Hr Hcr Hpr Hmi hclr
    obtain ⟨CG, hCG⟩ : ∃ CG, (closM l k).map bitsOf = CG := ⟨_, rfl⟩
    obtain ⟨CR, hCR⟩ : ∃ CR, (closM r k).map bitsOf = CR := ⟨_, rfl⟩
    rw [hCG] at Hmi hclg
    rw [hCR] at Hmi hclr
    have HR := Lib.hid hR
    have HCg := Lib.hid (fun w' (hb : Below w.heap.size w w') => closureG_any k A m c l w' (HE.out _ hb) Hf.out (HG.out _ hb))
    have HCr := Lib.hid (fun P d w' (hE : EL w' P r.length (cast r)) (hb : Below w.heap.size w w') => closureG_any k P r.length d r w' hE Hr.out (HG.out _ hb))
    rw [hCG] at HCg
    rw [hCR] at HCr
    have HKg := Lib.hid (fun w' (hb : Below w.heap.size w w') => compsC_any k A m c l w' (HE.out _ hb) Hf.out (HG.out _ hb))
    have HKr := Lib.hid (fun P d w' (hE : EL w' P r.length (cast r)) (hb : Below w.heap.size w w') => compsC_any k P r.length d r w' hE Hr.out (HG.out _ hb))
    have HPg := Lib.hid (fun w' (hb : Below w.heap.size w w') => partsC_any k A m c l w' (HE.out _ hb) Hf.out (HG.out _ hb))
    have HPr := Lib.hid (fun P d w' (hE : EL w' P r.length (cast r)) (hb : Below w.heap.size w w') => partsC_any k P r.length d r w' hE Hr.out (HG.out _ hb))
    rw [Hcr.out] at HKr
    rw [Hpr.out] at HPr
    obtain ⟨KG, hKG⟩ : ∃ KG, clsM k l = KG := ⟨_, rfl⟩
    obtain ⟨PG, hPG⟩ : ∃ PG, clsM k (bothE l) = PG := ⟨_, rfl⟩
    rw [hKG] at hcs HKg HKr
    rw [hPG] at hps HPg HPr
    have Hcs := Lib.hid hcs
    have Hps := Lib.hid hps
    have tkk : ((k : Int) != (k : Int)) = false := by simp
    have Hclg := Lib.hid hclg
    have Hclr := Lib.hid hclr
    clear hr hCG hCR hKG hPG hcs hps hR Hcr Hpr hclg hclr
    have g0 := G2.out.at_ 0
    have g1 := G2.out.at_ 1
    simp only [List.getElem?_cons_zero, List.getElem?_cons_succ] at g0 g1
    go_wp2_with fail
    refine (HR.out).mono ?_
    rintro e w3 ⟨⟨P3, d3, rfl, hE3, _⟩, hb3⟩
    have kx := (Below.refl w3.heap.size w3).alloc (Nat.le_refl _) (.cells #[.int .i64 (k : Nat), .slice P3 r.length d3] 26)
    have b3 := below_on hb3 kx
    have G3 := Lib.hid (G2.out.keep b3)
    have B3 := Lib.hid (below_on B2.out b3)
    have R3 := Lib.hid ((hE3).keep kx)
    have X3 := Lib.hid (Cells.new w3 #[.int .i64 (k : Nat), .slice P3 r.length d3] 26)
    clear hb3 kx b3 g0 g1 hE3
    obtain ⟨w3', hw3⟩ : ∃ u, w3.alloc (.cells #[.int .i64 (k : Nat), .slice P3 r.length d3] 26) = u := ⟨_, rfl⟩
    rw [hw3] at G3 B3 R3 X3
    have Bq := Lib.hid (Below.refl w3'.heap.size w3')
    obtain ⟨gx, hgx⟩ : ∃ q, w3.heap.size = q := ⟨_, rfl⟩
    rw [hgx] at X3
    have g0 := G3.out.at_ 0
    have g1 := G3.out.at_ 1
    simp only [List.getElem?_cons_zero, List.getElem?_cons_succ] at g0 g1
    have HCg3 := HCg.out _ B3.out
    have HCg3 := Lib.hid HCg3
    go_wp2_with fail
    refine (HCg3.out).mono ?_
    rintro e w4 ⟨A4, rfl, hl4, hb4⟩
    have G4 := Lib.hid (G3.out.keep hb4)
    have R4 := Lib.hid (R3.out.keep hb4)
    have X4 := Lib.hid (X3.out.keep hb4)
    have B4 := Lib.hid (below_on B3.out hb4)
    have M4 := Lib.hid (hl4)
    clear hb4 g0 g1 hl4 hw3
    have x0 := X4.out.at_ 0
    have x1 := X4.out.at_ 1
    simp only [List.getElem?_cons_zero, List.getElem?_cons_succ] at x0 x1
    go_wp2_with fail
    refine (HCr.out _ _ _ R4.out B4.out).mono ?_
    rintro e w5 ⟨A5, rfl, hl5, hb5⟩
    have G5 := Lib.hid (G4.out.keep hb5)
    have R5 := Lib.hid (R4.out.keep hb5)
    have X5 := Lib.hid (X4.out.keep hb5)
    have M5 := Lib.hid (M4.out.keep hb5)
    have B5 := Lib.hid (below_on B4.out hb5)
    have N5 := Lib.hid (hl5)
    clear hb5 x0 x1 hl5
    have g0 := G5.out.at_ 0
    have g1 := G5.out.at_ 1
    simp only [List.getElem?_cons_zero, List.getElem?_cons_succ] at g0 g1
    go_wp2_with fail
    clear g0 g1
    go_loopw [9, 10, 68, 73] (fun _ _ i _ wr => ∃ v : Nat, i = .int .i64 (v : Nat) ∧ v ≤ k ∧ Below w5.heap.size w5 wr) (fun _ _ i _ _ => k - (intOf i).toNat)
    case atStart => exact ⟨0, rfl, Nat.zero_le _, Below.refl _ _⟩
    case round =>
      obtain ⟨v, rfl, hv, hb⟩ := hrel
      have Bv := Lib.hid hb
      clear hb
      obtain ⟨wa, rfl⟩ : ∃ wa : World, wa = wr := ⟨_, rfl⟩
      have g0 := (G5.out.keep Bv.out).at_ 0
      have g1 := (G5.out.keep Bv.out).at_ 1
      simp only [List.getElem?_cons_zero, List.getElem?_cons_succ] at g0 g1
      by_cases hvk : v < k
      · have Hvk := Lib.hid hvk
        go_wp2_with fail
        clear hvk
        go_loopw [10, 73] (fun _ i wr => ∃ u : Nat, i = .int .i64 (u : Nat) ∧ u ≤ k ∧ Below w5.heap.size w5 wr) (fun _ i _ => k - (intOf i).toNat)
        case atStart => exact ⟨0, rfl, Nat.zero_le _, Bv.out⟩
        case round =>
          obtain ⟨u, rfl, hu, hb⟩ := hrel
          have Bu := Lib.hid hb
          clear hb g0 g1
          obtain ⟨wb, rfl⟩ : ∃ wb : World, wb = wr := ⟨_, rfl⟩
          by_cases huk : u < k
          · have Huk := Lib.hid huk
            obtain ⟨a, ba, oa, Aa, ca, ha, rfl, _, _, c0, na⟩ := (M5.out.keep Bu.out).at_ (k := v) (by rw [Hclg.out]; exact Hvk.out)
            obtain ⟨b, bb, ob, Ab, cb, hb, rfl, _, _, c1, nb⟩ := (N5.out.keep Bu.out).at_ (k := u) (by rw [Hclr.out]; exact huk)
            obtain ⟨hcon, hal, hbl⟩ := Hmi.out u v a b huk Hvk.out ha hb
            obtain ⟨q, hq⟩ : ∃ q, b.contains v = q := ⟨_, rfl⟩
            rw [hq] at hcon
            have Hq := Lib.hid hq
            have Hcon := Lib.hid hcon
            have HSa := Lib.hid (fun w' (h : Below wb.heap.size wb w') => containsI_any Aa ca a u w' (na.il.keep h) hal)
            have HSb := Lib.hid (fun w' (h : Below wb.heap.size wb w') => containsI_any Ab cb b v w' (nb.il.keep h) hbl)
            rw [hcon] at HSa
            rw [hq] at HSb
            have vi : (v : Int) < (k : Int) := by have := Hvk.out; omega
            have ui : (u : Int) < (k : Int) := by omega
            have tq : (q != q) = false := by simp
            have K0 := Lib.hid (fun w' (h : Below wb.heap.size wb w') => (h.cell (World.block_lt_of_cell? _ _ c0)).trans c0)
            have K1 := Lib.hid (fun w' (h : Below wb.heap.size wb w') => (h.cell (World.block_lt_of_cell? _ _ c1)).trans c1)
            clear ha hb hcon hq c0 c1 na nb huk
            go_wp2_with fail
            have HS := Lib.hid (fun w' (hb : Below wb.heap.size wb w') => (⟨K0.out _ hb, K1.out _ hb⟩ : w'.cell? ⟨ba, oa + v, none⟩ = some (.slice Aa a.length ca) ∧ w'.cell? ⟨bb, ob + u, none⟩ = some (.slice Ab b.length cb)))
            refine Till.begin 12 (fun w' => w'.cell? ⟨ba, oa + v, none⟩ = some (.slice Aa a.length ca) ∧ w'.cell? ⟨bb, ob + u, none⟩ = some (.slice Ab b.length cb)) (by kernel_rfl) (HS.out _ (Below.refl _ _).drew) (fun hH => ?_)
            clear hH
            have HB := Lib.hid (Below.refl wb.heap.size wb).drew
            generalize wb.drew = v0 at HB ⊢
            try simp only [List.setIfInBounds_toArray, List.set_cons_zero, List.set_cons_succ]
            refine Till.tL 0 [2, 3, 5, 12] 76 (.slice (some ⟨ba, oa, none⟩) k k) (HS.out _ HB.out) ?_
            try simp only [Act.put, List.setIfInBounds_toArray, List.set_cons_zero, List.set_cons_succ]
            refine Till.tL 1 [2, 3, 5, 12] 77 (.int .i64 (v : Nat)) (HS.out _ HB.out) ?_
            try simp only [Act.put, List.setIfInBounds_toArray, List.set_cons_zero, List.set_cons_succ]
            refine Till.tL 2 [3, 5, 12] 78 (.pointer (some ⟨ba, oa + v, none⟩)) (HS.out _ HB.out) ?_
            try simp only [Act.put, List.setIfInBounds_toArray, List.set_cons_zero, List.set_cons_succ]
            refine Till.tk 3 5 79 (.slice Aa a.length ca) (HS.out _ HB.out) ?_
            try simp only [Act.put, List.setIfInBounds_toArray, List.set_cons_zero, List.set_cons_succ]
            refine Till.tk 4 5 80 (.int .i64 (u : Nat)) (HS.out _ HB.out) ?_
            try simp only [Act.put, List.setIfInBounds_toArray, List.set_cons_zero, List.set_cons_succ]
            refine Till.tL 6 [8, 9, 11, 12] 82 (.slice (some ⟨bb, ob, none⟩) k k) (HS.out _ HB.out) ?_
            try simp only [Act.put, List.setIfInBounds_toArray, List.set_cons_zero, List.set_cons_succ]
            refine Till.tL 7 [8, 9, 11, 12] 83 (.int .i64 (u : Nat)) (HS.out _ HB.out) ?_
            try simp only [Act.put, List.setIfInBounds_toArray, List.set_cons_zero, List.set_cons_succ]
            refine Till.tL 8 [9, 11, 12] 84 (.pointer (some ⟨bb, ob + u, none⟩)) (HS.out _ HB.out) ?_
            try simp only [Act.put, List.setIfInBounds_toArray, List.set_cons_zero, List.set_cons_succ]
            refine Till.tk 9 11 85 (.slice Ab b.length cb) (HS.out _ HB.out) ?_
            try simp only [Act.put, List.setIfInBounds_toArray, List.set_cons_zero, List.set_cons_succ]
            refine Till.tk 10 11 86 (.int .i64 (v : Nat)) (HS.out _ HB.out) ?_
            try simp only [Act.put, List.setIfInBounds_toArray, List.set_cons_zero, List.set_cons_succ]
            refine Till.one (i := 5) (by kernel_rfl) rfl (fun K hK => ?_)
            go_simp
            refine (HSa.out _ HB.out).mono ?_
            rintro e v1 ⟨rfl, g⟩
            replace HB := Lib.hid (below_on HB.out g)
            clear g
            go_wp2_with fail
            refine hK.out _ _ (fun _ => HS.out _ HB.out) ?_
            clear hK K
            try simp only [List.setIfInBounds_toArray, List.set_cons_zero, List.set_cons_succ]
            refine Till.one (i := 11) (by kernel_rfl) rfl (fun K hK => ?_)
            go_simp
            refine (HSb.out _ HB.out).mono ?_
            rintro e v2 ⟨rfl, g⟩
            replace HB := Lib.hid (below_on HB.out g)
            clear g
            go_wp2_with fail
            refine hK.out _ _ (fun _ => HS.out _ HB.out) ?_
            clear hK K
            try simp only [List.setIfInBounds_toArray, List.set_cons_zero, List.set_cons_succ]
            refine Till.one (i := 12) (by kernel_rfl) rfl (fun K hK => ?_)
            go_simp
            refine hK.out _ _ (fun h => absurd h (by simp)) ?_
            clear hK K
            try simp only [List.setIfInBounds_toArray, List.set_cons_zero, List.set_cons_succ]
            refine Till.done (by kernel_rfl) ?_ _
            have Bz := Lib.hid (below_on Bu.out HB.out)
            go_wp2_with fail
            go_roundw
            case rel => exact ⟨u + 1, by go_num, Huk.out, Bz.out⟩
            case measure => simp [intOf]; have := Huk.out; omega
          · have huk' : u = k := by omega
            subst huk'
            go_wp2_with fail
            go_roundw
            case rel => exact ⟨v + 1, by go_num, Hvk.out, Bu.out⟩
            case measure => simp [intOf]; have := Hvk.out; omega
      · have hvk2 : ¬ ((v : Int) < (k : Int)) := by omega
        have GG := Lib.hid (G5.out.keep Bv.out)
        have XX := Lib.hid (X5.out.keep Bv.out)
        have RR := Lib.hid (R5.out.keep Bv.out)
        have BB := Lib.hid (below_on B5.out Bv.out)
        clear G5 X5 R5 B5 M5 N5
        obtain ⟨w5', rfl⟩ : ∃ w', w' = wa := ⟨_, rfl⟩
        have G6 := Lib.hid GG.out
        have X6 := Lib.hid XX.out
        have R6 := Lib.hid RR.out
        have B6 := Lib.hid BB.out
        clear GG XX RR BB
        obtain ⟨w6, rfl⟩ : ∃ w', w' = w5' := ⟨_, rfl⟩
        try clear g0 g1
        have g0 := G6.out.at_ 0
        have g1 := G6.out.at_ 1
        simp only [List.getElem?_cons_zero, List.getElem?_cons_succ] at g0 g1
        go_wp2_with fail
        refine (HKg.out _ B6.out).mono ?_
        rintro e w7 ⟨A7, rfl, hl7, hb7⟩
        have G7 := Lib.hid (G6.out.keep hb7)
        have X7 := Lib.hid (X6.out.keep hb7)
        have R7 := Lib.hid (R6.out.keep hb7)
        have B7 := Lib.hid (below_on B6.out hb7)
        have K7 := Lib.hid (hl7)
        clear hb7 g0 g1 hl7
        have x0 := X7.out.at_ 0
        have x1 := X7.out.at_ 1
        simp only [List.getElem?_cons_zero, List.getElem?_cons_succ] at x0 x1
        go_wp2_with fail
        refine (HKr.out _ _ _ R7.out B7.out).mono ?_
        rintro e w8 ⟨A8, rfl, hl8, hb8⟩
        have G8 := Lib.hid (G7.out.keep hb8)
        have X8 := Lib.hid (X7.out.keep hb8)
        have R8 := Lib.hid (R7.out.keep hb8)
        have K8 := Lib.hid (K7.out.keep hb8)
        have B8 := Lib.hid (below_on B7.out hb8)
        have Q8 := Lib.hid (hl8)
        clear hb8 x0 x1 hl8
        have g0 := G8.out.at_ 0
        have g1 := G8.out.at_ 1
        simp only [List.getElem?_cons_zero, List.getElem?_cons_succ] at g0 g1
        go_wp2_with fail
        refine (HPg.out _ B8.out).mono ?_
        rintro e w9 ⟨A9, rfl, hl9, hb9⟩
        have X9 := Lib.hid (X8.out.keep hb9)
        have R9 := Lib.hid (R8.out.keep hb9)
        have K9 := Lib.hid (K8.out.keep hb9)
        have Q9 := Lib.hid (Q8.out.keep hb9)
        have B9 := Lib.hid (below_on B8.out hb9)
        have S9 := Lib.hid (hl9)
        clear hb9 g0 g1 hl9
        have x0 := X9.out.at_ 0
        have x1 := X9.out.at_ 1
        simp only [List.getElem?_cons_zero, List.getElem?_cons_succ] at x0 x1
        go_wp2_with fail
        refine (HPr.out _ _ _ R9.out B9.out).mono ?_
        rintro e w10 ⟨A10, rfl, hl10, hb10⟩
        have K10 := Lib.hid (K9.out.keep hb10)
        have Q10 := Lib.hid (Q9.out.keep hb10)
        have S10 := Lib.hid (S9.out.keep hb10)
        have B10 := Lib.hid (below_on B9.out hb10)
        have T10 := Lib.hid (hl10)
        clear hb10 x0 x1 hl10
        have HQ := lawLists_any _ _ A7 A8 KG.length KG.length KG KG w10 K10.out Q10.out (by have := Hcs.out.1; omega) (by have := Hcs.out.1; omega) (fun x hx => by have := Hcs.out.2 x hx; omega) (fun x hx => by have := Hcs.out.2 x hx; omega)
        rw [beq_self_eq_true] at HQ
        have HQ := Lib.hid HQ
        go_wp2_with fail
        refine (HQ.out).mono ?_
        rintro e w11 ⟨rfl, hb11⟩
        have S11 := Lib.hid (S10.out.keep hb11)
        have T11 := Lib.hid (T10.out.keep hb11)
        have B11 := Lib.hid (below_on B10.out hb11)
        clear hb11  
        have HQ := lawLists_any _ _ A9 A10 PG.length PG.length PG PG w11 S11.out T11.out (by have := Hps.out.1; omega) (by have := Hps.out.1; omega) (fun x hx => by have := Hps.out.2 x hx; omega) (fun x hx => by have := Hps.out.2 x hx; omega)
        rw [beq_self_eq_true] at HQ
        have HQ := Lib.hid HQ
        go_wp2_with fail
        refine (HQ.out).mono ?_
        rintro e w12 ⟨rfl, hb12⟩
        have B12 := Lib.hid (below_on B11.out hb12)
        clear hb12  
        go_wp2_with fail
        go_ret
        exact ⟨by simp, B12.out⟩
end Go.Proofs.YthocdmlacfejkaaDoor
