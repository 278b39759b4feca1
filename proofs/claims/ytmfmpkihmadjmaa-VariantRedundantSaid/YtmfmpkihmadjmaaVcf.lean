/- VariantRedundant: the walk. -/
import Derived.Test.YtmfmpkihmadjmaaVce
namespace Go.Proofs.Ytmfmpkihmadjmaa
open Go.RowKit Go.Shelf
set_option maxRecDepth 100000 in
set_option maxHeartbeats 16000000 in
theorem redundant_any (o m : Nat) (ho : o < 256) (hm : o % 6 = m) (RA GA VA : Option Addr) (rn rc gn gc vn vc : Nat) (kr kg kv : List (List Int))  (w : World) (hkr : I8LL w RA kr) (hkg : I8LL w GA kg) (hkv : I8LL w VA kv) (lr : kr.length = rn) (lg : kg.length = gn) (lv : kv.length = vn) (h8r : ∀ l ∈ kr, ∀ k ∈ l, -128 ≤ k ∧ k < 128) (h8g : ∀ l ∈ kg, ∀ k ∈ l, -128 ≤ k ∧ k < 128) (h8v : ∀ l ∈ kv, ∀ k ∈ l, -128 ≤ k ∧ k < 128) :
    Calls Try.prog 8 #[.agg #[.int .u8 (o : Nat), .slice RA rn rc, .slice GA gn gc, .slice VA vn vc], ] w fun e w' => e = .returned (.bool true) ∧ Below w.heap.size w w' := by
  have HFam := Lib.hid (fun (I J : Option Addr) (ic : Nat) (W : World) (hb : Below w.heap.size w W) (hD : DimL W J plainD) => family_any o m ho hm RA GA VA I J rn rc gn gc vn vc ic kr kg kv W (hkr.keep hb) (hkg.keep hb) (hkv.keep hb) lr lg lv h8r h8g h8v hD)
  clear hkr hkg hkv lr lg lv h8r h8g h8v
  have k1 := (Below.refl w.heap.size w).alloc (Nat.le_refl _) (.cells #[.int .u8 (o : Nat), .slice RA rn rc, .slice GA gn gc, .slice VA vn vc] 24)
  have C1 := Cells.new w #[.int .u8 (o : Nat), .slice RA rn rc, .slice GA gn gc, .slice VA vn vc] 24
  obtain ⟨w1, hw1⟩ : ∃ u, w.alloc (.cells #[.int .u8 (o : Nat), .slice RA rn rc, .slice GA gn gc, .slice VA vn vc] 24) = u := ⟨_, rfl⟩
  rw [hw1] at k1 C1
  have HC1 := Lib.hid C1
  have HK1 := Lib.hid k1
  clear C1 k1
  go_enter Try.func8, Try.ntmps8
  go_wp2_with fail
  refine (known_true w1).mono ?_
  rintro e w2 ⟨rfl, hb⟩
  clear hw1
  have HC2 := Lib.hid (HC1.out.keep hb)
  have HK2 := Lib.hid (below_on HK1.out hb)
  clear hb HC1
  go_upto_region 3 with fail
  go_cut [3] (fun s wx => Started w2 m kr kg kv s wx)
  case first =>
    have HS := Lib.hid (fun w' (hb : Below w2.heap.size w2 w') => (show w'.cell? ⟨w.heap.size, 0, none⟩ = some (.int .u8 (o : Nat)) ∧ w'.cell? ⟨w.heap.size, 1, none⟩ = some (.slice RA rn rc) ∧ w'.cell? ⟨w.heap.size, 2, none⟩ = some (.slice GA gn gc) ∧ w'.cell? ⟨w.heap.size, 3, none⟩ = some (.slice VA vn vc) from ⟨(HC2.out.keep hb).at_ 0, (HC2.out.keep hb).at_ 1, (HC2.out.keep hb).at_ 2, (HC2.out.keep hb).at_ 3⟩))
    refine Till.begin 4 (fun w' => w'.cell? ⟨w.heap.size, 0, none⟩ = some (.int .u8 (o : Nat)) ∧ w'.cell? ⟨w.heap.size, 1, none⟩ = some (.slice RA rn rc) ∧ w'.cell? ⟨w.heap.size, 2, none⟩ = some (.slice GA gn gc) ∧ w'.cell? ⟨w.heap.size, 3, none⟩ = some (.slice VA vn vc)) (by kernel_rfl) (HS.out _ (Below.refl _ _).drew) (fun hH => ?_)
    clear hH
    have HB0 := Lib.hid (Below.refl w2.heap.size w2).drew
    generalize w2.drew = V0 at HB0 ⊢
    try simp only [List.setIfInBounds_toArray, List.set_cons_zero, List.set_cons_succ]
    refine Till.tL 0 [2, 4] 17 (.agg #[.int .u8 (o : Nat), .slice RA rn rc, .slice GA gn gc, .slice VA vn vc]) (HS.out _ HB0.out) ?_
    try simp only [Act.put, List.setIfInBounds_toArray, List.set_cons_zero, List.set_cons_succ]
    refine Till.two (i := 1) (j := 3) (by kernel_rfl) rfl rfl ?_ ?_
    · intro K hK
      go_simp
      refine (plain_any V0).mono ?_
      rintro e V1 ⟨I, ic, J, rfl, _, hJ, hJb, hb⟩
      have HB1 := Lib.hid (below_on HB0.out hb)
      have HJ := Lib.hid hJ
      have HJb := Lib.hid hJb
      have HPs := Lib.hid hb.size
      refine hK.out _ _ (fun _ => HS.out _ HB1.out) ?_
      clear hK K hJ hJb
      try simp only [List.setIfInBounds_toArray, List.set_cons_zero, List.set_cons_succ]
      refine Till.two (i := 2) (j := 3) (by kernel_rfl) rfl rfl ?_ ?_
      · intro K hK
        go_simp
        refine (HFam.out I J ic V1 (below_on HK2.out HB1.out) HJ.out).mono ?_
        rintro e V2 ⟨OA, oc, rA, rC, gA, gC, vA, vC, he, hOK, _, hMem, hb⟩
        obtain ⟨f, hf⟩ : ∃ f, (famF I ic J OA rA gA vA (1 + m) oc (famR (1 + m) kr).length rC (famG (1 + m) kg).length gC (famV (1 + m) kv).length vC) = f := ⟨_, rfl⟩
        rw [hf] at he hOK hMem
        have hfn : f.n = 1 + m := by rw [← hf]; rfl
        have hfJ : f.DA = J := by rw [← hf]; rfl
        have HFn := Lib.hid hfn
        have HfJ := Lib.hid hfJ
        clear hf hfn hfJ
        subst he
        have HB2 := Lib.hid (below_on HB1.out hb)
        have HOK := Lib.hid hOK
        have HMem := Lib.hid hMem
        have HFb := Lib.hid hb
        refine hK.out _ _ (fun _ => HS.out _ HB2.out) ?_
        clear hK K hOK hMem hb
        try simp only [List.setIfInBounds_toArray, List.set_cons_zero, List.set_cons_succ]
        refine Till.one (i := 3) (by kernel_rfl) rfl (fun K hK => ?_)
        go_simp
        have kx := (Below.refl V2.heap.size V2).alloc (Nat.le_refl _) (.cells #[.string { data := #[] }, .slice none 0 0, .slice none 0 0, .slice none 0 0, .slice none 0 0, .slice none 0 0, .slice none 0 0, .slice none 0 0, .slice none 0 0, .slice none 0 0] 40)
        have RZ := heap_new V2 (.cells #[.string { data := #[] }, .slice none 0 0, .slice none 0 0, .slice none 0 0, .slice none 0 0, .slice none 0 0, .slice none 0 0, .slice none 0 0, .slice none 0 0, .slice none 0 0] 40)
        obtain ⟨V3, hV⟩ : ∃ u, V2.alloc (.cells #[.string { data := #[] }, .slice none 0 0, .slice none 0 0, .slice none 0 0, .slice none 0 0, .slice none 0 0, .slice none 0 0, .slice none 0 0, .slice none 0 0, .slice none 0 0] 40) = u := ⟨_, rfl⟩
        have hsz : V2.heap.size < V3.heap.size := by rw [← hV]; simp
        rw [hV] at kx RZ ⊢
        obtain ⟨p, hp⟩ : ∃ p, V2.heap.size = p := ⟨_, rfl⟩
        have HB3 := Lib.hid (below_on HB2.out kx)
        have KX := Lib.hid kx
        have HP := Lib.hid hp
        have HPz := Lib.hid (show p < V3.heap.size by omega)
        rw [hp] at RZ ⊢
        have RZ := Lib.hid RZ
        refine hK.out _ _ (fun _ => HS.out _ HB3.out) ?_
        clear hK K hV kx hp hsz
        try simp only [List.setIfInBounds_toArray, List.set_cons_zero, List.set_cons_succ]
        have RF := row_setCells p 40 [.string f.nm, .slice f.PA f.pn f.pc, .slice f.IA f.iN f.ic, .slice f.DA f.dn f.dc, .slice f.KA f.kn f.kc, .slice f.QA f.qn f.qc, .slice f.OA f.n f.oc, .slice f.RA f.rn f.rc, .slice f.GA f.gn f.gc, .slice f.VA f.vn f.vc] 0 V3 _ RZ.out
        have G0 := grown_cells p [.string f.nm, .slice f.PA f.pn f.pc, .slice f.IA f.iN f.ic, .slice f.DA f.dn f.dc, .slice f.KA f.kn f.kc, .slice f.QA f.qn f.qc, .slice f.OA f.n f.oc, .slice f.RA f.rn f.rc, .slice f.GA f.gn f.gc, .slice f.VA f.vn f.vc] 0 V3
        obtain ⟨WF, hWF⟩ : ∃ u, V3.setCells p 0 [.string f.nm, .slice f.PA f.pn f.pc, .slice f.IA f.iN f.ic, .slice f.DA f.dn f.dc, .slice f.KA f.kn f.kc, .slice f.QA f.qn f.qc, .slice f.OA f.n f.oc, .slice f.RA f.rn f.rc, .slice f.GA f.gn f.gc, .slice f.VA f.vn f.vc] = u := ⟨_, rfl⟩
        rw [hWF] at RF G0
        have CR := Cells.of_row RZ.out
        have p0 := CR.at_ 0
        have p1 := CR.at_ 1
        have p2 := CR.at_ 2
        have p3 := CR.at_ 3
        have p4 := CR.at_ 4
        have p5 := CR.at_ 5
        have p6 := CR.at_ 6
        have p7 := CR.at_ 7
        have p8 := CR.at_ 8
        have p9 := CR.at_ 9
        simp only [List.getElem?_cons_zero, List.getElem?_cons_succ] at p0 p1 p2 p3 p4 p5 p6 p7 p8 p9
        have f0 := CR.fz 0
        have f1 := CR.fz 1
        have f2 := CR.fz 2
        have f3 := CR.fz 3
        have f4 := CR.fz 4
        have f5 := CR.fz 5
        have f6 := CR.fz 6
        have f7 := CR.fz 7
        have f8 := CR.fz 8
        have f9 := CR.fz 9
        have kF : Below V2.heap.size V2 WF := KX.out.grown G0 KX.out.size (fun k e => by injection e with e; have := HP.out; omega)
        have hOKF := Lib.hid (HOK.out.keep kF)
        have RF : WF.heap[p]? = some (.cells #[.string f.nm, .slice f.PA f.pn f.pc, .slice f.IA f.iN f.ic, .slice f.DA f.dn f.dc, .slice f.KA f.kn f.kc, .slice f.QA f.qn f.qc, .slice f.OA f.n f.oc, .slice f.RA f.rn f.rc, .slice f.GA f.gn f.gc, .slice f.VA f.vn f.vc] 40 (0, 0)) := by
          rwa [put10] at RF
        have HCF := Lib.hid (Cells.of_row RF)
        have hpW : w2.heap.size ≤ p := by have := HP.out; have := HB2.out.size; omega
        have BF := Lib.hid (HB3.out.grown G0 HB3.out.size (fun k e => by injection e with e; omega))
        simp only [World.setCells, Nat.reduceAdd] at hWF
        have HWF := Lib.hid hWF
        have HpW := Lib.hid hpW
        clear hWF CR RF G0 hpW
        refine Till.one (i := 4) (by kernel_rfl) rfl (fun K hK => ?_)
        go_simp
        rw [HWF.out]
        refine hK.out _ _ (fun h => absurd h (by simp)) ?_
        clear hK K p0 f0 p1 f1 p2 f2 p3 f3 p4 f4 p5 f5 p6 f6 p7 f7 p8 f8 p9 f9
        try simp only [List.setIfInBounds_toArray, List.set_cons_zero, List.set_cons_succ]
        refine Till.done (by kernel_rfl) ?_ _
        go_wp2_with fail
        go_meet
        exact ⟨p, f, rfl, HpW.out, HCF.out, HFn.out, hOKF.out, BF.out⟩
      · intro K hK
        go_simp
        have kx := (Below.refl V1.heap.size V1).alloc (Nat.le_refl _) (.cells #[.string { data := #[] }, .slice none 0 0, .slice none 0 0, .slice none 0 0, .slice none 0 0, .slice none 0 0, .slice none 0 0, .slice none 0 0, .slice none 0 0, .slice none 0 0] 40)
        have RZ := heap_new V1 (.cells #[.string { data := #[] }, .slice none 0 0, .slice none 0 0, .slice none 0 0, .slice none 0 0, .slice none 0 0, .slice none 0 0, .slice none 0 0, .slice none 0 0, .slice none 0 0] 40)
        obtain ⟨V2, hV⟩ : ∃ u, V1.alloc (.cells #[.string { data := #[] }, .slice none 0 0, .slice none 0 0, .slice none 0 0, .slice none 0 0, .slice none 0 0, .slice none 0 0, .slice none 0 0, .slice none 0 0, .slice none 0 0] 40) = u := ⟨_, rfl⟩
        have hsz : V1.heap.size < V2.heap.size := by rw [← hV]; simp
        rw [hV] at kx RZ ⊢
        obtain ⟨p, hp⟩ : ∃ p, V1.heap.size = p := ⟨_, rfl⟩
        have HB2 := Lib.hid (below_on HB1.out kx)
        have KX := Lib.hid kx
        have HP := Lib.hid hp
        have HPz := Lib.hid (show p < V2.heap.size by omega)
        rw [hp] at RZ ⊢
        have RZ := Lib.hid RZ
        refine hK.out _ _ (fun _ => HS.out _ HB2.out) ?_
        clear hK K hV kx hp hsz
        try simp only [List.setIfInBounds_toArray, List.set_cons_zero, List.set_cons_succ]
        have HJ2 := Lib.hid (HJ.out.keep KX.out)
        refine Till.one (i := 2) (by kernel_rfl) rfl (fun K hK => ?_)
        go_simp
        refine (HFam.out I J ic V2 (below_on HK2.out HB2.out) HJ2.out).mono ?_
        rintro e V3 ⟨OA, oc, rA, rC, gA, gC, vA, vC, he, hOK, _, hMem, hb⟩
        obtain ⟨f, hf⟩ : ∃ f, (famF I ic J OA rA gA vA (1 + m) oc (famR (1 + m) kr).length rC (famG (1 + m) kg).length gC (famV (1 + m) kv).length vC) = f := ⟨_, rfl⟩
        rw [hf] at he hOK hMem
        have hfn : f.n = 1 + m := by rw [← hf]; rfl
        have hfJ : f.DA = J := by rw [← hf]; rfl
        have HFn := Lib.hid hfn
        have HfJ := Lib.hid hfJ
        clear hf hfn hfJ
        subst he
        have HB3 := Lib.hid (below_on HB2.out hb)
        have HOK := Lib.hid hOK
        have HMem := Lib.hid hMem
        have HFb := Lib.hid hb
        refine hK.out _ _ (fun _ => HS.out _ HB3.out) ?_
        clear hK K hOK hMem hb
        try simp only [List.setIfInBounds_toArray, List.set_cons_zero, List.set_cons_succ]
        have RZ := Lib.hid (row_keep RZ.out HFb.out)
        have RF := row_setCells p 40 [.string f.nm, .slice f.PA f.pn f.pc, .slice f.IA f.iN f.ic, .slice f.DA f.dn f.dc, .slice f.KA f.kn f.kc, .slice f.QA f.qn f.qc, .slice f.OA f.n f.oc, .slice f.RA f.rn f.rc, .slice f.GA f.gn f.gc, .slice f.VA f.vn f.vc] 0 V3 _ RZ.out
        have G0 := grown_cells p [.string f.nm, .slice f.PA f.pn f.pc, .slice f.IA f.iN f.ic, .slice f.DA f.dn f.dc, .slice f.KA f.kn f.kc, .slice f.QA f.qn f.qc, .slice f.OA f.n f.oc, .slice f.RA f.rn f.rc, .slice f.GA f.gn f.gc, .slice f.VA f.vn f.vc] 0 V3
        obtain ⟨WF, hWF⟩ : ∃ u, V3.setCells p 0 [.string f.nm, .slice f.PA f.pn f.pc, .slice f.IA f.iN f.ic, .slice f.DA f.dn f.dc, .slice f.KA f.kn f.kc, .slice f.QA f.qn f.qc, .slice f.OA f.n f.oc, .slice f.RA f.rn f.rc, .slice f.GA f.gn f.gc, .slice f.VA f.vn f.vc] = u := ⟨_, rfl⟩
        rw [hWF] at RF G0
        have CR := Cells.of_row RZ.out
        have p0 := CR.at_ 0
        have p1 := CR.at_ 1
        have p2 := CR.at_ 2
        have p3 := CR.at_ 3
        have p4 := CR.at_ 4
        have p5 := CR.at_ 5
        have p6 := CR.at_ 6
        have p7 := CR.at_ 7
        have p8 := CR.at_ 8
        have p9 := CR.at_ 9
        simp only [List.getElem?_cons_zero, List.getElem?_cons_succ] at p0 p1 p2 p3 p4 p5 p6 p7 p8 p9
        have f0 := CR.fz 0
        have f1 := CR.fz 1
        have f2 := CR.fz 2
        have f3 := CR.fz 3
        have f4 := CR.fz 4
        have f5 := CR.fz 5
        have f6 := CR.fz 6
        have f7 := CR.fz 7
        have f8 := CR.fz 8
        have f9 := CR.fz 9
        have hOKF := Lib.hid (HOK.out.other HMem.out G0 HPz.out (fun b o t e => by have := (HJb.out b o t (HfJ.out.symm.trans e)).2; have := HP.out; omega))
        have RF : WF.heap[p]? = some (.cells #[.string f.nm, .slice f.PA f.pn f.pc, .slice f.IA f.iN f.ic, .slice f.DA f.dn f.dc, .slice f.KA f.kn f.kc, .slice f.QA f.qn f.qc, .slice f.OA f.n f.oc, .slice f.RA f.rn f.rc, .slice f.GA f.gn f.gc, .slice f.VA f.vn f.vc] 40 (0, 0)) := by
          rwa [put10] at RF
        have HCF := Lib.hid (Cells.of_row RF)
        have hpW : w2.heap.size ≤ p := by have := HP.out; have := HB1.out.size; omega
        have BF := Lib.hid (HB3.out.grown G0 HB3.out.size (fun k e => by injection e with e; omega))
        simp only [World.setCells, Nat.reduceAdd] at hWF
        have HWF := Lib.hid hWF
        have HpW := Lib.hid hpW
        clear hWF CR RF G0 hpW
        refine Till.one (i := 4) (by kernel_rfl) rfl (fun K hK => ?_)
        go_simp
        rw [HWF.out]
        refine hK.out _ _ (fun h => absurd h (by simp)) ?_
        clear hK K p0 f0 p1 f1 p2 f2 p3 f3 p4 f4 p5 f5 p6 f6 p7 f7 p8 f8 p9 f9
        try simp only [List.setIfInBounds_toArray, List.set_cons_zero, List.set_cons_succ]
        refine Till.done (by kernel_rfl) ?_ _
        go_wp2_with fail
        go_meet
        exact ⟨p, f, rfl, HpW.out, HCF.out, HFn.out, hOKF.out, BF.out⟩
    · intro K hK
      go_simp
      have kx := (Below.refl V0.heap.size V0).alloc (Nat.le_refl _) (.cells #[.string { data := #[] }, .slice none 0 0, .slice none 0 0, .slice none 0 0, .slice none 0 0, .slice none 0 0, .slice none 0 0, .slice none 0 0, .slice none 0 0, .slice none 0 0] 40)
      have RZ := heap_new V0 (.cells #[.string { data := #[] }, .slice none 0 0, .slice none 0 0, .slice none 0 0, .slice none 0 0, .slice none 0 0, .slice none 0 0, .slice none 0 0, .slice none 0 0, .slice none 0 0] 40)
      obtain ⟨V1, hV⟩ : ∃ u, V0.alloc (.cells #[.string { data := #[] }, .slice none 0 0, .slice none 0 0, .slice none 0 0, .slice none 0 0, .slice none 0 0, .slice none 0 0, .slice none 0 0, .slice none 0 0, .slice none 0 0] 40) = u := ⟨_, rfl⟩
      have hsz : V0.heap.size < V1.heap.size := by rw [← hV]; simp
      rw [hV] at kx RZ ⊢
      obtain ⟨p, hp⟩ : ∃ p, V0.heap.size = p := ⟨_, rfl⟩
      have HB1 := Lib.hid (below_on HB0.out kx)
      have KX := Lib.hid kx
      have HP := Lib.hid hp
      have HPz := Lib.hid (show p < V1.heap.size by omega)
      rw [hp] at RZ ⊢
      have RZ := Lib.hid RZ
      refine hK.out _ _ (fun _ => HS.out _ HB1.out) ?_
      clear hK K hV kx hp hsz
      try simp only [List.setIfInBounds_toArray, List.set_cons_zero, List.set_cons_succ]
      refine Till.one (i := 1) (by kernel_rfl) rfl (fun K hK => ?_)
      go_simp
      refine (plain_any V1).mono ?_
      rintro e V2 ⟨I, ic, J, rfl, _, hJ, hJb, hb⟩
      have HB2 := Lib.hid (below_on HB1.out hb)
      have HJ := Lib.hid hJ
      have HJb := Lib.hid hJb
      have HPs := Lib.hid hb.size
      refine hK.out _ _ (fun _ => HS.out _ HB2.out) ?_
      clear hK K hJ hJb
      try simp only [List.setIfInBounds_toArray, List.set_cons_zero, List.set_cons_succ]
      have RZ := Lib.hid (row_keep RZ.out hb)
      have HPz2 := Lib.hid (Nat.lt_of_lt_of_le HPz.out HPs.out)
      clear hb
      refine Till.one (i := 2) (by kernel_rfl) rfl (fun K hK => ?_)
      go_simp
      refine (HFam.out I J ic V2 (below_on HK2.out HB2.out) HJ.out).mono ?_
      rintro e V3 ⟨OA, oc, rA, rC, gA, gC, vA, vC, he, hOK, _, hMem, hb⟩
      obtain ⟨f, hf⟩ : ∃ f, (famF I ic J OA rA gA vA (1 + m) oc (famR (1 + m) kr).length rC (famG (1 + m) kg).length gC (famV (1 + m) kv).length vC) = f := ⟨_, rfl⟩
      rw [hf] at he hOK hMem
      have hfn : f.n = 1 + m := by rw [← hf]; rfl
      have hfJ : f.DA = J := by rw [← hf]; rfl
      have HFn := Lib.hid hfn
      have HfJ := Lib.hid hfJ
      clear hf hfn hfJ
      subst he
      have HB3 := Lib.hid (below_on HB2.out hb)
      have HOK := Lib.hid hOK
      have HMem := Lib.hid hMem
      have HFb := Lib.hid hb
      refine hK.out _ _ (fun _ => HS.out _ HB3.out) ?_
      clear hK K hOK hMem hb
      try simp only [List.setIfInBounds_toArray, List.set_cons_zero, List.set_cons_succ]
      have RZ := Lib.hid (row_keep RZ.out HFb.out)
      have RF := row_setCells p 40 [.string f.nm, .slice f.PA f.pn f.pc, .slice f.IA f.iN f.ic, .slice f.DA f.dn f.dc, .slice f.KA f.kn f.kc, .slice f.QA f.qn f.qc, .slice f.OA f.n f.oc, .slice f.RA f.rn f.rc, .slice f.GA f.gn f.gc, .slice f.VA f.vn f.vc] 0 V3 _ RZ.out
      have G0 := grown_cells p [.string f.nm, .slice f.PA f.pn f.pc, .slice f.IA f.iN f.ic, .slice f.DA f.dn f.dc, .slice f.KA f.kn f.kc, .slice f.QA f.qn f.qc, .slice f.OA f.n f.oc, .slice f.RA f.rn f.rc, .slice f.GA f.gn f.gc, .slice f.VA f.vn f.vc] 0 V3
      obtain ⟨WF, hWF⟩ : ∃ u, V3.setCells p 0 [.string f.nm, .slice f.PA f.pn f.pc, .slice f.IA f.iN f.ic, .slice f.DA f.dn f.dc, .slice f.KA f.kn f.kc, .slice f.QA f.qn f.qc, .slice f.OA f.n f.oc, .slice f.RA f.rn f.rc, .slice f.GA f.gn f.gc, .slice f.VA f.vn f.vc] = u := ⟨_, rfl⟩
      rw [hWF] at RF G0
      have CR := Cells.of_row RZ.out
      have p0 := CR.at_ 0
      have p1 := CR.at_ 1
      have p2 := CR.at_ 2
      have p3 := CR.at_ 3
      have p4 := CR.at_ 4
      have p5 := CR.at_ 5
      have p6 := CR.at_ 6
      have p7 := CR.at_ 7
      have p8 := CR.at_ 8
      have p9 := CR.at_ 9
      simp only [List.getElem?_cons_zero, List.getElem?_cons_succ] at p0 p1 p2 p3 p4 p5 p6 p7 p8 p9
      have f0 := CR.fz 0
      have f1 := CR.fz 1
      have f2 := CR.fz 2
      have f3 := CR.fz 3
      have f4 := CR.fz 4
      have f5 := CR.fz 5
      have f6 := CR.fz 6
      have f7 := CR.fz 7
      have f8 := CR.fz 8
      have f9 := CR.fz 9
      have hOKF := Lib.hid (HOK.out.other HMem.out G0 HPz2.out (fun b o t e => by have := (HJb.out b o t (HfJ.out.symm.trans e)).1; have := HPz.out; omega))
      have RF : WF.heap[p]? = some (.cells #[.string f.nm, .slice f.PA f.pn f.pc, .slice f.IA f.iN f.ic, .slice f.DA f.dn f.dc, .slice f.KA f.kn f.kc, .slice f.QA f.qn f.qc, .slice f.OA f.n f.oc, .slice f.RA f.rn f.rc, .slice f.GA f.gn f.gc, .slice f.VA f.vn f.vc] 40 (0, 0)) := by
        rwa [put10] at RF
      have HCF := Lib.hid (Cells.of_row RF)
      have hpW : w2.heap.size ≤ p := by have := HP.out; have := HB0.out.size; omega
      have BF := Lib.hid (HB3.out.grown G0 HB3.out.size (fun k e => by injection e with e; omega))
      simp only [World.setCells, Nat.reduceAdd] at hWF
      have HWF := Lib.hid hWF
      have HpW := Lib.hid hpW
      clear hWF CR RF G0 hpW
      refine Till.one (i := 4) (by kernel_rfl) rfl (fun K hK => ?_)
      go_simp
      rw [HWF.out]
      refine hK.out _ _ (fun h => absurd h (by simp)) ?_
      clear hK K p0 f0 p1 f1 p2 f2 p3 f3 p4 f4 p5 f5 p6 f6 p7 f7 p8 f8 p9 f9
      try simp only [List.setIfInBounds_toArray, List.set_cons_zero, List.set_cons_succ]
      refine Till.done (by kernel_rfl) ?_ _
      go_wp2_with fail
      go_meet
      exact ⟨p, f, rfl, HpW.out, HCF.out, HFn.out, hOKF.out, BF.out⟩
  case rest =>
    obtain ⟨pf, f, rfl, hpf, hCf, hfn, hOK, hbf⟩ := hcut
    have hn6 : f.n ≤ 6 := by omega
    have hn0 : 0 < f.n := by omega
    have HOK := Lib.hid hOK
    have HCf := Lib.hid hCf
    have HK3 := Lib.hid (below_on HK2.out hbf)
    have hr48 := hOK.r48
    have HFn := Lib.hid hfn
    have HHO := Lib.hid (show (famO (1 + m)) = famO f.n by rw [hfn])
    have HHR := Lib.hid (show (famR (1 + m) kr) = famR f.n kr by rw [hfn])
    clear hOK hCf hbf hpf HC2 HK2 HFam hfn 
    obtain ⟨os, hos⟩ : ∃ x, famO (1 + m) = x := ⟨_, rfl⟩
    obtain ⟨rs, hrs⟩ : ∃ x, famR (1 + m) kr = x := ⟨_, rfl⟩
    obtain ⟨gs, hgs⟩ : ∃ x, famG (1 + m) kg = x := ⟨_, rfl⟩
    obtain ⟨vs, hvs⟩ : ∃ x, famV (1 + m) kv = x := ⟨_, rfl⟩
    rw [hos, hrs, hgs, hvs] at HOK
    have hRL : ∀ r ∈ rs, LowN f.n r.2 := by rw [← hrs, HHR.out]; exact famR_low kr
    have hRL6 : ∀ r ∈ rs, (∀ l ∈ r.2, l.1 < 6) ∧ r.2.length ≤ 1000 := by rw [← hrs, HHR.out]; exact famR_low6 hn6 kr
    have HRL := Lib.hid hRL
    have HRL6 := Lib.hid hRL6
    clear hos hrs hgs hvs HHO HHR hRL hRL6
    have c0 := HCf.out.at_ 0
    have c1 := HCf.out.at_ 1
    have c2 := HCf.out.at_ 2
    have c3 := HCf.out.at_ 3
    have c4 := HCf.out.at_ 4
    have c5 := HCf.out.at_ 5
    have c6 := HCf.out.at_ 6
    have c7 := HCf.out.at_ 7
    have c8 := HCf.out.at_ 8
    have c9 := HCf.out.at_ 9
    simp only [List.getElem?_cons_zero, List.getElem?_cons_succ] at c0 c1 c2 c3 c4 c5 c6 c7 c8 c9
    have HRd := redundant_ok f os rs gs vs plainD wc HOK.out
    rw [← HOK.out.rsl] at HRd
    have HRd := Lib.hid HRd
    go_wp2_with fail
    refine HRd.out.mono ?_
    rintro e w3 ⟨v, rfl, hown, hb⟩
    obtain ⟨LA, LC, rfl, hN⟩ := own_nats hown rfl
    have HN := Lib.hid hN
    have HOK := Lib.hid (HOK.out.keep hb)
    have HCf := Lib.hid (HCf.out.keep hb)
    have HK4 := Lib.hid (below_on HK3.out hb)
    have Hrl := Lib.hid HOK.out.rsl
    have hLle := redU_len f.n rs rs.length
    obtain ⟨M, hM⟩ : ∃ n, (redU f.n rs rs.length).length = n := ⟨_, rfl⟩
    rw [hM] at hLle ⊢
    have HMl := Lib.hid hM
    clear hown hb hN HRd HK3 hM
    have c0 := HCf.out.at_ 0
    have c1 := HCf.out.at_ 1
    have c2 := HCf.out.at_ 2
    have c3 := HCf.out.at_ 3
    have c4 := HCf.out.at_ 4
    have c5 := HCf.out.at_ 5
    have c6 := HCf.out.at_ 6
    have c7 := HCf.out.at_ 7
    have c8 := HCf.out.at_ 8
    have c9 := HCf.out.at_ 9
    simp only [List.getElem?_cons_zero, List.getElem?_cons_succ] at c0 c1 c2 c3 c4 c5 c6 c7 c8 c9
    go_upto_region 7 with fail
    go_cut [6, 7] (fun s t wx => ∃ pl pb, s = .pointer (some ⟨pl, 0, none⟩) ∧ t = .pointer (some ⟨pb, 0, none⟩) ∧ pl ≠ pb ∧ w3.heap.size ≤ pl ∧ w3.heap.size ≤ pb ∧ Cells wx pl (gcR f (.slice f.RA f.rn f.rc)) ∧ Cells wx pb (gcR f (.slice f.RA f.rn f.rc)) ∧ Below w3.heap.size w3 wx)
    case first =>
      have HS := Lib.hid (fun w' (hb : Below w3.heap.size w3 w') => (show w'.cell? ⟨pf, 0, none⟩ = some (.string f.nm) ∧ w'.cell? ⟨pf, 1, none⟩ = some (.slice f.PA f.pn f.pc) ∧ w'.cell? ⟨pf, 2, none⟩ = some (.slice f.IA f.iN f.ic) ∧ w'.cell? ⟨pf, 3, none⟩ = some (.slice f.DA f.dn f.dc) ∧ w'.cell? ⟨pf, 4, none⟩ = some (.slice f.KA f.kn f.kc) ∧ w'.cell? ⟨pf, 5, none⟩ = some (.slice f.QA f.qn f.qc) ∧ w'.cell? ⟨pf, 6, none⟩ = some (.slice f.OA f.n f.oc) ∧ w'.cell? ⟨pf, 7, none⟩ = some (.slice f.RA f.rn f.rc) ∧ w'.cell? ⟨pf, 8, none⟩ = some (.slice f.GA f.gn f.gc) ∧ w'.cell? ⟨pf, 9, none⟩ = some (.slice f.VA f.vn f.vc) from ⟨(HCf.out.keep hb).at_ 0, (HCf.out.keep hb).at_ 1, (HCf.out.keep hb).at_ 2, (HCf.out.keep hb).at_ 3, (HCf.out.keep hb).at_ 4, (HCf.out.keep hb).at_ 5, (HCf.out.keep hb).at_ 6, (HCf.out.keep hb).at_ 7, (HCf.out.keep hb).at_ 8, (HCf.out.keep hb).at_ 9⟩))
      refine Till.begin 5 (fun w' => w'.cell? ⟨pf, 0, none⟩ = some (.string f.nm) ∧ w'.cell? ⟨pf, 1, none⟩ = some (.slice f.PA f.pn f.pc) ∧ w'.cell? ⟨pf, 2, none⟩ = some (.slice f.IA f.iN f.ic) ∧ w'.cell? ⟨pf, 3, none⟩ = some (.slice f.DA f.dn f.dc) ∧ w'.cell? ⟨pf, 4, none⟩ = some (.slice f.KA f.kn f.kc) ∧ w'.cell? ⟨pf, 5, none⟩ = some (.slice f.QA f.qn f.qc) ∧ w'.cell? ⟨pf, 6, none⟩ = some (.slice f.OA f.n f.oc) ∧ w'.cell? ⟨pf, 7, none⟩ = some (.slice f.RA f.rn f.rc) ∧ w'.cell? ⟨pf, 8, none⟩ = some (.slice f.GA f.gn f.gc) ∧ w'.cell? ⟨pf, 9, none⟩ = some (.slice f.VA f.vn f.vc)) (by kernel_rfl) (HS.out _ (Below.refl _ _).drew) (fun hH => ?_)
      clear hH
      have HB0 := Lib.hid (Below.refl w3.heap.size w3).drew
      generalize w3.drew = V0 at HB0 ⊢
      try simp only [List.setIfInBounds_toArray, List.set_cons_zero, List.set_cons_succ]
      refine Till.tL 0 [4, 5] 27 (.agg #[.string f.nm, .slice f.PA f.pn f.pc, .slice f.IA f.iN f.ic, .slice f.DA f.dn f.dc, .slice f.KA f.kn f.kc, .slice f.QA f.qn f.qc, .slice f.OA f.n f.oc, .slice f.RA f.rn f.rc, .slice f.GA f.gn f.gc, .slice f.VA f.vn f.vc]) (HS.out _ HB0.out) ?_
      try simp only [Act.put, List.setIfInBounds_toArray, List.set_cons_zero, List.set_cons_succ]
      refine Till.tL 1 [5] 28 (.agg #[.string f.nm, .slice f.PA f.pn f.pc, .slice f.IA f.iN f.ic, .slice f.DA f.dn f.dc, .slice f.KA f.kn f.kc, .slice f.QA f.qn f.qc, .slice f.OA f.n f.oc, .slice f.RA f.rn f.rc, .slice f.GA f.gn f.gc, .slice f.VA f.vn f.vc]) (HS.out _ HB0.out) ?_
      try simp only [Act.put, List.setIfInBounds_toArray, List.set_cons_zero, List.set_cons_succ]
      refine Till.two (i := 2) (j := 3) (by kernel_rfl) rfl rfl ?_ ?_
      · intro K hK
        go_simp
        have kx := (Below.refl V0.heap.size V0).alloc (Nat.le_refl _) (.cells #[.string { data := #[] }, .slice none 0 0, .slice none 0 0, .slice none 0 0, .slice none 0 0, .slice none 0 0, .slice none 0 0, .slice none 0 0, .slice none 0 0, .slice none 0 0] 40)
        have RL := heap_new V0 (.cells #[.string { data := #[] }, .slice none 0 0, .slice none 0 0, .slice none 0 0, .slice none 0 0, .slice none 0 0, .slice none 0 0, .slice none 0 0, .slice none 0 0, .slice none 0 0] 40)
        obtain ⟨V1, hV⟩ : ∃ u, V0.alloc (.cells #[.string { data := #[] }, .slice none 0 0, .slice none 0 0, .slice none 0 0, .slice none 0 0, .slice none 0 0, .slice none 0 0, .slice none 0 0, .slice none 0 0, .slice none 0 0] 40) = u := ⟨_, rfl⟩
        have hsz : V0.heap.size < V1.heap.size := by rw [← hV]; simp
        rw [hV] at kx RL ⊢
        obtain ⟨pl, hp⟩ : ∃ p, V0.heap.size = p := ⟨_, rfl⟩
        have HB1 := Lib.hid (below_on HB0.out kx)
        have Hplw := Lib.hid (show w3.heap.size ≤ pl by have := HB0.out.size; omega)
        have Hplz := Lib.hid (show pl < V1.heap.size by omega)
        rw [hp] at RL ⊢
        have RL := Lib.hid RL
        refine hK.out _ _ (fun _ => HS.out _ HB1.out) ?_
        clear hK K hV kx hp hsz
        try simp only [List.setIfInBounds_toArray, List.set_cons_zero, List.set_cons_succ]
        refine Till.one (i := 3) (by kernel_rfl) rfl (fun K hK => ?_)
        go_simp
        have kx := (Below.refl V1.heap.size V1).alloc (Nat.le_refl _) (.cells #[.string { data := #[] }, .slice none 0 0, .slice none 0 0, .slice none 0 0, .slice none 0 0, .slice none 0 0, .slice none 0 0, .slice none 0 0, .slice none 0 0, .slice none 0 0] 40)
        have RB := heap_new V1 (.cells #[.string { data := #[] }, .slice none 0 0, .slice none 0 0, .slice none 0 0, .slice none 0 0, .slice none 0 0, .slice none 0 0, .slice none 0 0, .slice none 0 0, .slice none 0 0] 40)
        obtain ⟨V2, hV⟩ : ∃ u, V1.alloc (.cells #[.string { data := #[] }, .slice none 0 0, .slice none 0 0, .slice none 0 0, .slice none 0 0, .slice none 0 0, .slice none 0 0, .slice none 0 0, .slice none 0 0, .slice none 0 0] 40) = u := ⟨_, rfl⟩
        have hsz : V1.heap.size < V2.heap.size := by rw [← hV]; simp
        rw [hV] at kx RB ⊢
        obtain ⟨pb, hp⟩ : ∃ p, V1.heap.size = p := ⟨_, rfl⟩
        have HB2 := Lib.hid (below_on HB1.out kx)
        have Hpbw := Lib.hid (show w3.heap.size ≤ pb by have := HB1.out.size; omega)
        have Hpbz := Lib.hid (show pb < V2.heap.size by omega)
        have Hne := Lib.hid (show pl < pb by have := Hplz.out; omega)
        have RL := Lib.hid (row_keep RL.out kx)
        rw [hp] at RB ⊢
        have RB := Lib.hid RB
        refine hK.out _ _ (fun _ => HS.out _ HB2.out) ?_
        clear hK K hV kx hp hsz
        try simp only [List.setIfInBounds_toArray, List.set_cons_zero, List.set_cons_succ]
        have Hplz := Lib.hid (Nat.lt_trans Hne.out Hpbz.out)
        have RF := row_setCells pl 40 [.string f.nm, .slice f.PA f.pn f.pc, .slice f.IA f.iN f.ic, .slice f.DA f.dn f.dc, .slice f.KA f.kn f.kc, .slice f.QA f.qn f.qc, .slice f.OA f.n f.oc, .slice f.RA f.rn f.rc, .slice f.GA f.gn f.gc, .slice f.VA f.vn f.vc] 0 V2 _ RL.out
        have G0 := grown_cells pl [.string f.nm, .slice f.PA f.pn f.pc, .slice f.IA f.iN f.ic, .slice f.DA f.dn f.dc, .slice f.KA f.kn f.kc, .slice f.QA f.qn f.qc, .slice f.OA f.n f.oc, .slice f.RA f.rn f.rc, .slice f.GA f.gn f.gc, .slice f.VA f.vn f.vc] 0 V2
        obtain ⟨V3, hWF⟩ : ∃ u, V2.setCells pl 0 [.string f.nm, .slice f.PA f.pn f.pc, .slice f.IA f.iN f.ic, .slice f.DA f.dn f.dc, .slice f.KA f.kn f.kc, .slice f.QA f.qn f.qc, .slice f.OA f.n f.oc, .slice f.RA f.rn f.rc, .slice f.GA f.gn f.gc, .slice f.VA f.vn f.vc] = u := ⟨_, rfl⟩
        rw [hWF] at RF G0
        have CR := Cells.of_row RL.out
        have p0 := CR.at_ 0
        have p1 := CR.at_ 1
        have p2 := CR.at_ 2
        have p3 := CR.at_ 3
        have p4 := CR.at_ 4
        have p5 := CR.at_ 5
        have p6 := CR.at_ 6
        have p7 := CR.at_ 7
        have p8 := CR.at_ 8
        have p9 := CR.at_ 9
        simp only [List.getElem?_cons_zero, List.getElem?_cons_succ] at p0 p1 p2 p3 p4 p5 p6 p7 p8 p9
        have f0 := CR.fz 0
        have f1 := CR.fz 1
        have f2 := CR.fz 2
        have f3 := CR.fz 3
        have f4 := CR.fz 4
        have f5 := CR.fz 5
        have f6 := CR.fz 6
        have f7 := CR.fz 7
        have f8 := CR.fz 8
        have f9 := CR.fz 9
        have RF : V3.heap[pl]? = some (.cells #[.string f.nm, .slice f.PA f.pn f.pc, .slice f.IA f.iN f.ic, .slice f.DA f.dn f.dc, .slice f.KA f.kn f.kc, .slice f.QA f.qn f.qc, .slice f.OA f.n f.oc, .slice f.RA f.rn f.rc, .slice f.GA f.gn f.gc, .slice f.VA f.vn f.vc] 40 (0, 0)) := by
          rwa [put10] at RF
        have HB3 := Lib.hid (HB2.out.grown G0 HB2.out.size (fun k e => by injection e with e; have := Hplw.out; omega))
        have RB := Lib.hid ((G0.block pb (by have := Hpbz.out; omega) (fun e => by injection e with e; have := Hne.out; omega)).trans RB.out)
        have RL := Lib.hid RF
        have Hplz := Lib.hid (Nat.lt_of_lt_of_le Hplz.out G0.size)
        have Hpbz := Lib.hid (Nat.lt_of_lt_of_le Hpbz.out G0.size)
        simp only [World.setCells, Nat.reduceAdd] at hWF
        have HWF := Lib.hid hWF
        clear hWF CR RF G0
        refine Till.one (i := 4) (by kernel_rfl) rfl (fun K hK => ?_)
        go_simp
        rw [HWF.out]
        refine hK.out _ _ (fun _ => HS.out _ HB3.out) ?_
        clear hK K HWF p0 f0 p1 f1 p2 f2 p3 f3 p4 f4 p5 f5 p6 f6 p7 f7 p8 f8 p9 f9
        try simp only [List.setIfInBounds_toArray, List.set_cons_zero, List.set_cons_succ]
        have RF := row_setCells pb 40 [.string f.nm, .slice f.PA f.pn f.pc, .slice f.IA f.iN f.ic, .slice f.DA f.dn f.dc, .slice f.KA f.kn f.kc, .slice f.QA f.qn f.qc, .slice f.OA f.n f.oc, .slice f.RA f.rn f.rc, .slice f.GA f.gn f.gc, .slice f.VA f.vn f.vc] 0 V3 _ RB.out
        have G0 := grown_cells pb [.string f.nm, .slice f.PA f.pn f.pc, .slice f.IA f.iN f.ic, .slice f.DA f.dn f.dc, .slice f.KA f.kn f.kc, .slice f.QA f.qn f.qc, .slice f.OA f.n f.oc, .slice f.RA f.rn f.rc, .slice f.GA f.gn f.gc, .slice f.VA f.vn f.vc] 0 V3
        obtain ⟨V4, hWF⟩ : ∃ u, V3.setCells pb 0 [.string f.nm, .slice f.PA f.pn f.pc, .slice f.IA f.iN f.ic, .slice f.DA f.dn f.dc, .slice f.KA f.kn f.kc, .slice f.QA f.qn f.qc, .slice f.OA f.n f.oc, .slice f.RA f.rn f.rc, .slice f.GA f.gn f.gc, .slice f.VA f.vn f.vc] = u := ⟨_, rfl⟩
        rw [hWF] at RF G0
        have CR := Cells.of_row RB.out
        have p0 := CR.at_ 0
        have p1 := CR.at_ 1
        have p2 := CR.at_ 2
        have p3 := CR.at_ 3
        have p4 := CR.at_ 4
        have p5 := CR.at_ 5
        have p6 := CR.at_ 6
        have p7 := CR.at_ 7
        have p8 := CR.at_ 8
        have p9 := CR.at_ 9
        simp only [List.getElem?_cons_zero, List.getElem?_cons_succ] at p0 p1 p2 p3 p4 p5 p6 p7 p8 p9
        have f0 := CR.fz 0
        have f1 := CR.fz 1
        have f2 := CR.fz 2
        have f3 := CR.fz 3
        have f4 := CR.fz 4
        have f5 := CR.fz 5
        have f6 := CR.fz 6
        have f7 := CR.fz 7
        have f8 := CR.fz 8
        have f9 := CR.fz 9
        have RF : V4.heap[pb]? = some (.cells #[.string f.nm, .slice f.PA f.pn f.pc, .slice f.IA f.iN f.ic, .slice f.DA f.dn f.dc, .slice f.KA f.kn f.kc, .slice f.QA f.qn f.qc, .slice f.OA f.n f.oc, .slice f.RA f.rn f.rc, .slice f.GA f.gn f.gc, .slice f.VA f.vn f.vc] 40 (0, 0)) := by
          rwa [put10] at RF
        have HB4 := Lib.hid (HB3.out.grown G0 HB3.out.size (fun k e => by injection e with e; have := Hpbw.out; omega))
        have RL := Lib.hid ((G0.block pl (by have := Hplz.out; omega) (fun e => by injection e with e; have := Hne.out; omega)).trans RL.out)
        have RB := Lib.hid RF
        have Hpbz := Lib.hid (Nat.lt_of_lt_of_le Hpbz.out G0.size)
        have Hplz := Lib.hid (Nat.lt_of_lt_of_le Hplz.out G0.size)
        simp only [World.setCells, Nat.reduceAdd] at hWF
        have HWF := Lib.hid hWF
        clear hWF CR RF G0
        refine Till.one (i := 5) (by kernel_rfl) rfl (fun K hK => ?_)
        go_simp
        rw [HWF.out]
        refine hK.out _ _ (fun h => absurd h (by simp)) ?_
        clear hK K HWF p0 f0 p1 f1 p2 f2 p3 f3 p4 f4 p5 f5 p6 f6 p7 f7 p8 f8 p9 f9
        try simp only [List.setIfInBounds_toArray, List.set_cons_zero, List.set_cons_succ]
        refine Till.done (by kernel_rfl) ?_ _
        go_wp2_with fail
        go_meet
        exact ⟨pl, pb, rfl, rfl, by have := Hne.out; omega, Hplw.out, Hpbw.out, Cells.of_row RL.out, Cells.of_row RB.out, HB4.out⟩
      · intro K hK
        go_simp
        have kx := (Below.refl V0.heap.size V0).alloc (Nat.le_refl _) (.cells #[.string { data := #[] }, .slice none 0 0, .slice none 0 0, .slice none 0 0, .slice none 0 0, .slice none 0 0, .slice none 0 0, .slice none 0 0, .slice none 0 0, .slice none 0 0] 40)
        have RB := heap_new V0 (.cells #[.string { data := #[] }, .slice none 0 0, .slice none 0 0, .slice none 0 0, .slice none 0 0, .slice none 0 0, .slice none 0 0, .slice none 0 0, .slice none 0 0, .slice none 0 0] 40)
        obtain ⟨V1, hV⟩ : ∃ u, V0.alloc (.cells #[.string { data := #[] }, .slice none 0 0, .slice none 0 0, .slice none 0 0, .slice none 0 0, .slice none 0 0, .slice none 0 0, .slice none 0 0, .slice none 0 0, .slice none 0 0] 40) = u := ⟨_, rfl⟩
        have hsz : V0.heap.size < V1.heap.size := by rw [← hV]; simp
        rw [hV] at kx RB ⊢
        obtain ⟨pb, hp⟩ : ∃ p, V0.heap.size = p := ⟨_, rfl⟩
        have HB1 := Lib.hid (below_on HB0.out kx)
        have Hpbw := Lib.hid (show w3.heap.size ≤ pb by have := HB0.out.size; omega)
        have Hpbz := Lib.hid (show pb < V1.heap.size by omega)
        rw [hp] at RB ⊢
        have RB := Lib.hid RB
        refine hK.out _ _ (fun _ => HS.out _ HB1.out) ?_
        clear hK K hV kx hp hsz
        try simp only [List.setIfInBounds_toArray, List.set_cons_zero, List.set_cons_succ]
        refine Till.one (i := 2) (by kernel_rfl) rfl (fun K hK => ?_)
        go_simp
        have kx := (Below.refl V1.heap.size V1).alloc (Nat.le_refl _) (.cells #[.string { data := #[] }, .slice none 0 0, .slice none 0 0, .slice none 0 0, .slice none 0 0, .slice none 0 0, .slice none 0 0, .slice none 0 0, .slice none 0 0, .slice none 0 0] 40)
        have RL := heap_new V1 (.cells #[.string { data := #[] }, .slice none 0 0, .slice none 0 0, .slice none 0 0, .slice none 0 0, .slice none 0 0, .slice none 0 0, .slice none 0 0, .slice none 0 0, .slice none 0 0] 40)
        obtain ⟨V2, hV⟩ : ∃ u, V1.alloc (.cells #[.string { data := #[] }, .slice none 0 0, .slice none 0 0, .slice none 0 0, .slice none 0 0, .slice none 0 0, .slice none 0 0, .slice none 0 0, .slice none 0 0, .slice none 0 0] 40) = u := ⟨_, rfl⟩
        have hsz : V1.heap.size < V2.heap.size := by rw [← hV]; simp
        rw [hV] at kx RL ⊢
        obtain ⟨pl, hp⟩ : ∃ p, V1.heap.size = p := ⟨_, rfl⟩
        have HB2 := Lib.hid (below_on HB1.out kx)
        have Hplw := Lib.hid (show w3.heap.size ≤ pl by have := HB1.out.size; omega)
        have Hplz := Lib.hid (show pl < V2.heap.size by omega)
        have Hne := Lib.hid (show pb < pl by have := Hpbz.out; omega)
        have RB := Lib.hid (row_keep RB.out kx)
        rw [hp] at RL ⊢
        have RL := Lib.hid RL
        refine hK.out _ _ (fun _ => HS.out _ HB2.out) ?_
        clear hK K hV kx hp hsz
        try simp only [List.setIfInBounds_toArray, List.set_cons_zero, List.set_cons_succ]
        have Hpbz := Lib.hid (Nat.lt_trans Hne.out Hplz.out)
        have RF := row_setCells pl 40 [.string f.nm, .slice f.PA f.pn f.pc, .slice f.IA f.iN f.ic, .slice f.DA f.dn f.dc, .slice f.KA f.kn f.kc, .slice f.QA f.qn f.qc, .slice f.OA f.n f.oc, .slice f.RA f.rn f.rc, .slice f.GA f.gn f.gc, .slice f.VA f.vn f.vc] 0 V2 _ RL.out
        have G0 := grown_cells pl [.string f.nm, .slice f.PA f.pn f.pc, .slice f.IA f.iN f.ic, .slice f.DA f.dn f.dc, .slice f.KA f.kn f.kc, .slice f.QA f.qn f.qc, .slice f.OA f.n f.oc, .slice f.RA f.rn f.rc, .slice f.GA f.gn f.gc, .slice f.VA f.vn f.vc] 0 V2
        obtain ⟨V3, hWF⟩ : ∃ u, V2.setCells pl 0 [.string f.nm, .slice f.PA f.pn f.pc, .slice f.IA f.iN f.ic, .slice f.DA f.dn f.dc, .slice f.KA f.kn f.kc, .slice f.QA f.qn f.qc, .slice f.OA f.n f.oc, .slice f.RA f.rn f.rc, .slice f.GA f.gn f.gc, .slice f.VA f.vn f.vc] = u := ⟨_, rfl⟩
        rw [hWF] at RF G0
        have CR := Cells.of_row RL.out
        have p0 := CR.at_ 0
        have p1 := CR.at_ 1
        have p2 := CR.at_ 2
        have p3 := CR.at_ 3
        have p4 := CR.at_ 4
        have p5 := CR.at_ 5
        have p6 := CR.at_ 6
        have p7 := CR.at_ 7
        have p8 := CR.at_ 8
        have p9 := CR.at_ 9
        simp only [List.getElem?_cons_zero, List.getElem?_cons_succ] at p0 p1 p2 p3 p4 p5 p6 p7 p8 p9
        have f0 := CR.fz 0
        have f1 := CR.fz 1
        have f2 := CR.fz 2
        have f3 := CR.fz 3
        have f4 := CR.fz 4
        have f5 := CR.fz 5
        have f6 := CR.fz 6
        have f7 := CR.fz 7
        have f8 := CR.fz 8
        have f9 := CR.fz 9
        have RF : V3.heap[pl]? = some (.cells #[.string f.nm, .slice f.PA f.pn f.pc, .slice f.IA f.iN f.ic, .slice f.DA f.dn f.dc, .slice f.KA f.kn f.kc, .slice f.QA f.qn f.qc, .slice f.OA f.n f.oc, .slice f.RA f.rn f.rc, .slice f.GA f.gn f.gc, .slice f.VA f.vn f.vc] 40 (0, 0)) := by
          rwa [put10] at RF
        have HB3 := Lib.hid (HB2.out.grown G0 HB2.out.size (fun k e => by injection e with e; have := Hplw.out; omega))
        have RB := Lib.hid ((G0.block pb (by have := Hpbz.out; omega) (fun e => by injection e with e; have := Hne.out; omega)).trans RB.out)
        have RL := Lib.hid RF
        have Hplz := Lib.hid (Nat.lt_of_lt_of_le Hplz.out G0.size)
        have Hpbz := Lib.hid (Nat.lt_of_lt_of_le Hpbz.out G0.size)
        simp only [World.setCells, Nat.reduceAdd] at hWF
        have HWF := Lib.hid hWF
        clear hWF CR RF G0
        refine Till.one (i := 4) (by kernel_rfl) rfl (fun K hK => ?_)
        go_simp
        rw [HWF.out]
        refine hK.out _ _ (fun _ => HS.out _ HB3.out) ?_
        clear hK K HWF p0 f0 p1 f1 p2 f2 p3 f3 p4 f4 p5 f5 p6 f6 p7 f7 p8 f8 p9 f9
        try simp only [List.setIfInBounds_toArray, List.set_cons_zero, List.set_cons_succ]
        have RF := row_setCells pb 40 [.string f.nm, .slice f.PA f.pn f.pc, .slice f.IA f.iN f.ic, .slice f.DA f.dn f.dc, .slice f.KA f.kn f.kc, .slice f.QA f.qn f.qc, .slice f.OA f.n f.oc, .slice f.RA f.rn f.rc, .slice f.GA f.gn f.gc, .slice f.VA f.vn f.vc] 0 V3 _ RB.out
        have G0 := grown_cells pb [.string f.nm, .slice f.PA f.pn f.pc, .slice f.IA f.iN f.ic, .slice f.DA f.dn f.dc, .slice f.KA f.kn f.kc, .slice f.QA f.qn f.qc, .slice f.OA f.n f.oc, .slice f.RA f.rn f.rc, .slice f.GA f.gn f.gc, .slice f.VA f.vn f.vc] 0 V3
        obtain ⟨V4, hWF⟩ : ∃ u, V3.setCells pb 0 [.string f.nm, .slice f.PA f.pn f.pc, .slice f.IA f.iN f.ic, .slice f.DA f.dn f.dc, .slice f.KA f.kn f.kc, .slice f.QA f.qn f.qc, .slice f.OA f.n f.oc, .slice f.RA f.rn f.rc, .slice f.GA f.gn f.gc, .slice f.VA f.vn f.vc] = u := ⟨_, rfl⟩
        rw [hWF] at RF G0
        have CR := Cells.of_row RB.out
        have p0 := CR.at_ 0
        have p1 := CR.at_ 1
        have p2 := CR.at_ 2
        have p3 := CR.at_ 3
        have p4 := CR.at_ 4
        have p5 := CR.at_ 5
        have p6 := CR.at_ 6
        have p7 := CR.at_ 7
        have p8 := CR.at_ 8
        have p9 := CR.at_ 9
        simp only [List.getElem?_cons_zero, List.getElem?_cons_succ] at p0 p1 p2 p3 p4 p5 p6 p7 p8 p9
        have f0 := CR.fz 0
        have f1 := CR.fz 1
        have f2 := CR.fz 2
        have f3 := CR.fz 3
        have f4 := CR.fz 4
        have f5 := CR.fz 5
        have f6 := CR.fz 6
        have f7 := CR.fz 7
        have f8 := CR.fz 8
        have f9 := CR.fz 9
        have RF : V4.heap[pb]? = some (.cells #[.string f.nm, .slice f.PA f.pn f.pc, .slice f.IA f.iN f.ic, .slice f.DA f.dn f.dc, .slice f.KA f.kn f.kc, .slice f.QA f.qn f.qc, .slice f.OA f.n f.oc, .slice f.RA f.rn f.rc, .slice f.GA f.gn f.gc, .slice f.VA f.vn f.vc] 40 (0, 0)) := by
          rwa [put10] at RF
        have HB4 := Lib.hid (HB3.out.grown G0 HB3.out.size (fun k e => by injection e with e; have := Hpbw.out; omega))
        have RL := Lib.hid ((G0.block pl (by have := Hplz.out; omega) (fun e => by injection e with e; have := Hne.out; omega)).trans RL.out)
        have RB := Lib.hid RF
        have Hpbz := Lib.hid (Nat.lt_of_lt_of_le Hpbz.out G0.size)
        have Hplz := Lib.hid (Nat.lt_of_lt_of_le Hplz.out G0.size)
        simp only [World.setCells, Nat.reduceAdd] at hWF
        have HWF := Lib.hid hWF
        clear hWF CR RF G0
        refine Till.one (i := 5) (by kernel_rfl) rfl (fun K hK => ?_)
        go_simp
        rw [HWF.out]
        refine hK.out _ _ (fun h => absurd h (by simp)) ?_
        clear hK K HWF p0 f0 p1 f1 p2 f2 p3 f3 p4 f4 p5 f5 p6 f6 p7 f7 p8 f8 p9 f9
        try simp only [List.setIfInBounds_toArray, List.set_cons_zero, List.set_cons_succ]
        refine Till.done (by kernel_rfl) ?_ _
        go_wp2_with fail
        go_meet
        exact ⟨pl, pb, rfl, rfl, by have := Hne.out; omega, Hplw.out, Hpbw.out, Cells.of_row RL.out, Cells.of_row RB.out, HB4.out⟩
    case rest =>
      obtain ⟨pl, pb, rfl, rfl, hne, hpl, hpb, hcl, hcb, hbx⟩ := hcut
      have CL := (hcl.set 7 (.slice none 0 0) (by show 7 < 10; decide)).other hne 7 (.slice none 0 0)
      have CB := (hcb.other hne.symm 7 (.slice none 0 0)).set 7 (.slice none 0 0) (by show 7 < 10; decide)
      have BI := (hbx.setCell (p := ⟨pl, 7, none⟩) hpl (.slice none 0 0)).setCell (p := ⟨pb, 7, none⟩) hpb (.slice none 0 0)
      have a7 := hcl.at_ 7
      have y7 := hcl.fz 7
      have b7 := hcb.at_ 7
      have z7 := hcb.fz 7
      simp only [List.getElem?_cons_zero, List.getElem?_cons_succ] at a7 b7
      have hne' : ¬ pb = pl := fun e => hne e.symm
      go_upto_region 9 with fail
      obtain ⟨wi, hwi⟩ : ∃ u, (wc.setCell ⟨pl, 7, none⟩ (.slice none 0 0)).setCell ⟨pb, 7, none⟩ (.slice none 0 0) = u := ⟨_, rfl⟩
      rw [hwi] at CL CB BI ⊢
      have HT0 := Lib.hid (show TR w3 wi wi.heap.size pl pb f (.slice none 0 0) (.slice none 0 0) [] [] from ⟨CL, CB, World.ownsRow_nil _ _ _ _, World.ownsRow_nil _ _ _ _, (fun k hk => by cases hk), BI, hne, hpl, hpb, CL.lt, CB.lt, Nat.le_refl _, (fun q hq => by cases hq), (fun q hq => by cases hq)⟩)
      clear CL CB BI a7 y7 b7 z7 hne' hwi hcl hcb hbx hne hpl hpb
      obtain ⟨ir, hir, hir0, hir1, hir2⟩ := info_parts info_rule
      go_wp2_with fail
      go_loopw [8, 9, 10, 11, 12, 13, 14] (fun s i _ _ _ _ _ wx => ∃ (j a : Nat) (vl vb : Value) (ql qb : List Rq), i = .int .i64 (j : Nat) ∧ s = .int .i64 (a : Nat) ∧ j ≤ f.rn ∧ a = (redU f.n rs j).length ∧ TR w3 wx wi.heap.size pl pb f vl vb ql qb ∧ ql.map (·.1) = lessL f.n rs j ∧ qb.map (·.1) = rs.take j) (fun _ i _ _ _ _ _ _ => f.rn - (intOf i).toNat)
      case atStart => exact ⟨0, 0, _, _, [], [], rfl, rfl, Nat.zero_le _, rfl, HT0.out, rfl, rfl⟩
      case round =>
        obtain ⟨j, a, vl, vb, ql, qb, rfl, rfl, hj, ha, hT, hql, hqb⟩ := hrel
        obtain ⟨wx, rfl⟩ : ∃ x, x = wr := ⟨_, rfl⟩
        have HT := Lib.hid hT
        have Hql := Lib.hid hql
        have Hqb := Lib.hid hqb
        have Ha := Lib.hid ha
        have hqll : ql.length ≤ 1000 := by
          have h1 := lessL_len f.n rs j
          rw [← hql, List.length_map] at h1
          omega
        have hqbl : qb.length ≤ 1000 := by
          have h1 := congrArg List.length hqb
          rw [List.length_map, List.length_take] at h1
          omega
        have hale : a ≤ 1000 := by rw [ha]; have := redU_len f.n rs j; omega
        clear hT hql hqb ha
        have c7 := (HCf.out.keep HT.out.low).at_ 7
        simp only [List.getElem?_cons_zero, List.getElem?_cons_succ] at c7
        by_cases hlt : j < f.rn
        · have i1 : (j : Int) < (f.rn : Int) := by omega
          have hjrs : j < rs.length := by have := Hrl.out; omega
          obtain ⟨BA, BC, rfl, _⟩ := own_row HT.out.ob
          have hRb := RuleL.of_own HT.out.ob (HT.out.lb.keep HT.out.low)
          rw [Hqb.out] at hRb
          have HOKb := withR_sub (rc := BC) (n := qb.length) (HOK.out.keep HT.out.low) (List.take_sublist j rs) (by rw [← Hqb.out, List.length_map]) hRb
          have HCo1 := count_ok (withR f BA qb.length BC) os (rs.take j) gs vs plainD none 0 0 [] wx HOKb (fun k x hk => by cases hk) rfl (by omega) rfl
          obtain ⟨nA, hnA⟩ : ∃ n, (AL f.n (rs.take j) []).length = n := ⟨_, rfl⟩
          rw [show (withR f BA qb.length BC).n = f.n from rfl, hnA] at HCo1
          have HCo1 := Lib.hid HCo1
          have HnA := Lib.hid hnA
          obtain ⟨r, br, ro, A', d, hr, hRA, hbr, z0, z1, hl⟩ := HOK.out.rsL.at_ (k := j) hjrs
          have Hr := Lib.hid hr
          have Hl := Lib.hid hl
          have hcf7 := HCf.out.at_ 7
          simp only [List.getElem?_cons_zero, List.getElem?_cons_succ] at hcf7
          rw [hRA] at hcf7
          clear hRb HOKb hnA hr hl
          have b0 := HT.out.cb.at_ 0
          have b1 := HT.out.cb.at_ 1
          have b2 := HT.out.cb.at_ 2
          have b3 := HT.out.cb.at_ 3
          have b4 := HT.out.cb.at_ 4
          have b5 := HT.out.cb.at_ 5
          have b6 := HT.out.cb.at_ 6
          have b7 := HT.out.cb.at_ 7
          have b8 := HT.out.cb.at_ 8
          have b9 := HT.out.cb.at_ 9
          simp only [List.getElem?_cons_zero, List.getElem?_cons_succ] at b0 b1 b2 b3 b4 b5 b6 b7 b8 b9
          go_wp2_with fail
          refine HCo1.out.mono ?_
          rintro e w4 ⟨rfl, hb⟩
          have HT4 := Lib.hid (HT.out.keep hb)
          clear hb HCo1 b0 b1 b2 b3 b4 b5 b6 b7 b8 b9 c7 hRA
          go_upto_region 14 with fail
          go_cut [14] (fun _ wx => ∃ v', TR w3 wx wi.heap.size pl pb f vl v' ql (qb ++ [(r, A', d)]))
          case first =>
            have HS := Lib.hid (fun w' (hb : Below w4.heap.size w4 w') => (show w'.cell? ⟨pb, 7, none⟩ = some (.slice BA qb.length BC) ∧ w'.cell? ⟨pf, 7, none⟩ = some (.slice (some ⟨br, ro, none⟩) f.rn f.rc) ∧ w'.cell? ⟨br, ro + j * 2, none⟩ = some (.string r.1) ∧ w'.cell? ⟨br, ro + j * 2 + 1, none⟩ = some (.slice A' r.2.length d) from ⟨(HT4.out.cb.keep hb).at_ 7, ((below_on HT4.out.low hb).cell (p := ⟨pf, 7, none⟩) HCf.out.lt).trans hcf7, ((below_on HT4.out.low hb).cell (p := ⟨br, ro + j * 2, none⟩) hbr).trans z0, ((below_on HT4.out.low hb).cell (p := ⟨br, ro + j * 2 + 1, none⟩) hbr).trans z1⟩))
            refine Till.begin 10 (fun w' => w'.cell? ⟨pb, 7, none⟩ = some (.slice BA qb.length BC) ∧ w'.cell? ⟨pf, 7, none⟩ = some (.slice (some ⟨br, ro, none⟩) f.rn f.rc) ∧ w'.cell? ⟨br, ro + j * 2, none⟩ = some (.string r.1) ∧ w'.cell? ⟨br, ro + j * 2 + 1, none⟩ = some (.slice A' r.2.length d)) (by kernel_rfl) (HS.out _ (Below.refl _ _).drew) (fun hH => ?_)
            clear hH
            have HB0 := Lib.hid (Below.refl w4.heap.size w4).drew
            generalize w4.drew = V0 at HB0 ⊢
            obtain ⟨F0, hF0⟩ : ∃ n, V0.heap.size = n := ⟨_, rfl⟩
            have HF0 := Lib.hid hF0
            have HF0b := Lib.hid (Below.refl V0.heap.size V0)
            clear hF0
            try simp only [List.setIfInBounds_toArray, List.set_cons_zero, List.set_cons_succ]
            refine Till.tL 1 [2, 3, 10] 44 (.pointer (some ⟨pb, 7, none⟩)) (HS.out _ HB0.out) ?_
            try simp only [Act.put, List.setIfInBounds_toArray, List.set_cons_zero, List.set_cons_succ]
            refine Till.tL 2 [3, 10] 45 (.slice BA qb.length BC) (HS.out _ HB0.out) ?_
            try simp only [Act.put, List.setIfInBounds_toArray, List.set_cons_zero, List.set_cons_succ]
            refine Till.tL 4 [5, 7, 8, 9, 10] 47 (.pointer (some ⟨pf, 7, none⟩)) (HS.out _ HB0.out) ?_
            try simp only [Act.put, List.setIfInBounds_toArray, List.set_cons_zero, List.set_cons_succ]
            refine Till.tL 5 [7, 8, 9, 10] 48 (.slice (some ⟨br, ro, none⟩) f.rn f.rc) (HS.out _ HB0.out) ?_
            try simp only [Act.put, List.setIfInBounds_toArray, List.set_cons_zero, List.set_cons_succ]
            refine Till.tL 6 [7, 8, 9, 10] 49 (.int .i64 (j : Int)) (HS.out _ HB0.out) ?_
            try simp only [Act.put, List.setIfInBounds_toArray, List.set_cons_zero, List.set_cons_succ]
            refine Till.tL 7 [8, 9, 10] 50 (.pointer (some ⟨br, ro + j * 2, none⟩)) (HS.out _ HB0.out) ?_
            try simp only [Act.put, List.setIfInBounds_toArray, List.set_cons_zero, List.set_cons_succ]
            refine Till.tL 8 [9, 10] 51 (.agg #[.string r.1, .slice A' r.2.length d]) (HS.out _ HB0.out) ?_
            try simp only [Act.put, List.setIfInBounds_toArray, List.set_cons_zero, List.set_cons_succ]
            refine Till.two (i := 0) (j := 9) (by kernel_rfl) rfl rfl ?_ ?_
            · intro K hK
              go_simp
              have kx := (Below.refl V0.heap.size V0).alloc (Nat.le_refl _) (.cells #[] 76)
              have E0 := heap_new V0 (.cells #[] 76)
              obtain ⟨V1, hV⟩ : ∃ u, V0.alloc (.cells #[] 76) = u := ⟨_, rfl⟩
              rw [hV] at kx E0 ⊢
              obtain ⟨p0, hp0⟩ : ∃ p, V0.heap.size = p := ⟨_, rfl⟩
              have HB1 := Lib.hid (below_on HB0.out kx)
              have HF1 := Lib.hid (below_on HF0b.out kx)
              have Hp0 := Lib.hid (show F0 ≤ p0 by rw [← hp0]; exact Nat.le_trans (Nat.le_of_eq HF0.out.symm) HF0b.out.size)
              rw [hp0] at E0 ⊢
              have E0 := Lib.hid E0
              refine hK.out _ _ (fun _ => HS.out _ HB1.out) ?_
              clear hK K hV kx hp0
              try simp only [List.setIfInBounds_toArray, List.set_cons_zero, List.set_cons_succ]
              refine Till.two (i := 3) (j := 9) (by kernel_rfl) rfl rfl ?_ ?_
              · intro K hK
                obtain ⟨v3, V2, hrun, hown3, hgrow3⟩ := append_all V1 E0.out Hp0.out (HT4.out.keep (show Below w4.heap.size w4 V1 from HB1.out)).ob (by omega)
                refine step_append_run rfl (.tmp 43) (.tmp 45) 36 rfl rfl rfl hrun ?_
                have kx := HF1.out.grown hgrow3 (by rw [HF0.out]; exact Nat.le_trans (Nat.le_of_eq HF0.out.symm) HF1.out.size) (fun k e => by injection e with e; have := Hp0.out; have := HF0.out; omega)
                have HF2 := Lib.hid kx
                have HB2 := Lib.hid (below_on HB0.out kx)
                have O3 := Lib.hid hown3
                refine hK.out _ _ (fun _ => HS.out _ HB2.out) ?_
                clear hK K hrun hown3 hgrow3 kx E0
                try simp only [Act.put, List.setIfInBounds_toArray]
                refine Till.one (i := 9) (by kernel_rfl) rfl (fun K hK => ?_)
                go_simp
                have kx := (Below.refl V2.heap.size V2).alloc (Nat.le_refl _) (.cells #[.string r.1, .slice A' r.2.length d] 76)
                have C9 := Cells.new V2 #[.string r.1, .slice A' r.2.length d] 76
                obtain ⟨V3, hV⟩ : ∃ u, V2.alloc (.cells #[.string r.1, .slice A' r.2.length d] 76) = u := ⟨_, rfl⟩
                rw [hV] at kx C9 ⊢
                obtain ⟨p9, hp9⟩ : ∃ p, V2.heap.size = p := ⟨_, rfl⟩
                have HB3 := Lib.hid (below_on HB2.out kx)
                have HF3 := Lib.hid (below_on HF2.out kx)
                have O3 := Lib.hid (own_keep O3.out kx)
                rw [hp9] at C9 ⊢
                have C9 := Lib.hid C9
                refine hK.out _ _ (fun _ => HS.out _ HB3.out) ?_
                clear hK K hV kx hp9
                try simp only [List.setIfInBounds_toArray, List.set_cons_zero, List.set_cons_succ]
                obtain ⟨v9, V4, hrun, hown9, hgrow9, _⟩ := run_append_own (P := Try.prog) V3 F0 36 36 76 ir (.agg #[.string ByteArray.empty, .slice none 0 0]) 2 40 Try.underlying36 hir hir0 hir1 hir2 rfl (by decide) v3 qb.length (rflat qb) O3.out ⟨p9, 0, none⟩ 1 1 [.string r.1, .slice A' r.2.length d] rfl (fun k u hu => by rw [Addr.add_lit, Nat.zero_add]; exact (C9.out.at_ k).trans hu) (fun u hu => by
                  simp at hu
                  rcases hu with rfl | rfl <;> rfl) (by unfold maxLen; omega) (by omega) (by have := HF0.out; have := HF3.out.size; omega)
                obtain ⟨NA, NC, rfl, _⟩ := own_row hown9
                refine Till.one (i := 10) (by kernel_rfl) rfl (fun K hK => ?_)
                refine step_append_run rfl (.tmp 46) (.tmp 52) 36 rfl rfl rfl hrun ?_
                have B9 := HF3.out.grown hgrow9 HF3.out.size (fun k e => by have := own_ge O3.out e; have := HF0.out; omega)
                have T9 := TR.newB (qs := qb ++ [(r, A', d)]) (HT4.out.keep HB0.out) B9 (by rw [HF0.out, rflat_app, List.length_append]; exact hown9) (fun p hp => by
                  rcases List.mem_append.1 hp with hp | hp
                  · exact HT4.out.lb p hp
                  · rw [List.mem_singleton.1 hp]; exact Hl.out)
                have z7 := T9.1.1
                have y7 := T9.1.2
                have T9 := Lib.hid T9.2
                refine hK.out _ _ (fun h => absurd h (by simp)) ?_
                clear hK K hrun hown9 hgrow9 B9
                try simp only [Act.put, List.setIfInBounds_toArray]
                refine Till.one (i := 11) (by kernel_rfl) rfl (fun K hK => ?_)
                go_simp
                refine hK.out _ _ (fun h => absurd h (by simp)) ?_
                clear hK K
                try simp only [List.setIfInBounds_toArray, List.set_cons_zero, List.set_cons_succ]
                refine Till.one (i := 12) (by kernel_rfl) rfl (fun K hK => ?_)
                go_simp
                refine hK.out _ _ (fun h => absurd h (by simp)) ?_
                clear hK K
                try simp only [List.setIfInBounds_toArray, List.set_cons_zero, List.set_cons_succ]
                refine Till.done (by kernel_rfl) ?_ _
                go_wp2_with fail
                go_meet
                exact ⟨_, T9.out⟩
              · intro K hK
                go_simp
                have kx := (Below.refl V1.heap.size V1).alloc (Nat.le_refl _) (.cells #[.string r.1, .slice A' r.2.length d] 76)
                have C9 := Cells.new V1 #[.string r.1, .slice A' r.2.length d] 76
                obtain ⟨V2, hV⟩ : ∃ u, V1.alloc (.cells #[.string r.1, .slice A' r.2.length d] 76) = u := ⟨_, rfl⟩
                rw [hV] at kx C9 ⊢
                obtain ⟨p9, hp9⟩ : ∃ p, V1.heap.size = p := ⟨_, rfl⟩
                have HB2 := Lib.hid (below_on HB1.out kx)
                have HF2 := Lib.hid (below_on HF1.out kx)
                have Hp9 := Lib.hid (show p0 ≠ p9 by have := row_lt E0.out; omega)
                have E0 := Lib.hid (row_keep E0.out kx)
                rw [hp9] at C9 ⊢
                have C9 := Lib.hid C9
                refine hK.out _ _ (fun _ => HS.out _ HB2.out) ?_
                clear hK K hV kx hp9
                try simp only [List.setIfInBounds_toArray, List.set_cons_zero, List.set_cons_succ]
                obtain ⟨v3, V3, hrun, hown3, hgrow3⟩ := append_all V2 E0.out Hp0.out (HT4.out.keep (show Below w4.heap.size w4 V2 from HB2.out)).ob (by omega)
                refine Till.one (i := 3) (by kernel_rfl) rfl (fun K hK => ?_)
                refine step_append_run rfl (.tmp 43) (.tmp 45) 36 rfl rfl rfl hrun ?_
                have kx := HF2.out.grown hgrow3 (by rw [HF0.out]; exact Nat.le_trans (Nat.le_of_eq HF0.out.symm) HF2.out.size) (fun k e => by injection e with e; have := Hp0.out; have := HF0.out; omega)
                have HF3 := Lib.hid kx
                have HB3 := Lib.hid (below_on HB0.out kx)
                have O3 := Lib.hid hown3
                have C9 := Lib.hid (cells_apart C9.out hgrow3 (by intro e; injection e with e; have := Hp9.out; omega))
                refine hK.out _ _ (fun _ => HS.out _ HB3.out) ?_
                clear hK K hrun hown3 hgrow3 kx E0
                try simp only [Act.put, List.setIfInBounds_toArray]
                obtain ⟨v9, V4, hrun, hown9, hgrow9, _⟩ := run_append_own (P := Try.prog) V3 F0 36 36 76 ir (.agg #[.string ByteArray.empty, .slice none 0 0]) 2 40 Try.underlying36 hir hir0 hir1 hir2 rfl (by decide) v3 qb.length (rflat qb) O3.out ⟨p9, 0, none⟩ 1 1 [.string r.1, .slice A' r.2.length d] rfl (fun k u hu => by rw [Addr.add_lit, Nat.zero_add]; exact (C9.out.at_ k).trans hu) (fun u hu => by
                  simp at hu
                  rcases hu with rfl | rfl <;> rfl) (by unfold maxLen; omega) (by omega) (by have := HF0.out; have := HF3.out.size; omega)
                obtain ⟨NA, NC, rfl, _⟩ := own_row hown9
                refine Till.one (i := 10) (by kernel_rfl) rfl (fun K hK => ?_)
                refine step_append_run rfl (.tmp 46) (.tmp 52) 36 rfl rfl rfl hrun ?_
                have B9 := HF3.out.grown hgrow9 HF3.out.size (fun k e => by have := own_ge O3.out e; have := HF0.out; omega)
                have T9 := TR.newB (qs := qb ++ [(r, A', d)]) (HT4.out.keep HB0.out) B9 (by rw [HF0.out, rflat_app, List.length_append]; exact hown9) (fun p hp => by
                  rcases List.mem_append.1 hp with hp | hp
                  · exact HT4.out.lb p hp
                  · rw [List.mem_singleton.1 hp]; exact Hl.out)
                have z7 := T9.1.1
                have y7 := T9.1.2
                have T9 := Lib.hid T9.2
                refine hK.out _ _ (fun h => absurd h (by simp)) ?_
                clear hK K hrun hown9 hgrow9 B9
                try simp only [Act.put]
                refine Till.one (i := 11) (by kernel_rfl) rfl (fun K hK => ?_)
                go_simp
                refine hK.out _ _ (fun h => absurd h (by simp)) ?_
                clear hK K
                try simp only [List.setIfInBounds_toArray, List.set_cons_zero, List.set_cons_succ]
                refine Till.one (i := 12) (by kernel_rfl) rfl (fun K hK => ?_)
                go_simp
                refine hK.out _ _ (fun h => absurd h (by simp)) ?_
                clear hK K
                try simp only [List.setIfInBounds_toArray, List.set_cons_zero, List.set_cons_succ]
                refine Till.done (by kernel_rfl) ?_ _
                go_wp2_with fail
                go_meet
                exact ⟨_, T9.out⟩
            · intro K hK
              go_simp
              have kx := (Below.refl V0.heap.size V0).alloc (Nat.le_refl _) (.cells #[.string r.1, .slice A' r.2.length d] 76)
              have C9 := Cells.new V0 #[.string r.1, .slice A' r.2.length d] 76
              obtain ⟨V1, hV⟩ : ∃ u, V0.alloc (.cells #[.string r.1, .slice A' r.2.length d] 76) = u := ⟨_, rfl⟩
              rw [hV] at kx C9 ⊢
              obtain ⟨p9, hp9⟩ : ∃ p, V0.heap.size = p := ⟨_, rfl⟩
              have HB1 := Lib.hid (below_on HB0.out kx)
              have HF1 := Lib.hid (below_on HF0b.out kx)
              have Hp9a := Lib.hid (show p9 < V1.heap.size by have := C9.lt; omega)
              rw [hp9] at C9 ⊢
              have C9 := Lib.hid C9
              refine hK.out _ _ (fun _ => HS.out _ HB1.out) ?_
              clear hK K hV kx hp9
              try simp only [List.setIfInBounds_toArray, List.set_cons_zero, List.set_cons_succ]
              refine Till.one (i := 0) (by kernel_rfl) rfl (fun K hK => ?_)
              go_simp
              have kx := (Below.refl V1.heap.size V1).alloc (Nat.le_refl _) (.cells #[] 76)
              have E0 := heap_new V1 (.cells #[] 76)
              obtain ⟨V2, hV⟩ : ∃ u, V1.alloc (.cells #[] 76) = u := ⟨_, rfl⟩
              rw [hV] at kx E0 ⊢
              obtain ⟨p0, hp0⟩ : ∃ p, V1.heap.size = p := ⟨_, rfl⟩
              have HB2 := Lib.hid (below_on HB1.out kx)
              have HF2 := Lib.hid (below_on HF1.out kx)
              have Hp0 := Lib.hid (show F0 ≤ p0 by rw [← hp0]; exact Nat.le_trans (Nat.le_of_eq HF0.out.symm) HF1.out.size)
              have C9 := Lib.hid (C9.out.keep kx)
              have Hp9 := Lib.hid (show p0 ≠ p9 by have := Hp9a.out; omega)
              rw [hp0] at E0 ⊢
              have E0 := Lib.hid E0
              refine hK.out _ _ (fun _ => HS.out _ HB2.out) ?_
              clear hK K hV kx hp0
              try simp only [List.setIfInBounds_toArray, List.set_cons_zero, List.set_cons_succ]
              obtain ⟨v3, V3, hrun, hown3, hgrow3⟩ := append_all V2 E0.out Hp0.out (HT4.out.keep (show Below w4.heap.size w4 V2 from HB2.out)).ob (by omega)
              refine Till.one (i := 3) (by kernel_rfl) rfl (fun K hK => ?_)
              refine step_append_run rfl (.tmp 43) (.tmp 45) 36 rfl rfl rfl hrun ?_
              have kx := HF2.out.grown hgrow3 (by rw [HF0.out]; exact Nat.le_trans (Nat.le_of_eq HF0.out.symm) HF2.out.size) (fun k e => by injection e with e; have := Hp0.out; have := HF0.out; omega)
              have HF3 := Lib.hid kx
              have HB3 := Lib.hid (below_on HB0.out kx)
              have O3 := Lib.hid hown3
              have C9 := Lib.hid (cells_apart C9.out hgrow3 (by intro e; injection e with e; have := Hp9.out; omega))
              refine hK.out _ _ (fun _ => HS.out _ HB3.out) ?_
              clear hK K hrun hown3 hgrow3 kx E0
              try simp only [Act.put, List.setIfInBounds_toArray]
              obtain ⟨v9, V4, hrun, hown9, hgrow9, _⟩ := run_append_own (P := Try.prog) V3 F0 36 36 76 ir (.agg #[.string ByteArray.empty, .slice none 0 0]) 2 40 Try.underlying36 hir hir0 hir1 hir2 rfl (by decide) v3 qb.length (rflat qb) O3.out ⟨p9, 0, none⟩ 1 1 [.string r.1, .slice A' r.2.length d] rfl (fun k u hu => by rw [Addr.add_lit, Nat.zero_add]; exact (C9.out.at_ k).trans hu) (fun u hu => by
                simp at hu
                rcases hu with rfl | rfl <;> rfl) (by unfold maxLen; omega) (by omega) (by have := HF0.out; have := HF3.out.size; omega)
              obtain ⟨NA, NC, rfl, _⟩ := own_row hown9
              refine Till.one (i := 10) (by kernel_rfl) rfl (fun K hK => ?_)
              refine step_append_run rfl (.tmp 46) (.tmp 52) 36 rfl rfl rfl hrun ?_
              have B9 := HF3.out.grown hgrow9 HF3.out.size (fun k e => by have := own_ge O3.out e; have := HF0.out; omega)
              have T9 := TR.newB (qs := qb ++ [(r, A', d)]) (HT4.out.keep HB0.out) B9 (by rw [HF0.out, rflat_app, List.length_append]; exact hown9) (fun p hp => by
                rcases List.mem_append.1 hp with hp | hp
                · exact HT4.out.lb p hp
                · rw [List.mem_singleton.1 hp]; exact Hl.out)
              have z7 := T9.1.1
              have y7 := T9.1.2
              have T9 := Lib.hid T9.2
              refine hK.out _ _ (fun h => absurd h (by simp)) ?_
              clear hK K hrun hown9 hgrow9 B9
              try simp only [Act.put]
              refine Till.one (i := 11) (by kernel_rfl) rfl (fun K hK => ?_)
              go_simp
              refine hK.out _ _ (fun h => absurd h (by simp)) ?_
              clear hK K
              try simp only [List.setIfInBounds_toArray, List.set_cons_zero, List.set_cons_succ]
              refine Till.one (i := 12) (by kernel_rfl) rfl (fun K hK => ?_)
              go_simp
              refine hK.out _ _ (fun h => absurd h (by simp)) ?_
              clear hK K
              try simp only [List.setIfInBounds_toArray, List.set_cons_zero, List.set_cons_succ]
              refine Till.done (by kernel_rfl) ?_ _
              go_wp2_with fail
              go_meet
              exact ⟨_, T9.out⟩
          case rest =>
            obtain ⟨v', hT5⟩ := hcut
            have hqs' : (qb ++ [(r, A', d)]).map (·.1) = rs.take (j + 1) := by rw [List.map_append, Hqb.out, List.take_add_one, Hr.out]; rfl
            have hql0 : (qb ++ [(r, A', d)]).length ≤ 1001 := by rw [List.length_append]; simp; omega
            obtain ⟨qs, hqs⟩ : ∃ x, qb ++ [(r, A', d)] = x := ⟨_, rfl⟩
            rw [hqs] at hT5 hqs' hql0
            have HT5 := Lib.hid hT5
            have Hqs := Lib.hid hqs'
            clear hT5 hqs hqs'
            obtain ⟨BA', BC', rfl, _⟩ := own_row HT5.out.ob
            have hRb := RuleL.of_own HT5.out.ob (HT5.out.lb.keep HT5.out.low)
            rw [Hqs.out] at hRb
            have HOKb := withR_sub (rc := BC') (n := qs.length) (HOK.out.keep HT5.out.low) (List.take_sublist (j + 1) rs) (by rw [← Hqs.out, List.length_map]) hRb
            have HCo2 := count_ok (withR f BA' qs.length BC') os (rs.take (j + 1)) gs vs plainD none 0 0 [] wc HOKb (fun k x hk => by cases hk) rfl (by omega) rfl
            obtain ⟨nB, hnB⟩ : ∃ n, (AL f.n (rs.take (j + 1)) []).length = n := ⟨_, rfl⟩
            rw [show (withR f BA' qs.length BC').n = f.n from rfl, hnB] at HCo2
            have HCo2 := Lib.hid HCo2
            have hle := AL_take_le (n := f.n) hjrs
            have hiff := AL_take_eq (n := f.n) hjrs
            rw [hnB, HnA.out] at hle hiff
            have hnx := red_next (n := f.n) (rs := rs) (j := j) (N := rs.length) hjrs
            obtain ⟨q, hq⟩ : ∃ q, folB f.n rs (2 ^ f.n) j = q := ⟨_, rfl⟩
            rw [hq] at hiff hnx
            rw [← Ha.out] at hnx
            have Hq := Lib.hid hq
            have Hif := Lib.hid hiff
            have Hnx := Lib.hid hnx
            have e1 : ¬ ((nA : Int) < (nB : Int)) := by omega
            have e2 : ¬ nA < nB := by omega
            have e3 : decide (nA < nB) = false := decide_eq_false e2
            have e4 : decide ((nA : Int) < (nB : Int)) = false := decide_eq_false e1
            clear hRb HOKb hnB hq hiff hnx hle HT4
            have b0 := HT5.out.cb.at_ 0
            have b1 := HT5.out.cb.at_ 1
            have b2 := HT5.out.cb.at_ 2
            have b3 := HT5.out.cb.at_ 3
            have b4 := HT5.out.cb.at_ 4
            have b5 := HT5.out.cb.at_ 5
            have b6 := HT5.out.cb.at_ 6
            have b7 := HT5.out.cb.at_ 7
            have b8 := HT5.out.cb.at_ 8
            have b9 := HT5.out.cb.at_ 9
            simp only [List.getElem?_cons_zero, List.getElem?_cons_succ] at b0 b1 b2 b3 b4 b5 b6 b7 b8 b9
            go_wp2_with fail
            refine HCo2.out.mono ?_
            rintro e w6 ⟨rfl, hb⟩
            have HT6 := Lib.hid (HT5.out.keep hb)
            clear hb HCo2 HT5 b0 b1 b2 b3 b4 b5 b6 b7 b8 b9
            go_upto_region 18 with fail
            go_cut [14] (fun s wx => s = .bool q ∧ TR w3 wx wi.heap.size pl pb f vl (.slice BA' qs.length BC') ql qs)
            case first =>
              have HN6 := HN.out.keep HT6.out.low
              have hnx := Hnx.out
              cases q
              · by_cases haM : a < M
                · obtain ⟨x, hx⟩ : ∃ x, (redU f.n rs rs.length)[a]? = some x := ⟨_, List.getElem?_eq_getElem (by rw [HMl.out]; exact haM)⟩
                  obtain ⟨gl, ol, rfl, hgl, hcx⟩ := HN6 a x hx
                  have hxj : ¬ x = j := fun e => by subst e; exact absurd (hnx.1 hx) (by decide)
                  have i2 : (a : Int) < (M : Int) := by omega
                  have i3 : ((x : Int) == (j : Int)) = false := by rw [beq_eq_false_iff_ne]; omega
                  have i4 : ¬ ((x : Int) = (j : Int)) := by omega
                  clear hx hnx HN6
                  go_wp2_with fail
                  go_meet
                  exact ⟨rfl, HT6.out⟩
                · have i2 : decide ((a : Int) < (M : Int)) = false := decide_eq_false (by omega)
                  have i3 : decide (a < M) = false := decide_eq_false haM
                  have i4 : ¬ ((a : Int) < (M : Int)) := by omega
                  clear hnx HN6
                  go_wp2_with fail
                  go_meet
                  exact ⟨rfl, HT6.out⟩
              · have hx := hnx.2 rfl
                have haM : a < M := by rw [← HMl.out]; exact (List.getElem?_eq_some_iff.1 hx).1
                obtain ⟨gl, ol, rfl, hgl, hcx⟩ := HN6 a j hx
                have i2 : (a : Int) < (M : Int) := by omega
                clear hx hnx HN6
                go_wp2_with fail
                go_meet
                exact ⟨rfl, HT6.out⟩
            case rest =>
              obtain ⟨rfl, hT7⟩ := hcut
              obtain ⟨w7, rfl⟩ : ∃ x, x = wc := ⟨_, rfl⟩
              have HT7 := Lib.hid hT7
              clear hT7 HT6
              have hiff := Hif.out
              cases q
              · have hnn : ¬ nB = nA := fun e => absurd (hiff.1 e) (by decide)
                have e5 : ((nB : Int) == (nA : Int)) = false := by rw [beq_eq_false_iff_ne]; omega
                have e6 : ¬ ((nB : Int) = (nA : Int)) := by omega
                have e7 : decide (nB = nA) = false := decide_eq_false hnn
                clear hiff
                go_upto_region 23 with fail
                have HS := Lib.hid (fun w' (hb : Below w7.heap.size w7 w') => (show w'.cell? ⟨pl, 7, none⟩ = some vl ∧ w'.cell? ⟨pf, 7, none⟩ = some (.slice (some ⟨br, ro, none⟩) f.rn f.rc) ∧ w'.cell? ⟨br, ro + j * 2, none⟩ = some (.string r.1) ∧ w'.cell? ⟨br, ro + j * 2 + 1, none⟩ = some (.slice A' r.2.length d) from ⟨(HT7.out.cl.keep hb).at_ 7, ((below_on HT7.out.low hb).cell (p := ⟨pf, 7, none⟩) HCf.out.lt).trans hcf7, ((below_on HT7.out.low hb).cell (p := ⟨br, ro + j * 2, none⟩) hbr).trans z0, ((below_on HT7.out.low hb).cell (p := ⟨br, ro + j * 2 + 1, none⟩) hbr).trans z1⟩))
                refine Till.begin 8 (fun w' => w'.cell? ⟨pl, 7, none⟩ = some vl ∧ w'.cell? ⟨pf, 7, none⟩ = some (.slice (some ⟨br, ro, none⟩) f.rn f.rc) ∧ w'.cell? ⟨br, ro + j * 2, none⟩ = some (.string r.1) ∧ w'.cell? ⟨br, ro + j * 2 + 1, none⟩ = some (.slice A' r.2.length d)) (by kernel_rfl) (HS.out _ (Below.refl _ _).drew) (fun hH => ?_)
                clear hH
                have HB0 := Lib.hid (Below.refl w7.heap.size w7).drew
                generalize w7.drew = V0 at HB0 ⊢
                try simp only [List.setIfInBounds_toArray, List.set_cons_zero, List.set_cons_succ]
                refine Till.tL 0 [1, 8] 91 (.pointer (some ⟨pl, 7, none⟩)) (HS.out _ HB0.out) ?_
                try simp only [Act.put, List.setIfInBounds_toArray, List.set_cons_zero, List.set_cons_succ]
                refine Till.tL 1 [8] 92 (vl) (HS.out _ HB0.out) ?_
                try simp only [Act.put, List.setIfInBounds_toArray, List.set_cons_zero, List.set_cons_succ]
                refine Till.tL 2 [3, 5, 6, 7, 8] 93 (.pointer (some ⟨pf, 7, none⟩)) (HS.out _ HB0.out) ?_
                try simp only [Act.put, List.setIfInBounds_toArray, List.set_cons_zero, List.set_cons_succ]
                refine Till.tL 3 [5, 6, 7, 8] 94 (.slice (some ⟨br, ro, none⟩) f.rn f.rc) (HS.out _ HB0.out) ?_
                try simp only [Act.put, List.setIfInBounds_toArray, List.set_cons_zero, List.set_cons_succ]
                refine Till.tL 4 [5, 6, 7, 8] 95 (.int .i64 (j : Int)) (HS.out _ HB0.out) ?_
                try simp only [Act.put, List.setIfInBounds_toArray, List.set_cons_zero, List.set_cons_succ]
                refine Till.tL 5 [6, 7, 8] 96 (.pointer (some ⟨br, ro + j * 2, none⟩)) (HS.out _ HB0.out) ?_
                try simp only [Act.put, List.setIfInBounds_toArray, List.set_cons_zero, List.set_cons_succ]
                refine Till.tL 6 [7, 8] 97 (.agg #[.string r.1, .slice A' r.2.length d]) (HS.out _ HB0.out) ?_
                try simp only [Act.put, List.setIfInBounds_toArray, List.set_cons_zero, List.set_cons_succ]
                refine Till.one (i := 7) (by kernel_rfl) rfl (fun K hK => ?_)
                go_simp
                have kx := (Below.refl V0.heap.size V0).alloc (Nat.le_refl _) (.cells #[.string r.1, .slice A' r.2.length d] 76)
                have C9 := Cells.new V0 #[.string r.1, .slice A' r.2.length d] 76
                obtain ⟨V8, hV⟩ : ∃ u, V0.alloc (.cells #[.string r.1, .slice A' r.2.length d] 76) = u := ⟨_, rfl⟩
                rw [hV] at kx C9 ⊢
                have HB8 := Lib.hid (below_on HB0.out kx)
                refine hK.out _ _ (fun _ => HS.out _ HB8.out) ?_
                clear hK K hV kx
                try simp only [List.setIfInBounds_toArray, List.set_cons_zero, List.set_cons_succ]
                have HT8 := Lib.hid (HT7.out.keep HB8.out)
                obtain ⟨g9, c9', V9, hrun, hown9, hgrow9, hw9, _⟩ := run_append_lies (P := Try.prog) (w := V8) 36 36 wi.heap.size 76 ir (.agg #[.string ByteArray.empty, .slice none 0 0]) 2 40 Try.underlying36 hir hir0 hir1 hir2 rfl (by decide) vl ql.length (rflat ql) HT8.out.ol ⟨V0.heap.size, 0, none⟩ 1 1 [.string r.1, .slice A' r.2.length d] rfl (fun k u hu => by rw [Addr.add_lit, Nat.zero_add]; exact (C9.at_ k).trans hu) (fun u hu => by
                  simp at hu
                  rcases hu with rfl | rfl <;> rfl) (by decide) (by unfold maxLen; omega) (by omega) HT8.out.BW _ rfl
                refine Till.one (i := 8) (by kernel_rfl) rfl (fun K hK => ?_)
                refine step_append_run rfl (.tmp 92) (.tmp 98) 36 rfl rfl rfl hrun ?_
                have T9 := TR.appL (q := (r, A', d)) HT8.out hgrow9 (by rw [rflat_app, List.length_append]; exact hown9) (fun g' hg' => by
                  have hgg : g9 = g' := by simpa [Value.ownBlock] using hg'
                  rw [← hgg]
                  exact hw9.imp id (fun e => Nat.le_of_eq e.symm)) Hl.out
                have z7 := T9.1.1
                have y7 := T9.1.2
                have T9 := Lib.hid T9.2
                refine hK.out _ _ (fun h => absurd h (by simp)) ?_
                clear hK K hrun hown9 hgrow9 hw9
                try simp only [Act.put, List.setIfInBounds_toArray]
                refine Till.one (i := 9) (by kernel_rfl) rfl (fun K hK => ?_)
                go_simp
                refine hK.out _ _ (fun h => absurd h (by simp)) ?_
                clear hK K
                try simp only [List.setIfInBounds_toArray, List.set_cons_zero, List.set_cons_succ]
                refine Till.one (i := 10) (by kernel_rfl) rfl (fun K hK => ?_)
                go_simp
                refine hK.out _ _ (fun h => absurd h (by simp)) ?_
                clear hK K
                try simp only [List.setIfInBounds_toArray, List.set_cons_zero, List.set_cons_succ]
                refine Till.done (by kernel_rfl) ?_ _
                go_wp2_with fail
                go_roundw
                case rel => exact ⟨j + 1, a, _, _, ql ++ [(r, A', d)], qs, by go_num, rfl, by omega, by rw [redU_no Hq.out]; exact Ha.out, T9.out, by rw [List.map_append, Hql.out, lessL_no Hq.out Hr.out]; rfl, Hqs.out⟩
                case measure => simp [intOf]; omega
              · have hnn : nB = nA := hiff.2 rfl
                subst hnn
                clear hiff
                go_wp2_with fail
                go_roundw
                case rel => exact ⟨j + 1, a + 1, vl, _, ql, qs, by go_num, by go_num, by omega, by rw [redU_yes Hq.out, List.length_append, ← Ha.out]; rfl, HT7.out, by rw [Hql.out, lessL_yes Hq.out], Hqs.out⟩
                case measure => simp [intOf]; omega
        · have hjn : j = f.rn := by omega
          subst hjn
          have hjr : f.rn = rs.length := Hrl.out.symm
          have haM : M = a := by rw [Ha.out, ← HMl.out, hjr]
          subst haM
          have hql' : ql.map (·.1) = lessL f.n rs rs.length := by rw [Hql.out, hjr]
          obtain ⟨LA2, LC2, rfl, _⟩ := own_row HT.out.ol
          have hRl := RuleL.of_own HT.out.ol (HT.out.ll.keep HT.out.low)
          rw [hql'] at hRl
          have HOKl := withR_sub (rc := LC2) (n := ql.length) (HOK.out.keep HT.out.low) (lessL_sub (Nat.le_refl _)) (by rw [← hql', List.length_map]) hRl
          have HOKx := Lib.hid (HOK.out.keep HT.out.low)
          have hsm := less_same hn6 HRL.out
          have hLL6 : ∀ r ∈ lessL f.n rs rs.length, (∀ l ∈ r.2, l.1 < 6) ∧ r.2.length ≤ 1000 := fun r hr => HRL6.out r (lessL_in (Nat.le_refl _) r hr)
          obtain ⟨ls, hls⟩ : ∃ x, lessL f.n rs rs.length = x := ⟨_, rfl⟩
          rw [hls] at HOKl hsm hLL6
          obtain ⟨X1, hX1⟩ : ∃ x, ALR f.n rs (List.replicate rs.length false) [] = x := ⟨_, rfl⟩
          have hx64 := @ALR_short f.n hn6 rs (List.replicate rs.length false) []
          rw [hX1] at hsm hx64
          have HX1 := Lib.hid hX1
          have Hsm := Lib.hid hsm
          have HOKl := Lib.hid HOKl
          have HLL6 := Lib.hid hLL6
          have HKx := Lib.hid (below_on HK4.out HT.out.low)
          clear hRl hls hX1 hsm hLL6 hql' hjr
          go_upto_region 24 with fail
          have HS := Lib.hid (fun w' (hb : Below wx.heap.size wx w') => (show (w'.cell? ⟨pl, 0, none⟩ = some (.string f.nm) ∧ w'.cell? ⟨pl, 1, none⟩ = some (.slice f.PA f.pn f.pc) ∧ w'.cell? ⟨pl, 2, none⟩ = some (.slice f.IA f.iN f.ic) ∧ w'.cell? ⟨pl, 3, none⟩ = some (.slice f.DA f.dn f.dc) ∧ w'.cell? ⟨pl, 4, none⟩ = some (.slice f.KA f.kn f.kc) ∧ w'.cell? ⟨pl, 5, none⟩ = some (.slice f.QA f.qn f.qc) ∧ w'.cell? ⟨pl, 6, none⟩ = some (.slice f.OA f.n f.oc) ∧ w'.cell? ⟨pl, 7, none⟩ = some (.slice LA2 ql.length LC2) ∧ w'.cell? ⟨pl, 8, none⟩ = some (.slice f.GA f.gn f.gc) ∧ w'.cell? ⟨pl, 9, none⟩ = some (.slice f.VA f.vn f.vc)) ∧ (w'.cell? ⟨pf, 0, none⟩ = some (.string f.nm) ∧ w'.cell? ⟨pf, 1, none⟩ = some (.slice f.PA f.pn f.pc) ∧ w'.cell? ⟨pf, 2, none⟩ = some (.slice f.IA f.iN f.ic) ∧ w'.cell? ⟨pf, 3, none⟩ = some (.slice f.DA f.dn f.dc) ∧ w'.cell? ⟨pf, 4, none⟩ = some (.slice f.KA f.kn f.kc) ∧ w'.cell? ⟨pf, 5, none⟩ = some (.slice f.QA f.qn f.qc) ∧ w'.cell? ⟨pf, 6, none⟩ = some (.slice f.OA f.n f.oc) ∧ w'.cell? ⟨pf, 7, none⟩ = some (.slice f.RA f.rn f.rc) ∧ w'.cell? ⟨pf, 8, none⟩ = some (.slice f.GA f.gn f.gc) ∧ w'.cell? ⟨pf, 9, none⟩ = some (.slice f.VA f.vn f.vc)) from ⟨⟨(HT.out.cl.keep hb).at_ 0, (HT.out.cl.keep hb).at_ 1, (HT.out.cl.keep hb).at_ 2, (HT.out.cl.keep hb).at_ 3, (HT.out.cl.keep hb).at_ 4, (HT.out.cl.keep hb).at_ 5, (HT.out.cl.keep hb).at_ 6, (HT.out.cl.keep hb).at_ 7, (HT.out.cl.keep hb).at_ 8, (HT.out.cl.keep hb).at_ 9⟩, ⟨(HCf.out.keep (below_on HT.out.low hb)).at_ 0, (HCf.out.keep (below_on HT.out.low hb)).at_ 1, (HCf.out.keep (below_on HT.out.low hb)).at_ 2, (HCf.out.keep (below_on HT.out.low hb)).at_ 3, (HCf.out.keep (below_on HT.out.low hb)).at_ 4, (HCf.out.keep (below_on HT.out.low hb)).at_ 5, (HCf.out.keep (below_on HT.out.low hb)).at_ 6, (HCf.out.keep (below_on HT.out.low hb)).at_ 7, (HCf.out.keep (below_on HT.out.low hb)).at_ 8, (HCf.out.keep (below_on HT.out.low hb)).at_ 9⟩⟩))
          refine Till.begin 14 (fun w' => (w'.cell? ⟨pl, 0, none⟩ = some (.string f.nm) ∧ w'.cell? ⟨pl, 1, none⟩ = some (.slice f.PA f.pn f.pc) ∧ w'.cell? ⟨pl, 2, none⟩ = some (.slice f.IA f.iN f.ic) ∧ w'.cell? ⟨pl, 3, none⟩ = some (.slice f.DA f.dn f.dc) ∧ w'.cell? ⟨pl, 4, none⟩ = some (.slice f.KA f.kn f.kc) ∧ w'.cell? ⟨pl, 5, none⟩ = some (.slice f.QA f.qn f.qc) ∧ w'.cell? ⟨pl, 6, none⟩ = some (.slice f.OA f.n f.oc) ∧ w'.cell? ⟨pl, 7, none⟩ = some (.slice LA2 ql.length LC2) ∧ w'.cell? ⟨pl, 8, none⟩ = some (.slice f.GA f.gn f.gc) ∧ w'.cell? ⟨pl, 9, none⟩ = some (.slice f.VA f.vn f.vc)) ∧ (w'.cell? ⟨pf, 0, none⟩ = some (.string f.nm) ∧ w'.cell? ⟨pf, 1, none⟩ = some (.slice f.PA f.pn f.pc) ∧ w'.cell? ⟨pf, 2, none⟩ = some (.slice f.IA f.iN f.ic) ∧ w'.cell? ⟨pf, 3, none⟩ = some (.slice f.DA f.dn f.dc) ∧ w'.cell? ⟨pf, 4, none⟩ = some (.slice f.KA f.kn f.kc) ∧ w'.cell? ⟨pf, 5, none⟩ = some (.slice f.QA f.qn f.qc) ∧ w'.cell? ⟨pf, 6, none⟩ = some (.slice f.OA f.n f.oc) ∧ w'.cell? ⟨pf, 7, none⟩ = some (.slice f.RA f.rn f.rc) ∧ w'.cell? ⟨pf, 8, none⟩ = some (.slice f.GA f.gn f.gc) ∧ w'.cell? ⟨pf, 9, none⟩ = some (.slice f.VA f.vn f.vc))) (by kernel_rfl) (HS.out _ (Below.refl _ _).drew) (fun hH => ?_)
          clear hH
          have HB0 := Lib.hid (Below.refl wx.heap.size wx).drew
          generalize wx.drew = V0 at HB0 ⊢
          try simp only [List.setIfInBounds_toArray, List.set_cons_zero, List.set_cons_succ]
          refine Till.tL 0 [3, 4, 5, 6, 7, 8, 9, 10, 11, 12, 13, 14] 101 (.int .i64 (M : Int)) (HS.out _ HB0.out) ?_
          try simp only [Act.put, List.setIfInBounds_toArray, List.set_cons_zero, List.set_cons_succ]
          refine Till.tL 1 [2, 3, 4, 5, 6, 7, 8, 9, 10, 11, 12, 13, 14] 102 (.slice LA M LC) (HS.out _ HB0.out) ?_
          try simp only [Act.put, List.setIfInBounds_toArray, List.set_cons_zero, List.set_cons_succ]
          refine Till.tL 2 [3, 4, 5, 6, 7, 8, 9, 10, 11, 12, 13, 14] 103 (.int .i64 (M : Int)) (HS.out _ HB0.out) ?_
          try simp only [Act.put, List.setIfInBounds_toArray, List.set_cons_zero, List.set_cons_succ]
          refine Till.tL 3 [4, 5, 6, 7, 8, 9, 10, 11, 12, 13, 14] 104 (.bool true) (HS.out _ HB0.out) ?_
          try simp only [Act.put, List.setIfInBounds_toArray, List.set_cons_zero, List.set_cons_succ]
          refine Till.tL 4 [5, 6, 7, 8, 9, 10, 11, 12, 13, 14] 105 (.bool true) (HS.out _ HB0.out) ?_
          try simp only [Act.put, List.setIfInBounds_toArray, List.set_cons_zero, List.set_cons_succ]
          refine Till.tL 5 [8, 11, 12, 13, 14] 106 (.agg #[.string f.nm, .slice f.PA f.pn f.pc, .slice f.IA f.iN f.ic, .slice f.DA f.dn f.dc, .slice f.KA f.kn f.kc, .slice f.QA f.qn f.qc, .slice f.OA f.n f.oc, .slice LA2 ql.length LC2, .slice f.GA f.gn f.gc, .slice f.VA f.vn f.vc]) (HS.out _ HB0.out) ?_
          try simp only [Act.put, List.setIfInBounds_toArray, List.set_cons_zero, List.set_cons_succ]
          refine Till.tL 6 [7, 8, 11, 12, 13, 14] 107 (.agg #[.string f.nm, .slice f.PA f.pn f.pc, .slice f.IA f.iN f.ic, .slice f.DA f.dn f.dc, .slice f.KA f.kn f.kc, .slice f.QA f.qn f.qc, .slice f.OA f.n f.oc, .slice LA2 ql.length LC2, .slice f.GA f.gn f.gc, .slice f.VA f.vn f.vc]) (HS.out _ HB0.out) ?_
          try simp only [Act.put, List.setIfInBounds_toArray, List.set_cons_zero, List.set_cons_succ]
          refine Till.tL 9 [12, 13, 14] 110 (.agg #[.string f.nm, .slice f.PA f.pn f.pc, .slice f.IA f.iN f.ic, .slice f.DA f.dn f.dc, .slice f.KA f.kn f.kc, .slice f.QA f.qn f.qc, .slice f.OA f.n f.oc, .slice f.RA f.rn f.rc, .slice f.GA f.gn f.gc, .slice f.VA f.vn f.vc]) (HS.out _ HB0.out) ?_
          try simp only [Act.put, List.setIfInBounds_toArray, List.set_cons_zero, List.set_cons_succ]
          refine Till.tL 10 [11, 12, 13, 14] 111 (.agg #[.string f.nm, .slice f.PA f.pn f.pc, .slice f.IA f.iN f.ic, .slice f.DA f.dn f.dc, .slice f.KA f.kn f.kc, .slice f.QA f.qn f.qc, .slice f.OA f.n f.oc, .slice f.RA f.rn f.rc, .slice f.GA f.gn f.gc, .slice f.VA f.vn f.vc]) (HS.out _ HB0.out) ?_
          try simp only [Act.put, List.setIfInBounds_toArray, List.set_cons_zero, List.set_cons_succ]
          refine Till.one (i := 7) (by kernel_rfl) rfl (fun K hK => ?_)
          go_simp
          refine (noneN_any (withR f LA2 ql.length LC2) os ls gs vs plainD V0 (HOKl.out.keep HB0.out)).mono ?_
          rintro e V1 ⟨XA, xc, rfl, hX, hb⟩
          have HB1 := Lib.hid (below_on HB0.out hb)
          have HX := Lib.hid hX
          clear hX
          refine hK.out _ _ (fun _ => HS.out _ HB1.out) ?_
          clear hK K hb
          try simp only [List.setIfInBounds_toArray, List.set_cons_zero, List.set_cons_succ]
          refine Till.one (i := 8) (by kernel_rfl) rfl (fun K hK => ?_)
          go_simp
          refine (allowedN_any (withR f LA2 ql.length LC2) os ls gs vs plainD XA xc none 0 0 [] V1 (HOKl.out.keep HB1.out) hn0 hn6 HLL6.out HX.out (fun k x hk => by cases hk) rfl (by omega) (fun l hl => by cases hl)).mono ?_
          rintro e V2 ⟨B1, C1, rfl, hN1, hb⟩
          have HB2 := Lib.hid (below_on HB1.out hb)
          rw [show (withR f LA2 ql.length LC2).n = f.n from rfl, Hsm.out] at hN1 ⊢
          have HN1 := Lib.hid hN1
          clear hN1 HX
          refine hK.out _ _ (fun _ => HS.out _ HB2.out) ?_
          clear hK K hb
          try simp only [List.setIfInBounds_toArray, List.set_cons_zero, List.set_cons_succ]
          refine Till.one (i := 11) (by kernel_rfl) rfl (fun K hK => ?_)
          go_simp
          refine (noneN_any f os rs gs vs plainD V2 (HOKx.out.keep HB2.out)).mono ?_
          rintro e V3 ⟨XA2, xc2, rfl, hX, hb⟩
          have HB3 := Lib.hid (below_on HB2.out hb)
          have HX := Lib.hid hX
          have HN1 := Lib.hid (HN1.out.keep hb)
          clear hX
          refine hK.out _ _ (fun _ => HS.out _ HB3.out) ?_
          clear hK K hb
          try simp only [List.setIfInBounds_toArray, List.set_cons_zero, List.set_cons_succ]
          refine Till.one (i := 12) (by kernel_rfl) rfl (fun K hK => ?_)
          go_simp
          refine (allowedN_any f os rs gs vs plainD XA2 xc2 none 0 0 [] V3 (HOKx.out.keep HB3.out) hn0 hn6 HRL6.out HX.out (fun k x hk => by cases hk) rfl (by omega) (fun l hl => by cases hl)).mono ?_
          rintro e V4 ⟨B2, C2, rfl, hN2, hb⟩
          have HB4 := Lib.hid (below_on HB3.out hb)
          rw [HX1.out] at hN2 ⊢
          have HN1 := Lib.hid (HN1.out.keep hb)
          have HN2 := Lib.hid hN2
          clear hN2 HX
          refine hK.out _ _ (fun _ => HS.out _ HB4.out) ?_
          clear hK K hb
          try simp only [List.setIfInBounds_toArray, List.set_cons_zero, List.set_cons_succ]
          refine Till.one (i := 13) (by kernel_rfl) rfl (fun K hK => ?_)
          go_simp
          refine (sameInts_any B1 B2 X1.length X1.length C1 C2 X1 X1 V4 HN1.out HN2.out rfl rfl (by omega) (by omega)).mono ?_
          rintro e V5 ⟨he, hb⟩
          have HB5 := Lib.hid (below_on HB4.out hb)
          have he : e = .returned (.bool true) := he.trans (by simp)
          subst he
          refine hK.out _ _ (fun _ => HS.out _ HB5.out) ?_
          clear hK K hb
          try simp only [List.setIfInBounds_toArray, List.set_cons_zero, List.set_cons_succ]
          refine Till.one (i := 14) (by kernel_rfl) rfl (fun K hK => ?_)
          go_simp
          refine hK.out _ _ (fun h => absurd h (by simp)) ?_
          clear hK K
          try simp only [List.setIfInBounds_toArray, List.set_cons_zero, List.set_cons_succ]
          refine Till.one (i := 15) (by kernel_rfl) rfl (fun K hK => ?_)
          go_simp
          refine hK.out _ _ (fun h => absurd h (by simp)) ?_
          clear hK K
          try simp only [List.setIfInBounds_toArray, List.set_cons_zero, List.set_cons_succ]
          refine Till.done (by kernel_rfl) ?_ _
          go_wp2_with fail
          go_ret
          exact ⟨rfl, below_on HKx.out HB5.out⟩
end Go.Proofs.Ytmfmpkihmadjmaa
