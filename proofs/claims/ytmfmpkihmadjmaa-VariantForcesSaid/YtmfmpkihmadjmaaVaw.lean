/- VariantForces: the walk. -/
import Derived.Test.YtmfmpkihmadjmaaVau
namespace Go.Proofs.Ytmfmpkihmadjmaa
open Go.RowKit Go.Shelf
set_option maxRecDepth 100000 in
set_option maxHeartbeats 16000000 in
theorem forces_any (o m : Nat) (ho : o < 256) (hm : o % 6 = m) (RA GA VA : Option Addr) (rn rc gn gc vn vc : Nat) (kr kg kv : List (List Int)) (cA : Option Addr) (cn cc : Nat) (ci : List Int) (w : World) (hkr : I8LL w RA kr) (hkg : I8LL w GA kg) (hkv : I8LL w VA kv) (lr : kr.length = rn) (lg : kg.length = gn) (lv : kv.length = vn) (h8r : ∀ l ∈ kr, ∀ k ∈ l, -128 ≤ k ∧ k < 128) (h8g : ∀ l ∈ kg, ∀ k ∈ l, -128 ≤ k ∧ k < 128) (h8v : ∀ l ∈ kv, ∀ k ∈ l, -128 ≤ k ∧ k < 128) (hcl : ci.length = cn) (hch : I8L w cA ci) (hc8 : ∀ k ∈ ci, -128 ≤ k ∧ k < 128) :
    Calls Try.prog 5 #[.agg #[.int .u8 (o : Nat), .slice RA rn rc, .slice GA gn gc, .slice VA vn vc], .slice cA cn cc] w fun e w' => e = .returned (.bool true) ∧ Below w.heap.size w w' := by
  have HFam := Lib.hid (fun (I J : Option Addr) (ic : Nat) (W : World) (hb : Below w.heap.size w W) (hD : DimL W J plainD) => family_any o m ho hm RA GA VA I J rn rc gn gc vn vc ic kr kg kv W (hkr.keep hb) (hkg.keep hb) (hkv.keep hb) lr lg lv h8r h8g h8v hD)
  clear hkr hkg hkv lr lg lv h8r h8g h8v
  have k1 := (Below.refl w.heap.size w).alloc (Nat.le_refl _) (.cells #[.int .u8 (o : Nat), .slice RA rn rc, .slice GA gn gc, .slice VA vn vc] 24)
  have C1 := Cells.new w #[.int .u8 (o : Nat), .slice RA rn rc, .slice GA gn gc, .slice VA vn vc] 24
  obtain ⟨w1, hw1⟩ : ∃ u, w.alloc (.cells #[.int .u8 (o : Nat), .slice RA rn rc, .slice GA gn gc, .slice VA vn vc] 24) = u := ⟨_, rfl⟩
  rw [hw1] at k1 C1
  have HC1 := Lib.hid C1
  have HK1 := Lib.hid k1
  clear C1 k1
  go_enter Try.func5, Try.ntmps5
  go_wp2_with fail
  refine (known_true w1).mono ?_
  rintro e w2 ⟨rfl, hb⟩
  clear hw1
  have HC2 := Lib.hid (HC1.out.keep hb)
  have HK2 := Lib.hid (below_on HK1.out hb)
  clear hb HC1
  go_upto_region 3 with fail
  go_cut [5] (fun s wx => Started w2 m kr kg kv s wx)
  case first =>
    have HS := Lib.hid (fun w' (hb : Below w2.heap.size w2 w') => (show w'.cell? ⟨w.heap.size, 0, none⟩ = some (.int .u8 (o : Nat)) ∧ w'.cell? ⟨w.heap.size, 1, none⟩ = some (.slice RA rn rc) ∧ w'.cell? ⟨w.heap.size, 2, none⟩ = some (.slice GA gn gc) ∧ w'.cell? ⟨w.heap.size, 3, none⟩ = some (.slice VA vn vc) from ⟨(HC2.out.keep hb).at_ 0, (HC2.out.keep hb).at_ 1, (HC2.out.keep hb).at_ 2, (HC2.out.keep hb).at_ 3⟩))
    refine Till.begin 4 (fun w' => w'.cell? ⟨w.heap.size, 0, none⟩ = some (.int .u8 (o : Nat)) ∧ w'.cell? ⟨w.heap.size, 1, none⟩ = some (.slice RA rn rc) ∧ w'.cell? ⟨w.heap.size, 2, none⟩ = some (.slice GA gn gc) ∧ w'.cell? ⟨w.heap.size, 3, none⟩ = some (.slice VA vn vc)) (by kernel_rfl) (HS.out _ (Below.refl _ _).drew) (fun hH => ?_)
    clear hH
    have HB0 := Lib.hid (Below.refl w2.heap.size w2).drew
    generalize w2.drew = V0 at HB0 ⊢
    try simp only [List.setIfInBounds_toArray, List.set_cons_zero, List.set_cons_succ]
    refine Till.tL 0 [2, 4] 18 (.agg #[.int .u8 (o : Nat), .slice RA rn rc, .slice GA gn gc, .slice VA vn vc]) (HS.out _ HB0.out) ?_
    try simp only [Act.put, List.setIfInBounds_toArray, List.set_cons_zero, List.set_cons_succ]
    refine Till.two (i := 1) (j := 3) (by kernel_rfl) rfl rfl ?_ ?_
    · intro K hK
      go_simp
      refine (plain_any V0).mono ?_
      rintro e V1 ⟨I, ic, J, rfl, _, hJ, hJb, hb⟩
      have HB1 := Lib.hid (below_on HB0.out hb)
      have HJ := Lib.hid hJ
      have HJb := Lib.hid hJb
      have HPs := Lib.hid hb.size
      refine hK.out _ _ (fun _ => HS.out _ HB1.out) ?_
      clear hK K hJ hJb
      try simp only [List.setIfInBounds_toArray, List.set_cons_zero, List.set_cons_succ]
      refine Till.two (i := 2) (j := 3) (by kernel_rfl) rfl rfl ?_ ?_
      · intro K hK
        go_simp
        refine (HFam.out I J ic V1 (below_on HK2.out HB1.out) HJ.out).mono ?_
        rintro e V2 ⟨OA, oc, rA, rC, gA, gC, vA, vC, he, hOK, _, hMem, hb⟩
        obtain ⟨f, hf⟩ : ∃ f, (famF I ic J OA rA gA vA (1 + m) oc (famR (1 + m) kr).length rC (famG (1 + m) kg).length gC (famV (1 + m) kv).length vC) = f := ⟨_, rfl⟩
        rw [hf] at he hOK hMem
        have hfn : f.n = 1 + m := by rw [← hf]; rfl
        have hfJ : f.DA = J := by rw [← hf]; rfl
        have HFn := Lib.hid hfn
        have HfJ := Lib.hid hfJ
        clear hf hfn hfJ
        subst he
        have HB2 := Lib.hid (below_on HB1.out hb)
        have HOK := Lib.hid hOK
        have HMem := Lib.hid hMem
        have HFb := Lib.hid hb
        refine hK.out _ _ (fun _ => HS.out _ HB2.out) ?_
        clear hK K hOK hMem hb
        try simp only [List.setIfInBounds_toArray, List.set_cons_zero, List.set_cons_succ]
        refine Till.one (i := 3) (by kernel_rfl) rfl (fun K hK => ?_)
        go_simp
        have kx := (Below.refl V2.heap.size V2).alloc (Nat.le_refl _) (.cells #[.string { data := #[] }, .slice none 0 0, .slice none 0 0, .slice none 0 0, .slice none 0 0, .slice none 0 0, .slice none 0 0, .slice none 0 0, .slice none 0 0, .slice none 0 0] 40)
        have RZ := heap_new V2 (.cells #[.string { data := #[] }, .slice none 0 0, .slice none 0 0, .slice none 0 0, .slice none 0 0, .slice none 0 0, .slice none 0 0, .slice none 0 0, .slice none 0 0, .slice none 0 0] 40)
        obtain ⟨V3, hV⟩ : ∃ u, V2.alloc (.cells #[.string { data := #[] }, .slice none 0 0, .slice none 0 0, .slice none 0 0, .slice none 0 0, .slice none 0 0, .slice none 0 0, .slice none 0 0, .slice none 0 0, .slice none 0 0] 40) = u := ⟨_, rfl⟩
        have hsz : V2.heap.size < V3.heap.size := by rw [← hV]; simp
        rw [hV] at kx RZ ⊢
        obtain ⟨p, hp⟩ : ∃ p, V2.heap.size = p := ⟨_, rfl⟩
        have HB3 := Lib.hid (below_on HB2.out kx)
        have KX := Lib.hid kx
        have HP := Lib.hid hp
        have HPz := Lib.hid (show p < V3.heap.size by omega)
        rw [hp] at RZ ⊢
        have RZ := Lib.hid RZ
        refine hK.out _ _ (fun _ => HS.out _ HB3.out) ?_
        clear hK K hV kx hp hsz
        try simp only [List.setIfInBounds_toArray, List.set_cons_zero, List.set_cons_succ]
        have RF := row_setCells p 40 [.string f.nm, .slice f.PA f.pn f.pc, .slice f.IA f.iN f.ic, .slice f.DA f.dn f.dc, .slice f.KA f.kn f.kc, .slice f.QA f.qn f.qc, .slice f.OA f.n f.oc, .slice f.RA f.rn f.rc, .slice f.GA f.gn f.gc, .slice f.VA f.vn f.vc] 0 V3 _ RZ.out
        have G0 := grown_cells p [.string f.nm, .slice f.PA f.pn f.pc, .slice f.IA f.iN f.ic, .slice f.DA f.dn f.dc, .slice f.KA f.kn f.kc, .slice f.QA f.qn f.qc, .slice f.OA f.n f.oc, .slice f.RA f.rn f.rc, .slice f.GA f.gn f.gc, .slice f.VA f.vn f.vc] 0 V3
        obtain ⟨WF, hWF⟩ : ∃ u, V3.setCells p 0 [.string f.nm, .slice f.PA f.pn f.pc, .slice f.IA f.iN f.ic, .slice f.DA f.dn f.dc, .slice f.KA f.kn f.kc, .slice f.QA f.qn f.qc, .slice f.OA f.n f.oc, .slice f.RA f.rn f.rc, .slice f.GA f.gn f.gc, .slice f.VA f.vn f.vc] = u := ⟨_, rfl⟩
        rw [hWF] at RF G0
        have CR := Cells.of_row RZ.out
        have p0 := CR.at_ 0
        have p1 := CR.at_ 1
        have p2 := CR.at_ 2
        have p3 := CR.at_ 3
        have p4 := CR.at_ 4
        have p5 := CR.at_ 5
        have p6 := CR.at_ 6
        have p7 := CR.at_ 7
        have p8 := CR.at_ 8
        have p9 := CR.at_ 9
        simp only [List.getElem?_cons_zero, List.getElem?_cons_succ] at p0 p1 p2 p3 p4 p5 p6 p7 p8 p9
        have f0 := CR.fz 0
        have f1 := CR.fz 1
        have f2 := CR.fz 2
        have f3 := CR.fz 3
        have f4 := CR.fz 4
        have f5 := CR.fz 5
        have f6 := CR.fz 6
        have f7 := CR.fz 7
        have f8 := CR.fz 8
        have f9 := CR.fz 9
        have kF : Below V2.heap.size V2 WF := KX.out.grown G0 KX.out.size (fun k e => by injection e with e; have := HP.out; omega)
        have hOKF := Lib.hid (HOK.out.keep kF)
        have RF : WF.heap[p]? = some (.cells #[.string f.nm, .slice f.PA f.pn f.pc, .slice f.IA f.iN f.ic, .slice f.DA f.dn f.dc, .slice f.KA f.kn f.kc, .slice f.QA f.qn f.qc, .slice f.OA f.n f.oc, .slice f.RA f.rn f.rc, .slice f.GA f.gn f.gc, .slice f.VA f.vn f.vc] 40 (0, 0)) := by
          rwa [put10] at RF
        have HCF := Lib.hid (Cells.of_row RF)
        have hpW : w2.heap.size ≤ p := by have := HP.out; have := HB2.out.size; omega
        have BF := Lib.hid (HB3.out.grown G0 HB3.out.size (fun k e => by injection e with e; omega))
        simp only [World.setCells, Nat.reduceAdd] at hWF
        have HWF := Lib.hid hWF
        have HpW := Lib.hid hpW
        clear hWF CR RF G0 hpW
        refine Till.one (i := 4) (by kernel_rfl) rfl (fun K hK => ?_)
        go_simp
        rw [HWF.out]
        refine hK.out _ _ (fun h => absurd h (by simp)) ?_
        clear hK K p0 f0 p1 f1 p2 f2 p3 f3 p4 f4 p5 f5 p6 f6 p7 f7 p8 f8 p9 f9
        try simp only [List.setIfInBounds_toArray, List.set_cons_zero, List.set_cons_succ]
        refine Till.done (by kernel_rfl) ?_ _
        go_wp2_with fail
        go_meet
        exact ⟨p, f, rfl, HpW.out, HCF.out, HFn.out, hOKF.out, BF.out⟩
      · intro K hK
        go_simp
        have kx := (Below.refl V1.heap.size V1).alloc (Nat.le_refl _) (.cells #[.string { data := #[] }, .slice none 0 0, .slice none 0 0, .slice none 0 0, .slice none 0 0, .slice none 0 0, .slice none 0 0, .slice none 0 0, .slice none 0 0, .slice none 0 0] 40)
        have RZ := heap_new V1 (.cells #[.string { data := #[] }, .slice none 0 0, .slice none 0 0, .slice none 0 0, .slice none 0 0, .slice none 0 0, .slice none 0 0, .slice none 0 0, .slice none 0 0, .slice none 0 0] 40)
        obtain ⟨V2, hV⟩ : ∃ u, V1.alloc (.cells #[.string { data := #[] }, .slice none 0 0, .slice none 0 0, .slice none 0 0, .slice none 0 0, .slice none 0 0, .slice none 0 0, .slice none 0 0, .slice none 0 0, .slice none 0 0] 40) = u := ⟨_, rfl⟩
        have hsz : V1.heap.size < V2.heap.size := by rw [← hV]; simp
        rw [hV] at kx RZ ⊢
        obtain ⟨p, hp⟩ : ∃ p, V1.heap.size = p := ⟨_, rfl⟩
        have HB2 := Lib.hid (below_on HB1.out kx)
        have KX := Lib.hid kx
        have HP := Lib.hid hp
        have HPz := Lib.hid (show p < V2.heap.size by omega)
        rw [hp] at RZ ⊢
        have RZ := Lib.hid RZ
        refine hK.out _ _ (fun _ => HS.out _ HB2.out) ?_
        clear hK K hV kx hp hsz
        try simp only [List.setIfInBounds_toArray, List.set_cons_zero, List.set_cons_succ]
        have HJ2 := Lib.hid (HJ.out.keep KX.out)
        refine Till.one (i := 2) (by kernel_rfl) rfl (fun K hK => ?_)
        go_simp
        refine (HFam.out I J ic V2 (below_on HK2.out HB2.out) HJ2.out).mono ?_
        rintro e V3 ⟨OA, oc, rA, rC, gA, gC, vA, vC, he, hOK, _, hMem, hb⟩
        obtain ⟨f, hf⟩ : ∃ f, (famF I ic J OA rA gA vA (1 + m) oc (famR (1 + m) kr).length rC (famG (1 + m) kg).length gC (famV (1 + m) kv).length vC) = f := ⟨_, rfl⟩
        rw [hf] at he hOK hMem
        have hfn : f.n = 1 + m := by rw [← hf]; rfl
        have hfJ : f.DA = J := by rw [← hf]; rfl
        have HFn := Lib.hid hfn
        have HfJ := Lib.hid hfJ
        clear hf hfn hfJ
        subst he
        have HB3 := Lib.hid (below_on HB2.out hb)
        have HOK := Lib.hid hOK
        have HMem := Lib.hid hMem
        have HFb := Lib.hid hb
        refine hK.out _ _ (fun _ => HS.out _ HB3.out) ?_
        clear hK K hOK hMem hb
        try simp only [List.setIfInBounds_toArray, List.set_cons_zero, List.set_cons_succ]
        have RZ := Lib.hid (row_keep RZ.out HFb.out)
        have RF := row_setCells p 40 [.string f.nm, .slice f.PA f.pn f.pc, .slice f.IA f.iN f.ic, .slice f.DA f.dn f.dc, .slice f.KA f.kn f.kc, .slice f.QA f.qn f.qc, .slice f.OA f.n f.oc, .slice f.RA f.rn f.rc, .slice f.GA f.gn f.gc, .slice f.VA f.vn f.vc] 0 V3 _ RZ.out
        have G0 := grown_cells p [.string f.nm, .slice f.PA f.pn f.pc, .slice f.IA f.iN f.ic, .slice f.DA f.dn f.dc, .slice f.KA f.kn f.kc, .slice f.QA f.qn f.qc, .slice f.OA f.n f.oc, .slice f.RA f.rn f.rc, .slice f.GA f.gn f.gc, .slice f.VA f.vn f.vc] 0 V3
        obtain ⟨WF, hWF⟩ : ∃ u, V3.setCells p 0 [.string f.nm, .slice f.PA f.pn f.pc, .slice f.IA f.iN f.ic, .slice f.DA f.dn f.dc, .slice f.KA f.kn f.kc, .slice f.QA f.qn f.qc, .slice f.OA f.n f.oc, .slice f.RA f.rn f.rc, .slice f.GA f.gn f.gc, .slice f.VA f.vn f.vc] = u := ⟨_, rfl⟩
        rw [hWF] at RF G0
        have CR := Cells.of_row RZ.out
        have p0 := CR.at_ 0
        have p1 := CR.at_ 1
        have p2 := CR.at_ 2
        have p3 := CR.at_ 3
        have p4 := CR.at_ 4
        have p5 := CR.at_ 5
        have p6 := CR.at_ 6
        have p7 := CR.at_ 7
        have p8 := CR.at_ 8
        have p9 := CR.at_ 9
        simp only [List.getElem?_cons_zero, List.getElem?_cons_succ] at p0 p1 p2 p3 p4 p5 p6 p7 p8 p9
        have f0 := CR.fz 0
        have f1 := CR.fz 1
        have f2 := CR.fz 2
        have f3 := CR.fz 3
        have f4 := CR.fz 4
        have f5 := CR.fz 5
        have f6 := CR.fz 6
        have f7 := CR.fz 7
        have f8 := CR.fz 8
        have f9 := CR.fz 9
        have hOKF := Lib.hid (HOK.out.other HMem.out G0 HPz.out (fun b o t e => by have := (HJb.out b o t (HfJ.out.symm.trans e)).2; have := HP.out; omega))
        have RF : WF.heap[p]? = some (.cells #[.string f.nm, .slice f.PA f.pn f.pc, .slice f.IA f.iN f.ic, .slice f.DA f.dn f.dc, .slice f.KA f.kn f.kc, .slice f.QA f.qn f.qc, .slice f.OA f.n f.oc, .slice f.RA f.rn f.rc, .slice f.GA f.gn f.gc, .slice f.VA f.vn f.vc] 40 (0, 0)) := by
          rwa [put10] at RF
        have HCF := Lib.hid (Cells.of_row RF)
        have hpW : w2.heap.size ≤ p := by have := HP.out; have := HB1.out.size; omega
        have BF := Lib.hid (HB3.out.grown G0 HB3.out.size (fun k e => by injection e with e; omega))
        simp only [World.setCells, Nat.reduceAdd] at hWF
        have HWF := Lib.hid hWF
        have HpW := Lib.hid hpW
        clear hWF CR RF G0 hpW
        refine Till.one (i := 4) (by kernel_rfl) rfl (fun K hK => ?_)
        go_simp
        rw [HWF.out]
        refine hK.out _ _ (fun h => absurd h (by simp)) ?_
        clear hK K p0 f0 p1 f1 p2 f2 p3 f3 p4 f4 p5 f5 p6 f6 p7 f7 p8 f8 p9 f9
        try simp only [List.setIfInBounds_toArray, List.set_cons_zero, List.set_cons_succ]
        refine Till.done (by kernel_rfl) ?_ _
        go_wp2_with fail
        go_meet
        exact ⟨p, f, rfl, HpW.out, HCF.out, HFn.out, hOKF.out, BF.out⟩
    · intro K hK
      go_simp
      have kx := (Below.refl V0.heap.size V0).alloc (Nat.le_refl _) (.cells #[.string { data := #[] }, .slice none 0 0, .slice none 0 0, .slice none 0 0, .slice none 0 0, .slice none 0 0, .slice none 0 0, .slice none 0 0, .slice none 0 0, .slice none 0 0] 40)
      have RZ := heap_new V0 (.cells #[.string { data := #[] }, .slice none 0 0, .slice none 0 0, .slice none 0 0, .slice none 0 0, .slice none 0 0, .slice none 0 0, .slice none 0 0, .slice none 0 0, .slice none 0 0] 40)
      obtain ⟨V1, hV⟩ : ∃ u, V0.alloc (.cells #[.string { data := #[] }, .slice none 0 0, .slice none 0 0, .slice none 0 0, .slice none 0 0, .slice none 0 0, .slice none 0 0, .slice none 0 0, .slice none 0 0, .slice none 0 0] 40) = u := ⟨_, rfl⟩
      have hsz : V0.heap.size < V1.heap.size := by rw [← hV]; simp
      rw [hV] at kx RZ ⊢
      obtain ⟨p, hp⟩ : ∃ p, V0.heap.size = p := ⟨_, rfl⟩
      have HB1 := Lib.hid (below_on HB0.out kx)
      have KX := Lib.hid kx
      have HP := Lib.hid hp
      have HPz := Lib.hid (show p < V1.heap.size by omega)
      rw [hp] at RZ ⊢
      have RZ := Lib.hid RZ
      refine hK.out _ _ (fun _ => HS.out _ HB1.out) ?_
      clear hK K hV kx hp hsz
      try simp only [List.setIfInBounds_toArray, List.set_cons_zero, List.set_cons_succ]
      refine Till.one (i := 1) (by kernel_rfl) rfl (fun K hK => ?_)
      go_simp
      refine (plain_any V1).mono ?_
      rintro e V2 ⟨I, ic, J, rfl, _, hJ, hJb, hb⟩
      have HB2 := Lib.hid (below_on HB1.out hb)
      have HJ := Lib.hid hJ
      have HJb := Lib.hid hJb
      have HPs := Lib.hid hb.size
      refine hK.out _ _ (fun _ => HS.out _ HB2.out) ?_
      clear hK K hJ hJb
      try simp only [List.setIfInBounds_toArray, List.set_cons_zero, List.set_cons_succ]
      have RZ := Lib.hid (row_keep RZ.out hb)
      have HPz2 := Lib.hid (Nat.lt_of_lt_of_le HPz.out HPs.out)
      clear hb
      refine Till.one (i := 2) (by kernel_rfl) rfl (fun K hK => ?_)
      go_simp
      refine (HFam.out I J ic V2 (below_on HK2.out HB2.out) HJ.out).mono ?_
      rintro e V3 ⟨OA, oc, rA, rC, gA, gC, vA, vC, he, hOK, _, hMem, hb⟩
      obtain ⟨f, hf⟩ : ∃ f, (famF I ic J OA rA gA vA (1 + m) oc (famR (1 + m) kr).length rC (famG (1 + m) kg).length gC (famV (1 + m) kv).length vC) = f := ⟨_, rfl⟩
      rw [hf] at he hOK hMem
      have hfn : f.n = 1 + m := by rw [← hf]; rfl
      have hfJ : f.DA = J := by rw [← hf]; rfl
      have HFn := Lib.hid hfn
      have HfJ := Lib.hid hfJ
      clear hf hfn hfJ
      subst he
      have HB3 := Lib.hid (below_on HB2.out hb)
      have HOK := Lib.hid hOK
      have HMem := Lib.hid hMem
      have HFb := Lib.hid hb
      refine hK.out _ _ (fun _ => HS.out _ HB3.out) ?_
      clear hK K hOK hMem hb
      try simp only [List.setIfInBounds_toArray, List.set_cons_zero, List.set_cons_succ]
      have RZ := Lib.hid (row_keep RZ.out HFb.out)
      have RF := row_setCells p 40 [.string f.nm, .slice f.PA f.pn f.pc, .slice f.IA f.iN f.ic, .slice f.DA f.dn f.dc, .slice f.KA f.kn f.kc, .slice f.QA f.qn f.qc, .slice f.OA f.n f.oc, .slice f.RA f.rn f.rc, .slice f.GA f.gn f.gc, .slice f.VA f.vn f.vc] 0 V3 _ RZ.out
      have G0 := grown_cells p [.string f.nm, .slice f.PA f.pn f.pc, .slice f.IA f.iN f.ic, .slice f.DA f.dn f.dc, .slice f.KA f.kn f.kc, .slice f.QA f.qn f.qc, .slice f.OA f.n f.oc, .slice f.RA f.rn f.rc, .slice f.GA f.gn f.gc, .slice f.VA f.vn f.vc] 0 V3
      obtain ⟨WF, hWF⟩ : ∃ u, V3.setCells p 0 [.string f.nm, .slice f.PA f.pn f.pc, .slice f.IA f.iN f.ic, .slice f.DA f.dn f.dc, .slice f.KA f.kn f.kc, .slice f.QA f.qn f.qc, .slice f.OA f.n f.oc, .slice f.RA f.rn f.rc, .slice f.GA f.gn f.gc, .slice f.VA f.vn f.vc] = u := ⟨_, rfl⟩
      rw [hWF] at RF G0
      have CR := Cells.of_row RZ.out
      have p0 := CR.at_ 0
      have p1 := CR.at_ 1
      have p2 := CR.at_ 2
      have p3 := CR.at_ 3
      have p4 := CR.at_ 4
      have p5 := CR.at_ 5
      have p6 := CR.at_ 6
      have p7 := CR.at_ 7
      have p8 := CR.at_ 8
      have p9 := CR.at_ 9
      simp only [List.getElem?_cons_zero, List.getElem?_cons_succ] at p0 p1 p2 p3 p4 p5 p6 p7 p8 p9
      have f0 := CR.fz 0
      have f1 := CR.fz 1
      have f2 := CR.fz 2
      have f3 := CR.fz 3
      have f4 := CR.fz 4
      have f5 := CR.fz 5
      have f6 := CR.fz 6
      have f7 := CR.fz 7
      have f8 := CR.fz 8
      have f9 := CR.fz 9
      have hOKF := Lib.hid (HOK.out.other HMem.out G0 HPz2.out (fun b o t e => by have := (HJb.out b o t (HfJ.out.symm.trans e)).1; have := HPz.out; omega))
      have RF : WF.heap[p]? = some (.cells #[.string f.nm, .slice f.PA f.pn f.pc, .slice f.IA f.iN f.ic, .slice f.DA f.dn f.dc, .slice f.KA f.kn f.kc, .slice f.QA f.qn f.qc, .slice f.OA f.n f.oc, .slice f.RA f.rn f.rc, .slice f.GA f.gn f.gc, .slice f.VA f.vn f.vc] 40 (0, 0)) := by
        rwa [put10] at RF
      have HCF := Lib.hid (Cells.of_row RF)
      have hpW : w2.heap.size ≤ p := by have := HP.out; have := HB0.out.size; omega
      have BF := Lib.hid (HB3.out.grown G0 HB3.out.size (fun k e => by injection e with e; omega))
      simp only [World.setCells, Nat.reduceAdd] at hWF
      have HWF := Lib.hid hWF
      have HpW := Lib.hid hpW
      clear hWF CR RF G0 hpW
      refine Till.one (i := 4) (by kernel_rfl) rfl (fun K hK => ?_)
      go_simp
      rw [HWF.out]
      refine hK.out _ _ (fun h => absurd h (by simp)) ?_
      clear hK K p0 f0 p1 f1 p2 f2 p3 f3 p4 f4 p5 f5 p6 f6 p7 f7 p8 f8 p9 f9
      try simp only [List.setIfInBounds_toArray, List.set_cons_zero, List.set_cons_succ]
      refine Till.done (by kernel_rfl) ?_ _
      go_wp2_with fail
      go_meet
      exact ⟨p, f, rfl, HpW.out, HCF.out, HFn.out, hOKF.out, BF.out⟩
  case rest =>
    obtain ⟨pf, f, rfl, hpf, hCf, hfn, hOK, hbf⟩ := hcut
    have hn6 : f.n ≤ 6 := by omega
    have hn0 : 0 < f.n := by omega
    have HOK := Lib.hid hOK
    have HCf := Lib.hid hCf
    have HK3 := Lib.hid (below_on HK2.out hbf)
    have hr48 := hOK.r48
    have HFn := Lib.hid hfn
    have HHO := Lib.hid (show (famO (1 + m)) = famO f.n by rw [hfn])
    have HHR := Lib.hid (show (famR (1 + m) kr) = famR f.n kr by rw [hfn])
    clear hOK hCf hbf hpf HC2 HK2 HFam hfn 
    obtain ⟨os, hos⟩ : ∃ x, famO (1 + m) = x := ⟨_, rfl⟩
    obtain ⟨rs, hrs⟩ : ∃ x, famR (1 + m) kr = x := ⟨_, rfl⟩
    obtain ⟨gs, hgs⟩ : ∃ x, famG (1 + m) kg = x := ⟨_, rfl⟩
    obtain ⟨vs, hvs⟩ : ∃ x, famV (1 + m) kv = x := ⟨_, rfl⟩
    rw [hos, hrs, hgs, hvs] at HOK
    have hRL : ∀ r ∈ rs, LowN f.n r.2 := by rw [← hrs, HHR.out]; exact famR_low kr
    have hRL6 : ∀ r ∈ rs, (∀ l ∈ r.2, l.1 < 6) ∧ r.2.length ≤ 1000 := by rw [← hrs, HHR.out]; exact famR_low6 hn6 kr
    have HRL := Lib.hid hRL
    have HRL6 := Lib.hid hRL6
    clear hos hrs hgs hvs HHO HHR hRL hRL6
    have c0 := HCf.out.at_ 0
    have c1 := HCf.out.at_ 1
    have c2 := HCf.out.at_ 2
    have c3 := HCf.out.at_ 3
    have c4 := HCf.out.at_ 4
    have c5 := HCf.out.at_ 5
    have c6 := HCf.out.at_ 6
    have c7 := HCf.out.at_ 7
    have c8 := HCf.out.at_ 8
    have c9 := HCf.out.at_ 9
    simp only [List.getElem?_cons_zero, List.getElem?_cons_succ] at c0 c1 c2 c3 c4 c5 c6 c7 c8 c9
    have HDc := Lib.hid (fun W (hb : Below w.heap.size w W) => decode_any f.n cA cn cc ci W (hch.keep hb) hcl hn0 hn6 hc8)
    clear hch hcl hc8
    go_wp2_with fail
    refine (HDc.out _ HK3.out).mono ?_
    rintro e w3 ⟨v, rfl, hown, hb⟩
    obtain ⟨PA, PC, rfl, hPL⟩ := own_lits hown
    have hcn := decN_len f.n ci
    have hclow : LowN f.n (decN f.n ci) := decN_low f.n ci
    have hcok := decN_ok f.n ci
    obtain ⟨cl, hcleq⟩ : ∃ x, decN f.n ci = x := ⟨_, rfl⟩
    rw [hcleq] at hPL hcn hclow hcok ⊢
    have HPL := Lib.hid hPL
    have HOK := Lib.hid (HOK.out.keep hb)
    have HCf := Lib.hid (HCf.out.keep hb)
    have HK4 := Lib.hid (below_on HK3.out hb)
    have HClow := Lib.hid hclow
    have HCok := Lib.hid hcok
    clear hown hb hPL hcleq hclow hcok HK3 HDc
    have c0 := HCf.out.at_ 0
    have c1 := HCf.out.at_ 1
    have c2 := HCf.out.at_ 2
    have c3 := HCf.out.at_ 3
    have c4 := HCf.out.at_ 4
    have c5 := HCf.out.at_ 5
    have c6 := HCf.out.at_ 6
    have c7 := HCf.out.at_ 7
    have c8 := HCf.out.at_ 8
    have c9 := HCf.out.at_ 9
    simp only [List.getElem?_cons_zero, List.getElem?_cons_succ] at c0 c1 c2 c3 c4 c5 c6 c7 c8 c9
    go_upto_region 6 with fail
    have HS := Lib.hid (fun w' (hb : Below w3.heap.size w3 w') => (show w'.cell? ⟨pf, 0, none⟩ = some (.string f.nm) ∧ w'.cell? ⟨pf, 1, none⟩ = some (.slice f.PA f.pn f.pc) ∧ w'.cell? ⟨pf, 2, none⟩ = some (.slice f.IA f.iN f.ic) ∧ w'.cell? ⟨pf, 3, none⟩ = some (.slice f.DA f.dn f.dc) ∧ w'.cell? ⟨pf, 4, none⟩ = some (.slice f.KA f.kn f.kc) ∧ w'.cell? ⟨pf, 5, none⟩ = some (.slice f.QA f.qn f.qc) ∧ w'.cell? ⟨pf, 6, none⟩ = some (.slice f.OA f.n f.oc) ∧ w'.cell? ⟨pf, 7, none⟩ = some (.slice f.RA f.rn f.rc) ∧ w'.cell? ⟨pf, 8, none⟩ = some (.slice f.GA f.gn f.gc) ∧ w'.cell? ⟨pf, 9, none⟩ = some (.slice f.VA f.vn f.vc) from ⟨(HCf.out.keep hb).at_ 0, (HCf.out.keep hb).at_ 1, (HCf.out.keep hb).at_ 2, (HCf.out.keep hb).at_ 3, (HCf.out.keep hb).at_ 4, (HCf.out.keep hb).at_ 5, (HCf.out.keep hb).at_ 6, (HCf.out.keep hb).at_ 7, (HCf.out.keep hb).at_ 8, (HCf.out.keep hb).at_ 9⟩))
    refine Till.begin 4 (fun w' => w'.cell? ⟨pf, 0, none⟩ = some (.string f.nm) ∧ w'.cell? ⟨pf, 1, none⟩ = some (.slice f.PA f.pn f.pc) ∧ w'.cell? ⟨pf, 2, none⟩ = some (.slice f.IA f.iN f.ic) ∧ w'.cell? ⟨pf, 3, none⟩ = some (.slice f.DA f.dn f.dc) ∧ w'.cell? ⟨pf, 4, none⟩ = some (.slice f.KA f.kn f.kc) ∧ w'.cell? ⟨pf, 5, none⟩ = some (.slice f.QA f.qn f.qc) ∧ w'.cell? ⟨pf, 6, none⟩ = some (.slice f.OA f.n f.oc) ∧ w'.cell? ⟨pf, 7, none⟩ = some (.slice f.RA f.rn f.rc) ∧ w'.cell? ⟨pf, 8, none⟩ = some (.slice f.GA f.gn f.gc) ∧ w'.cell? ⟨pf, 9, none⟩ = some (.slice f.VA f.vn f.vc)) (by kernel_rfl) (HS.out _ (Below.refl _ _).drew) (fun hH => ?_)
    clear hH
    have HB0 := Lib.hid (Below.refl w3.heap.size w3).drew
    generalize w3.drew = V0 at HB0 ⊢
    try simp only [List.setIfInBounds_toArray, List.set_cons_zero, List.set_cons_succ]
    refine Till.tL 0 [4] 27 (.agg #[.string f.nm, .slice f.PA f.pn f.pc, .slice f.IA f.iN f.ic, .slice f.DA f.dn f.dc, .slice f.KA f.kn f.kc, .slice f.QA f.qn f.qc, .slice f.OA f.n f.oc, .slice f.RA f.rn f.rc, .slice f.GA f.gn f.gc, .slice f.VA f.vn f.vc]) (HS.out _ HB0.out) ?_
    try simp only [Act.put, List.setIfInBounds_toArray, List.set_cons_zero, List.set_cons_succ]
    refine Till.tL 1 [2, 4] 28 (.agg #[.string f.nm, .slice f.PA f.pn f.pc, .slice f.IA f.iN f.ic, .slice f.DA f.dn f.dc, .slice f.KA f.kn f.kc, .slice f.QA f.qn f.qc, .slice f.OA f.n f.oc, .slice f.RA f.rn f.rc, .slice f.GA f.gn f.gc, .slice f.VA f.vn f.vc]) (HS.out _ HB0.out) ?_
    try simp only [Act.put, List.setIfInBounds_toArray, List.set_cons_zero, List.set_cons_succ]
    refine Till.tL 3 [4] 30 (.slice PA cl.length PC) (HS.out _ HB0.out) ?_
    try simp only [Act.put, List.setIfInBounds_toArray, List.set_cons_zero, List.set_cons_succ]
    refine Till.one (i := 2) (by kernel_rfl) rfl (fun K hK => ?_)
    go_simp
    refine (noneN_any f os rs gs vs plainD V0 (HOK.out.keep HB0.out)).mono ?_
    rintro e V1 ⟨XA, xc, rfl, hX, hb⟩
    have HB1 := Lib.hid (below_on HB0.out hb)
    have HX := Lib.hid hX
    refine hK.out _ _ (fun _ => HS.out _ HB1.out) ?_
    clear hK K hX hb
    try simp only [List.setIfInBounds_toArray, List.set_cons_zero, List.set_cons_succ]
    refine Till.one (i := 4) (by kernel_rfl) rfl (fun K hK => ?_)
    go_simp
    refine (allowedN_any f os rs gs vs plainD XA xc PA cl.length PC cl V1 (HOK.out.keep HB1.out) hn0 hn6 HRL6.out HX.out (HPL.out.keep HB1.out) rfl (by omega) (fun l hl => Nat.lt_of_lt_of_le (HClow.out l hl) hn6)).mono ?_
    rintro e V2 ⟨LA, LC, rfl, hN, hb⟩
    have HB2 := Lib.hid (below_on HB1.out hb)
    have HN := Lib.hid hN
    refine hK.out _ _ (fun h => absurd h (by simp)) ?_
    clear hK K hN hb HX
    try simp only [List.setIfInBounds_toArray, List.set_cons_zero, List.set_cons_succ]
    refine Till.one (i := 5) (by kernel_rfl) rfl (fun K hK => ?_)
    go_simp
    refine hK.out _ _ (fun h => absurd h (by simp)) ?_
    clear hK K
    try simp only [List.setIfInBounds_toArray, List.set_cons_zero, List.set_cons_succ]
    refine Till.done (by kernel_rfl) ?_ _
    have HOK := Lib.hid (HOK.out.keep HB2.out)
    have HCf := Lib.hid (HCf.out.keep HB2.out)
    have HPL := Lib.hid (HPL.out.keep HB2.out)
    have HK4 := Lib.hid (below_on HK4.out HB2.out)
    clear HS HB0 HB1 HB2
    have hfs := frc_same hn6 HRL.out HClow.out
    have hal := AL_len hn6 HRL.out HClow.out
    have HL64 := Lib.hid (@ALR_lt f.n hn6 rs (List.replicate rs.length false) cl)
    have hl64 := @ALR_short f.n hn6 rs (List.replicate rs.length false) cl
    obtain ⟨l, hl⟩ : ∃ x, ALR f.n rs (List.replicate rs.length false) cl = x := ⟨_, rfl⟩
    rw [hl] at hfs hal HN HL64 hl64 ⊢
    have HFs := Lib.hid hfs
    have HAl := Lib.hid hal
    clear hl hfs hal
    obtain ⟨N, hN⟩ : ∃ n, l.length = n := ⟨_, rfl⟩
    rw [hN] at hl64 ⊢
    have HNl := Lib.hid hN
    clear hN
    have c0 := HCf.out.at_ 0
    have c1 := HCf.out.at_ 1
    have c2 := HCf.out.at_ 2
    have c3 := HCf.out.at_ 3
    have c4 := HCf.out.at_ 4
    have c5 := HCf.out.at_ 5
    have c6 := HCf.out.at_ 6
    have c7 := HCf.out.at_ 7
    have c8 := HCf.out.at_ 8
    have c9 := HCf.out.at_ 9
    simp only [List.getElem?_cons_zero, List.getElem?_cons_succ] at c0 c1 c2 c3 c4 c5 c6 c7 c8 c9
    have HFo := Lib.hid (forced_ok f os rs gs vs plainD PA cl.length PC cl V2 HOK.out HPL.out rfl (by omega) HCok.out)
    go_wp2_with fail
    refine HFo.out.mono ?_
    rintro e w5 ⟨h1, hb⟩
    have HOK := Lib.hid (HOK.out.keep hb)
    have HCf := Lib.hid (HCf.out.keep hb)
    have HN := Lib.hid (HN.out.keep hb)
    have HK5 := Lib.hid (below_on HK4.out hb)
    clear hb HFo HK4 HPL
    have c0 := HCf.out.at_ 0
    have c1 := HCf.out.at_ 1
    have c2 := HCf.out.at_ 2
    have c3 := HCf.out.at_ 3
    have c4 := HCf.out.at_ 4
    have c5 := HCf.out.at_ 5
    have c6 := HCf.out.at_ 6
    have c7 := HCf.out.at_ 7
    have c8 := HCf.out.at_ 8
    have c9 := HCf.out.at_ 9
    simp only [List.getElem?_cons_zero, List.getElem?_cons_succ] at c0 c1 c2 c3 c4 c5 c6 c7 c8 c9
    by_cases hN0 : N = 0
    · rcases h1 with ⟨_, rfl⟩ | ⟨h2, _⟩
      · subst hN0
        go_wp2_with fail
        go_ret
        exact ⟨rfl, HK5.out⟩
      · refine absurd (List.length_eq_zero_iff.1 ?_) h2
        rw [← HAl.out, HNl.out]
        exact hN0
    · rcases h1 with ⟨h2, _⟩ | ⟨_, v3, rfl, hown⟩
      · refine absurd ?_ hN0
        rw [← HNl.out, HAl.out, h2]
        rfl
      · rw [HFs.out] at hown
        obtain ⟨A3, d3, rfl, hL3⟩ := own_lits hown
        have HL3 := Lib.hid hL3
        have nz : ((N : Int) == 0) = false := by rw [beq_eq_false_iff_ne]; omega
        have nz2 : ¬ ((N : Int) = 0) := by omega
        clear hown hL3
        obtain ⟨i0, hi, hz0, hz1, hz2⟩ := info_parts info_lit
        go_wp2_with fail
        go_loopw [11, 12, 13, 14, 15] (fun v i _ _ _ wr => ∃ j : Nat, i = .int .i64 (j : Nat) ∧ j ≤ f.n ∧ wr.ownsRow w5.heap.size 68 2 v (frcR l j).length (litV (frcR l j)) ∧ Below w5.heap.size w5 wr) (fun _ i _ _ _ _ => f.n - (intOf i).toNat)
        case atStart => exact ⟨0, rfl, Nat.zero_le _, World.ownsRow_nil _ _ _ _, Below.refl _ _⟩
        case round =>
          obtain ⟨j, rfl, hj, hown, hb⟩ := hrel
          have Ow := Lib.hid hown
          have Bp := Lib.hid hb
          have hsz := hb.size
          clear hown hb
          by_cases hlt : j < f.n
          · have Hlt := Lib.hid hlt
            have i1 : (j : Int) < (f.n : Int) := by omega
            have i2 : (j : Int) ≤ 64 := by omega
            have i3 : (0 : Int) ≤ (j : Int) := by omega
            have Hlen := Lib.hid (Nat.le_trans (frcR_len l j) hj)
            have HYes := @frcR_yes l j
            have HNo := @frcR_no l j
            go_wp2_with fail
            go_loopw [13, 14, 15] (fun a b k wx => ∃ q : Nat, k = .int .i64 (q : Nat) ∧ q ≤ N ∧ a = .bool ((l.take q).all fun s => s.testBit j) ∧ b = .bool ((l.take q).all fun s => !s.testBit j) ∧ wr = wx) (fun _ _ k _ => N - (intOf k).toNat)
            case atStart => exact ⟨0, rfl, Nat.zero_le _, rfl, rfl, rfl⟩
            case round =>
              obtain ⟨q, rfl, hq, rfl, rfl, rfl⟩ := hrel
              by_cases hqn : q < N
              · obtain ⟨s, hs⟩ : ∃ s, l[q]? = some s := ⟨_, List.getElem?_eq_getElem (by rw [HNl.out]; exact hqn)⟩
                have hs64 := HL64.out s (List.mem_of_getElem? hs)
                obtain ⟨gl, ol, rfl, hgl, hcl⟩ := (HN.out.keep Bp.out) q s hs
                have i4 : (q : Int) < (N : Int) := by omega
                have hZ := ref_bit s hs64 j (by omega)
                obtain ⟨Y, hY⟩ : ∃ Y, (s : Int) / 2 ^ j = Y := ⟨_, rfl⟩
                rw [hY] at hZ
                have ht1 := take_all (p := fun s => s.testBit j) hs
                have ht2 := take_all (p := fun s => !s.testBit j) hs
                obtain ⟨tb, htb⟩ : ∃ b, s.testBit j = b := ⟨_, rfl⟩
                simp only [htb] at ht1 ht2
                rw [htb] at hZ
                obtain ⟨p1, hp1⟩ : ∃ b, ((l.take q).all fun s => s.testBit j) = b := ⟨_, rfl⟩
                obtain ⟨p2, hp2⟩ : ∃ b, ((l.take q).all fun s => !s.testBit j) = b := ⟨_, rfl⟩
                rw [hp1] at ht1 ⊢
                rw [hp2] at ht2 ⊢
                have Ht1 := Lib.hid ht1
                have Ht2 := Lib.hid ht2
                have HQ := Lib.hid hqn
                clear hp1 hp2 ht1 ht2 htb hs
                cases tb <;> cases p1 <;> cases p2
                all_goals (first | rw [if_neg (by decide)] at hZ | rw [if_pos rfl] at hZ)
                all_goals (go_wp2_with fail; go_roundw)
                all_goals (first | exact ⟨q + 1, by go_num, HQ.out, (congrArg Value.bool Ht1.out).symm, (congrArg Value.bool Ht2.out).symm, by first | trivial | rfl⟩ | (simp [intOf]; have := HQ.out; omega))
              · have hqN : q = N := by omega
                subst hqN
                have htk : l.take q = l := List.take_of_length_le (by rw [HNl.out]; exact Nat.le_refl _)
                rw [htk]
                obtain ⟨p1, hp1⟩ : ∃ b, (l.all fun s => s.testBit j) = b := ⟨_, rfl⟩
                obtain ⟨p2, hp2⟩ : ∃ b, (l.all fun s => !s.testBit j) = b := ⟨_, rfl⟩
                rw [hp1, hp2] at HYes HNo
                rw [hp1, hp2]
                have HYes := Lib.hid HYes
                have HNo := Lib.hid HNo
                clear hp1 hp2 htk
                cases p1
                · cases p2
                  · go_wp2_with fail
                    go_roundw
                    case rel => exact ⟨j + 1, by go_num, Hlt.out, by rw [HNo.out rfl]; exact Ow.out, Bp.out⟩
                    case measure => simp [intOf]; have := Hlt.out; omega
                  · go_wp2_with (at_builtin; refine wpList_append_own _ rfl _ _ 55 rfl w5.heap.size 68 i0 (.agg #[.int .i64 0, .bool false]) 2 16 Try.underlying55 hi hz0 hz1 hz2 rfl (by decide) _ _ _ rfl (Ow.out.alloc _) ⟨wr.heap.size, 0, none⟩ 1 1 [.int .i64 (j : Nat), .bool false] rfl rfl ?xx1 ?xx2 ?xx3 ?xx4 ?xx5 ?_)
                    case xx1 =>
                      intro k u hu
                      match k, hu with
                        | 0, hu => simp at hu; subst hu; simp [Addr.add]
                        | 1, hu => simp at hu; subst hu; simp [Addr.add]
                    case xx2 => intro u hu; simp at hu; rcases hu with rfl | rfl <;> rfl
                    case xx3 => unfold maxLen; have := Hlen.out; omega
                    case xx4 => have := Hlen.out; omega
                    case xx5 => simp; omega
                    intro v' w6 hown' hgrow _
                    have O6 := Lib.hid (show w6.ownsRow w5.heap.size 68 2 v' (frcR l (j + 1)).length (litV (frcR l (j + 1))) by
                      rw [HYes.out rfl]
                      unfold litV
                      rw [List.flatMap_append, List.length_append]
                      exact hown')
                    have B6 := Lib.hid ((Bp.out.alloc Bp.out.size (.cells #[.int .i64 (j : Nat), .bool false] 68)).grown hgrow (by simp; omega) (fun k hk => own_ge Ow.out hk))
                    clear hown' hgrow
                    go_wp2
                    go_roundw
                    case rel => exact ⟨j + 1, by go_num, Hlt.out, O6.out, B6.out⟩
                    case measure => simp [intOf]; have := Hlt.out; omega
                · cases p2
                  · go_wp2_with (at_builtin; refine wpList_append_own _ rfl _ _ 55 rfl w5.heap.size 68 i0 (.agg #[.int .i64 0, .bool false]) 2 16 Try.underlying55 hi hz0 hz1 hz2 rfl (by decide) _ _ _ rfl (Ow.out.alloc _) ⟨wr.heap.size, 0, none⟩ 1 1 [.int .i64 (j : Nat), .bool true] rfl rfl ?yy1 ?yy2 ?yy3 ?yy4 ?yy5 ?_)
                    case yy1 =>
                      intro k u hu
                      match k, hu with
                        | 0, hu => simp at hu; subst hu; simp [Addr.add]
                        | 1, hu => simp at hu; subst hu; simp [Addr.add]
                    case yy2 => intro u hu; simp at hu; rcases hu with rfl | rfl <;> rfl
                    case yy3 => unfold maxLen; have := Hlen.out; omega
                    case yy4 => have := Hlen.out; omega
                    case yy5 => simp; omega
                    intro v' w6 hown' hgrow _
                    have O6 := Lib.hid (show w6.ownsRow w5.heap.size 68 2 v' (frcR l (j + 1)).length (litV (frcR l (j + 1))) by
                      rw [HYes.out rfl]
                      unfold litV
                      rw [List.flatMap_append, List.length_append]
                      exact hown')
                    have B6 := Lib.hid ((Bp.out.alloc Bp.out.size (.cells #[.int .i64 (j : Nat), .bool true] 68)).grown hgrow (by simp; omega) (fun k hk => own_ge Ow.out hk))
                    clear hown' hgrow
                    go_wp2
                    go_roundw
                    case rel => exact ⟨j + 1, by go_num, Hlt.out, O6.out, B6.out⟩
                    case measure => simp [intOf]; have := Hlt.out; omega
                  · go_wp2_with (at_builtin; refine wpList_append_own _ rfl _ _ 55 rfl w5.heap.size 68 i0 (.agg #[.int .i64 0, .bool false]) 2 16 Try.underlying55 hi hz0 hz1 hz2 rfl (by decide) _ _ _ rfl (Ow.out.alloc _) ⟨wr.heap.size, 0, none⟩ 1 1 [.int .i64 (j : Nat), .bool true] rfl rfl ?zz1 ?zz2 ?zz3 ?zz4 ?zz5 ?_)
                    case zz1 =>
                      intro k u hu
                      match k, hu with
                        | 0, hu => simp at hu; subst hu; simp [Addr.add]
                        | 1, hu => simp at hu; subst hu; simp [Addr.add]
                    case zz2 => intro u hu; simp at hu; rcases hu with rfl | rfl <;> rfl
                    case zz3 => unfold maxLen; have := Hlen.out; omega
                    case zz4 => have := Hlen.out; omega
                    case zz5 => simp; omega
                    intro v' w6 hown' hgrow _
                    have O6 := Lib.hid (show w6.ownsRow w5.heap.size 68 2 v' (frcR l (j + 1)).length (litV (frcR l (j + 1))) by
                      rw [HYes.out rfl]
                      unfold litV
                      rw [List.flatMap_append, List.length_append]
                      exact hown')
                    have B6 := Lib.hid ((Bp.out.alloc Bp.out.size (.cells #[.int .i64 (j : Nat), .bool true] 68)).grown hgrow (by simp; omega) (fun k hk => own_ge Ow.out hk))
                    clear hown' hgrow
                    go_wp2
                    go_roundw
                    case rel => exact ⟨j + 1, by go_num, Hlt.out, O6.out, B6.out⟩
                    case measure => simp [intOf]; have := Hlt.out; omega
          · have hjn : j = f.n := by omega
            subst hjn
            obtain ⟨A4, d4, rfl, hL4⟩ := own_lits Ow.out
            have HL4 := Lib.hid hL4
            have HL3 := Lib.hid (HL3.out.keep Bp.out)
            have HE := Lib.hid (below_on HK5.out Bp.out)
            have hl1000 : (frcR l f.n).length ≤ 1000 := Nat.le_trans (frcR_len _ _) (by omega)
            clear hL4 Ow Bp hsz HN HOK HCf HNl
            obtain ⟨fl, hfl⟩ : ∃ x, frcR l f.n = x := ⟨_, rfl⟩
            rw [hfl] at HL3 HL4 hl1000 ⊢
            clear hfl
            have HS := Lib.hid (sameLiterals_any A3 A4 fl.length fl.length d3 d4 (lc fl) (lc fl) _ HL3.out HL4.out (by rw [lc_len]) (by rw [lc_len]) (by omega) (by omega))
            go_wp2_with fail
            refine HS.out.mono ?_
            rintro e w7 ⟨he, hb⟩
            have he : e = .returned (.bool true) := he.trans (by simp)
            subst he
            have HE := Lib.hid (below_on HE.out hb)
            clear hb
            go_wp2_with fail
            go_ret
            exact ⟨rfl, HE.out⟩
end Go.Proofs.Ytmfmpkihmadjmaa
