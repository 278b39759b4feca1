/- VariantUses: the walk. -/
import Derived.Test.YtmfmpkihmadjmaaVaq
import Derived.Test.YtmfmpkihmadjmaaVas
namespace Go.Proofs.Ytmfmpkihmadjmaa
open Go.RowKit Go.Shelf
theorem put10 (a0 a1 a2 a3 a4 a5 a6 a7 a8 a9 : Value) : putL #[.string { data := #[] }, .slice none 0 0, .slice none 0 0, .slice none 0 0, .slice none 0 0, .slice none 0 0, .slice none 0 0, .slice none 0 0, .slice none 0 0, .slice none 0 0] 0 [a0, a1, a2, a3, a4, a5, a6, a7, a8, a9] = #[a0, a1, a2, a3, a4, a5, a6, a7, a8, a9] := by simp [putL]
/-- The family of a description, in a variable. -/
def Started (w : World) (m : Nat) (kr kg kv : List (List Int)) (s : Value) (x : World) : Prop :=
  ∃ p f, s = .pointer (some ⟨p, 0, none⟩) ∧ w.heap.size ≤ p ∧ Cells x p f.cells.toList ∧ f.n = 1 + m ∧ FamOK x f (famO (1 + m)) (famR (1 + m) kr) (famG (1 + m) kg) (famV (1 + m) kv) plainD ∧ Below w.heap.size w x
theorem lc_any (l : List (Nat × Bool)) (q : Nat) : ((lc l).any fun e => e.1 == (q : Int)) = l.any fun e => e.1 == q := by
  unfold lc
  rw [List.any_map, Bool.eq_iff_iff, List.any_eq_true, List.any_eq_true]
  exact ⟨fun ⟨x, h1, h2⟩ => ⟨x, h1, by simp at h2 ⊢; omega⟩, fun ⟨x, h1, h2⟩ => ⟨x, h1, by simp at h2 ⊢; omega⟩⟩
set_option maxRecDepth 100000 in
set_option maxHeartbeats 16000000 in
theorem uses_any (o m : Nat) (ho : o < 256) (hm : o % 6 = m) (RA GA VA : Option Addr) (rn rc gn gc vn vc : Nat) (kr kg kv : List (List Int)) (x : Int) (w : World) (hkr : I8LL w RA kr) (hkg : I8LL w GA kg) (hkv : I8LL w VA kv) (lr : kr.length = rn) (lg : kg.length = gn) (lv : kv.length = vn) (h8r : ∀ l ∈ kr, ∀ k ∈ l, -128 ≤ k ∧ k < 128) (h8g : ∀ l ∈ kg, ∀ k ∈ l, -128 ≤ k ∧ k < 128) (h8v : ∀ l ∈ kv, ∀ k ∈ l, -128 ≤ k ∧ k < 128) :
    Calls Try.prog 9 #[.agg #[.int .u8 (o : Nat), .slice RA rn rc, .slice GA gn gc, .slice VA vn vc], .int .i64 x] w fun e w' => e = .returned (.bool true) ∧ Below w.heap.size w w' := by
  have HFam := Lib.hid (fun (I J : Option Addr) (ic : Nat) (W : World) (hb : Below w.heap.size w W) (hD : DimL W J plainD) => family_any o m ho hm RA GA VA I J rn rc gn gc vn vc ic kr kg kv W (hkr.keep hb) (hkg.keep hb) (hkv.keep hb) lr lg lv h8r h8g h8v hD)
  clear hkr hkg hkv lr lg lv h8r h8g h8v
  have k1 := (Below.refl w.heap.size w).alloc (Nat.le_refl _) (.cells #[.int .u8 (o : Nat), .slice RA rn rc, .slice GA gn gc, .slice VA vn vc] 24)
  have C1 := Cells.new w #[.int .u8 (o : Nat), .slice RA rn rc, .slice GA gn gc, .slice VA vn vc] 24
  obtain ⟨w1, hw1⟩ : ∃ u, w.alloc (.cells #[.int .u8 (o : Nat), .slice RA rn rc, .slice GA gn gc, .slice VA vn vc] 24) = u := ⟨_, rfl⟩
  rw [hw1] at k1 C1
  have HC1 := Lib.hid C1
  have HK1 := Lib.hid k1
  clear C1 k1
  go_enter Try.func9, Try.ntmps9
  go_wp2_with fail
  refine (known_true w1).mono ?_
  rintro e w2 ⟨rfl, hb⟩
  clear hw1
  have HC2 := Lib.hid (HC1.out.keep hb)
  have HK2 := Lib.hid (below_on HK1.out hb)
  clear hb HC1
  go_upto_region 3 with fail
  go_cut [5] (fun s wx => Started w2 m kr kg kv s wx)
  case first =>
    have HS := Lib.hid (fun w' (hb : Below w2.heap.size w2 w') => (show w'.cell? ⟨w.heap.size, 0, none⟩ = some (.int .u8 (o : Nat)) ∧ w'.cell? ⟨w.heap.size, 1, none⟩ = some (.slice RA rn rc) ∧ w'.cell? ⟨w.heap.size, 2, none⟩ = some (.slice GA gn gc) ∧ w'.cell? ⟨w.heap.size, 3, none⟩ = some (.slice VA vn vc) from ⟨(HC2.out.keep hb).at_ 0, (HC2.out.keep hb).at_ 1, (HC2.out.keep hb).at_ 2, (HC2.out.keep hb).at_ 3⟩))
    refine Till.begin 4 (fun w' => w'.cell? ⟨w.heap.size, 0, none⟩ = some (.int .u8 (o : Nat)) ∧ w'.cell? ⟨w.heap.size, 1, none⟩ = some (.slice RA rn rc) ∧ w'.cell? ⟨w.heap.size, 2, none⟩ = some (.slice GA gn gc) ∧ w'.cell? ⟨w.heap.size, 3, none⟩ = some (.slice VA vn vc)) (by kernel_rfl) (HS.out _ (Below.refl _ _).drew) (fun hH => ?_)
    clear hH
    have HB0 := Lib.hid (Below.refl w2.heap.size w2).drew
    generalize w2.drew = V0 at HB0 ⊢
    try simp only [List.setIfInBounds_toArray, List.set_cons_zero, List.set_cons_succ]
    refine Till.tL 0 [2, 4] 15 (.agg #[.int .u8 (o : Nat), .slice RA rn rc, .slice GA gn gc, .slice VA vn vc]) (HS.out _ HB0.out) ?_
    try simp only [Act.put, List.setIfInBounds_toArray, List.set_cons_zero, List.set_cons_succ]
    refine Till.two (i := 1) (j := 3) (by kernel_rfl) rfl rfl ?_ ?_
    · intro K hK
      go_simp
      refine (plain_any V0).mono ?_
      rintro e V1 ⟨I, ic, J, rfl, _, hJ, hJb, hb⟩
      have HB1 := Lib.hid (below_on HB0.out hb)
      have HJ := Lib.hid hJ
      have HJb := Lib.hid hJb
      have HPs := Lib.hid hb.size
      refine hK.out _ _ (fun _ => HS.out _ HB1.out) ?_
      clear hK K hJ hJb
      try simp only [List.setIfInBounds_toArray, List.set_cons_zero, List.set_cons_succ]
      refine Till.two (i := 2) (j := 3) (by kernel_rfl) rfl rfl ?_ ?_
      · intro K hK
        go_simp
        refine (HFam.out I J ic V1 (below_on HK2.out HB1.out) HJ.out).mono ?_
        rintro e V2 ⟨OA, oc, rA, rC, gA, gC, vA, vC, he, hOK, _, hMem, hb⟩
        obtain ⟨f, hf⟩ : ∃ f, (famF I ic J OA rA gA vA (1 + m) oc (famR (1 + m) kr).length rC (famG (1 + m) kg).length gC (famV (1 + m) kv).length vC) = f := ⟨_, rfl⟩
        rw [hf] at he hOK hMem
        have hfn : f.n = 1 + m := by rw [← hf]; rfl
        have hfJ : f.DA = J := by rw [← hf]; rfl
        have HFn := Lib.hid hfn
        have HfJ := Lib.hid hfJ
        clear hf hfn hfJ
        subst he
        have HB2 := Lib.hid (below_on HB1.out hb)
        have HOK := Lib.hid hOK
        have HMem := Lib.hid hMem
        have HFb := Lib.hid hb
        refine hK.out _ _ (fun _ => HS.out _ HB2.out) ?_
        clear hK K hOK hMem hb
        try simp only [List.setIfInBounds_toArray, List.set_cons_zero, List.set_cons_succ]
        refine Till.one (i := 3) (by kernel_rfl) rfl (fun K hK => ?_)
        go_simp
        have kx := (Below.refl V2.heap.size V2).alloc (Nat.le_refl _) (.cells #[.string { data := #[] }, .slice none 0 0, .slice none 0 0, .slice none 0 0, .slice none 0 0, .slice none 0 0, .slice none 0 0, .slice none 0 0, .slice none 0 0, .slice none 0 0] 40)
        have RZ := heap_new V2 (.cells #[.string { data := #[] }, .slice none 0 0, .slice none 0 0, .slice none 0 0, .slice none 0 0, .slice none 0 0, .slice none 0 0, .slice none 0 0, .slice none 0 0, .slice none 0 0] 40)
        obtain ⟨V3, hV⟩ : ∃ u, V2.alloc (.cells #[.string { data := #[] }, .slice none 0 0, .slice none 0 0, .slice none 0 0, .slice none 0 0, .slice none 0 0, .slice none 0 0, .slice none 0 0, .slice none 0 0, .slice none 0 0] 40) = u := ⟨_, rfl⟩
        have hsz : V2.heap.size < V3.heap.size := by rw [← hV]; simp
        rw [hV] at kx RZ ⊢
        obtain ⟨p, hp⟩ : ∃ p, V2.heap.size = p := ⟨_, rfl⟩
        have HB3 := Lib.hid (below_on HB2.out kx)
        have KX := Lib.hid kx
        have HP := Lib.hid hp
        have HPz := Lib.hid (show p < V3.heap.size by omega)
        rw [hp] at RZ ⊢
        have RZ := Lib.hid RZ
        refine hK.out _ _ (fun _ => HS.out _ HB3.out) ?_
        clear hK K hV kx hp hsz
        try simp only [List.setIfInBounds_toArray, List.set_cons_zero, List.set_cons_succ]
        have RF := row_setCells p 40 [.string f.nm, .slice f.PA f.pn f.pc, .slice f.IA f.iN f.ic, .slice f.DA f.dn f.dc, .slice f.KA f.kn f.kc, .slice f.QA f.qn f.qc, .slice f.OA f.n f.oc, .slice f.RA f.rn f.rc, .slice f.GA f.gn f.gc, .slice f.VA f.vn f.vc] 0 V3 _ RZ.out
        have G0 := grown_cells p [.string f.nm, .slice f.PA f.pn f.pc, .slice f.IA f.iN f.ic, .slice f.DA f.dn f.dc, .slice f.KA f.kn f.kc, .slice f.QA f.qn f.qc, .slice f.OA f.n f.oc, .slice f.RA f.rn f.rc, .slice f.GA f.gn f.gc, .slice f.VA f.vn f.vc] 0 V3
        obtain ⟨WF, hWF⟩ : ∃ u, V3.setCells p 0 [.string f.nm, .slice f.PA f.pn f.pc, .slice f.IA f.iN f.ic, .slice f.DA f.dn f.dc, .slice f.KA f.kn f.kc, .slice f.QA f.qn f.qc, .slice f.OA f.n f.oc, .slice f.RA f.rn f.rc, .slice f.GA f.gn f.gc, .slice f.VA f.vn f.vc] = u := ⟨_, rfl⟩
        rw [hWF] at RF G0
        have CR := Cells.of_row RZ.out
        have p0 := CR.at_ 0
        have p1 := CR.at_ 1
        have p2 := CR.at_ 2
        have p3 := CR.at_ 3
        have p4 := CR.at_ 4
        have p5 := CR.at_ 5
        have p6 := CR.at_ 6
        have p7 := CR.at_ 7
        have p8 := CR.at_ 8
        have p9 := CR.at_ 9
        simp only [List.getElem?_cons_zero, List.getElem?_cons_succ] at p0 p1 p2 p3 p4 p5 p6 p7 p8 p9
        have f0 := CR.fz 0
        have f1 := CR.fz 1
        have f2 := CR.fz 2
        have f3 := CR.fz 3
        have f4 := CR.fz 4
        have f5 := CR.fz 5
        have f6 := CR.fz 6
        have f7 := CR.fz 7
        have f8 := CR.fz 8
        have f9 := CR.fz 9
        have kF : Below V2.heap.size V2 WF := KX.out.grown G0 KX.out.size (fun k e => by injection e with e; have := HP.out; omega)
        have hOKF := Lib.hid (HOK.out.keep kF)
        have RF : WF.heap[p]? = some (.cells #[.string f.nm, .slice f.PA f.pn f.pc, .slice f.IA f.iN f.ic, .slice f.DA f.dn f.dc, .slice f.KA f.kn f.kc, .slice f.QA f.qn f.qc, .slice f.OA f.n f.oc, .slice f.RA f.rn f.rc, .slice f.GA f.gn f.gc, .slice f.VA f.vn f.vc] 40 (0, 0)) := by
          rwa [put10] at RF
        have HCF := Lib.hid (Cells.of_row RF)
        have hpW : w2.heap.size ≤ p := by have := HP.out; have := HB2.out.size; omega
        have BF := Lib.hid (HB3.out.grown G0 HB3.out.size (fun k e => by injection e with e; omega))
        simp only [World.setCells, Nat.reduceAdd] at hWF
        have HWF := Lib.hid hWF
        have HpW := Lib.hid hpW
        clear hWF CR RF G0 hpW
        refine Till.one (i := 4) (by kernel_rfl) rfl (fun K hK => ?_)
        go_simp
        rw [HWF.out]
        refine hK.out _ _ (fun h => absurd h (by simp)) ?_
        clear hK K p0 f0 p1 f1 p2 f2 p3 f3 p4 f4 p5 f5 p6 f6 p7 f7 p8 f8 p9 f9
        try simp only [List.setIfInBounds_toArray, List.set_cons_zero, List.set_cons_succ]
        refine Till.done (by kernel_rfl) ?_ _
        go_wp2_with fail
        go_meet
        exact ⟨p, f, rfl, HpW.out, HCF.out, HFn.out, hOKF.out, BF.out⟩
      · intro K hK
        go_simp
        have kx := (Below.refl V1.heap.size V1).alloc (Nat.le_refl _) (.cells #[.string { data := #[] }, .slice none 0 0, .slice none 0 0, .slice none 0 0, .slice none 0 0, .slice none 0 0, .slice none 0 0, .slice none 0 0, .slice none 0 0, .slice none 0 0] 40)
        have RZ := heap_new V1 (.cells #[.string { data := #[] }, .slice none 0 0, .slice none 0 0, .slice none 0 0, .slice none 0 0, .slice none 0 0, .slice none 0 0, .slice none 0 0, .slice none 0 0, .slice none 0 0] 40)
        obtain ⟨V2, hV⟩ : ∃ u, V1.alloc (.cells #[.string { data := #[] }, .slice none 0 0, .slice none 0 0, .slice none 0 0, .slice none 0 0, .slice none 0 0, .slice none 0 0, .slice none 0 0, .slice none 0 0, .slice none 0 0] 40) = u := ⟨_, rfl⟩
        have hsz : V1.heap.size < V2.heap.size := by rw [← hV]; simp
        rw [hV] at kx RZ ⊢
        obtain ⟨p, hp⟩ : ∃ p, V1.heap.size = p := ⟨_, rfl⟩
        have HB2 := Lib.hid (below_on HB1.out kx)
        have KX := Lib.hid kx
        have HP := Lib.hid hp
        have HPz := Lib.hid (show p < V2.heap.size by omega)
        rw [hp] at RZ ⊢
        have RZ := Lib.hid RZ
        refine hK.out _ _ (fun _ => HS.out _ HB2.out) ?_
        clear hK K hV kx hp hsz
        try simp only [List.setIfInBounds_toArray, List.set_cons_zero, List.set_cons_succ]
        have HJ2 := Lib.hid (HJ.out.keep KX.out)
        refine Till.one (i := 2) (by kernel_rfl) rfl (fun K hK => ?_)
        go_simp
        refine (HFam.out I J ic V2 (below_on HK2.out HB2.out) HJ2.out).mono ?_
        rintro e V3 ⟨OA, oc, rA, rC, gA, gC, vA, vC, he, hOK, _, hMem, hb⟩
        obtain ⟨f, hf⟩ : ∃ f, (famF I ic J OA rA gA vA (1 + m) oc (famR (1 + m) kr).length rC (famG (1 + m) kg).length gC (famV (1 + m) kv).length vC) = f := ⟨_, rfl⟩
        rw [hf] at he hOK hMem
        have hfn : f.n = 1 + m := by rw [← hf]; rfl
        have hfJ : f.DA = J := by rw [← hf]; rfl
        have HFn := Lib.hid hfn
        have HfJ := Lib.hid hfJ
        clear hf hfn hfJ
        subst he
        have HB3 := Lib.hid (below_on HB2.out hb)
        have HOK := Lib.hid hOK
        have HMem := Lib.hid hMem
        have HFb := Lib.hid hb
        refine hK.out _ _ (fun _ => HS.out _ HB3.out) ?_
        clear hK K hOK hMem hb
        try simp only [List.setIfInBounds_toArray, List.set_cons_zero, List.set_cons_succ]
        have RZ := Lib.hid (row_keep RZ.out HFb.out)
        have RF := row_setCells p 40 [.string f.nm, .slice f.PA f.pn f.pc, .slice f.IA f.iN f.ic, .slice f.DA f.dn f.dc, .slice f.KA f.kn f.kc, .slice f.QA f.qn f.qc, .slice f.OA f.n f.oc, .slice f.RA f.rn f.rc, .slice f.GA f.gn f.gc, .slice f.VA f.vn f.vc] 0 V3 _ RZ.out
        have G0 := grown_cells p [.string f.nm, .slice f.PA f.pn f.pc, .slice f.IA f.iN f.ic, .slice f.DA f.dn f.dc, .slice f.KA f.kn f.kc, .slice f.QA f.qn f.qc, .slice f.OA f.n f.oc, .slice f.RA f.rn f.rc, .slice f.GA f.gn f.gc, .slice f.VA f.vn f.vc] 0 V3
        obtain ⟨WF, hWF⟩ : ∃ u, V3.setCells p 0 [.string f.nm, .slice f.PA f.pn f.pc, .slice f.IA f.iN f.ic, .slice f.DA f.dn f.dc, .slice f.KA f.kn f.kc, .slice f.QA f.qn f.qc, .slice f.OA f.n f.oc, .slice f.RA f.rn f.rc, .slice f.GA f.gn f.gc, .slice f.VA f.vn f.vc] = u := ⟨_, rfl⟩
        rw [hWF] at RF G0
        have CR := Cells.of_row RZ.out
        have p0 := CR.at_ 0
        have p1 := CR.at_ 1
        have p2 := CR.at_ 2
        have p3 := CR.at_ 3
        have p4 := CR.at_ 4
        have p5 := CR.at_ 5
        have p6 := CR.at_ 6
        have p7 := CR.at_ 7
        have p8 := CR.at_ 8
        have p9 := CR.at_ 9
        simp only [List.getElem?_cons_zero, List.getElem?_cons_succ] at p0 p1 p2 p3 p4 p5 p6 p7 p8 p9
        have f0 := CR.fz 0
        have f1 := CR.fz 1
        have f2 := CR.fz 2
        have f3 := CR.fz 3
        have f4 := CR.fz 4
        have f5 := CR.fz 5
        have f6 := CR.fz 6
        have f7 := CR.fz 7
        have f8 := CR.fz 8
        have f9 := CR.fz 9
        have hOKF := Lib.hid (HOK.out.other HMem.out G0 HPz.out (fun b o t e => by have := (HJb.out b o t (HfJ.out.symm.trans e)).2; have := HP.out; omega))
        have RF : WF.heap[p]? = some (.cells #[.string f.nm, .slice f.PA f.pn f.pc, .slice f.IA f.iN f.ic, .slice f.DA f.dn f.dc, .slice f.KA f.kn f.kc, .slice f.QA f.qn f.qc, .slice f.OA f.n f.oc, .slice f.RA f.rn f.rc, .slice f.GA f.gn f.gc, .slice f.VA f.vn f.vc] 40 (0, 0)) := by
          rwa [put10] at RF
        have HCF := Lib.hid (Cells.of_row RF)
        have hpW : w2.heap.size ≤ p := by have := HP.out; have := HB1.out.size; omega
        have BF := Lib.hid (HB3.out.grown G0 HB3.out.size (fun k e => by injection e with e; omega))
        simp only [World.setCells, Nat.reduceAdd] at hWF
        have HWF := Lib.hid hWF
        have HpW := Lib.hid hpW
        clear hWF CR RF G0 hpW
        refine Till.one (i := 4) (by kernel_rfl) rfl (fun K hK => ?_)
        go_simp
        rw [HWF.out]
        refine hK.out _ _ (fun h => absurd h (by simp)) ?_
        clear hK K p0 f0 p1 f1 p2 f2 p3 f3 p4 f4 p5 f5 p6 f6 p7 f7 p8 f8 p9 f9
        try simp only [List.setIfInBounds_toArray, List.set_cons_zero, List.set_cons_succ]
        refine Till.done (by kernel_rfl) ?_ _
        go_wp2_with fail
        go_meet
        exact ⟨p, f, rfl, HpW.out, HCF.out, HFn.out, hOKF.out, BF.out⟩
    · intro K hK
      go_simp
      have kx := (Below.refl V0.heap.size V0).alloc (Nat.le_refl _) (.cells #[.string { data := #[] }, .slice none 0 0, .slice none 0 0, .slice none 0 0, .slice none 0 0, .slice none 0 0, .slice none 0 0, .slice none 0 0, .slice none 0 0, .slice none 0 0] 40)
      have RZ := heap_new V0 (.cells #[.string { data := #[] }, .slice none 0 0, .slice none 0 0, .slice none 0 0, .slice none 0 0, .slice none 0 0, .slice none 0 0, .slice none 0 0, .slice none 0 0, .slice none 0 0] 40)
      obtain ⟨V1, hV⟩ : ∃ u, V0.alloc (.cells #[.string { data := #[] }, .slice none 0 0, .slice none 0 0, .slice none 0 0, .slice none 0 0, .slice none 0 0, .slice none 0 0, .slice none 0 0, .slice none 0 0, .slice none 0 0] 40) = u := ⟨_, rfl⟩
      have hsz : V0.heap.size < V1.heap.size := by rw [← hV]; simp
      rw [hV] at kx RZ ⊢
      obtain ⟨p, hp⟩ : ∃ p, V0.heap.size = p := ⟨_, rfl⟩
      have HB1 := Lib.hid (below_on HB0.out kx)
      have KX := Lib.hid kx
      have HP := Lib.hid hp
      have HPz := Lib.hid (show p < V1.heap.size by omega)
      rw [hp] at RZ ⊢
      have RZ := Lib.hid RZ
      refine hK.out _ _ (fun _ => HS.out _ HB1.out) ?_
      clear hK K hV kx hp hsz
      try simp only [List.setIfInBounds_toArray, List.set_cons_zero, List.set_cons_succ]
      refine Till.one (i := 1) (by kernel_rfl) rfl (fun K hK => ?_)
      go_simp
      refine (plain_any V1).mono ?_
      rintro e V2 ⟨I, ic, J, rfl, _, hJ, hJb, hb⟩
      have HB2 := Lib.hid (below_on HB1.out hb)
      have HJ := Lib.hid hJ
      have HJb := Lib.hid hJb
      have HPs := Lib.hid hb.size
      refine hK.out _ _ (fun _ => HS.out _ HB2.out) ?_
      clear hK K hJ hJb
      try simp only [List.setIfInBounds_toArray, List.set_cons_zero, List.set_cons_succ]
      have RZ := Lib.hid (row_keep RZ.out hb)
      have HPz2 := Lib.hid (Nat.lt_of_lt_of_le HPz.out HPs.out)
      clear hb
      refine Till.one (i := 2) (by kernel_rfl) rfl (fun K hK => ?_)
      go_simp
      refine (HFam.out I J ic V2 (below_on HK2.out HB2.out) HJ.out).mono ?_
      rintro e V3 ⟨OA, oc, rA, rC, gA, gC, vA, vC, he, hOK, _, hMem, hb⟩
      obtain ⟨f, hf⟩ : ∃ f, (famF I ic J OA rA gA vA (1 + m) oc (famR (1 + m) kr).length rC (famG (1 + m) kg).length gC (famV (1 + m) kv).length vC) = f := ⟨_, rfl⟩
      rw [hf] at he hOK hMem
      have hfn : f.n = 1 + m := by rw [← hf]; rfl
      have hfJ : f.DA = J := by rw [← hf]; rfl
      have HFn := Lib.hid hfn
      have HfJ := Lib.hid hfJ
      clear hf hfn hfJ
      subst he
      have HB3 := Lib.hid (below_on HB2.out hb)
      have HOK := Lib.hid hOK
      have HMem := Lib.hid hMem
      have HFb := Lib.hid hb
      refine hK.out _ _ (fun _ => HS.out _ HB3.out) ?_
      clear hK K hOK hMem hb
      try simp only [List.setIfInBounds_toArray, List.set_cons_zero, List.set_cons_succ]
      have RZ := Lib.hid (row_keep RZ.out HFb.out)
      have RF := row_setCells p 40 [.string f.nm, .slice f.PA f.pn f.pc, .slice f.IA f.iN f.ic, .slice f.DA f.dn f.dc, .slice f.KA f.kn f.kc, .slice f.QA f.qn f.qc, .slice f.OA f.n f.oc, .slice f.RA f.rn f.rc, .slice f.GA f.gn f.gc, .slice f.VA f.vn f.vc] 0 V3 _ RZ.out
      have G0 := grown_cells p [.string f.nm, .slice f.PA f.pn f.pc, .slice f.IA f.iN f.ic, .slice f.DA f.dn f.dc, .slice f.KA f.kn f.kc, .slice f.QA f.qn f.qc, .slice f.OA f.n f.oc, .slice f.RA f.rn f.rc, .slice f.GA f.gn f.gc, .slice f.VA f.vn f.vc] 0 V3
      obtain ⟨WF, hWF⟩ : ∃ u, V3.setCells p 0 [.string f.nm, .slice f.PA f.pn f.pc, .slice f.IA f.iN f.ic, .slice f.DA f.dn f.dc, .slice f.KA f.kn f.kc, .slice f.QA f.qn f.qc, .slice f.OA f.n f.oc, .slice f.RA f.rn f.rc, .slice f.GA f.gn f.gc, .slice f.VA f.vn f.vc] = u := ⟨_, rfl⟩
      rw [hWF] at RF G0
      have CR := Cells.of_row RZ.out
      have p0 := CR.at_ 0
      have p1 := CR.at_ 1
      have p2 := CR.at_ 2
      have p3 := CR.at_ 3
      have p4 := CR.at_ 4
      have p5 := CR.at_ 5
      have p6 := CR.at_ 6
      have p7 := CR.at_ 7
      have p8 := CR.at_ 8
      have p9 := CR.at_ 9
      simp only [List.getElem?_cons_zero, List.getElem?_cons_succ] at p0 p1 p2 p3 p4 p5 p6 p7 p8 p9
      have f0 := CR.fz 0
      have f1 := CR.fz 1
      have f2 := CR.fz 2
      have f3 := CR.fz 3
      have f4 := CR.fz 4
      have f5 := CR.fz 5
      have f6 := CR.fz 6
      have f7 := CR.fz 7
      have f8 := CR.fz 8
      have f9 := CR.fz 9
      have hOKF := Lib.hid (HOK.out.other HMem.out G0 HPz2.out (fun b o t e => by have := (HJb.out b o t (HfJ.out.symm.trans e)).1; have := HPz.out; omega))
      have RF : WF.heap[p]? = some (.cells #[.string f.nm, .slice f.PA f.pn f.pc, .slice f.IA f.iN f.ic, .slice f.DA f.dn f.dc, .slice f.KA f.kn f.kc, .slice f.QA f.qn f.qc, .slice f.OA f.n f.oc, .slice f.RA f.rn f.rc, .slice f.GA f.gn f.gc, .slice f.VA f.vn f.vc] 40 (0, 0)) := by
        rwa [put10] at RF
      have HCF := Lib.hid (Cells.of_row RF)
      have hpW : w2.heap.size ≤ p := by have := HP.out; have := HB0.out.size; omega
      have BF := Lib.hid (HB3.out.grown G0 HB3.out.size (fun k e => by injection e with e; omega))
      simp only [World.setCells, Nat.reduceAdd] at hWF
      have HWF := Lib.hid hWF
      have HpW := Lib.hid hpW
      clear hWF CR RF G0 hpW
      refine Till.one (i := 4) (by kernel_rfl) rfl (fun K hK => ?_)
      go_simp
      rw [HWF.out]
      refine hK.out _ _ (fun h => absurd h (by simp)) ?_
      clear hK K p0 f0 p1 f1 p2 f2 p3 f3 p4 f4 p5 f5 p6 f6 p7 f7 p8 f8 p9 f9
      try simp only [List.setIfInBounds_toArray, List.set_cons_zero, List.set_cons_succ]
      refine Till.done (by kernel_rfl) ?_ _
      go_wp2_with fail
      go_meet
      exact ⟨p, f, rfl, HpW.out, HCF.out, HFn.out, hOKF.out, BF.out⟩
  case rest =>
    obtain ⟨pf, f, rfl, hpf, hCf, hfn, hOK, hbf⟩ := hcut
    have HOK := Lib.hid hOK
    have HCf := Lib.hid hCf
    have HK3 := Lib.hid (below_on HK2.out hbf)
    have hv48 := hOK.v48
    have hg48 := hOK.g48
    have HFn := Lib.hid hfn
    clear hOK hCf hbf hpf HC2 HK2 HFam hfn
    have c0 := HCf.out.at_ 0
    have c1 := HCf.out.at_ 1
    have c2 := HCf.out.at_ 2
    have c3 := HCf.out.at_ 3
    have c4 := HCf.out.at_ 4
    have c5 := HCf.out.at_ 5
    have c6 := HCf.out.at_ 6
    have c7 := HCf.out.at_ 7
    have c8 := HCf.out.at_ 8
    have c9 := HCf.out.at_ 9
    simp only [List.getElem?_cons_zero, List.getElem?_cons_succ] at c0 c1 c2 c3 c4 c5 c6 c7 c8 c9
    by_cases hx : 0 ≤ x ∧ x < (f.n : Int)
    · obtain ⟨q, rfl⟩ : ∃ q : Nat, x = (q : Int) := ⟨x.toNat, by omega⟩
      have hqn : q < f.n := by omega
      have HU := Lib.hid (used_ok f _ _ _ _ _ q wc HOK.out hqn)
      go_wp2_with fail
      refine HU.out.mono ?_
      rintro e w4 ⟨v1, v2, rfl, hg, hv, hb⟩
      obtain ⟨A1, d1, rfl, hN1⟩ := own_nats hg rfl
      obtain ⟨A2, d2, rfl, hN2⟩ := own_nats hv rfl
      have N1 := Lib.hid hN1
      have N2 := Lib.hid hN2
      have HOK4 := Lib.hid (HOK.out.keep hb)
      have HCf4 := Lib.hid (HCf.out.keep hb)
      have HK4 := Lib.hid (below_on HK3.out hb)
      clear hg hv hb hN1 hN2 HU HOK HCf HK3
      obtain ⟨i0, hi, hz0, hz1, hz2⟩ := info_parts info_intV
      have c0 := HCf4.out.at_ 0
      have c1 := HCf4.out.at_ 1
      have c2 := HCf4.out.at_ 2
      have c3 := HCf4.out.at_ 3
      have c4 := HCf4.out.at_ 4
      have c5 := HCf4.out.at_ 5
      have c6 := HCf4.out.at_ 6
      have c7 := HCf4.out.at_ 7
      have c8 := HCf4.out.at_ 8
      have c9 := HCf4.out.at_ 9
      simp only [List.getElem?_cons_zero, List.getElem?_cons_succ] at c0 c1 c2 c3 c4 c5 c6 c7 c8 c9
      have e1 : decide ((q : Int) < 0) = false := decide_eq_false (by omega)
      have e2 : decide ((f.n : Int) ≤ (q : Int)) = false := decide_eq_false (by omega)
      have e3 : ¬ ((q : Int) < 0) := by omega
      have e4 : ¬ ((f.n : Int) ≤ (q : Int)) := by omega
      have e5 : decide (f.n ≤ q) = false := decide_eq_false (by omega)
      go_wp2_with fail
      go_loopw [9, 11] (fun v i wr => ∃ j : Nat, i = .int .i64 (j : Nat) ∧ j ≤ f.gn ∧ wr.ownsRow w4.heap.size 3 1 v (useL ((famG (1 + m) kg).map (·.2)) q j).length (natsV (useL ((famG (1 + m) kg).map (·.2)) q j)) ∧ Below w4.heap.size w4 wr) (fun _ i _ => f.gn - (intOf i).toNat)
      case atStart => exact ⟨0, rfl, Nat.zero_le _, World.ownsRow_nil _ _ _ _, Below.refl _ _⟩
      case round =>
        obtain ⟨j, rfl, hj, hown, hb⟩ := hrel
        have Ow := Lib.hid hown
        have Bp := Lib.hid hb
        have hsz := hb.size
        clear hown hb
        have HOK5 := Lib.hid (HOK4.out.keep Bp.out)
        have c8 := (HCf4.out.keep Bp.out).at_ 8
        simp only [List.getElem?_cons_zero, List.getElem?_cons_succ] at c8
        by_cases hlt : j < f.gn
        · have Hlt := Lib.hid hlt
          have i1 : (j : Int) < (f.gn : Int) := by omega
          obtain ⟨g, bb, oo, A', d, hr, hGA, hbw, z0, z1, hl⟩ := HOK5.out.gsL.at_ (k := j) (by rw [HOK5.out.gsl]; exact hlt)
          rw [hGA] at c8 ⊢
          obtain ⟨_, hn2, _⟩ := HOK5.out.gsn g (List.mem_of_getElem? hr)
          have hls : ((famG (1 + m) kg).map (·.2))[j]? = some g.2 := by rw [List.getElem?_map, hr]; rfl
          obtain ⟨gi, hgi⟩ : ∃ q, g.1 = q := ⟨_, rfl⟩
          obtain ⟨lr, hlr⟩ : ∃ q, g.2 = q := ⟨_, rfl⟩
          rw [hgi] at z0
          rw [hlr] at z1 hn2 hl hls
          obtain ⟨ln, hln⟩ : ∃ q, lr.length = q := ⟨_, rfl⟩
          rw [hln] at z1 hn2
          clear hr hgi hlr
          have HM := mentions_any A' ln d (q : Int) (lc lr) wr hl (by rw [lc_len]; exact hln) (by omega)
          rw [lc_any] at HM
          have Hln := Lib.hid hln
          have Hls := Lib.hid hls
          have Hlen := Lib.hid (Nat.le_trans (useL_len ((famG (1 + m) kg).map (·.2)) q j) hj)
          obtain ⟨b, hbq⟩ : ∃ b, (lr.any fun e => e.1 == q) = b := ⟨_, rfl⟩
          rw [hbq] at HM
          have HM := Lib.hid HM
          have Hq := Lib.hid hbq
          clear hbq hls hl hln
          cases b
          · go_wp2_with fail
            refine HM.out.mono ?_
            rintro e w5 ⟨rfl, rfl⟩
            go_wp2_with fail
            go_roundw
            case rel => exact ⟨j + 1, by go_num, Hlt.out, by rw [useL_no Hls.out Hq.out]; exact Ow.out, Bp.out⟩
            case measure => simp [intOf]; have := Hlt.out; omega
          · go_wp2_with fail
            refine HM.out.mono ?_
            rintro e w5 ⟨rfl, rfl⟩
            go_wp2_with (at_builtin; refine wpList_append_own _ rfl _ _ 51 rfl w4.heap.size 3 i0 (.int .i64 0) 1 8 Try.underlying51 hi hz0 hz1 hz2 rfl (by decide) _ _ _ rfl (Ow.out.alloc _) ⟨wr.heap.size, 0, none⟩ 1 1 [.int .i64 (j : Nat)] rfl rfl ?c1 ?c2 ?c3 ?c4 ?c5 ?_)
            case c2 => first | rfl | (intro u hu; simp at hu; subst hu; rfl)
            try any_goals first | exact cell_one_new _ _ _ | rfl
            case c3 => unfold maxLen; have := Hlen.out; omega
            case c4 => have := Hlen.out; omega
            case c5 => first | omega | (simp; omega)
            intro v' w6 hown' hgrow _
            have O6 := Lib.hid (show w6.ownsRow w4.heap.size 3 1 v' (useL ((famG (1 + m) kg).map (·.2)) q (j + 1)).length (natsV (useL ((famG (1 + m) kg).map (·.2)) q (j + 1))) by
              rw [useL_yes Hls.out Hq.out, natsV_snoc, List.length_append]
              exact hown')
            have B6 := Lib.hid ((Bp.out.alloc Bp.out.size (.cells #[.int .i64 (j : Nat)] 3)).grown hgrow (by simp; omega) (fun k hk => own_ge Ow.out hk))
            clear hown' hgrow
            go_wp2
            go_roundw
            case rel => exact ⟨j + 1, by go_num, Hlt.out, O6.out, B6.out⟩
            case measure => simp [intOf]; have := Hlt.out; omega
        · have hjn : j = f.gn := by omega
          subst hjn
          obtain ⟨wz, rfl⟩ : ∃ x, x = wr := ⟨_, rfl⟩
          have hgl : (useL ((famG (1 + m) kg).map (·.2)) q f.gn).length ≤ 1000 := Nat.le_trans (useL_len _ _ _) (by have := HOK4.out.g48; omega)
          obtain ⟨A3, d3, rfl, hN3⟩ := own_nats Ow.out rfl
          have N3 := Lib.hid hN3
          have N1 := Lib.hid (N1.out.keep Bp.out)
          have N2 := Lib.hid (N2.out.keep Bp.out)
          have HOK4 := Lib.hid (HOK4.out.keep Bp.out)
          have HCf4 := Lib.hid (HCf4.out.keep Bp.out)
          have HK4 := Lib.hid (below_on HK4.out Bp.out)
          clear hN3 Ow HOK5 Bp hsz
          have c9 := HCf4.out.at_ 9
          simp only [List.getElem?_cons_zero, List.getElem?_cons_succ] at c9
          go_wp2_with fail
          go_loopw [10, 12] (fun v i wr => ∃ j : Nat, i = .int .i64 (j : Nat) ∧ j ≤ f.vn ∧ wr.ownsRow wz.heap.size 3 1 v (useL ((famV (1 + m) kv).map (·.all)) q j).length (natsV (useL ((famV (1 + m) kv).map (·.all)) q j)) ∧ Below wz.heap.size wz wr) (fun _ i _ => f.vn - (intOf i).toNat)
          case atStart => exact ⟨0, rfl, Nat.zero_le _, World.ownsRow_nil _ _ _ _, Below.refl _ _⟩
          case round =>
            obtain ⟨j, rfl, hj, hown, hb⟩ := hrel
            have Ow := Lib.hid hown
            have Bp := Lib.hid hb
            have hsz := hb.size
            clear hown hb
            have HOK5 := Lib.hid (HOK4.out.keep Bp.out)
            have c9 := (HCf4.out.keep Bp.out).at_ 9
            simp only [List.getElem?_cons_zero, List.getElem?_cons_succ] at c9
            by_cases hlt : j < f.vn
            · have Hlt := Lib.hid hlt
              have i1 : (j : Int) < (f.vn : Int) := by omega
              obtain ⟨g, bb, oo, A', d, hr, hGA, hbw, z0, z1, z2, z3, z4, z5, hl⟩ := HOK5.out.vsL.at_ (k := j) (by rw [HOK5.out.vsl]; exact hlt)
              rw [hGA] at c9 ⊢
              obtain ⟨hn2, _⟩ := HOK5.out.vsn g (List.mem_of_getElem? hr)
              have hls : ((famV (1 + m) kv).map (·.all))[j]? = some g.all := by rw [List.getElem?_map, hr]; rfl
              obtain ⟨lr, hlr⟩ : ∃ q, g.all = q := ⟨_, rfl⟩
              rw [hlr] at z0 hn2 hl hls
              obtain ⟨ln, hln⟩ : ∃ q, lr.length = q := ⟨_, rfl⟩
              rw [hln] at z0 hn2
              clear hr hlr z1 z2 z3 z4 z5
              have HM := mentions_any A' ln d (q : Int) (lc lr) wr hl (by rw [lc_len]; exact hln) (by omega)
              rw [lc_any] at HM
              have Hln := Lib.hid hln
              have Hls := Lib.hid hls
              have Hlen := Lib.hid (Nat.le_trans (useL_len ((famV (1 + m) kv).map (·.all)) q j) hj)
              obtain ⟨b, hbq⟩ : ∃ b, (lr.any fun e => e.1 == q) = b := ⟨_, rfl⟩
              rw [hbq] at HM
              have HM := Lib.hid HM
              have Hq := Lib.hid hbq
              clear hbq hls hl hln
              cases b
              · go_wp2_with fail
                refine HM.out.mono ?_
                rintro e w5 ⟨rfl, rfl⟩
                go_wp2_with fail
                go_roundw
                case rel => exact ⟨j + 1, by go_num, Hlt.out, by rw [useL_no Hls.out Hq.out]; exact Ow.out, Bp.out⟩
                case measure => simp [intOf]; have := Hlt.out; omega
              · go_wp2_with fail
                refine HM.out.mono ?_
                rintro e w5 ⟨rfl, rfl⟩
                go_wp2_with (at_builtin; refine wpList_append_own _ rfl _ _ 51 rfl wz.heap.size 3 i0 (.int .i64 0) 1 8 Try.underlying51 hi hz0 hz1 hz2 rfl (by decide) _ _ _ rfl (Ow.out.alloc _) ⟨wr.heap.size, 0, none⟩ 1 1 [.int .i64 (j : Nat)] rfl rfl ?e1 ?e2 ?e3 ?e4 ?e5 ?_)
                case e2 => first | rfl | (intro u hu; simp at hu; subst hu; rfl)
                try any_goals first | exact cell_one_new _ _ _ | rfl
                case e3 => unfold maxLen; have := Hlen.out; omega
                case e4 => have := Hlen.out; omega
                case e5 => first | omega | (simp; omega)
                intro v' w6 hown' hgrow _
                have O6 := Lib.hid (show w6.ownsRow wz.heap.size 3 1 v' (useL ((famV (1 + m) kv).map (·.all)) q (j + 1)).length (natsV (useL ((famV (1 + m) kv).map (·.all)) q (j + 1))) by
                  rw [useL_yes Hls.out Hq.out, natsV_snoc, List.length_append]
                  exact hown')
                have B6 := Lib.hid ((Bp.out.alloc Bp.out.size (.cells #[.int .i64 (j : Nat)] 3)).grown hgrow (by simp; omega) (fun k hk => own_ge Ow.out hk))
                clear hown' hgrow
                go_wp2
                go_roundw
                case rel => exact ⟨j + 1, by go_num, Hlt.out, O6.out, B6.out⟩
                case measure => simp [intOf]; have := Hlt.out; omega
            · have hjn : j = f.vn := by omega
              subst hjn
              obtain ⟨wz2, rfl⟩ : ∃ x, x = wr := ⟨_, rfl⟩
              have hvl : (useL ((famV (1 + m) kv).map (·.all)) q f.vn).length ≤ 1000 := Nat.le_trans (useL_len _ _ _) (by have := HOK4.out.v48; omega)
              obtain ⟨A4, d4, rfl, hN4⟩ := own_nats Ow.out rfl
              have hN4 := Lib.hid hN4
              have N1 := Lib.hid (N1.out.keep Bp.out)
              have N2 := Lib.hid (N2.out.keep Bp.out)
              have N3 := Lib.hid (N3.out.keep Bp.out)
              have HE := Lib.hid (below_on HK4.out Bp.out)
              clear Ow HOK4 HOK5 HCf4 Bp
              obtain ⟨l1, hl1⟩ : ∃ l, useL ((famG (1 + m) kg).map (·.2)) q f.gn = l := ⟨_, rfl⟩
              obtain ⟨l2, hl2⟩ : ∃ l, useL ((famV (1 + m) kv).map (·.all)) q f.vn = l := ⟨_, rfl⟩
              rw [hl1] at N1 N3 hgl ⊢
              rw [hl2] at N2 hN4 hvl ⊢
              have HS1 := Lib.hid (fun W (h1 : NatL W A1 l1) (h3 : NatL W A3 l1) => sameInts_any A1 A3 l1.length l1.length d1 d3 l1 l1 W h1 h3 rfl rfl (by omega) (by omega))
              have HS2 := Lib.hid (fun W (h1 : NatL W A2 l2) (h3 : NatL W A4 l2) => sameInts_any A2 A4 l2.length l2.length d2 d4 l2 l2 W h1 h3 rfl rfl (by omega) (by omega))
              clear hl1 hl2
              go_wp2_with fail
              refine (HS1.out _ N1.out N3.out).mono ?_
              rintro e w7 ⟨he, hb⟩
              have he : e = .returned (.bool true) := he.trans (by simp)
              subst he
              have N2 := Lib.hid (N2.out.keep hb)
              have hN4 := Lib.hid (hN4.out.keep hb)
              have HE := Lib.hid (below_on HE.out hb)
              clear hb
              go_wp2_with fail
              refine (HS2.out _ N2.out hN4.out).mono ?_
              rintro e w8 ⟨he, hb⟩
              have he : e = .returned (.bool true) := he.trans (by simp)
              subst he
              have HE := Lib.hid (below_on HE.out hb)
              clear hb
              go_wp2_with fail
              go_ret
              exact ⟨rfl, HE.out⟩
    · have HU := Lib.hid (used_bad f _ _ _ _ _ x wc HOK.out (by omega))
      go_wp2_with fail
      refine HU.out.mono ?_
      rintro e w4 ⟨rfl, hb⟩
      have HCf4 := Lib.hid (HCf.out.keep hb)
      have HK4 := Lib.hid (below_on HK3.out hb)
      clear hb HU HOK HCf HK3
      have c0 := HCf4.out.at_ 0
      have c1 := HCf4.out.at_ 1
      have c2 := HCf4.out.at_ 2
      have c3 := HCf4.out.at_ 3
      have c4 := HCf4.out.at_ 4
      have c5 := HCf4.out.at_ 5
      have c6 := HCf4.out.at_ 6
      have c7 := HCf4.out.at_ 7
      have c8 := HCf4.out.at_ 8
      have c9 := HCf4.out.at_ 9
      simp only [List.getElem?_cons_zero, List.getElem?_cons_succ] at c0 c1 c2 c3 c4 c5 c6 c7 c8 c9
      by_cases h0 : x < 0
      · have e1 : decide (x < 0) = true := decide_eq_true h0
        go_wp2_with fail
        go_ret
        exact ⟨rfl, HK4.out⟩
      · have e1 : decide (x < 0) = false := decide_eq_false h0
        have e2 : decide ((f.n : Int) ≤ x) = true := decide_eq_true (by omega)
        have e3 : (f.n : Int) ≤ x := by omega
        go_wp2_with fail
        go_ret
        exact ⟨rfl, HK4.out⟩
end Go.Proofs.Ytmfmpkihmadjmaa
