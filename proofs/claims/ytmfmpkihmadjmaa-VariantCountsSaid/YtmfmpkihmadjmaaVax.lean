/- VariantCounts: the walk. -/
import Derived.Test.YtmfmpkihmadjmaaVau
namespace Go.Proofs.Ytmfmpkihmadjmaa
open Go.RowKit Go.Shelf
set_option maxRecDepth 100000 in
set_option maxHeartbeats 8000000 in
theorem first_bad (f : Fm) (os : List ByteArray) (rs : List (ByteArray × List (Nat × Bool))) (gs : List (Nat × List (Nat × Bool))) (vs : List Ov) (ds : List Dm) (A : Option Addr) (m d : Nat) (ls : List (Int × Bool)) (w : World) (h : FamOK w f os rs gs vs ds) (hl : LitL w A ls) (hm : ls.length = m) (hm2 : m ≤ 4611686018427387904) (hbad : chE f.n none ls ≠ 0) :
    Calls Try.prog 22 #[f.v, .slice A m d] w fun e w' => e = .returned (.tuple #[.slice none 0 0, .bool false, .int .i64 (chE f.n none ls)]) ∧ Below w.heap.size w w' := by
  have k1 := (Below.refl w.heap.size w).alloc (Nat.le_refl _) (.cells f.cells 40)
  have P1 := heap_new w (.cells f.cells 40)
  have s1 : (w.alloc (.cells f.cells 40)).heap.size = w.heap.size + 1 := by simp
  obtain ⟨w1, hw1⟩ : ∃ u, w.alloc (.cells f.cells 40) = u := ⟨_, rfl⟩
  have hw1' : w.alloc (.cells #[.string f.nm, .slice f.PA f.pn f.pc, .slice f.IA f.iN f.ic, .slice f.DA f.dn f.dc, .slice f.KA f.kn f.kc, .slice f.QA f.qn f.qc, .slice f.OA f.n f.oc, .slice f.RA f.rn f.rc, .slice f.GA f.gn f.gc, .slice f.VA f.vn f.vc] 40) = w1 := hw1
  rw [hw1] at k1 P1 s1
  have k2 := k1.alloc (by omega) (.cells #[.slice none 0 0] 25)
  have C2 := Cells.new w1 #[.slice none 0 0] 25
  have s2 : (w1.alloc (.cells #[.slice none 0 0] 25)).heap.size = w.heap.size + 1 + 1 := by simp [s1]
  have P2 := heap_old (o := .cells #[.slice none 0 0] 25) P1
  rw [s1] at C2
  obtain ⟨w2, hw2⟩ : ∃ u, w1.alloc (.cells #[.slice none 0 0] 25) = u := ⟨_, rfl⟩
  rw [hw2] at k2 C2 s2 P2
  have k3 := k2.alloc (by omega) (.cells #[.bool false] 4)
  have C3 := Cells.new w2 #[.bool false] 4
  have C23 := C2.keep ((Below.refl w2.heap.size w2).alloc (Nat.le_refl _) (.cells #[.bool false] 4))
  have s3 : (w2.alloc (.cells #[.bool false] 4)).heap.size = w.heap.size + 1 + 1 + 1 := by simp [s2]
  have P3 := heap_old (o := .cells #[.bool false] 4) P2
  rw [s2] at C3
  obtain ⟨w3, hw3⟩ : ∃ u, w2.alloc (.cells #[.bool false] 4) = u := ⟨_, rfl⟩
  rw [hw3] at k3 C3 s3 P3 C23
  have k4 := k3.alloc (by omega) (.cells #[.int .i64 0] 43)
  have C4 := Cells.new w3 #[.int .i64 0] 43
  have C24 := C23.keep ((Below.refl w3.heap.size w3).alloc (Nat.le_refl _) (.cells #[.int .i64 0] 43))
  have C34 := C3.keep ((Below.refl w3.heap.size w3).alloc (Nat.le_refl _) (.cells #[.int .i64 0] 43))
  have s4 : (w3.alloc (.cells #[.int .i64 0] 43)).heap.size = w.heap.size + 1 + 1 + 1 + 1 := by simp [s3]
  have P4 := heap_old (o := .cells #[.int .i64 0] 43) P3
  rw [s3] at C4
  obtain ⟨w4, hw4⟩ : ∃ u, w3.alloc (.cells #[.int .i64 0] 43) = u := ⟨_, rfl⟩
  rw [hw4] at k4 C4 s4 P4 C24 C34
  have HK := checkBoth_any f os rs gs vs ds A m d ls w4 (h.keep k4) (hl.keep k4) hm hm2
  obtain ⟨E, hE⟩ : ∃ E, chE f.n none ls = E := ⟨_, rfl⟩
  rw [hE] at HK hbad ⊢
  have t0 : (E != 0) = true := by simpa using hbad
  have HK := Lib.hid HK
  have Q4 := Cells.of_row P4
  have K4 := Lib.hid k4
  have P4 := Lib.hid P4
  have c0 := Q4.at_ 0
  have c1 := Q4.at_ 1
  have c2 := Q4.at_ 2
  have c3 := Q4.at_ 3
  have c4 := Q4.at_ 4
  have c5 := Q4.at_ 5
  have c6 := Q4.at_ 6
  have c7 := Q4.at_ 7
  have c8 := Q4.at_ 8
  have c9 := Q4.at_ 9
  simp only [List.getElem?_cons_zero, List.getElem?_cons_succ] at c0 c1 c2 c3 c4 c5 c6 c7 c8 c9
  clear C2 C3 C23 P1 P2 P3 k1 k2 k3 k4
  have HC24 := Lib.hid C24
  have HC34 := Lib.hid C34
  have HC4 := Lib.hid C4
  clear hbad hE h hl hm
  go_enter Try.func22, Try.ntmps22
  clear hw1
  go_wp2_with fail
  refine HK.out.mono ?_
  rintro e w5 ⟨rfl, hb5⟩
  have D2 := HC24.out.keep hb5
  have D3 := HC34.out.keep hb5
  have D4 := HC4.out.keep hb5
  have B5 := K4.out.trans (hb5.mono K4.out.size)
  have e2 := D2.at_ 0
  have e3 := D3.at_ 0
  have e4 := D4.at_ 0
  simp only [List.getElem?_cons_zero] at e2 e3 e4
  have f2 := D2.fz 0
  have f3 := D3.fz 0
  have f4 := D4.fz 0
  have b1 : w.heap.size + 1 ≠ w.heap.size + 1 + 1 := by omega
  have b2 : w.heap.size + 1 ≠ w.heap.size + 1 + 1 + 1 := by omega
  have b3 : w.heap.size + 1 + 1 ≠ w.heap.size + 1 + 1 + 1 := by omega
  have r2 := (c_other (v := .int .i64 E) (i := 0) (j := 0) b2).trans ((c_other (v := .bool false) (i := 0) (j := 0) b1).trans (c_same (v := .slice none 0 0) e2))
  have r3 := (c_other (v := .int .i64 E) (i := 0) (j := 0) b3).trans (c_same (v := .bool false) ((c_other (v := .slice none 0 0) (i := 0) (j := 0) (Ne.symm b1)).trans e3))
  have r4 := c_same (v := .int .i64 E) ((c_other (v := .bool false) (i := 0) (j := 0) (Ne.symm b3)).trans ((c_other (v := .slice none 0 0) (i := 0) (j := 0) (Ne.symm b2)).trans e4))
  have BF := Lib.hid (((B5.setCell (p := ⟨w.heap.size + 1, 0, none⟩) (by simp) (.slice none 0 0)).setCell (p := ⟨w.heap.size + 1 + 1, 0, none⟩) (by simp; omega) (.bool false)).setCell (p := ⟨w.heap.size + 1 + 1 + 1, 0, none⟩) (by simp; omega) (.int .i64 E))
  clear hb5 B5 D2 D3 D4 hw1' hw2 hw3 hw4 c0 c1 c2 c3 c4 c5 c6 c7 c8 c9 HC24 HC34 HC4 K4 HK C24 C34 C4 Q4 P4
  go_wp2_with fail
  refine bodyPost_ret (v := .tuple #[.slice none 0 0, .bool false, .int .i64 E]) (by simp [results, Try.f22, go_sem, r2, r3, r4]) rfl ?_
  exact ⟨rfl, BF.out⟩
set_option maxRecDepth 100000 in
set_option maxHeartbeats 16000000 in
theorem counts_any (o m : Nat) (ho : o < 256) (hm : o % 6 = m) (RA GA VA : Option Addr) (rn rc gn gc vn vc : Nat) (kr kg kv : List (List Int)) (cA : Option Addr) (cn cc : Nat) (ls : List (Int × Bool)) (w : World) (hkr : I8LL w RA kr) (hkg : I8LL w GA kg) (hkv : I8LL w VA kv) (lr : kr.length = rn) (lg : kg.length = gn) (lv : kv.length = vn) (h8r : ∀ l ∈ kr, ∀ k ∈ l, -128 ≤ k ∧ k < 128) (h8g : ∀ l ∈ kg, ∀ k ∈ l, -128 ≤ k ∧ k < 128) (h8v : ∀ l ∈ kv, ∀ k ∈ l, -128 ≤ k ∧ k < 128) (hcl : ls.length = cn) (hch : LitL w cA ls) :
    Calls Try.prog 4 #[.agg #[.int .u8 (o : Nat), .slice RA rn rc, .slice GA gn gc, .slice VA vn vc], .slice cA cn cc] w fun e w' => e = .returned (.bool true) ∧ Below w.heap.size w w' := by
  have HFam := Lib.hid (fun (I J : Option Addr) (ic : Nat) (W : World) (hb : Below w.heap.size w W) (hD : DimL W J plainD) => family_any o m ho hm RA GA VA I J rn rc gn gc vn vc ic kr kg kv W (hkr.keep hb) (hkg.keep hb) (hkv.keep hb) lr lg lv h8r h8g h8v hD)
  clear hkr hkg hkv lr lg lv h8r h8g h8v
  have k1 := (Below.refl w.heap.size w).alloc (Nat.le_refl _) (.cells #[.int .u8 (o : Nat), .slice RA rn rc, .slice GA gn gc, .slice VA vn vc] 24)
  have C1 := Cells.new w #[.int .u8 (o : Nat), .slice RA rn rc, .slice GA gn gc, .slice VA vn vc] 24
  obtain ⟨w1, hw1⟩ : ∃ u, w.alloc (.cells #[.int .u8 (o : Nat), .slice RA rn rc, .slice GA gn gc, .slice VA vn vc] 24) = u := ⟨_, rfl⟩
  rw [hw1] at k1 C1
  have HC1 := Lib.hid C1
  have HK1 := Lib.hid k1
  clear C1 k1
  go_enter Try.func4, Try.ntmps4
  go_wp2_with fail
  refine (known_true w1).mono ?_
  rintro e w2 ⟨rfl, hb⟩
  clear hw1
  have HC2 := Lib.hid (HC1.out.keep hb)
  have HK2 := Lib.hid (below_on HK1.out hb)
  clear hb HC1
  by_cases h6 : 6 < cn
  · have i0 : (6 : Int) < (cn : Int) := by omega
    go_wp2_with fail
    refine (known_true w2).mono ?_
    rintro e w3 ⟨rfl, hb⟩
    have HE := Lib.hid (below_on HK2.out hb)
    clear hb
    go_wp2_with fail
    go_ret
    exact ⟨rfl, HE.out⟩
  have i0 : ¬ ((6 : Int) < (cn : Int)) := by omega
  have hc6 : cn ≤ 6 := by omega
  go_upto_region 3 with fail
  go_cut [5] (fun s wx => Started w2 m kr kg kv s wx)
  case first =>
    have HS := Lib.hid (fun w' (hb : Below w2.heap.size w2 w') => (show w'.cell? ⟨w.heap.size, 0, none⟩ = some (.int .u8 (o : Nat)) ∧ w'.cell? ⟨w.heap.size, 1, none⟩ = some (.slice RA rn rc) ∧ w'.cell? ⟨w.heap.size, 2, none⟩ = some (.slice GA gn gc) ∧ w'.cell? ⟨w.heap.size, 3, none⟩ = some (.slice VA vn vc) from ⟨(HC2.out.keep hb).at_ 0, (HC2.out.keep hb).at_ 1, (HC2.out.keep hb).at_ 2, (HC2.out.keep hb).at_ 3⟩))
    refine Till.begin 4 (fun w' => w'.cell? ⟨w.heap.size, 0, none⟩ = some (.int .u8 (o : Nat)) ∧ w'.cell? ⟨w.heap.size, 1, none⟩ = some (.slice RA rn rc) ∧ w'.cell? ⟨w.heap.size, 2, none⟩ = some (.slice GA gn gc) ∧ w'.cell? ⟨w.heap.size, 3, none⟩ = some (.slice VA vn vc)) (by kernel_rfl) (HS.out _ (Below.refl _ _).drew) (fun hH => ?_)
    clear hH
    have HB0 := Lib.hid (Below.refl w2.heap.size w2).drew
    generalize w2.drew = V0 at HB0 ⊢
    try simp only [List.setIfInBounds_toArray, List.set_cons_zero, List.set_cons_succ]
    refine Till.tL 0 [2, 4] 21 (.agg #[.int .u8 (o : Nat), .slice RA rn rc, .slice GA gn gc, .slice VA vn vc]) (HS.out _ HB0.out) ?_
    try simp only [Act.put, List.setIfInBounds_toArray, List.set_cons_zero, List.set_cons_succ]
    refine Till.two (i := 1) (j := 3) (by kernel_rfl) rfl rfl ?_ ?_
    · intro K hK
      go_simp
      refine (plain_any V0).mono ?_
      rintro e V1 ⟨I, ic, J, rfl, _, hJ, hJb, hb⟩
      have HB1 := Lib.hid (below_on HB0.out hb)
      have HJ := Lib.hid hJ
      have HJb := Lib.hid hJb
      have HPs := Lib.hid hb.size
      refine hK.out _ _ (fun _ => HS.out _ HB1.out) ?_
      clear hK K hJ hJb
      try simp only [List.setIfInBounds_toArray, List.set_cons_zero, List.set_cons_succ]
      refine Till.two (i := 2) (j := 3) (by kernel_rfl) rfl rfl ?_ ?_
      · intro K hK
        go_simp
        refine (HFam.out I J ic V1 (below_on HK2.out HB1.out) HJ.out).mono ?_
        rintro e V2 ⟨OA, oc, rA, rC, gA, gC, vA, vC, he, hOK, _, hMem, hb⟩
        obtain ⟨f, hf⟩ : ∃ f, (famF I ic J OA rA gA vA (1 + m) oc (famR (1 + m) kr).length rC (famG (1 + m) kg).length gC (famV (1 + m) kv).length vC) = f := ⟨_, rfl⟩
        rw [hf] at he hOK hMem
        have hfn : f.n = 1 + m := by rw [← hf]; rfl
        have hfJ : f.DA = J := by rw [← hf]; rfl
        have HFn := Lib.hid hfn
        have HfJ := Lib.hid hfJ
        clear hf hfn hfJ
        subst he
        have HB2 := Lib.hid (below_on HB1.out hb)
        have HOK := Lib.hid hOK
        have HMem := Lib.hid hMem
        have HFb := Lib.hid hb
        refine hK.out _ _ (fun _ => HS.out _ HB2.out) ?_
        clear hK K hOK hMem hb
        try simp only [List.setIfInBounds_toArray, List.set_cons_zero, List.set_cons_succ]
        refine Till.one (i := 3) (by kernel_rfl) rfl (fun K hK => ?_)
        go_simp
        have kx := (Below.refl V2.heap.size V2).alloc (Nat.le_refl _) (.cells #[.string { data := #[] }, .slice none 0 0, .slice none 0 0, .slice none 0 0, .slice none 0 0, .slice none 0 0, .slice none 0 0, .slice none 0 0, .slice none 0 0, .slice none 0 0] 40)
        have RZ := heap_new V2 (.cells #[.string { data := #[] }, .slice none 0 0, .slice none 0 0, .slice none 0 0, .slice none 0 0, .slice none 0 0, .slice none 0 0, .slice none 0 0, .slice none 0 0, .slice none 0 0] 40)
        obtain ⟨V3, hV⟩ : ∃ u, V2.alloc (.cells #[.string { data := #[] }, .slice none 0 0, .slice none 0 0, .slice none 0 0, .slice none 0 0, .slice none 0 0, .slice none 0 0, .slice none 0 0, .slice none 0 0, .slice none 0 0] 40) = u := ⟨_, rfl⟩
        have hsz : V2.heap.size < V3.heap.size := by rw [← hV]; simp
        rw [hV] at kx RZ ⊢
        obtain ⟨p, hp⟩ : ∃ p, V2.heap.size = p := ⟨_, rfl⟩
        have HB3 := Lib.hid (below_on HB2.out kx)
        have KX := Lib.hid kx
        have HP := Lib.hid hp
        have HPz := Lib.hid (show p < V3.heap.size by omega)
        rw [hp] at RZ ⊢
        have RZ := Lib.hid RZ
        refine hK.out _ _ (fun _ => HS.out _ HB3.out) ?_
        clear hK K hV kx hp hsz
        try simp only [List.setIfInBounds_toArray, List.set_cons_zero, List.set_cons_succ]
        have RF := row_setCells p 40 [.string f.nm, .slice f.PA f.pn f.pc, .slice f.IA f.iN f.ic, .slice f.DA f.dn f.dc, .slice f.KA f.kn f.kc, .slice f.QA f.qn f.qc, .slice f.OA f.n f.oc, .slice f.RA f.rn f.rc, .slice f.GA f.gn f.gc, .slice f.VA f.vn f.vc] 0 V3 _ RZ.out
        have G0 := grown_cells p [.string f.nm, .slice f.PA f.pn f.pc, .slice f.IA f.iN f.ic, .slice f.DA f.dn f.dc, .slice f.KA f.kn f.kc, .slice f.QA f.qn f.qc, .slice f.OA f.n f.oc, .slice f.RA f.rn f.rc, .slice f.GA f.gn f.gc, .slice f.VA f.vn f.vc] 0 V3
        obtain ⟨WF, hWF⟩ : ∃ u, V3.setCells p 0 [.string f.nm, .slice f.PA f.pn f.pc, .slice f.IA f.iN f.ic, .slice f.DA f.dn f.dc, .slice f.KA f.kn f.kc, .slice f.QA f.qn f.qc, .slice f.OA f.n f.oc, .slice f.RA f.rn f.rc, .slice f.GA f.gn f.gc, .slice f.VA f.vn f.vc] = u := ⟨_, rfl⟩
        rw [hWF] at RF G0
        have CR := Cells.of_row RZ.out
        have p0 := CR.at_ 0
        have p1 := CR.at_ 1
        have p2 := CR.at_ 2
        have p3 := CR.at_ 3
        have p4 := CR.at_ 4
        have p5 := CR.at_ 5
        have p6 := CR.at_ 6
        have p7 := CR.at_ 7
        have p8 := CR.at_ 8
        have p9 := CR.at_ 9
        simp only [List.getElem?_cons_zero, List.getElem?_cons_succ] at p0 p1 p2 p3 p4 p5 p6 p7 p8 p9
        have f0 := CR.fz 0
        have f1 := CR.fz 1
        have f2 := CR.fz 2
        have f3 := CR.fz 3
        have f4 := CR.fz 4
        have f5 := CR.fz 5
        have f6 := CR.fz 6
        have f7 := CR.fz 7
        have f8 := CR.fz 8
        have f9 := CR.fz 9
        have kF : Below V2.heap.size V2 WF := KX.out.grown G0 KX.out.size (fun k e => by injection e with e; have := HP.out; omega)
        have hOKF := Lib.hid (HOK.out.keep kF)
        have RF : WF.heap[p]? = some (.cells #[.string f.nm, .slice f.PA f.pn f.pc, .slice f.IA f.iN f.ic, .slice f.DA f.dn f.dc, .slice f.KA f.kn f.kc, .slice f.QA f.qn f.qc, .slice f.OA f.n f.oc, .slice f.RA f.rn f.rc, .slice f.GA f.gn f.gc, .slice f.VA f.vn f.vc] 40 (0, 0)) := by
          rwa [put10] at RF
        have HCF := Lib.hid (Cells.of_row RF)
        have hpW : w2.heap.size ≤ p := by have := HP.out; have := HB2.out.size; omega
        have BF := Lib.hid (HB3.out.grown G0 HB3.out.size (fun k e => by injection e with e; omega))
        simp only [World.setCells, Nat.reduceAdd] at hWF
        have HWF := Lib.hid hWF
        have HpW := Lib.hid hpW
        clear hWF CR RF G0 hpW
        refine Till.one (i := 4) (by kernel_rfl) rfl (fun K hK => ?_)
        go_simp
        rw [HWF.out]
        refine hK.out _ _ (fun h => absurd h (by simp)) ?_
        clear hK K p0 f0 p1 f1 p2 f2 p3 f3 p4 f4 p5 f5 p6 f6 p7 f7 p8 f8 p9 f9
        try simp only [List.setIfInBounds_toArray, List.set_cons_zero, List.set_cons_succ]
        refine Till.done (by kernel_rfl) ?_ _
        go_wp2_with fail
        go_meet
        exact ⟨p, f, rfl, HpW.out, HCF.out, HFn.out, hOKF.out, BF.out⟩
      · intro K hK
        go_simp
        have kx := (Below.refl V1.heap.size V1).alloc (Nat.le_refl _) (.cells #[.string { data := #[] }, .slice none 0 0, .slice none 0 0, .slice none 0 0, .slice none 0 0, .slice none 0 0, .slice none 0 0, .slice none 0 0, .slice none 0 0, .slice none 0 0] 40)
        have RZ := heap_new V1 (.cells #[.string { data := #[] }, .slice none 0 0, .slice none 0 0, .slice none 0 0, .slice none 0 0, .slice none 0 0, .slice none 0 0, .slice none 0 0, .slice none 0 0, .slice none 0 0] 40)
        obtain ⟨V2, hV⟩ : ∃ u, V1.alloc (.cells #[.string { data := #[] }, .slice none 0 0, .slice none 0 0, .slice none 0 0, .slice none 0 0, .slice none 0 0, .slice none 0 0, .slice none 0 0, .slice none 0 0, .slice none 0 0] 40) = u := ⟨_, rfl⟩
        have hsz : V1.heap.size < V2.heap.size := by rw [← hV]; simp
        rw [hV] at kx RZ ⊢
        obtain ⟨p, hp⟩ : ∃ p, V1.heap.size = p := ⟨_, rfl⟩
        have HB2 := Lib.hid (below_on HB1.out kx)
        have KX := Lib.hid kx
        have HP := Lib.hid hp
        have HPz := Lib.hid (show p < V2.heap.size by omega)
        rw [hp] at RZ ⊢
        have RZ := Lib.hid RZ
        refine hK.out _ _ (fun _ => HS.out _ HB2.out) ?_
        clear hK K hV kx hp hsz
        try simp only [List.setIfInBounds_toArray, List.set_cons_zero, List.set_cons_succ]
        have HJ2 := Lib.hid (HJ.out.keep KX.out)
        refine Till.one (i := 2) (by kernel_rfl) rfl (fun K hK => ?_)
        go_simp
        refine (HFam.out I J ic V2 (below_on HK2.out HB2.out) HJ2.out).mono ?_
        rintro e V3 ⟨OA, oc, rA, rC, gA, gC, vA, vC, he, hOK, _, hMem, hb⟩
        obtain ⟨f, hf⟩ : ∃ f, (famF I ic J OA rA gA vA (1 + m) oc (famR (1 + m) kr).length rC (famG (1 + m) kg).length gC (famV (1 + m) kv).length vC) = f := ⟨_, rfl⟩
        rw [hf] at he hOK hMem
        have hfn : f.n = 1 + m := by rw [← hf]; rfl
        have hfJ : f.DA = J := by rw [← hf]; rfl
        have HFn := Lib.hid hfn
        have HfJ := Lib.hid hfJ
        clear hf hfn hfJ
        subst he
        have HB3 := Lib.hid (below_on HB2.out hb)
        have HOK := Lib.hid hOK
        have HMem := Lib.hid hMem
        have HFb := Lib.hid hb
        refine hK.out _ _ (fun _ => HS.out _ HB3.out) ?_
        clear hK K hOK hMem hb
        try simp only [List.setIfInBounds_toArray, List.set_cons_zero, List.set_cons_succ]
        have RZ := Lib.hid (row_keep RZ.out HFb.out)
        have RF := row_setCells p 40 [.string f.nm, .slice f.PA f.pn f.pc, .slice f.IA f.iN f.ic, .slice f.DA f.dn f.dc, .slice f.KA f.kn f.kc, .slice f.QA f.qn f.qc, .slice f.OA f.n f.oc, .slice f.RA f.rn f.rc, .slice f.GA f.gn f.gc, .slice f.VA f.vn f.vc] 0 V3 _ RZ.out
        have G0 := grown_cells p [.string f.nm, .slice f.PA f.pn f.pc, .slice f.IA f.iN f.ic, .slice f.DA f.dn f.dc, .slice f.KA f.kn f.kc, .slice f.QA f.qn f.qc, .slice f.OA f.n f.oc, .slice f.RA f.rn f.rc, .slice f.GA f.gn f.gc, .slice f.VA f.vn f.vc] 0 V3
        obtain ⟨WF, hWF⟩ : ∃ u, V3.setCells p 0 [.string f.nm, .slice f.PA f.pn f.pc, .slice f.IA f.iN f.ic, .slice f.DA f.dn f.dc, .slice f.KA f.kn f.kc, .slice f.QA f.qn f.qc, .slice f.OA f.n f.oc, .slice f.RA f.rn f.rc, .slice f.GA f.gn f.gc, .slice f.VA f.vn f.vc] = u := ⟨_, rfl⟩
        rw [hWF] at RF G0
        have CR := Cells.of_row RZ.out
        have p0 := CR.at_ 0
        have p1 := CR.at_ 1
        have p2 := CR.at_ 2
        have p3 := CR.at_ 3
        have p4 := CR.at_ 4
        have p5 := CR.at_ 5
        have p6 := CR.at_ 6
        have p7 := CR.at_ 7
        have p8 := CR.at_ 8
        have p9 := CR.at_ 9
        simp only [List.getElem?_cons_zero, List.getElem?_cons_succ] at p0 p1 p2 p3 p4 p5 p6 p7 p8 p9
        have f0 := CR.fz 0
        have f1 := CR.fz 1
        have f2 := CR.fz 2
        have f3 := CR.fz 3
        have f4 := CR.fz 4
        have f5 := CR.fz 5
        have f6 := CR.fz 6
        have f7 := CR.fz 7
        have f8 := CR.fz 8
        have f9 := CR.fz 9
        have hOKF := Lib.hid (HOK.out.other HMem.out G0 HPz.out (fun b o t e => by have := (HJb.out b o t (HfJ.out.symm.trans e)).2; have := HP.out; omega))
        have RF : WF.heap[p]? = some (.cells #[.string f.nm, .slice f.PA f.pn f.pc, .slice f.IA f.iN f.ic, .slice f.DA f.dn f.dc, .slice f.KA f.kn f.kc, .slice f.QA f.qn f.qc, .slice f.OA f.n f.oc, .slice f.RA f.rn f.rc, .slice f.GA f.gn f.gc, .slice f.VA f.vn f.vc] 40 (0, 0)) := by
          rwa [put10] at RF
        have HCF := Lib.hid (Cells.of_row RF)
        have hpW : w2.heap.size ≤ p := by have := HP.out; have := HB1.out.size; omega
        have BF := Lib.hid (HB3.out.grown G0 HB3.out.size (fun k e => by injection e with e; omega))
        simp only [World.setCells, Nat.reduceAdd] at hWF
        have HWF := Lib.hid hWF
        have HpW := Lib.hid hpW
        clear hWF CR RF G0 hpW
        refine Till.one (i := 4) (by kernel_rfl) rfl (fun K hK => ?_)
        go_simp
        rw [HWF.out]
        refine hK.out _ _ (fun h => absurd h (by simp)) ?_
        clear hK K p0 f0 p1 f1 p2 f2 p3 f3 p4 f4 p5 f5 p6 f6 p7 f7 p8 f8 p9 f9
        try simp only [List.setIfInBounds_toArray, List.set_cons_zero, List.set_cons_succ]
        refine Till.done (by kernel_rfl) ?_ _
        go_wp2_with fail
        go_meet
        exact ⟨p, f, rfl, HpW.out, HCF.out, HFn.out, hOKF.out, BF.out⟩
    · intro K hK
      go_simp
      have kx := (Below.refl V0.heap.size V0).alloc (Nat.le_refl _) (.cells #[.string { data := #[] }, .slice none 0 0, .slice none 0 0, .slice none 0 0, .slice none 0 0, .slice none 0 0, .slice none 0 0, .slice none 0 0, .slice none 0 0, .slice none 0 0] 40)
      have RZ := heap_new V0 (.cells #[.string { data := #[] }, .slice none 0 0, .slice none 0 0, .slice none 0 0, .slice none 0 0, .slice none 0 0, .slice none 0 0, .slice none 0 0, .slice none 0 0, .slice none 0 0] 40)
      obtain ⟨V1, hV⟩ : ∃ u, V0.alloc (.cells #[.string { data := #[] }, .slice none 0 0, .slice none 0 0, .slice none 0 0, .slice none 0 0, .slice none 0 0, .slice none 0 0, .slice none 0 0, .slice none 0 0, .slice none 0 0] 40) = u := ⟨_, rfl⟩
      have hsz : V0.heap.size < V1.heap.size := by rw [← hV]; simp
      rw [hV] at kx RZ ⊢
      obtain ⟨p, hp⟩ : ∃ p, V0.heap.size = p := ⟨_, rfl⟩
      have HB1 := Lib.hid (below_on HB0.out kx)
      have KX := Lib.hid kx
      have HP := Lib.hid hp
      have HPz := Lib.hid (show p < V1.heap.size by omega)
      rw [hp] at RZ ⊢
      have RZ := Lib.hid RZ
      refine hK.out _ _ (fun _ => HS.out _ HB1.out) ?_
      clear hK K hV kx hp hsz
      try simp only [List.setIfInBounds_toArray, List.set_cons_zero, List.set_cons_succ]
      refine Till.one (i := 1) (by kernel_rfl) rfl (fun K hK => ?_)
      go_simp
      refine (plain_any V1).mono ?_
      rintro e V2 ⟨I, ic, J, rfl, _, hJ, hJb, hb⟩
      have HB2 := Lib.hid (below_on HB1.out hb)
      have HJ := Lib.hid hJ
      have HJb := Lib.hid hJb
      have HPs := Lib.hid hb.size
      refine hK.out _ _ (fun _ => HS.out _ HB2.out) ?_
      clear hK K hJ hJb
      try simp only [List.setIfInBounds_toArray, List.set_cons_zero, List.set_cons_succ]
      have RZ := Lib.hid (row_keep RZ.out hb)
      have HPz2 := Lib.hid (Nat.lt_of_lt_of_le HPz.out HPs.out)
      clear hb
      refine Till.one (i := 2) (by kernel_rfl) rfl (fun K hK => ?_)
      go_simp
      refine (HFam.out I J ic V2 (below_on HK2.out HB2.out) HJ.out).mono ?_
      rintro e V3 ⟨OA, oc, rA, rC, gA, gC, vA, vC, he, hOK, _, hMem, hb⟩
      obtain ⟨f, hf⟩ : ∃ f, (famF I ic J OA rA gA vA (1 + m) oc (famR (1 + m) kr).length rC (famG (1 + m) kg).length gC (famV (1 + m) kv).length vC) = f := ⟨_, rfl⟩
      rw [hf] at he hOK hMem
      have hfn : f.n = 1 + m := by rw [← hf]; rfl
      have hfJ : f.DA = J := by rw [← hf]; rfl
      have HFn := Lib.hid hfn
      have HfJ := Lib.hid hfJ
      clear hf hfn hfJ
      subst he
      have HB3 := Lib.hid (below_on HB2.out hb)
      have HOK := Lib.hid hOK
      have HMem := Lib.hid hMem
      have HFb := Lib.hid hb
      refine hK.out _ _ (fun _ => HS.out _ HB3.out) ?_
      clear hK K hOK hMem hb
      try simp only [List.setIfInBounds_toArray, List.set_cons_zero, List.set_cons_succ]
      have RZ := Lib.hid (row_keep RZ.out HFb.out)
      have RF := row_setCells p 40 [.string f.nm, .slice f.PA f.pn f.pc, .slice f.IA f.iN f.ic, .slice f.DA f.dn f.dc, .slice f.KA f.kn f.kc, .slice f.QA f.qn f.qc, .slice f.OA f.n f.oc, .slice f.RA f.rn f.rc, .slice f.GA f.gn f.gc, .slice f.VA f.vn f.vc] 0 V3 _ RZ.out
      have G0 := grown_cells p [.string f.nm, .slice f.PA f.pn f.pc, .slice f.IA f.iN f.ic, .slice f.DA f.dn f.dc, .slice f.KA f.kn f.kc, .slice f.QA f.qn f.qc, .slice f.OA f.n f.oc, .slice f.RA f.rn f.rc, .slice f.GA f.gn f.gc, .slice f.VA f.vn f.vc] 0 V3
      obtain ⟨WF, hWF⟩ : ∃ u, V3.setCells p 0 [.string f.nm, .slice f.PA f.pn f.pc, .slice f.IA f.iN f.ic, .slice f.DA f.dn f.dc, .slice f.KA f.kn f.kc, .slice f.QA f.qn f.qc, .slice f.OA f.n f.oc, .slice f.RA f.rn f.rc, .slice f.GA f.gn f.gc, .slice f.VA f.vn f.vc] = u := ⟨_, rfl⟩
      rw [hWF] at RF G0
      have CR := Cells.of_row RZ.out
      have p0 := CR.at_ 0
      have p1 := CR.at_ 1
      have p2 := CR.at_ 2
      have p3 := CR.at_ 3
      have p4 := CR.at_ 4
      have p5 := CR.at_ 5
      have p6 := CR.at_ 6
      have p7 := CR.at_ 7
      have p8 := CR.at_ 8
      have p9 := CR.at_ 9
      simp only [List.getElem?_cons_zero, List.getElem?_cons_succ] at p0 p1 p2 p3 p4 p5 p6 p7 p8 p9
      have f0 := CR.fz 0
      have f1 := CR.fz 1
      have f2 := CR.fz 2
      have f3 := CR.fz 3
      have f4 := CR.fz 4
      have f5 := CR.fz 5
      have f6 := CR.fz 6
      have f7 := CR.fz 7
      have f8 := CR.fz 8
      have f9 := CR.fz 9
      have hOKF := Lib.hid (HOK.out.other HMem.out G0 HPz2.out (fun b o t e => by have := (HJb.out b o t (HfJ.out.symm.trans e)).1; have := HPz.out; omega))
      have RF : WF.heap[p]? = some (.cells #[.string f.nm, .slice f.PA f.pn f.pc, .slice f.IA f.iN f.ic, .slice f.DA f.dn f.dc, .slice f.KA f.kn f.kc, .slice f.QA f.qn f.qc, .slice f.OA f.n f.oc, .slice f.RA f.rn f.rc, .slice f.GA f.gn f.gc, .slice f.VA f.vn f.vc] 40 (0, 0)) := by
        rwa [put10] at RF
      have HCF := Lib.hid (Cells.of_row RF)
      have hpW : w2.heap.size ≤ p := by have := HP.out; have := HB0.out.size; omega
      have BF := Lib.hid (HB3.out.grown G0 HB3.out.size (fun k e => by injection e with e; omega))
      simp only [World.setCells, Nat.reduceAdd] at hWF
      have HWF := Lib.hid hWF
      have HpW := Lib.hid hpW
      clear hWF CR RF G0 hpW
      refine Till.one (i := 4) (by kernel_rfl) rfl (fun K hK => ?_)
      go_simp
      rw [HWF.out]
      refine hK.out _ _ (fun h => absurd h (by simp)) ?_
      clear hK K p0 f0 p1 f1 p2 f2 p3 f3 p4 f4 p5 f5 p6 f6 p7 f7 p8 f8 p9 f9
      try simp only [List.setIfInBounds_toArray, List.set_cons_zero, List.set_cons_succ]
      refine Till.done (by kernel_rfl) ?_ _
      go_wp2_with fail
      go_meet
      exact ⟨p, f, rfl, HpW.out, HCF.out, HFn.out, hOKF.out, BF.out⟩
  case rest =>
    obtain ⟨pf, f, rfl, hpf, hCf, hfn, hOK, hbf⟩ := hcut
    have hn6 : f.n ≤ 6 := by omega
    have hn0 : 0 < f.n := by omega
    have HOK := Lib.hid hOK
    have HCf := Lib.hid hCf
    have HK3 := Lib.hid (below_on HK2.out hbf)
    have hr48 := hOK.r48
    have HFn := Lib.hid hfn
    have HHO := Lib.hid (show (famO (1 + m)) = famO f.n by rw [hfn])
    have HHR := Lib.hid (show (famR (1 + m) kr) = famR f.n kr by rw [hfn])
    clear hOK hCf hbf hpf HC2 HK2 HFam hfn 
    obtain ⟨os, hos⟩ : ∃ x, famO (1 + m) = x := ⟨_, rfl⟩
    obtain ⟨rs, hrs⟩ : ∃ x, famR (1 + m) kr = x := ⟨_, rfl⟩
    obtain ⟨gs, hgs⟩ : ∃ x, famG (1 + m) kg = x := ⟨_, rfl⟩
    obtain ⟨vs, hvs⟩ : ∃ x, famV (1 + m) kv = x := ⟨_, rfl⟩
    rw [hos, hrs, hgs, hvs] at HOK
    have hRL : ∀ r ∈ rs, LowN f.n r.2 := by rw [← hrs, HHR.out]; exact famR_low kr
    have hRL6 : ∀ r ∈ rs, (∀ l ∈ r.2, l.1 < 6) ∧ r.2.length ≤ 1000 := by rw [← hrs, HHR.out]; exact famR_low6 hn6 kr
    have HRL := Lib.hid hRL
    have HRL6 := Lib.hid hRL6
    clear hos hrs hgs hvs HHO HHR hRL hRL6
    have c0 := HCf.out.at_ 0
    have c1 := HCf.out.at_ 1
    have c2 := HCf.out.at_ 2
    have c3 := HCf.out.at_ 3
    have c4 := HCf.out.at_ 4
    have c5 := HCf.out.at_ 5
    have c6 := HCf.out.at_ 6
    have c7 := HCf.out.at_ 7
    have c8 := HCf.out.at_ 8
    have c9 := HCf.out.at_ 9
    simp only [List.getElem?_cons_zero, List.getElem?_cons_succ] at c0 c1 c2 c3 c4 c5 c6 c7 c8 c9
    have HCh := Lib.hid (fun W (hb : Below w.heap.size w W) => hch.keep hb)
    have HCl := Lib.hid hcl
    clear hch hcl
    go_wp2_with fail
    refine (literalsR_any f.n cA cn cc ls _ (HCh.out _ HK3.out) HCl.out (by omega) (by omega)).mono ?_
    rintro e w3 ⟨rfl, hb⟩
    have HOK := Lib.hid (HOK.out.keep hb)
    have HCf := Lib.hid (HCf.out.keep hb)
    have HK4 := Lib.hid (below_on HK3.out hb)
    clear hb HK3
    have c0 := HCf.out.at_ 0
    have c1 := HCf.out.at_ 1
    have c2 := HCf.out.at_ 2
    have c3 := HCf.out.at_ 3
    have c4 := HCf.out.at_ 4
    have c5 := HCf.out.at_ 5
    have c6 := HCf.out.at_ 6
    have c7 := HCf.out.at_ 7
    have c8 := HCf.out.at_ 8
    have c9 := HCf.out.at_ 9
    simp only [List.getElem?_cons_zero, List.getElem?_cons_succ] at c0 c1 c2 c3 c4 c5 c6 c7 c8 c9
    by_cases hE : chE f.n none ls = 0
    · rw [hE]
      obtain ⟨ch, hchq⟩ := chE_nat hE
      rw [← hchq] at hE HCh HCl
      have hcl2 : ch.length = cn := by have := HCl.out; rwa [lc_len] at this
      have HE0 := Lib.hid hE
      have hlow : LowN f.n ch := fun l hl => chE_low hE l hl
      have HLow := Lib.hid hlow
      have HCo := Lib.hid (count_ok f os rs gs vs plainD cA cn cc ch w3 HOK.out (HCh.out _ HK4.out) hcl2 (by omega) hE)
      clear hE hchq hlow
      go_wp2_with fail
      refine HCo.out.mono ?_
      rintro e w4 ⟨rfl, hb⟩
      have HOK := Lib.hid (HOK.out.keep hb)
      have HCf := Lib.hid (HCf.out.keep hb)
      have HK5 := Lib.hid (below_on HK4.out hb)
      clear hb HCo HK4
      have c0 := HCf.out.at_ 0
      have c1 := HCf.out.at_ 1
      have c2 := HCf.out.at_ 2
      have c3 := HCf.out.at_ 3
      have c4 := HCf.out.at_ 4
      have c5 := HCf.out.at_ 5
      have c6 := HCf.out.at_ 6
      have c7 := HCf.out.at_ 7
      have c8 := HCf.out.at_ 8
      have c9 := HCf.out.at_ 9
      simp only [List.getElem?_cons_zero, List.getElem?_cons_succ] at c0 c1 c2 c3 c4 c5 c6 c7 c8 c9
      have HFi := Lib.hid (first_ok f os rs gs vs plainD cA cn cc ch w4 HOK.out (HCh.out _ HK5.out) hcl2 (by omega) HE0.out)
      go_wp2_with fail
      refine HFi.out.mono ?_
      rintro e w5 ⟨⟨A1, d1, rfl, hF1⟩, hb⟩
      have HF1 := Lib.hid hF1
      have HOK := Lib.hid (HOK.out.keep hb)
      have HCf := Lib.hid (HCf.out.keep hb)
      have HK6 := Lib.hid (below_on HK5.out hb)
      have HCl5 := Lib.hid (HCh.out _ HK6.out)
      clear hb HFi HK5 hF1
      have hal := AL_len hn6 HRL.out HLow.out
      have hft := fst_same hn6 os HRL.out HLow.out
      have HL64 := Lib.hid (@ALR_lt f.n hn6 rs (List.replicate rs.length false) ch)
      have hl64 := @ALR_short f.n hn6 rs (List.replicate rs.length false) ch
      have hie : (AL f.n rs ch).isEmpty = decide ((AL f.n rs ch).length = 0) := by cases AL f.n rs ch <;> simp
      rw [← hal] at hie
      rw [hie, ← hal]
      have HAr := Lib.hid hft
      obtain ⟨N, hN⟩ : ∃ n, (ALR f.n rs (List.replicate rs.length false) ch).length = n := ⟨_, rfl⟩
      rw [hN] at hl64 ⊢
      have HN0 := Lib.hid hN
      have hfl : (fstL f.n os rs ch).length ≤ 1000 := by
        rw [hft]
        split
        · simp
        · exact Nat.le_trans (nmU_len _ _ _) (by omega)
      clear hal hft hie hN
      have c0 := HCf.out.at_ 0
      have c1 := HCf.out.at_ 1
      have c2 := HCf.out.at_ 2
      have c3 := HCf.out.at_ 3
      have c4 := HCf.out.at_ 4
      have c5 := HCf.out.at_ 5
      have c6 := HCf.out.at_ 6
      have c7 := HCf.out.at_ 7
      have c8 := HCf.out.at_ 8
      have c9 := HCf.out.at_ 9
      simp only [List.getElem?_cons_zero, List.getElem?_cons_succ] at c0 c1 c2 c3 c4 c5 c6 c7 c8 c9
      go_upto_region 9 with fail
      have HS := Lib.hid (fun w' (hb : Below w5.heap.size w5 w') => (show w'.cell? ⟨pf, 0, none⟩ = some (.string f.nm) ∧ w'.cell? ⟨pf, 1, none⟩ = some (.slice f.PA f.pn f.pc) ∧ w'.cell? ⟨pf, 2, none⟩ = some (.slice f.IA f.iN f.ic) ∧ w'.cell? ⟨pf, 3, none⟩ = some (.slice f.DA f.dn f.dc) ∧ w'.cell? ⟨pf, 4, none⟩ = some (.slice f.KA f.kn f.kc) ∧ w'.cell? ⟨pf, 5, none⟩ = some (.slice f.QA f.qn f.qc) ∧ w'.cell? ⟨pf, 6, none⟩ = some (.slice f.OA f.n f.oc) ∧ w'.cell? ⟨pf, 7, none⟩ = some (.slice f.RA f.rn f.rc) ∧ w'.cell? ⟨pf, 8, none⟩ = some (.slice f.GA f.gn f.gc) ∧ w'.cell? ⟨pf, 9, none⟩ = some (.slice f.VA f.vn f.vc) from ⟨(HCf.out.keep hb).at_ 0, (HCf.out.keep hb).at_ 1, (HCf.out.keep hb).at_ 2, (HCf.out.keep hb).at_ 3, (HCf.out.keep hb).at_ 4, (HCf.out.keep hb).at_ 5, (HCf.out.keep hb).at_ 6, (HCf.out.keep hb).at_ 7, (HCf.out.keep hb).at_ 8, (HCf.out.keep hb).at_ 9⟩))
      refine Till.begin 4 (fun w' => w'.cell? ⟨pf, 0, none⟩ = some (.string f.nm) ∧ w'.cell? ⟨pf, 1, none⟩ = some (.slice f.PA f.pn f.pc) ∧ w'.cell? ⟨pf, 2, none⟩ = some (.slice f.IA f.iN f.ic) ∧ w'.cell? ⟨pf, 3, none⟩ = some (.slice f.DA f.dn f.dc) ∧ w'.cell? ⟨pf, 4, none⟩ = some (.slice f.KA f.kn f.kc) ∧ w'.cell? ⟨pf, 5, none⟩ = some (.slice f.QA f.qn f.qc) ∧ w'.cell? ⟨pf, 6, none⟩ = some (.slice f.OA f.n f.oc) ∧ w'.cell? ⟨pf, 7, none⟩ = some (.slice f.RA f.rn f.rc) ∧ w'.cell? ⟨pf, 8, none⟩ = some (.slice f.GA f.gn f.gc) ∧ w'.cell? ⟨pf, 9, none⟩ = some (.slice f.VA f.vn f.vc)) (by kernel_rfl) (HS.out _ (Below.refl _ _).drew) (fun hH => ?_)
      clear hH
      have HB0 := Lib.hid (Below.refl w5.heap.size w5).drew
      generalize w5.drew = V0 at HB0 ⊢
      try simp only [List.setIfInBounds_toArray, List.set_cons_zero, List.set_cons_succ]
      refine Till.tL 0 [4] 65 (.agg #[.string f.nm, .slice f.PA f.pn f.pc, .slice f.IA f.iN f.ic, .slice f.DA f.dn f.dc, .slice f.KA f.kn f.kc, .slice f.QA f.qn f.qc, .slice f.OA f.n f.oc, .slice f.RA f.rn f.rc, .slice f.GA f.gn f.gc, .slice f.VA f.vn f.vc]) (HS.out _ HB0.out) ?_
      try simp only [Act.put, List.setIfInBounds_toArray, List.set_cons_zero, List.set_cons_succ]
      refine Till.tL 1 [2, 4] 66 (.agg #[.string f.nm, .slice f.PA f.pn f.pc, .slice f.IA f.iN f.ic, .slice f.DA f.dn f.dc, .slice f.KA f.kn f.kc, .slice f.QA f.qn f.qc, .slice f.OA f.n f.oc, .slice f.RA f.rn f.rc, .slice f.GA f.gn f.gc, .slice f.VA f.vn f.vc]) (HS.out _ HB0.out) ?_
      try simp only [Act.put, List.setIfInBounds_toArray, List.set_cons_zero, List.set_cons_succ]
      refine Till.tL 3 [4] 68 (.slice cA cn cc) (HS.out _ HB0.out) ?_
      try simp only [Act.put, List.setIfInBounds_toArray, List.set_cons_zero, List.set_cons_succ]
      refine Till.one (i := 2) (by kernel_rfl) rfl (fun K hK => ?_)
      go_simp
      refine (noneN_any f os rs gs vs plainD V0 (HOK.out.keep HB0.out)).mono ?_
      rintro e V1 ⟨XA, xc, rfl, hX, hb⟩
      have HB1 := Lib.hid (below_on HB0.out hb)
      have HX := Lib.hid hX
      refine hK.out _ _ (fun _ => HS.out _ HB1.out) ?_
      clear hK K hX hb
      try simp only [List.setIfInBounds_toArray, List.set_cons_zero, List.set_cons_succ]
      refine Till.one (i := 4) (by kernel_rfl) rfl (fun K hK => ?_)
      go_simp
      refine (allowedN_any f os rs gs vs plainD XA xc cA cn cc ch V1 (HOK.out.keep HB1.out) hn0 hn6 HRL6.out HX.out (HCl5.out.keep HB1.out) hcl2 (by omega) (fun l hl => Nat.lt_of_lt_of_le (HLow.out l hl) hn6)).mono ?_
      rintro e V2 ⟨LA, LC, rfl, hN, hb⟩
      have HB2 := Lib.hid (below_on HB1.out hb)
      have HN := Lib.hid hN
      refine hK.out _ _ (fun h => absurd h (by simp)) ?_
      rw [HN0.out]
      clear hK K hN hb HX
      try simp only [List.setIfInBounds_toArray, List.set_cons_zero, List.set_cons_succ]
      refine Till.one (i := 5) (by kernel_rfl) rfl (fun K hK => ?_)
      go_simp
      refine hK.out _ _ (fun h => absurd h (by simp)) ?_
      clear hK K
      try simp only [List.setIfInBounds_toArray, List.set_cons_zero, List.set_cons_succ]
      refine Till.done (by kernel_rfl) ?_ _
      obtain ⟨wj, rfl⟩ : ∃ x, x = V2 := ⟨_, rfl⟩
      have HOK := Lib.hid (HOK.out.keep HB2.out)
      have HCf := Lib.hid (HCf.out.keep HB2.out)
      have HF1 := Lib.hid (HF1.out.keep HB2.out)
      have HK6 := Lib.hid (below_on HK6.out HB2.out)
      clear HS HB0 HB1 HB2
      have c0 := HCf.out.at_ 0
      have c1 := HCf.out.at_ 1
      have c2 := HCf.out.at_ 2
      have c3 := HCf.out.at_ 3
      have c4 := HCf.out.at_ 4
      have c5 := HCf.out.at_ 5
      have c6 := HCf.out.at_ 6
      have c7 := HCf.out.at_ 7
      have c8 := HCf.out.at_ 8
      have c9 := HCf.out.at_ 9
      simp only [List.getElem?_cons_zero, List.getElem?_cons_succ] at c0 c1 c2 c3 c4 c5 c6 c7 c8 c9
      by_cases hN0 : N = 0
      · subst hN0
        have hfe : fstL f.n os rs ch = [] := by
          have h1 := HAr.out
          rw [List.length_eq_zero_iff.1 HN0.out] at h1
          exact h1
        rw [hfe] at HF1 ⊢
        clear hfe HAr hfl
        go_wp2_with fail
        go_ret
        exact ⟨rfl, HK6.out⟩
      · obtain ⟨s0, rest, hs0⟩ : ∃ s r, ALR f.n rs (List.replicate rs.length false) ch = s :: r := by
          cases hA : ALR f.n rs (List.replicate rs.length false) ch with
          | nil => have := HN0.out; rw [hA] at this; exact absurd this.symm hN0
          | cons a b => exact ⟨a, b, rfl⟩
        have hfst : fstL f.n os rs ch = nmU os (fun i => s0.testBit i) f.n := by
          have h1 := HAr.out
          rw [hs0] at h1
          exact h1
        have hs64 : s0 < 64 := HL64.out s0 (by rw [hs0]; exact List.mem_cons_self ..)
        obtain ⟨gl, ol, rfl, hgl, hcl0⟩ := HN.out 0 s0 (by rw [hs0]; rfl)
        rw [Nat.add_zero] at hcl0
        have i1 : (0 : Int) < (N : Int) := by omega
        have i2 : ¬ ((N : Int) = 0) := by omega
        have i3 : ((N : Int) == 0) = false := by rw [beq_eq_false_iff_ne]; omega
        have i4 : 0 < N := by omega
        have i5 : decide (N = 0) = false := decide_eq_false hN0
        clear HAr HN0 hs0 HL64 HN
        go_upto_region 14 with fail
        have HS := Lib.hid (fun w' (hb : Below wj.heap.size wj w') => (show w'.cell? ⟨gl, ol, none⟩ = some (.int .i64 (s0 : Nat)) ∧ w'.cell? ⟨pf, 0, none⟩ = some (.string f.nm) ∧ w'.cell? ⟨pf, 1, none⟩ = some (.slice f.PA f.pn f.pc) ∧ w'.cell? ⟨pf, 2, none⟩ = some (.slice f.IA f.iN f.ic) ∧ w'.cell? ⟨pf, 3, none⟩ = some (.slice f.DA f.dn f.dc) ∧ w'.cell? ⟨pf, 4, none⟩ = some (.slice f.KA f.kn f.kc) ∧ w'.cell? ⟨pf, 5, none⟩ = some (.slice f.QA f.qn f.qc) ∧ w'.cell? ⟨pf, 6, none⟩ = some (.slice f.OA f.n f.oc) ∧ w'.cell? ⟨pf, 7, none⟩ = some (.slice f.RA f.rn f.rc) ∧ w'.cell? ⟨pf, 8, none⟩ = some (.slice f.GA f.gn f.gc) ∧ w'.cell? ⟨pf, 9, none⟩ = some (.slice f.VA f.vn f.vc) from ⟨(hb.cell (p := ⟨gl, ol, none⟩) hgl).trans hcl0, (HCf.out.keep hb).at_ 0, (HCf.out.keep hb).at_ 1, (HCf.out.keep hb).at_ 2, (HCf.out.keep hb).at_ 3, (HCf.out.keep hb).at_ 4, (HCf.out.keep hb).at_ 5, (HCf.out.keep hb).at_ 6, (HCf.out.keep hb).at_ 7, (HCf.out.keep hb).at_ 8, (HCf.out.keep hb).at_ 9⟩))
        refine Till.begin 6 (fun w' => w'.cell? ⟨gl, ol, none⟩ = some (.int .i64 (s0 : Nat)) ∧ w'.cell? ⟨pf, 0, none⟩ = some (.string f.nm) ∧ w'.cell? ⟨pf, 1, none⟩ = some (.slice f.PA f.pn f.pc) ∧ w'.cell? ⟨pf, 2, none⟩ = some (.slice f.IA f.iN f.ic) ∧ w'.cell? ⟨pf, 3, none⟩ = some (.slice f.DA f.dn f.dc) ∧ w'.cell? ⟨pf, 4, none⟩ = some (.slice f.KA f.kn f.kc) ∧ w'.cell? ⟨pf, 5, none⟩ = some (.slice f.QA f.qn f.qc) ∧ w'.cell? ⟨pf, 6, none⟩ = some (.slice f.OA f.n f.oc) ∧ w'.cell? ⟨pf, 7, none⟩ = some (.slice f.RA f.rn f.rc) ∧ w'.cell? ⟨pf, 8, none⟩ = some (.slice f.GA f.gn f.gc) ∧ w'.cell? ⟨pf, 9, none⟩ = some (.slice f.VA f.vn f.vc)) (by kernel_rfl) (HS.out _ (Below.refl _ _).drew) (fun hH => ?_)
        clear hH
        have HB0 := Lib.hid (Below.refl wj.heap.size wj).drew
        generalize wj.drew = V0 at HB0 ⊢
        try simp only [List.setIfInBounds_toArray, List.set_cons_zero, List.set_cons_succ]
        refine Till.tL 0 [6] 94 (.slice A1 (fstL f.n os rs ch).length d1) (HS.out _ HB0.out) ?_
        try simp only [Act.put, List.setIfInBounds_toArray, List.set_cons_zero, List.set_cons_succ]
        refine Till.tL 1 [5, 6] 95 (.agg #[.string f.nm, .slice f.PA f.pn f.pc, .slice f.IA f.iN f.ic, .slice f.DA f.dn f.dc, .slice f.KA f.kn f.kc, .slice f.QA f.qn f.qc, .slice f.OA f.n f.oc, .slice f.RA f.rn f.rc, .slice f.GA f.gn f.gc, .slice f.VA f.vn f.vc]) (HS.out _ HB0.out) ?_
        try simp only [Act.put, List.setIfInBounds_toArray, List.set_cons_zero, List.set_cons_succ]
        refine Till.tL 2 [3, 4, 5, 6] 96 (.slice (some ⟨gl, ol, none⟩) N LC) (HS.out _ HB0.out) ?_
        try simp only [Act.put, List.setIfInBounds_toArray, List.set_cons_zero, List.set_cons_succ]
        refine Till.tL 3 [4, 5, 6] 97 (.pointer (some ⟨gl, ol, none⟩)) (HS.out _ HB0.out) ?_
        try simp only [Act.put, List.setIfInBounds_toArray, List.set_cons_zero, List.set_cons_succ]
        refine Till.tL 4 [5, 6] 98 (.int .i64 (s0 : Nat)) (HS.out _ HB0.out) ?_
        try simp only [Act.put, List.setIfInBounds_toArray, List.set_cons_zero, List.set_cons_succ]
        refine Till.one (i := 5) (by kernel_rfl) rfl (fun K hK => ?_)
        go_simp
        refine (namesR_any f os s0 V0 (HOK.out.keep HB0.out).osL HOK.out.osl hn6 hs64).mono ?_
        rintro e V1 ⟨v, rfl, hown, hb⟩
        obtain ⟨A5, d5, rfl, hL5, _⟩ := own_strs hown
        have HB1 := Lib.hid (below_on HB0.out hb)
        have HL5 := Lib.hid hL5
        refine hK.out _ _ (fun _ => HS.out _ HB1.out) ?_
        clear hK K hL5 hown hb
        try simp only [List.setIfInBounds_toArray, List.set_cons_zero, List.set_cons_succ]
        refine Till.one (i := 6) (by kernel_rfl) rfl (fun K hK => ?_)
        go_simp
        have HF1 := Lib.hid (HF1.out.keep HB1.out)
        rw [hfst] at HF1
        refine (sameNames_any A1 A5 _ _ d1 d5 _ _ V1 HF1.out HL5.out (by rw [← hfst]) rfl (by rw [← hfst]; omega) (by rw [← hfst]; omega)).mono ?_
        rintro e V2 ⟨he, hb⟩
        have he : e = .returned (.bool true) := he.trans (by simp)
        subst he
        have HB2 := Lib.hid (below_on HB1.out hb)
        refine hK.out _ _ (fun h => absurd h (by simp)) ?_
        clear hK K hb
        try simp only [List.setIfInBounds_toArray, List.set_cons_zero, List.set_cons_succ]
        refine Till.one (i := 7) (by kernel_rfl) rfl (fun K hK => ?_)
        go_simp
        refine hK.out _ _ (fun h => absurd h (by simp)) ?_
        clear hK K
        try simp only [List.setIfInBounds_toArray, List.set_cons_zero, List.set_cons_succ]
        refine Till.done (by kernel_rfl) ?_ _
        have HE := Lib.hid (below_on HK6.out HB2.out)
        go_wp2_with fail
        go_ret
        exact ⟨rfl, HE.out⟩
    · have hE0 := hE
      have HCo := Lib.hid (count_bad f os rs gs vs plainD cA cn cc ls w3 HOK.out (HCh.out _ HK4.out) HCl.out (by omega) hE)
      have HFi := Lib.hid (fun W (hb : Below w3.heap.size w3 W) => first_bad f os rs gs vs plainD cA cn cc ls W (HOK.out.keep hb) (HCh.out _ (below_on HK4.out hb)) HCl.out (by omega) hE)
      obtain ⟨E, hEq⟩ : ∃ E, chE f.n none ls = E := ⟨_, rfl⟩
      rw [hEq] at HCo HFi hE0 ⊢
      have t0 : (E != 0) = true := by simpa using hE0
      have t1 : (E == E) = true := by simp
      clear hE hEq
      go_wp2_with fail
      refine HCo.out.mono ?_
      rintro e w4 ⟨rfl, hb⟩
      have HFi := Lib.hid (HFi.out w4 hb)
      have HCf := Lib.hid (HCf.out.keep hb)
      have HK5 := Lib.hid (below_on HK4.out hb)
      clear hb HCo HOK
      have c0 := HCf.out.at_ 0
      have c1 := HCf.out.at_ 1
      have c2 := HCf.out.at_ 2
      have c3 := HCf.out.at_ 3
      have c4 := HCf.out.at_ 4
      have c5 := HCf.out.at_ 5
      have c6 := HCf.out.at_ 6
      have c7 := HCf.out.at_ 7
      have c8 := HCf.out.at_ 8
      have c9 := HCf.out.at_ 9
      simp only [List.getElem?_cons_zero, List.getElem?_cons_succ] at c0 c1 c2 c3 c4 c5 c6 c7 c8 c9
      go_wp2_with fail
      refine HFi.out.mono ?_
      rintro e w5 ⟨rfl, hb⟩
      have HK6 := Lib.hid (below_on HK5.out hb)
      clear hb HFi
      go_wp2_with fail
      go_ret
      exact ⟨rfl, HK6.out⟩
end Go.Proofs.Ytmfmpkihmadjmaa
