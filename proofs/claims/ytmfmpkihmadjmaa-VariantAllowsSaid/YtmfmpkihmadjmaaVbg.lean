/- VariantAllows: the walk. -/
import Derived.Test.YtmfmpkihmadjmaaVau
import Derived.Test.YtmfmpkihmadjmaaVbf
namespace Go.Proofs.Ytmfmpkihmadjmaa
open Go.RowKit Go.Shelf
theorem allowed_ref (f : Fm) (rs : List (ByteArray × List (Nat × Bool))) (gs : List (Nat × List (Nat × Bool))) (vs : List Ov) (ds : List Dm) (A : Option Addr) (m d : Nat) (on : List ByteArray) (w : World) (h : FamOK w f (famO f.n) rs gs vs ds) (hn6 : f.n ≤ 6) (hon : StrL w A on) (hol : on.length = m) (hm : m ≤ 1000) (hsz : ∀ s ∈ on, s.size ≤ 1000) (hr : ∀ r ∈ rs, LowN f.n r.2) :
    Calls Try.prog 15 #[f.v, .slice A m d] w fun e w' => e = .returned (alwR rs (runC (fun a => 2 ^ a) (-1) 0 (on.map (idxO f.n)))) ∧ Below w.heap.size w w' := by
  rw [← alw_same hn6 hr _ (idxO_low hn6)]
  exact allowed_names f rs gs vs ds A m d on w h hn6 hon hol hm hsz
theorem nmU_short (os : List ByteArray) (p : Nat → Bool) (n : Nat) : (nmU os p n).length ≤ n := by
  unfold nmU
  rw [List.length_map]
  exact Nat.le_trans (List.length_filter_le _ _) (by simp)
theorem names_size : ∀ n, n < 7 → ∀ k, k < 2 ^ n → ∀ s ∈ nmU (famO n) (fun i => (sOf n k).testBit i) n, s.size ≤ 1000 := by decide +kernel
theorem allowed_set (f : Fm) (rs : List (ByteArray × List (Nat × Bool))) (gs : List (Nat × List (Nat × Bool))) (vs : List Ov) (ds : List Dm) (A : Option Addr) (m d k : Nat) (w : World) (h : FamOK w f (famO f.n) rs gs vs ds) (hn6 : f.n ≤ 6) (hk : k < 2 ^ f.n) (hon : StrL w A (nmU (famO f.n) (fun i => (sOf f.n k).testBit i) f.n)) (hol : (nmU (famO f.n) (fun i => (sOf f.n k).testBit i) f.n).length = m) (hr : ∀ r ∈ rs, LowN f.n r.2) :
    Calls Try.prog 15 #[f.v, .slice A m d] w fun e w' => e = .returned (.tuple #[.bool (decide (brkR rs (List.replicate rs.length false) (sOf f.n k) < 0)), .int .i64 (brkR rs (List.replicate rs.length false) (sOf f.n k)), .int .i64 0]) ∧ Below w.heap.size w w' := by
  have h1 := allowed_ref f rs gs vs ds A m d _ w h hn6 hon hol (by have := nmU_short (famO f.n) (fun i => (sOf f.n k).testBit i) f.n; omega) (names_size f.n (by omega) k hk) hr
  rw [parse_names f.n (by omega) k hk] at h1
  unfold alwR at h1
  rwa [if_pos rfl] at h1
set_option maxRecDepth 100000 in
set_option maxHeartbeats 16000000 in
theorem allows_any (o m : Nat) (ho : o < 256) (hm : o % 6 = m) (RA GA VA : Option Addr) (rn rc gn gc vn vc : Nat) (kr kg kv : List (List Int)) (NA : Option Addr) (nn nd : Nat) (on : List ByteArray) (w : World) (hkr : I8LL w RA kr) (hkg : I8LL w GA kg) (hkv : I8LL w VA kv) (lr : kr.length = rn) (lg : kg.length = gn) (lv : kv.length = vn) (h8r : ∀ l ∈ kr, ∀ k ∈ l, -128 ≤ k ∧ k < 128) (h8g : ∀ l ∈ kg, ∀ k ∈ l, -128 ≤ k ∧ k < 128) (h8v : ∀ l ∈ kv, ∀ k ∈ l, -128 ≤ k ∧ k < 128) (hnl : on.length = nn) (hon : StrL w NA on) :
    Calls Try.prog 3 #[.agg #[.int .u8 (o : Nat), .slice RA rn rc, .slice GA gn gc, .slice VA vn vc], .slice NA nn nd] w fun e w' => e = .returned (.bool true) ∧ Below w.heap.size w w' := by
  have HFam := Lib.hid (fun (I J : Option Addr) (ic : Nat) (W : World) (hb : Below w.heap.size w W) (hD : DimL W J plainD) => family_any o m ho hm RA GA VA I J rn rc gn gc vn vc ic kr kg kv W (hkr.keep hb) (hkg.keep hb) (hkv.keep hb) lr lg lv h8r h8g h8v hD)
  clear hkr hkg hkv lr lg lv h8r h8g h8v
  have k1 := (Below.refl w.heap.size w).alloc (Nat.le_refl _) (.cells #[.int .u8 (o : Nat), .slice RA rn rc, .slice GA gn gc, .slice VA vn vc] 24)
  have C1 := Cells.new w #[.int .u8 (o : Nat), .slice RA rn rc, .slice GA gn gc, .slice VA vn vc] 24
  obtain ⟨w1, hw1⟩ : ∃ u, w.alloc (.cells #[.int .u8 (o : Nat), .slice RA rn rc, .slice GA gn gc, .slice VA vn vc] 24) = u := ⟨_, rfl⟩
  rw [hw1] at k1 C1
  have HC1 := Lib.hid C1
  have HK1 := Lib.hid k1
  clear C1 k1
  go_enter Try.func3, Try.ntmps3
  go_wp2_with fail
  refine (known_true w1).mono ?_
  rintro e w2 ⟨rfl, hb⟩
  clear hw1
  have HC2 := Lib.hid (HC1.out.keep hb)
  have HK2 := Lib.hid (below_on HK1.out hb)
  clear hb HC1
  by_cases h8 : nn ≤ 8
  · have e1 : decide ((8 : Int) < (nn : Int)) = false := decide_eq_false (by omega)
    have e2 : ¬ ((8 : Int) < (nn : Int)) := by omega
    have NL := Lib.hid (hon.keep HK2.out)
    clear hon
    go_wp2_with fail
    go_loopw [5] (fun i wr => ∃ j : Nat, i = .int .i64 (j : Nat) ∧ j ≤ nn ∧ (∀ i s, i < j → on[i]? = some s → s.size ≤ 80) ∧ w2 = wr) (fun i _ => nn - (intOf i).toNat)
    case atStart => exact ⟨0, rfl, Nat.zero_le _, fun i _ h => absurd h (Nat.not_lt_zero _), rfl⟩
    case round =>
      obtain ⟨j, rfl, hj, hall, rfl⟩ := hrel
      by_cases hlt : j < nn
      · have Hlt := Lib.hid hlt
        obtain ⟨s, b, o', hs, rfl, hbl, hc⟩ := NL.out.at_ (k := j) (by rw [hnl]; exact hlt)
        have i1 : (j : Int) < (nn : Int) := by omega
        have Hs := Lib.hid hs
        have Hall := Lib.hid hall
        clear hs hall
        by_cases h80 : s.size ≤ 80
        · have e3 : decide ((80 : Int) < (s.size : Int)) = false := decide_eq_false (by omega)
          have e4 : ¬ ((80 : Int) < (s.size : Int)) := by omega
          have H80 := Lib.hid h80
          clear h80
          go_wp2_with fail
          go_roundw
          case rel => exact ⟨j + 1, by go_num, Hlt.out, fun i s' hi hs' => by
            rcases Nat.lt_or_ge i j with h3 | h3
            · exact Hall.out i s' h3 hs'
            · rw [show i = j by omega, Hs.out] at hs'
              injection hs' with hs'
              rw [← hs']; exact H80.out, by first | trivial | rfl⟩
          case measure => simp [intOf]; have := Hlt.out; omega
        · have e3 : decide ((80 : Int) < (s.size : Int)) = true := decide_eq_true (by omega)
          have e4 : (80 : Int) < (s.size : Int) := by omega
          clear h80
          go_wp2_with fail
          go_ret
          exact ⟨rfl, HK2.out⟩
      · have hjn : nn = j := by omega
        subst hjn
        have Hsz := Lib.hid (show ∀ s ∈ on, s.size ≤ 80 from fun s hs => by
          obtain ⟨i, hi, rfl⟩ := List.getElem_of_mem hs
          exact hall i _ (by omega) (List.getElem?_eq_getElem hi))
        clear hall hlt hj
        have NL2 := Lib.hid NL.out
        go_upto_region 8 with fail
        go_cut [6] (fun s wx => Started w2 m kr kg kv s wx)
        case first =>
          have HS := Lib.hid (fun w' (hb : Below w2.heap.size w2 w') => (show w'.cell? ⟨w.heap.size, 0, none⟩ = some (.int .u8 (o : Nat)) ∧ w'.cell? ⟨w.heap.size, 1, none⟩ = some (.slice RA rn rc) ∧ w'.cell? ⟨w.heap.size, 2, none⟩ = some (.slice GA gn gc) ∧ w'.cell? ⟨w.heap.size, 3, none⟩ = some (.slice VA vn vc) from ⟨(HC2.out.keep hb).at_ 0, (HC2.out.keep hb).at_ 1, (HC2.out.keep hb).at_ 2, (HC2.out.keep hb).at_ 3⟩))
          refine Till.begin 4 (fun w' => w'.cell? ⟨w.heap.size, 0, none⟩ = some (.int .u8 (o : Nat)) ∧ w'.cell? ⟨w.heap.size, 1, none⟩ = some (.slice RA rn rc) ∧ w'.cell? ⟨w.heap.size, 2, none⟩ = some (.slice GA gn gc) ∧ w'.cell? ⟨w.heap.size, 3, none⟩ = some (.slice VA vn vc)) (by kernel_rfl) (HS.out _ (Below.refl _ _).drew) (fun hH => ?_)
          clear hH
          have HB0 := Lib.hid (Below.refl w2.heap.size w2).drew
          generalize w2.drew = V0 at HB0 ⊢
          try simp only [List.setIfInBounds_toArray, List.set_cons_zero, List.set_cons_succ]
          refine Till.tL 0 [2, 4] 39 (.agg #[.int .u8 (o : Nat), .slice RA rn rc, .slice GA gn gc, .slice VA vn vc]) (HS.out _ HB0.out) ?_
          try simp only [Act.put, List.setIfInBounds_toArray, List.set_cons_zero, List.set_cons_succ]
          refine Till.two (i := 1) (j := 3) (by kernel_rfl) rfl rfl ?_ ?_
          · intro K hK
            go_simp
            refine (plain_any V0).mono ?_
            rintro e V1 ⟨I, ic, J, rfl, _, hJ, hJb, hb⟩
            have HB1 := Lib.hid (below_on HB0.out hb)
            have HJ := Lib.hid hJ
            have HJb := Lib.hid hJb
            have HPs := Lib.hid hb.size
            refine hK.out _ _ (fun _ => HS.out _ HB1.out) ?_
            clear hK K hJ hJb
            try simp only [List.setIfInBounds_toArray, List.set_cons_zero, List.set_cons_succ]
            refine Till.two (i := 2) (j := 3) (by kernel_rfl) rfl rfl ?_ ?_
            · intro K hK
              go_simp
              refine (HFam.out I J ic V1 (below_on HK2.out HB1.out) HJ.out).mono ?_
              rintro e V2 ⟨OA, oc, rA, rC, gA, gC, vA, vC, he, hOK, _, hMem, hb⟩
              obtain ⟨f, hf⟩ : ∃ f, (famF I ic J OA rA gA vA (1 + m) oc (famR (1 + m) kr).length rC (famG (1 + m) kg).length gC (famV (1 + m) kv).length vC) = f := ⟨_, rfl⟩
              rw [hf] at he hOK hMem
              have hfn : f.n = 1 + m := by rw [← hf]; rfl
              have hfJ : f.DA = J := by rw [← hf]; rfl
              have HFn := Lib.hid hfn
              have HfJ := Lib.hid hfJ
              clear hf hfn hfJ
              subst he
              have HB2 := Lib.hid (below_on HB1.out hb)
              have HOK := Lib.hid hOK
              have HMem := Lib.hid hMem
              have HFb := Lib.hid hb
              refine hK.out _ _ (fun _ => HS.out _ HB2.out) ?_
              clear hK K hOK hMem hb
              try simp only [List.setIfInBounds_toArray, List.set_cons_zero, List.set_cons_succ]
              refine Till.one (i := 3) (by kernel_rfl) rfl (fun K hK => ?_)
              go_simp
              have kx := (Below.refl V2.heap.size V2).alloc (Nat.le_refl _) (.cells #[.string { data := #[] }, .slice none 0 0, .slice none 0 0, .slice none 0 0, .slice none 0 0, .slice none 0 0, .slice none 0 0, .slice none 0 0, .slice none 0 0, .slice none 0 0] 40)
              have RZ := heap_new V2 (.cells #[.string { data := #[] }, .slice none 0 0, .slice none 0 0, .slice none 0 0, .slice none 0 0, .slice none 0 0, .slice none 0 0, .slice none 0 0, .slice none 0 0, .slice none 0 0] 40)
              obtain ⟨V3, hV⟩ : ∃ u, V2.alloc (.cells #[.string { data := #[] }, .slice none 0 0, .slice none 0 0, .slice none 0 0, .slice none 0 0, .slice none 0 0, .slice none 0 0, .slice none 0 0, .slice none 0 0, .slice none 0 0] 40) = u := ⟨_, rfl⟩
              have hsz : V2.heap.size < V3.heap.size := by rw [← hV]; simp
              rw [hV] at kx RZ ⊢
              obtain ⟨p, hp⟩ : ∃ p, V2.heap.size = p := ⟨_, rfl⟩
              have HB3 := Lib.hid (below_on HB2.out kx)
              have KX := Lib.hid kx
              have HP := Lib.hid hp
              have HPz := Lib.hid (show p < V3.heap.size by omega)
              rw [hp] at RZ ⊢
              have RZ := Lib.hid RZ
              refine hK.out _ _ (fun _ => HS.out _ HB3.out) ?_
              clear hK K hV kx hp hsz
              try simp only [List.setIfInBounds_toArray, List.set_cons_zero, List.set_cons_succ]
              have RF := row_setCells p 40 [.string f.nm, .slice f.PA f.pn f.pc, .slice f.IA f.iN f.ic, .slice f.DA f.dn f.dc, .slice f.KA f.kn f.kc, .slice f.QA f.qn f.qc, .slice f.OA f.n f.oc, .slice f.RA f.rn f.rc, .slice f.GA f.gn f.gc, .slice f.VA f.vn f.vc] 0 V3 _ RZ.out
              have G0 := grown_cells p [.string f.nm, .slice f.PA f.pn f.pc, .slice f.IA f.iN f.ic, .slice f.DA f.dn f.dc, .slice f.KA f.kn f.kc, .slice f.QA f.qn f.qc, .slice f.OA f.n f.oc, .slice f.RA f.rn f.rc, .slice f.GA f.gn f.gc, .slice f.VA f.vn f.vc] 0 V3
              obtain ⟨WF, hWF⟩ : ∃ u, V3.setCells p 0 [.string f.nm, .slice f.PA f.pn f.pc, .slice f.IA f.iN f.ic, .slice f.DA f.dn f.dc, .slice f.KA f.kn f.kc, .slice f.QA f.qn f.qc, .slice f.OA f.n f.oc, .slice f.RA f.rn f.rc, .slice f.GA f.gn f.gc, .slice f.VA f.vn f.vc] = u := ⟨_, rfl⟩
              rw [hWF] at RF G0
              have CR := Cells.of_row RZ.out
              have p0 := CR.at_ 0
              have p1 := CR.at_ 1
              have p2 := CR.at_ 2
              have p3 := CR.at_ 3
              have p4 := CR.at_ 4
              have p5 := CR.at_ 5
              have p6 := CR.at_ 6
              have p7 := CR.at_ 7
              have p8 := CR.at_ 8
              have p9 := CR.at_ 9
              simp only [List.getElem?_cons_zero, List.getElem?_cons_succ] at p0 p1 p2 p3 p4 p5 p6 p7 p8 p9
              have f0 := CR.fz 0
              have f1 := CR.fz 1
              have f2 := CR.fz 2
              have f3 := CR.fz 3
              have f4 := CR.fz 4
              have f5 := CR.fz 5
              have f6 := CR.fz 6
              have f7 := CR.fz 7
              have f8 := CR.fz 8
              have f9 := CR.fz 9
              have kF : Below V2.heap.size V2 WF := KX.out.grown G0 KX.out.size (fun k e => by injection e with e; have := HP.out; omega)
              have hOKF := Lib.hid (HOK.out.keep kF)
              have RF : WF.heap[p]? = some (.cells #[.string f.nm, .slice f.PA f.pn f.pc, .slice f.IA f.iN f.ic, .slice f.DA f.dn f.dc, .slice f.KA f.kn f.kc, .slice f.QA f.qn f.qc, .slice f.OA f.n f.oc, .slice f.RA f.rn f.rc, .slice f.GA f.gn f.gc, .slice f.VA f.vn f.vc] 40 (0, 0)) := by
                rwa [put10] at RF
              have HCF := Lib.hid (Cells.of_row RF)
              have hpW : w2.heap.size ≤ p := by have := HP.out; have := HB2.out.size; omega
              have BF := Lib.hid (HB3.out.grown G0 HB3.out.size (fun k e => by injection e with e; omega))
              simp only [World.setCells, Nat.reduceAdd] at hWF
              have HWF := Lib.hid hWF
              have HpW := Lib.hid hpW
              clear hWF CR RF G0 hpW
              refine Till.one (i := 4) (by kernel_rfl) rfl (fun K hK => ?_)
              go_simp
              rw [HWF.out]
              refine hK.out _ _ (fun h => absurd h (by simp)) ?_
              clear hK K p0 f0 p1 f1 p2 f2 p3 f3 p4 f4 p5 f5 p6 f6 p7 f7 p8 f8 p9 f9
              try simp only [List.setIfInBounds_toArray, List.set_cons_zero, List.set_cons_succ]
              refine Till.done (by kernel_rfl) ?_ _
              go_wp2_with fail
              go_meet
              exact ⟨p, f, rfl, HpW.out, HCF.out, HFn.out, hOKF.out, BF.out⟩
            · intro K hK
              go_simp
              have kx := (Below.refl V1.heap.size V1).alloc (Nat.le_refl _) (.cells #[.string { data := #[] }, .slice none 0 0, .slice none 0 0, .slice none 0 0, .slice none 0 0, .slice none 0 0, .slice none 0 0, .slice none 0 0, .slice none 0 0, .slice none 0 0] 40)
              have RZ := heap_new V1 (.cells #[.string { data := #[] }, .slice none 0 0, .slice none 0 0, .slice none 0 0, .slice none 0 0, .slice none 0 0, .slice none 0 0, .slice none 0 0, .slice none 0 0, .slice none 0 0] 40)
              obtain ⟨V2, hV⟩ : ∃ u, V1.alloc (.cells #[.string { data := #[] }, .slice none 0 0, .slice none 0 0, .slice none 0 0, .slice none 0 0, .slice none 0 0, .slice none 0 0, .slice none 0 0, .slice none 0 0, .slice none 0 0] 40) = u := ⟨_, rfl⟩
              have hsz : V1.heap.size < V2.heap.size := by rw [← hV]; simp
              rw [hV] at kx RZ ⊢
              obtain ⟨p, hp⟩ : ∃ p, V1.heap.size = p := ⟨_, rfl⟩
              have HB2 := Lib.hid (below_on HB1.out kx)
              have KX := Lib.hid kx
              have HP := Lib.hid hp
              have HPz := Lib.hid (show p < V2.heap.size by omega)
              rw [hp] at RZ ⊢
              have RZ := Lib.hid RZ
              refine hK.out _ _ (fun _ => HS.out _ HB2.out) ?_
              clear hK K hV kx hp hsz
              try simp only [List.setIfInBounds_toArray, List.set_cons_zero, List.set_cons_succ]
              have HJ2 := Lib.hid (HJ.out.keep KX.out)
              refine Till.one (i := 2) (by kernel_rfl) rfl (fun K hK => ?_)
              go_simp
              refine (HFam.out I J ic V2 (below_on HK2.out HB2.out) HJ2.out).mono ?_
              rintro e V3 ⟨OA, oc, rA, rC, gA, gC, vA, vC, he, hOK, _, hMem, hb⟩
              obtain ⟨f, hf⟩ : ∃ f, (famF I ic J OA rA gA vA (1 + m) oc (famR (1 + m) kr).length rC (famG (1 + m) kg).length gC (famV (1 + m) kv).length vC) = f := ⟨_, rfl⟩
              rw [hf] at he hOK hMem
              have hfn : f.n = 1 + m := by rw [← hf]; rfl
              have hfJ : f.DA = J := by rw [← hf]; rfl
              have HFn := Lib.hid hfn
              have HfJ := Lib.hid hfJ
              clear hf hfn hfJ
              subst he
              have HB3 := Lib.hid (below_on HB2.out hb)
              have HOK := Lib.hid hOK
              have HMem := Lib.hid hMem
              have HFb := Lib.hid hb
              refine hK.out _ _ (fun _ => HS.out _ HB3.out) ?_
              clear hK K hOK hMem hb
              try simp only [List.setIfInBounds_toArray, List.set_cons_zero, List.set_cons_succ]
              have RZ := Lib.hid (row_keep RZ.out HFb.out)
              have RF := row_setCells p 40 [.string f.nm, .slice f.PA f.pn f.pc, .slice f.IA f.iN f.ic, .slice f.DA f.dn f.dc, .slice f.KA f.kn f.kc, .slice f.QA f.qn f.qc, .slice f.OA f.n f.oc, .slice f.RA f.rn f.rc, .slice f.GA f.gn f.gc, .slice f.VA f.vn f.vc] 0 V3 _ RZ.out
              have G0 := grown_cells p [.string f.nm, .slice f.PA f.pn f.pc, .slice f.IA f.iN f.ic, .slice f.DA f.dn f.dc, .slice f.KA f.kn f.kc, .slice f.QA f.qn f.qc, .slice f.OA f.n f.oc, .slice f.RA f.rn f.rc, .slice f.GA f.gn f.gc, .slice f.VA f.vn f.vc] 0 V3
              obtain ⟨WF, hWF⟩ : ∃ u, V3.setCells p 0 [.string f.nm, .slice f.PA f.pn f.pc, .slice f.IA f.iN f.ic, .slice f.DA f.dn f.dc, .slice f.KA f.kn f.kc, .slice f.QA f.qn f.qc, .slice f.OA f.n f.oc, .slice f.RA f.rn f.rc, .slice f.GA f.gn f.gc, .slice f.VA f.vn f.vc] = u := ⟨_, rfl⟩
              rw [hWF] at RF G0
              have CR := Cells.of_row RZ.out
              have p0 := CR.at_ 0
              have p1 := CR.at_ 1
              have p2 := CR.at_ 2
              have p3 := CR.at_ 3
              have p4 := CR.at_ 4
              have p5 := CR.at_ 5
              have p6 := CR.at_ 6
              have p7 := CR.at_ 7
              have p8 := CR.at_ 8
              have p9 := CR.at_ 9
              simp only [List.getElem?_cons_zero, List.getElem?_cons_succ] at p0 p1 p2 p3 p4 p5 p6 p7 p8 p9
              have f0 := CR.fz 0
              have f1 := CR.fz 1
              have f2 := CR.fz 2
              have f3 := CR.fz 3
              have f4 := CR.fz 4
              have f5 := CR.fz 5
              have f6 := CR.fz 6
              have f7 := CR.fz 7
              have f8 := CR.fz 8
              have f9 := CR.fz 9
              have hOKF := Lib.hid (HOK.out.other HMem.out G0 HPz.out (fun b o t e => by have := (HJb.out b o t (HfJ.out.symm.trans e)).2; have := HP.out; omega))
              have RF : WF.heap[p]? = some (.cells #[.string f.nm, .slice f.PA f.pn f.pc, .slice f.IA f.iN f.ic, .slice f.DA f.dn f.dc, .slice f.KA f.kn f.kc, .slice f.QA f.qn f.qc, .slice f.OA f.n f.oc, .slice f.RA f.rn f.rc, .slice f.GA f.gn f.gc, .slice f.VA f.vn f.vc] 40 (0, 0)) := by
                rwa [put10] at RF
              have HCF := Lib.hid (Cells.of_row RF)
              have hpW : w2.heap.size ≤ p := by have := HP.out; have := HB1.out.size; omega
              have BF := Lib.hid (HB3.out.grown G0 HB3.out.size (fun k e => by injection e with e; omega))
              simp only [World.setCells, Nat.reduceAdd] at hWF
              have HWF := Lib.hid hWF
              have HpW := Lib.hid hpW
              clear hWF CR RF G0 hpW
              refine Till.one (i := 4) (by kernel_rfl) rfl (fun K hK => ?_)
              go_simp
              rw [HWF.out]
              refine hK.out _ _ (fun h => absurd h (by simp)) ?_
              clear hK K p0 f0 p1 f1 p2 f2 p3 f3 p4 f4 p5 f5 p6 f6 p7 f7 p8 f8 p9 f9
              try simp only [List.setIfInBounds_toArray, List.set_cons_zero, List.set_cons_succ]
              refine Till.done (by kernel_rfl) ?_ _
              go_wp2_with fail
              go_meet
              exact ⟨p, f, rfl, HpW.out, HCF.out, HFn.out, hOKF.out, BF.out⟩
          · intro K hK
            go_simp
            have kx := (Below.refl V0.heap.size V0).alloc (Nat.le_refl _) (.cells #[.string { data := #[] }, .slice none 0 0, .slice none 0 0, .slice none 0 0, .slice none 0 0, .slice none 0 0, .slice none 0 0, .slice none 0 0, .slice none 0 0, .slice none 0 0] 40)
            have RZ := heap_new V0 (.cells #[.string { data := #[] }, .slice none 0 0, .slice none 0 0, .slice none 0 0, .slice none 0 0, .slice none 0 0, .slice none 0 0, .slice none 0 0, .slice none 0 0, .slice none 0 0] 40)
            obtain ⟨V1, hV⟩ : ∃ u, V0.alloc (.cells #[.string { data := #[] }, .slice none 0 0, .slice none 0 0, .slice none 0 0, .slice none 0 0, .slice none 0 0, .slice none 0 0, .slice none 0 0, .slice none 0 0, .slice none 0 0] 40) = u := ⟨_, rfl⟩
            have hsz : V0.heap.size < V1.heap.size := by rw [← hV]; simp
            rw [hV] at kx RZ ⊢
            obtain ⟨p, hp⟩ : ∃ p, V0.heap.size = p := ⟨_, rfl⟩
            have HB1 := Lib.hid (below_on HB0.out kx)
            have KX := Lib.hid kx
            have HP := Lib.hid hp
            have HPz := Lib.hid (show p < V1.heap.size by omega)
            rw [hp] at RZ ⊢
            have RZ := Lib.hid RZ
            refine hK.out _ _ (fun _ => HS.out _ HB1.out) ?_
            clear hK K hV kx hp hsz
            try simp only [List.setIfInBounds_toArray, List.set_cons_zero, List.set_cons_succ]
            refine Till.one (i := 1) (by kernel_rfl) rfl (fun K hK => ?_)
            go_simp
            refine (plain_any V1).mono ?_
            rintro e V2 ⟨I, ic, J, rfl, _, hJ, hJb, hb⟩
            have HB2 := Lib.hid (below_on HB1.out hb)
            have HJ := Lib.hid hJ
            have HJb := Lib.hid hJb
            have HPs := Lib.hid hb.size
            refine hK.out _ _ (fun _ => HS.out _ HB2.out) ?_
            clear hK K hJ hJb
            try simp only [List.setIfInBounds_toArray, List.set_cons_zero, List.set_cons_succ]
            have RZ := Lib.hid (row_keep RZ.out hb)
            have HPz2 := Lib.hid (Nat.lt_of_lt_of_le HPz.out HPs.out)
            clear hb
            refine Till.one (i := 2) (by kernel_rfl) rfl (fun K hK => ?_)
            go_simp
            refine (HFam.out I J ic V2 (below_on HK2.out HB2.out) HJ.out).mono ?_
            rintro e V3 ⟨OA, oc, rA, rC, gA, gC, vA, vC, he, hOK, _, hMem, hb⟩
            obtain ⟨f, hf⟩ : ∃ f, (famF I ic J OA rA gA vA (1 + m) oc (famR (1 + m) kr).length rC (famG (1 + m) kg).length gC (famV (1 + m) kv).length vC) = f := ⟨_, rfl⟩
            rw [hf] at he hOK hMem
            have hfn : f.n = 1 + m := by rw [← hf]; rfl
            have hfJ : f.DA = J := by rw [← hf]; rfl
            have HFn := Lib.hid hfn
            have HfJ := Lib.hid hfJ
            clear hf hfn hfJ
            subst he
            have HB3 := Lib.hid (below_on HB2.out hb)
            have HOK := Lib.hid hOK
            have HMem := Lib.hid hMem
            have HFb := Lib.hid hb
            refine hK.out _ _ (fun _ => HS.out _ HB3.out) ?_
            clear hK K hOK hMem hb
            try simp only [List.setIfInBounds_toArray, List.set_cons_zero, List.set_cons_succ]
            have RZ := Lib.hid (row_keep RZ.out HFb.out)
            have RF := row_setCells p 40 [.string f.nm, .slice f.PA f.pn f.pc, .slice f.IA f.iN f.ic, .slice f.DA f.dn f.dc, .slice f.KA f.kn f.kc, .slice f.QA f.qn f.qc, .slice f.OA f.n f.oc, .slice f.RA f.rn f.rc, .slice f.GA f.gn f.gc, .slice f.VA f.vn f.vc] 0 V3 _ RZ.out
            have G0 := grown_cells p [.string f.nm, .slice f.PA f.pn f.pc, .slice f.IA f.iN f.ic, .slice f.DA f.dn f.dc, .slice f.KA f.kn f.kc, .slice f.QA f.qn f.qc, .slice f.OA f.n f.oc, .slice f.RA f.rn f.rc, .slice f.GA f.gn f.gc, .slice f.VA f.vn f.vc] 0 V3
            obtain ⟨WF, hWF⟩ : ∃ u, V3.setCells p 0 [.string f.nm, .slice f.PA f.pn f.pc, .slice f.IA f.iN f.ic, .slice f.DA f.dn f.dc, .slice f.KA f.kn f.kc, .slice f.QA f.qn f.qc, .slice f.OA f.n f.oc, .slice f.RA f.rn f.rc, .slice f.GA f.gn f.gc, .slice f.VA f.vn f.vc] = u := ⟨_, rfl⟩
            rw [hWF] at RF G0
            have CR := Cells.of_row RZ.out
            have p0 := CR.at_ 0
            have p1 := CR.at_ 1
            have p2 := CR.at_ 2
            have p3 := CR.at_ 3
            have p4 := CR.at_ 4
            have p5 := CR.at_ 5
            have p6 := CR.at_ 6
            have p7 := CR.at_ 7
            have p8 := CR.at_ 8
            have p9 := CR.at_ 9
            simp only [List.getElem?_cons_zero, List.getElem?_cons_succ] at p0 p1 p2 p3 p4 p5 p6 p7 p8 p9
            have f0 := CR.fz 0
            have f1 := CR.fz 1
            have f2 := CR.fz 2
            have f3 := CR.fz 3
            have f4 := CR.fz 4
            have f5 := CR.fz 5
            have f6 := CR.fz 6
            have f7 := CR.fz 7
            have f8 := CR.fz 8
            have f9 := CR.fz 9
            have hOKF := Lib.hid (HOK.out.other HMem.out G0 HPz2.out (fun b o t e => by have := (HJb.out b o t (HfJ.out.symm.trans e)).1; have := HPz.out; omega))
            have RF : WF.heap[p]? = some (.cells #[.string f.nm, .slice f.PA f.pn f.pc, .slice f.IA f.iN f.ic, .slice f.DA f.dn f.dc, .slice f.KA f.kn f.kc, .slice f.QA f.qn f.qc, .slice f.OA f.n f.oc, .slice f.RA f.rn f.rc, .slice f.GA f.gn f.gc, .slice f.VA f.vn f.vc] 40 (0, 0)) := by
              rwa [put10] at RF
            have HCF := Lib.hid (Cells.of_row RF)
            have hpW : w2.heap.size ≤ p := by have := HP.out; have := HB0.out.size; omega
            have BF := Lib.hid (HB3.out.grown G0 HB3.out.size (fun k e => by injection e with e; omega))
            simp only [World.setCells, Nat.reduceAdd] at hWF
            have HWF := Lib.hid hWF
            have HpW := Lib.hid hpW
            clear hWF CR RF G0 hpW
            refine Till.one (i := 4) (by kernel_rfl) rfl (fun K hK => ?_)
            go_simp
            rw [HWF.out]
            refine hK.out _ _ (fun h => absurd h (by simp)) ?_
            clear hK K p0 f0 p1 f1 p2 f2 p3 f3 p4 f4 p5 f5 p6 f6 p7 f7 p8 f8 p9 f9
            try simp only [List.setIfInBounds_toArray, List.set_cons_zero, List.set_cons_succ]
            refine Till.done (by kernel_rfl) ?_ _
            go_wp2_with fail
            go_meet
            exact ⟨p, f, rfl, HpW.out, HCF.out, HFn.out, hOKF.out, BF.out⟩
        case rest =>
          obtain ⟨pf, f, rfl, hpf, hCf, hfn, hOK, hbf⟩ := hcut
          have hn6 : f.n ≤ 6 := by omega
          have hn0 : 0 < f.n := by omega
          have HOK := Lib.hid hOK
          have HCf := Lib.hid hCf
          have HK3 := Lib.hid (below_on HK2.out hbf)
          have hr48 := hOK.r48
          have HFn := Lib.hid hfn
          have HHO := Lib.hid (show (famO (1 + m)) = famO f.n by rw [hfn])
          have HHR := Lib.hid (show (famR (1 + m) kr) = famR f.n kr by rw [hfn])
          have HBF := Lib.hid hbf
          clear hOK hCf hbf hpf HC2 HK2 HFam hfn 
          obtain ⟨os, hos⟩ : ∃ x, famO (1 + m) = x := ⟨_, rfl⟩
          obtain ⟨rs, hrs⟩ : ∃ x, famR (1 + m) kr = x := ⟨_, rfl⟩
          obtain ⟨gs, hgs⟩ : ∃ x, famG (1 + m) kg = x := ⟨_, rfl⟩
          obtain ⟨vs, hvs⟩ : ∃ x, famV (1 + m) kv = x := ⟨_, rfl⟩
          rw [hos, hrs, hgs, hvs] at HOK
          have hRL : ∀ r ∈ rs, LowN f.n r.2 := by rw [← hrs, HHR.out]; exact famR_low kr
          have hRL6 : ∀ r ∈ rs, (∀ l ∈ r.2, l.1 < 6) ∧ r.2.length ≤ 1000 := by rw [← hrs, HHR.out]; exact famR_low6 hn6 kr
          have HRL := Lib.hid hRL
          have HRL6 := Lib.hid hRL6
          have hoe : os = famO f.n := hos.symm.trans HHO.out
          clear hos hrs hgs hvs HHO HHR hRL hRL6
          subst hoe
          have c0 := HCf.out.at_ 0
          have c1 := HCf.out.at_ 1
          have c2 := HCf.out.at_ 2
          have c3 := HCf.out.at_ 3
          have c4 := HCf.out.at_ 4
          have c5 := HCf.out.at_ 5
          have c6 := HCf.out.at_ 6
          have c7 := HCf.out.at_ 7
          have c8 := HCf.out.at_ 8
          have c9 := HCf.out.at_ 9
          simp only [List.getElem?_cons_zero, List.getElem?_cons_succ] at c0 c1 c2 c3 c4 c5 c6 c7 c8 c9
          have NL3 := Lib.hid (NL2.out.keep (show Below w2.heap.size w2 wc from HBF.out))
          have HP := parse_any f NA nn nd on wc HOK.out.osL hn6 NL3.out hnl (by omega)
          have HQ := fun (wx : World) (hb : Below wc.heap.size wc wx) => allowed_ref f rs gs vs plainD NA nn nd on wx (HOK.out.keep hb) hn6 (NL3.out.keep hb) hnl (by omega) (fun s hs => by have := Hsz.out s hs; omega) HRL.out
          have hslt := runC_low (on.map (idxO f.n)) (-1) 0 (by decide) (idxO_low hn6)
          obtain ⟨P, hP⟩ : ∃ P, runC (fun a => 2 ^ a) (-1) 0 (on.map (idxO f.n)) = P := ⟨_, rfl⟩
          rw [hP] at HP HQ hslt
          obtain ⟨s, er⟩ := P
          simp only at HP hslt
          have HP := Lib.hid HP
          have HQ := Lib.hid HQ
          clear hP NL NL2
          go_wp2_with fail
          refine HP.out.mono ?_
          rintro e w4 ⟨rfl, hb4⟩
          have B4 := Lib.hid hb4
          have HCf4 := Lib.hid (HCf.out.keep hb4)
          clear hb4 c0 c1 c2 c3 c4 c5 c6 c7 c8 c9 HP
          have c0 := HCf4.out.at_ 0
          have c1 := HCf4.out.at_ 1
          have c2 := HCf4.out.at_ 2
          have c3 := HCf4.out.at_ 3
          have c4 := HCf4.out.at_ 4
          have c5 := HCf4.out.at_ 5
          have c6 := HCf4.out.at_ 6
          have c7 := HCf4.out.at_ 7
          have c8 := HCf4.out.at_ 8
          have c9 := HCf4.out.at_ 9
          simp only [List.getElem?_cons_zero, List.getElem?_cons_succ] at c0 c1 c2 c3 c4 c5 c6 c7 c8 c9
          go_wp2_with fail
          refine (HQ.out _ B4.out).mono ?_
          rintro e w5 ⟨he, hb5⟩
          have B5 := Lib.hid (below_on B4.out hb5)
          have HCf4 := Lib.hid (HCf4.out.keep hb5)
          have HOK5 := Lib.hid (HOK.out.keep B5.out)
          have HK5 := Lib.hid (below_on HK3.out B5.out)
          clear hb5 c0 c1 c2 c3 c4 c5 c6 c7 c8 c9 HQ B4 HCf NL3
          by_cases her : er = 0
          · subst her
            obtain ⟨bk, hbk⟩ : ∃ x, brkR rs (List.replicate rs.length false) s = x := ⟨_, rfl⟩
            have he : e = .returned (.tuple #[.bool (decide (bk < 0)), .int .i64 bk, .int .i64 0]) := he.trans (by simp only [alwR, if_true, hbk])
            subst he
            obtain ⟨bb, hbb⟩ : ∃ x, decide (bk < 0) = x := ⟨_, rfl⟩
            rw [hbb]
            have Hbk := Lib.hid hbk
            have Hbb := Lib.hid hbb
            have Hslt := Lib.hid hslt
            clear hbk hbb hslt
            go_upto_region 13 with fail
            have HS := Lib.hid (fun w' (hb : Below w5.heap.size w5 w') => (show w'.cell? ⟨pf, 0, none⟩ = some (.string f.nm) ∧ w'.cell? ⟨pf, 1, none⟩ = some (.slice f.PA f.pn f.pc) ∧ w'.cell? ⟨pf, 2, none⟩ = some (.slice f.IA f.iN f.ic) ∧ w'.cell? ⟨pf, 3, none⟩ = some (.slice f.DA f.dn f.dc) ∧ w'.cell? ⟨pf, 4, none⟩ = some (.slice f.KA f.kn f.kc) ∧ w'.cell? ⟨pf, 5, none⟩ = some (.slice f.QA f.qn f.qc) ∧ w'.cell? ⟨pf, 6, none⟩ = some (.slice f.OA f.n f.oc) ∧ w'.cell? ⟨pf, 7, none⟩ = some (.slice f.RA f.rn f.rc) ∧ w'.cell? ⟨pf, 8, none⟩ = some (.slice f.GA f.gn f.gc) ∧ w'.cell? ⟨pf, 9, none⟩ = some (.slice f.VA f.vn f.vc) from ⟨(HCf4.out.keep hb).at_ 0, (HCf4.out.keep hb).at_ 1, (HCf4.out.keep hb).at_ 2, (HCf4.out.keep hb).at_ 3, (HCf4.out.keep hb).at_ 4, (HCf4.out.keep hb).at_ 5, (HCf4.out.keep hb).at_ 6, (HCf4.out.keep hb).at_ 7, (HCf4.out.keep hb).at_ 8, (HCf4.out.keep hb).at_ 9⟩))
            refine Till.begin 4 (fun w' => w'.cell? ⟨pf, 0, none⟩ = some (.string f.nm) ∧ w'.cell? ⟨pf, 1, none⟩ = some (.slice f.PA f.pn f.pc) ∧ w'.cell? ⟨pf, 2, none⟩ = some (.slice f.IA f.iN f.ic) ∧ w'.cell? ⟨pf, 3, none⟩ = some (.slice f.DA f.dn f.dc) ∧ w'.cell? ⟨pf, 4, none⟩ = some (.slice f.KA f.kn f.kc) ∧ w'.cell? ⟨pf, 5, none⟩ = some (.slice f.QA f.qn f.qc) ∧ w'.cell? ⟨pf, 6, none⟩ = some (.slice f.OA f.n f.oc) ∧ w'.cell? ⟨pf, 7, none⟩ = some (.slice f.RA f.rn f.rc) ∧ w'.cell? ⟨pf, 8, none⟩ = some (.slice f.GA f.gn f.gc) ∧ w'.cell? ⟨pf, 9, none⟩ = some (.slice f.VA f.vn f.vc)) (by kernel_rfl) (HS.out _ (Below.refl _ _).drew) (fun hH => ?_)
            clear hH
            have HB0 := Lib.hid (Below.refl w5.heap.size w5).drew
            generalize w5.drew = V0 at HB0 ⊢
            try simp only [List.setIfInBounds_toArray, List.set_cons_zero, List.set_cons_succ]
            refine Till.tL 0 [4] 68 (.agg #[.string f.nm, .slice f.PA f.pn f.pc, .slice f.IA f.iN f.ic, .slice f.DA f.dn f.dc, .slice f.KA f.kn f.kc, .slice f.QA f.qn f.qc, .slice f.OA f.n f.oc, .slice f.RA f.rn f.rc, .slice f.GA f.gn f.gc, .slice f.VA f.vn f.vc]) (HS.out _ HB0.out) ?_
            try simp only [Act.put, List.setIfInBounds_toArray, List.set_cons_zero, List.set_cons_succ]
            refine Till.tL 1 [2, 4] 69 (.agg #[.string f.nm, .slice f.PA f.pn f.pc, .slice f.IA f.iN f.ic, .slice f.DA f.dn f.dc, .slice f.KA f.kn f.kc, .slice f.QA f.qn f.qc, .slice f.OA f.n f.oc, .slice f.RA f.rn f.rc, .slice f.GA f.gn f.gc, .slice f.VA f.vn f.vc]) (HS.out _ HB0.out) ?_
            try simp only [Act.put, List.setIfInBounds_toArray, List.set_cons_zero, List.set_cons_succ]
            refine Till.tL 3 [4] 71 (.int .i64 (s : Nat)) (HS.out _ HB0.out) ?_
            try simp only [Act.put, List.setIfInBounds_toArray, List.set_cons_zero, List.set_cons_succ]
            refine Till.one (i := 2) (by kernel_rfl) rfl (fun K hK => ?_)
            go_simp
            refine (noneN_any f (famO f.n) rs gs vs plainD V0 (HOK5.out.keep HB0.out)).mono ?_
            rintro e V1 ⟨XA, xc, rfl, hX, hb⟩
            have HB1 := Lib.hid (below_on HB0.out hb)
            have HX := Lib.hid hX
            refine hK.out _ _ (fun _ => HS.out _ HB1.out) ?_
            clear hK K hX hb
            try simp only [List.setIfInBounds_toArray, List.set_cons_zero, List.set_cons_succ]
            refine Till.one (i := 4) (by kernel_rfl) rfl (fun K hK => ?_)
            go_simp
            refine (broken_any f rs XA f.rn xc (List.replicate rs.length false) s V1 (HOK5.out.keep HB1.out).rsL HOK5.out.rsl (by have := HOK5.out.r48; omega) HRL6.out HX.out (by rw [List.length_replicate]; exact HOK5.out.rsl) rfl Hslt.out).mono ?_
            rintro e V2 ⟨rfl, hb⟩
            have HB2 := Lib.hid (below_on HB1.out hb)
            refine hK.out _ _ (fun h => absurd h (by simp)) ?_
            clear hK K hb HX
            try simp only [List.setIfInBounds_toArray, List.set_cons_zero, List.set_cons_succ]
            refine Till.one (i := 5) (by kernel_rfl) rfl (fun K hK => ?_)
            go_simp
            refine hK.out _ _ (fun h => absurd h (by simp)) ?_
            clear hK K
            try simp only [List.setIfInBounds_toArray, List.set_cons_zero, List.set_cons_succ]
            refine Till.done (by kernel_rfl) ?_ _
            clear HS
            have H6 := Lib.hid (below_on B5.out HB2.out)
            have HCf4 := Lib.hid (HCf4.out.keep HB2.out)
            have HOK6 := Lib.hid (HOK5.out.keep HB2.out)
            have HK6 := Lib.hid (below_on HK5.out HB2.out)
            rw [Hbk.out]
            clear HB0 HB1 HB2 HOK5 B5 HK5
            have c0 := HCf4.out.at_ 0
            have c1 := HCf4.out.at_ 1
            have c2 := HCf4.out.at_ 2
            have c3 := HCf4.out.at_ 3
            have c4 := HCf4.out.at_ 4
            have c5 := HCf4.out.at_ 5
            have c6 := HCf4.out.at_ 6
            have c7 := HCf4.out.at_ 7
            have c8 := HCf4.out.at_ 8
            have c9 := HCf4.out.at_ 9
            simp only [List.getElem?_cons_zero, List.getElem?_cons_succ] at c0 c1 c2 c3 c4 c5 c6 c7 c8 c9
            have e5 := Hbb.out
            obtain ⟨w6, rfl⟩ : ∃ x, x = V2 := ⟨_, rfl⟩
            have hsets := Lib.hid (sets_any f.n w6 hn0 hn6)
            obtain ⟨N, hNN⟩ : ∃ N, 2 ^ f.n = N := ⟨_, rfl⟩
            have hN64 : N ≤ 64 := by rw [← hNN]; exact Nat.pow_le_pow_right (by decide) hn6
            rw [hNN] at hsets
            cases bb
            · go_wp2_with fail
              refine hsets.out.mono ?_
              rintro e w7 ⟨sv, rfl, hown, hb⟩
              obtain ⟨SA, sc, rfl, hN⟩ := own_nats hown (by rw [setsN_len, hNN])
              have HSL := Lib.hid hN
              have HOK7 := Lib.hid (HOK6.out.keep hb)
              have HCf7 := Lib.hid (HCf4.out.keep hb)
              have HK7 := Lib.hid (below_on HK6.out hb)
              clear hown hN hb c0 c1 c2 c3 c4 c5 c6 c7 c8 c9 HCf4 HOK6 HK6 H6 e5 Hbk Hbb hsets
              go_wp2_with fail
              go_loopw [14, 15, 16, 17, 18] (fun i _ _ _ _ wr => ∃ j : Nat, i = .int .i64 (j : Nat) ∧ j ≤ N ∧ Below w7.heap.size w7 wr) (fun i _ _ _ _ _ => N - (intOf i).toNat)
              case atStart => exact ⟨0, rfl, Nat.zero_le _, Below.refl _ _⟩
              case round =>
                obtain ⟨j, rfl, hj, hb⟩ := hrel
                have Br := Lib.hid hb
                have HOKr := Lib.hid (HOK7.out.keep hb)
                have HCf4 := Lib.hid (HCf7.out.keep hb)
                by_cases hlt : j < N
                · have Hlt := Lib.hid hlt
                  obtain ⟨x, hx⟩ : ∃ x, (setsN f.n)[j]? = some x := ⟨_, List.getElem?_eq_getElem (by rw [setsN_len, hNN]; exact hlt)⟩
                  obtain ⟨g, og, rfl, hg, hc⟩ := (HSL.out.keep hb) j x hx
                  have Hx64 := Lib.hid (setsN_lt hn6 x (List.mem_of_getElem? hx))
                  have hxs : x = sOf f.n j := by
                    unfold setsN setsU at hx
                    rw [List.getElem?_map, List.getElem?_range (by rw [hNN]; exact hlt)] at hx
                    injection hx with hx
                    exact hx.symm
                  have HG := Lib.hid hg
                  have HC := Lib.hid hc
                  have i1 : (j : Int) < (N : Int) := by omega
                  obtain ⟨bk, hbk⟩ : ∃ b, brkR rs (List.replicate rs.length false) x = b := ⟨_, rfl⟩
                  obtain ⟨bb, hbb⟩ : ∃ b, decide (bk < 0) = b := ⟨_, rfl⟩
                  have hnm : nmU (famO f.n) (fun i => (sOf f.n j).testBit i) f.n = nmU (famO f.n) (fun i => x.testBit i) f.n := by rw [hxs]
                  obtain ⟨L, hL⟩ : ∃ l, nmU (famO f.n) (fun i => x.testBit i) f.n = l := ⟨_, rfl⟩
                  have hnmc : ∀ W, Below wr.heap.size wr W → Calls Try.prog 19 #[f.v, .int .i64 (x : Nat)] W fun e w' => ∃ v, e = .returned v ∧ w'.ownsRow W.heap.size 9 1 v L.length (strs L) ∧ Below W.heap.size W w' := fun W hb => by
                    have h := namesR_any f (famO f.n) x W (HOKr.out.keep hb).osL HOKr.out.osl hn6 Hx64.out
                    rw [hL] at h
                    exact h
                  have halc : ∀ W, Below wr.heap.size wr W → ∀ MA mc, StrL W MA L → Calls Try.prog 15 #[f.v, .slice MA L.length mc] W fun e w' => e = .returned (.tuple #[.bool bb, .int .i64 bk, .int .i64 0]) ∧ Below W.heap.size W w' := fun W hb MA mc hM => by
                    have h := allowed_set f rs gs vs plainD MA L.length mc j W (HOKr.out.keep hb) hn6 (by rw [hNN]; exact hlt) (by rw [hnm, hL]; exact hM) (by rw [hnm, hL]) HRL.out
                    rw [← hxs, hbk, hbb] at h
                    exact h
                  have HNm := Lib.hid hnmc
                  have HAl := Lib.hid halc
                  clear hnmc halc
                  have Hbk := Lib.hid hbk
                  have Hbb := Lib.hid hbb
                  clear hbk hbb hxs hnm hL hx hg hc hb
                  go_upto_region 20 with fail
                  have HS := Lib.hid (fun w' (hb : Below wr.heap.size wr w') => (show w'.cell? ⟨pf, 0, none⟩ = some (.string f.nm) ∧ w'.cell? ⟨pf, 1, none⟩ = some (.slice f.PA f.pn f.pc) ∧ w'.cell? ⟨pf, 2, none⟩ = some (.slice f.IA f.iN f.ic) ∧ w'.cell? ⟨pf, 3, none⟩ = some (.slice f.DA f.dn f.dc) ∧ w'.cell? ⟨pf, 4, none⟩ = some (.slice f.KA f.kn f.kc) ∧ w'.cell? ⟨pf, 5, none⟩ = some (.slice f.QA f.qn f.qc) ∧ w'.cell? ⟨pf, 6, none⟩ = some (.slice f.OA f.n f.oc) ∧ w'.cell? ⟨pf, 7, none⟩ = some (.slice f.RA f.rn f.rc) ∧ w'.cell? ⟨pf, 8, none⟩ = some (.slice f.GA f.gn f.gc) ∧ w'.cell? ⟨pf, 9, none⟩ = some (.slice f.VA f.vn f.vc) ∧ w'.cell? ⟨g, og + j, none⟩ = some (.int .i64 (x : Nat)) from ⟨(HCf4.out.keep hb).at_ 0, (HCf4.out.keep hb).at_ 1, (HCf4.out.keep hb).at_ 2, (HCf4.out.keep hb).at_ 3, (HCf4.out.keep hb).at_ 4, (HCf4.out.keep hb).at_ 5, (HCf4.out.keep hb).at_ 6, (HCf4.out.keep hb).at_ 7, (HCf4.out.keep hb).at_ 8, (HCf4.out.keep hb).at_ 9, (hb.cell (p := ⟨g, og + j, none⟩) HG.out).trans HC.out⟩))
                  refine Till.begin 7 (fun w' => w'.cell? ⟨pf, 0, none⟩ = some (.string f.nm) ∧ w'.cell? ⟨pf, 1, none⟩ = some (.slice f.PA f.pn f.pc) ∧ w'.cell? ⟨pf, 2, none⟩ = some (.slice f.IA f.iN f.ic) ∧ w'.cell? ⟨pf, 3, none⟩ = some (.slice f.DA f.dn f.dc) ∧ w'.cell? ⟨pf, 4, none⟩ = some (.slice f.KA f.kn f.kc) ∧ w'.cell? ⟨pf, 5, none⟩ = some (.slice f.QA f.qn f.qc) ∧ w'.cell? ⟨pf, 6, none⟩ = some (.slice f.OA f.n f.oc) ∧ w'.cell? ⟨pf, 7, none⟩ = some (.slice f.RA f.rn f.rc) ∧ w'.cell? ⟨pf, 8, none⟩ = some (.slice f.GA f.gn f.gc) ∧ w'.cell? ⟨pf, 9, none⟩ = some (.slice f.VA f.vn f.vc) ∧ w'.cell? ⟨g, og + j, none⟩ = some (.int .i64 (x : Nat))) (by kernel_rfl) (HS.out _ (Below.refl _ _).drew) (fun hH => ?_)
                  clear hH
                  have HB0 := Lib.hid (Below.refl wr.heap.size wr).drew
                  generalize wr.drew = V0 at HB0 ⊢
                  try simp only [List.setIfInBounds_toArray, List.set_cons_zero, List.set_cons_succ]
                  refine Till.tL 0 [7] 96 (.agg #[.string f.nm, .slice f.PA f.pn f.pc, .slice f.IA f.iN f.ic, .slice f.DA f.dn f.dc, .slice f.KA f.kn f.kc, .slice f.QA f.qn f.qc, .slice f.OA f.n f.oc, .slice f.RA f.rn f.rc, .slice f.GA f.gn f.gc, .slice f.VA f.vn f.vc]) (HS.out _ HB0.out) ?_
                  try simp only [Act.put, List.setIfInBounds_toArray, List.set_cons_zero, List.set_cons_succ]
                  refine Till.tL 1 [2, 7] 97 (.agg #[.string f.nm, .slice f.PA f.pn f.pc, .slice f.IA f.iN f.ic, .slice f.DA f.dn f.dc, .slice f.KA f.kn f.kc, .slice f.QA f.qn f.qc, .slice f.OA f.n f.oc, .slice f.RA f.rn f.rc, .slice f.GA f.gn f.gc, .slice f.VA f.vn f.vc]) (HS.out _ HB0.out) ?_
                  try simp only [Act.put, List.setIfInBounds_toArray, List.set_cons_zero, List.set_cons_succ]
                  refine Till.tL 3 [5, 6, 7] 99 (.slice (some ⟨g, og, none⟩) N sc) (HS.out _ HB0.out) ?_
                  try simp only [Act.put, List.setIfInBounds_toArray, List.set_cons_zero, List.set_cons_succ]
                  refine Till.tL 4 [5, 6, 7] 100 (.int .i64 (j : Nat)) (HS.out _ HB0.out) ?_
                  try simp only [Act.put, List.setIfInBounds_toArray, List.set_cons_zero, List.set_cons_succ]
                  refine Till.tL 5 [6, 7] 101 (.pointer (some ⟨g, og + j, none⟩)) (HS.out _ HB0.out) ?_
                  try simp only [Act.put, List.setIfInBounds_toArray, List.set_cons_zero, List.set_cons_succ]
                  refine Till.tL 6 [7] 102 (.int .i64 (x : Nat)) (HS.out _ HB0.out) ?_
                  try simp only [Act.put, List.setIfInBounds_toArray, List.set_cons_zero, List.set_cons_succ]
                  refine Till.one (i := 2) (by kernel_rfl) rfl (fun K hK => ?_)
                  go_simp
                  refine (noneN_any f (famO f.n) rs gs vs plainD V0 (HOKr.out.keep HB0.out)).mono ?_
                  rintro e V1 ⟨XA, xc, rfl, hX, hb⟩
                  have HB1 := Lib.hid (below_on HB0.out hb)
                  have HX := Lib.hid hX
                  refine hK.out _ _ (fun _ => HS.out _ HB1.out) ?_
                  clear hK K hX hb
                  try simp only [List.setIfInBounds_toArray, List.set_cons_zero, List.set_cons_succ]
                  refine Till.one (i := 7) (by kernel_rfl) rfl (fun K hK => ?_)
                  go_simp
                  refine (broken_any f rs XA f.rn xc (List.replicate rs.length false) x V1 (HOKr.out.keep HB1.out).rsL HOKr.out.rsl (by have := HOKr.out.r48; omega) HRL6.out HX.out (by rw [List.length_replicate]; exact HOKr.out.rsl) rfl Hx64.out).mono ?_
                  rintro e V2 ⟨rfl, hb⟩
                  have HB2 := Lib.hid (below_on HB1.out hb)
                  refine hK.out _ _ (fun h => absurd h (by simp)) ?_
                  clear hK K hb HX
                  try simp only [List.setIfInBounds_toArray, List.set_cons_zero, List.set_cons_succ]
                  refine Till.one (i := 8) (by kernel_rfl) rfl (fun K hK => ?_)
                  go_simp
                  refine hK.out _ _ (fun h => absurd h (by simp)) ?_
                  clear hK K
                  try simp only [List.setIfInBounds_toArray, List.set_cons_zero, List.set_cons_succ]
                  refine Till.done (by kernel_rfl) ?_ _
                  clear HS
                  have B20 := Lib.hid HB2.out
                  have HNm := Lib.hid (fun W (hb : Below V2.heap.size V2 W) => HNm.out W (below_on B20.out hb))
                  have HAl := Lib.hid (fun W (hb : Below V2.heap.size V2 W) => HAl.out W (below_on B20.out hb))
                  have HCf4 := Lib.hid (HCf4.out.keep HB2.out)
                  have HC := Lib.hid ((HB2.out.cell (p := ⟨g, og + j, none⟩) HG.out).trans HC.out)
                  have HG := Lib.hid (Nat.lt_of_lt_of_le HG.out HB2.out.size)
                  rw [Hbk.out]
                  clear HB0 HB1 HB2 HOKr
                  obtain ⟨wq, rfl⟩ : ∃ x, x = V2 := ⟨_, rfl⟩
                  go_upto_region 21 with fail
                  have HS := Lib.hid (fun w' (hb : Below wq.heap.size wq w') => (show w'.cell? ⟨pf, 0, none⟩ = some (.string f.nm) ∧ w'.cell? ⟨pf, 1, none⟩ = some (.slice f.PA f.pn f.pc) ∧ w'.cell? ⟨pf, 2, none⟩ = some (.slice f.IA f.iN f.ic) ∧ w'.cell? ⟨pf, 3, none⟩ = some (.slice f.DA f.dn f.dc) ∧ w'.cell? ⟨pf, 4, none⟩ = some (.slice f.KA f.kn f.kc) ∧ w'.cell? ⟨pf, 5, none⟩ = some (.slice f.QA f.qn f.qc) ∧ w'.cell? ⟨pf, 6, none⟩ = some (.slice f.OA f.n f.oc) ∧ w'.cell? ⟨pf, 7, none⟩ = some (.slice f.RA f.rn f.rc) ∧ w'.cell? ⟨pf, 8, none⟩ = some (.slice f.GA f.gn f.gc) ∧ w'.cell? ⟨pf, 9, none⟩ = some (.slice f.VA f.vn f.vc) ∧ w'.cell? ⟨g, og + j, none⟩ = some (.int .i64 (x : Nat)) from ⟨(HCf4.out.keep hb).at_ 0, (HCf4.out.keep hb).at_ 1, (HCf4.out.keep hb).at_ 2, (HCf4.out.keep hb).at_ 3, (HCf4.out.keep hb).at_ 4, (HCf4.out.keep hb).at_ 5, (HCf4.out.keep hb).at_ 6, (HCf4.out.keep hb).at_ 7, (HCf4.out.keep hb).at_ 8, (HCf4.out.keep hb).at_ 9, (hb.cell (p := ⟨g, og + j, none⟩) HG.out).trans HC.out⟩))
                  refine Till.begin 14 (fun w' => w'.cell? ⟨pf, 0, none⟩ = some (.string f.nm) ∧ w'.cell? ⟨pf, 1, none⟩ = some (.slice f.PA f.pn f.pc) ∧ w'.cell? ⟨pf, 2, none⟩ = some (.slice f.IA f.iN f.ic) ∧ w'.cell? ⟨pf, 3, none⟩ = some (.slice f.DA f.dn f.dc) ∧ w'.cell? ⟨pf, 4, none⟩ = some (.slice f.KA f.kn f.kc) ∧ w'.cell? ⟨pf, 5, none⟩ = some (.slice f.QA f.qn f.qc) ∧ w'.cell? ⟨pf, 6, none⟩ = some (.slice f.OA f.n f.oc) ∧ w'.cell? ⟨pf, 7, none⟩ = some (.slice f.RA f.rn f.rc) ∧ w'.cell? ⟨pf, 8, none⟩ = some (.slice f.GA f.gn f.gc) ∧ w'.cell? ⟨pf, 9, none⟩ = some (.slice f.VA f.vn f.vc) ∧ w'.cell? ⟨g, og + j, none⟩ = some (.int .i64 (x : Nat))) (by kernel_rfl) (HS.out _ (Below.refl _ _).drew) (fun hH => ?_)
                  clear hH
                  have HB0 := Lib.hid (Below.refl wq.heap.size wq).drew
                  generalize wq.drew = Y0 at HB0 ⊢
                  try simp only [List.setIfInBounds_toArray, List.set_cons_zero, List.set_cons_succ]
                  refine Till.tL 0 [7, 8, 11, 14] 105 (.agg #[.string f.nm, .slice f.PA f.pn f.pc, .slice f.IA f.iN f.ic, .slice f.DA f.dn f.dc, .slice f.KA f.kn f.kc, .slice f.QA f.qn f.qc, .slice f.OA f.n f.oc, .slice f.RA f.rn f.rc, .slice f.GA f.gn f.gc, .slice f.VA f.vn f.vc]) (HS.out _ HB0.out) ?_
                  try simp only [Act.put, List.setIfInBounds_toArray, List.set_cons_zero, List.set_cons_succ]
                  refine Till.tL 1 [6, 7, 8, 11, 14] 106 (.agg #[.string f.nm, .slice f.PA f.pn f.pc, .slice f.IA f.iN f.ic, .slice f.DA f.dn f.dc, .slice f.KA f.kn f.kc, .slice f.QA f.qn f.qc, .slice f.OA f.n f.oc, .slice f.RA f.rn f.rc, .slice f.GA f.gn f.gc, .slice f.VA f.vn f.vc]) (HS.out _ HB0.out) ?_
                  try simp only [Act.put, List.setIfInBounds_toArray, List.set_cons_zero, List.set_cons_succ]
                  refine Till.tL 2 [4, 5, 6, 7, 8, 11, 14] 107 (.slice (some ⟨g, og, none⟩) N sc) (HS.out _ HB0.out) ?_
                  try simp only [Act.put, List.setIfInBounds_toArray, List.set_cons_zero, List.set_cons_succ]
                  refine Till.tL 3 [4, 5, 6, 7, 8, 11, 14] 108 (.int .i64 (j : Nat)) (HS.out _ HB0.out) ?_
                  try simp only [Act.put, List.setIfInBounds_toArray, List.set_cons_zero, List.set_cons_succ]
                  refine Till.tL 4 [5, 6, 7, 8, 11, 14] 109 (.pointer (some ⟨g, og + j, none⟩)) (HS.out _ HB0.out) ?_
                  try simp only [Act.put, List.setIfInBounds_toArray, List.set_cons_zero, List.set_cons_succ]
                  refine Till.tL 5 [6, 7, 8, 11, 14] 110 (.int .i64 (x : Nat)) (HS.out _ HB0.out) ?_
                  try simp only [Act.put, List.setIfInBounds_toArray, List.set_cons_zero, List.set_cons_succ]
                  refine Till.one (i := 6) (by kernel_rfl) rfl (fun K hK => ?_)
                  go_simp
                  refine (HNm.out Y0 HB0.out).mono ?_
                  rintro e Y1 ⟨v, rfl, hown, hb⟩
                  obtain ⟨MA, mc, rfl, hM, _⟩ := own_strs hown
                  have HB1 := Lib.hid (below_on HB0.out hb)
                  have HM := Lib.hid hM
                  refine hK.out _ _ (fun _ => HS.out _ HB1.out) ?_
                  clear hK K hM hown hb
                  try simp only [List.setIfInBounds_toArray, List.set_cons_zero, List.set_cons_succ]
                  refine Till.one (i := 7) (by kernel_rfl) rfl (fun K hK => ?_)
                  go_simp
                  refine (HAl.out Y1 HB1.out MA mc HM.out).mono ?_
                  rintro e Y2 ⟨rfl, hb⟩
                  have HB2 := Lib.hid (below_on HB1.out hb)
                  refine hK.out _ _ (fun _ => HS.out _ HB2.out) ?_
                  clear hK K hb HM
                  try simp only [List.setIfInBounds_toArray, List.set_cons_zero, List.set_cons_succ]
                  refine Till.tL 8 [11, 14] 104 (.tuple #[.bool bb, .int .i64 bk, .int .i64 0]) (HS.out _ HB2.out) ?_
                  try simp only [Act.put, List.setIfInBounds_toArray, List.set_cons_zero, List.set_cons_succ]
                  refine Till.tL 9 [12, 13, 14] 113 (.bool bb) (HS.out _ HB2.out) ?_
                  try simp only [Act.put, List.setIfInBounds_toArray, List.set_cons_zero, List.set_cons_succ]
                  refine Till.tL 10 [13, 14] 114 (.int .i64 bk) (HS.out _ HB2.out) ?_
                  try simp only [Act.put, List.setIfInBounds_toArray, List.set_cons_zero, List.set_cons_succ]
                  refine Till.tL 11 [14] 115 (.int .i64 0) (HS.out _ HB2.out) ?_
                  try simp only [Act.put, List.setIfInBounds_toArray, List.set_cons_zero, List.set_cons_succ]
                  refine Till.tL 12 [13, 14] 16 (.bool bb) (HS.out _ HB2.out) ?_
                  try simp only [Act.put, List.setIfInBounds_toArray, List.set_cons_zero, List.set_cons_succ]
                  refine Till.tL 13 [14] 17 (.int .i64 bk) (HS.out _ HB2.out) ?_
                  try simp only [Act.put, List.setIfInBounds_toArray, List.set_cons_zero, List.set_cons_succ]
                  refine Till.one (i := 14) (by kernel_rfl) rfl (fun K hK => ?_)
                  go_simp
                  refine hK.out _ _ (fun h => absurd h (by simp)) ?_
                  clear hK K
                  try simp only [List.setIfInBounds_toArray, List.set_cons_zero, List.set_cons_succ]
                  refine Till.done (by kernel_rfl) ?_ _
                  clear HS
                  have HBq := Lib.hid (below_on Br.out (below_on B20.out HB2.out))
                  have e6 := Hbb.out
                  clear HB0 HB1 HB2
                  cases bb
                  all_goals (go_wp2_with fail; go_roundw)
                  all_goals first | exact ⟨j + 1, by go_num, Hlt.out, HBq.out⟩ | (simp [intOf]; have := Hlt.out; omega)
                · go_wp2_with fail
                  go_ret
                  exact ⟨rfl, below_on HK7.out Br.out⟩
            · go_wp2_with fail
              refine hsets.out.mono ?_
              rintro e w7 ⟨sv, rfl, hown, hb⟩
              obtain ⟨SA, sc, rfl, hN⟩ := own_nats hown (by rw [setsN_len, hNN])
              have HSL := Lib.hid hN
              have HOK7 := Lib.hid (HOK6.out.keep hb)
              have HCf7 := Lib.hid (HCf4.out.keep hb)
              have HK7 := Lib.hid (below_on HK6.out hb)
              clear hown hN hb c0 c1 c2 c3 c4 c5 c6 c7 c8 c9 HCf4 HOK6 HK6 H6 e5 Hbk Hbb hsets
              go_wp2_with fail
              go_loopw [14, 15, 16, 17, 18] (fun i _ _ _ _ wr => ∃ j : Nat, i = .int .i64 (j : Nat) ∧ j ≤ N ∧ Below w7.heap.size w7 wr) (fun i _ _ _ _ _ => N - (intOf i).toNat)
              case atStart => exact ⟨0, rfl, Nat.zero_le _, Below.refl _ _⟩
              case round =>
                obtain ⟨j, rfl, hj, hb⟩ := hrel
                have Br := Lib.hid hb
                have HOKr := Lib.hid (HOK7.out.keep hb)
                have HCf4 := Lib.hid (HCf7.out.keep hb)
                by_cases hlt : j < N
                · have Hlt := Lib.hid hlt
                  obtain ⟨x, hx⟩ : ∃ x, (setsN f.n)[j]? = some x := ⟨_, List.getElem?_eq_getElem (by rw [setsN_len, hNN]; exact hlt)⟩
                  obtain ⟨g, og, rfl, hg, hc⟩ := (HSL.out.keep hb) j x hx
                  have Hx64 := Lib.hid (setsN_lt hn6 x (List.mem_of_getElem? hx))
                  have hxs : x = sOf f.n j := by
                    unfold setsN setsU at hx
                    rw [List.getElem?_map, List.getElem?_range (by rw [hNN]; exact hlt)] at hx
                    injection hx with hx
                    exact hx.symm
                  have HG := Lib.hid hg
                  have HC := Lib.hid hc
                  have i1 : (j : Int) < (N : Int) := by omega
                  obtain ⟨bk, hbk⟩ : ∃ b, brkR rs (List.replicate rs.length false) x = b := ⟨_, rfl⟩
                  obtain ⟨bb, hbb⟩ : ∃ b, decide (bk < 0) = b := ⟨_, rfl⟩
                  have hnm : nmU (famO f.n) (fun i => (sOf f.n j).testBit i) f.n = nmU (famO f.n) (fun i => x.testBit i) f.n := by rw [hxs]
                  obtain ⟨L, hL⟩ : ∃ l, nmU (famO f.n) (fun i => x.testBit i) f.n = l := ⟨_, rfl⟩
                  have hnmc : ∀ W, Below wr.heap.size wr W → Calls Try.prog 19 #[f.v, .int .i64 (x : Nat)] W fun e w' => ∃ v, e = .returned v ∧ w'.ownsRow W.heap.size 9 1 v L.length (strs L) ∧ Below W.heap.size W w' := fun W hb => by
                    have h := namesR_any f (famO f.n) x W (HOKr.out.keep hb).osL HOKr.out.osl hn6 Hx64.out
                    rw [hL] at h
                    exact h
                  have halc : ∀ W, Below wr.heap.size wr W → ∀ MA mc, StrL W MA L → Calls Try.prog 15 #[f.v, .slice MA L.length mc] W fun e w' => e = .returned (.tuple #[.bool bb, .int .i64 bk, .int .i64 0]) ∧ Below W.heap.size W w' := fun W hb MA mc hM => by
                    have h := allowed_set f rs gs vs plainD MA L.length mc j W (HOKr.out.keep hb) hn6 (by rw [hNN]; exact hlt) (by rw [hnm, hL]; exact hM) (by rw [hnm, hL]) HRL.out
                    rw [← hxs, hbk, hbb] at h
                    exact h
                  have HNm := Lib.hid hnmc
                  have HAl := Lib.hid halc
                  clear hnmc halc
                  have Hbk := Lib.hid hbk
                  have Hbb := Lib.hid hbb
                  clear hbk hbb hxs hnm hL hx hg hc hb
                  go_upto_region 20 with fail
                  have HS := Lib.hid (fun w' (hb : Below wr.heap.size wr w') => (show w'.cell? ⟨pf, 0, none⟩ = some (.string f.nm) ∧ w'.cell? ⟨pf, 1, none⟩ = some (.slice f.PA f.pn f.pc) ∧ w'.cell? ⟨pf, 2, none⟩ = some (.slice f.IA f.iN f.ic) ∧ w'.cell? ⟨pf, 3, none⟩ = some (.slice f.DA f.dn f.dc) ∧ w'.cell? ⟨pf, 4, none⟩ = some (.slice f.KA f.kn f.kc) ∧ w'.cell? ⟨pf, 5, none⟩ = some (.slice f.QA f.qn f.qc) ∧ w'.cell? ⟨pf, 6, none⟩ = some (.slice f.OA f.n f.oc) ∧ w'.cell? ⟨pf, 7, none⟩ = some (.slice f.RA f.rn f.rc) ∧ w'.cell? ⟨pf, 8, none⟩ = some (.slice f.GA f.gn f.gc) ∧ w'.cell? ⟨pf, 9, none⟩ = some (.slice f.VA f.vn f.vc) ∧ w'.cell? ⟨g, og + j, none⟩ = some (.int .i64 (x : Nat)) from ⟨(HCf4.out.keep hb).at_ 0, (HCf4.out.keep hb).at_ 1, (HCf4.out.keep hb).at_ 2, (HCf4.out.keep hb).at_ 3, (HCf4.out.keep hb).at_ 4, (HCf4.out.keep hb).at_ 5, (HCf4.out.keep hb).at_ 6, (HCf4.out.keep hb).at_ 7, (HCf4.out.keep hb).at_ 8, (HCf4.out.keep hb).at_ 9, (hb.cell (p := ⟨g, og + j, none⟩) HG.out).trans HC.out⟩))
                  refine Till.begin 7 (fun w' => w'.cell? ⟨pf, 0, none⟩ = some (.string f.nm) ∧ w'.cell? ⟨pf, 1, none⟩ = some (.slice f.PA f.pn f.pc) ∧ w'.cell? ⟨pf, 2, none⟩ = some (.slice f.IA f.iN f.ic) ∧ w'.cell? ⟨pf, 3, none⟩ = some (.slice f.DA f.dn f.dc) ∧ w'.cell? ⟨pf, 4, none⟩ = some (.slice f.KA f.kn f.kc) ∧ w'.cell? ⟨pf, 5, none⟩ = some (.slice f.QA f.qn f.qc) ∧ w'.cell? ⟨pf, 6, none⟩ = some (.slice f.OA f.n f.oc) ∧ w'.cell? ⟨pf, 7, none⟩ = some (.slice f.RA f.rn f.rc) ∧ w'.cell? ⟨pf, 8, none⟩ = some (.slice f.GA f.gn f.gc) ∧ w'.cell? ⟨pf, 9, none⟩ = some (.slice f.VA f.vn f.vc) ∧ w'.cell? ⟨g, og + j, none⟩ = some (.int .i64 (x : Nat))) (by kernel_rfl) (HS.out _ (Below.refl _ _).drew) (fun hH => ?_)
                  clear hH
                  have HB0 := Lib.hid (Below.refl wr.heap.size wr).drew
                  generalize wr.drew = V0 at HB0 ⊢
                  try simp only [List.setIfInBounds_toArray, List.set_cons_zero, List.set_cons_succ]
                  refine Till.tL 0 [7] 96 (.agg #[.string f.nm, .slice f.PA f.pn f.pc, .slice f.IA f.iN f.ic, .slice f.DA f.dn f.dc, .slice f.KA f.kn f.kc, .slice f.QA f.qn f.qc, .slice f.OA f.n f.oc, .slice f.RA f.rn f.rc, .slice f.GA f.gn f.gc, .slice f.VA f.vn f.vc]) (HS.out _ HB0.out) ?_
                  try simp only [Act.put, List.setIfInBounds_toArray, List.set_cons_zero, List.set_cons_succ]
                  refine Till.tL 1 [2, 7] 97 (.agg #[.string f.nm, .slice f.PA f.pn f.pc, .slice f.IA f.iN f.ic, .slice f.DA f.dn f.dc, .slice f.KA f.kn f.kc, .slice f.QA f.qn f.qc, .slice f.OA f.n f.oc, .slice f.RA f.rn f.rc, .slice f.GA f.gn f.gc, .slice f.VA f.vn f.vc]) (HS.out _ HB0.out) ?_
                  try simp only [Act.put, List.setIfInBounds_toArray, List.set_cons_zero, List.set_cons_succ]
                  refine Till.tL 3 [5, 6, 7] 99 (.slice (some ⟨g, og, none⟩) N sc) (HS.out _ HB0.out) ?_
                  try simp only [Act.put, List.setIfInBounds_toArray, List.set_cons_zero, List.set_cons_succ]
                  refine Till.tL 4 [5, 6, 7] 100 (.int .i64 (j : Nat)) (HS.out _ HB0.out) ?_
                  try simp only [Act.put, List.setIfInBounds_toArray, List.set_cons_zero, List.set_cons_succ]
                  refine Till.tL 5 [6, 7] 101 (.pointer (some ⟨g, og + j, none⟩)) (HS.out _ HB0.out) ?_
                  try simp only [Act.put, List.setIfInBounds_toArray, List.set_cons_zero, List.set_cons_succ]
                  refine Till.tL 6 [7] 102 (.int .i64 (x : Nat)) (HS.out _ HB0.out) ?_
                  try simp only [Act.put, List.setIfInBounds_toArray, List.set_cons_zero, List.set_cons_succ]
                  refine Till.one (i := 2) (by kernel_rfl) rfl (fun K hK => ?_)
                  go_simp
                  refine (noneN_any f (famO f.n) rs gs vs plainD V0 (HOKr.out.keep HB0.out)).mono ?_
                  rintro e V1 ⟨XA, xc, rfl, hX, hb⟩
                  have HB1 := Lib.hid (below_on HB0.out hb)
                  have HX := Lib.hid hX
                  refine hK.out _ _ (fun _ => HS.out _ HB1.out) ?_
                  clear hK K hX hb
                  try simp only [List.setIfInBounds_toArray, List.set_cons_zero, List.set_cons_succ]
                  refine Till.one (i := 7) (by kernel_rfl) rfl (fun K hK => ?_)
                  go_simp
                  refine (broken_any f rs XA f.rn xc (List.replicate rs.length false) x V1 (HOKr.out.keep HB1.out).rsL HOKr.out.rsl (by have := HOKr.out.r48; omega) HRL6.out HX.out (by rw [List.length_replicate]; exact HOKr.out.rsl) rfl Hx64.out).mono ?_
                  rintro e V2 ⟨rfl, hb⟩
                  have HB2 := Lib.hid (below_on HB1.out hb)
                  refine hK.out _ _ (fun h => absurd h (by simp)) ?_
                  clear hK K hb HX
                  try simp only [List.setIfInBounds_toArray, List.set_cons_zero, List.set_cons_succ]
                  refine Till.one (i := 8) (by kernel_rfl) rfl (fun K hK => ?_)
                  go_simp
                  refine hK.out _ _ (fun h => absurd h (by simp)) ?_
                  clear hK K
                  try simp only [List.setIfInBounds_toArray, List.set_cons_zero, List.set_cons_succ]
                  refine Till.done (by kernel_rfl) ?_ _
                  clear HS
                  have B20 := Lib.hid HB2.out
                  have HNm := Lib.hid (fun W (hb : Below V2.heap.size V2 W) => HNm.out W (below_on B20.out hb))
                  have HAl := Lib.hid (fun W (hb : Below V2.heap.size V2 W) => HAl.out W (below_on B20.out hb))
                  have HCf4 := Lib.hid (HCf4.out.keep HB2.out)
                  have HC := Lib.hid ((HB2.out.cell (p := ⟨g, og + j, none⟩) HG.out).trans HC.out)
                  have HG := Lib.hid (Nat.lt_of_lt_of_le HG.out HB2.out.size)
                  rw [Hbk.out]
                  clear HB0 HB1 HB2 HOKr
                  obtain ⟨wq, rfl⟩ : ∃ x, x = V2 := ⟨_, rfl⟩
                  go_upto_region 21 with fail
                  have HS := Lib.hid (fun w' (hb : Below wq.heap.size wq w') => (show w'.cell? ⟨pf, 0, none⟩ = some (.string f.nm) ∧ w'.cell? ⟨pf, 1, none⟩ = some (.slice f.PA f.pn f.pc) ∧ w'.cell? ⟨pf, 2, none⟩ = some (.slice f.IA f.iN f.ic) ∧ w'.cell? ⟨pf, 3, none⟩ = some (.slice f.DA f.dn f.dc) ∧ w'.cell? ⟨pf, 4, none⟩ = some (.slice f.KA f.kn f.kc) ∧ w'.cell? ⟨pf, 5, none⟩ = some (.slice f.QA f.qn f.qc) ∧ w'.cell? ⟨pf, 6, none⟩ = some (.slice f.OA f.n f.oc) ∧ w'.cell? ⟨pf, 7, none⟩ = some (.slice f.RA f.rn f.rc) ∧ w'.cell? ⟨pf, 8, none⟩ = some (.slice f.GA f.gn f.gc) ∧ w'.cell? ⟨pf, 9, none⟩ = some (.slice f.VA f.vn f.vc) ∧ w'.cell? ⟨g, og + j, none⟩ = some (.int .i64 (x : Nat)) from ⟨(HCf4.out.keep hb).at_ 0, (HCf4.out.keep hb).at_ 1, (HCf4.out.keep hb).at_ 2, (HCf4.out.keep hb).at_ 3, (HCf4.out.keep hb).at_ 4, (HCf4.out.keep hb).at_ 5, (HCf4.out.keep hb).at_ 6, (HCf4.out.keep hb).at_ 7, (HCf4.out.keep hb).at_ 8, (HCf4.out.keep hb).at_ 9, (hb.cell (p := ⟨g, og + j, none⟩) HG.out).trans HC.out⟩))
                  refine Till.begin 14 (fun w' => w'.cell? ⟨pf, 0, none⟩ = some (.string f.nm) ∧ w'.cell? ⟨pf, 1, none⟩ = some (.slice f.PA f.pn f.pc) ∧ w'.cell? ⟨pf, 2, none⟩ = some (.slice f.IA f.iN f.ic) ∧ w'.cell? ⟨pf, 3, none⟩ = some (.slice f.DA f.dn f.dc) ∧ w'.cell? ⟨pf, 4, none⟩ = some (.slice f.KA f.kn f.kc) ∧ w'.cell? ⟨pf, 5, none⟩ = some (.slice f.QA f.qn f.qc) ∧ w'.cell? ⟨pf, 6, none⟩ = some (.slice f.OA f.n f.oc) ∧ w'.cell? ⟨pf, 7, none⟩ = some (.slice f.RA f.rn f.rc) ∧ w'.cell? ⟨pf, 8, none⟩ = some (.slice f.GA f.gn f.gc) ∧ w'.cell? ⟨pf, 9, none⟩ = some (.slice f.VA f.vn f.vc) ∧ w'.cell? ⟨g, og + j, none⟩ = some (.int .i64 (x : Nat))) (by kernel_rfl) (HS.out _ (Below.refl _ _).drew) (fun hH => ?_)
                  clear hH
                  have HB0 := Lib.hid (Below.refl wq.heap.size wq).drew
                  generalize wq.drew = Y0 at HB0 ⊢
                  try simp only [List.setIfInBounds_toArray, List.set_cons_zero, List.set_cons_succ]
                  refine Till.tL 0 [7, 8, 11, 14] 105 (.agg #[.string f.nm, .slice f.PA f.pn f.pc, .slice f.IA f.iN f.ic, .slice f.DA f.dn f.dc, .slice f.KA f.kn f.kc, .slice f.QA f.qn f.qc, .slice f.OA f.n f.oc, .slice f.RA f.rn f.rc, .slice f.GA f.gn f.gc, .slice f.VA f.vn f.vc]) (HS.out _ HB0.out) ?_
                  try simp only [Act.put, List.setIfInBounds_toArray, List.set_cons_zero, List.set_cons_succ]
                  refine Till.tL 1 [6, 7, 8, 11, 14] 106 (.agg #[.string f.nm, .slice f.PA f.pn f.pc, .slice f.IA f.iN f.ic, .slice f.DA f.dn f.dc, .slice f.KA f.kn f.kc, .slice f.QA f.qn f.qc, .slice f.OA f.n f.oc, .slice f.RA f.rn f.rc, .slice f.GA f.gn f.gc, .slice f.VA f.vn f.vc]) (HS.out _ HB0.out) ?_
                  try simp only [Act.put, List.setIfInBounds_toArray, List.set_cons_zero, List.set_cons_succ]
                  refine Till.tL 2 [4, 5, 6, 7, 8, 11, 14] 107 (.slice (some ⟨g, og, none⟩) N sc) (HS.out _ HB0.out) ?_
                  try simp only [Act.put, List.setIfInBounds_toArray, List.set_cons_zero, List.set_cons_succ]
                  refine Till.tL 3 [4, 5, 6, 7, 8, 11, 14] 108 (.int .i64 (j : Nat)) (HS.out _ HB0.out) ?_
                  try simp only [Act.put, List.setIfInBounds_toArray, List.set_cons_zero, List.set_cons_succ]
                  refine Till.tL 4 [5, 6, 7, 8, 11, 14] 109 (.pointer (some ⟨g, og + j, none⟩)) (HS.out _ HB0.out) ?_
                  try simp only [Act.put, List.setIfInBounds_toArray, List.set_cons_zero, List.set_cons_succ]
                  refine Till.tL 5 [6, 7, 8, 11, 14] 110 (.int .i64 (x : Nat)) (HS.out _ HB0.out) ?_
                  try simp only [Act.put, List.setIfInBounds_toArray, List.set_cons_zero, List.set_cons_succ]
                  refine Till.one (i := 6) (by kernel_rfl) rfl (fun K hK => ?_)
                  go_simp
                  refine (HNm.out Y0 HB0.out).mono ?_
                  rintro e Y1 ⟨v, rfl, hown, hb⟩
                  obtain ⟨MA, mc, rfl, hM, _⟩ := own_strs hown
                  have HB1 := Lib.hid (below_on HB0.out hb)
                  have HM := Lib.hid hM
                  refine hK.out _ _ (fun _ => HS.out _ HB1.out) ?_
                  clear hK K hM hown hb
                  try simp only [List.setIfInBounds_toArray, List.set_cons_zero, List.set_cons_succ]
                  refine Till.one (i := 7) (by kernel_rfl) rfl (fun K hK => ?_)
                  go_simp
                  refine (HAl.out Y1 HB1.out MA mc HM.out).mono ?_
                  rintro e Y2 ⟨rfl, hb⟩
                  have HB2 := Lib.hid (below_on HB1.out hb)
                  refine hK.out _ _ (fun _ => HS.out _ HB2.out) ?_
                  clear hK K hb HM
                  try simp only [List.setIfInBounds_toArray, List.set_cons_zero, List.set_cons_succ]
                  refine Till.tL 8 [11, 14] 104 (.tuple #[.bool bb, .int .i64 bk, .int .i64 0]) (HS.out _ HB2.out) ?_
                  try simp only [Act.put, List.setIfInBounds_toArray, List.set_cons_zero, List.set_cons_succ]
                  refine Till.tL 9 [12, 13, 14] 113 (.bool bb) (HS.out _ HB2.out) ?_
                  try simp only [Act.put, List.setIfInBounds_toArray, List.set_cons_zero, List.set_cons_succ]
                  refine Till.tL 10 [13, 14] 114 (.int .i64 bk) (HS.out _ HB2.out) ?_
                  try simp only [Act.put, List.setIfInBounds_toArray, List.set_cons_zero, List.set_cons_succ]
                  refine Till.tL 11 [14] 115 (.int .i64 0) (HS.out _ HB2.out) ?_
                  try simp only [Act.put, List.setIfInBounds_toArray, List.set_cons_zero, List.set_cons_succ]
                  refine Till.tL 12 [13, 14] 16 (.bool bb) (HS.out _ HB2.out) ?_
                  try simp only [Act.put, List.setIfInBounds_toArray, List.set_cons_zero, List.set_cons_succ]
                  refine Till.tL 13 [14] 17 (.int .i64 bk) (HS.out _ HB2.out) ?_
                  try simp only [Act.put, List.setIfInBounds_toArray, List.set_cons_zero, List.set_cons_succ]
                  refine Till.one (i := 14) (by kernel_rfl) rfl (fun K hK => ?_)
                  go_simp
                  refine hK.out _ _ (fun h => absurd h (by simp)) ?_
                  clear hK K
                  try simp only [List.setIfInBounds_toArray, List.set_cons_zero, List.set_cons_succ]
                  refine Till.done (by kernel_rfl) ?_ _
                  clear HS
                  have HBq := Lib.hid (below_on Br.out (below_on B20.out HB2.out))
                  have e6 := Hbb.out
                  clear HB0 HB1 HB2
                  cases bb
                  all_goals (go_wp2_with fail; go_roundw)
                  all_goals first | exact ⟨j + 1, by go_num, Hlt.out, HBq.out⟩ | (simp [intOf]; have := Hlt.out; omega)
                · go_wp2_with fail
                  go_ret
                  exact ⟨rfl, below_on HK7.out Br.out⟩
          · have he : e = .returned (.tuple #[.bool false, .int .i64 0, .int .i64 er]) := he.trans (by simp only [alwR, if_neg her])
            subst he
            have e3 : decide (er ≠ 0) = true := decide_eq_true her
            go_wp2_with fail
            go_ret
            exact ⟨by first | rfl | simp, HK5.out⟩
  · have e1 : decide ((8 : Int) < (nn : Int)) = true := decide_eq_true (by omega)
    have e2 : (8 : Int) < (nn : Int) := by omega
    go_wp2_with fail
    refine (known_true w2).mono ?_
    rintro e w3 ⟨rfl, hb⟩
    have HE := Lib.hid (below_on HK2.out hb)
    clear hb
    go_wp2_with fail
    go_ret
    exact ⟨rfl, HE.out⟩
end Go.Proofs.Ytmfmpkihmadjmaa
