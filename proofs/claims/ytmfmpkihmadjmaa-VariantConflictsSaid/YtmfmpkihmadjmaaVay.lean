/- VariantConflicts: the walk. -/
import Derived.Test.YtmfmpkihmadjmaaVau
namespace Go.Proofs.Ytmfmpkihmadjmaa
open Go.RowKit Go.Shelf
/-- The first k of the rules numbered by l, without number sk - 1 of them. -/
def keepL (rs : List (ByteArray × List (Nat × Bool))) (l : List Nat) (sk k : Nat) : List (ByteArray × List (Nat × Bool)) := ((List.range k).filter fun i => i + 1 != sk).map fun i => rs.getD (l.getD i 0) (ByteArray.empty, [])
theorem keepL_yes {rs : List (ByteArray × List (Nat × Bool))} {l : List Nat} {sk j x : Nat} {r : ByteArray × List (Nat × Bool)} (h : j + 1 ≠ sk) (hl : l[j]? = some x) (hr : rs[x]? = some r) : keepL rs l sk (j + 1) = keepL rs l sk j ++ [r] := by
  unfold keepL
  have e : (j + 1 != sk) = true := by simpa using h
  rw [List.range_succ, List.filter_append, List.map_append, List.filter_cons, e, if_pos rfl]
  simp [List.getD_eq_getElem?_getD, hl, hr]
theorem keepL_no {rs : List (ByteArray × List (Nat × Bool))} {l : List Nat} {sk j : Nat} (h : j + 1 = sk) : keepL rs l sk (j + 1) = keepL rs l sk j := by
  unfold keepL
  have e : (j + 1 != sk) = false := by simpa using h
  rw [List.range_succ, List.filter_append, List.map_append, List.filter_cons, e]
  simp
theorem keepL_mem {rs : List (ByteArray × List (Nat × Bool))} {l : List Nat} {sk k : Nat} {r : ByteArray × List (Nat × Bool)} : r ∈ keepL rs l sk k ↔ ∃ i, i < k ∧ i + 1 ≠ sk ∧ r = rs.getD (l.getD i 0) (ByteArray.empty, []) := by
  unfold keepL
  rw [List.mem_map]
  constructor
  · rintro ⟨i, hi, rfl⟩
    rw [List.mem_filter, List.mem_range] at hi
    exact ⟨i, hi.1, by simpa using hi.2, rfl⟩
  · rintro ⟨i, h1, h2, rfl⟩
    exact ⟨i, by rw [List.mem_filter, List.mem_range]; exact ⟨h1, by simpa using h2⟩, rfl⟩
theorem keepL_in {rs : List (ByteArray × List (Nat × Bool))} {l : List Nat} {sk : Nat} (hl : ∀ j ∈ l, j < rs.length) : ∀ r ∈ keepL rs l sk l.length, r ∈ rs := fun r hr => by
  obtain ⟨i, h1, _, rfl⟩ := keepL_mem.1 hr
  have h2 : l.getD i 0 < rs.length := by
    rw [List.getD_eq_getElem?_getD, List.getElem?_eq_getElem h1]
    exact hl _ (List.getElem_mem h1)
  rw [List.getD_eq_getElem?_getD, List.getElem?_eq_getElem h2]
  exact List.getElem_mem h2
theorem keepL_nil {n : Nat} {rs : List (ByteArray × List (Nat × Bool))} {l : List Nat} {ch : List (Nat × Bool)} (h : AL n (l.map (fun j => rs.getD j (ByteArray.empty, []))) ch = []) : AL n (keepL rs l 0 l.length) ch = [] := by
  refine AL_mono (fun r hr => ?_) h
  obtain ⟨x, hx, rfl⟩ := List.mem_map.1 hr
  obtain ⟨i, hi, rfl⟩ := List.getElem_of_mem hx
  exact keepL_mem.2 ⟨i, hi, by omega, by rw [List.getD_eq_getElem?_getD (l := l), List.getElem?_eq_getElem hi]; rfl⟩
theorem keepL_some {n s : Nat} {rs : List (ByteArray × List (Nat × Bool))} {l : List Nat} {ch : List (Nat × Bool)} (h : AL n ((l.map (fun j => rs.getD j (ByteArray.empty, []))).eraseIdx s) ch ≠ []) : AL n (keepL rs l (s + 1) l.length) ch ≠ [] := by
  intro h0
  refine h (AL_mono (fun r hr => ?_) h0)
  obtain ⟨i, h1, h2, rfl⟩ := keepL_mem.1 hr
  rw [List.mem_eraseIdx_iff_getElem?]
  refine ⟨i, by omega, ?_⟩
  rw [List.getElem?_map, List.getD_eq_getElem?_getD (l := l), List.getElem?_eq_getElem h1]
  rfl
theorem cfL_sorted (n : Nat) (rs : List (ByteArray × List (Nat × Bool))) (ch : List (Nat × Bool)) : ∀ i, ((cfL n rs ch i).1.Pairwise (· < ·)) ∧ ∀ j ∈ (cfL n rs ch i).1, j < i
  | 0 => ⟨List.Pairwise.nil, by simp [cfL]⟩
  | i + 1 => by
    obtain ⟨h1, h2⟩ := cfL_sorted n rs ch i
    rw [cfL]
    split
    · exact ⟨h1, fun j hj => Nat.lt_succ_of_lt (h2 j hj)⟩
    · split
      · exact ⟨h1, fun j hj => Nat.lt_succ_of_lt (h2 j hj)⟩
      · refine ⟨List.pairwise_append.2 ⟨h1, List.pairwise_singleton _ _, fun a ha b hb => ?_⟩, fun j hj => ?_⟩
        · rw [List.mem_singleton.1 hb]; exact h2 a ha
        · rcases List.mem_append.1 hj with h | h
          · exact Nat.lt_succ_of_lt (h2 j h)
          · rw [List.mem_singleton.1 h]; exact Nat.lt_succ_self i
theorem keepL_nodup {rs : List (ByteArray × List (Nat × Bool))} {l : List Nat} {sk : Nat} (hl : ∀ j ∈ l, j < rs.length) (hs : l.Pairwise (· < ·)) (hn : (rs.map (·.1)).Nodup) : ((keepL rs l sk l.length).map (·.1)).Nodup := by
  unfold keepL
  rw [List.map_map, List.Nodup, List.pairwise_map]
  have hp : (List.range l.length).Pairwise (· < ·) := List.pairwise_lt_range
  refine List.Pairwise.imp_of_mem (fun {a b} ha hb hab => ?_) (hp.filter _)
  have ha := List.mem_range.1 (List.mem_filter.1 ha).1
  have hb := List.mem_range.1 (List.mem_filter.1 hb).1
  have h1 : l[a] < l[b] := List.pairwise_iff_getElem.1 hs a b ha hb hab
  have h2 := hl _ (List.getElem_mem ha)
  have h3 := hl _ (List.getElem_mem hb)
  simp only [Function.comp, List.getD_eq_getElem?_getD, List.getElem?_eq_getElem ha, List.getElem?_eq_getElem hb, Option.getD_some, List.getElem?_eq_getElem h2, List.getElem?_eq_getElem h3]
  have h4 := List.pairwise_iff_getElem.1 hn l[a] l[b] (by simpa using h2) (by simpa using h3) h1
  simpa using h4
theorem keepL_len (rs : List (ByteArray × List (Nat × Bool))) (l : List Nat) (sk k : Nat) : (keepL rs l sk k).length ≤ k := by
  unfold keepL
  rw [List.length_map]
  exact Nat.le_trans (List.length_filter_le _ _) (by simp)
/-- A family with other rules. -/
def withR (f : Fm) (RA : Option Addr) (rn rc : Nat) : Fm := { f with RA := RA, rn := rn, rc := rc }
theorem withR_ok {w : World} {f : Fm} {os : List ByteArray} {rs : List (ByteArray × List (Nat × Bool))} {gs : List (Nat × List (Nat × Bool))} {vs : List Ov} {ds : List Dm} (h : FamOK w f os rs gs vs ds) {l : List Nat} {sk : Nat} (hl : ∀ j ∈ l, j < rs.length) (hs : l.Pairwise (· < ·)) (hl48 : l.length ≤ 48) {RA : Option Addr} {rc : Nat} (hR : RuleL w RA (keepL rs l sk l.length)) :
    FamOK w (withR f RA (keepL rs l sk l.length).length rc) os (keepL rs l sk l.length) gs vs ds :=
  { h with
    rsL := hR
    rsl := rfl
    r48 := Nat.le_trans (keepL_len rs l sk l.length) hl48
    rsn := fun r hr => h.rsn r (keepL_in hl r hr)
    rsd := keepL_nodup hl hs h.rsd }
set_option maxRecDepth 100000 in
set_option maxHeartbeats 16000000 in
theorem conflicts_any (o m : Nat) (ho : o < 256) (hm : o % 6 = m) (RA GA VA : Option Addr) (rn rc gn gc vn vc : Nat) (kr kg kv : List (List Int)) (cA : Option Addr) (cn cc : Nat) (ci : List Int) (w : World) (hkr : I8LL w RA kr) (hkg : I8LL w GA kg) (hkv : I8LL w VA kv) (lr : kr.length = rn) (lg : kg.length = gn) (lv : kv.length = vn) (h8r : ∀ l ∈ kr, ∀ k ∈ l, -128 ≤ k ∧ k < 128) (h8g : ∀ l ∈ kg, ∀ k ∈ l, -128 ≤ k ∧ k < 128) (h8v : ∀ l ∈ kv, ∀ k ∈ l, -128 ≤ k ∧ k < 128) (hcl : ci.length = cn) (hch : I8L w cA ci) (hc8 : ∀ k ∈ ci, -128 ≤ k ∧ k < 128) :
    Calls Try.prog 6 #[.agg #[.int .u8 (o : Nat), .slice RA rn rc, .slice GA gn gc, .slice VA vn vc], .slice cA cn cc] w fun e w' => e = .returned (.bool true) ∧ Below w.heap.size w w' := by
  have HFam := Lib.hid (fun (I J : Option Addr) (ic : Nat) (W : World) (hb : Below w.heap.size w W) (hD : DimL W J plainD) => family_any o m ho hm RA GA VA I J rn rc gn gc vn vc ic kr kg kv W (hkr.keep hb) (hkg.keep hb) (hkv.keep hb) lr lg lv h8r h8g h8v hD)
  clear hkr hkg hkv lr lg lv h8r h8g h8v
  have k1 := (Below.refl w.heap.size w).alloc (Nat.le_refl _) (.cells #[.int .u8 (o : Nat), .slice RA rn rc, .slice GA gn gc, .slice VA vn vc] 24)
  have C1 := Cells.new w #[.int .u8 (o : Nat), .slice RA rn rc, .slice GA gn gc, .slice VA vn vc] 24
  obtain ⟨w1, hw1⟩ : ∃ u, w.alloc (.cells #[.int .u8 (o : Nat), .slice RA rn rc, .slice GA gn gc, .slice VA vn vc] 24) = u := ⟨_, rfl⟩
  rw [hw1] at k1 C1
  have HC1 := Lib.hid C1
  have HK1 := Lib.hid k1
  clear C1 k1
  go_enter Try.func6, Try.ntmps6
  go_wp2_with fail
  refine (known_true w1).mono ?_
  rintro e w2 ⟨rfl, hb⟩
  clear hw1
  have HC2 := Lib.hid (HC1.out.keep hb)
  have HK2 := Lib.hid (below_on HK1.out hb)
  clear hb HC1
  go_upto_region 3 with fail
  go_cut [5] (fun s wx => Started w2 m kr kg kv s wx)
  case first =>
    have HS := Lib.hid (fun w' (hb : Below w2.heap.size w2 w') => (show w'.cell? ⟨w.heap.size, 0, none⟩ = some (.int .u8 (o : Nat)) ∧ w'.cell? ⟨w.heap.size, 1, none⟩ = some (.slice RA rn rc) ∧ w'.cell? ⟨w.heap.size, 2, none⟩ = some (.slice GA gn gc) ∧ w'.cell? ⟨w.heap.size, 3, none⟩ = some (.slice VA vn vc) from ⟨(HC2.out.keep hb).at_ 0, (HC2.out.keep hb).at_ 1, (HC2.out.keep hb).at_ 2, (HC2.out.keep hb).at_ 3⟩))
    refine Till.begin 4 (fun w' => w'.cell? ⟨w.heap.size, 0, none⟩ = some (.int .u8 (o : Nat)) ∧ w'.cell? ⟨w.heap.size, 1, none⟩ = some (.slice RA rn rc) ∧ w'.cell? ⟨w.heap.size, 2, none⟩ = some (.slice GA gn gc) ∧ w'.cell? ⟨w.heap.size, 3, none⟩ = some (.slice VA vn vc)) (by kernel_rfl) (HS.out _ (Below.refl _ _).drew) (fun hH => ?_)
    clear hH
    have HB0 := Lib.hid (Below.refl w2.heap.size w2).drew
    generalize w2.drew = V0 at HB0 ⊢
    try simp only [List.setIfInBounds_toArray, List.set_cons_zero, List.set_cons_succ]
    refine Till.tL 0 [2, 4] 17 (.agg #[.int .u8 (o : Nat), .slice RA rn rc, .slice GA gn gc, .slice VA vn vc]) (HS.out _ HB0.out) ?_
    try simp only [Act.put, List.setIfInBounds_toArray, List.set_cons_zero, List.set_cons_succ]
    refine Till.two (i := 1) (j := 3) (by kernel_rfl) rfl rfl ?_ ?_
    · intro K hK
      go_simp
      refine (plain_any V0).mono ?_
      rintro e V1 ⟨I, ic, J, rfl, _, hJ, hJb, hb⟩
      have HB1 := Lib.hid (below_on HB0.out hb)
      have HJ := Lib.hid hJ
      have HJb := Lib.hid hJb
      have HPs := Lib.hid hb.size
      refine hK.out _ _ (fun _ => HS.out _ HB1.out) ?_
      clear hK K hJ hJb
      try simp only [List.setIfInBounds_toArray, List.set_cons_zero, List.set_cons_succ]
      refine Till.two (i := 2) (j := 3) (by kernel_rfl) rfl rfl ?_ ?_
      · intro K hK
        go_simp
        refine (HFam.out I J ic V1 (below_on HK2.out HB1.out) HJ.out).mono ?_
        rintro e V2 ⟨OA, oc, rA, rC, gA, gC, vA, vC, he, hOK, _, hMem, hb⟩
        obtain ⟨f, hf⟩ : ∃ f, (famF I ic J OA rA gA vA (1 + m) oc (famR (1 + m) kr).length rC (famG (1 + m) kg).length gC (famV (1 + m) kv).length vC) = f := ⟨_, rfl⟩
        rw [hf] at he hOK hMem
        have hfn : f.n = 1 + m := by rw [← hf]; rfl
        have hfJ : f.DA = J := by rw [← hf]; rfl
        have HFn := Lib.hid hfn
        have HfJ := Lib.hid hfJ
        clear hf hfn hfJ
        subst he
        have HB2 := Lib.hid (below_on HB1.out hb)
        have HOK := Lib.hid hOK
        have HMem := Lib.hid hMem
        have HFb := Lib.hid hb
        refine hK.out _ _ (fun _ => HS.out _ HB2.out) ?_
        clear hK K hOK hMem hb
        try simp only [List.setIfInBounds_toArray, List.set_cons_zero, List.set_cons_succ]
        refine Till.one (i := 3) (by kernel_rfl) rfl (fun K hK => ?_)
        go_simp
        have kx := (Below.refl V2.heap.size V2).alloc (Nat.le_refl _) (.cells #[.string { data := #[] }, .slice none 0 0, .slice none 0 0, .slice none 0 0, .slice none 0 0, .slice none 0 0, .slice none 0 0, .slice none 0 0, .slice none 0 0, .slice none 0 0] 40)
        have RZ := heap_new V2 (.cells #[.string { data := #[] }, .slice none 0 0, .slice none 0 0, .slice none 0 0, .slice none 0 0, .slice none 0 0, .slice none 0 0, .slice none 0 0, .slice none 0 0, .slice none 0 0] 40)
        obtain ⟨V3, hV⟩ : ∃ u, V2.alloc (.cells #[.string { data := #[] }, .slice none 0 0, .slice none 0 0, .slice none 0 0, .slice none 0 0, .slice none 0 0, .slice none 0 0, .slice none 0 0, .slice none 0 0, .slice none 0 0] 40) = u := ⟨_, rfl⟩
        have hsz : V2.heap.size < V3.heap.size := by rw [← hV]; simp
        rw [hV] at kx RZ ⊢
        obtain ⟨p, hp⟩ : ∃ p, V2.heap.size = p := ⟨_, rfl⟩
        have HB3 := Lib.hid (below_on HB2.out kx)
        have KX := Lib.hid kx
        have HP := Lib.hid hp
        have HPz := Lib.hid (show p < V3.heap.size by omega)
        rw [hp] at RZ ⊢
        have RZ := Lib.hid RZ
        refine hK.out _ _ (fun _ => HS.out _ HB3.out) ?_
        clear hK K hV kx hp hsz
        try simp only [List.setIfInBounds_toArray, List.set_cons_zero, List.set_cons_succ]
        have RF := row_setCells p 40 [.string f.nm, .slice f.PA f.pn f.pc, .slice f.IA f.iN f.ic, .slice f.DA f.dn f.dc, .slice f.KA f.kn f.kc, .slice f.QA f.qn f.qc, .slice f.OA f.n f.oc, .slice f.RA f.rn f.rc, .slice f.GA f.gn f.gc, .slice f.VA f.vn f.vc] 0 V3 _ RZ.out
        have G0 := grown_cells p [.string f.nm, .slice f.PA f.pn f.pc, .slice f.IA f.iN f.ic, .slice f.DA f.dn f.dc, .slice f.KA f.kn f.kc, .slice f.QA f.qn f.qc, .slice f.OA f.n f.oc, .slice f.RA f.rn f.rc, .slice f.GA f.gn f.gc, .slice f.VA f.vn f.vc] 0 V3
        obtain ⟨WF, hWF⟩ : ∃ u, V3.setCells p 0 [.string f.nm, .slice f.PA f.pn f.pc, .slice f.IA f.iN f.ic, .slice f.DA f.dn f.dc, .slice f.KA f.kn f.kc, .slice f.QA f.qn f.qc, .slice f.OA f.n f.oc, .slice f.RA f.rn f.rc, .slice f.GA f.gn f.gc, .slice f.VA f.vn f.vc] = u := ⟨_, rfl⟩
        rw [hWF] at RF G0
        have CR := Cells.of_row RZ.out
        have p0 := CR.at_ 0
        have p1 := CR.at_ 1
        have p2 := CR.at_ 2
        have p3 := CR.at_ 3
        have p4 := CR.at_ 4
        have p5 := CR.at_ 5
        have p6 := CR.at_ 6
        have p7 := CR.at_ 7
        have p8 := CR.at_ 8
        have p9 := CR.at_ 9
        simp only [List.getElem?_cons_zero, List.getElem?_cons_succ] at p0 p1 p2 p3 p4 p5 p6 p7 p8 p9
        have f0 := CR.fz 0
        have f1 := CR.fz 1
        have f2 := CR.fz 2
        have f3 := CR.fz 3
        have f4 := CR.fz 4
        have f5 := CR.fz 5
        have f6 := CR.fz 6
        have f7 := CR.fz 7
        have f8 := CR.fz 8
        have f9 := CR.fz 9
        have kF : Below V2.heap.size V2 WF := KX.out.grown G0 KX.out.size (fun k e => by injection e with e; have := HP.out; omega)
        have hOKF := Lib.hid (HOK.out.keep kF)
        have RF : WF.heap[p]? = some (.cells #[.string f.nm, .slice f.PA f.pn f.pc, .slice f.IA f.iN f.ic, .slice f.DA f.dn f.dc, .slice f.KA f.kn f.kc, .slice f.QA f.qn f.qc, .slice f.OA f.n f.oc, .slice f.RA f.rn f.rc, .slice f.GA f.gn f.gc, .slice f.VA f.vn f.vc] 40 (0, 0)) := by
          rwa [put10] at RF
        have HCF := Lib.hid (Cells.of_row RF)
        have hpW : w2.heap.size ≤ p := by have := HP.out; have := HB2.out.size; omega
        have BF := Lib.hid (HB3.out.grown G0 HB3.out.size (fun k e => by injection e with e; omega))
        simp only [World.setCells, Nat.reduceAdd] at hWF
        have HWF := Lib.hid hWF
        have HpW := Lib.hid hpW
        clear hWF CR RF G0 hpW
        refine Till.one (i := 4) (by kernel_rfl) rfl (fun K hK => ?_)
        go_simp
        rw [HWF.out]
        refine hK.out _ _ (fun h => absurd h (by simp)) ?_
        clear hK K p0 f0 p1 f1 p2 f2 p3 f3 p4 f4 p5 f5 p6 f6 p7 f7 p8 f8 p9 f9
        try simp only [List.setIfInBounds_toArray, List.set_cons_zero, List.set_cons_succ]
        refine Till.done (by kernel_rfl) ?_ _
        go_wp2_with fail
        go_meet
        exact ⟨p, f, rfl, HpW.out, HCF.out, HFn.out, hOKF.out, BF.out⟩
      · intro K hK
        go_simp
        have kx := (Below.refl V1.heap.size V1).alloc (Nat.le_refl _) (.cells #[.string { data := #[] }, .slice none 0 0, .slice none 0 0, .slice none 0 0, .slice none 0 0, .slice none 0 0, .slice none 0 0, .slice none 0 0, .slice none 0 0, .slice none 0 0] 40)
        have RZ := heap_new V1 (.cells #[.string { data := #[] }, .slice none 0 0, .slice none 0 0, .slice none 0 0, .slice none 0 0, .slice none 0 0, .slice none 0 0, .slice none 0 0, .slice none 0 0, .slice none 0 0] 40)
        obtain ⟨V2, hV⟩ : ∃ u, V1.alloc (.cells #[.string { data := #[] }, .slice none 0 0, .slice none 0 0, .slice none 0 0, .slice none 0 0, .slice none 0 0, .slice none 0 0, .slice none 0 0, .slice none 0 0, .slice none 0 0] 40) = u := ⟨_, rfl⟩
        have hsz : V1.heap.size < V2.heap.size := by rw [← hV]; simp
        rw [hV] at kx RZ ⊢
        obtain ⟨p, hp⟩ : ∃ p, V1.heap.size = p := ⟨_, rfl⟩
        have HB2 := Lib.hid (below_on HB1.out kx)
        have KX := Lib.hid kx
        have HP := Lib.hid hp
        have HPz := Lib.hid (show p < V2.heap.size by omega)
        rw [hp] at RZ ⊢
        have RZ := Lib.hid RZ
        refine hK.out _ _ (fun _ => HS.out _ HB2.out) ?_
        clear hK K hV kx hp hsz
        try simp only [List.setIfInBounds_toArray, List.set_cons_zero, List.set_cons_succ]
        have HJ2 := Lib.hid (HJ.out.keep KX.out)
        refine Till.one (i := 2) (by kernel_rfl) rfl (fun K hK => ?_)
        go_simp
        refine (HFam.out I J ic V2 (below_on HK2.out HB2.out) HJ2.out).mono ?_
        rintro e V3 ⟨OA, oc, rA, rC, gA, gC, vA, vC, he, hOK, _, hMem, hb⟩
        obtain ⟨f, hf⟩ : ∃ f, (famF I ic J OA rA gA vA (1 + m) oc (famR (1 + m) kr).length rC (famG (1 + m) kg).length gC (famV (1 + m) kv).length vC) = f := ⟨_, rfl⟩
        rw [hf] at he hOK hMem
        have hfn : f.n = 1 + m := by rw [← hf]; rfl
        have hfJ : f.DA = J := by rw [← hf]; rfl
        have HFn := Lib.hid hfn
        have HfJ := Lib.hid hfJ
        clear hf hfn hfJ
        subst he
        have HB3 := Lib.hid (below_on HB2.out hb)
        have HOK := Lib.hid hOK
        have HMem := Lib.hid hMem
        have HFb := Lib.hid hb
        refine hK.out _ _ (fun _ => HS.out _ HB3.out) ?_
        clear hK K hOK hMem hb
        try simp only [List.setIfInBounds_toArray, List.set_cons_zero, List.set_cons_succ]
        have RZ := Lib.hid (row_keep RZ.out HFb.out)
        have RF := row_setCells p 40 [.string f.nm, .slice f.PA f.pn f.pc, .slice f.IA f.iN f.ic, .slice f.DA f.dn f.dc, .slice f.KA f.kn f.kc, .slice f.QA f.qn f.qc, .slice f.OA f.n f.oc, .slice f.RA f.rn f.rc, .slice f.GA f.gn f.gc, .slice f.VA f.vn f.vc] 0 V3 _ RZ.out
        have G0 := grown_cells p [.string f.nm, .slice f.PA f.pn f.pc, .slice f.IA f.iN f.ic, .slice f.DA f.dn f.dc, .slice f.KA f.kn f.kc, .slice f.QA f.qn f.qc, .slice f.OA f.n f.oc, .slice f.RA f.rn f.rc, .slice f.GA f.gn f.gc, .slice f.VA f.vn f.vc] 0 V3
        obtain ⟨WF, hWF⟩ : ∃ u, V3.setCells p 0 [.string f.nm, .slice f.PA f.pn f.pc, .slice f.IA f.iN f.ic, .slice f.DA f.dn f.dc, .slice f.KA f.kn f.kc, .slice f.QA f.qn f.qc, .slice f.OA f.n f.oc, .slice f.RA f.rn f.rc, .slice f.GA f.gn f.gc, .slice f.VA f.vn f.vc] = u := ⟨_, rfl⟩
        rw [hWF] at RF G0
        have CR := Cells.of_row RZ.out
        have p0 := CR.at_ 0
        have p1 := CR.at_ 1
        have p2 := CR.at_ 2
        have p3 := CR.at_ 3
        have p4 := CR.at_ 4
        have p5 := CR.at_ 5
        have p6 := CR.at_ 6
        have p7 := CR.at_ 7
        have p8 := CR.at_ 8
        have p9 := CR.at_ 9
        simp only [List.getElem?_cons_zero, List.getElem?_cons_succ] at p0 p1 p2 p3 p4 p5 p6 p7 p8 p9
        have f0 := CR.fz 0
        have f1 := CR.fz 1
        have f2 := CR.fz 2
        have f3 := CR.fz 3
        have f4 := CR.fz 4
        have f5 := CR.fz 5
        have f6 := CR.fz 6
        have f7 := CR.fz 7
        have f8 := CR.fz 8
        have f9 := CR.fz 9
        have hOKF := Lib.hid (HOK.out.other HMem.out G0 HPz.out (fun b o t e => by have := (HJb.out b o t (HfJ.out.symm.trans e)).2; have := HP.out; omega))
        have RF : WF.heap[p]? = some (.cells #[.string f.nm, .slice f.PA f.pn f.pc, .slice f.IA f.iN f.ic, .slice f.DA f.dn f.dc, .slice f.KA f.kn f.kc, .slice f.QA f.qn f.qc, .slice f.OA f.n f.oc, .slice f.RA f.rn f.rc, .slice f.GA f.gn f.gc, .slice f.VA f.vn f.vc] 40 (0, 0)) := by
          rwa [put10] at RF
        have HCF := Lib.hid (Cells.of_row RF)
        have hpW : w2.heap.size ≤ p := by have := HP.out; have := HB1.out.size; omega
        have BF := Lib.hid (HB3.out.grown G0 HB3.out.size (fun k e => by injection e with e; omega))
        simp only [World.setCells, Nat.reduceAdd] at hWF
        have HWF := Lib.hid hWF
        have HpW := Lib.hid hpW
        clear hWF CR RF G0 hpW
        refine Till.one (i := 4) (by kernel_rfl) rfl (fun K hK => ?_)
        go_simp
        rw [HWF.out]
        refine hK.out _ _ (fun h => absurd h (by simp)) ?_
        clear hK K p0 f0 p1 f1 p2 f2 p3 f3 p4 f4 p5 f5 p6 f6 p7 f7 p8 f8 p9 f9
        try simp only [List.setIfInBounds_toArray, List.set_cons_zero, List.set_cons_succ]
        refine Till.done (by kernel_rfl) ?_ _
        go_wp2_with fail
        go_meet
        exact ⟨p, f, rfl, HpW.out, HCF.out, HFn.out, hOKF.out, BF.out⟩
    · intro K hK
      go_simp
      have kx := (Below.refl V0.heap.size V0).alloc (Nat.le_refl _) (.cells #[.string { data := #[] }, .slice none 0 0, .slice none 0 0, .slice none 0 0, .slice none 0 0, .slice none 0 0, .slice none 0 0, .slice none 0 0, .slice none 0 0, .slice none 0 0] 40)
      have RZ := heap_new V0 (.cells #[.string { data := #[] }, .slice none 0 0, .slice none 0 0, .slice none 0 0, .slice none 0 0, .slice none 0 0, .slice none 0 0, .slice none 0 0, .slice none 0 0, .slice none 0 0] 40)
      obtain ⟨V1, hV⟩ : ∃ u, V0.alloc (.cells #[.string { data := #[] }, .slice none 0 0, .slice none 0 0, .slice none 0 0, .slice none 0 0, .slice none 0 0, .slice none 0 0, .slice none 0 0, .slice none 0 0, .slice none 0 0] 40) = u := ⟨_, rfl⟩
      have hsz : V0.heap.size < V1.heap.size := by rw [← hV]; simp
      rw [hV] at kx RZ ⊢
      obtain ⟨p, hp⟩ : ∃ p, V0.heap.size = p := ⟨_, rfl⟩
      have HB1 := Lib.hid (below_on HB0.out kx)
      have KX := Lib.hid kx
      have HP := Lib.hid hp
      have HPz := Lib.hid (show p < V1.heap.size by omega)
      rw [hp] at RZ ⊢
      have RZ := Lib.hid RZ
      refine hK.out _ _ (fun _ => HS.out _ HB1.out) ?_
      clear hK K hV kx hp hsz
      try simp only [List.setIfInBounds_toArray, List.set_cons_zero, List.set_cons_succ]
      refine Till.one (i := 1) (by kernel_rfl) rfl (fun K hK => ?_)
      go_simp
      refine (plain_any V1).mono ?_
      rintro e V2 ⟨I, ic, J, rfl, _, hJ, hJb, hb⟩
      have HB2 := Lib.hid (below_on HB1.out hb)
      have HJ := Lib.hid hJ
      have HJb := Lib.hid hJb
      have HPs := Lib.hid hb.size
      refine hK.out _ _ (fun _ => HS.out _ HB2.out) ?_
      clear hK K hJ hJb
      try simp only [List.setIfInBounds_toArray, List.set_cons_zero, List.set_cons_succ]
      have RZ := Lib.hid (row_keep RZ.out hb)
      have HPz2 := Lib.hid (Nat.lt_of_lt_of_le HPz.out HPs.out)
      clear hb
      refine Till.one (i := 2) (by kernel_rfl) rfl (fun K hK => ?_)
      go_simp
      refine (HFam.out I J ic V2 (below_on HK2.out HB2.out) HJ.out).mono ?_
      rintro e V3 ⟨OA, oc, rA, rC, gA, gC, vA, vC, he, hOK, _, hMem, hb⟩
      obtain ⟨f, hf⟩ : ∃ f, (famF I ic J OA rA gA vA (1 + m) oc (famR (1 + m) kr).length rC (famG (1 + m) kg).length gC (famV (1 + m) kv).length vC) = f := ⟨_, rfl⟩
      rw [hf] at he hOK hMem
      have hfn : f.n = 1 + m := by rw [← hf]; rfl
      have hfJ : f.DA = J := by rw [← hf]; rfl
      have HFn := Lib.hid hfn
      have HfJ := Lib.hid hfJ
      clear hf hfn hfJ
      subst he
      have HB3 := Lib.hid (below_on HB2.out hb)
      have HOK := Lib.hid hOK
      have HMem := Lib.hid hMem
      have HFb := Lib.hid hb
      refine hK.out _ _ (fun _ => HS.out _ HB3.out) ?_
      clear hK K hOK hMem hb
      try simp only [List.setIfInBounds_toArray, List.set_cons_zero, List.set_cons_succ]
      have RZ := Lib.hid (row_keep RZ.out HFb.out)
      have RF := row_setCells p 40 [.string f.nm, .slice f.PA f.pn f.pc, .slice f.IA f.iN f.ic, .slice f.DA f.dn f.dc, .slice f.KA f.kn f.kc, .slice f.QA f.qn f.qc, .slice f.OA f.n f.oc, .slice f.RA f.rn f.rc, .slice f.GA f.gn f.gc, .slice f.VA f.vn f.vc] 0 V3 _ RZ.out
      have G0 := grown_cells p [.string f.nm, .slice f.PA f.pn f.pc, .slice f.IA f.iN f.ic, .slice f.DA f.dn f.dc, .slice f.KA f.kn f.kc, .slice f.QA f.qn f.qc, .slice f.OA f.n f.oc, .slice f.RA f.rn f.rc, .slice f.GA f.gn f.gc, .slice f.VA f.vn f.vc] 0 V3
      obtain ⟨WF, hWF⟩ : ∃ u, V3.setCells p 0 [.string f.nm, .slice f.PA f.pn f.pc, .slice f.IA f.iN f.ic, .slice f.DA f.dn f.dc, .slice f.KA f.kn f.kc, .slice f.QA f.qn f.qc, .slice f.OA f.n f.oc, .slice f.RA f.rn f.rc, .slice f.GA f.gn f.gc, .slice f.VA f.vn f.vc] = u := ⟨_, rfl⟩
      rw [hWF] at RF G0
      have CR := Cells.of_row RZ.out
      have p0 := CR.at_ 0
      have p1 := CR.at_ 1
      have p2 := CR.at_ 2
      have p3 := CR.at_ 3
      have p4 := CR.at_ 4
      have p5 := CR.at_ 5
      have p6 := CR.at_ 6
      have p7 := CR.at_ 7
      have p8 := CR.at_ 8
      have p9 := CR.at_ 9
      simp only [List.getElem?_cons_zero, List.getElem?_cons_succ] at p0 p1 p2 p3 p4 p5 p6 p7 p8 p9
      have f0 := CR.fz 0
      have f1 := CR.fz 1
      have f2 := CR.fz 2
      have f3 := CR.fz 3
      have f4 := CR.fz 4
      have f5 := CR.fz 5
      have f6 := CR.fz 6
      have f7 := CR.fz 7
      have f8 := CR.fz 8
      have f9 := CR.fz 9
      have hOKF := Lib.hid (HOK.out.other HMem.out G0 HPz2.out (fun b o t e => by have := (HJb.out b o t (HfJ.out.symm.trans e)).1; have := HPz.out; omega))
      have RF : WF.heap[p]? = some (.cells #[.string f.nm, .slice f.PA f.pn f.pc, .slice f.IA f.iN f.ic, .slice f.DA f.dn f.dc, .slice f.KA f.kn f.kc, .slice f.QA f.qn f.qc, .slice f.OA f.n f.oc, .slice f.RA f.rn f.rc, .slice f.GA f.gn f.gc, .slice f.VA f.vn f.vc] 40 (0, 0)) := by
        rwa [put10] at RF
      have HCF := Lib.hid (Cells.of_row RF)
      have hpW : w2.heap.size ≤ p := by have := HP.out; have := HB0.out.size; omega
      have BF := Lib.hid (HB3.out.grown G0 HB3.out.size (fun k e => by injection e with e; omega))
      simp only [World.setCells, Nat.reduceAdd] at hWF
      have HWF := Lib.hid hWF
      have HpW := Lib.hid hpW
      clear hWF CR RF G0 hpW
      refine Till.one (i := 4) (by kernel_rfl) rfl (fun K hK => ?_)
      go_simp
      rw [HWF.out]
      refine hK.out _ _ (fun h => absurd h (by simp)) ?_
      clear hK K p0 f0 p1 f1 p2 f2 p3 f3 p4 f4 p5 f5 p6 f6 p7 f7 p8 f8 p9 f9
      try simp only [List.setIfInBounds_toArray, List.set_cons_zero, List.set_cons_succ]
      refine Till.done (by kernel_rfl) ?_ _
      go_wp2_with fail
      go_meet
      exact ⟨p, f, rfl, HpW.out, HCF.out, HFn.out, hOKF.out, BF.out⟩
  case rest =>
    obtain ⟨pf, f, rfl, hpf, hCf, hfn, hOK, hbf⟩ := hcut
    have hn6 : f.n ≤ 6 := by omega
    have hn0 : 0 < f.n := by omega
    have HOK := Lib.hid hOK
    have HCf := Lib.hid hCf
    have HK3 := Lib.hid (below_on HK2.out hbf)
    have hr48 := hOK.r48
    have HFn := Lib.hid hfn
    have HHO := Lib.hid (show (famO (1 + m)) = famO f.n by rw [hfn])
    have HHR := Lib.hid (show (famR (1 + m) kr) = famR f.n kr by rw [hfn])
    clear hOK hCf hbf hpf HC2 HK2 HFam hfn 
    obtain ⟨os, hos⟩ : ∃ x, famO (1 + m) = x := ⟨_, rfl⟩
    obtain ⟨rs, hrs⟩ : ∃ x, famR (1 + m) kr = x := ⟨_, rfl⟩
    obtain ⟨gs, hgs⟩ : ∃ x, famG (1 + m) kg = x := ⟨_, rfl⟩
    obtain ⟨vs, hvs⟩ : ∃ x, famV (1 + m) kv = x := ⟨_, rfl⟩
    rw [hos, hrs, hgs, hvs] at HOK
    have hRL : ∀ r ∈ rs, LowN f.n r.2 := by rw [← hrs, HHR.out]; exact famR_low kr
    have hRL6 : ∀ r ∈ rs, (∀ l ∈ r.2, l.1 < 6) ∧ r.2.length ≤ 1000 := by rw [← hrs, HHR.out]; exact famR_low6 hn6 kr
    have HRL := Lib.hid hRL
    have HRL6 := Lib.hid hRL6
    clear hos hrs hgs hvs HHO HHR hRL hRL6
    have c0 := HCf.out.at_ 0
    have c1 := HCf.out.at_ 1
    have c2 := HCf.out.at_ 2
    have c3 := HCf.out.at_ 3
    have c4 := HCf.out.at_ 4
    have c5 := HCf.out.at_ 5
    have c6 := HCf.out.at_ 6
    have c7 := HCf.out.at_ 7
    have c8 := HCf.out.at_ 8
    have c9 := HCf.out.at_ 9
    simp only [List.getElem?_cons_zero, List.getElem?_cons_succ] at c0 c1 c2 c3 c4 c5 c6 c7 c8 c9
    have HDc := Lib.hid (fun W (hb : Below w.heap.size w W) => decode_any f.n cA cn cc ci W (hch.keep hb) hcl hn0 hn6 hc8)
    clear hch hcl hc8
    go_wp2_with fail
    refine (HDc.out _ HK3.out).mono ?_
    rintro e w3 ⟨v, rfl, hown, hb⟩
    obtain ⟨PA, PC, rfl, hPL⟩ := own_lits hown
    have hcn := decN_len f.n ci
    have hclow : LowN f.n (decN f.n ci) := decN_low f.n ci
    have hcok := decN_ok f.n ci
    obtain ⟨cl, hcleq⟩ : ∃ x, decN f.n ci = x := ⟨_, rfl⟩
    rw [hcleq] at hPL hcn hclow hcok ⊢
    have HPL := Lib.hid hPL
    have HOK := Lib.hid (HOK.out.keep hb)
    have HCf := Lib.hid (HCf.out.keep hb)
    have HK4 := Lib.hid (below_on HK3.out hb)
    have HClow := Lib.hid hclow
    have HCok := Lib.hid hcok
    clear hown hb hPL hcleq hclow hcok HK3 HDc
    have c0 := HCf.out.at_ 0
    have c1 := HCf.out.at_ 1
    have c2 := HCf.out.at_ 2
    have c3 := HCf.out.at_ 3
    have c4 := HCf.out.at_ 4
    have c5 := HCf.out.at_ 5
    have c6 := HCf.out.at_ 6
    have c7 := HCf.out.at_ 7
    have c8 := HCf.out.at_ 8
    have c9 := HCf.out.at_ 9
    simp only [List.getElem?_cons_zero, List.getElem?_cons_succ] at c0 c1 c2 c3 c4 c5 c6 c7 c8 c9
    have HCo := Lib.hid (conflict_ok f os rs gs vs plainD PA cl.length PC cl w3 HOK.out HPL.out rfl (by omega) HCok.out)
    have hal := AL_len hn6 HRL.out HClow.out
    go_wp2_with fail
    refine HCo.out.mono ?_
    rintro e w4 ⟨h1, hb⟩
    have HOK := Lib.hid (HOK.out.keep hb)
    have HCf := Lib.hid (HCf.out.keep hb)
    have HPL := Lib.hid (HPL.out.keep hb)
    have HK5 := Lib.hid (below_on HK4.out hb)
    clear hb HCo HK4
    obtain ⟨N, hN⟩ : ∃ n, (ALR f.n rs (List.replicate rs.length false) cl).length = n := ⟨_, rfl⟩
    rw [hN] at hal
    have HNl := Lib.hid hN
    clear hN
    have c0 := HCf.out.at_ 0
    have c1 := HCf.out.at_ 1
    have c2 := HCf.out.at_ 2
    have c3 := HCf.out.at_ 3
    have c4 := HCf.out.at_ 4
    have c5 := HCf.out.at_ 5
    have c6 := HCf.out.at_ 6
    have c7 := HCf.out.at_ 7
    have c8 := HCf.out.at_ 8
    have c9 := HCf.out.at_ 9
    simp only [List.getElem?_cons_zero, List.getElem?_cons_succ] at c0 c1 c2 c3 c4 c5 c6 c7 c8 c9
    rcases h1 with ⟨hA, rfl⟩ | ⟨hA, v, rfl, hown⟩
    · have hN0 : ¬ N = 0 := fun h0 => hA (List.length_eq_zero_iff.1 (by rw [← hal]; exact h0))
      have nz : ((N : Int) == 0) = false := by rw [beq_eq_false_iff_ne]; omega
      have nz2 : ¬ ((N : Int) = 0) := by omega
      have nz3 : decide (N = 0) = false := decide_eq_false hN0
      clear hA hal
      go_upto_region 6 with fail
      have HS := Lib.hid (fun w' (hb : Below w4.heap.size w4 w') => (show w'.cell? ⟨pf, 0, none⟩ = some (.string f.nm) ∧ w'.cell? ⟨pf, 1, none⟩ = some (.slice f.PA f.pn f.pc) ∧ w'.cell? ⟨pf, 2, none⟩ = some (.slice f.IA f.iN f.ic) ∧ w'.cell? ⟨pf, 3, none⟩ = some (.slice f.DA f.dn f.dc) ∧ w'.cell? ⟨pf, 4, none⟩ = some (.slice f.KA f.kn f.kc) ∧ w'.cell? ⟨pf, 5, none⟩ = some (.slice f.QA f.qn f.qc) ∧ w'.cell? ⟨pf, 6, none⟩ = some (.slice f.OA f.n f.oc) ∧ w'.cell? ⟨pf, 7, none⟩ = some (.slice f.RA f.rn f.rc) ∧ w'.cell? ⟨pf, 8, none⟩ = some (.slice f.GA f.gn f.gc) ∧ w'.cell? ⟨pf, 9, none⟩ = some (.slice f.VA f.vn f.vc) from ⟨(HCf.out.keep hb).at_ 0, (HCf.out.keep hb).at_ 1, (HCf.out.keep hb).at_ 2, (HCf.out.keep hb).at_ 3, (HCf.out.keep hb).at_ 4, (HCf.out.keep hb).at_ 5, (HCf.out.keep hb).at_ 6, (HCf.out.keep hb).at_ 7, (HCf.out.keep hb).at_ 8, (HCf.out.keep hb).at_ 9⟩))
      refine Till.begin 12 (fun w' => w'.cell? ⟨pf, 0, none⟩ = some (.string f.nm) ∧ w'.cell? ⟨pf, 1, none⟩ = some (.slice f.PA f.pn f.pc) ∧ w'.cell? ⟨pf, 2, none⟩ = some (.slice f.IA f.iN f.ic) ∧ w'.cell? ⟨pf, 3, none⟩ = some (.slice f.DA f.dn f.dc) ∧ w'.cell? ⟨pf, 4, none⟩ = some (.slice f.KA f.kn f.kc) ∧ w'.cell? ⟨pf, 5, none⟩ = some (.slice f.QA f.qn f.qc) ∧ w'.cell? ⟨pf, 6, none⟩ = some (.slice f.OA f.n f.oc) ∧ w'.cell? ⟨pf, 7, none⟩ = some (.slice f.RA f.rn f.rc) ∧ w'.cell? ⟨pf, 8, none⟩ = some (.slice f.GA f.gn f.gc) ∧ w'.cell? ⟨pf, 9, none⟩ = some (.slice f.VA f.vn f.vc)) (by kernel_rfl) (HS.out _ (Below.refl _ _).drew) (fun hH => ?_)
      clear hH
      have HB0 := Lib.hid (Below.refl w4.heap.size w4).drew
      generalize w4.drew = V0 at HB0 ⊢
      try simp only [List.setIfInBounds_toArray, List.set_cons_zero, List.set_cons_succ]
      refine Till.tL 0 [1, 2, 3, 4, 5, 6, 7, 8, 9, 10, 11, 12] 32 (.int .i64 0) (HS.out _ HB0.out) ?_
      try simp only [Act.put, List.setIfInBounds_toArray, List.set_cons_zero, List.set_cons_succ]
      refine Till.tL 1 [2, 3, 4, 5, 6, 7, 8, 9, 10, 11, 12] 33 (.bool false) (HS.out _ HB0.out) ?_
      try simp only [Act.put, List.setIfInBounds_toArray, List.set_cons_zero, List.set_cons_succ]
      refine Till.tL 2 [3, 4, 5, 6, 7, 8, 9, 10, 11, 12] 34 (.bool false) (HS.out _ HB0.out) ?_
      try simp only [Act.put, List.setIfInBounds_toArray, List.set_cons_zero, List.set_cons_succ]
      refine Till.tL 3 [11, 12] 35 (.bool false) (HS.out _ HB0.out) ?_
      try simp only [Act.put, List.setIfInBounds_toArray, List.set_cons_zero, List.set_cons_succ]
      refine Till.tL 4 [8, 9, 10, 11, 12] 36 (.agg #[.string f.nm, .slice f.PA f.pn f.pc, .slice f.IA f.iN f.ic, .slice f.DA f.dn f.dc, .slice f.KA f.kn f.kc, .slice f.QA f.qn f.qc, .slice f.OA f.n f.oc, .slice f.RA f.rn f.rc, .slice f.GA f.gn f.gc, .slice f.VA f.vn f.vc]) (HS.out _ HB0.out) ?_
      try simp only [Act.put, List.setIfInBounds_toArray, List.set_cons_zero, List.set_cons_succ]
      refine Till.tL 5 [6, 8, 9, 10, 11, 12] 37 (.agg #[.string f.nm, .slice f.PA f.pn f.pc, .slice f.IA f.iN f.ic, .slice f.DA f.dn f.dc, .slice f.KA f.kn f.kc, .slice f.QA f.qn f.qc, .slice f.OA f.n f.oc, .slice f.RA f.rn f.rc, .slice f.GA f.gn f.gc, .slice f.VA f.vn f.vc]) (HS.out _ HB0.out) ?_
      try simp only [Act.put, List.setIfInBounds_toArray, List.set_cons_zero, List.set_cons_succ]
      refine Till.tL 7 [8, 9, 10, 11, 12] 39 (.slice PA cl.length PC) (HS.out _ HB0.out) ?_
      try simp only [Act.put, List.setIfInBounds_toArray, List.set_cons_zero, List.set_cons_succ]
      refine Till.one (i := 6) (by kernel_rfl) rfl (fun K hK => ?_)
      go_simp
      refine (noneN_any f os rs gs vs plainD V0 (HOK.out.keep HB0.out)).mono ?_
      rintro e V1 ⟨XA, xc, rfl, hX, hb⟩
      have HB1 := Lib.hid (below_on HB0.out hb)
      have HX := Lib.hid hX
      refine hK.out _ _ (fun _ => HS.out _ HB1.out) ?_
      clear hK K hX hb
      try simp only [List.setIfInBounds_toArray, List.set_cons_zero, List.set_cons_succ]
      refine Till.one (i := 8) (by kernel_rfl) rfl (fun K hK => ?_)
      go_simp
      refine (allowedN_any f os rs gs vs plainD XA xc PA cl.length PC cl V1 (HOK.out.keep HB1.out) hn0 hn6 HRL6.out HX.out (HPL.out.keep HB1.out) rfl (by omega) (fun l hl => Nat.lt_of_lt_of_le (HClow.out l hl) hn6)).mono ?_
      rintro e V2 ⟨LA, LC, rfl, _, hb⟩
      rw [HNl.out]
      have HB2 := Lib.hid (below_on HB1.out hb)
      refine hK.out _ _ (fun _ => HS.out _ HB2.out) ?_
      clear hK K hb HX
      try simp only [List.setIfInBounds_toArray, List.set_cons_zero, List.set_cons_succ]
      refine Till.one (i := 9) (by kernel_rfl) rfl (fun K hK => ?_)
      go_simp
      refine hK.out _ _ (fun _ => HS.out _ HB2.out) ?_
      clear hK K
      try simp only [List.setIfInBounds_toArray, List.set_cons_zero, List.set_cons_succ]
      refine Till.one (i := 10) (by kernel_rfl) rfl (fun K hK => ?_)
      go_simp
      refine hK.out _ _ (fun _ => HS.out _ HB2.out) ?_
      clear hK K
      try simp only [List.setIfInBounds_toArray, List.set_cons_zero, List.set_cons_succ]
      refine Till.one (i := 11) (by kernel_rfl) rfl (fun K hK => ?_)
      go_simp
      refine hK.out _ _ (fun _ => HS.out _ HB2.out) ?_
      clear hK K
      try simp only [List.setIfInBounds_toArray, List.set_cons_zero, List.set_cons_succ]
      refine Till.one (i := 12) (by kernel_rfl) rfl (fun K hK => ?_)
      go_simp
      refine hK.out _ _ (fun h => absurd h (by simp)) ?_
      clear hK K
      try simp only [List.setIfInBounds_toArray, List.set_cons_zero, List.set_cons_succ]
      refine Till.done (by kernel_rfl) ?_ _
      have HOK := Lib.hid (HOK.out.keep HB2.out)
      have HCf := Lib.hid (HCf.out.keep HB2.out)
      have HPL := Lib.hid (HPL.out.keep HB2.out)
      have HK5 := Lib.hid (below_on HK5.out HB2.out)
      go_wp2_with fail
      go_ret
      exact ⟨rfl, HK5.out⟩
    · have hN0 : N = 0 := by rw [hal, hA]; rfl
      subst hN0
      have hrl : rs.length = f.rn := HOK.out.rsl
      have hsrt := cfL_sorted f.n rs cl f.rn
      have hend := cfL_end hA
      have hcf := cf_same hn6 HRL.out HClow.out
      rw [hrl] at hend hcf
      obtain ⟨A1, d1, rfl, hN1⟩ := own_nats hown rfl
      have hLle : (cfL f.n rs cl f.rn).1.length ≤ 48 := by
        have h1 := cfL_len f.n rs cl f.rn
        omega
      obtain ⟨L, hL⟩ : ∃ l, (cfL f.n rs cl f.rn).1 = l := ⟨_, rfl⟩
      rw [hL] at hsrt hend hcf hN1 hLle ⊢
      have HN1 := Lib.hid hN1
      have Hcf := Lib.hid hcf
      have HLs := Lib.hid hsrt.1
      have HLlt := Lib.hid (show ∀ j ∈ L, j < rs.length from fun j hj => by rw [hrl]; exact hend.1 j hj)
      have HLend := Lib.hid hend.2
      have Hrn := Lib.hid hrl
      clear hown hN1 hL hal hA hsrt hend hcf hrl
      go_upto_region 6 with fail
      have HS := Lib.hid (fun w' (hb : Below w4.heap.size w4 w') => (show w'.cell? ⟨pf, 0, none⟩ = some (.string f.nm) ∧ w'.cell? ⟨pf, 1, none⟩ = some (.slice f.PA f.pn f.pc) ∧ w'.cell? ⟨pf, 2, none⟩ = some (.slice f.IA f.iN f.ic) ∧ w'.cell? ⟨pf, 3, none⟩ = some (.slice f.DA f.dn f.dc) ∧ w'.cell? ⟨pf, 4, none⟩ = some (.slice f.KA f.kn f.kc) ∧ w'.cell? ⟨pf, 5, none⟩ = some (.slice f.QA f.qn f.qc) ∧ w'.cell? ⟨pf, 6, none⟩ = some (.slice f.OA f.n f.oc) ∧ w'.cell? ⟨pf, 7, none⟩ = some (.slice f.RA f.rn f.rc) ∧ w'.cell? ⟨pf, 8, none⟩ = some (.slice f.GA f.gn f.gc) ∧ w'.cell? ⟨pf, 9, none⟩ = some (.slice f.VA f.vn f.vc) from ⟨(HCf.out.keep hb).at_ 0, (HCf.out.keep hb).at_ 1, (HCf.out.keep hb).at_ 2, (HCf.out.keep hb).at_ 3, (HCf.out.keep hb).at_ 4, (HCf.out.keep hb).at_ 5, (HCf.out.keep hb).at_ 6, (HCf.out.keep hb).at_ 7, (HCf.out.keep hb).at_ 8, (HCf.out.keep hb).at_ 9⟩))
      refine Till.begin 12 (fun w' => w'.cell? ⟨pf, 0, none⟩ = some (.string f.nm) ∧ w'.cell? ⟨pf, 1, none⟩ = some (.slice f.PA f.pn f.pc) ∧ w'.cell? ⟨pf, 2, none⟩ = some (.slice f.IA f.iN f.ic) ∧ w'.cell? ⟨pf, 3, none⟩ = some (.slice f.DA f.dn f.dc) ∧ w'.cell? ⟨pf, 4, none⟩ = some (.slice f.KA f.kn f.kc) ∧ w'.cell? ⟨pf, 5, none⟩ = some (.slice f.QA f.qn f.qc) ∧ w'.cell? ⟨pf, 6, none⟩ = some (.slice f.OA f.n f.oc) ∧ w'.cell? ⟨pf, 7, none⟩ = some (.slice f.RA f.rn f.rc) ∧ w'.cell? ⟨pf, 8, none⟩ = some (.slice f.GA f.gn f.gc) ∧ w'.cell? ⟨pf, 9, none⟩ = some (.slice f.VA f.vn f.vc)) (by kernel_rfl) (HS.out _ (Below.refl _ _).drew) (fun hH => ?_)
      clear hH
      have HB0 := Lib.hid (Below.refl w4.heap.size w4).drew
      generalize w4.drew = V0 at HB0 ⊢
      try simp only [List.setIfInBounds_toArray, List.set_cons_zero, List.set_cons_succ]
      refine Till.tL 0 [1, 2, 3, 4, 5, 6, 7, 8, 9, 10, 11, 12] 32 (.int .i64 0) (HS.out _ HB0.out) ?_
      try simp only [Act.put, List.setIfInBounds_toArray, List.set_cons_zero, List.set_cons_succ]
      refine Till.tL 1 [2, 3, 4, 5, 6, 7, 8, 9, 10, 11, 12] 33 (.bool false) (HS.out _ HB0.out) ?_
      try simp only [Act.put, List.setIfInBounds_toArray, List.set_cons_zero, List.set_cons_succ]
      refine Till.tL 2 [3, 4, 5, 6, 7, 8, 9, 10, 11, 12] 34 (.bool false) (HS.out _ HB0.out) ?_
      try simp only [Act.put, List.setIfInBounds_toArray, List.set_cons_zero, List.set_cons_succ]
      refine Till.tL 3 [11, 12] 35 (.bool true) (HS.out _ HB0.out) ?_
      try simp only [Act.put, List.setIfInBounds_toArray, List.set_cons_zero, List.set_cons_succ]
      refine Till.tL 4 [8, 9, 10, 11, 12] 36 (.agg #[.string f.nm, .slice f.PA f.pn f.pc, .slice f.IA f.iN f.ic, .slice f.DA f.dn f.dc, .slice f.KA f.kn f.kc, .slice f.QA f.qn f.qc, .slice f.OA f.n f.oc, .slice f.RA f.rn f.rc, .slice f.GA f.gn f.gc, .slice f.VA f.vn f.vc]) (HS.out _ HB0.out) ?_
      try simp only [Act.put, List.setIfInBounds_toArray, List.set_cons_zero, List.set_cons_succ]
      refine Till.tL 5 [6, 8, 9, 10, 11, 12] 37 (.agg #[.string f.nm, .slice f.PA f.pn f.pc, .slice f.IA f.iN f.ic, .slice f.DA f.dn f.dc, .slice f.KA f.kn f.kc, .slice f.QA f.qn f.qc, .slice f.OA f.n f.oc, .slice f.RA f.rn f.rc, .slice f.GA f.gn f.gc, .slice f.VA f.vn f.vc]) (HS.out _ HB0.out) ?_
      try simp only [Act.put, List.setIfInBounds_toArray, List.set_cons_zero, List.set_cons_succ]
      refine Till.tL 7 [8, 9, 10, 11, 12] 39 (.slice PA cl.length PC) (HS.out _ HB0.out) ?_
      try simp only [Act.put, List.setIfInBounds_toArray, List.set_cons_zero, List.set_cons_succ]
      refine Till.one (i := 6) (by kernel_rfl) rfl (fun K hK => ?_)
      go_simp
      refine (noneN_any f os rs gs vs plainD V0 (HOK.out.keep HB0.out)).mono ?_
      rintro e V1 ⟨XA, xc, rfl, hX, hb⟩
      have HB1 := Lib.hid (below_on HB0.out hb)
      have HX := Lib.hid hX
      refine hK.out _ _ (fun _ => HS.out _ HB1.out) ?_
      clear hK K hX hb
      try simp only [List.setIfInBounds_toArray, List.set_cons_zero, List.set_cons_succ]
      refine Till.one (i := 8) (by kernel_rfl) rfl (fun K hK => ?_)
      go_simp
      refine (allowedN_any f os rs gs vs plainD XA xc PA cl.length PC cl V1 (HOK.out.keep HB1.out) hn0 hn6 HRL6.out HX.out (HPL.out.keep HB1.out) rfl (by omega) (fun l hl => Nat.lt_of_lt_of_le (HClow.out l hl) hn6)).mono ?_
      rintro e V2 ⟨LA, LC, rfl, _, hb⟩
      rw [HNl.out]
      have HB2 := Lib.hid (below_on HB1.out hb)
      refine hK.out _ _ (fun _ => HS.out _ HB2.out) ?_
      clear hK K hb HX
      try simp only [List.setIfInBounds_toArray, List.set_cons_zero, List.set_cons_succ]
      refine Till.one (i := 9) (by kernel_rfl) rfl (fun K hK => ?_)
      go_simp
      refine hK.out _ _ (fun _ => HS.out _ HB2.out) ?_
      clear hK K
      try simp only [List.setIfInBounds_toArray, List.set_cons_zero, List.set_cons_succ]
      refine Till.one (i := 10) (by kernel_rfl) rfl (fun K hK => ?_)
      go_simp
      refine hK.out _ _ (fun _ => HS.out _ HB2.out) ?_
      clear hK K
      try simp only [List.setIfInBounds_toArray, List.set_cons_zero, List.set_cons_succ]
      refine Till.one (i := 11) (by kernel_rfl) rfl (fun K hK => ?_)
      go_simp
      refine hK.out _ _ (fun _ => HS.out _ HB2.out) ?_
      clear hK K
      try simp only [List.setIfInBounds_toArray, List.set_cons_zero, List.set_cons_succ]
      refine Till.one (i := 12) (by kernel_rfl) rfl (fun K hK => ?_)
      go_simp
      refine hK.out _ _ (fun h => absurd h (by simp)) ?_
      clear hK K
      try simp only [List.setIfInBounds_toArray, List.set_cons_zero, List.set_cons_succ]
      refine Till.done (by kernel_rfl) ?_ _
      have HOK := Lib.hid (HOK.out.keep HB2.out)
      have HCf := Lib.hid (HCf.out.keep HB2.out)
      have HPL := Lib.hid (HPL.out.keep HB2.out)
      have HK5 := Lib.hid (below_on HK5.out HB2.out)
      have HN1 := Lib.hid (HN1.out.keep HB2.out)
      clear HS HB0 HB1 HB2
      have c0 := HCf.out.at_ 0
      have c1 := HCf.out.at_ 1
      have c2 := HCf.out.at_ 2
      have c3 := HCf.out.at_ 3
      have c4 := HCf.out.at_ 4
      have c5 := HCf.out.at_ 5
      have c6 := HCf.out.at_ 6
      have c7 := HCf.out.at_ 7
      have c8 := HCf.out.at_ 8
      have c9 := HCf.out.at_ 9
      simp only [List.getElem?_cons_zero, List.getElem?_cons_succ] at c0 c1 c2 c3 c4 c5 c6 c7 c8 c9
      have HCr := conflictR_any f rs PA cl.length PC cl V2 hn0 hn6 HOK.out.rsL HOK.out.rsl (by omega) HRL6.out HPL.out rfl (by omega) (fun l hl => Nat.lt_of_lt_of_le (HClow.out l hl) hn6)
      rw [← Hcf.out] at HCr
      have HCr := Lib.hid HCr
      go_wp2_with fail
      refine HCr.out.mono ?_
      rintro e w6 ⟨v, rfl, hown, hb⟩
      obtain ⟨A2, d2, rfl, hN2⟩ := own_nats hown rfl
      have HN2 := Lib.hid hN2
      have HN1 := Lib.hid (HN1.out.keep hb)
      have HOK := Lib.hid (HOK.out.keep hb)
      have HCf := Lib.hid (HCf.out.keep hb)
      have HPL := Lib.hid (HPL.out.keep hb)
      have HK6 := Lib.hid (below_on HK5.out hb)
      clear hown hb hN2 HCr HK5
      obtain ⟨M, hM⟩ : ∃ n, L.length = n := ⟨_, rfl⟩
      rw [hM] at hLle ⊢
      have HMl := Lib.hid hM
      have HSI := Lib.hid (sameInts_any A1 A2 M M d1 d2 L L w6 HN1.out HN2.out hM hM (by omega) (by omega))
      clear hM
      go_wp2_with fail
      refine HSI.out.mono ?_
      rintro e wf ⟨he, hb⟩
      have he : e = .returned (.bool true) := he.trans (by simp)
      subst he
      have HNf := Lib.hid (HN1.out.keep hb)
      have HOK6 := Lib.hid (HOK.out.keep hb)
      have HRf := Lib.hid HOK6.out.rsL
      have HCf6 := Lib.hid (HCf.out.keep hb)
      have HPL := Lib.hid (HPL.out.keep hb)
      have HKf := Lib.hid (below_on HK6.out hb)
      clear hb HSI HN1 HN2 HOK HK6
      have c0 := HCf6.out.at_ 0
      have c1 := HCf6.out.at_ 1
      have c2 := HCf6.out.at_ 2
      have c3 := HCf6.out.at_ 3
      have c4 := HCf6.out.at_ 4
      have c5 := HCf6.out.at_ 5
      have c6 := HCf6.out.at_ 6
      have c7 := HCf6.out.at_ 7
      have c8 := HCf6.out.at_ 8
      have c9 := HCf6.out.at_ 9
      simp only [List.getElem?_cons_zero, List.getElem?_cons_succ] at c0 c1 c2 c3 c4 c5 c6 c7 c8 c9
      obtain ⟨ir, hir, hir0, hir1, hir2⟩ := info_parts info_rul
      go_upto_region 13 with fail
      have kx := (Below.refl wf.heap.size wf).alloc (Nat.le_refl _) (.cells #[.string f.nm, .slice f.PA f.pn f.pc, .slice f.IA f.iN f.ic, .slice f.DA f.dn f.dc, .slice f.KA f.kn f.kc, .slice f.QA f.qn f.qc, .slice f.OA f.n f.oc, .slice f.RA f.rn f.rc, .slice f.GA f.gn f.gc, .slice f.VA f.vn f.vc] 40)
      have CG := Cells.new wf #[.string f.nm, .slice f.PA f.pn f.pc, .slice f.IA f.iN f.ic, .slice f.DA f.dn f.dc, .slice f.KA f.kn f.kc, .slice f.QA f.qn f.qc, .slice f.OA f.n f.oc, .slice f.RA f.rn f.rc, .slice f.GA f.gn f.gc, .slice f.VA f.vn f.vc] 40
      have hsg : wf.heap.size < (wf.alloc (.cells #[.string f.nm, .slice f.PA f.pn f.pc, .slice f.IA f.iN f.ic, .slice f.DA f.dn f.dc, .slice f.KA f.kn f.kc, .slice f.QA f.qn f.qc, .slice f.OA f.n f.oc, .slice f.RA f.rn f.rc, .slice f.GA f.gn f.gc, .slice f.VA f.vn f.vc] 40)).heap.size := by simp
      obtain ⟨wg, hwg⟩ : ∃ u, wf.alloc (.cells #[.string f.nm, .slice f.PA f.pn f.pc, .slice f.IA f.iN f.ic, .slice f.DA f.dn f.dc, .slice f.KA f.kn f.kc, .slice f.QA f.qn f.qc, .slice f.OA f.n f.oc, .slice f.RA f.rn f.rc, .slice f.GA f.gn f.gc, .slice f.VA f.vn f.vc] 40) = u := ⟨_, rfl⟩
      rw [hwg] at kx CG hsg ⊢
      obtain ⟨pg, hpg⟩ : ∃ p, wf.heap.size = p := ⟨_, rfl⟩
      have Hpw := Lib.hid (Nat.le_of_eq hpg)
      rw [hpg] at CG hsg ⊢
      have HCG := Lib.hid CG
      have HBg := Lib.hid kx
      have Hsg := Lib.hid hsg
      clear CG kx hwg hpg hsg
      go_wp2_with fail
      go_loopw [11, 12, 13, 14] (fun k _ _ _ wr => ∃ (sk : Nat) (v : Value), k = .int .i64 ((sk : Int) - 1) ∧ sk ≤ M + 1 ∧ Cells wr pg [.string f.nm, .slice f.PA f.pn f.pc, .slice f.IA f.iN f.ic, .slice f.DA f.dn f.dc, .slice f.KA f.kn f.kc, .slice f.QA f.qn f.qc, .slice f.OA f.n f.oc, v, .slice f.GA f.gn f.gc, .slice f.VA f.vn f.vc] ∧ Below wf.heap.size wf wr) (fun k _ _ _ _ => (M - intOf k).toNat)
      case atStart => exact ⟨0, _, by go_num, by omega, HCG.out, HBg.out⟩
      case round =>
        obtain ⟨sk, v0, rfl, hsk, hG0, hb0⟩ := hrel
        have HG0 := Lib.hid hG0
        have HB0' := Lib.hid hb0
        have g7 := hG0.at_ 7
        have y7 := hG0.fz 7
        simp only [List.getElem?_cons_zero, List.getElem?_cons_succ] at g7
        have hlt0 := hG0.lt
        clear hG0 hb0
        by_cases hlt : sk < M + 1
        · have i0 : (sk : Int) - 1 < (M : Int) := by omega
          have HGi := Lib.hid (HG0.out.set 7 (.slice none 0 0) (by show 7 < 10; decide))
          have G4 := grown_cells pg [.slice none 0 0] 7 wr
          have HBi := Lib.hid (HB0'.out.grown G4 HB0'.out.size (fun k e => by injection e with e; have := Hpw.out; omega))
          have Hpg := Lib.hid (Nat.lt_of_lt_of_le hlt0 G4.size)
          have e4 : wr.setCells pg 7 [.slice none 0 0] = wr.setCell ⟨pg, 7, none⟩ (.slice none 0 0) := rfl
          rw [e4] at HBi Hpg
          clear G4 e4
          go_upto_region 17 with fail
          obtain ⟨wi, hwi⟩ : ∃ u, wr.setCell ⟨pg, 7, none⟩ (.slice none 0 0) = u := ⟨_, rfl⟩
          rw [hwi] at HGi HBi Hpg ⊢
          have Hwi := Lib.hid HBi.out.size
          clear hwi g7 y7 HG0 HB0' hlt0
          go_wp2_with fail
          go_loopw [12] (fun i wx => ∃ (j : Nat) (v : Value) (qs : List Rq), i = .int .i64 (j : Nat) ∧ j ≤ M ∧ Cells wx pg [.string f.nm, .slice f.PA f.pn f.pc, .slice f.IA f.iN f.ic, .slice f.DA f.dn f.dc, .slice f.KA f.kn f.kc, .slice f.QA f.qn f.qc, .slice f.OA f.n f.oc, v, .slice f.GA f.gn f.gc, .slice f.VA f.vn f.vc] ∧ wx.ownsRow wi.heap.size 76 2 v qs.length (rflat qs) ∧ qs.map (·.1) = keepL rs L sk j ∧ LitQ wf qs ∧ Below wf.heap.size wf wx ∧ wi.heap.size ≤ wx.heap.size) (fun i _ => M - (intOf i).toNat)
          case atStart => exact ⟨0, .slice none 0 0, [], rfl, Nat.zero_le _, HGi.out, World.ownsRow_nil _ _ _ _, rfl, (fun q hq => absurd hq (by simp)), HBi.out, Nat.le_refl _⟩
          case round =>
            obtain ⟨j, v, qs, rfl, hj, hG, hown, hqs, hLq, hb, hsz⟩ := hrel
            obtain ⟨wx, rfl⟩ : ∃ x, x = wr := ⟨_, rfl⟩
            have HG := Lib.hid hG
            have Ow := Lib.hid hown
            have Hqs := Lib.hid hqs
            have HLq := Lib.hid hLq
            have Bx := Lib.hid hb
            have Szx := Lib.hid hsz
            have hql : qs.length ≤ 1000 := by
              have h1 := keepL_len rs L sk j
              rw [← hqs, List.length_map] at h1
              omega
            clear hG hown hqs hLq hb hsz
            by_cases hlt : j < M
            · have i1 : (j : Int) < (M : Int) := by omega
              obtain ⟨lj, hlj⟩ : ∃ x, L[j]? = some x := ⟨_, List.getElem?_eq_getElem (by rw [HMl.out]; exact hlt)⟩
              have Hlj := Lib.hid hlj
              obtain ⟨gl, ol, rfl, hgl, hcl0⟩ := HNf.out j lj hlj
              have hljn := HLlt.out lj (List.mem_of_getElem? hlj)
              clear hlj
              by_cases hjs : j + 1 = sk
              · have e1 : ((j : Int) != (sk : Int) - 1) = false := by simp; omega
                have e2 : (j : Int) = (sk : Int) - 1 := by omega
                go_wp2_with fail
                go_roundw
                case rel => exact ⟨j + 1, v, qs, by go_num, by omega, HG.out, Ow.out, by rw [Hqs.out, keepL_no hjs], HLq.out, Bx.out, Szx.out⟩
                case measure => simp [intOf]; omega
              · have e1 : ((j : Int) != (sk : Int) - 1) = true := by simp; omega
                have e2 : ¬ ((j : Int) = (sk : Int) - 1) := by omega
                obtain ⟨r, br, ro, A', d, hr, hRA, hbr, z0, z1, hl⟩ := HRf.out.at_ (k := lj) hljn
                have Hr := Lib.hid hr
                have Hl := Lib.hid hl
                have hcf7 := HCf6.out.at_ 7
                simp only [List.getElem?_cons_zero, List.getElem?_cons_succ] at hcf7
                rw [hRA] at hcf7
                have i5 : (lj : Int) < (f.rn : Int) := by have := Hrn.out; omega
                clear hr hl hRA e2
                go_upto_region 21 with fail
                have HS := Lib.hid (fun w' (hb : Below wx.heap.size wx w') => (show w'.cell? ⟨pg, 7, none⟩ = some v ∧ w'.cell? ⟨pf, 7, none⟩ = some (.slice (some ⟨br, ro, none⟩) f.rn f.rc) ∧ w'.cell? ⟨gl, ol + j, none⟩ = some (.int .i64 (lj : Nat)) ∧ w'.cell? ⟨br, ro + lj * 2, none⟩ = some (.string r.1) ∧ w'.cell? ⟨br, ro + lj * 2 + 1, none⟩ = some (.slice A' r.2.length d) from ⟨(HG.out.keep hb).at_ 7, ((below_on Bx.out hb).cell (p := ⟨pf, 7, none⟩) HCf6.out.lt).trans hcf7, ((below_on Bx.out hb).cell (p := ⟨gl, ol + j, none⟩) hgl).trans hcl0, ((below_on Bx.out hb).cell (p := ⟨br, ro + lj * 2, none⟩) hbr).trans z0, ((below_on Bx.out hb).cell (p := ⟨br, ro + lj * 2 + 1, none⟩) hbr).trans z1⟩))
                refine Till.begin 11 (fun w' => w'.cell? ⟨pg, 7, none⟩ = some v ∧ w'.cell? ⟨pf, 7, none⟩ = some (.slice (some ⟨br, ro, none⟩) f.rn f.rc) ∧ w'.cell? ⟨gl, ol + j, none⟩ = some (.int .i64 (lj : Nat)) ∧ w'.cell? ⟨br, ro + lj * 2, none⟩ = some (.string r.1) ∧ w'.cell? ⟨br, ro + lj * 2 + 1, none⟩ = some (.slice A' r.2.length d)) (by kernel_rfl) (HS.out _ (Below.refl _ _).drew) (fun hH => ?_)
                clear hH
                have HB0 := Lib.hid (Below.refl wx.heap.size wx).drew
                generalize wx.drew = V0 at HB0 ⊢
                try simp only [List.setIfInBounds_toArray, List.set_cons_zero, List.set_cons_succ]
                refine Till.tL 0 [1, 11] 73 (.pointer (some ⟨pg, 7, none⟩)) (HS.out _ HB0.out) ?_
                try simp only [Act.put, List.setIfInBounds_toArray, List.set_cons_zero, List.set_cons_succ]
                refine Till.tL 1 [11] 74 (v) (HS.out _ HB0.out) ?_
                try simp only [Act.put, List.setIfInBounds_toArray, List.set_cons_zero, List.set_cons_succ]
                refine Till.tL 2 [3, 8, 9, 10, 11] 75 (.pointer (some ⟨pf, 7, none⟩)) (HS.out _ HB0.out) ?_
                try simp only [Act.put, List.setIfInBounds_toArray, List.set_cons_zero, List.set_cons_succ]
                refine Till.tL 3 [8, 9, 10, 11] 76 (.slice (some ⟨br, ro, none⟩) f.rn f.rc) (HS.out _ HB0.out) ?_
                try simp only [Act.put, List.setIfInBounds_toArray, List.set_cons_zero, List.set_cons_succ]
                refine Till.tL 4 [6, 7, 8, 9, 10, 11] 77 (.slice (some ⟨gl, ol, none⟩) M d1) (HS.out _ HB0.out) ?_
                try simp only [Act.put, List.setIfInBounds_toArray, List.set_cons_zero, List.set_cons_succ]
                refine Till.tL 5 [6, 7, 8, 9, 10, 11] 78 (.int .i64 (j : Int)) (HS.out _ HB0.out) ?_
                try simp only [Act.put, List.setIfInBounds_toArray, List.set_cons_zero, List.set_cons_succ]
                refine Till.tL 6 [7, 8, 9, 10, 11] 79 (.pointer (some ⟨gl, ol + j, none⟩)) (HS.out _ HB0.out) ?_
                try simp only [Act.put, List.setIfInBounds_toArray, List.set_cons_zero, List.set_cons_succ]
                refine Till.tL 7 [8, 9, 10, 11] 80 (.int .i64 (lj : Nat)) (HS.out _ HB0.out) ?_
                try simp only [Act.put, List.setIfInBounds_toArray, List.set_cons_zero, List.set_cons_succ]
                refine Till.tL 8 [9, 10, 11] 81 (.pointer (some ⟨br, ro + lj * 2, none⟩)) (HS.out _ HB0.out) ?_
                try simp only [Act.put, List.setIfInBounds_toArray, List.set_cons_zero, List.set_cons_succ]
                refine Till.tL 9 [10, 11] 82 (.agg #[.string r.1, .slice A' r.2.length d]) (HS.out _ HB0.out) ?_
                try simp only [Act.put, List.setIfInBounds_toArray, List.set_cons_zero, List.set_cons_succ]
                refine Till.one (i := 10) (by kernel_rfl) rfl (fun K hK => ?_)
                go_simp
                have kx := (Below.refl V0.heap.size V0).alloc (Nat.le_refl _) (.cells #[.string r.1, .slice A' r.2.length d] 76)
                have CNw := Cells.new V0 #[.string r.1, .slice A' r.2.length d] 76
                obtain ⟨V8, hV⟩ : ∃ u, V0.alloc (.cells #[.string r.1, .slice A' r.2.length d] 76) = u := ⟨_, rfl⟩
                rw [hV] at kx CNw ⊢
                have HB8 := Lib.hid (below_on HB0.out kx)
                refine hK.out _ _ (fun _ => HS.out _ HB8.out) ?_
                clear hK K hV kx
                try simp only [List.setIfInBounds_toArray, List.set_cons_zero, List.set_cons_succ]
                have OV := own_keep Ow.out HB8.out
                obtain ⟨v', V9, hrun, hown', hgrow, _⟩ := run_append_own (P := Try.prog) V8 wi.heap.size 36 36 76 ir (.agg #[.string ByteArray.empty, .slice none 0 0]) 2 40 Try.underlying36 hir hir0 hir1 hir2 rfl (by decide) v qs.length (rflat qs) OV ⟨V0.heap.size, 0, none⟩ 1 1 [.string r.1, .slice A' r.2.length d] rfl (fun k u hu => by rw [Addr.add_lit, Nat.zero_add]; exact (CNw.at_ k).trans hu) (fun u hu => by
                  simp at hu
                  rcases hu with rfl | rfl <;> rfl) (by unfold maxLen; omega) (by omega) (Nat.le_trans Szx.out HB8.out.size)
                obtain ⟨NA, NC, rfl, _⟩ := own_row hown'
                refine Till.one (i := 11) (by kernel_rfl) rfl (fun K hK => ?_)
                refine step_append_run rfl (.tmp 74) (.tmp 83) 36 rfl rfl rfl hrun ?_
                have hgV : wx.grownBy V9 v.ownBlock := ⟨hgrow.os.trans HB8.out.os, hgrow.tape.trans HB8.out.tape, hgrow.output.trans HB8.out.output, Nat.le_trans HB8.out.size hgrow.size, fun k hk hne => (hgrow.block k (Nat.lt_of_lt_of_le hk HB8.out.size) hne).trans (HB8.out.block k hk)⟩
                have hpgi := Hpg.out
                have G9 := Lib.hid (cells_grown Ow.out hpgi Szx.out HG.out hgV)
                have B9 := Lib.hid (Bx.out.grown hgV Bx.out.size (fun k hk => by have := own_ge Ow.out hk; have := Hwi.out; omega))
                have Sz9 := Lib.hid (Nat.le_trans Szx.out hgV.size)
                have O9 := Lib.hid (show V9.ownsRow wi.heap.size 76 2 (.slice NA (qs.length + 1) NC) (qs ++ [(r, A', d)]).length (rflat (qs ++ [(r, A', d)])) by rw [rflat_app, List.length_append]; exact hown')
                have z7 := G9.out.at_ 7
                have y7 := G9.out.fz 7
                simp only [List.getElem?_cons_zero, List.getElem?_cons_succ] at z7
                refine hK.out _ _ (fun h => absurd h (by simp)) ?_
                clear hK K hown' hgrow hgV hrun OV CNw
                try simp only [Act.put, List.setIfInBounds_toArray]
                refine Till.one (i := 12) (by kernel_rfl) rfl (fun K hK => ?_)
                go_simp
                refine hK.out _ _ (fun h => absurd h (by simp)) ?_
                clear hK K
                try simp only [List.setIfInBounds_toArray, List.set_cons_zero, List.set_cons_succ]
                refine Till.one (i := 13) (by kernel_rfl) rfl (fun K hK => ?_)
                go_simp
                refine hK.out _ _ (fun h => absurd h (by simp)) ?_
                clear hK K
                try simp only [List.setIfInBounds_toArray, List.set_cons_zero, List.set_cons_succ]
                refine Till.done (by kernel_rfl) ?_ _
                have GF := Lib.hid (G9.out.set 7 (.slice NA (qs.length + 1) NC) (by show 7 < 10; decide))
                have G4 := grown_cells pg [.slice NA (qs.length + 1) NC] 7 V9
                have OF := Lib.hid (own_grown O9.out G4 (own_apart O9.out hpgi))
                have BF := Lib.hid (B9.out.grown G4 B9.out.size (fun k e => by injection e with e; have := Hpw.out; omega))
                have SzF := Lib.hid (Nat.le_trans Sz9.out G4.size)
                clear G4 z7 y7 hpgi
                go_wp2_with fail
                go_roundw
                case rel => exact ⟨j + 1, .slice NA (qs.length + 1) NC, qs ++ [(r, A', d)], by go_num, by omega, GF.out, OF.out, by rw [List.map_append, Hqs.out, keepL_yes hjs Hlj.out Hr.out]; rfl, (fun p hp => by
                  rcases List.mem_append.1 hp with hp | hp
                  · exact HLq.out p hp
                  · rw [List.mem_singleton.1 hp]; exact Hl.out), BF.out, SzF.out⟩
                case measure => simp [intOf]; omega
            · have hjM : j = M := by omega
              subst hjM
              obtain ⟨RA, RC, rfl, _⟩ := own_row Ow.out
              have hkl : qs.length = (keepL rs L sk L.length).length := by rw [HMl.out, ← Hqs.out, List.length_map]
              have hRL := RuleL.of_own Ow.out (fun q hq => (HLq.out q hq).keep Bx.out)
              rw [Hqs.out, ← HMl.out] at hRL
              have hOKg := withR_ok (rc := RC) (HOK6.out.keep Bx.out) HLlt.out HLs.out (by rw [HMl.out]; omega) hRL
              have HOKg := Lib.hid hOKg
              have HCo := count_ok (withR f RA (keepL rs L sk L.length).length RC) os (keepL rs L sk L.length) gs vs plainD PA cl.length PC cl wx HOKg.out (HPL.out.keep Bx.out) rfl (by omega) HCok.out
              obtain ⟨n2, hn2⟩ : ∃ n, (AL (withR f RA (keepL rs L sk L.length).length RC).n (keepL rs L sk L.length) cl).length = n := ⟨_, rfl⟩
              have hz : n2 = 0 ↔ sk = 0 := by
                rw [← hn2, List.length_eq_zero_iff]
                constructor
                · intro h0
                  rcases Nat.eq_zero_or_pos sk with h1 | h1
                  · exact h1
                  · obtain ⟨s, rfl⟩ : ∃ s, sk = s + 1 := ⟨sk - 1, by omega⟩
                    exact absurd h0 (keepL_some (HLend.out.2 s (by rw [HMl.out]; omega)))
                · intro h0
                  subst h0
                  exact keepL_nil HLend.out.1
              rw [hn2] at HCo
              rw [← hkl] at HCo
              have HCo := Lib.hid HCo
              have HGx := Lib.hid HG.out
              clear hn2 hRL hOKg hkl
              have g0 := HGx.out.at_ 0
              have g1 := HGx.out.at_ 1
              have g2 := HGx.out.at_ 2
              have g3 := HGx.out.at_ 3
              have g4 := HGx.out.at_ 4
              have g5 := HGx.out.at_ 5
              have g6 := HGx.out.at_ 6
              have g7 := HGx.out.at_ 7
              have g8 := HGx.out.at_ 8
              have g9 := HGx.out.at_ 9
              simp only [List.getElem?_cons_zero, List.getElem?_cons_succ] at g0 g1 g2 g3 g4 g5 g6 g7 g8 g9
              go_wp2_with fail
              refine HCo.out.mono ?_
              rintro e w9 ⟨rfl, hb⟩
              have B9 := Lib.hid (below_on Bx.out hb)
              have G9 := Lib.hid (HGx.out.keep hb)
              clear hb HCo g0 g1 g2 g3 g4 g5 g6 g7 g8 g9
              by_cases hs0 : sk = 0
              · have hn0' := hz.2 hs0
                subst hn0' hs0
                go_wp2_with fail
                go_roundw
                case rel => exact ⟨1, _, by go_num, by omega, G9.out, B9.out⟩
                case measure => simp [intOf]
              · have hn0' : ¬ n2 = 0 := fun h => hs0 (hz.1 h)
                have e3 : ((n2 : Int) == 0) = false := by rw [beq_eq_false_iff_ne]; omega
                have e4 : ¬ ((n2 : Int) = 0) := by omega
                have e5 : ¬ ((sk : Int) - 1 < 0) := by omega
                have e6 : decide ((sk : Int) - 1 < 0) = false := decide_eq_false e5
                have e7 : decide (n2 = 0) = false := decide_eq_false hn0'
                have e8 : IntKind.i64.wrap ((sk : Int) - 1 + 1) = ((sk + 1 : Nat) : Int) - 1 := by rw [show (sk : Int) - 1 + 1 = ((sk + 1 : Nat) : Int) - 1 by omega]; exact IntWalk.i64_in _ (by omega)
                go_wp2_with fail
                go_roundw
                case rel => exact ⟨sk + 1, _, by go_num, by omega, G9.out, B9.out⟩
                case measure => simp [intOf]; omega
        · have i0 : ¬ ((sk : Int) - 1 < (M : Int)) := by omega
          have HE := Lib.hid (below_on HKf.out HB0'.out)
          go_wp2_with fail
          go_ret
          exact ⟨rfl, HE.out⟩
end Go.Proofs.Ytmfmpkihmadjmaa
