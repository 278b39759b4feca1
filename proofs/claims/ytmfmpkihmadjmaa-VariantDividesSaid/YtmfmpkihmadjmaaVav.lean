/- VariantDivides: the walk. -/
import Derived.Test.YtmfmpkihmadjmaaVau
namespace Go.Proofs.Ytmfmpkihmadjmaa
open Go.RowKit Go.Shelf
theorem lc_any' (l : List (Nat × Bool)) (q : Nat) : ((lc l).any fun e => e.1 == (q : Int)) = l.any fun e => e.1 == q := by
  unfold lc
  rw [List.any_map, Bool.eq_iff_iff, List.any_eq_true, List.any_eq_true]
  exact ⟨fun ⟨x, h1, h2⟩ => ⟨x, h1, by simp at h2 ⊢; omega⟩, fun ⟨x, h1, h2⟩ => ⟨x, h1, by simp at h2 ⊢; omega⟩⟩
theorem litV_snoc (l : List (Nat × Bool)) (x : Nat) (s : Bool) : litV (l ++ [(x, s)]) = litV l ++ [.int .i64 (x : Nat), .bool s] := by unfold litV; rw [List.flatMap_append]; rfl
/-- Where the inner loop stands. -/
def insK (c : List (Nat × Bool)) (o : Nat) (b : Bool) (i k : Nat) : List (Nat × Bool) := insO c o b i ++ (c.take k).filter (fun x => x.1 == i)
theorem insK_zero (c : List (Nat × Bool)) (o : Nat) (b : Bool) (i : Nat) : insK c o b i 0 = insO c o b i := by unfold insK; simp
theorem insK_yes {c : List (Nat × Bool)} {o i k x : Nat} {b s : Bool} (h : c[k]? = some (x, s)) (hx : x = i) : insK c o b i (k + 1) = insK c o b i k ++ [(x, s)] := by
  unfold insK
  rw [List.take_add_one, h, List.filter_append, ← List.append_assoc]
  simp [hx]
theorem insK_no {c : List (Nat × Bool)} {o i k x : Nat} {b s : Bool} (h : c[k]? = some (x, s)) (hx : ¬ x = i) : insK c o b i (k + 1) = insK c o b i k := by
  unfold insK
  rw [List.take_add_one, h, List.filter_append]
  simp [hx]
theorem insK_in {c : List (Nat × Bool)} {o i : Nat} {b : Bool} (h : i = o) : insO c o b (i + 1) = insK c o b i c.length ++ [(i, b)] := by
  unfold insK
  rw [insO, List.take_length, if_pos h, h]
theorem insK_out {c : List (Nat × Bool)} {o i : Nat} {b : Bool} (h : ¬ i = o) : insO c o b (i + 1) = insK c o b i c.length := by
  unfold insK
  rw [insO, List.take_length, if_neg h, List.append_nil]
theorem insK_len (c : List (Nat × Bool)) (o : Nat) (b : Bool) (i k : Nat) : (insK c o b i k).length ≤ (c.length + 1) * (i + 1) := by
  unfold insK
  have h1 := insO_len (c := c) o b i
  have h2 := List.length_filter_le (fun x : Nat × Bool => x.1 == i) (c.take k)
  have h3 : (c.take k).length ≤ c.length := by rw [List.length_take]; omega
  rw [List.length_append, Nat.mul_succ]
  omega
theorem own_lt' {w : World} {B n sz : Nat} {e : TypeId} {v : Value} {xs : List Value} (h : w.ownsRow B e sz v n xs) {k : Nat} (hk : v.ownBlock = some k) : k < w.heap.size := by
  rcases h.2 with ⟨rfl, _⟩ | ⟨g, cap, cur, rfl, _, hh, _⟩
  · simp [Value.ownBlock] at hk
  · simp [Value.ownBlock] at hk
    subst hk
    rcases Nat.lt_or_ge g w.heap.size with h1 | h1
    · exact h1
    · rw [Array.getElem?_eq_none h1] at hh; cases hh
theorem own_stay {x y : World} {B n sz : Nat} {e : TypeId} {v : Value} {xs : List Value} {row : Option Nat} (h : x.ownsRow B e sz v n xs) (hg : x.grownBy y row) (hne : ∀ k, v.ownBlock = some k → some k ≠ row) : y.ownsRow B e sz v n xs := by
  refine ⟨h.1, ?_⟩
  rcases h.2 with h0 | ⟨g, cap, cur, rfl, hB, hh, hr⟩
  · exact .inl h0
  · have hlt : g < x.heap.size := own_lt' h rfl
    exact .inr ⟨g, cap, cur, rfl, hB, (hg.block g hlt (hne g rfl)).trans hh, hr⟩
theorem cells_apart {x y : World} {p : Nat} {vs : List Value} {row : Option Nat} (h : Cells x p vs) (hg : x.grownBy y row) (hne : row ≠ some p) : Cells y p vs := by
  have hb := hg.block p h.lt (fun e => hne e.symm)
  exact ⟨fun i => (World.cell?_of_block (a := ⟨p, i, none⟩) hb).trans (h.at_ i), fun i => (World.frozen?_of_block (a := ⟨p, i, none⟩) hb).trans (h.fz i), Nat.lt_of_lt_of_le h.lt hg.size⟩
/-- Two rows of literals, in different blocks. -/
structure Duo (w0 w : World) (v1 v2 : Value) (l1 l2 : List (Nat × Bool)) : Prop where
  o1 : w.ownsRow w0.heap.size 68 2 v1 l1.length (litV l1)
  o2 : w.ownsRow w0.heap.size 68 2 v2 l2.length (litV l2)
  sep : ∀ k, v1.ownBlock = some k → v2.ownBlock ≠ some k
  low : Below w0.heap.size w0 w
theorem Duo.keep {w0 w x : World} {v1 v2 : Value} {l1 l2 : List (Nat × Bool)} (h : Duo w0 w v1 v2 l1 l2) (hb : Below w.heap.size w x) : Duo w0 x v1 v2 l1 l2 :=
  ⟨own_keep h.o1 hb, own_keep h.o2 hb, h.sep, below_on h.low hb⟩
theorem Duo.app1 {w0 w x : World} {v1 v2 : Value} {l1 l2 : List (Nat × Bool)} (h : Duo w0 w v1 v2 l1 l2) (hg : w.grownBy x v1.ownBlock) {g cap e : Nat} {s : Bool} (ho : x.ownsRow w0.heap.size 68 2 (.slice (some ⟨g, 0, none⟩) (l1.length + 1) cap) (l1.length + 1) (litV l1 ++ [.int .i64 (e : Nat), .bool s])) (hw : v1.ownBlock = some g ∨ w.heap.size ≤ g) :
    Duo w0 x (.slice (some ⟨g, 0, none⟩) (l1.length + 1) cap) v2 (l1 ++ [(e, s)]) l2 :=
  ⟨by rw [litV_snoc, List.length_append]; exact ho, own_stay h.o2 hg (fun k hk e1 => h.sep k e1.symm hk), fun k hk h2 => by
    have hk : g = k := by simpa [Value.ownBlock] using hk
    subst hk
    rcases hw with hw | hw
    · exact h.sep g hw h2
    · have := own_lt' h.o2 h2
      omega, h.low.grown hg h.low.size (fun k hk => own_ge h.o1 hk)⟩
theorem Duo.app2 {w0 w x : World} {v1 v2 : Value} {l1 l2 : List (Nat × Bool)} (h : Duo w0 w v1 v2 l1 l2) (hg : w.grownBy x v2.ownBlock) {g cap e : Nat} {s : Bool} (ho : x.ownsRow w0.heap.size 68 2 (.slice (some ⟨g, 0, none⟩) (l2.length + 1) cap) (l2.length + 1) (litV l2 ++ [.int .i64 (e : Nat), .bool s])) (hw : v2.ownBlock = some g ∨ w.heap.size ≤ g) :
    Duo w0 x v1 (.slice (some ⟨g, 0, none⟩) (l2.length + 1) cap) l1 (l2 ++ [(e, s)]) :=
  ⟨own_stay h.o1 hg (fun k hk e1 => h.sep k hk e1.symm), by rw [litV_snoc, List.length_append]; exact ho, fun k hk h2 => by
    have h2 : g = k := by simpa [Value.ownBlock] using h2
    subst h2
    rcases hw with hw | hw
    · exact h.sep g hk hw
    · have := own_lt' h.o1 hk
      omega, h.low.grown hg h.low.size (fun k hk => own_ge h.o2 hk)⟩
theorem ins_ok {n o : Nat} {b : Bool} {c : List (Nat × Bool)} (hc : LowN n c) (hs : c.Pairwise fun a b => a.1 < b.1) (ho : o < n) (hm : (c.any fun e => e.1 == o) = false) : chE n none (lc (insO c o b n)) = 0 := by
  refine chE_sorted (insO_sorted hs (fun x hx e => ?_) n) (fun x hx => ?_) (fun q hq => by cases hq)
  · rw [List.any_eq_false] at hm
    have := hm x hx
    simp [e] at this
  · rcases (insO_mem c o b n x).1 hx with ⟨h, _⟩ | ⟨h, h2⟩
    · exact hc x h
    · rw [h]; exact ho
set_option maxRecDepth 100000 in
set_option maxHeartbeats 16000000 in
theorem divides_any (o m : Nat) (ho : o < 256) (hm : o % 6 = m) (RA GA VA : Option Addr) (rn rc gn gc vn vc : Nat) (kr kg kv : List (List Int)) (cA : Option Addr) (cn cc : Nat) (ci : List Int) (x : Nat) (w : World) (hkr : I8LL w RA kr) (hkg : I8LL w GA kg) (hkv : I8LL w VA kv) (lr : kr.length = rn) (lg : kg.length = gn) (lv : kv.length = vn) (h8r : ∀ l ∈ kr, ∀ k ∈ l, -128 ≤ k ∧ k < 128) (h8g : ∀ l ∈ kg, ∀ k ∈ l, -128 ≤ k ∧ k < 128) (h8v : ∀ l ∈ kv, ∀ k ∈ l, -128 ≤ k ∧ k < 128) (hcl : ci.length = cn) (hch : I8L w cA ci) (hc8 : ∀ k ∈ ci, -128 ≤ k ∧ k < 128) (hx : x < 256) :
    Calls Try.prog 10 #[.agg #[.int .u8 (o : Nat), .slice RA rn rc, .slice GA gn gc, .slice VA vn vc], .slice cA cn cc, .int .u8 (x : Nat)] w fun e w' => e = .returned (.bool true) ∧ Below w.heap.size w w' := by
  have HFam := Lib.hid (fun (I J : Option Addr) (ic : Nat) (W : World) (hb : Below w.heap.size w W) (hD : DimL W J plainD) => family_any o m ho hm RA GA VA I J rn rc gn gc vn vc ic kr kg kv W (hkr.keep hb) (hkg.keep hb) (hkv.keep hb) lr lg lv h8r h8g h8v hD)
  clear hkr hkg hkv lr lg lv h8r h8g h8v
  have k1 := (Below.refl w.heap.size w).alloc (Nat.le_refl _) (.cells #[.int .u8 (o : Nat), .slice RA rn rc, .slice GA gn gc, .slice VA vn vc] 24)
  have C1 := Cells.new w #[.int .u8 (o : Nat), .slice RA rn rc, .slice GA gn gc, .slice VA vn vc] 24
  obtain ⟨w1, hw1⟩ : ∃ u, w.alloc (.cells #[.int .u8 (o : Nat), .slice RA rn rc, .slice GA gn gc, .slice VA vn vc] 24) = u := ⟨_, rfl⟩
  rw [hw1] at k1 C1
  have HC1 := Lib.hid C1
  have HK1 := Lib.hid k1
  clear C1 k1
  go_enter Try.func10, Try.ntmps10
  go_wp2_with fail
  refine (known_true w1).mono ?_
  rintro e w2 ⟨rfl, hb⟩
  clear hw1
  have HC2 := Lib.hid (HC1.out.keep hb)
  have HK2 := Lib.hid (below_on HK1.out hb)
  clear hb HC1
  go_upto_region 3 with fail
  go_cut [7] (fun s wx => Started w2 m kr kg kv s wx)
  case first =>
    have HS := Lib.hid (fun w' (hb : Below w2.heap.size w2 w') => (show w'.cell? ⟨w.heap.size, 0, none⟩ = some (.int .u8 (o : Nat)) ∧ w'.cell? ⟨w.heap.size, 1, none⟩ = some (.slice RA rn rc) ∧ w'.cell? ⟨w.heap.size, 2, none⟩ = some (.slice GA gn gc) ∧ w'.cell? ⟨w.heap.size, 3, none⟩ = some (.slice VA vn vc) from ⟨(HC2.out.keep hb).at_ 0, (HC2.out.keep hb).at_ 1, (HC2.out.keep hb).at_ 2, (HC2.out.keep hb).at_ 3⟩))
    refine Till.begin 4 (fun w' => w'.cell? ⟨w.heap.size, 0, none⟩ = some (.int .u8 (o : Nat)) ∧ w'.cell? ⟨w.heap.size, 1, none⟩ = some (.slice RA rn rc) ∧ w'.cell? ⟨w.heap.size, 2, none⟩ = some (.slice GA gn gc) ∧ w'.cell? ⟨w.heap.size, 3, none⟩ = some (.slice VA vn vc)) (by kernel_rfl) (HS.out _ (Below.refl _ _).drew) (fun hH => ?_)
    clear hH
    have HB0 := Lib.hid (Below.refl w2.heap.size w2).drew
    generalize w2.drew = V0 at HB0 ⊢
    try simp only [List.setIfInBounds_toArray, List.set_cons_zero, List.set_cons_succ]
    refine Till.tL 0 [2, 4] 25 (.agg #[.int .u8 (o : Nat), .slice RA rn rc, .slice GA gn gc, .slice VA vn vc]) (HS.out _ HB0.out) ?_
    try simp only [Act.put, List.setIfInBounds_toArray, List.set_cons_zero, List.set_cons_succ]
    refine Till.two (i := 1) (j := 3) (by kernel_rfl) rfl rfl ?_ ?_
    · intro K hK
      go_simp
      refine (plain_any V0).mono ?_
      rintro e V1 ⟨I, ic, J, rfl, _, hJ, hJb, hb⟩
      have HB1 := Lib.hid (below_on HB0.out hb)
      have HJ := Lib.hid hJ
      have HJb := Lib.hid hJb
      have HPs := Lib.hid hb.size
      refine hK.out _ _ (fun _ => HS.out _ HB1.out) ?_
      clear hK K hJ hJb
      try simp only [List.setIfInBounds_toArray, List.set_cons_zero, List.set_cons_succ]
      refine Till.two (i := 2) (j := 3) (by kernel_rfl) rfl rfl ?_ ?_
      · intro K hK
        go_simp
        refine (HFam.out I J ic V1 (below_on HK2.out HB1.out) HJ.out).mono ?_
        rintro e V2 ⟨OA, oc, rA, rC, gA, gC, vA, vC, he, hOK, _, hMem, hb⟩
        obtain ⟨f, hf⟩ : ∃ f, (famF I ic J OA rA gA vA (1 + m) oc (famR (1 + m) kr).length rC (famG (1 + m) kg).length gC (famV (1 + m) kv).length vC) = f := ⟨_, rfl⟩
        rw [hf] at he hOK hMem
        have hfn : f.n = 1 + m := by rw [← hf]; rfl
        have hfJ : f.DA = J := by rw [← hf]; rfl
        have HFn := Lib.hid hfn
        have HfJ := Lib.hid hfJ
        clear hf hfn hfJ
        subst he
        have HB2 := Lib.hid (below_on HB1.out hb)
        have HOK := Lib.hid hOK
        have HMem := Lib.hid hMem
        have HFb := Lib.hid hb
        refine hK.out _ _ (fun _ => HS.out _ HB2.out) ?_
        clear hK K hOK hMem hb
        try simp only [List.setIfInBounds_toArray, List.set_cons_zero, List.set_cons_succ]
        refine Till.one (i := 3) (by kernel_rfl) rfl (fun K hK => ?_)
        go_simp
        have kx := (Below.refl V2.heap.size V2).alloc (Nat.le_refl _) (.cells #[.string { data := #[] }, .slice none 0 0, .slice none 0 0, .slice none 0 0, .slice none 0 0, .slice none 0 0, .slice none 0 0, .slice none 0 0, .slice none 0 0, .slice none 0 0] 40)
        have RZ := heap_new V2 (.cells #[.string { data := #[] }, .slice none 0 0, .slice none 0 0, .slice none 0 0, .slice none 0 0, .slice none 0 0, .slice none 0 0, .slice none 0 0, .slice none 0 0, .slice none 0 0] 40)
        obtain ⟨V3, hV⟩ : ∃ u, V2.alloc (.cells #[.string { data := #[] }, .slice none 0 0, .slice none 0 0, .slice none 0 0, .slice none 0 0, .slice none 0 0, .slice none 0 0, .slice none 0 0, .slice none 0 0, .slice none 0 0] 40) = u := ⟨_, rfl⟩
        have hsz : V2.heap.size < V3.heap.size := by rw [← hV]; simp
        rw [hV] at kx RZ ⊢
        obtain ⟨p, hp⟩ : ∃ p, V2.heap.size = p := ⟨_, rfl⟩
        have HB3 := Lib.hid (below_on HB2.out kx)
        have KX := Lib.hid kx
        have HP := Lib.hid hp
        have HPz := Lib.hid (show p < V3.heap.size by omega)
        rw [hp] at RZ ⊢
        have RZ := Lib.hid RZ
        refine hK.out _ _ (fun _ => HS.out _ HB3.out) ?_
        clear hK K hV kx hp hsz
        try simp only [List.setIfInBounds_toArray, List.set_cons_zero, List.set_cons_succ]
        have RF := row_setCells p 40 [.string f.nm, .slice f.PA f.pn f.pc, .slice f.IA f.iN f.ic, .slice f.DA f.dn f.dc, .slice f.KA f.kn f.kc, .slice f.QA f.qn f.qc, .slice f.OA f.n f.oc, .slice f.RA f.rn f.rc, .slice f.GA f.gn f.gc, .slice f.VA f.vn f.vc] 0 V3 _ RZ.out
        have G0 := grown_cells p [.string f.nm, .slice f.PA f.pn f.pc, .slice f.IA f.iN f.ic, .slice f.DA f.dn f.dc, .slice f.KA f.kn f.kc, .slice f.QA f.qn f.qc, .slice f.OA f.n f.oc, .slice f.RA f.rn f.rc, .slice f.GA f.gn f.gc, .slice f.VA f.vn f.vc] 0 V3
        obtain ⟨WF, hWF⟩ : ∃ u, V3.setCells p 0 [.string f.nm, .slice f.PA f.pn f.pc, .slice f.IA f.iN f.ic, .slice f.DA f.dn f.dc, .slice f.KA f.kn f.kc, .slice f.QA f.qn f.qc, .slice f.OA f.n f.oc, .slice f.RA f.rn f.rc, .slice f.GA f.gn f.gc, .slice f.VA f.vn f.vc] = u := ⟨_, rfl⟩
        rw [hWF] at RF G0
        have CR := Cells.of_row RZ.out
        have p0 := CR.at_ 0
        have p1 := CR.at_ 1
        have p2 := CR.at_ 2
        have p3 := CR.at_ 3
        have p4 := CR.at_ 4
        have p5 := CR.at_ 5
        have p6 := CR.at_ 6
        have p7 := CR.at_ 7
        have p8 := CR.at_ 8
        have p9 := CR.at_ 9
        simp only [List.getElem?_cons_zero, List.getElem?_cons_succ] at p0 p1 p2 p3 p4 p5 p6 p7 p8 p9
        have f0 := CR.fz 0
        have f1 := CR.fz 1
        have f2 := CR.fz 2
        have f3 := CR.fz 3
        have f4 := CR.fz 4
        have f5 := CR.fz 5
        have f6 := CR.fz 6
        have f7 := CR.fz 7
        have f8 := CR.fz 8
        have f9 := CR.fz 9
        have kF : Below V2.heap.size V2 WF := KX.out.grown G0 KX.out.size (fun k e => by injection e with e; have := HP.out; omega)
        have hOKF := Lib.hid (HOK.out.keep kF)
        have RF : WF.heap[p]? = some (.cells #[.string f.nm, .slice f.PA f.pn f.pc, .slice f.IA f.iN f.ic, .slice f.DA f.dn f.dc, .slice f.KA f.kn f.kc, .slice f.QA f.qn f.qc, .slice f.OA f.n f.oc, .slice f.RA f.rn f.rc, .slice f.GA f.gn f.gc, .slice f.VA f.vn f.vc] 40 (0, 0)) := by
          rwa [put10] at RF
        have HCF := Lib.hid (Cells.of_row RF)
        have hpW : w2.heap.size ≤ p := by have := HP.out; have := HB2.out.size; omega
        have BF := Lib.hid (HB3.out.grown G0 HB3.out.size (fun k e => by injection e with e; omega))
        simp only [World.setCells, Nat.reduceAdd] at hWF
        have HWF := Lib.hid hWF
        have HpW := Lib.hid hpW
        clear hWF CR RF G0 hpW
        refine Till.one (i := 4) (by kernel_rfl) rfl (fun K hK => ?_)
        go_simp
        rw [HWF.out]
        refine hK.out _ _ (fun h => absurd h (by simp)) ?_
        clear hK K p0 f0 p1 f1 p2 f2 p3 f3 p4 f4 p5 f5 p6 f6 p7 f7 p8 f8 p9 f9
        try simp only [List.setIfInBounds_toArray, List.set_cons_zero, List.set_cons_succ]
        refine Till.done (by kernel_rfl) ?_ _
        go_wp2_with fail
        go_meet
        exact ⟨p, f, rfl, HpW.out, HCF.out, HFn.out, hOKF.out, BF.out⟩
      · intro K hK
        go_simp
        have kx := (Below.refl V1.heap.size V1).alloc (Nat.le_refl _) (.cells #[.string { data := #[] }, .slice none 0 0, .slice none 0 0, .slice none 0 0, .slice none 0 0, .slice none 0 0, .slice none 0 0, .slice none 0 0, .slice none 0 0, .slice none 0 0] 40)
        have RZ := heap_new V1 (.cells #[.string { data := #[] }, .slice none 0 0, .slice none 0 0, .slice none 0 0, .slice none 0 0, .slice none 0 0, .slice none 0 0, .slice none 0 0, .slice none 0 0, .slice none 0 0] 40)
        obtain ⟨V2, hV⟩ : ∃ u, V1.alloc (.cells #[.string { data := #[] }, .slice none 0 0, .slice none 0 0, .slice none 0 0, .slice none 0 0, .slice none 0 0, .slice none 0 0, .slice none 0 0, .slice none 0 0, .slice none 0 0] 40) = u := ⟨_, rfl⟩
        have hsz : V1.heap.size < V2.heap.size := by rw [← hV]; simp
        rw [hV] at kx RZ ⊢
        obtain ⟨p, hp⟩ : ∃ p, V1.heap.size = p := ⟨_, rfl⟩
        have HB2 := Lib.hid (below_on HB1.out kx)
        have KX := Lib.hid kx
        have HP := Lib.hid hp
        have HPz := Lib.hid (show p < V2.heap.size by omega)
        rw [hp] at RZ ⊢
        have RZ := Lib.hid RZ
        refine hK.out _ _ (fun _ => HS.out _ HB2.out) ?_
        clear hK K hV kx hp hsz
        try simp only [List.setIfInBounds_toArray, List.set_cons_zero, List.set_cons_succ]
        have HJ2 := Lib.hid (HJ.out.keep KX.out)
        refine Till.one (i := 2) (by kernel_rfl) rfl (fun K hK => ?_)
        go_simp
        refine (HFam.out I J ic V2 (below_on HK2.out HB2.out) HJ2.out).mono ?_
        rintro e V3 ⟨OA, oc, rA, rC, gA, gC, vA, vC, he, hOK, _, hMem, hb⟩
        obtain ⟨f, hf⟩ : ∃ f, (famF I ic J OA rA gA vA (1 + m) oc (famR (1 + m) kr).length rC (famG (1 + m) kg).length gC (famV (1 + m) kv).length vC) = f := ⟨_, rfl⟩
        rw [hf] at he hOK hMem
        have hfn : f.n = 1 + m := by rw [← hf]; rfl
        have hfJ : f.DA = J := by rw [← hf]; rfl
        have HFn := Lib.hid hfn
        have HfJ := Lib.hid hfJ
        clear hf hfn hfJ
        subst he
        have HB3 := Lib.hid (below_on HB2.out hb)
        have HOK := Lib.hid hOK
        have HMem := Lib.hid hMem
        have HFb := Lib.hid hb
        refine hK.out _ _ (fun _ => HS.out _ HB3.out) ?_
        clear hK K hOK hMem hb
        try simp only [List.setIfInBounds_toArray, List.set_cons_zero, List.set_cons_succ]
        have RZ := Lib.hid (row_keep RZ.out HFb.out)
        have RF := row_setCells p 40 [.string f.nm, .slice f.PA f.pn f.pc, .slice f.IA f.iN f.ic, .slice f.DA f.dn f.dc, .slice f.KA f.kn f.kc, .slice f.QA f.qn f.qc, .slice f.OA f.n f.oc, .slice f.RA f.rn f.rc, .slice f.GA f.gn f.gc, .slice f.VA f.vn f.vc] 0 V3 _ RZ.out
        have G0 := grown_cells p [.string f.nm, .slice f.PA f.pn f.pc, .slice f.IA f.iN f.ic, .slice f.DA f.dn f.dc, .slice f.KA f.kn f.kc, .slice f.QA f.qn f.qc, .slice f.OA f.n f.oc, .slice f.RA f.rn f.rc, .slice f.GA f.gn f.gc, .slice f.VA f.vn f.vc] 0 V3
        obtain ⟨WF, hWF⟩ : ∃ u, V3.setCells p 0 [.string f.nm, .slice f.PA f.pn f.pc, .slice f.IA f.iN f.ic, .slice f.DA f.dn f.dc, .slice f.KA f.kn f.kc, .slice f.QA f.qn f.qc, .slice f.OA f.n f.oc, .slice f.RA f.rn f.rc, .slice f.GA f.gn f.gc, .slice f.VA f.vn f.vc] = u := ⟨_, rfl⟩
        rw [hWF] at RF G0
        have CR := Cells.of_row RZ.out
        have p0 := CR.at_ 0
        have p1 := CR.at_ 1
        have p2 := CR.at_ 2
        have p3 := CR.at_ 3
        have p4 := CR.at_ 4
        have p5 := CR.at_ 5
        have p6 := CR.at_ 6
        have p7 := CR.at_ 7
        have p8 := CR.at_ 8
        have p9 := CR.at_ 9
        simp only [List.getElem?_cons_zero, List.getElem?_cons_succ] at p0 p1 p2 p3 p4 p5 p6 p7 p8 p9
        have f0 := CR.fz 0
        have f1 := CR.fz 1
        have f2 := CR.fz 2
        have f3 := CR.fz 3
        have f4 := CR.fz 4
        have f5 := CR.fz 5
        have f6 := CR.fz 6
        have f7 := CR.fz 7
        have f8 := CR.fz 8
        have f9 := CR.fz 9
        have hOKF := Lib.hid (HOK.out.other HMem.out G0 HPz.out (fun b o t e => by have := (HJb.out b o t (HfJ.out.symm.trans e)).2; have := HP.out; omega))
        have RF : WF.heap[p]? = some (.cells #[.string f.nm, .slice f.PA f.pn f.pc, .slice f.IA f.iN f.ic, .slice f.DA f.dn f.dc, .slice f.KA f.kn f.kc, .slice f.QA f.qn f.qc, .slice f.OA f.n f.oc, .slice f.RA f.rn f.rc, .slice f.GA f.gn f.gc, .slice f.VA f.vn f.vc] 40 (0, 0)) := by
          rwa [put10] at RF
        have HCF := Lib.hid (Cells.of_row RF)
        have hpW : w2.heap.size ≤ p := by have := HP.out; have := HB1.out.size; omega
        have BF := Lib.hid (HB3.out.grown G0 HB3.out.size (fun k e => by injection e with e; omega))
        simp only [World.setCells, Nat.reduceAdd] at hWF
        have HWF := Lib.hid hWF
        have HpW := Lib.hid hpW
        clear hWF CR RF G0 hpW
        refine Till.one (i := 4) (by kernel_rfl) rfl (fun K hK => ?_)
        go_simp
        rw [HWF.out]
        refine hK.out _ _ (fun h => absurd h (by simp)) ?_
        clear hK K p0 f0 p1 f1 p2 f2 p3 f3 p4 f4 p5 f5 p6 f6 p7 f7 p8 f8 p9 f9
        try simp only [List.setIfInBounds_toArray, List.set_cons_zero, List.set_cons_succ]
        refine Till.done (by kernel_rfl) ?_ _
        go_wp2_with fail
        go_meet
        exact ⟨p, f, rfl, HpW.out, HCF.out, HFn.out, hOKF.out, BF.out⟩
    · intro K hK
      go_simp
      have kx := (Below.refl V0.heap.size V0).alloc (Nat.le_refl _) (.cells #[.string { data := #[] }, .slice none 0 0, .slice none 0 0, .slice none 0 0, .slice none 0 0, .slice none 0 0, .slice none 0 0, .slice none 0 0, .slice none 0 0, .slice none 0 0] 40)
      have RZ := heap_new V0 (.cells #[.string { data := #[] }, .slice none 0 0, .slice none 0 0, .slice none 0 0, .slice none 0 0, .slice none 0 0, .slice none 0 0, .slice none 0 0, .slice none 0 0, .slice none 0 0] 40)
      obtain ⟨V1, hV⟩ : ∃ u, V0.alloc (.cells #[.string { data := #[] }, .slice none 0 0, .slice none 0 0, .slice none 0 0, .slice none 0 0, .slice none 0 0, .slice none 0 0, .slice none 0 0, .slice none 0 0, .slice none 0 0] 40) = u := ⟨_, rfl⟩
      have hsz : V0.heap.size < V1.heap.size := by rw [← hV]; simp
      rw [hV] at kx RZ ⊢
      obtain ⟨p, hp⟩ : ∃ p, V0.heap.size = p := ⟨_, rfl⟩
      have HB1 := Lib.hid (below_on HB0.out kx)
      have KX := Lib.hid kx
      have HP := Lib.hid hp
      have HPz := Lib.hid (show p < V1.heap.size by omega)
      rw [hp] at RZ ⊢
      have RZ := Lib.hid RZ
      refine hK.out _ _ (fun _ => HS.out _ HB1.out) ?_
      clear hK K hV kx hp hsz
      try simp only [List.setIfInBounds_toArray, List.set_cons_zero, List.set_cons_succ]
      refine Till.one (i := 1) (by kernel_rfl) rfl (fun K hK => ?_)
      go_simp
      refine (plain_any V1).mono ?_
      rintro e V2 ⟨I, ic, J, rfl, _, hJ, hJb, hb⟩
      have HB2 := Lib.hid (below_on HB1.out hb)
      have HJ := Lib.hid hJ
      have HJb := Lib.hid hJb
      have HPs := Lib.hid hb.size
      refine hK.out _ _ (fun _ => HS.out _ HB2.out) ?_
      clear hK K hJ hJb
      try simp only [List.setIfInBounds_toArray, List.set_cons_zero, List.set_cons_succ]
      have RZ := Lib.hid (row_keep RZ.out hb)
      have HPz2 := Lib.hid (Nat.lt_of_lt_of_le HPz.out HPs.out)
      clear hb
      refine Till.one (i := 2) (by kernel_rfl) rfl (fun K hK => ?_)
      go_simp
      refine (HFam.out I J ic V2 (below_on HK2.out HB2.out) HJ.out).mono ?_
      rintro e V3 ⟨OA, oc, rA, rC, gA, gC, vA, vC, he, hOK, _, hMem, hb⟩
      obtain ⟨f, hf⟩ : ∃ f, (famF I ic J OA rA gA vA (1 + m) oc (famR (1 + m) kr).length rC (famG (1 + m) kg).length gC (famV (1 + m) kv).length vC) = f := ⟨_, rfl⟩
      rw [hf] at he hOK hMem
      have hfn : f.n = 1 + m := by rw [← hf]; rfl
      have hfJ : f.DA = J := by rw [← hf]; rfl
      have HFn := Lib.hid hfn
      have HfJ := Lib.hid hfJ
      clear hf hfn hfJ
      subst he
      have HB3 := Lib.hid (below_on HB2.out hb)
      have HOK := Lib.hid hOK
      have HMem := Lib.hid hMem
      have HFb := Lib.hid hb
      refine hK.out _ _ (fun _ => HS.out _ HB3.out) ?_
      clear hK K hOK hMem hb
      try simp only [List.setIfInBounds_toArray, List.set_cons_zero, List.set_cons_succ]
      have RZ := Lib.hid (row_keep RZ.out HFb.out)
      have RF := row_setCells p 40 [.string f.nm, .slice f.PA f.pn f.pc, .slice f.IA f.iN f.ic, .slice f.DA f.dn f.dc, .slice f.KA f.kn f.kc, .slice f.QA f.qn f.qc, .slice f.OA f.n f.oc, .slice f.RA f.rn f.rc, .slice f.GA f.gn f.gc, .slice f.VA f.vn f.vc] 0 V3 _ RZ.out
      have G0 := grown_cells p [.string f.nm, .slice f.PA f.pn f.pc, .slice f.IA f.iN f.ic, .slice f.DA f.dn f.dc, .slice f.KA f.kn f.kc, .slice f.QA f.qn f.qc, .slice f.OA f.n f.oc, .slice f.RA f.rn f.rc, .slice f.GA f.gn f.gc, .slice f.VA f.vn f.vc] 0 V3
      obtain ⟨WF, hWF⟩ : ∃ u, V3.setCells p 0 [.string f.nm, .slice f.PA f.pn f.pc, .slice f.IA f.iN f.ic, .slice f.DA f.dn f.dc, .slice f.KA f.kn f.kc, .slice f.QA f.qn f.qc, .slice f.OA f.n f.oc, .slice f.RA f.rn f.rc, .slice f.GA f.gn f.gc, .slice f.VA f.vn f.vc] = u := ⟨_, rfl⟩
      rw [hWF] at RF G0
      have CR := Cells.of_row RZ.out
      have p0 := CR.at_ 0
      have p1 := CR.at_ 1
      have p2 := CR.at_ 2
      have p3 := CR.at_ 3
      have p4 := CR.at_ 4
      have p5 := CR.at_ 5
      have p6 := CR.at_ 6
      have p7 := CR.at_ 7
      have p8 := CR.at_ 8
      have p9 := CR.at_ 9
      simp only [List.getElem?_cons_zero, List.getElem?_cons_succ] at p0 p1 p2 p3 p4 p5 p6 p7 p8 p9
      have f0 := CR.fz 0
      have f1 := CR.fz 1
      have f2 := CR.fz 2
      have f3 := CR.fz 3
      have f4 := CR.fz 4
      have f5 := CR.fz 5
      have f6 := CR.fz 6
      have f7 := CR.fz 7
      have f8 := CR.fz 8
      have f9 := CR.fz 9
      have hOKF := Lib.hid (HOK.out.other HMem.out G0 HPz2.out (fun b o t e => by have := (HJb.out b o t (HfJ.out.symm.trans e)).1; have := HPz.out; omega))
      have RF : WF.heap[p]? = some (.cells #[.string f.nm, .slice f.PA f.pn f.pc, .slice f.IA f.iN f.ic, .slice f.DA f.dn f.dc, .slice f.KA f.kn f.kc, .slice f.QA f.qn f.qc, .slice f.OA f.n f.oc, .slice f.RA f.rn f.rc, .slice f.GA f.gn f.gc, .slice f.VA f.vn f.vc] 40 (0, 0)) := by
        rwa [put10] at RF
      have HCF := Lib.hid (Cells.of_row RF)
      have hpW : w2.heap.size ≤ p := by have := HP.out; have := HB0.out.size; omega
      have BF := Lib.hid (HB3.out.grown G0 HB3.out.size (fun k e => by injection e with e; omega))
      simp only [World.setCells, Nat.reduceAdd] at hWF
      have HWF := Lib.hid hWF
      have HpW := Lib.hid hpW
      clear hWF CR RF G0 hpW
      refine Till.one (i := 4) (by kernel_rfl) rfl (fun K hK => ?_)
      go_simp
      rw [HWF.out]
      refine hK.out _ _ (fun h => absurd h (by simp)) ?_
      clear hK K p0 f0 p1 f1 p2 f2 p3 f3 p4 f4 p5 f5 p6 f6 p7 f7 p8 f8 p9 f9
      try simp only [List.setIfInBounds_toArray, List.set_cons_zero, List.set_cons_succ]
      refine Till.done (by kernel_rfl) ?_ _
      go_wp2_with fail
      go_meet
      exact ⟨p, f, rfl, HpW.out, HCF.out, HFn.out, hOKF.out, BF.out⟩
  case rest =>
    obtain ⟨pf, f, rfl, hpf, hCf, hfn, hOK, hbf⟩ := hcut
    have hn6 : f.n ≤ 6 := by omega
    have hn0 : 0 < f.n := by omega
    have HOK := Lib.hid hOK
    have HCf := Lib.hid hCf
    have HK3 := Lib.hid (below_on HK2.out hbf)
    have hr48 := hOK.r48
    have HFn := Lib.hid hfn
    have HHO := Lib.hid (show (famO (1 + m)) = famO f.n by rw [hfn])
    have HHR := Lib.hid (show (famR (1 + m) kr) = famR f.n kr by rw [hfn])
    clear hOK hCf hbf hpf HC2 HK2 HFam hfn 
    obtain ⟨os, hos⟩ : ∃ x, famO (1 + m) = x := ⟨_, rfl⟩
    obtain ⟨rs, hrs⟩ : ∃ x, famR (1 + m) kr = x := ⟨_, rfl⟩
    obtain ⟨gs, hgs⟩ : ∃ x, famG (1 + m) kg = x := ⟨_, rfl⟩
    obtain ⟨vs, hvs⟩ : ∃ x, famV (1 + m) kv = x := ⟨_, rfl⟩
    rw [hos, hrs, hgs, hvs] at HOK
    have hRL : ∀ r ∈ rs, LowN f.n r.2 := by rw [← hrs, HHR.out]; exact famR_low kr
    have hRL6 : ∀ r ∈ rs, (∀ l ∈ r.2, l.1 < 6) ∧ r.2.length ≤ 1000 := by rw [← hrs, HHR.out]; exact famR_low6 hn6 kr
    have HRL := Lib.hid hRL
    have HRL6 := Lib.hid hRL6
    clear hos hrs hgs hvs HHO HHR hRL hRL6
    have c0 := HCf.out.at_ 0
    have c1 := HCf.out.at_ 1
    have c2 := HCf.out.at_ 2
    have c3 := HCf.out.at_ 3
    have c4 := HCf.out.at_ 4
    have c5 := HCf.out.at_ 5
    have c6 := HCf.out.at_ 6
    have c7 := HCf.out.at_ 7
    have c8 := HCf.out.at_ 8
    have c9 := HCf.out.at_ 9
    simp only [List.getElem?_cons_zero, List.getElem?_cons_succ] at c0 c1 c2 c3 c4 c5 c6 c7 c8 c9
    have HDc := Lib.hid (fun W (hb : Below w.heap.size w W) => decode_any f.n cA cn cc ci W (hch.keep hb) hcl hn0 hn6 hc8)
    clear hch hcl hc8
    obtain ⟨oo, hoe⟩ : ∃ y, x % f.n = y := ⟨_, rfl⟩
    have hoo : oo < f.n := by rw [← hoe]; exact Nat.mod_lt _ hn0
    have e5 : Int.tmod (x : Int) (f.n : Int) = (oo : Int) := by rw [← hoe]; exact (Int.ofNat_tmod _ _).symm
    have e6 : IntKind.i64.wrap (oo : Int) = (oo : Int) := IntWalk.i64_in _ (by omega)
    have e7 : IntKind.i64.wrap (x : Int) = (x : Int) := IntWalk.i64_in _ (by omega)
    have n0 : ((f.n : Int) == 0) = false := by rw [beq_eq_false_iff_ne]; omega
    have n1 : ¬ ((f.n : Int) = 0) := by omega
    have n2 : ¬ f.n = 0 := by omega
    clear hoe
    go_upto_region 5 with fail
    have HS := Lib.hid (fun (w' : World) (_ : Below wc.heap.size wc w') => trivial)
    refine Till.begin 8 (fun _ => True) (by kernel_rfl) trivial (fun hH => ?_)
    clear hH
    have HB0 := Lib.hid (Below.refl wc.heap.size wc).drew
    generalize wc.drew = V0 at HB0 ⊢
    try simp only [List.setIfInBounds_toArray, List.set_cons_zero, List.set_cons_succ]
    refine Till.tL 0 [2, 7, 8] 31 (.int .i64 (f.n : Int)) (HS.out _ HB0.out) ?_
    try simp only [Act.put, List.setIfInBounds_toArray, List.set_cons_zero, List.set_cons_succ]
    refine Till.tL 1 [2, 7, 8] 32 (.slice cA cn cc) (HS.out _ HB0.out) ?_
    try simp only [Act.put, List.setIfInBounds_toArray, List.set_cons_zero, List.set_cons_succ]
    refine Till.tL 3 [4, 6, 8] 34 (.int .u8 (x : Nat)) (HS.out _ HB0.out) ?_
    try simp only [Act.put, List.setIfInBounds_toArray, List.set_cons_zero, List.set_cons_succ]
    refine Till.tL 4 [6, 8] 35 (.int .i64 (x : Int)) (HS.out _ HB0.out) ?_
    try simp only [Act.put, List.setIfInBounds_toArray, List.set_cons_zero, List.set_cons_succ]
    refine Till.tL 5 [6, 8] 36 (.int .i64 (f.n : Int)) (HS.out _ HB0.out) ?_
    try simp only [Act.put, List.setIfInBounds_toArray, List.set_cons_zero, List.set_cons_succ]
    refine Till.tL 6 [8] 37 (.int .i64 (oo : Int)) (HS.out _ HB0.out) ?_
    try simp only [Act.put, List.setIfInBounds_toArray, List.set_cons_zero, List.set_cons_succ]
    refine Till.one (i := 2) (by kernel_rfl) rfl (fun K hK => ?_)
    go_simp
    refine (HDc.out V0 (below_on HK3.out HB0.out)).mono ?_
    rintro e w3 ⟨v, rfl, hown, hb⟩
    obtain ⟨PA, PC, rfl, hPL⟩ := own_lits hown
    have HB1 := Lib.hid (below_on HB0.out hb)
    have HPL := Lib.hid hPL
    refine hK.out _ _ (fun _ => trivial) ?_
    clear hK K hown hPL hb
    try simp only [List.setIfInBounds_toArray, List.set_cons_zero, List.set_cons_succ]
    refine Till.one (i := 7) (by kernel_rfl) rfl (fun K hK => ?_)
    go_simp
    refine hK.out _ _ (fun _ => trivial) ?_
    clear hK K
    try simp only [List.setIfInBounds_toArray, List.set_cons_zero, List.set_cons_succ]
    refine Till.one (i := 8) (by kernel_rfl) rfl (fun K hK => ?_)
    go_simp
    refine hK.out _ _ (fun h => absurd h (by simp)) ?_
    clear hK K
    try simp only [List.setIfInBounds_toArray, List.set_cons_zero, List.set_cons_succ]
    refine Till.done (by kernel_rfl) ?_ _
    have hcn := decN_len f.n ci
    have hclow : LowN f.n (decN f.n ci) := decN_low f.n ci
    have hcok := decN_ok f.n ci
    have hcs : (decN f.n ci).Pairwise fun a b => a.1 < b.1 := dLs_sorted _ _
    obtain ⟨cl, hcleq⟩ : ∃ x, decN f.n ci = x := ⟨_, rfl⟩
    rw [hcleq] at HPL hcn hclow hcok hcs ⊢
    have HOK := Lib.hid (HOK.out.keep HB1.out)
    have HCf := Lib.hid (HCf.out.keep HB1.out)
    have HK4 := Lib.hid (below_on HK3.out HB1.out)
    have HClow := Lib.hid hclow
    have HCok := Lib.hid hcok
    have HCs := Lib.hid hcs
    have HCn := Lib.hid (Nat.le_trans hcn hn6)
    clear hcleq hclow hcok hcs hcn HK3 HDc HS HB0 HB1 e5 e6 e7 n0 n1 n2
    obtain ⟨CLn, hCLn⟩ : ∃ n, cl.length = n := ⟨_, rfl⟩
    have hC6 : CLn ≤ 6 := by have := HCn.out; omega
    rw [hCLn]
    have HCLn := Lib.hid hCLn
    clear hCLn
    have HM := mentions_any PA CLn PC (oo : Int) (lc cl) w3 HPL.out (by rw [lc_len]; exact HCLn.out) (by omega)
    rw [lc_any'] at HM
    obtain ⟨mb, hmb⟩ : ∃ b, (cl.any fun e => e.1 == oo) = b := ⟨_, rfl⟩
    rw [hmb] at HM
    have HM := Lib.hid HM
    cases mb
    · have HMn := Lib.hid hmb
      clear hmb
      go_wp2_with fail
      refine HM.out.mono ?_
      rintro e w5 ⟨rfl, rfl⟩
      obtain ⟨w5, rfl⟩ : ∃ x, x = w3 := ⟨_, rfl⟩
      have HOK5 := Lib.hid HOK.out
      have HCf5 := Lib.hid HCf.out
      have HPL5 := Lib.hid HPL.out
      have HK5 := Lib.hid HK4.out
      clear HOK HCf HPL HK4 HM
      obtain ⟨i0, hi, hz0, hz1, hz2⟩ := info_parts info_lit
      have c0 := HCf5.out.at_ 0
      have c1 := HCf5.out.at_ 1
      have c2 := HCf5.out.at_ 2
      have c3 := HCf5.out.at_ 3
      have c4 := HCf5.out.at_ 4
      have c5 := HCf5.out.at_ 5
      have c6 := HCf5.out.at_ 6
      have c7 := HCf5.out.at_ 7
      have c8 := HCf5.out.at_ 8
      have c9 := HCf5.out.at_ 9
      simp only [List.getElem?_cons_zero, List.getElem?_cons_succ] at c0 c1 c2 c3 c4 c5 c6 c7 c8 c9
      go_wp2_with fail
      go_loopw [11, 12, 13, 14] (fun a b i _ wr => ∃ j : Nat, i = .int .i64 (j : Nat) ∧ j ≤ f.n ∧ Duo w5 wr a b (insO cl oo true j) (insO cl oo false j)) (fun _ _ i _ _ => f.n - (intOf i).toNat)
      case atStart => exact ⟨0, rfl, Nat.zero_le _, World.ownsRow_nil _ _ _ _, World.ownsRow_nil _ _ _ _, fun k hk => by simp [Value.ownBlock] at hk, Below.refl _ _⟩
      case round =>
        obtain ⟨j, rfl, hj, hD⟩ := hrel
        have HD0 := Lib.hid hD
        clear hD
        by_cases hlt : j < f.n
        · have Hlt := Lib.hid hlt
          have i1 : (j : Int) < (f.n : Int) := by omega
          go_wp2_with fail
          go_loopw [11, 12, 14] (fun a b q wx => ∃ k : Nat, q = .int .i64 (k : Nat) ∧ k ≤ CLn ∧ Duo w5 wx a b (insK cl oo true j k) (insK cl oo false j k)) (fun _ _ q _ => CLn - (intOf q).toNat)
          case atStart => exact ⟨0, rfl, Nat.zero_le _, by rw [insK_zero, insK_zero]; exact HD0.out⟩
          case round =>
            obtain ⟨k, rfl, hk, hD⟩ := hrel
            obtain ⟨wr2, rfl⟩ : ∃ x, x = wr := ⟨_, rfl⟩
            have HD := Lib.hid hD
            have hl1 := insK_len cl oo true j k
            have hl2 := insK_len cl oo false j k
            have hm7 : (cl.length + 1) * (j + 1) ≤ 7 * 6 := Nat.mul_le_mul (by have := HCn.out; omega) (by omega)
            clear hD
            by_cases hkn : k < CLn
            · obtain ⟨e0, bc, oc, he, rfl, hbc, z0, z1⟩ := HPL5.out.at_ (k := k) (by rw [lc_len]; have := HCLn.out; omega)
              obtain ⟨lx, ls, hlx, rfl⟩ := lc_at he
              simp only at z0 z1
              have hbx := (HD.out.low.cell (p := ⟨bc, oc + k * 2, none⟩) hbc).trans z0
              have i4 : (k : Int) < (CLn : Int) := by omega
              have Hk1 := Lib.hid hkn
              by_cases hxi : lx = j
              · have e1 : ((lx : Int) == (j : Int)) = true := by rw [beq_iff_eq]; omega
                have e3 : decide ((lx : Int) = (j : Int)) = true := decide_eq_true (by omega)
                have e4 : decide (lx = j) = true := decide_eq_true hxi
                have Hy1 := Lib.hid (insK_yes (o := oo) (b := true) hlx hxi)
                have Hy2 := Lib.hid (insK_yes (o := oo) (b := false) hlx hxi)
                obtain ⟨l1, hl1e⟩ : ∃ l, insK cl oo true j k = l := ⟨_, rfl⟩
                obtain ⟨l2, hl2e⟩ : ∃ l, insK cl oo false j k = l := ⟨_, rfl⟩
                rw [hl1e] at Hy1 HD hl1
                rw [hl2e] at Hy2 HD hl2
                obtain ⟨v1, rfl⟩ : ∃ v, v = (u11 : Value) := ⟨_, rfl⟩
                obtain ⟨v2, rfl⟩ : ∃ v, v = (u12 : Value) := ⟨_, rfl⟩
                clear he hlx hl1e hl2e hxi
                go_upto_region 16 with fail
                have HSW := Lib.hid (fun w' (hb : Below w5.heap.size w5 w') => (show w'.cell? ⟨bc, oc + k * 2, none⟩ = some (.int .i64 (lx : Nat)) ∧ w'.cell? ⟨bc, oc + k * 2 + 1, none⟩ = some (.bool ls) from ⟨(hb.cell (p := ⟨bc, oc + k * 2, none⟩) hbc).trans z0, (hb.cell (p := ⟨bc, oc + k * 2 + 1, none⟩) hbc).trans z1⟩))
                have HS := Lib.hid (fun w' (hb : Below wr2.heap.size wr2 w') => HSW.out w' (below_on HD.out.low hb))
                have HBp := Lib.hid (fun (a b : World) (h1 : Below wr2.heap.size wr2 a) (h2 : Below a.heap.size a b) => below_on h1 h2)
                refine Till.begin 13 (fun w' => w'.cell? ⟨bc, oc + k * 2, none⟩ = some (.int .i64 (lx : Nat)) ∧ w'.cell? ⟨bc, oc + k * 2 + 1, none⟩ = some (.bool ls)) (by kernel_rfl) (HS.out _ (Below.refl _ _).drew) (fun hH => ?_)
                clear hH
                have HB0 := Lib.hid (Below.refl wr2.heap.size wr2).drew
                have HD := Lib.hid (HD.out.keep (Below.refl wr2.heap.size wr2).drew)
                generalize wr2.drew = V0 at HB0 HD ⊢
                try simp only [List.setIfInBounds_toArray, List.set_cons_zero, List.set_cons_succ]
                refine Till.tL 0 [6, 13] 59 (v1) (HS.out _ HB0.out) ?_
                try simp only [Act.put, List.setIfInBounds_toArray, List.set_cons_zero, List.set_cons_succ]
                refine Till.tL 1 [3, 4, 5, 6, 13] 60 (.slice (some ⟨bc, oc, none⟩) CLn PC) (HS.out _ HB0.out) ?_
                try simp only [Act.put, List.setIfInBounds_toArray, List.set_cons_zero, List.set_cons_succ]
                refine Till.tL 2 [3, 4, 5, 6, 13] 61 (.int .i64 (k : Int)) (HS.out _ HB0.out) ?_
                try simp only [Act.put, List.setIfInBounds_toArray, List.set_cons_zero, List.set_cons_succ]
                refine Till.tL 3 [4, 5, 6, 13] 62 (.pointer (some ⟨bc, oc + k * 2, none⟩)) (HS.out _ HB0.out) ?_
                try simp only [Act.put, List.setIfInBounds_toArray, List.set_cons_zero, List.set_cons_succ]
                refine Till.tL 4 [5, 6, 13] 63 (.agg #[.int .i64 (lx : Nat), .bool ls]) (HS.out _ HB0.out) ?_
                try simp only [Act.put, List.setIfInBounds_toArray, List.set_cons_zero, List.set_cons_succ]
                refine Till.tL 7 [13] 66 (v2) (HS.out _ HB0.out) ?_
                try simp only [Act.put, List.setIfInBounds_toArray, List.set_cons_zero, List.set_cons_succ]
                refine Till.tL 8 [10, 11, 12, 13] 67 (.slice (some ⟨bc, oc, none⟩) CLn PC) (HS.out _ HB0.out) ?_
                try simp only [Act.put, List.setIfInBounds_toArray, List.set_cons_zero, List.set_cons_succ]
                refine Till.tL 9 [10, 11, 12, 13] 68 (.int .i64 (k : Int)) (HS.out _ HB0.out) ?_
                try simp only [Act.put, List.setIfInBounds_toArray, List.set_cons_zero, List.set_cons_succ]
                refine Till.tL 10 [11, 12, 13] 69 (.pointer (some ⟨bc, oc + k * 2, none⟩)) (HS.out _ HB0.out) ?_
                try simp only [Act.put, List.setIfInBounds_toArray, List.set_cons_zero, List.set_cons_succ]
                refine Till.tL 11 [12, 13] 70 (.agg #[.int .i64 (lx : Nat), .bool ls]) (HS.out _ HB0.out) ?_
                try simp only [Act.put, List.setIfInBounds_toArray, List.set_cons_zero, List.set_cons_succ]
                have HLT := Lib.hid (fun (q : Nat) (e : v1.ownBlock = some q) => own_lt' HD.out.o1 e)
                refine Till.two (i := 5) (j := 12) (by kernel_rfl) rfl rfl ?_ ?_
                · intro K hK
                  go_simp
                  have kx := (Below.refl V0.heap.size V0).alloc (Nat.le_refl _) (.cells #[.int .i64 (lx : Nat), .bool ls] 68)
                  have CAh := Cells.new V0 #[.int .i64 (lx : Nat), .bool ls] 68
                  obtain ⟨V1, hV⟩ : ∃ u, V0.alloc (.cells #[.int .i64 (lx : Nat), .bool ls] 68) = u := ⟨_, rfl⟩
                  rw [hV] at kx CAh ⊢
                  have CA := Lib.hid CAh
                  have HD := Lib.hid (HD.out.keep kx)
                  have HB1 := Lib.hid (HBp.out V0 V1 HB0.out kx)
                  have KX := Lib.hid kx
                  refine hK.out _ _ (fun _ => HS.out _ HB1.out) ?_
                  clear hK K hV kx CAh
                  try simp only [List.setIfInBounds_toArray, List.set_cons_zero, List.set_cons_succ]
                  have HSz := Lib.hid KX.out.size
                  refine Till.two (i := 6) (j := 12) (by kernel_rfl) rfl rfl ?_ ?_
                  · intro K hK
                    have OV := HD.out.o1
                    obtain ⟨g1, cap1, V2, hrun, hown', hgrow, hw, _⟩ := run_append_lies (P := Try.prog) (w := V1) 55 55 w5.heap.size 68 i0 (.agg #[.int .i64 0, .bool false]) 2 16 Try.underlying55 hi hz0 hz1 hz2 rfl (by decide) v1 l1.length (litV l1) OV ⟨V0.heap.size, 0, none⟩ 1 1 [.int .i64 (lx : Nat), .bool ls] rfl (fun k u hu => by rw [Addr.add_lit, Nat.zero_add]; exact (CA.out.at_ k).trans hu) (fun u hu => by
                      simp at hu
                      rcases hu with rfl | rfl <;> rfl) (by decide) (by unfold maxLen; omega) (by omega) HD.out.low.size _ rfl
                    refine step_append_run rfl (.tmp 59) (.tmp 64) 55 rfl rfl rfl hrun ?_
                    have HD := Lib.hid (HD.out.app1 hgrow hown' (hw.imp id (fun e => Nat.le_of_eq e.symm)))
                    have HBx := Lib.hid (show w5.heap.size ≤ V2.heap.size from HD.out.low.size)
                    refine hK.out _ _ (fun _ => HSW.out _ HD.out.low) ?_
                    clear hK K hown' hgrow hrun OV hw
                    try simp only [Act.put, List.setIfInBounds_toArray]
                    refine Till.one (i := 12) (by kernel_rfl) rfl (fun K hK => ?_)
                    go_simp
                    have kx := (Below.refl V2.heap.size V2).alloc (Nat.le_refl _) (.cells #[.int .i64 (lx : Nat), .bool ls] 68)
                    have CBh := Cells.new V2 #[.int .i64 (lx : Nat), .bool ls] 68
                    obtain ⟨V3, hV⟩ : ∃ u, V2.alloc (.cells #[.int .i64 (lx : Nat), .bool ls] 68) = u := ⟨_, rfl⟩
                    rw [hV] at kx CBh ⊢
                    have CB := Lib.hid CBh
                    have HD := Lib.hid (HD.out.keep kx)
                    refine hK.out _ _ (fun _ => HSW.out _ HD.out.low) ?_
                    clear hK K hV kx CBh
                    try simp only [List.setIfInBounds_toArray, List.set_cons_zero, List.set_cons_succ]
                    have OV := HD.out.o2
                    obtain ⟨g2, cap2, V4, hrun, hown', hgrow, hw, _⟩ := run_append_lies (P := Try.prog) (w := V3) 55 55 w5.heap.size 68 i0 (.agg #[.int .i64 0, .bool false]) 2 16 Try.underlying55 hi hz0 hz1 hz2 rfl (by decide) v2 l2.length (litV l2) OV ⟨V2.heap.size, 0, none⟩ 1 1 [.int .i64 (lx : Nat), .bool ls] rfl (fun k u hu => by rw [Addr.add_lit, Nat.zero_add]; exact (CB.out.at_ k).trans hu) (fun u hu => by
                      simp at hu
                      rcases hu with rfl | rfl <;> rfl) (by decide) (by unfold maxLen; omega) (by omega) HD.out.low.size _ rfl
                    refine Till.one (i := 13) (by kernel_rfl) rfl (fun K hK => ?_)
                    refine step_append_run rfl (.tmp 66) (.tmp 71) 55 rfl rfl rfl hrun ?_
                    have HD := Lib.hid (HD.out.app2 hgrow hown' (hw.imp id (fun e => Nat.le_of_eq e.symm)))
                    have HBx := Lib.hid (show w5.heap.size ≤ V4.heap.size from HD.out.low.size)
                    refine hK.out _ _ (fun h => absurd h (by simp)) ?_
                    clear hK K hown' hgrow hrun OV hw
                    try simp only [Act.put, List.setIfInBounds_toArray]
                    refine Till.one (i := 14) (by kernel_rfl) rfl (fun K hK => ?_)
                    go_simp
                    refine hK.out _ _ (fun h => absurd h (by simp)) ?_
                    clear hK K
                    try simp only [List.setIfInBounds_toArray, List.set_cons_zero, List.set_cons_succ]
                    refine Till.one (i := 15) (by kernel_rfl) rfl (fun K hK => ?_)
                    go_simp
                    refine hK.out _ _ (fun h => absurd h (by simp)) ?_
                    clear hK K
                    try simp only [List.setIfInBounds_toArray, List.set_cons_zero, List.set_cons_succ]
                    refine Till.done (by kernel_rfl) ?_ _
                    go_wp2_with fail
                    go_roundw
                    case rel => exact ⟨k + 1, by go_num, Hk1.out, by rw [Hy1.out, Hy2.out]; exact HD.out⟩
                    case measure => simp [intOf]; have := Hk1.out; omega
                  · intro K hK
                    go_simp
                    have kx := (Below.refl V1.heap.size V1).alloc (Nat.le_refl _) (.cells #[.int .i64 (lx : Nat), .bool ls] 68)
                    have CBh := Cells.new V1 #[.int .i64 (lx : Nat), .bool ls] 68
                    obtain ⟨V2, hV⟩ : ∃ u, V1.alloc (.cells #[.int .i64 (lx : Nat), .bool ls] 68) = u := ⟨_, rfl⟩
                    rw [hV] at kx CBh ⊢
                    have CB := Lib.hid CBh
                    have HD := Lib.hid (HD.out.keep kx)
                    have HB2 := Lib.hid (HBp.out V1 V2 HB1.out kx)
                    have KX := Lib.hid kx
                    refine hK.out _ _ (fun _ => HS.out _ HB2.out) ?_
                    clear hK K hV kx CBh
                    try simp only [List.setIfInBounds_toArray, List.set_cons_zero, List.set_cons_succ]
                    have CA := Lib.hid (CA.out.keep KX.out)
                    have hown_lt := fun (e : v1.ownBlock = some V1.heap.size) => Nat.lt_of_lt_of_le (HLT.out _ e) HSz.out
                    have OV := HD.out.o1
                    obtain ⟨g1, cap1, V3, hrun, hown', hgrow, hw, _⟩ := run_append_lies (P := Try.prog) (w := V2) 55 55 w5.heap.size 68 i0 (.agg #[.int .i64 0, .bool false]) 2 16 Try.underlying55 hi hz0 hz1 hz2 rfl (by decide) v1 l1.length (litV l1) OV ⟨V0.heap.size, 0, none⟩ 1 1 [.int .i64 (lx : Nat), .bool ls] rfl (fun k u hu => by rw [Addr.add_lit, Nat.zero_add]; exact (CA.out.at_ k).trans hu) (fun u hu => by
                      simp at hu
                      rcases hu with rfl | rfl <;> rfl) (by decide) (by unfold maxLen; omega) (by omega) HD.out.low.size _ rfl
                    refine Till.one (i := 6) (by kernel_rfl) rfl (fun K hK => ?_)
                    refine step_append_run rfl (.tmp 59) (.tmp 64) 55 rfl rfl rfl hrun ?_
                    have HD := Lib.hid (HD.out.app1 hgrow hown' (hw.imp id (fun e => Nat.le_of_eq e.symm)))
                    have CB := Lib.hid (show Cells V3 V1.heap.size [.int .i64 (lx : Nat), .bool ls] from cells_apart CB.out hgrow (by intro e; have := hown_lt e; omega))
                    have HBx := Lib.hid (show w5.heap.size ≤ V3.heap.size from HD.out.low.size)
                    refine hK.out _ _ (fun _ => HSW.out _ HD.out.low) ?_
                    clear hK K hown' hgrow hrun OV hw
                    try simp only [Act.put, List.setIfInBounds_toArray]
                    have OV := HD.out.o2
                    obtain ⟨g2, cap2, V4, hrun, hown', hgrow, hw, _⟩ := run_append_lies (P := Try.prog) (w := V3) 55 55 w5.heap.size 68 i0 (.agg #[.int .i64 0, .bool false]) 2 16 Try.underlying55 hi hz0 hz1 hz2 rfl (by decide) v2 l2.length (litV l2) OV ⟨V1.heap.size, 0, none⟩ 1 1 [.int .i64 (lx : Nat), .bool ls] rfl (fun k u hu => by rw [Addr.add_lit, Nat.zero_add]; exact (CB.out.at_ k).trans hu) (fun u hu => by
                      simp at hu
                      rcases hu with rfl | rfl <;> rfl) (by decide) (by unfold maxLen; omega) (by omega) HD.out.low.size _ rfl
                    refine Till.one (i := 13) (by kernel_rfl) rfl (fun K hK => ?_)
                    refine step_append_run rfl (.tmp 66) (.tmp 71) 55 rfl rfl rfl hrun ?_
                    have HD := Lib.hid (HD.out.app2 hgrow hown' (hw.imp id (fun e => Nat.le_of_eq e.symm)))
                    have HBx := Lib.hid (show w5.heap.size ≤ V4.heap.size from HD.out.low.size)
                    refine hK.out _ _ (fun h => absurd h (by simp)) ?_
                    clear hK K hown' hgrow hrun OV hw
                    try simp only [Act.put]
                    refine Till.one (i := 14) (by kernel_rfl) rfl (fun K hK => ?_)
                    go_simp
                    refine hK.out _ _ (fun h => absurd h (by simp)) ?_
                    clear hK K
                    try simp only [List.setIfInBounds_toArray, List.set_cons_zero, List.set_cons_succ]
                    refine Till.one (i := 15) (by kernel_rfl) rfl (fun K hK => ?_)
                    go_simp
                    refine hK.out _ _ (fun h => absurd h (by simp)) ?_
                    clear hK K
                    try simp only [List.setIfInBounds_toArray, List.set_cons_zero, List.set_cons_succ]
                    refine Till.done (by kernel_rfl) ?_ _
                    go_wp2_with fail
                    go_roundw
                    case rel => exact ⟨k + 1, by go_num, Hk1.out, by rw [Hy1.out, Hy2.out]; exact HD.out⟩
                    case measure => simp [intOf]; have := Hk1.out; omega
                · intro K hK
                  go_simp
                  have kx := (Below.refl V0.heap.size V0).alloc (Nat.le_refl _) (.cells #[.int .i64 (lx : Nat), .bool ls] 68)
                  have CBh := Cells.new V0 #[.int .i64 (lx : Nat), .bool ls] 68
                  obtain ⟨V1, hV⟩ : ∃ u, V0.alloc (.cells #[.int .i64 (lx : Nat), .bool ls] 68) = u := ⟨_, rfl⟩
                  rw [hV] at kx CBh ⊢
                  have CB := Lib.hid CBh
                  have HD := Lib.hid (HD.out.keep kx)
                  have HB1 := Lib.hid (HBp.out V0 V1 HB0.out kx)
                  have KX := Lib.hid kx
                  refine hK.out _ _ (fun _ => HS.out _ HB1.out) ?_
                  clear hK K hV kx CBh
                  try simp only [List.setIfInBounds_toArray, List.set_cons_zero, List.set_cons_succ]
                  refine Till.one (i := 5) (by kernel_rfl) rfl (fun K hK => ?_)
                  go_simp
                  have kx := (Below.refl V1.heap.size V1).alloc (Nat.le_refl _) (.cells #[.int .i64 (lx : Nat), .bool ls] 68)
                  have CAh := Cells.new V1 #[.int .i64 (lx : Nat), .bool ls] 68
                  obtain ⟨V2, hV⟩ : ∃ u, V1.alloc (.cells #[.int .i64 (lx : Nat), .bool ls] 68) = u := ⟨_, rfl⟩
                  rw [hV] at kx CAh ⊢
                  have CA := Lib.hid CAh
                  have HD := Lib.hid (HD.out.keep kx)
                  have HB2 := Lib.hid (HBp.out V1 V2 HB1.out kx)
                  have KX := Lib.hid kx
                  refine hK.out _ _ (fun _ => HS.out _ HB2.out) ?_
                  clear hK K hV kx CAh
                  try simp only [List.setIfInBounds_toArray, List.set_cons_zero, List.set_cons_succ]
                  have CB := Lib.hid (CB.out.keep KX.out)
                  have hown_lt := fun (e : v1.ownBlock = some V0.heap.size) => HLT.out _ e
                  have OV := HD.out.o1
                  obtain ⟨g1, cap1, V3, hrun, hown', hgrow, hw, _⟩ := run_append_lies (P := Try.prog) (w := V2) 55 55 w5.heap.size 68 i0 (.agg #[.int .i64 0, .bool false]) 2 16 Try.underlying55 hi hz0 hz1 hz2 rfl (by decide) v1 l1.length (litV l1) OV ⟨V1.heap.size, 0, none⟩ 1 1 [.int .i64 (lx : Nat), .bool ls] rfl (fun k u hu => by rw [Addr.add_lit, Nat.zero_add]; exact (CA.out.at_ k).trans hu) (fun u hu => by
                    simp at hu
                    rcases hu with rfl | rfl <;> rfl) (by decide) (by unfold maxLen; omega) (by omega) HD.out.low.size _ rfl
                  refine Till.one (i := 6) (by kernel_rfl) rfl (fun K hK => ?_)
                  refine step_append_run rfl (.tmp 59) (.tmp 64) 55 rfl rfl rfl hrun ?_
                  have HD := Lib.hid (HD.out.app1 hgrow hown' (hw.imp id (fun e => Nat.le_of_eq e.symm)))
                  have CB := Lib.hid (show Cells V3 V0.heap.size [.int .i64 (lx : Nat), .bool ls] from cells_apart CB.out hgrow (by intro e; have := hown_lt e; omega))
                  have HBx := Lib.hid (show w5.heap.size ≤ V3.heap.size from HD.out.low.size)
                  refine hK.out _ _ (fun _ => HSW.out _ HD.out.low) ?_
                  clear hK K hown' hgrow hrun OV hw
                  try simp only [Act.put, List.setIfInBounds_toArray]
                  have OV := HD.out.o2
                  obtain ⟨g2, cap2, V4, hrun, hown', hgrow, hw, _⟩ := run_append_lies (P := Try.prog) (w := V3) 55 55 w5.heap.size 68 i0 (.agg #[.int .i64 0, .bool false]) 2 16 Try.underlying55 hi hz0 hz1 hz2 rfl (by decide) v2 l2.length (litV l2) OV ⟨V0.heap.size, 0, none⟩ 1 1 [.int .i64 (lx : Nat), .bool ls] rfl (fun k u hu => by rw [Addr.add_lit, Nat.zero_add]; exact (CB.out.at_ k).trans hu) (fun u hu => by
                    simp at hu
                    rcases hu with rfl | rfl <;> rfl) (by decide) (by unfold maxLen; omega) (by omega) HD.out.low.size _ rfl
                  refine Till.one (i := 13) (by kernel_rfl) rfl (fun K hK => ?_)
                  refine step_append_run rfl (.tmp 66) (.tmp 71) 55 rfl rfl rfl hrun ?_
                  have HD := Lib.hid (HD.out.app2 hgrow hown' (hw.imp id (fun e => Nat.le_of_eq e.symm)))
                  have HBx := Lib.hid (show w5.heap.size ≤ V4.heap.size from HD.out.low.size)
                  refine hK.out _ _ (fun h => absurd h (by simp)) ?_
                  clear hK K hown' hgrow hrun OV hw
                  try simp only [Act.put]
                  refine Till.one (i := 14) (by kernel_rfl) rfl (fun K hK => ?_)
                  go_simp
                  refine hK.out _ _ (fun h => absurd h (by simp)) ?_
                  clear hK K
                  try simp only [List.setIfInBounds_toArray, List.set_cons_zero, List.set_cons_succ]
                  refine Till.one (i := 15) (by kernel_rfl) rfl (fun K hK => ?_)
                  go_simp
                  refine hK.out _ _ (fun h => absurd h (by simp)) ?_
                  clear hK K
                  try simp only [List.setIfInBounds_toArray, List.set_cons_zero, List.set_cons_succ]
                  refine Till.done (by kernel_rfl) ?_ _
                  go_wp2_with fail
                  go_roundw
                  case rel => exact ⟨k + 1, by go_num, Hk1.out, by rw [Hy1.out, Hy2.out]; exact HD.out⟩
                  case measure => simp [intOf]; have := Hk1.out; omega
              · have e1 : ((lx : Int) == (j : Int)) = false := by rw [beq_eq_false_iff_ne]; omega
                have e2 : ¬ ((lx : Int) = (j : Int)) := by omega
                have Hn1 := Lib.hid (insK_no (o := oo) (b := true) hlx hxi)
                have Hn2 := Lib.hid (insK_no (o := oo) (b := false) hlx hxi)
                clear he hlx
                go_wp2_with fail
                go_roundw
                case rel => exact ⟨k + 1, by go_num, Hk1.out, by rw [Hn1.out, Hn2.out]; exact HD.out⟩
                case measure => simp [intOf]; have := Hk1.out; omega
            · have hkN : k = CLn := by omega
              subst hkN
              have hd := HD.out
              rw [← HCLn.out] at hd
              by_cases hjo : j = oo
              · have Hi1 := Lib.hid (insK_in (c := cl) (b := true) hjo)
                have Hi2 := Lib.hid (insK_in (c := cl) (b := false) hjo)
                have e1 : ((j : Int) == (oo : Int)) = true := by rw [beq_iff_eq]; omega
                have e3 : decide ((j : Int) = (oo : Int)) = true := decide_eq_true (by omega)
                have e4 : decide (j = oo) = true := decide_eq_true hjo
                have HD := Lib.hid hd
                have hl1 := insK_len cl oo true j cl.length
                have hl2 := insK_len cl oo false j cl.length
                obtain ⟨l1, hl1e⟩ : ∃ l, insK cl oo true j cl.length = l := ⟨_, rfl⟩
                obtain ⟨l2, hl2e⟩ : ∃ l, insK cl oo false j cl.length = l := ⟨_, rfl⟩
                rw [hl1e] at Hi1 HD hl1
                rw [hl2e] at Hi2 HD hl2
                clear hd hl1e hl2e hjo
                go_wp2_with (at_builtin; refine wpList_append_lies _ rfl (.tmp 76) (.tmp 79) 55 rfl w5.heap.size 68 i0 (.agg #[.int .i64 0, .bool false]) 2 16 Try.underlying55 hi hz0 hz1 hz2 rfl (by decide) _ l1.length (litV l1) rfl (HD.out.o1.alloc _) ⟨wr2.heap.size, 0, none⟩ 1 1 [.int .i64 (j : Nat), .bool true] rfl rfl (World.news_of_block (cs := #[.int .i64 (j : Nat), .bool true]) (t := 68) (fr := (0, 0)) (heap_new wr2 _)) (by simp [Value.oneCell']) (by decide) (by unfold maxLen; omega) (by omega) (by simp; have := HD.out.low.size; omega) _ rfl ?_)
                intro g1 cap1 w6 hown' hgrow hw _
                have HD := Lib.hid ((HD.out.keep ((Below.refl wr2.heap.size wr2).alloc (Nat.le_refl _) (.cells #[.int .i64 (j : Nat), .bool true] 68))).app1 hgrow hown' (hw.imp id (fun e => by rw [e]; simp)))
                clear hown' hgrow hw
                go_wp2_with (at_builtin; refine wpList_append_lies _ rfl (.tmp 81) (.tmp 84) 55 rfl w5.heap.size 68 i0 (.agg #[.int .i64 0, .bool false]) 2 16 Try.underlying55 hi hz0 hz1 hz2 rfl (by decide) _ l2.length (litV l2) rfl (HD.out.o2.alloc _) ⟨w6.heap.size, 0, none⟩ 1 1 [.int .i64 (j : Nat), .bool false] rfl rfl (World.news_of_block (cs := #[.int .i64 (j : Nat), .bool false]) (t := 68) (fr := (0, 0)) (heap_new w6 _)) (by simp [Value.oneCell']) (by decide) (by unfold maxLen; omega) (by omega) (by simp; have := HD.out.low.size; omega) _ rfl ?_)
                intro g2 cap2 w7 hown' hgrow hw _
                have HD := Lib.hid ((HD.out.keep ((Below.refl w6.heap.size w6).alloc (Nat.le_refl _) (.cells #[.int .i64 (j : Nat), .bool false] 68))).app2 hgrow hown' (hw.imp id (fun e => by rw [e]; simp)))
                clear hown' hgrow hw
                go_wp2_with fail
                go_roundw
                case rel => exact ⟨j + 1, by go_num, Hlt.out, by rw [Hi1.out, Hi2.out]; exact HD.out⟩
                case measure => simp [intOf]; have := Hlt.out; omega
              · have Hi1 := Lib.hid (insK_out (c := cl) (b := true) hjo)
                have Hi2 := Lib.hid (insK_out (c := cl) (b := false) hjo)
                have e1 : ((j : Int) == (oo : Int)) = false := by rw [beq_eq_false_iff_ne]; omega
                have e2 : ¬ ((j : Int) = (oo : Int)) := by omega
                have HD := Lib.hid hd
                clear hd
                go_wp2_with fail
                go_roundw
                case rel => exact ⟨j + 1, by go_num, Hlt.out, by rw [Hi1.out, Hi2.out]; exact HD.out⟩
                case measure => simp [intOf]; have := Hlt.out; omega
        · have hjn : j = f.n := by omega
          subst hjn
          obtain ⟨wq, rfl⟩ : ∃ x, x = wr := ⟨_, rfl⟩
          obtain ⟨A1, c1', rfl, hI1⟩ := own_lits HD0.out.o1
          obtain ⟨A2, c2', rfl, hI2⟩ := own_lits HD0.out.o2
          have HI1 := Lib.hid hI1
          have HI2 := Lib.hid hI2
          have HOK := Lib.hid (HOK5.out.keep HD0.out.low)
          have HCf := Lib.hid (HCf5.out.keep HD0.out.low)
          have HPL := Lib.hid (HPL5.out.keep HD0.out.low)
          have HKq := Lib.hid (below_on HK5.out HD0.out.low)
          have hb1 : (insO cl oo true f.n).length ≤ 1000 := Nat.le_trans (insO_len oo true f.n) (Nat.le_trans (Nat.mul_le_mul (show cl.length + 1 ≤ 7 by have := HCn.out; omega) hn6) (by decide))
          have hb2 : (insO cl oo false f.n).length ≤ 1000 := Nat.le_trans (insO_len oo false f.n) (Nat.le_trans (Nat.mul_le_mul (show cl.length + 1 ≤ 7 by have := HCn.out; omega) hn6) (by decide))
          have hsp := AL_split (rs := rs) HClow.out hoo
          have hfm := frc_mentions (rs := rs) hn6 HClow.out hoo
          have hok1 := ins_ok (b := true) HClow.out HCs.out hoo HMn.out
          have hok2 := ins_ok (b := false) HClow.out HCs.out hoo HMn.out
          have hcn7 : CLn ≤ 6 := by have := HCn.out; have := HCLn.out; omega
          clear hI1 hI2 HD0 HOK5 HCf5 HPL5
          obtain ⟨d1, hd1⟩ : ∃ l, insO cl oo true f.n = l := ⟨_, rfl⟩
          obtain ⟨d2, hd2⟩ : ∃ l, insO cl oo false f.n = l := ⟨_, rfl⟩
          rw [hd1] at HI1 hb1 hsp hfm hok1 ⊢
          rw [hd2] at HI2 hb2 hsp hfm hok2 ⊢
          have HOk1 := Lib.hid hok1
          have HOk2 := Lib.hid hok2
          clear hd1 hd2 hok1 hok2
          have c0 := HCf.out.at_ 0
          have c1 := HCf.out.at_ 1
          have c2 := HCf.out.at_ 2
          have c3 := HCf.out.at_ 3
          have c4 := HCf.out.at_ 4
          have c5 := HCf.out.at_ 5
          have c6 := HCf.out.at_ 6
          have c7 := HCf.out.at_ 7
          have c8 := HCf.out.at_ 8
          have c9 := HCf.out.at_ 9
          simp only [List.getElem?_cons_zero, List.getElem?_cons_succ] at c0 c1 c2 c3 c4 c5 c6 c7 c8 c9
          have HCo := Lib.hid (fun (W : World) (A : Option Addr) (c : Nat) (l : List (Nat × Bool)) (n : Nat) (hb : Below wq.heap.size wq W) (h : LitL W A (lc l)) (hn : l.length = n) (h2 : n ≤ 1000) (h3 : chE f.n none (lc l) = 0) => count_ok f os rs gs vs plainD A n c l W (HOK.out.keep hb) h hn (by omega) h3)
          obtain ⟨na, hna⟩ : ∃ n, (AL f.n rs cl).length = n := ⟨_, rfl⟩
          obtain ⟨nb, hnb⟩ : ∃ n, (AL f.n rs d1).length = n := ⟨_, rfl⟩
          obtain ⟨nd, hnd⟩ : ∃ n, (AL f.n rs d2).length = n := ⟨_, rfl⟩
          rw [hna, hnb, hnd] at hsp
          rw [hnb, hnd] at hfm
          have hna64 : na ≤ 64 := by rw [← hna, ← AL_len hn6 HRL.out HClow.out]; exact ALR_short hn6
          have HNa := Lib.hid hna
          have HNb := Lib.hid hnb
          have HNd := Lib.hid hnd
          have HFm := Lib.hid hfm
          have w1' : IntKind.i64.wrap ((nb : Int) + (nd : Int)) = (na : Int) := by rw [show (nb : Int) + (nd : Int) = (na : Int) by omega]; exact IntWalk.i64_in _ (by omega)
          clear hna hnb hnd hfm
          go_wp2_with fail
          have R1 := HCo.out wq PA PC cl CLn (Below.refl _ _) HPL.out HCLn.out (by omega) HCok.out
          rw [HNa.out] at R1
          refine R1.mono ?_
          rintro e wa ⟨rfl, hba⟩
          have Ba := Lib.hid hba
          have HCf := Lib.hid (HCf.out.keep hba)
          clear R1 hba
          have c0 := HCf.out.at_ 0
          have c1 := HCf.out.at_ 1
          have c2 := HCf.out.at_ 2
          have c3 := HCf.out.at_ 3
          have c4 := HCf.out.at_ 4
          have c5 := HCf.out.at_ 5
          have c6 := HCf.out.at_ 6
          have c7 := HCf.out.at_ 7
          have c8 := HCf.out.at_ 8
          have c9 := HCf.out.at_ 9
          simp only [List.getElem?_cons_zero, List.getElem?_cons_succ] at c0 c1 c2 c3 c4 c5 c6 c7 c8 c9
          go_wp2_with fail
          have R1 := HCo.out wa A1 c1' d1 d1.length Ba.out (HI1.out.keep Ba.out) rfl hb1 HOk1.out
          rw [HNb.out] at R1
          refine R1.mono ?_
          rintro e wb ⟨rfl, hbb⟩
          have Bb := Lib.hid (below_on Ba.out hbb)
          have HCf := Lib.hid (HCf.out.keep hbb)
          clear R1 hbb
          have c0 := HCf.out.at_ 0
          have c1 := HCf.out.at_ 1
          have c2 := HCf.out.at_ 2
          have c3 := HCf.out.at_ 3
          have c4 := HCf.out.at_ 4
          have c5 := HCf.out.at_ 5
          have c6 := HCf.out.at_ 6
          have c7 := HCf.out.at_ 7
          have c8 := HCf.out.at_ 8
          have c9 := HCf.out.at_ 9
          simp only [List.getElem?_cons_zero, List.getElem?_cons_succ] at c0 c1 c2 c3 c4 c5 c6 c7 c8 c9
          go_wp2_with fail
          have R1 := HCo.out wb A2 c2' d2 d2.length Bb.out (HI2.out.keep Bb.out) rfl hb2 HOk2.out
          rw [HNd.out] at R1
          refine R1.mono ?_
          rintro e wd ⟨rfl, hbd⟩
          have Bd := Lib.hid (below_on Bb.out hbd)
          have HCf := Lib.hid (HCf.out.keep hbd)
          have HKd := Lib.hid (below_on HKq.out Bd.out)
          clear R1 hbd HCo
          have c0 := HCf.out.at_ 0
          have c1 := HCf.out.at_ 1
          have c2 := HCf.out.at_ 2
          have c3 := HCf.out.at_ 3
          have c4 := HCf.out.at_ 4
          have c5 := HCf.out.at_ 5
          have c6 := HCf.out.at_ 6
          have c7 := HCf.out.at_ 7
          have c8 := HCf.out.at_ 8
          have c9 := HCf.out.at_ 9
          simp only [List.getElem?_cons_zero, List.getElem?_cons_succ] at c0 c1 c2 c3 c4 c5 c6 c7 c8 c9
          by_cases ha0 : na = 0
          · have nz : ((na : Int) == 0) = true := by rw [beq_iff_eq]; omega
            have nz2 : decide ((na : Int) = 0) = true := decide_eq_true (by omega)
            have nz3 : decide (na = 0) = true := decide_eq_true ha0
            clear ha0
            go_wp2_with fail
            go_ret
            exact ⟨rfl, HKd.out⟩
          · have nz : ((na : Int) == 0) = false := by rw [beq_eq_false_iff_ne]; omega
            have nz2 : ¬ ((na : Int) = 0) := by omega
            have HFo := Lib.hid (forced_ok f os rs gs vs plainD PA CLn PC cl wd (HOK.out.keep Bd.out) (HPL.out.keep Bd.out) HCLn.out (by omega) HCok.out)
            go_wp2_with fail
            refine HFo.out.mono ?_
            rintro e we ⟨h1, hb⟩
            have HKe := Lib.hid (below_on HKd.out hb)
            rcases h1 with ⟨h2, _⟩ | ⟨_, v3, rfl, hown⟩
            · refine absurd ?_ ha0
              rw [← HNa.out, h2]
              rfl
            obtain ⟨A3, d3, rfl, hL3⟩ := own_lits hown
            have hfl : (frcU ((AL f.n rs cl).map cF) f.n).length ≤ 1000 := Nat.le_trans (frcU_len _ _) (by omega)
            obtain ⟨fl, hfle⟩ : ∃ x, frcU ((AL f.n rs cl).map cF) f.n = x := ⟨_, rfl⟩
            rw [hfle] at hL3 hfl HFm ⊢
            have HM := mentions_any A3 fl.length d3 (oo : Int) (lc fl) we hL3 (by rw [lc_len]) (by omega)
            rw [lc_any', HFm.out] at HM
            clear hb hown hL3 hfle HFo
            by_cases hb0 : nb = 0
            · have hnd0 : ¬ nd = 0 := by omega
              rw [decide_eq_true hb0, Bool.true_or] at HM
              have HM := Lib.hid HM
              subst hb0
              go_wp2_with fail
              refine HM.out.mono ?_
              rintro e w9 ⟨rfl, rfl⟩
              go_wp2_with fail
              go_ret
              exact ⟨rfl, HKe.out⟩
            · rw [decide_eq_false hb0, Bool.false_or] at HM
              have b1 : ((nb : Int) == 0) = false := by rw [beq_eq_false_iff_ne]; omega
              have b2 : ¬ ((nb : Int) = 0) := by omega
              by_cases hnd0 : nd = 0
              · rw [decide_eq_true hnd0] at HM
                have HM := Lib.hid HM
                subst hnd0
                go_wp2_with fail
                refine HM.out.mono ?_
                rintro e w9 ⟨rfl, rfl⟩
                go_wp2_with fail
                go_ret
                exact ⟨rfl, HKe.out⟩
              · rw [decide_eq_false hnd0] at HM
                have d1' : ((nd : Int) == 0) = false := by rw [beq_eq_false_iff_ne]; omega
                have d2' : ¬ ((nd : Int) = 0) := by omega
                have HM := Lib.hid HM
                go_wp2_with fail
                refine HM.out.mono ?_
                rintro e w9 ⟨rfl, rfl⟩
                go_wp2_with fail
                go_ret
                exact ⟨rfl, HKe.out⟩
    · clear hmb
      go_wp2_with fail
      refine HM.out.mono ?_
      rintro e w5 ⟨rfl, rfl⟩
      go_wp2_with fail
      go_ret
      exact ⟨rfl, HK4.out⟩
end Go.Proofs.Ytmfmpkihmadjmaa
