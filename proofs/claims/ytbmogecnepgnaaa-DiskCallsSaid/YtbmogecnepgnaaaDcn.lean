/- The model: start, the walk. -/
import Derived.Test.YtbmogecnepgnaaaDcm
import Derived.Test.YtbmogecnepgnaaaDbc
namespace Go.Proofs.Ytbmogecnepgnaaa
open Go.RowKit Go.Maps Go.Shelf
/-- A block of another type turns. -/
theorem MdV.turn {w w' : World} {pm k : Nat} {md : Md} {vf vn vd vp : Value} (h : MdV w pm md vf vn vd vp) (hg : w.grownBy w' (some k)) (hk : pm ≠ k) (hT : ∀ T, 109 ≠ T → ∀ j, (some k : Option Nat) = some j → ∃ us T' fz, w.heap[j]? = some (.cells us T' fz) ∧ T' ≠ T) : MdV w' pm md vf vn vd vp :=
  ⟨heap_stay h.obj hg (fun e => by injection e with e; exact hk e.symm), h.f.stay hg (hT _ (by decide)), h.n.stay hg (hT _ (by decide)), h.d.stay hg (hT _ (by decide)), h.p.stay hg (hT _ (by decide))⟩
theorem at_getD (a : ByteArray) (n : Nat) (h : n < a.size) : (a[n]).toNat = (a.data.toList.getD n 0).toNat := by
  rw [List.getD_eq_getElem?_getD, List.getElem?_eq_getElem (by exact h)]
  rfl
theorem sub255 (x : UInt8) : (255 - x).toNat = 255 - x.toNat := by
  have h : ∀ n, n < 256 → (255 - UInt8.ofNat n).toNat = 255 - n := by decide +kernel
  have := h x.toNat x.toNat_lt
  rwa [UInt8.ofNat_toNat] at this
theorem cat_size (a x : ByteArray) : (a ++ x).size = a.size + x.size := by simp
theorem u8_in : ∀ n : Nat, n < 256 → IntKind.u8.wrap (n : Int) = (n : Int) := by decide +kernel
set_option maxRecDepth 100000 in
set_option maxHeartbeats 16000000 in
theorem startM_any {w : World} {pm : Nat} {md : Md} (hM : MdAt w pm md) (hB : MB md) (hpx : ∀ c ∈ md.pend, isE c.2.1 = false → c.2.2 < md.files.length) (hdp : md.dur.length + md.pend.length ≤ 900) {A : Option Addr} {sn sc : Nat} {l : List Int} (hl : IntL w A l) (hll : l.length = sn) (hsc : sn ≤ sc ∧ sc ≤ maxLen) (hlk : ∀ b o t, l ≠ [] → A = some ⟨b, o, t⟩ → b < pm) (hbd : ∀ k ∈ l, -9223372036854775808 ≤ k ∧ k ≤ 9223372036854775807) :
    Calls Try.prog 38 #[ptrV pm, .slice A sn sc] w fun e w' => (∃ v, e = .returned v) ∧ MdAt w' pm (stM md l) ∧ w.grownBy w' (some pm) := by
  obtain ⟨i0, hi, hz0, hz1, hz2⟩ := info_parts info_fil
  have HM := Lib.hid hM
  have HBB := Lib.hid hB
  have HPX := Lib.hid hpx
  have HBD := Lib.hid hbd
  obtain ⟨vf, vn, vd, vp, h⟩ := hM
  obtain ⟨_, _, c2, _, _, _, _⟩ := h.at7
  have hpl := hB.pl
  have hfl := hB.fl
  have hdl := hB.dl
  have hpw := row_lt h.obj
  obtain ⟨dn, hdn⟩ : ∃ q, md.down = q := ⟨_, rfl⟩
  rw [hdn] at c2
  cases dn
  · have HS := Lib.hid (show stM md l = md by unfold stM; rw [if_pos hdn])
    clear h hdn hl hlk hbd hB hpx
    go_enter Try.func38, Try.ntmps38
    go_wp2_with fail
    refine bodyPost_ret (results_none rfl _ _ _) rfl ?_
    exact ⟨⟨_, rfl⟩, by rw [HS.out]; exact HM.out, World.grownBy.refl _ _⟩
  · have HS := Lib.hid (show stM md l = { md with names := stDM md l, dur := stDM md l, pend := [], down := false, lim := -1, files := ((stDM md l).foldl (stepM l) (md.files, 1)).1 } by unfold stM; rw [if_neg (by rw [hdn]; decide)])
    have k1 := (Below.refl w.heap.size w).alloc (Nat.le_refl _) (.cells #[.slice A sn sc] 109)
    have r1 := heap_new w (.cells #[.slice A sn sc] 109)
    obtain ⟨sb, hsb⟩ : ∃ q, w.heap.size = q := ⟨_, rfl⟩
    obtain ⟨w1, hw1⟩ : ∃ u, w.alloc (.cells #[.slice A sn sc] 109) = u := ⟨_, rfl⟩
    rw [hw1] at k1 r1
    rw [hsb] at r1 hpw
    have HC1 := Lib.hid (show ScM w1 sb pm l from ⟨A, sn, sc, r1, hl.keep k1, hll, hsc.1, hsc.2, hlk⟩)
    have HG1 := Lib.hid (gb_of k1 (some pm))
    have HM1 := Lib.hid (HM.out.keep k1)
    have Hsb := Lib.hid hsb
    have hpw1 : pm < sb := hpw
    clear h k1 r1 hl hlk hll hbd hB hpx
    obtain ⟨vf, vn, vd, vp, h1⟩ := HM1.out
    obtain ⟨Ap, cp, ep, _, _, _, _⟩ := h1.p.slice
    subst ep
    obtain ⟨_, _, d2, _, _, _, d6⟩ := h1.at7
    obtain ⟨np, hnp⟩ : ∃ n, md.pend.length = n := ⟨_, rfl⟩
    rw [hnp] at d6 hpl hdp
    have HNP := Lib.hid hnp
    have HV1 := Lib.hid h1
    clear h1
    go_enter Try.func38, Try.ntmps38
    go_wp2_with fail
    refine (choiceM_any HC1.out (by omega) np (by omega) HBD.out).mono ?_
    rintro e w2 ⟨rfl, hs2, hg2⟩
    have HC2 := Lib.hid hs2
    have hge : w.heap.size ≤ sb := by rw [Hsb.out]; exact Nat.le_refl _
    have HG2 := Lib.hid (gb_fresh HG1.out hg2 hge)
    have hmv : MdV w2 pm md vf vn vd (.slice Ap np cp) := by
      have h1 := HV1.out
      rw [HNP.out] at h1
      have ev : ∀ T, 109 ≠ T → ∀ j, (some sb : Option Nat) = some j → ∃ us T' fz, w1.heap[j]? = some (.cells us T' fz) ∧ T' ≠ T := fun T hT j e => by
        injection e with e
        subst e
        obtain ⟨_, _, _, hq, _⟩ := HC1.out
        exact ⟨_, _, _, hq, hT⟩
      exact ⟨heap_stay h1.obj hg2 (fun e => by injection e with e; omega), h1.f.stay hg2 (ev _ (by decide)), h1.n.stay hg2 (ev _ (by decide)), h1.d.stay hg2 (ev _ (by decide)), h1.p.stay hg2 (ev _ (by decide))⟩
    have HV2 := Lib.hid hmv
    obtain ⟨N, hN⟩ : ∃ n, chN l 0 np = n := ⟨_, rfl⟩
    have hNle : N ≤ np := by rw [← hN]; exact chN_le _ _ _
    have HNN := Lib.hid (show chN l 0 md.pend.length = N by rw [HNP.out, hN])
    rw [hN]
    clear hs2 hg2 hmv hN d2 d6 hw1 hdn hnp hsb hge hpw hsc hdl
    go_wp2_with fail
    go_loopw [6] (fun i wr => ∃ (j : Nat) (vd' : Value), i = .int .i64 (j : Nat) ∧ j ≤ N ∧ MdV wr pm { md with dur := (md.pend.take j).foldl changedM md.dur } vf vn vd' (.slice Ap np cp) ∧ ScM wr sb pm (l.drop 1) ∧ w.grownBy wr (some pm)) (fun i _ => N - (intOf i).toNat)
    case atStart => exact ⟨0, vd, rfl, Nat.zero_le _, HV2.out, HC2.out, HG2.out⟩
    case round =>
      obtain ⟨j, vd', rfl, hj, hv, hs, hg⟩ := hrel
      have HV := Lib.hid hv
      have HC := Lib.hid hs
      have HG := Lib.hid hg
      have hfo := fold_changed (n := md.files.length) (md.pend.take j) md.dur HBB.out.dx (fun c hc => HPX.out c (List.mem_of_mem_take hc))
      have hfl2 : ((md.pend.take j).foldl changedM md.dur).length ≤ 900 := by
        have := hfo.2
        rw [List.length_take, HNP.out] at this
        omega
      clear hv hs hg hfo
      by_cases hlt : j < N
      · have i1 : (j : Int) < (N : Int) := by omega
        have i2 : IntKind.i64.wrap ((j : Int) + 1) = (j : Int) + 1 := IntWalk.i64_in _ (by omega)
        obtain ⟨c, hc⟩ : ∃ c, md.pend[j]? = some c := ⟨_, List.getElem?_eq_getElem (by rw [HNP.out]; omega)⟩
        obtain ⟨Dj, hDj⟩ : ∃ D, (md.pend.take j).foldl changedM md.dur = D := ⟨_, rfl⟩
        have hsn := fold_snoc changedM md.dur md.pend j c hc
        rw [hDj] at hsn hfl2 HV
        have HSN := Lib.hid hsn
        obtain ⟨Ad, cd, ed, _, _, _, _⟩ := HV.out.d.slice
        have ed : vd' = .slice Ad Dj.length cd := ed
        subst ed
        have hpc := HV.out.p.slice
        obtain ⟨A2, c3, ev, _, _, _, hcell⟩ := hpc
        injection ev with ev1 ev2 ev3
        subst ev1 ev3
        obtain ⟨z0, z1, z2⟩ := chC_at md.pend j c hc
        obtain ⟨g, o, eg, hgl, z0⟩ := hcell _ _ z0
        subst eg
        obtain ⟨g', o', e', _, z1⟩ := hcell _ _ z1
        injection e' with e'
        injection e' with e1 e2 _
        subst e1 e2
        obtain ⟨g', o', e', _, z2⟩ := hcell _ _ z2
        injection e' with e'
        injection e' with e1 e2 _
        subst e1 e2
        rw [show o + (j * 3 + 1) = o + j * 3 + 1 by omega] at z1
        rw [show o + (j * 3 + 2) = o + j * 3 + 2 by omega] at z2
        have HZ := Lib.hid (⟨hgl, z0, z1, z2⟩ : _ ∧ _ ∧ _ ∧ _)
        have hjn : j < np := by omega
        have hjn2 : (j : Int) < (np : Int) := by omega
        clear hcell hsn hc hDj z0 z1 z2 hgl ev2
        go_wp2_with fail
        have HS6 := Lib.hid (fun w' (hb : Below wr.heap.size wr w') => (show w'.cell? ⟨pm, 5, none⟩ = some (.slice Ad Dj.length cd) ∧ w'.cell? ⟨pm, 6, none⟩ = some (.slice (some ⟨g, o, none⟩) np cp) ∧ w'.cell? ⟨g, o + j * 3, none⟩ = some (.string c.1) ∧ w'.cell? ⟨g, o + j * 3 + 1, none⟩ = some (.string c.2.1) ∧ w'.cell? ⟨g, o + j * 3 + 2, none⟩ = some (.int .i64 (c.2.2 : Nat)) from ⟨(HV.out.keep hb).at7.2.2.2.2.2.1, (HV.out.keep hb).at7.2.2.2.2.2.2, (hb.cell (p := ⟨g, o + j * 3, none⟩) HZ.out.1).trans HZ.out.2.1, (hb.cell (p := ⟨g, o + j * 3 + 1, none⟩) HZ.out.1).trans HZ.out.2.2.1, (hb.cell (p := ⟨g, o + j * 3 + 2, none⟩) HZ.out.1).trans HZ.out.2.2.2⟩))
        refine Till.begin 13 (fun w' => w'.cell? ⟨pm, 5, none⟩ = some (.slice Ad Dj.length cd) ∧ w'.cell? ⟨pm, 6, none⟩ = some (.slice (some ⟨g, o, none⟩) np cp) ∧ w'.cell? ⟨g, o + j * 3, none⟩ = some (.string c.1) ∧ w'.cell? ⟨g, o + j * 3 + 1, none⟩ = some (.string c.2.1) ∧ w'.cell? ⟨g, o + j * 3 + 2, none⟩ = some (.int .i64 (c.2.2 : Nat))) (by kernel_rfl) (HS6.out _ (Below.refl _ _).drew) (fun hH => ?_)
        clear hH
        have HB0 := Lib.hid (Below.refl wr.heap.size wr).drew
        generalize wr.drew = V0 at HB0 ⊢
        try simp only [List.setIfInBounds_toArray, List.set_cons_zero, List.set_cons_succ]
        refine Till.tL 0 [13] 31 (ptrV pm) (HS6.out _ HB0.out) ?_
        try simp only [Act.put, List.setIfInBounds_toArray, List.set_cons_zero, List.set_cons_succ]
        refine Till.tL 1 [2, 3, 4, 12, 13] 32 (ptrV pm) (HS6.out _ HB0.out) ?_
        try simp only [Act.put, List.setIfInBounds_toArray, List.set_cons_zero, List.set_cons_succ]
        refine Till.tL 2 [3, 4, 12, 13] 33 (ptrV pm) (HS6.out _ HB0.out) ?_
        try simp only [Act.put, List.setIfInBounds_toArray, List.set_cons_zero, List.set_cons_succ]
        refine Till.tL 3 [4, 12, 13] 34 (.pointer (some ⟨pm, 5, none⟩)) (HS6.out _ HB0.out) ?_
        try simp only [Act.put, List.setIfInBounds_toArray, List.set_cons_zero, List.set_cons_succ]
        refine Till.tL 4 [12, 13] 35 (.slice Ad Dj.length cd) (HS6.out _ HB0.out) ?_
        try simp only [Act.put, List.setIfInBounds_toArray, List.set_cons_zero, List.set_cons_succ]
        refine Till.tL 5 [6, 7, 8, 10, 11, 12, 13] 36 (ptrV pm) (HS6.out _ HB0.out) ?_
        try simp only [Act.put, List.setIfInBounds_toArray, List.set_cons_zero, List.set_cons_succ]
        refine Till.tL 6 [7, 8, 10, 11, 12, 13] 37 (ptrV pm) (HS6.out _ HB0.out) ?_
        try simp only [Act.put, List.setIfInBounds_toArray, List.set_cons_zero, List.set_cons_succ]
        refine Till.tL 7 [8, 10, 11, 12, 13] 38 (.pointer (some ⟨pm, 6, none⟩)) (HS6.out _ HB0.out) ?_
        try simp only [Act.put, List.setIfInBounds_toArray, List.set_cons_zero, List.set_cons_succ]
        refine Till.tL 8 [10, 11, 12, 13] 39 (.slice (some ⟨g, o, none⟩) np cp) (HS6.out _ HB0.out) ?_
        try simp only [Act.put, List.setIfInBounds_toArray, List.set_cons_zero, List.set_cons_succ]
        refine Till.tL 9 [10, 11, 12, 13] 40 (.int .i64 (j : Nat)) (HS6.out _ HB0.out) ?_
        try simp only [Act.put, List.setIfInBounds_toArray, List.set_cons_zero, List.set_cons_succ]
        refine Till.tL 10 [11, 12, 13] 41 (.pointer (some ⟨g, o + j * 3, none⟩)) (HS6.out _ HB0.out) ?_
        try simp only [Act.put, List.setIfInBounds_toArray, List.set_cons_zero, List.set_cons_succ]
        refine Till.tL 11 [12, 13] 42 (.agg #[.string c.1, .string c.2.1, .int .i64 (c.2.2 : Nat)]) (HS6.out _ HB0.out) ?_
        try simp only [Act.put, List.setIfInBounds_toArray, List.set_cons_zero, List.set_cons_succ]
        refine Till.one (i := 12) (by kernel_rfl) rfl (fun K hK => ?_)
        go_simp
        refine (changed_any (HV.out.keep HB0.out).d rfl (by show Dj.length ≤ _; omega) c).mono ?_
        rintro e V1 ⟨vr, rfl, hr, hb⟩
        have HB1 := Lib.hid (below_on HB0.out hb)
        have HR1 := Lib.hid hr
        clear hb hr
        obtain ⟨Ar, cr, er, _, _, _, _⟩ := HR1.out.slice
        subst er
        refine hK.out _ _ (fun _ => HS6.out _ HB1.out) ?_
        clear hK K
        try simp only
        refine Till.one (i := 13) (by kernel_rfl) rfl (fun K hK => ?_)
        go_simp
        refine hK.out _ _ (fun h => absurd h (by simp)) ?_
        clear hK K
        try simp only [List.setIfInBounds_toArray, List.set_cons_zero, List.set_cons_succ]
        refine Till.one (i := 14) (by kernel_rfl) rfl (fun K hK => ?_)
        go_simp
        refine hK.out _ _ (fun h => absurd h (by simp)) ?_
        clear hK K
        try simp only [List.setIfInBounds_toArray, List.set_cons_zero, List.set_cons_succ]
        have h1 := HV.out.keep HB1.out
        have y5 := h1.fz 5
        have x5 := h1.at7.2.2.2.2.2.1
        have hS := h1.set (md' := { md with dur := (md.pend.take (j + 1)).foldl changedM md.dur }) 5 (.slice Ar (changedM Dj c).length cr) rfl h1.f h1.n (by rw [HSN.out]; exact HR1.out) h1.p
        have HM2 := Lib.hid hS.1
        have HG5 := Lib.hid (grown_trans (grown_trans HG.out (gb_of HB1.out _)) hS.2)
        have HC5 := Lib.hid ((HC.out.keep HB1.out).grown hS.2 (by omega) (Nat.le_refl _))
        clear h1 hS
        refine Till.one (i := 15) (by kernel_rfl) rfl (fun K hK => ?_)
        go_simp
        refine hK.out _ _ (fun h => absurd h (by simp)) ?_
        clear hK K
        try simp only [List.setIfInBounds_toArray, List.set_cons_zero, List.set_cons_succ]
        refine Till.done (by kernel_rfl) ?_ _
        go_wp2_with fail
        go_roundw
        case rel => first | exact ⟨j + 1, _, by go_num, by omega, HM2.out, HC5.out, HG5.out⟩ | exact ⟨j + 1, by go_num, by omega, ⟨_, HM2.out⟩, by simpa using HC5.out, HG5.out⟩
        case measure => simp [intOf]; omega
      · have i1 : ¬ (j : Int) < (N : Int) := by omega
        have hjN : j = N := by omega
        have hD : (md.pend.take j).foldl changedM md.dur = stDM md l := by unfold stDM; rw [HNN.out, hjN]
        rw [hD] at HV hfl2
        obtain ⟨D, hDD⟩ : ∃ D, stDM md l = D := ⟨_, rfl⟩
        rw [hDD] at HV hfl2 HS
        have HIX := Lib.hid (show ∀ e ∈ D, e.2 < md.files.length by
          rw [← hDD]
          exact (fold_changed (n := md.files.length) (md.pend.take (chN l 0 md.pend.length)) md.dur HBB.out.dx (fun c hc => HPX.out c (List.mem_of_mem_take hc))).1)
        clear hD hDD hjN
        obtain ⟨Ad, cd, ed, _, _, _, _⟩ := HV.out.d.slice
        have ed : vd' = .slice Ad D.length cd := ed
        subst ed
        obtain ⟨_, _, _, _, _, x5, _⟩ := HV.out.at7
        have y4 := HV.out.fz 4
        have y6 := HV.out.fz 6
        have y2 := HV.out.fz 2
        have y1 := HV.out.fz 1
        have h0 := HV.out
        have s1 := h0.set (md' := { md with dur := D, names := D }) 4 (.slice Ad D.length cd) rfl h0.f h0.d h0.d h0.p
        have s2 := s1.1.set (md' := { md with dur := D, names := D, pend := [] }) 6 (.slice none 0 0) rfl s1.1.f s1.1.n s1.1.d (RowAt.nil _ _ _)
        have s3 := s2.1.set (md' := { md with dur := D, names := D, pend := [], down := false }) 2 (.bool false) rfl s2.1.f s2.1.n s2.1.d s2.1.p
        have s4 := s3.1.set (md' := { md with dur := D, names := D, pend := [], down := false, lim := -1 }) 1 (.int .i64 (-1)) rfl s3.1.f s3.1.n s3.1.d s3.1.p
        have c1 := (HC.out.grown s1.2 (by omega) (Nat.le_refl _))
        have c2' := ((c1.grown s2.2 (by omega) (Nat.le_refl _)).grown s3.2 (by omega) (Nat.le_refl _)).grown s4.2 (by omega) (Nat.le_refl _)
        have gq := grown_trans HG.out (grown_trans s1.2 (grown_trans s2.2 (grown_trans s3.2 s4.2)))
        obtain ⟨M1, hM1⟩ : ∃ M, ({ md with dur := D, names := D, pend := [], down := false, lim := -1 } : Md) = M := ⟨_, rfl⟩
        have s5 := s4.1
        rw [hM1] at s5
        obtain ⟨W8, hW8⟩ : ∃ u, ((((wr.setCell ⟨pm, 4, none⟩ (.slice Ad D.length cd)).setCell ⟨pm, 6, none⟩ (.slice none 0 0)).setCell ⟨pm, 2, none⟩ (.bool false)).setCell ⟨pm, 1, none⟩ (.int .i64 (-1))) = u := ⟨_, rfl⟩
        rw [hW8] at s5 c2' gq
        have HM8 := Lib.hid s5
        have HC8 := Lib.hid c2'
        have HG8 := Lib.hid gq
        have HF1 := Lib.hid (show M1.files = md.files ∧ M1.names = D by rw [← hM1]; exact ⟨rfl, rfl⟩)
        have HE1 := Lib.hid hM1
        clear s1 s2 s3 s4 s5 c1 c2' gq h0 hM1
        go_upto_region 8 with fail
        clear x5 y4 y6 y2 y1
        have hB : M1.files.length ≤ 900 := by rw [HF1.out.1]; exact hfl
        by_cases hposF : 0 < M1.files.length
        · have hal := (Below.refl W8.heap.size W8).alloc (Nat.le_refl _) (.cells #[] 73)
          have ha := HM8.out.keep hal
          obtain ⟨Af, cf, ef, _, _, _, _⟩ := HM8.out.f.slice
          subst ef
          obtain ⟨_, _, _, x3, _, _, _⟩ := ha.at7
          have y3 := ha.fz 3
          have HF := Lib.hid ha.f
          have HA := Lib.hid ha
          clear ha
          go_wp2_with (at_builtin; refine wpList_append_row rfl _ _ 30 rfl W8.heap.size 73 i0 _ 2 24 Try.underlying30 hi hz0 hz1 hz2 rfl (by decide) rfl (own_fresh W8 W8.heap.size 73 2 0 #[] rfl (Nat.zero_le _) (Nat.le_refl _)) rfl HF.out (entC_one _) (by show 0 + M1.files.length ≤ 1000000; omega) (by decide) (size_le (Nat.le_refl _)) ?_)
          intro v4 V4 ho hg
          have hb4 : Below W8.heap.size W8 V4 := hal.trans (below_row hg (fun k hk => own_ge (own_fresh W8 W8.heap.size 73 2 0 #[] rfl (Nat.zero_le _) (Nat.le_refl _)) hk) (size_le (Nat.le_refl _)))
          have HB4 := Lib.hid hb4
          clear x3 y3
          have h4 := HM8.out.keep hb4
          obtain ⟨_, _, _, x3, _, _, _⟩ := h4.at7
          have y3 := h4.fz 3
          obtain ⟨A4, c4', e4, _, _, hA4, _⟩ := own_row ho
          subst e4
          obtain ⟨g4, e4⟩ := hA4 hposF
          subst e4
          have hS := h4.set 3 (.slice (some ⟨g4, 0, none⟩) M1.files.length c4') (md' := M1) rfl (RowAt.of_own ho) h4.n h4.d h4.p
          have hgr := own_cells ho
          obtain ⟨hg1, hg2, ⟨cur4, hg3⟩, _, _⟩ := hgr
          have hne4 : g4 ≠ pm := fun e => by rw [e, h4.obj] at hg3; injection hg3 with hg3; injection hg3 with _ hg3; exact absurd hg3 (by decide)
          have hO := own_grown ho hS.2 (fun e => by injection e with e; exact hne4 e)
          have HM4 := Lib.hid hS.1
          have HO4 := Lib.hid hO
          have HG4 := Lib.hid (grown_trans HG8.out (grown_trans (gb_of hb4 (some pm)) hS.2))
          have Hgl := Lib.hid (Nat.le_trans HG8.out.size hg2)
          have Hg8 := Lib.hid hg2
          clear h4 hS hO ho hg hb4 hal hg1 hg2 hg3
          have HC9 := Lib.hid ((HC8.out.keep HB4.out).grown (k := pm) (grown_cells pm [.slice (some ⟨g4, 0, none⟩) M1.files.length c4'] 3 V4) (by omega) (Nat.le_refl _))
          have HC9 := Lib.hid (show ScM (V4.setCell ⟨pm, 3, none⟩ (.slice (some ⟨g4, 0, none⟩) M1.files.length c4')) sb pm (l.drop 1) from HC9.out)
          have hsg : sb < g4 := by
            obtain ⟨_, _, _, hq, _⟩ := HC8.out
            have := row_lt hq
            have := Hg8.out
            omega
          have hpg : pm < g4 := by omega
          go_wp2_with fail
          clear x3 y3
          generalize (V4.setCell ⟨pm, 3, none⟩ (.slice (some ⟨g4, 0, none⟩) M1.files.length c4')) = W5 at HM4 HO4 HG4 HC9 ⊢
          obtain ⟨nf, hnf⟩ : ∃ n, M1.files.length = n := ⟨_, rfl⟩
          rw [hnf] at HM4 HO4 hB
          have HNF := Lib.hid hnf
          obtain ⟨dl, hdl⟩ : ∃ n, D.length = n := ⟨_, rfl⟩
          have HDL := Lib.hid hdl
          rw [hdl] at hfl2
          rw [hnf]
          have HM4' := Lib.hid (show MdV W5 pm { M1 with files := md.files } (.slice (some ⟨g4, 0, none⟩) nf c4') (.slice Ad D.length cd) (.slice Ad D.length cd) (.slice none 0 0) by
            have e : ({ M1 with files := md.files } : Md) = M1 := by rw [← HE1.out]
            rw [e]
            exact HM4.out)
          have HO4' := Lib.hid (show W5.ownsRow W8.heap.size 73 2 (.slice (some ⟨g4, 0, none⟩) nf c4') nf (entC md.files) by rw [← HF1.out.1]; exact HO4.out)
          clear hposF hnf hdl HM4 HO4
          go_loopw [7, 8, 9, 10] (fun i _ _ _ wr => ∃ (j : Nat) (F : List Ent × Nat), i = .int .i64 (j : Nat) ∧ j ≤ dl ∧ F = (D.take j).foldl (stepM l) (md.files, 1) ∧ MdV wr pm { M1 with files := F.1 } (.slice (some ⟨g4, 0, none⟩) nf c4') (.slice Ad D.length cd) (.slice Ad D.length cd) (.slice none 0 0) ∧ wr.ownsRow W8.heap.size 73 2 (.slice (some ⟨g4, 0, none⟩) nf c4') nf (entC F.1) ∧ ScM wr sb pm (l.drop F.2) ∧ w.grownBy wr (some pm)) (fun i _ _ _ _ => dl - (intOf i).toNat)
          case atStart => exact ⟨0, _, rfl, Nat.zero_le _, rfl, HM4'.out, HO4'.out, HC9.out, HG4.out⟩
          case round =>
            obtain ⟨j, F, rfl, hj, hF, hv, ho, hs, hg⟩ := hrel
            have HV := Lib.hid hv
            have HO := Lib.hid ho
            have HC := Lib.hid hs
            have HG := Lib.hid hg
            have HFF := Lib.hid hF
            have hok := fold_step_ok (n := nf) l (D.take j) (md.files, 1) (by rw [← HF1.out.1]; exact HNF.out) (fun f hf => HBB.out.sz f hf)
            rw [← hF] at hok
            have HOK := Lib.hid hok
            obtain ⟨_, _, _, p3, p4, _, _⟩ := hv.at7
            replace p4 : wr.cell? ⟨pm, 4, none⟩ = some (.slice Ad D.length cd) := p4
            rw [HDL.out] at p4
            have hdr := hv.n.slice
            clear hv ho hs hg hF hok
            by_cases hlt : j < dl
            · have i1 : (j : Int) < (dl : Int) := by omega
              have i2 : IntKind.i64.wrap ((j : Int) + 1) = (j : Int) + 1 := IntWalk.i64_in _ (by omega)
              obtain ⟨e, he⟩ : ∃ e, D[j]? = some e := ⟨_, List.getElem?_eq_getElem (by rw [HDL.out]; exact hlt)⟩
              have hsn := fold_snoc (stepM l) (md.files, 1) D j e he
              rw [← HFF.out] at hsn
              obtain ⟨A2, c2', ev, _, _, _, hcell⟩ := hdr
              have hcell : ∀ i x, (entC D)[i]? = some x → ∃ g o, A2 = some ⟨g, o, none⟩ ∧ g < wr.heap.size ∧ wr.cell? ⟨g, o + i, none⟩ = some x := by
                have h9 := HF1.out.2
                rw [← h9]
                exact hcell
              injection ev with ev1 ev2 ev3
              subst ev1 ev3
              obtain ⟨g, o, eg, hgl, z1⟩ := hcell _ _ (entC_at D j e he).2
              subst eg
              rw [show o + (j * 2 + 1) = o + j * 2 + 1 by omega] at z1
              obtain ⟨k, hk⟩ : ∃ k, e.2 = k := ⟨_, rfl⟩
              rw [hk] at z1
              have hkn : k < nf := by
                have h1 := HIX.out e (List.mem_of_getElem? he)
                have h2 := HNF.out
                rw [HF1.out.1] at h2
                omega
              have hkn2 : (k : Int) < (nf : Int) := by omega
              obtain ⟨f, hf⟩ : ∃ f, F.1[k]? = some f := ⟨_, List.getElem?_eq_getElem (by rw [HOK.out.1]; exact hkn)⟩
              have hfo := HOK.out.2 f (List.mem_of_getElem? hf)
              have hst : stepM l F e = (F.1.set k (failM l F.2 f), failXM l F.2 f) := by
                unfold stepM
                rw [hk, hf]
              rw [hst] at hsn
              have HSN := Lib.hid hsn
              have HC4 := Lib.hid (entC_at F.1 k f hf)
              have HZ := Lib.hid (⟨hgl, z1⟩ : _ ∧ _)
              obtain ⟨u, hu⟩ : ∃ u, failK l F.2 ⟨0, f.1.data.toList, f.2⟩ = u := ⟨_, rfl⟩
              have hule : u ≤ f.1.size - f.2 := by rw [← hu]; exact chN_le l F.2 _
              have HCH := Lib.hid (show chN (l.drop F.2) 0 (f.1.size - f.2) = u by rw [chN_drop, ← hu]; rfl)
              have e6 : IntKind.i64.wrap ((f.1.size : Int) - (f.2 : Int)) = ((f.1.size - f.2 : Nat) : Int) := by rw [show (f.1.size : Int) - (f.2 : Int) = ((f.1.size - f.2 : Nat) : Int) by omega]; exact IntWalk.i64_in _ (by omega)
              have e7 : IntKind.i64.wrap ((f.2 : Int) + (u : Int)) = ((f.2 + u : Nat) : Int) := by rw [show (f.2 : Int) + (u : Int) = ((f.2 + u : Nat) : Int) by omega]; exact IntWalk.i64_in _ (by omega)
              have hle7 : f.2 + u ≤ f.1.size := by omega
              have hbdr : ∀ m, ∀ k ∈ l.drop m, -9223372036854775808 ≤ k ∧ k ≤ 9223372036854775807 := fun m k hk => HBD.out k (List.mem_of_mem_drop hk)
              have HBR := Lib.hid hbdr
              have Hu := Lib.hid hu
              obtain ⟨m9, hm9⟩ : ∃ m, f.1.size - f.2 = m := ⟨_, rfl⟩
              rw [hm9] at HCH e6 hule
              have hm9' : m9 ≤ 16777216 := by omega
              clear hcell he hsn hst hk hf hgl hu ev2 hbdr hm9 i2
              go_wp2_with fail
              go_quiet (fail)
              obtain ⟨W0, hW0⟩ : ∃ W0 : World, W0 = wr.drewN nq := ⟨_, rfl⟩
              have hK0 : Below wr.heap.size wr W0 := by rw [hW0]; exact below_drewN (Below.refl _ _) _
              rw [← hW0]
              have HV0 := Lib.hid (HV.out.keep hK0)
              have HO0 := Lib.hid (own_keep HO.out hK0)
              have HC0 := Lib.hid (HC.out.keep hK0)
              have HG0 := Lib.hid (grown_trans HG.out (gb_of hK0 (some pm)))
              clear hW0 hK0 p3 p4 z1
              go_upto_region 13 with fail
              have hoc0 := own_cells HO0.out
              have HS13 := Lib.hid (fun w' (hb : Below W0.heap.size W0 w') => (show w'.cell? ⟨g4, k * 2, none⟩ = some (.string f.1) ∧ w'.cell? ⟨g4, k * 2 + 1, none⟩ = some (.int .i64 (f.2 : Nat)) from ⟨(hb.cell (p := ⟨g4, k * 2, none⟩) hoc0.1).trans (hoc0.2.2.2.2 _ _ HC4.out.1), (hb.cell (p := ⟨g4, k * 2 + 1, none⟩) hoc0.1).trans (hoc0.2.2.2.2 _ _ HC4.out.2)⟩))
              clear hoc0
              refine Till.begin 11 (fun w' => w'.cell? ⟨g4, k * 2, none⟩ = some (.string f.1) ∧ w'.cell? ⟨g4, k * 2 + 1, none⟩ = some (.int .i64 (f.2 : Nat))) (by kernel_rfl) (HS13.out _ (Below.refl _ _).drew) (fun hH => ?_)
              clear hH
              have HB0 := Lib.hid (Below.refl W0.heap.size W0).drew
              generalize W0.drew = V0 at HB0 ⊢
              try simp only [List.setIfInBounds_toArray, List.set_cons_zero, List.set_cons_succ]
              refine Till.tL 0 [11] 93 (ptrV sb) (HS13.out _ HB0.out) ?_
              try simp only [Act.put, List.setIfInBounds_toArray, List.set_cons_zero, List.set_cons_succ]
              refine Till.tL 1 [2, 3, 4, 5, 10, 11] 94 (.pointer (some ⟨g4, k * 2, none⟩)) (HS13.out _ HB0.out) ?_
              try simp only [Act.put, List.setIfInBounds_toArray, List.set_cons_zero, List.set_cons_succ]
              refine Till.tL 2 [3, 4, 5, 10, 11] 95 (.pointer (some ⟨g4, k * 2, none⟩)) (HS13.out _ HB0.out) ?_
              try simp only [Act.put, List.setIfInBounds_toArray, List.set_cons_zero, List.set_cons_succ]
              refine Till.tL 3 [4, 5, 10, 11] 96 (.pointer (some ⟨g4, k * 2, none⟩)) (HS13.out _ HB0.out) ?_
              try simp only [Act.put, List.setIfInBounds_toArray, List.set_cons_zero, List.set_cons_succ]
              refine Till.tL 4 [5, 10, 11] 97 (.string f.1) (HS13.out _ HB0.out) ?_
              try simp only [Act.put, List.setIfInBounds_toArray, List.set_cons_zero, List.set_cons_succ]
              refine Till.tL 5 [10, 11] 98 (.int .i64 (f.1.size : Nat)) (HS13.out _ HB0.out) ?_
              try simp only [Act.put, List.setIfInBounds_toArray, List.set_cons_zero, List.set_cons_succ]
              refine Till.tL 6 [7, 8, 9, 10, 11] 99 (.pointer (some ⟨g4, k * 2, none⟩)) (HS13.out _ HB0.out) ?_
              try simp only [Act.put, List.setIfInBounds_toArray, List.set_cons_zero, List.set_cons_succ]
              refine Till.tL 7 [8, 9, 10, 11] 100 (.pointer (some ⟨g4, k * 2, none⟩)) (HS13.out _ HB0.out) ?_
              try simp only [Act.put, List.setIfInBounds_toArray, List.set_cons_zero, List.set_cons_succ]
              refine Till.tL 8 [9, 10, 11] 101 (.pointer (some ⟨g4, k * 2 + 1, none⟩)) (HS13.out _ HB0.out) ?_
              try simp only [Act.put, List.setIfInBounds_toArray, List.set_cons_zero, List.set_cons_succ]
              refine Till.tL 9 [10, 11] 102 (.int .i64 (f.2 : Nat)) (HS13.out _ HB0.out) ?_
              try simp only [Act.put, List.setIfInBounds_toArray, List.set_cons_zero, List.set_cons_succ]
              refine Till.tL 10 [11] 103 (.int .i64 (m9 : Nat)) (HS13.out _ HB0.out) ?_
              try simp only [Act.put, List.setIfInBounds_toArray, List.set_cons_zero, List.set_cons_succ]
              refine Till.one (i := 11) (by kernel_rfl) rfl (fun K hK => ?_)
              go_simp
              refine (choiceM_any (HC0.out.keep HB0.out) (by omega) m9 (by omega) (HBR.out _)).mono ?_
              rintro e' V1 ⟨rfl, hs1, hg1⟩
              rw [HCH.out]
              refine hK.out _ _ (fun h => absurd h (by simp)) ?_
              clear hK K
              try simp only [List.setIfInBounds_toArray, List.set_cons_zero, List.set_cons_succ]
              have HT := Lib.hid (show ∃ us, V0.heap[sb]? = some (.cells us 109 (0, 0)) from let ⟨_, _, _, h, _⟩ := HC0.out.keep HB0.out; ⟨_, h⟩)
              have evs : ∀ T, 109 ≠ T → ∀ j, (some sb : Option Nat) = some j → ∃ us T' fz, V0.heap[j]? = some (.cells us T' fz) ∧ T' ≠ T := fun T hT j e => by
                injection e with e
                subst e
                obtain ⟨us, h⟩ := HT.out
                exact ⟨_, _, _, h, hT⟩
              have HV1 := Lib.hid ((HV0.out.keep HB0.out).turn hg1 (by omega) evs)
              have HO1 := Lib.hid (own_grown (own_keep HO0.out HB0.out) hg1 (fun e => by injection e with e; have e : g4 = sb := e; omega))
              have HC1' := Lib.hid (show ScM V1 sb pm (l.drop (F.2 + 1)) by have h9 := hs1; rw [List.drop_drop] at h9; exact h9)
              have HG1' := Lib.hid (gb_fresh (grown_trans HG0.out (gb_of HB0.out (some pm))) hg1 (by have := Hsb.out; omega))
              clear hs1 hg1 evs
              refine Till.one (i := 12) (by kernel_rfl) rfl (fun K hK => ?_)
              go_simp
              refine hK.out _ _ (fun h => absurd h (by simp)) ?_
              clear hK K
              try simp only [List.setIfInBounds_toArray, List.set_cons_zero, List.set_cons_succ]
              refine Till.done (by kernel_rfl) ?_ _
              have hoc1 := own_cells HO1.out
              have q0 := hoc1.2.2.2.2 _ _ HC4.out.1
              have q1 := hoc1.2.2.2.2 _ _ HC4.out.2
              clear hoc1
              go_wp2_with fail
              go_quiet (fail)
              obtain ⟨W1, hW1⟩ : ∃ W1 : World, W1 = V1.drewN nq := ⟨_, rfl⟩
              have hK1 : Below V1.heap.size V1 W1 := by rw [hW1]; exact below_drewN (Below.refl _ _) _
              rw [← hW1]
              have HV2 := Lib.hid (HV1.out.keep hK1)
              have HO2 := Lib.hid (own_keep HO1.out hK1)
              have HC2 := Lib.hid (HC1'.out.keep hK1)
              have HG2' := Lib.hid (grown_trans HG1'.out (gb_of hK1 (some pm)))
              clear hW1 hK1 q0 q1
              obtain ⟨t, ht⟩ : ∃ t, f.1.extract 0 (f.2 + u) = t := ⟨_, rfl⟩
              have hts : t.size = f.2 + u := by rw [← ht]; exact ext_size _ _ hle7
              rw [ht]
              have Ht := Lib.hid ht
              have HTS := Lib.hid hts
              clear ht hts
              have i2 : IntKind.i64.wrap ((j : Int) + 1) = (j : Int) + 1 := IntWalk.i64_in _ (by omega)
              by_cases hu0 : u = 0
              · have HEQ := Lib.hid (show failM l F.2 f = (t, t.size) by
                  have h9 := fm_a (l := l) (nx := F.2) (s := f.1) (d := f.2) (by rw [Hu.out]; rintro ⟨h, _⟩; omega)
                  rw [Hu.out, Ht.out, ← HTS.out] at h9
                  exact h9)
                have HXX := Lib.hid (show failXM l F.2 f = F.2 + 1 by unfold failXM failX; rw [Hu.out, if_neg (by omega)])
                have hu1 : ¬ ((0 : Int) < (u : Int)) := by omega
                have hu2 : decide ((0 : Int) < (u : Int)) = false := decide_eq_false hu1
                clear hu0
                have hoc := own_cells HO2.out
                have q2 := hoc.2.2.2.1 (k * 2)
                have q3 := hoc.2.2.2.1 (k * 2 + 1)
                have q0 := hoc.2.2.2.2 _ _ HC4.out.1
                have q1 := hoc.2.2.2.2 _ _ HC4.out.2
                have hp1 := own_put HO2.out (k * 2) (.string t)
                have hp2 := own_put hp1 (k * 2 + 1) (.int .i64 (t.size : Nat))
                have e9 := entC_set F.1 k (t, t.size)
                simp only at e9
                rw [← e9] at hp2
                have hgc1 := grown_cells g4 [.string t] (k * 2) W1
                have hgc2 := grown_cells g4 [.int .i64 (t.size : Nat)] (k * 2 + 1) (W1.setCell ⟨g4, k * 2, none⟩ (.string t))
                have HG9 := Lib.hid (gb_fresh (gb_fresh HG2'.out hgc1 Hgl.out) hgc2 Hgl.out)
                have HC9' := Lib.hid ((HC2.out.grown hgc1 (by omega) (by omega)).grown hgc2 (by omega) (by omega))
                have hm1 := HV2.out.files (g := g4) (i := k * 2) (u := .string t) (F := F.1.set k (t, f.2)) hoc.2.2.1 (by
                  have e8 := entC_set F.1 k (t, f.2)
                  simp only at e8
                  have h9 := RowAt.of_own hp1
                  rw [List.length_set, HOK.out.1, e8, set_same (by rw [List.getElem?_set_ne (by omega)]; exact HC4.out.2)]
                  exact h9)
                have hoc2 := own_cells hp1
                have hm2 := hm1.files (g := g4) (i := k * 2 + 1) (u := .int .i64 (t.size : Nat)) (F := F.1.set k (t, t.size)) hoc2.2.2.1 (by
                  have h9 := RowAt.of_own hp2
                  rw [List.length_set, HOK.out.1]
                  exact h9)
                have HM9 := Lib.hid hm2
                have HO9 := Lib.hid hp2
                clear hoc hoc2 hp1 hp2 hgc1 hgc2 hm1 hm2 e9
                go_wp2_with fail
                go_roundw
                case rel =>
                  have h9 := HSN.out
                  rw [HEQ.out, HXX.out] at h9
                  exact ⟨j + 1, (F.1.set k (t, t.size), F.2 + 1), by go_num, by omega, h9.symm, HM9.out, HO9.out, HC9'.out, HG9.out⟩
                case measure => simp [intOf]; omega
              · have hu1 : (0 : Int) < (u : Int) := by omega
                have hu2 : decide ((0 : Int) < (u : Int)) = true := decide_eq_true hu1
                obtain ⟨cc, hcc⟩ : ∃ c, chN l (F.2 + 1) 1 = c := ⟨_, rfl⟩
                have hcc2 : cc ≤ 1 := by rw [← hcc]; exact chN_le _ _ _
                have HCC := Lib.hid (show chN (l.drop (F.2 + 1)) 0 1 = cc by rw [chN_drop, hcc])
                have Hcc := Lib.hid hcc
                have HXX := Lib.hid (show failXM l F.2 f = F.2 + 2 by unfold failXM failX; rw [Hu.out, if_pos (by omega)])
                clear hcc
                go_wp2_with fail
                refine (choiceM_any HC2.out (by omega) 1 (by omega) (HBR.out _)).mono ?_
                rintro e' V3 ⟨rfl, hs1, hg1⟩
                rw [HCC.out]
                have HT := Lib.hid (show ∃ us, W1.heap[sb]? = some (.cells us 109 (0, 0)) from let ⟨_, _, _, h, _⟩ := HC2.out; ⟨_, h⟩)
                have evs : ∀ T, 109 ≠ T → ∀ j, (some sb : Option Nat) = some j → ∃ us T' fz, W1.heap[j]? = some (.cells us T' fz) ∧ T' ≠ T := fun T hT j e => by
                  injection e with e
                  subst e
                  obtain ⟨us, h⟩ := HT.out
                  exact ⟨_, _, _, h, hT⟩
                have HV3 := Lib.hid (HV2.out.turn hg1 (by omega) evs)
                have HO3 := Lib.hid (own_grown HO2.out hg1 (fun e => by injection e with e; have e : g4 = sb := e; omega))
                have HC3 := Lib.hid (show ScM V3 sb pm (l.drop (F.2 + 2)) by have h9 := hs1; rw [List.drop_drop] at h9; exact h9)
                have HG3 := Lib.hid (gb_fresh HG2'.out hg1 (by have := Hsb.out; omega))
                clear hs1 hg1 evs
                by_cases hc1 : cc = 1
                · subst hc1
                  obtain ⟨n, hn⟩ : ∃ n, f.2 + u = n + 1 := ⟨f.2 + u - 1, by omega⟩
                  have hts1 : t.size = n + 1 := by have := HTS.out; omega
                  have e10 : IntKind.i64.wrap ((t.size : Int) - 1) = (n : Int) := by rw [IntWalk.i64_in _ (by omega)]; omega
                  have hnt : n < t.size := by omega
                  have hnt2 : n ≤ t.size := by omega
                  obtain ⟨y, hy⟩ : ∃ y, (t[n]).toNat = y := ⟨_, rfl⟩
                  obtain ⟨yb, hyb⟩ : ∃ yb, f.1.data.toList.getD n 0 = yb := ⟨_, rfl⟩
                  have hyy : y = yb.toNat := by
                    rw [← hy, at_getD t n hnt, ← hyb, ← Ht.out, ext_data, List.getD_eq_getElem?_getD, List.getElem?_take_of_lt (by omega), ← List.getD_eq_getElem?_getD]
                  have hy3 : y < 256 := by rw [hyy]; exact yb.toNat_lt
                  have e11 : IntKind.u8.wrap (255 - (y : Int)) = ((255 - y : Nat) : Int) := by
                    rw [show 255 - (y : Int) = ((255 - y : Nat) : Int) by omega]
                    exact u8_in _ (by omega)
                  have htx := one_text2 V3 (255 - yb) ((255 - y : Nat) : Int) (by rw [sub255, hyy])
                  obtain ⟨t2, ht2⟩ : ∃ t2, t.extract 0 n = t2 := ⟨_, rfl⟩
                  have ht2s : t2.size = n := by rw [← ht2]; exact ext_size _ _ hnt2
                  have hcat : ¬ (9223372036854775807 < t2.size + (⟨#[255 - yb]⟩ : ByteArray).size) := by rw [ht2s]; show ¬ (_ < n + 1); omega
                  obtain ⟨t3, ht3⟩ : ∃ t3, t2 ++ (⟨#[255 - yb]⟩ : ByteArray) = t3 := ⟨_, rfl⟩
                  have ht3s : t3.size = n + 1 := by rw [← ht3, cat_size, ht2s]; rfl
                  have HEQ := Lib.hid (show failM l F.2 f = (t3, t3.size) by
                    have h9 := fm_b (l := l) (nx := F.2) (s := f.1) (d := f.2) (n := n) (by rw [Hu.out]; exact ⟨by omega, Hcc.out⟩) (by rw [Hu.out]; exact hn) (by omega) yb hyb
                    rw [← hn, Ht.out, ht2, hn, ht3] at h9
                    rw [ht3s]
                    exact h9)
                  clear hyb hyy hn hts1 ht2s ht3s hnt2 hule hle7 hfo
                  have hnt3 : (n : Int) ≤ (t.size : Int) := by omega
                  have hnt4 : (n : Int) < (t.size : Int) := by omega
                  go_wp2_with fail
                  go_region
                  clear ht2 ht3 htx
                  generalize hW4 : (V3.alloc (.cells #[.int .u8 ((255 - y : Nat) : Int)] 5)).drew = W4
                  have hK4 : Below V3.heap.size V3 W4 := by rw [← hW4]; exact ((Below.refl V3.heap.size V3).alloc (Nat.le_refl _) _).drew
                  have HV4 := Lib.hid (HV3.out.keep hK4)
                  have HO4' := Lib.hid (own_keep HO3.out hK4)
                  have HC4' := Lib.hid (HC3.out.keep hK4)
                  have HG4' := Lib.hid (grown_trans HG3.out (gb_of hK4 (some pm)))
                  clear hW4 hK4
                  have hoc := own_cells HO4'.out
                  have q2 := hoc.2.2.2.1 (k * 2)
                  have q3 := hoc.2.2.2.1 (k * 2 + 1)
                  have q0 := hoc.2.2.2.2 _ _ HC4.out.1
                  have q1 := hoc.2.2.2.2 _ _ HC4.out.2
                  have hp1 := own_put HO4'.out (k * 2) (.string t3)
                  have hp2 := own_put hp1 (k * 2 + 1) (.int .i64 (t3.size : Nat))
                  have e9 := entC_set F.1 k (t3, t3.size)
                  simp only at e9
                  rw [← e9] at hp2
                  have hgc1 := grown_cells g4 [.string t3] (k * 2) W4
                  have hgc2 := grown_cells g4 [.int .i64 (t3.size : Nat)] (k * 2 + 1) (W4.setCell ⟨g4, k * 2, none⟩ (.string t3))
                  have HG9 := Lib.hid (gb_fresh (gb_fresh HG4'.out hgc1 Hgl.out) hgc2 Hgl.out)
                  have HC9' := Lib.hid ((HC4'.out.grown hgc1 (by omega) (by omega)).grown hgc2 (by omega) (by omega))
                  have hm1 := HV4.out.files (g := g4) (i := k * 2) (u := .string t3) (F := F.1.set k (t3, f.2)) hoc.2.2.1 (by
                    have e8 := entC_set F.1 k (t3, f.2)
                    simp only at e8
                    have h9 := RowAt.of_own hp1
                    rw [List.length_set, HOK.out.1, e8, set_same (by rw [List.getElem?_set_ne (by omega)]; exact HC4.out.2)]
                    exact h9)
                  have hoc2 := own_cells hp1
                  have hm2 := hm1.files (g := g4) (i := k * 2 + 1) (u := .int .i64 (t3.size : Nat)) (F := F.1.set k (t3, t3.size)) hoc2.2.2.1 (by
                    have h9 := RowAt.of_own hp2
                    rw [List.length_set, HOK.out.1]
                    exact h9)
                  have HM9 := Lib.hid hm2
                  have HO9 := Lib.hid hp2
                  clear hoc hoc2 hp1 hp2 hgc1 hgc2 hm1 hm2 e9
                  go_wp2_with fail
                  go_roundw
                  case rel =>
                    have h9 := HSN.out
                    rw [HEQ.out, HXX.out] at h9
                    exact ⟨j + 1, (F.1.set k (t3, t3.size), F.2 + 2), by go_num, by omega, h9.symm, HM9.out, HO9.out, HC9'.out, HG9.out⟩
                  case measure => simp [intOf]; omega
                · have hcf : ((cc : Int) == 1) = false := beq_eq_false_iff_ne.2 (by omega)
                  have HEQ := Lib.hid (show failM l F.2 f = (t, t.size) by
                    have h9 := fm_a (l := l) (nx := F.2) (s := f.1) (d := f.2) (by rw [Hcc.out]; rintro ⟨_, h⟩; exact hc1 h)
                    rw [Hu.out, Ht.out, ← HTS.out] at h9
                    exact h9)
                  clear hc1 hu0
                  have hoc := own_cells HO3.out
                  have q2 := hoc.2.2.2.1 (k * 2)
                  have q3 := hoc.2.2.2.1 (k * 2 + 1)
                  have q0 := hoc.2.2.2.2 _ _ HC4.out.1
                  have q1 := hoc.2.2.2.2 _ _ HC4.out.2
                  have hp1 := own_put HO3.out (k * 2) (.string t)
                  have hp2 := own_put hp1 (k * 2 + 1) (.int .i64 (t.size : Nat))
                  have e9 := entC_set F.1 k (t, t.size)
                  simp only at e9
                  rw [← e9] at hp2
                  have hgc1 := grown_cells g4 [.string t] (k * 2) V3
                  have hgc2 := grown_cells g4 [.int .i64 (t.size : Nat)] (k * 2 + 1) (V3.setCell ⟨g4, k * 2, none⟩ (.string t))
                  have HG9 := Lib.hid (gb_fresh (gb_fresh HG3.out hgc1 Hgl.out) hgc2 Hgl.out)
                  have HC9' := Lib.hid ((HC3.out.grown hgc1 (by omega) (by omega)).grown hgc2 (by omega) (by omega))
                  have hm1 := HV3.out.files (g := g4) (i := k * 2) (u := .string t) (F := F.1.set k (t, f.2)) hoc.2.2.1 (by
                    have e8 := entC_set F.1 k (t, f.2)
                    simp only at e8
                    have h9 := RowAt.of_own hp1
                    rw [List.length_set, HOK.out.1, e8, set_same (by rw [List.getElem?_set_ne (by omega)]; exact HC4.out.2)]
                    exact h9)
                  have hoc2 := own_cells hp1
                  have hm2 := hm1.files (g := g4) (i := k * 2 + 1) (u := .int .i64 (t.size : Nat)) (F := F.1.set k (t, t.size)) hoc2.2.2.1 (by
                    have h9 := RowAt.of_own hp2
                    rw [List.length_set, HOK.out.1]
                    exact h9)
                  have HM9 := Lib.hid hm2
                  have HO9 := Lib.hid hp2
                  clear hoc hoc2 hp1 hp2 hgc1 hgc2 hm1 hm2 e9
                  go_wp2_with fail
                  go_roundw
                  case rel =>
                    have h9 := HSN.out
                    rw [HEQ.out, HXX.out] at h9
                    exact ⟨j + 1, (F.1.set k (t, t.size), F.2 + 2), by go_num, by omega, h9.symm, HM9.out, HO9.out, HC9'.out, HG9.out⟩
                  case measure => simp [intOf]; omega
            · have i1 : ¬ (j : Int) < (dl : Int) := by omega
              have hjd : j = dl := by omega
              have HFN := Lib.hid (show ({ M1 with files := F.1 } : Md) = stM md l by
                rw [HS.out, ← HE1.out, HFF.out, List.take_of_length_le (by rw [HDL.out, hjd]; exact Nat.le_refl _)])
              clear hjd hdr
              go_wp2_with fail
              go_end0
              exact ⟨⟨_, rfl⟩, by rw [← HFN.out]; exact ⟨_, _, _, _, HV.out⟩, HG.out⟩
        · have hz : M1.files.length = 0 := by omega
          have hD0 : D = [] := by
            cases hD9 : D with
            | nil => rfl
            | cons e r =>
              have h1 := HIX.out e (by rw [hD9]; exact List.mem_cons_self)
              rw [← HF1.out.1, hz] at h1
              omega
          subst hD0
          have HFN := Lib.hid (show ({ M1 with files := [] } : Md) = stM md l by
            have h1 : md.files = [] := List.eq_nil_of_length_eq_zero (by rw [← HF1.out.1]; exact hz)
            rw [HS.out, ← HE1.out, h1]
            rfl)
          have hal := (Below.refl W8.heap.size W8).alloc (Nat.le_refl _) (.cells #[] 73)
          have ha := HM8.out.keep hal
          have hs := ha.set (md' := { M1 with files := [] }) 3 (.slice (some ⟨W8.heap.size, 0, none⟩) 0 0) rfl (RowAt.of_own (own_fresh W8 W8.heap.size 73 2 0 #[] rfl (Nat.zero_le _) (Nat.le_refl _))) ha.n ha.d ha.p
          have HMZ := Lib.hid hs.1
          have HGZ := Lib.hid (grown_trans (grown_trans HG8.out (gb_of hal (some pm))) hs.2)
          obtain ⟨_, _, _, x3, _, _, _⟩ := ha.at7
          have y3 := ha.fz 3
          have hr := HM8.out.f.2
          rw [hz] at hr
          clear ha hs hal hB
          rcases hr with ⟨rfl, _⟩ | ⟨g9, o9, c9, _, _, rfl, _, _, _, _⟩
          all_goals
            go_wp2_with fail
            clear x3 y3
            go_loopw [7, 8, 9, 10] (fun i _ _ _ wr => i = .int .i64 0 ∧ MdV wr pm { M1 with files := [] } (.slice (some ⟨W8.heap.size, 0, none⟩) 0 0) (.slice Ad 0 cd) (.slice Ad 0 cd) (.slice none 0 0) ∧ w.grownBy wr (some pm)) (fun _ _ _ _ _ => 0)
            case atStart => exact ⟨rfl, HMZ.out, HGZ.out⟩
            case round =>
              obtain ⟨rfl, hv, hg⟩ := hrel
              obtain ⟨_, _, _, _, p4, _, _⟩ := hv.at7
              have HV := Lib.hid hv
              have HG := Lib.hid hg
              clear hv hg
              go_wp2_with fail
              go_end0
              exact ⟨⟨_, rfl⟩, by rw [← HFN.out]; exact ⟨_, _, _, _, HV.out⟩, HG.out⟩
end Go.Proofs.Ytbmogecnepgnaaa
