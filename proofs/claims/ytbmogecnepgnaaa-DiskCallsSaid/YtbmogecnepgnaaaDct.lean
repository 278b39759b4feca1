/- The disk agrees with its model. -/
import Derived.Test.YtbmogecnepgnaaaDcs
namespace Go.Proofs.Ytbmogecnepgnaaa
open Go.RowKit Go.Maps Go.Shelf
set_option maxRecDepth 100000 in
set_option maxHeartbeats 16000000 in
theorem agrees_any {w : World} {B p pm c : Nat} {s : St} {md : Md} (h : Both w B p pm c s md) (hc : c ≤ 900) :
    Calls Try.prog 14 #[ptrV pm, ptrV p] w fun e w' => e = .returned (.bool true) ∧ Both w' B p pm c { s with rd := noR } md ∧ Below B w w' := by
  obtain ⟨hMB, _, _⟩ := h.k.mb h.d hc (Nat.le_trans h.n hc)
  have HMB := Lib.hid hMB
  have H0 := Lib.hid h
  have HLO := Lib.hid h.d.lo
  have HK := Lib.hid h.k
  have HN := Lib.hid h.d.nod
  have hcp := hMB.cp
  have hkd := h.k.down
  obtain ⟨dn, hdn⟩ : ∃ q, md.down = q := ⟨_, rfl⟩
  rw [hdn] at hkd
  have HDN := Lib.hid (show md.down = dn ∧ s.down = dn from ⟨hdn, hkd.symm⟩)
  clear hdn hkd h hMB
  go_enter Try.func14, Try.ntmps14
  go_wp2_with fail
  refine (names_any H0.out.d (by omega)).mono ?_
  rintro e w2 ⟨v, rfl, ss, hss, hso, hv, hb⟩
  have HB1 := Lib.hid hb
  have HH1 := Lib.hid (H0.out.keep hb)
  rw [HDN.out.2] at hss
  obtain ⟨vf, vn, vd, vp, hmv⟩ := HH1.out.m
  have HMV1 := Lib.hid hmv
  obtain ⟨_, _, c2, _, _, _, _⟩ := hmv.at7
  rw [HDN.out.1] at c2
  clear hb hmv
  have HDA := Lib.hid (fun nq => (show Calls Try.prog 32 #[ptrV p] (w2.drewN nq) fun e w' => e = .returned (.bool dn) ∧ w' = w2.drewN nq by have h := down_any (HH1.out.d.keep (below_drewN (Below.refl _ _) nq)); rw [HDN.out.2] at h; exact h))
  cases dn
  · have hs := HK.out.nm.order (by simpa using hss) hso
    subst hs
    obtain ⟨ln, hln⟩ : ∃ n, md.names.length = n := ⟨_, rfl⟩
    have HLN := Lib.hid hln
    rw [List.length_map, hln] at hv
    obtain ⟨Av, cv, ev, _, _, _, hcv⟩ := own_row hv
    subst ev
    have hn2 := HMV1.out.n
    rw [hln] at hn2
    obtain ⟨An, cn, en, _, _, _, hnc⟩ := hn2.slice
    subst en
    obtain ⟨Af, cf, ef, _, _, _, hfc⟩ := HMV1.out.f.slice
    subst ef
    obtain ⟨cp, hcpe⟩ : ∃ q, md.cap = q := ⟨_, rfl⟩
    have HCP := Lib.hid hcpe
    rw [hcpe] at hcp
    obtain ⟨U, hU⟩ : ∃ q, usM md.files md.names = q := ⟨_, rfl⟩
    have HU := Lib.hid hU
    have hub := usM_le (files := md.files) (fun f hf => (HMB.out.sz f hf).1) md.names
    rw [hU] at hub
    have hnl := HMB.out.nl
    rw [hln] at hub hnl
    have HIX := Lib.hid (show ∀ e ∈ md.names, ∃ f : Ent, md.files[e.2]? = some f ∧ f.1.size ≤ 16777216 from fun e he => ⟨_, List.getElem?_eq_getElem (HMB.out.ix e he), (HMB.out.sz _ (List.getElem_mem _)).1⟩)
    obtain ⟨fr, hfr⟩ : ∃ q, cp - U = q := ⟨_, rfl⟩
    have HFR := Lib.hid (show frV s = fr by unfold frV; rw [HDN.out.2, if_neg (by decide), ← hfr, ← hU, HK.out.fl, HK.out.nm.used HN.out, ← hcpe, HK.out.cap])
    have m1 : max (0 : Int) ((cp : Int) - (U : Int)) = (fr : Nat) := by omega
    have m2 : IntKind.i64.wrap ((cp : Int) - (U : Int)) = (cp : Int) - (U : Int) := IntWalk.i64_in _ (by omega)
    have HVR1 := Lib.hid (RowAt.of_own hv)
    clear hss hso hv hcv hnc hfc hub hln hcpe hU hfr hn2
    go_wp2_with fail
    go_quiet ((go_at_call 32; exact Calls.quiet_of_same (HDA.out _)))
    have HB2 := Lib.hid (below_drewN HB1.out nq)
    have hh2 := HH1.out.keep (below_drewN (Below.refl _ _) nq)
    have hv2 := HVR1.out.keep (below_drewN (Below.refl _ _) nq)
    have hm2 := HMV1.out.keep (below_drewN (Below.refl _ _) nq)
    generalize w2.drewN nq = WW at HB2 hh2 hm2 hv2 ⊢
    have HVR := Lib.hid hv2
    have HH2 := Lib.hid hh2
    have HMV := Lib.hid hm2
    clear hh2 hm2 hv2 c2
    have c2 := HMV.out.at7.2.2.1
    rw [HDN.out.1] at c2
    have HLW := Lib.hid (show w.heap.size ≤ WW.heap.size from HB2.out.size)
    go_upto_region 6 with fail
    have HS := Lib.hid (fun w' (hb : MdV w' pm md (.slice Af md.files.length cf) (.slice An ln cn) vd vp) => (show w'.cell? ⟨pm, 4, none⟩ = some (.slice An ln cn) ∧ w'.cell? ⟨pm, 0, none⟩ = some (.int .i64 (cp : Nat)) from ⟨hb.at7.2.2.2.2.1, by rw [← HCP.out]; exact hb.at7.1⟩))
    refine Till.begin 20 (fun w' => w'.cell? ⟨pm, 4, none⟩ = some (.slice An ln cn) ∧ w'.cell? ⟨pm, 0, none⟩ = some (.int .i64 (cp : Nat))) (by kernel_rfl) (HS.out _ (HMV.out.keep (Below.refl WW.heap.size WW).drew)) (fun hH => ?_)
    clear hH
    have HT0 := Lib.hid HB2.out.drew
    have hx0 := (HH2.out.keep (Below.refl WW.heap.size WW).drew).here
    have hx1 := HMV.out.keep (Below.refl _ _).drew
    have hx2 := HVR.out.keep (Below.refl _ _).drew
    have HVW := Lib.hid (Below.refl WW.heap.size WW).drew.size
    generalize WW.drew = V0 at HT0 hx0 hx1 hx2 HVW ⊢
    have HV3 := Lib.hid hx2
    have HH3 := Lib.hid hx0
    have HM3 := Lib.hid hx1
    clear hx0 hx1 hx2
    try simp only [List.setIfInBounds_toArray, List.set_cons_zero, List.set_cons_succ]
    refine Till.tL 0 [1, 7, 8, 9, 10, 11, 12, 13, 14, 15, 16, 17, 18, 19, 20] 33 (.slice Av ln cv) (HS.out _ HM3.out) ?_
    try simp only [Act.put, List.setIfInBounds_toArray, List.set_cons_zero, List.set_cons_succ]
    refine Till.tL 1 [7, 8, 9, 10, 11, 12, 13, 14, 15, 16, 17, 18, 19, 20] 34 (.int .i64 (ln : Nat)) (HS.out _ HM3.out) ?_
    try simp only [Act.put, List.setIfInBounds_toArray, List.set_cons_zero, List.set_cons_succ]
    refine Till.tL 2 [3, 4, 5, 6, 7, 8, 9, 10, 11, 12, 13, 14, 15, 16, 17, 18, 19, 20] 35 (ptrV pm) (HS.out _ HM3.out) ?_
    try simp only [Act.put, List.setIfInBounds_toArray, List.set_cons_zero, List.set_cons_succ]
    refine Till.tL 3 [4, 5, 6, 7, 8, 9, 10, 11, 12, 13, 14, 15, 16, 17, 18, 19, 20] 36 (ptrV pm) (HS.out _ HM3.out) ?_
    try simp only [Act.put, List.setIfInBounds_toArray, List.set_cons_zero, List.set_cons_succ]
    refine Till.tL 4 [5, 6, 7, 8, 9, 10, 11, 12, 13, 14, 15, 16, 17, 18, 19, 20] 37 (.pointer (some ⟨pm, 4, none⟩)) (HS.out _ HM3.out) ?_
    try simp only [Act.put, List.setIfInBounds_toArray, List.set_cons_zero, List.set_cons_succ]
    refine Till.tL 5 [6, 7, 8, 9, 10, 11, 12, 13, 14, 15, 16, 17, 18, 19, 20] 38 (.slice An ln cn) (HS.out _ HM3.out) ?_
    try simp only [Act.put, List.setIfInBounds_toArray, List.set_cons_zero, List.set_cons_succ]
    refine Till.tL 6 [7, 8, 9, 10, 11, 12, 13, 14, 15, 16, 17, 18, 19, 20] 39 (.int .i64 (ln : Nat)) (HS.out _ HM3.out) ?_
    try simp only [Act.put, List.setIfInBounds_toArray, List.set_cons_zero, List.set_cons_succ]
    refine Till.tL 7 [8, 9, 10, 11, 12, 13, 14, 15, 16, 17, 18, 19, 20] 40 (.bool false) (HS.out _ HM3.out) ?_
    try simp only [Act.put, List.setIfInBounds_toArray, List.set_cons_zero, List.set_cons_succ]
    refine Till.tL 8 [9, 10, 11, 12, 13, 14, 15, 16, 17, 18, 19, 20] 41 (.bool false) (HS.out _ HM3.out) ?_
    try simp only [Act.put, List.setIfInBounds_toArray, List.set_cons_zero, List.set_cons_succ]
    refine Till.tL 9 [10, 16, 17, 18, 19, 20] 42 (ptrV p) (HS.out _ HM3.out) ?_
    try simp only [Act.put, List.setIfInBounds_toArray, List.set_cons_zero, List.set_cons_succ]
    refine Till.tL 11 [12, 13, 14, 17, 18, 19, 20] 44 (ptrV pm) (HS.out _ HM3.out) ?_
    try simp only [Act.put, List.setIfInBounds_toArray, List.set_cons_zero, List.set_cons_succ]
    refine Till.tL 12 [13, 14, 17, 18, 19, 20] 45 (ptrV pm) (HS.out _ HM3.out) ?_
    try simp only [Act.put, List.setIfInBounds_toArray, List.set_cons_zero, List.set_cons_succ]
    refine Till.tL 13 [14, 17, 18, 19, 20] 46 (.pointer (some ⟨pm, 0, none⟩)) (HS.out _ HM3.out) ?_
    try simp only [Act.put, List.setIfInBounds_toArray, List.set_cons_zero, List.set_cons_succ]
    refine Till.tL 14 [17, 18, 19, 20] 47 (.int .i64 (cp : Nat)) (HS.out _ HM3.out) ?_
    try simp only [Act.put, List.setIfInBounds_toArray, List.set_cons_zero, List.set_cons_succ]
    refine Till.tL 15 [16, 17, 18, 19, 20] 48 (ptrV pm) (HS.out _ HM3.out) ?_
    try simp only [Act.put, List.setIfInBounds_toArray, List.set_cons_zero, List.set_cons_succ]
    refine Till.one (i := 10) (by kernel_rfl) rfl (fun KK hK => ?_)
    go_simp
    refine (free_any HH3.out.d (by omega)).mono ?_
    rintro e V1 ⟨rfl, hd, hb⟩
    have hm1 := HM3.out.fr hd.fr
    have HM4 := Lib.hid hm1
    have HV4 := Lib.hid (HV3.out.fr rfl hd.fr)
    have HH4 := Lib.hid (show Both V1 B p pm c _ md from ⟨hd, HH3.out.m.fr hd.fr, HH3.out.k, HH3.out.n, HH3.out.g⟩)
    have HT4 := Lib.hid ((HT0.out.mono HLO.out).trans hb)
    have HT4x := Lib.hid hb.size
    rw [show frV { s with rd := fun j => V0.heap[j]? } = fr from HFR.out]
    refine hK.out _ _ (fun _ => HS.out _ HM4.out) ?_
    clear hK hd hb hm1
    try simp only [List.setIfInBounds_toArray, List.set_cons_zero, List.set_cons_succ]
    refine Till.one (i := 16) (by kernel_rfl) rfl (fun KK hK => ?_)
    go_simp
    refine (usedM_any HH4.out.m (by have := HLN.out; omega) HIX.out).mono ?_
    rintro e V2 ⟨rfl, hb⟩
    have HM5 := Lib.hid (HM4.out.keep hb)
    have HV5 := Lib.hid (HV4.out.keep hb)
    have HH5 := Lib.hid (HH4.out.keep hb)
    have HT5 := Lib.hid (HT4.out.trans (hb.mono (by have := HT4.out.size; have := HLO.out; have := HLW.out; omega)))
    have HT5x := Lib.hid hb.size
    rw [HU.out]
    refine hK.out _ _ (fun _ => HS.out _ HM5.out) ?_
    clear hK hb
    try simp only [List.setIfInBounds_toArray, List.set_cons_zero, List.set_cons_succ]
    refine Till.one (i := 17) (by kernel_rfl) rfl (fun KK hK => ?_)
    go_simp
    refine hK.out _ _ (by first | exact fun _ => HS.out _ HM5.out | exact fun h => absurd h (by simp)) ?_
    clear hK
    try simp only [List.setIfInBounds_toArray, List.set_cons_zero, List.set_cons_succ]
    refine Till.one (i := 18) (by kernel_rfl) rfl (fun KK hK => ?_)
    go_simp
    refine hK.out _ _ (by first | exact fun _ => HS.out _ HM5.out | exact fun h => absurd h (by simp)) ?_
    clear hK
    try simp only [List.setIfInBounds_toArray, List.set_cons_zero, List.set_cons_succ]
    refine Till.one (i := 19) (by kernel_rfl) rfl (fun KK hK => ?_)
    go_simp
    refine hK.out _ _ (by first | exact fun _ => HS.out _ HM5.out | exact fun h => absurd h (by simp)) ?_
    clear hK
    try simp only [List.setIfInBounds_toArray, List.set_cons_zero, List.set_cons_succ]
    refine Till.one (i := 20) (by kernel_rfl) rfl (fun KK hK => ?_)
    go_simp
    refine hK.out _ _ (by first | exact fun _ => HS.out _ HM5.out | exact fun h => absurd h (by simp)) ?_
    clear hK
    try simp only [List.setIfInBounds_toArray, List.set_cons_zero, List.set_cons_succ]
    refine Till.done (by kernel_rfl) ?_ _
    clear c2
    have HW2 := Lib.hid (show WW.heap.size ≤ V2.heap.size from Nat.le_trans (Nat.le_trans HVW.out HT4x.out) HT5x.out)
    go_wp2_with fail
    go_loopw [6, 7, 8, 9, 10, 11] (fun i _ _ _ _ _ wr => ∃ j : Nat, i = .int .i64 (j : Nat) ∧ j ≤ ln ∧ Below V2.heap.size V2 wr) (fun i _ _ _ _ _ _ => ln - (intOf i).toNat)
    case atStart => exact ⟨0, rfl, Nat.zero_le _, Below.refl _ _⟩
    case round =>
      obtain ⟨j, rfl, hj, hb⟩ := hrel
      have HB := Lib.hid hb
      clear hb
      by_cases hlt : j < ln
      · have i1 : (j : Int) < (ln : Int) := by omega
        have i2 : IntKind.i64.wrap ((j : Int) + 1) = (j : Int) + 1 := IntWalk.i64_in _ (by omega)
        obtain ⟨x, hx⟩ : ∃ x, md.names[j]? = some x := ⟨_, List.getElem?_eq_getElem (by have := HLN.out; omega)⟩
        obtain ⟨hfile, hhas, f, hfx, hat⟩ := HK.out.nm.hit x (List.mem_of_getElem? hx)
        have hfm : md.files[x.2]? = some (entF f) := by rw [HK.out.fl]; exact at_map hfx
        have hfd : fndE { s with rd := fun j => V0.heap[j]? } x.1 = 0 := by unfold fndE; simp [HDN.out.2, hhas]
        have hrd : rdV { s with rd := fun j => V0.heap[j]? } x.1 = (entF f).1 := by unfold rdV; rw [if_pos hfd, bytesAt_of (s := { s with rd := fun j => V0.heap[j]? }) HN.out (List.mem_of_getElem? hfx) hat]; rfl
        have hsz : szV { s with rd := fun j => V0.heap[j]? } x.1 = (entF f).1.size := by unfold szV; rw [if_pos hfd, bytesAt_of (s := { s with rd := fun j => V0.heap[j]? }) HN.out (List.mem_of_getElem? hfx) hat]; show f.bs.length = f.bs.toArray.size; rw [List.size_toArray]
        have hRD := read_any (HH5.out.d.keep HB.out) x.1 (by have := file_small hfile; unfold maxLen; omega)
        have hSZ := size_any (HH5.out.d.keep HB.out) x.1 (by have := file_small hfile; unfold maxLen; omega)
        rw [hfd, hrd] at hRD
        rw [hfd, hsz] at hSZ
        have HRD := Lib.hid hRD
        have HSZ := Lib.hid hSZ
        have hxl : x.2 < md.files.length := (List.getElem?_eq_some_iff.1 hfm).1
        obtain ⟨A1, c1, e1, _, _, _, hvc⟩ := (HV5.out.keep HB.out).slice
        injection e1 with e1 _ e3
        subst e1 e3
        have hm := HM5.out.keep HB.out
        obtain ⟨_, _, _, c3, c4, _, _⟩ := hm.at7
        have hn2 := hm.n
        obtain ⟨A2, c2, e2, hn1, _, _, hnc⟩ := hn2.slice
        rw [HLN.out] at e2 hn1
        injection e2 with e2 _ e3
        subst e2 e3
        obtain ⟨A3, c3', e2, hf1, _, _, hfc⟩ := hm.f.slice
        injection e2 with e2 _ e3
        subst e2 e3
        obtain ⟨g, o, e, _, z1⟩ := hnc _ _ (entC_at md.names j x hx).2
        subst e
        obtain ⟨g1, o1, e, _, z0⟩ := hnc _ _ (entC_at md.names j x hx).1
        injection e with e
        injection e with e e' _
        subst e e'
        obtain ⟨g', o', e, _, y0⟩ := hfc _ _ (entC_at md.files x.2 (entF f) hfm).1
        subst e
        obtain ⟨g9, o9, e, _, v0⟩ := hvc j (.string x.1) (by rw [List.getElem?_map, List.getElem?_map, hx]; show some (Value.string ⟨(bsE x).toArray⟩) = _; rw [back_eq rfl])
        subst e
        rw [show o + (j * 2 + 1) = o + j * 2 + 1 by omega] at z1
        have hxl2 : (x.2 : Int) < (md.files.length : Int) := by omega
        obtain ⟨t, ht⟩ : ∃ t, (entF f).1 = t := ⟨_, rfl⟩
        rw [ht] at y0 HRD HSZ
        clear hnc hfc hvc hx hfile hhas hfx hat hfm hfd hrd hsz hRD hSZ hm hn2 ht
        go_wp2_with fail
        refine HRD.out.mono ?_
        rintro e w6 ⟨rfl, rfl⟩
        go_wp2_with fail
        refine HSZ.out.mono ?_
        rintro e w7 ⟨rfl, rfl⟩
        go_wp2_with fail
        go_quiet (fail)
        go_wp2_with fail
        go_quiet (fail)
        go_wp2_with fail
        go_roundw
        case rel => exact ⟨j + 1, by go_num, by omega, below_drewN HB.out _⟩
        case measure => simp [intOf]; omega
      · have i1 : ¬ (j : Int) < (ln : Int) := by omega
        go_wp2_with fail
        go_ret
        exact ⟨rfl, ⟨(HH5.out.d.keep HB.out).base (Fr.none _), HH5.out.m.keep HB.out, HK.out.base _, HH5.out.n, HH5.out.g⟩, HT5.out.trans (HB.out.mono (Nat.le_trans HLO.out (Nat.le_trans HLW.out HW2.out)))⟩
  · simp only [if_true] at hss
    subst hss
    obtain ⟨Av, cv, ev, _, _, _, hcv⟩ := own_row hv
    subst ev
    clear hso hv hcv
    go_wp2_with fail
    go_quiet ((go_at_call 32; exact Calls.quiet_of_same (HDA.out _)))
    have HB2 := Lib.hid (below_drewN HB1.out nq)
    have hh2 := (HH1.out.keep (below_drewN (Below.refl _ _) nq)).here
    have hm2 := HMV1.out.keep (below_drewN (Below.refl _ _) nq)
    generalize w2.drewN nq = WW at HB2 hh2 hm2 ⊢
    have HH2 := Lib.hid hh2
    have HMV := Lib.hid hm2
    clear hh2 hm2 c2
    have c2 := HMV.out.at7.2.2.1
    rw [HDN.out.1] at c2
    go_wp2_with fail
    have hf := free_any HH2.out.d (by omega)
    rw [show frV { s with rd := fun j => WW.heap[j]? } = 0 by unfold frV; rw [if_pos (show s.down = true from HDN.out.2)]] at hf
    refine hf.mono ?_
    rintro e V1 ⟨rfl, hd, hb⟩
    have HH4 := Lib.hid (show Both V1 B p pm c _ md from ⟨hd.base (Fr.none _), HH2.out.m.fr hd.fr, HK.out.base _, HH2.out.n, HH2.out.g⟩)
    have HT4 := Lib.hid ((HB2.out.mono HLO.out).trans hb)
    clear hd hb hf
    go_wp2_with fail
    go_ret
    exact ⟨rfl, HH4.out, HT4.out⟩
end Go.Proofs.Ytbmogecnepgnaaa
