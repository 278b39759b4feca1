/- DiskNames: the walk. -/
import Derived.Test.YtbmogecnepgnaaaDcu
namespace Go.Proofs.Ytbmogecnepgnaaa
open Go.RowKit Go.Maps Go.Shelf
section
variable {s : St}
theorem stay_append (n d : ByteArray) (b : Nat) : Stay s (apS s n d b) := by
  unfold apS
  split
  · refine Stay.cnt ?_
    split
    · exact ⟨rfl, by show (updF s.F _ _).length ≤ _; rw [updF_len]; omega⟩
    · exact ⟨rfl, by show (s.F ++ [_]).length ≤ _; rw [List.length_append]; exact Nat.le_refl _⟩
  · exact Stay.refl s
theorem stay_sync (n : ByteArray) : Stay s (syS s n) := by
  have hc := (Stay.refl s).cnt
  unfold syS
  split
  · split
    · exact ⟨hc.1, by show (updF s.F _ _).length ≤ _; rw [updF_len]; omega⟩
    · exact hc
  · exact Stay.refl s
theorem stay_rename (a b : ByteArray) : Stay s (rnS s a b) := by
  unfold rnS
  split
  · split
    · exact Stay.op s _
    · exact Stay.refl s
  · exact Stay.refl s
theorem stay_remove (a : ByteArray) : Stay s (rmS s a) := by
  unfold rmS
  split
  · exact Stay.op s _
  · exact Stay.refl s
theorem stay_publish : Stay s (puS s) := by
  have hc := (Stay.refl s).cnt
  unfold puS
  split
  · exact Stay.refl s
  · split
    · exact ⟨hc.1, hc.2⟩
    · exact hc
end
theorem has_sim {s : St} {md : Md} (h : Sim s md) (n : ByteArray) : (fndE s n == 0) = hsM md n := by
  rw [fnd_sim h]
  unfold hsM
  cases md.down
  · by_cases h0 : findM md.names n < 0
    · simp [h0]
    · simp [h0]; omega
  · rfl
set_option maxRecDepth 100000 in
set_option maxHeartbeats 32000000 in
theorem names_law (a b o : ByteArray) (w : World) :
    Calls Try.prog 4 #[.string a, .string b, .string o] w fun e w' => e = .returned (.bool true) ∧ Below w.heap.size w w' := by
  go_enter Try.func4, Try.ntmps4
  go_wp2_with fail
  refine (known_true w).mono ?_
  rintro e wn ⟨rfl, hb⟩
  have HK2 := Lib.hid hb
  clear hb
  by_cases h1 : 50 < a.size
  · have j1 : (50 : Int) < (a.size : Int) := by omega
    go_wp2_with fail
    refine (known_true wn).mono ?_
    rintro e w3 ⟨rfl, hb⟩
    have HK3 := Lib.hid (below_on HK2.out hb)
    clear hb
    go_wp2_with fail
    go_ret
    exact ⟨rfl, HK3.out⟩
  have j1 : ¬ (50 : Int) < (a.size : Int) := by omega
  by_cases h2 : 50 < b.size
  · have j2 : (50 : Int) < (b.size : Int) := by omega
    go_wp2_with fail
    refine (known_true wn).mono ?_
    rintro e w3 ⟨rfl, hb⟩
    have HK3 := Lib.hid (below_on HK2.out hb)
    clear hb
    go_wp2_with fail
    go_ret
    exact ⟨rfl, HK3.out⟩
  have j2 : ¬ (50 : Int) < (b.size : Int) := by omega
  by_cases h3 : 50 < o.size
  · have j3 : (50 : Int) < (o.size : Int) := by omega
    go_wp2_with fail
    refine (known_true wn).mono ?_
    rintro e w3 ⟨rfl, hb⟩
    have HK3 := Lib.hid (below_on HK2.out hb)
    clear hb
    go_wp2_with fail
    go_ret
    exact ⟨rfl, HK3.out⟩
  have j3 : ¬ (50 : Int) < (o.size : Int) := by omega
  go_wp2_with fail
  refine (new_ok 60 (by decide) wn).mono ?_
  rintro e w3 ⟨p, m, rfl, hD, hm1, hm2, hb⟩
  have hD0 := Disk.of (c := 0) hD (newL (by decide)) (by omega) (by omega) (by rw [hm2]; exact Nat.le_refl _)
  have hal := (Below.refl w3.heap.size w3).alloc (Nat.le_refl _) (.cells #[.int .i64 60, .int .i64 (-1), .bool false, .slice none 0 0, .slice none 0 0, .slice none 0 0, .slice none 0 0] 34)
  have hh := (show Both (w3.alloc (.cells #[.int .i64 60, .int .i64 (-1), .bool false, .slice none 0 0, .slice none 0 0, .slice none 0 0, .slice none 0 0] 34)) wn.heap.size p w3.heap.size 0 (newS 60) (md0 60) from ⟨hD0.keep hal, md0_at 60 w3, sim0 60, Nat.le_refl _, hb.size⟩)
  have hbb := below_on hb hal
  clear hD hm1 hm2 hb hD0 hal
  go_wp2_with fail
  generalize (w3.alloc (.cells #[.int .i64 60, .int .i64 (-1), .bool false, .slice none 0 0, .slice none 0 0, .slice none 0 0, .slice none 0 0] 34)) = W0 at hh hbb ⊢
  generalize w3.heap.size = pm at hh ⊢
  obtain ⟨s0, m0, hh⟩ : ∃ s md, Both W0 wn.heap.size p pm 0 s md := ⟨_, _, hh⟩
  have HH0 := Lib.hid hh
  have HB0 := Lib.hid hbb
  clear hh hbb
  obtain ⟨x0, hx0, hrd⟩ : ∃ x, Both W0 wn.heap.size p pm 0 x m0 ∧ x.rd = fun j => W0.heap[j]? := ⟨_, HH0.out.here, rfl⟩
  have HX0 := Lib.hid hx0
  clear hx0
  obtain ⟨hMB, _, _⟩ := HH0.out.k.mb HH0.out.d (by decide) (Nat.le_trans HH0.out.n (by decide))
  have HMB0 := Lib.hid hMB
  clear hMB
  refine (append_any HX0.out.d (by decide) (⟨#[97, 46, 48, 45, 122]⟩) (⟨#[102, 105, 114, 115, 116, 32, 98, 121, 116, 101, 115]⟩) (by decide) (by decide)).mono ?_
  rintro e w0a ⟨bq, rfl, hD, hbk, hb⟩
  obtain ⟨hac, hsim⟩ := sim_append HX0.out.k HX0.out.d.dl HX0.out.d.nod (⟨#[97, 46, 48, 45, 122]⟩) (⟨#[102, 105, 114, 115, 116, 32, 98, 121, 116, 101, 115]⟩) hbk
  have hst := stay_append (s := x0) (⟨#[97, 46, 48, 45, 122]⟩) (⟨#[102, 105, 114, 115, 116, 32, 98, 121, 116, 101, 115]⟩) bq
  have hfr := hD.fr
  rw [hst.1, hrd] at hfr
  have HD0 := Lib.hid (hD.mono (show _ ≤ 1 by decide))
  have HM0 := Lib.hid (HX0.out.m.fr hfr)
  have HSI0 := Lib.hid hsim
  have HFL0 := Lib.hid (Nat.le_trans hst.2 (Nat.succ_le_succ HX0.out.n))
  have HB0a := Lib.hid (HB0.out.trans hb)
  have hAM := appendM_any HM0.out HMB0.out (⟨#[97, 46, 48, 45, 122]⟩) (⟨#[102, 105, 114, 115, 116, 32, 98, 121, 116, 101, 115]⟩) (by decide) (by decide)
  rw [hac] at hAM
  have HAM0 := Lib.hid hAM
  clear hrd hst hfr hD hb hac hsim hAM
  go_wp2_with fail
  refine HAM0.out.mono ?_
  rintro e W1 ⟨rfl, hm, hg⟩
  obtain ⟨s1, m1, hh⟩ : ∃ s md, Both W1 wn.heap.size p pm 1 s md := ⟨_, _, HD0.out.aside HM0.out hg, hm, HSI0.out.base _, HFL0.out, HX0.out.g⟩
  have HH1 := Lib.hid hh
  have HB1 := Lib.hid (HB0a.out.trans (below_g hg HX0.out.g HM0.out.lt))
  clear hm hg hh
  go_wp2_with fail
  obtain ⟨x1, hx0, hrd⟩ : ∃ x, Both W1 wn.heap.size p pm 1 x m1 ∧ x.rd = fun j => W1.heap[j]? := ⟨_, HH1.out.here, rfl⟩
  have HX1 := Lib.hid hx0
  clear hx0
  obtain ⟨hMB, _, _⟩ := HH1.out.k.mb HH1.out.d (by decide) (Nat.le_trans HH1.out.n (by decide))
  have HMB1 := Lib.hid hMB
  clear hMB
  refine (append_any HX1.out.d (by decide) (a) (o) (by omega) (by omega)).mono ?_
  rintro e w1a ⟨bq, rfl, hD, hbk, hb⟩
  obtain ⟨hac, hsim⟩ := sim_append HX1.out.k HX1.out.d.dl HX1.out.d.nod (a) (o) hbk
  have hst := stay_append (s := x1) (a) (o) bq
  have hfr := hD.fr
  rw [hst.1, hrd] at hfr
  have HD1 := Lib.hid (hD.mono (show _ ≤ 2 by decide))
  have HM1 := Lib.hid (HX1.out.m.fr hfr)
  have HSI1 := Lib.hid hsim
  have HFL1 := Lib.hid (Nat.le_trans hst.2 (Nat.succ_le_succ HX1.out.n))
  have HB1a := Lib.hid (HB1.out.trans hb)
  have hAM := appendM_any HM1.out HMB1.out (a) (o) (by omega) (by omega)
  rw [hac] at hAM
  have HAM1 := Lib.hid hAM
  clear hrd hst hfr hD hb hac hsim hAM
  go_wp2_with fail
  refine HAM1.out.mono ?_
  rintro e W2 ⟨rfl, hm, hg⟩
  obtain ⟨s2, m2, hh⟩ : ∃ s md, Both W2 wn.heap.size p pm 2 s md := ⟨_, _, HD1.out.aside HM1.out hg, hm, HSI1.out.base _, HFL1.out, HX1.out.g⟩
  have HH2 := Lib.hid hh
  have HB2 := Lib.hid (HB1a.out.trans (below_g hg HX1.out.g HM1.out.lt))
  clear hm hg hh
  go_wp2_with fail
  refine (agrees_any HH2.out (by decide)).mono ?_
  rintro e W2c ⟨rfl, hh, hb⟩
  clear HX1 HD1 HM1 HSI1 HFL1 HMB1 HAM1
  have HBc2 := Lib.hid (HB2.out.trans hb)
  obtain ⟨s9, hh⟩ : ∃ s, Both W2c wn.heap.size p pm 2 s m2 := ⟨_, hh⟩
  clear hb HH2 HB2
  have HH2 := Lib.hid hh
  have HB2 := Lib.hid HBc2.out
  clear hh HBc2
  go_wp2_with fail
  obtain ⟨x2, hx0, hrd⟩ : ∃ x, Both W2c wn.heap.size p pm 2 x m2 ∧ x.rd = fun j => W2c.heap[j]? := ⟨_, HH2.out.here, rfl⟩
  have HX2 := Lib.hid hx0
  clear hx0
  obtain ⟨hMB, _, _⟩ := HH2.out.k.mb HH2.out.d (by decide) (Nat.le_trans HH2.out.n (by decide))
  have HMB2 := Lib.hid hMB
  clear hMB
  refine (rename_any HX2.out.d (by decide) a b (by unfold maxLen; omega) (by omega)).mono ?_
  rintro e w2a ⟨rfl, hD, hb⟩
  obtain ⟨hac, hsim⟩ := sim_rename HX2.out.k HX2.out.d.dl a b
  have hst := stay_rename (s := x2) a b
  have hfr := hD.fr
  rw [hst.1, hrd] at hfr
  have HD2 := Lib.hid (hD.mono (show _ ≤ 3 by decide))
  have HM2 := Lib.hid (HX2.out.m.fr hfr)
  have HSI2 := Lib.hid hsim
  have HFL2 := Lib.hid (Nat.le_trans hst.2 (Nat.succ_le_succ HX2.out.n))
  have HB2a := Lib.hid (HB2.out.trans hb)
  have hAM := renameM_any HM2.out HMB2.out a b (by omega)
  rw [hac] at hAM
  have HAM2 := Lib.hid hAM
  clear hrd hst hfr hD hb hac hsim hAM
  go_wp2_with fail
  refine HAM2.out.mono ?_
  rintro e W3 ⟨rfl, hm, hg⟩
  obtain ⟨s3, m3, hh⟩ : ∃ s md, Both W3 wn.heap.size p pm 3 s md := ⟨_, _, HD2.out.aside HM2.out hg, hm, HSI2.out.base _, HFL2.out, HX2.out.g⟩
  have HH3 := Lib.hid hh
  have HB3 := Lib.hid (HB2a.out.trans (below_g hg HX2.out.g HM2.out.lt))
  clear hm hg hh
  go_wp2_with fail
  refine (agrees_any HH3.out (by decide)).mono ?_
  rintro e W3c ⟨rfl, hh, hb⟩
  clear HX2 HD2 HM2 HSI2 HFL2 HMB2 HAM2
  have HBc3 := Lib.hid (HB3.out.trans hb)
  obtain ⟨s9, hh⟩ : ∃ s, Both W3c wn.heap.size p pm 3 s m3 := ⟨_, hh⟩
  clear hb HH3 HB3
  have HH3 := Lib.hid hh
  have HB3 := Lib.hid HBc3.out
  clear hh HBc3
  go_wp2_with fail
  obtain ⟨x3, hx0, hrd⟩ : ∃ x, Both W3c wn.heap.size p pm 3 x m3 ∧ x.rd = fun j => W3c.heap[j]? := ⟨_, HH3.out.here, rfl⟩
  have HX3 := Lib.hid hx0
  clear hx0
  obtain ⟨hMB, _, _⟩ := HH3.out.k.mb HH3.out.d (by decide) (Nat.le_trans HH3.out.n (by decide))
  have HMB3 := Lib.hid hMB
  clear hMB
  refine (sync_any HX3.out.d b (by unfold maxLen; omega)).mono ?_
  rintro e w3a ⟨rfl, hD, hb⟩
  obtain ⟨hac, hsim⟩ := sim_sync HX3.out.k HX3.out.d.nod b
  have hst := stay_sync (s := x3) b
  have hfr := hD.fr
  rw [hst.1, hrd] at hfr
  have HD3 := Lib.hid (hD.mono (show _ ≤ 4 by decide))
  have HM3 := Lib.hid (HX3.out.m.fr hfr)
  have HSI3 := Lib.hid hsim
  have HFL3 := Lib.hid (Nat.le_trans hst.2 (Nat.succ_le_succ HX3.out.n))
  have HB3a := Lib.hid (HB3.out.trans hb)
  have hAM := syncM_any HM3.out HMB3.out b
  rw [hac] at hAM
  have HAM3 := Lib.hid hAM
  clear hrd hst hfr hD hb hac hsim hAM
  go_wp2_with fail
  refine HAM3.out.mono ?_
  rintro e W4 ⟨rfl, hm, hg⟩
  obtain ⟨s4, m4, hh⟩ : ∃ s md, Both W4 wn.heap.size p pm 4 s md := ⟨_, _, HD3.out.aside HM3.out hg, hm, HSI3.out.base _, HFL3.out, HX3.out.g⟩
  have HH4 := Lib.hid hh
  have HB4 := Lib.hid (HB3a.out.trans (below_g hg HX3.out.g HM3.out.lt))
  clear hm hg hh
  go_wp2_with fail
  obtain ⟨x4, hx0, hrd⟩ : ∃ x, Both W4 wn.heap.size p pm 4 x m4 ∧ x.rd = fun j => W4.heap[j]? := ⟨_, HH4.out.here, rfl⟩
  have HX4 := Lib.hid hx0
  clear hx0
  obtain ⟨hMB, _, _⟩ := HH4.out.k.mb HH4.out.d (by decide) (Nat.le_trans HH4.out.n (by decide))
  have HMB4 := Lib.hid hMB
  clear hMB
  refine (remove_any HX4.out.d (by decide) a (by unfold maxLen; omega)).mono ?_
  rintro e w4a ⟨rfl, hD, hb⟩
  obtain ⟨hac, hsim⟩ := sim_remove HX4.out.k HX4.out.d.dl a
  have hst := stay_remove (s := x4) a
  have hfr := hD.fr
  rw [hst.1, hrd] at hfr
  have HD4 := Lib.hid (hD.mono (show _ ≤ 5 by decide))
  have HM4 := Lib.hid (HX4.out.m.fr hfr)
  have HSI4 := Lib.hid hsim
  have HFL4 := Lib.hid (Nat.le_trans hst.2 (Nat.succ_le_succ HX4.out.n))
  have HB4a := Lib.hid (HB4.out.trans hb)
  have hAM := removeM_any HM4.out HMB4.out a
  rw [hac] at hAM
  have HAM4 := Lib.hid hAM
  clear hrd hst hfr hD hb hac hsim hAM
  go_wp2_with fail
  refine HAM4.out.mono ?_
  rintro e W5 ⟨rfl, hm, hg⟩
  obtain ⟨s5, m5, hh⟩ : ∃ s md, Both W5 wn.heap.size p pm 5 s md := ⟨_, _, HD4.out.aside HM4.out hg, hm, HSI4.out.base _, HFL4.out, HX4.out.g⟩
  have HH5 := Lib.hid hh
  have HB5 := Lib.hid (HB4a.out.trans (below_g hg HX4.out.g HM4.out.lt))
  clear hm hg hh
  go_wp2_with fail
  refine (agrees_any HH5.out (by decide)).mono ?_
  rintro e W5c ⟨rfl, hh, hb⟩
  clear HX4 HD4 HM4 HSI4 HFL4 HMB4 HAM4
  have HBc5 := Lib.hid (HB5.out.trans hb)
  obtain ⟨s9, hh⟩ : ∃ s, Both W5c wn.heap.size p pm 5 s m5 := ⟨_, hh⟩
  clear hb HH5 HB5
  have HH5 := Lib.hid hh
  have HB5 := Lib.hid HBc5.out
  clear hh HBc5
  go_wp2_with fail
  obtain ⟨hMB, _, _⟩ := HH5.out.k.mb HH5.out.d (by decide) (Nat.le_trans HH5.out.n (by decide))
  have ea := has_sim HH5.out.k a
  have eb := has_sim HH5.out.k b
  have hSZ := size_any HH5.out.d a (by unfold maxLen; omega)
  have hRD := read_any HH5.out.d b (by unfold maxLen; omega)
  have hHA := hasM_any HH5.out.m (by have := hMB.nl; omega) a
  have hHB := hasM_any HH5.out.m (by have := hMB.nl; omega) b
  generalize fndE s9 a = fa at ea hSZ
  generalize fndE s9 b = fb at eb hRD
  generalize hsM m5 a = ba at ea hHA
  generalize hsM m5 b = bb at eb hHB
  have HSZ := Lib.hid hSZ
  have HRD := Lib.hid hRD
  have HHA := Lib.hid hHA
  have HHB := Lib.hid hHB
  clear hMB hSZ hRD hHA hHB
  cases ba
  · have ea1 : ¬ fa = 0 := by simpa using ea
    cases bb
    · have eb1 : ¬ fb = 0 := by simpa using eb
      go_wp2_with fail
      refine HSZ.out.mono ?_
      rintro e ws ⟨rfl, hw⟩
      subst hw
      go_wp2_with fail
      refine HRD.out.mono ?_
      rintro e ws ⟨rfl, hw⟩
      subst hw
      go_wp2_with fail
      refine HHA.out.mono ?_
      rintro e ws ⟨rfl, hw⟩
      subst hw
      go_wp2_with fail
      refine HHB.out.mono ?_
      rintro e ws ⟨rfl, hw⟩
      subst hw
      go_wp2_with fail
      obtain ⟨x5, hx0, hrd⟩ : ∃ x, Both ws wn.heap.size p pm 5 x m5 ∧ x.rd = fun j => ws.heap[j]? := ⟨_, HH5.out.here, rfl⟩
      have HX5 := Lib.hid hx0
      clear hx0
      obtain ⟨hMB, _, _⟩ := HH5.out.k.mb HH5.out.d (by decide) (Nat.le_trans HH5.out.n (by decide))
      have HMB5 := Lib.hid hMB
      clear hMB
      refine (publish_any HX5.out.d).mono ?_
      rintro e w5a ⟨rfl, hD, hb⟩
      obtain ⟨hac, hsim⟩ := sim_publish HX5.out.k HX5.out.d.dl
      have hst := stay_publish (s := x5)
      have hfr := hD.fr
      rw [hst.1, hrd] at hfr
      have HD5 := Lib.hid (hD.mono (show _ ≤ 6 by decide))
      have HM5 := Lib.hid (HX5.out.m.fr hfr)
      have HSI5 := Lib.hid hsim
      have HFL5 := Lib.hid (Nat.le_trans hst.2 (Nat.succ_le_succ HX5.out.n))
      have HB5a := Lib.hid (HB5.out.trans hb)
      have hAM := publishM_any HM5.out HMB5.out
      rw [hac] at hAM
      have HAM5 := Lib.hid hAM
      clear hrd hst hfr hD hb hac hsim hAM
      go_wp2_with fail
      refine HAM5.out.mono ?_
      rintro e W6 ⟨rfl, hm, hg⟩
      obtain ⟨s6, m6, hh⟩ : ∃ s md, Both W6 wn.heap.size p pm 6 s md := ⟨_, _, HD5.out.aside HM5.out hg, hm, HSI5.out.base _, HFL5.out, HX5.out.g⟩
      have HH6 := Lib.hid hh
      have HB6 := Lib.hid (HB5a.out.trans (below_g hg HX5.out.g HM5.out.lt))
      clear hm hg hh
      go_wp2_with fail
      refine (agrees_any HH6.out (by decide)).mono ?_
      rintro e W6c ⟨rfl, hh, hb⟩
      clear HX5 HD5 HM5 HSI5 HFL5 HMB5 HAM5
      have HBc6 := Lib.hid (HB6.out.trans hb)
      obtain ⟨s9, hh⟩ : ∃ s, Both W6c wn.heap.size p pm 6 s m6 := ⟨_, hh⟩
      clear hb HH6 HB6
      have HH6 := Lib.hid hh
      have HB6 := Lib.hid HBc6.out
      clear hh HBc6
      go_wp2_with fail
      go_ret
      exact ⟨rfl, below_on HK2.out HB6.out⟩
    · have eb1 : fb = 0 := by simpa using eb
      subst eb1
      clear eb
      go_wp2_with fail
      refine HSZ.out.mono ?_
      rintro e ws ⟨rfl, hw⟩
      subst hw
      go_wp2_with fail
      refine HRD.out.mono ?_
      rintro e ws ⟨rfl, hw⟩
      subst hw
      go_wp2_with fail
      refine HHA.out.mono ?_
      rintro e ws ⟨rfl, hw⟩
      subst hw
      go_wp2_with fail
      refine HHB.out.mono ?_
      rintro e ws ⟨rfl, hw⟩
      subst hw
      go_wp2_with fail
      obtain ⟨x5, hx0, hrd⟩ : ∃ x, Both ws wn.heap.size p pm 5 x m5 ∧ x.rd = fun j => ws.heap[j]? := ⟨_, HH5.out.here, rfl⟩
      have HX5 := Lib.hid hx0
      clear hx0
      obtain ⟨hMB, _, _⟩ := HH5.out.k.mb HH5.out.d (by decide) (Nat.le_trans HH5.out.n (by decide))
      have HMB5 := Lib.hid hMB
      clear hMB
      refine (publish_any HX5.out.d).mono ?_
      rintro e w5a ⟨rfl, hD, hb⟩
      obtain ⟨hac, hsim⟩ := sim_publish HX5.out.k HX5.out.d.dl
      have hst := stay_publish (s := x5)
      have hfr := hD.fr
      rw [hst.1, hrd] at hfr
      have HD5 := Lib.hid (hD.mono (show _ ≤ 6 by decide))
      have HM5 := Lib.hid (HX5.out.m.fr hfr)
      have HSI5 := Lib.hid hsim
      have HFL5 := Lib.hid (Nat.le_trans hst.2 (Nat.succ_le_succ HX5.out.n))
      have HB5a := Lib.hid (HB5.out.trans hb)
      have hAM := publishM_any HM5.out HMB5.out
      rw [hac] at hAM
      have HAM5 := Lib.hid hAM
      clear hrd hst hfr hD hb hac hsim hAM
      go_wp2_with fail
      refine HAM5.out.mono ?_
      rintro e W6 ⟨rfl, hm, hg⟩
      obtain ⟨s6, m6, hh⟩ : ∃ s md, Both W6 wn.heap.size p pm 6 s md := ⟨_, _, HD5.out.aside HM5.out hg, hm, HSI5.out.base _, HFL5.out, HX5.out.g⟩
      have HH6 := Lib.hid hh
      have HB6 := Lib.hid (HB5a.out.trans (below_g hg HX5.out.g HM5.out.lt))
      clear hm hg hh
      go_wp2_with fail
      refine (agrees_any HH6.out (by decide)).mono ?_
      rintro e W6c ⟨rfl, hh, hb⟩
      clear HX5 HD5 HM5 HSI5 HFL5 HMB5 HAM5
      have HBc6 := Lib.hid (HB6.out.trans hb)
      obtain ⟨s9, hh⟩ : ∃ s, Both W6c wn.heap.size p pm 6 s m6 := ⟨_, hh⟩
      clear hb HH6 HB6
      have HH6 := Lib.hid hh
      have HB6 := Lib.hid HBc6.out
      clear hh HBc6
      go_wp2_with fail
      go_ret
      exact ⟨rfl, below_on HK2.out HB6.out⟩
  · have ea1 : fa = 0 := by simpa using ea
    subst ea1
    clear ea
    cases bb
    · have eb1 : ¬ fb = 0 := by simpa using eb
      go_wp2_with fail
      refine HSZ.out.mono ?_
      rintro e ws ⟨rfl, hw⟩
      subst hw
      go_wp2_with fail
      refine HRD.out.mono ?_
      rintro e ws ⟨rfl, hw⟩
      subst hw
      go_wp2_with fail
      refine HHA.out.mono ?_
      rintro e ws ⟨rfl, hw⟩
      subst hw
      go_wp2_with fail
      refine HHB.out.mono ?_
      rintro e ws ⟨rfl, hw⟩
      subst hw
      go_wp2_with fail
      obtain ⟨x5, hx0, hrd⟩ : ∃ x, Both ws wn.heap.size p pm 5 x m5 ∧ x.rd = fun j => ws.heap[j]? := ⟨_, HH5.out.here, rfl⟩
      have HX5 := Lib.hid hx0
      clear hx0
      obtain ⟨hMB, _, _⟩ := HH5.out.k.mb HH5.out.d (by decide) (Nat.le_trans HH5.out.n (by decide))
      have HMB5 := Lib.hid hMB
      clear hMB
      refine (publish_any HX5.out.d).mono ?_
      rintro e w5a ⟨rfl, hD, hb⟩
      obtain ⟨hac, hsim⟩ := sim_publish HX5.out.k HX5.out.d.dl
      have hst := stay_publish (s := x5)
      have hfr := hD.fr
      rw [hst.1, hrd] at hfr
      have HD5 := Lib.hid (hD.mono (show _ ≤ 6 by decide))
      have HM5 := Lib.hid (HX5.out.m.fr hfr)
      have HSI5 := Lib.hid hsim
      have HFL5 := Lib.hid (Nat.le_trans hst.2 (Nat.succ_le_succ HX5.out.n))
      have HB5a := Lib.hid (HB5.out.trans hb)
      have hAM := publishM_any HM5.out HMB5.out
      rw [hac] at hAM
      have HAM5 := Lib.hid hAM
      clear hrd hst hfr hD hb hac hsim hAM
      go_wp2_with fail
      refine HAM5.out.mono ?_
      rintro e W6 ⟨rfl, hm, hg⟩
      obtain ⟨s6, m6, hh⟩ : ∃ s md, Both W6 wn.heap.size p pm 6 s md := ⟨_, _, HD5.out.aside HM5.out hg, hm, HSI5.out.base _, HFL5.out, HX5.out.g⟩
      have HH6 := Lib.hid hh
      have HB6 := Lib.hid (HB5a.out.trans (below_g hg HX5.out.g HM5.out.lt))
      clear hm hg hh
      go_wp2_with fail
      refine (agrees_any HH6.out (by decide)).mono ?_
      rintro e W6c ⟨rfl, hh, hb⟩
      clear HX5 HD5 HM5 HSI5 HFL5 HMB5 HAM5
      have HBc6 := Lib.hid (HB6.out.trans hb)
      obtain ⟨s9, hh⟩ : ∃ s, Both W6c wn.heap.size p pm 6 s m6 := ⟨_, hh⟩
      clear hb HH6 HB6
      have HH6 := Lib.hid hh
      have HB6 := Lib.hid HBc6.out
      clear hh HBc6
      go_wp2_with fail
      go_ret
      exact ⟨rfl, below_on HK2.out HB6.out⟩
    · have eb1 : fb = 0 := by simpa using eb
      subst eb1
      clear eb
      go_wp2_with fail
      refine HSZ.out.mono ?_
      rintro e ws ⟨rfl, hw⟩
      subst hw
      go_wp2_with fail
      refine HRD.out.mono ?_
      rintro e ws ⟨rfl, hw⟩
      subst hw
      go_wp2_with fail
      refine HHA.out.mono ?_
      rintro e ws ⟨rfl, hw⟩
      subst hw
      go_wp2_with fail
      refine HHB.out.mono ?_
      rintro e ws ⟨rfl, hw⟩
      subst hw
      go_wp2_with fail
      obtain ⟨x5, hx0, hrd⟩ : ∃ x, Both ws wn.heap.size p pm 5 x m5 ∧ x.rd = fun j => ws.heap[j]? := ⟨_, HH5.out.here, rfl⟩
      have HX5 := Lib.hid hx0
      clear hx0
      obtain ⟨hMB, _, _⟩ := HH5.out.k.mb HH5.out.d (by decide) (Nat.le_trans HH5.out.n (by decide))
      have HMB5 := Lib.hid hMB
      clear hMB
      refine (publish_any HX5.out.d).mono ?_
      rintro e w5a ⟨rfl, hD, hb⟩
      obtain ⟨hac, hsim⟩ := sim_publish HX5.out.k HX5.out.d.dl
      have hst := stay_publish (s := x5)
      have hfr := hD.fr
      rw [hst.1, hrd] at hfr
      have HD5 := Lib.hid (hD.mono (show _ ≤ 6 by decide))
      have HM5 := Lib.hid (HX5.out.m.fr hfr)
      have HSI5 := Lib.hid hsim
      have HFL5 := Lib.hid (Nat.le_trans hst.2 (Nat.succ_le_succ HX5.out.n))
      have HB5a := Lib.hid (HB5.out.trans hb)
      have hAM := publishM_any HM5.out HMB5.out
      rw [hac] at hAM
      have HAM5 := Lib.hid hAM
      clear hrd hst hfr hD hb hac hsim hAM
      go_wp2_with fail
      refine HAM5.out.mono ?_
      rintro e W6 ⟨rfl, hm, hg⟩
      obtain ⟨s6, m6, hh⟩ : ∃ s md, Both W6 wn.heap.size p pm 6 s md := ⟨_, _, HD5.out.aside HM5.out hg, hm, HSI5.out.base _, HFL5.out, HX5.out.g⟩
      have HH6 := Lib.hid hh
      have HB6 := Lib.hid (HB5a.out.trans (below_g hg HX5.out.g HM5.out.lt))
      clear hm hg hh
      go_wp2_with fail
      refine (agrees_any HH6.out (by decide)).mono ?_
      rintro e W6c ⟨rfl, hh, hb⟩
      clear HX5 HD5 HM5 HSI5 HFL5 HMB5 HAM5
      have HBc6 := Lib.hid (HB6.out.trans hb)
      obtain ⟨s9, hh⟩ : ∃ s, Both W6c wn.heap.size p pm 6 s m6 := ⟨_, hh⟩
      clear hb HH6 HB6
      have HH6 := Lib.hid hh
      have HB6 := Lib.hid HBc6.out
      clear hh HBc6
      go_wp2_with fail
      go_ret
      exact ⟨rfl, below_on HK2.out HB6.out⟩
end Go.Proofs.Ytbmogecnepgnaaa
