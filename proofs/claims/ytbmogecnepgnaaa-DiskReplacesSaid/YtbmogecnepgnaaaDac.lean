/- DiskReplaces: the walk. -/
import Derived.Test.YtbmogecnepgnaaaDab
namespace Go.Proofs.Ytbmogecnepgnaaa
open Go.RowKit Go.Maps Go.Shelf
set_option maxRecDepth 100000 in
set_option maxHeartbeats 16000000 in
theorem replaces_any (o n : ByteArray) (q : Nat) (hq : q < 256) (A : Option Addr) (sn sc : Nat) (l : List Int) (w : World) (hl : l.length = sn) (hIL : IntL w A l) (hbd : ∀ k ∈ l, -9223372036854775808 ≤ k ∧ k ≤ 9223372036854775807) (hlk : ∀ b o t, l ≠ [] → A = some ⟨b, o, t⟩ → b < w.heap.size) :
    Calls Try.prog 8 #[.string o, .string n, .agg #[.int .u8 (q : Nat), .slice A sn sc]] w fun e w' => e = .returned (.bool true) ∧ Below w.heap.size w w' := by
  have k1 := (Below.refl w.heap.size w).alloc (Nat.le_refl _) (.cells #[.int .u8 (q : Nat), .slice A sn sc] 61)
  have C1 := Cells.new w #[.int .u8 (q : Nat), .slice A sn sc] 61
  obtain ⟨w1, hw1⟩ : ∃ u, w.alloc (.cells #[.int .u8 (q : Nat), .slice A sn sc] 61) = u := ⟨_, rfl⟩
  rw [hw1] at k1 C1
  have HC1 := Lib.hid C1
  have HK1 := Lib.hid k1
  have HI := Lib.hid (⟨hl, hIL, hbd, hlk⟩ : l.length = sn ∧ IntL w A l ∧ (∀ k ∈ l, -9223372036854775808 ≤ k ∧ k ≤ 9223372036854775807) ∧ ∀ b o t, l ≠ [] → A = some ⟨b, o, t⟩ → b < w.heap.size)
  clear C1 k1 hl hIL hbd hlk
  go_enter Try.func8, Try.ntmps8
  go_wp2_with fail
  refine (known_true w1).mono ?_
  rintro e w2 ⟨rfl, hb⟩
  clear hw1
  have HC2 := Lib.hid (HC1.out.keep hb)
  have HK2 := Lib.hid (below_on HK1.out hb)
  clear hb HC1 HK1
  have z0 := HC2.out.at_ 0
  have z1 := HC2.out.at_ 1
  simp only [List.getElem?_cons_zero, List.getElem?_cons_succ] at z0 z1
  by_cases h1 : 50 < o.size
  · have j1 : (50 : Int) < (o.size : Int) := by omega
    go_wp2_with fail
    refine (known_true w2).mono ?_
    rintro e w3 ⟨rfl, hb⟩
    have HK3 := Lib.hid (below_on HK2.out hb)
    clear hb
    go_wp2_with fail
    go_ret
    exact ⟨rfl, HK3.out⟩
  have j1 : ¬ (50 : Int) < (o.size : Int) := by omega
  by_cases h2 : 50 < n.size
  · have j2 : (50 : Int) < (n.size : Int) := by omega
    go_wp2_with fail
    refine (known_true w2).mono ?_
    rintro e w3 ⟨rfl, hb⟩
    have HK3 := Lib.hid (below_on HK2.out hb)
    clear hb
    go_wp2_with fail
    go_ret
    exact ⟨rfl, HK3.out⟩
  have j2 : ¬ (50 : Int) < (n.size : Int) := by omega
  by_cases h3 : 12 < sn
  · have j3 : (12 : Int) < (sn : Int) := by omega
    go_wp2_with fail
    refine (known_true w2).mono ?_
    rintro e w3 ⟨rfl, hb⟩
    have HK3 := Lib.hid (below_on HK2.out hb)
    clear hb
    go_wp2_with fail
    go_ret
    exact ⟨rfl, HK3.out⟩
  have j3 : ¬ (12 : Int) < (sn : Int) := by omega
  go_wp2_with fail
  refine (new_ok 200 (by decide) w2).mono ?_
  rintro e w3 ⟨p, m, rfl, hD, hm1, hm2, hb⟩
  have HD0 := Lib.hid (Disk.of (c := 0) hD (newL (by decide)) (by omega) (by omega) (by rw [hm2]; exact Nat.le_refl _))
  have HB0 := Lib.hid hb
  clear hD hm1 hm2 hb
  go_wp2_with fail
  have hq1 := append_any HD0.out (by decide) bA o (by decide) (by omega)
  rw [(r1 0 o (by omega)).1] at hq1
  refine hq1.mono ?_
  rintro e w4 ⟨b, rfl, hD, _, hb⟩
  rw [(r1 b o (by omega)).2] at hD
  have HD1 := Lib.hid hD
  have HB1 := Lib.hid (HB0.out.trans hb)
  clear hD hb hq1 HD0 HB0
  go_wp2_with fail
  have hq := sync_any HD1.out bA (by decide)
  rw [(r2 b o).1, (r2 b o).2] at hq
  refine hq.mono ?_
  rintro e wd ⟨rfl, hD, hb⟩
  have HD2 := Lib.hid hD
  have HB2 := Lib.hid (HB1.out.trans hb)
  clear hD hb hq HD1 HB1
  go_wp2_with fail
  have hq := publish_any HD2.out
  rw [(r3 b o).1, (r3 b o).2] at hq
  refine hq.mono ?_
  rintro e we ⟨rfl, hD, hb⟩
  have HD3 := Lib.hid hD
  have HB3 := Lib.hid (HB2.out.trans hb)
  clear hD hb hq HD2 HB2
  have HC3 := Lib.hid (HC2.out.keep HB3.out)
  clear z0 z1
  have z0 := HC3.out.at_ 0
  have z1 := HC3.out.at_ 1
  simp only [List.getElem?_cons_zero, List.getElem?_cons_succ] at z0 z1
  obtain ⟨k, hk⟩ : ∃ k, q % 6 = k := ⟨_, rfl⟩
  have hk6 : k < 6 := by omega
  have e1 : IntKind.i64.wrap (q : Int) = (q : Int) := IntWalk.i64_in _ (by omega)
  have e2 : (q : Int).tmod 6 = (k : Nat) := by rw [← hk]; exact (Int.ofNat_tmod q 6).symm
  have e3 : IntKind.i64.wrap (k : Int) = (k : Int) := IntWalk.i64_in _ (by omega)
  have Hk := Lib.hid hk
  clear hk h1 h2 h3
  go_wp2_with fail
  have hq1 := limit_any HD3.out (k : Nat) (by omega)
  rw [(r4 b k o).1, (r4 b k o).2] at hq1
  refine hq1.mono ?_
  rintro e w5 ⟨rfl, hD, hb⟩
  have HD4 := Lib.hid hD
  have HB4 := Lib.hid (HB3.out.trans hb)
  clear hD hb hq1 HD3 HB3 HC3
  rcases (show k = 0 ∨ k = 1 ∨ k = 2 ∨ k = 3 ∨ k = 4 ∨ k = 5 by omega) with rfl | rfl | rfl | rfl | rfl | rfl
  · have e4 : (q : Int).tmod 6 = 0 := by rw [e2]; rfl
    clear e2 e3
    have hne : True := trivial
    go_wp2_with fail
    have hq1 := append_any HD4.out (by decide) bB n (by decide) (by omega)
    rw [show apE (R4 b o 0) bB n = 32 from (r5z b 0 o n (by omega) (by omega)).1] at hq1
    refine hq1.mono ?_
    rintro e w6 ⟨b2, rfl, hD, hfr, hb⟩
    rw [show apS (R4 b o 0) bB n b2 = R5 b b2 o n true 0 0 from (r5z b b2 o n (by omega) (by omega)).2] at hD
    have hbb : b ≠ b2 := hfr (r50 b 0 o n (by omega) (by omega)) ⟨b, lL o, (lL o).length⟩ List.mem_cons_self
    have Hbb := Lib.hid hbb
    have HD5 := Lib.hid hD
    have HB5 := Lib.hid (HB4.out.trans hb)
    clear hD hb hq1 HD4 HB4 hfr hbb hne
    have HCx := Lib.hid (HC2.out.keep HB5.out)
    clear z0 z1
    have z0 := HCx.out.at_ 0
    have z1 := HCx.out.at_ 1
    simp only [List.getElem?_cons_zero, List.getElem?_cons_succ] at z0 z1
    go_wp2_with fail
    refine (crash_any HD5.out).mono ?_
    rintro e wf ⟨⟨v, rfl⟩, hD, hb⟩
    have hD : Disk wf _ p (R5 b b2 o n true 0 0) _ := hD
    have HBf := Lib.hid (HB5.out.trans hb)
    have HCy := Lib.hid (HC2.out.keep HBf.out)
    clear z0 z1
    have z0 := HCy.out.at_ 0
    have z1 := HCy.out.at_ 1
    simp only [List.getElem?_cons_zero, List.getElem?_cons_succ] at z0 z1
    have h8 := start_any hD (by decide) rfl (cl := sc) (HI.out.2.1.keep (below_on HK2.out HBf.out)) (fun b' o' t' z e => by
      have h9 := HI.out.2.2.2 b' o' t' z e
      have h10 := HK2.out.size
      have h11 := HBf.out.size
      exact ⟨by omega, .inl (by omega)⟩) HI.out.1 HI.out.2.2.1
    have H8 := Lib.hid h8
    clear h8 hD hb HD5 HB5
    go_wp2_with fail
    refine H8.out.mono ?_
    rintro e wg ⟨⟨v9, rfl⟩, ⟨ss, _, _, hD⟩, hb⟩
    have HD9 := Lib.hid hD
    have HB9 := Lib.hid (HBf.out.trans hb)
    clear hD hb H8 HBf
    go_wp2_with fail
    have h10 := read_any HD9.out bA (by decide)
    rw [(e5 HD9.out).1, (e5 HD9.out).2] at h10
    refine h10.mono ?_
    rintro e wh ⟨rfl, rfl⟩
    clear h10
    go_wp2_with fail
    all_goals
      go_ret
      exact ⟨by first | rfl | simp, (below_on HK2.out HB9.out)⟩
  · have e4 : (q : Int).tmod 6 = 1 := by rw [e2]; rfl
    clear e2 e3
    have hne : True := trivial
    go_wp2_with fail
    have hq1 := append_any HD4.out (by decide) bB n (by decide) (by omega)
    rw [show apE (R4 b o 1) bB n = 0 from (r5 b 0 0 o n (by omega) (by omega)).1] at hq1
    refine hq1.mono ?_
    rintro e w6 ⟨b2, rfl, hD, hfr, hb⟩
    rw [show apS (R4 b o 1) bB n b2 = R5 b b2 o n false 0 0 from (r5 b b2 0 o n (by omega) (by omega)).2] at hD
    have hbb : b ≠ b2 := hfr (r50 b 1 o n (by omega) (by omega)) ⟨b, lL o, (lL o).length⟩ List.mem_cons_self
    have Hbb := Lib.hid hbb
    have HD5 := Lib.hid hD
    have HB5 := Lib.hid (HB4.out.trans hb)
    clear hD hb hq1 HD4 HB4 hfr hbb hne
    go_wp2_with fail
    have hq1 := sync_any HD5.out bB (by decide)
    rw [show syE (R5 b b2 o n false 0 0) bB = 32 from (r6z b b2 o n).1, show syS (R5 b b2 o n false 0 0) bB = R5 b b2 o n true 0 0 from (r6z b b2 o n).2] at hq1
    refine hq1.mono ?_
    rintro e w7 ⟨rfl, hD, hb⟩
    have HD6 := Lib.hid hD
    have HB6 := Lib.hid (HB5.out.trans hb)
    clear hD hb hq1 HD5 HB5
    have HCx := Lib.hid (HC2.out.keep HB6.out)
    clear z0 z1
    have z0 := HCx.out.at_ 0
    have z1 := HCx.out.at_ 1
    simp only [List.getElem?_cons_zero, List.getElem?_cons_succ] at z0 z1
    go_wp2_with fail
    refine (crash_any HD6.out).mono ?_
    rintro e wf ⟨⟨v, rfl⟩, hD, hb⟩
    have hD : Disk wf _ p (R5 b b2 o n true 0 0) _ := hD
    have HBf := Lib.hid (HB6.out.trans hb)
    have HCy := Lib.hid (HC2.out.keep HBf.out)
    clear z0 z1
    have z0 := HCy.out.at_ 0
    have z1 := HCy.out.at_ 1
    simp only [List.getElem?_cons_zero, List.getElem?_cons_succ] at z0 z1
    have h8 := start_any hD (by decide) rfl (cl := sc) (HI.out.2.1.keep (below_on HK2.out HBf.out)) (fun b' o' t' z e => by
      have h9 := HI.out.2.2.2 b' o' t' z e
      have h10 := HK2.out.size
      have h11 := HBf.out.size
      exact ⟨by omega, .inl (by omega)⟩) HI.out.1 HI.out.2.2.1
    have H8 := Lib.hid h8
    clear h8 hD hb HD6 HB6
    go_wp2_with fail
    refine H8.out.mono ?_
    rintro e wg ⟨⟨v9, rfl⟩, ⟨ss, _, _, hD⟩, hb⟩
    have HD9 := Lib.hid hD
    have HB9 := Lib.hid (HBf.out.trans hb)
    clear hD hb H8 HBf
    go_wp2_with fail
    have h10 := read_any HD9.out bA (by decide)
    rw [(e5 HD9.out).1, (e5 HD9.out).2] at h10
    refine h10.mono ?_
    rintro e wh ⟨rfl, rfl⟩
    clear h10
    go_wp2_with fail
    all_goals
      go_ret
      exact ⟨by first | rfl | simp, (below_on HK2.out HB9.out)⟩
  · have e4 : (q : Int).tmod 6 = 2 := by rw [e2]; rfl
    clear e2 e3
    have hne : True := trivial
    go_wp2_with fail
    have hq1 := append_any HD4.out (by decide) bB n (by decide) (by omega)
    rw [show apE (R4 b o 2) bB n = 0 from (r5 b 0 1 o n (by omega) (by omega)).1] at hq1
    refine hq1.mono ?_
    rintro e w6 ⟨b2, rfl, hD, hfr, hb⟩
    rw [show apS (R4 b o 2) bB n b2 = R5 b b2 o n false 1 0 from (r5 b b2 1 o n (by omega) (by omega)).2] at hD
    have hbb : b ≠ b2 := hfr (r50 b 2 o n (by omega) (by omega)) ⟨b, lL o, (lL o).length⟩ List.mem_cons_self
    have Hbb := Lib.hid hbb
    have HD5 := Lib.hid hD
    have HB5 := Lib.hid (HB4.out.trans hb)
    clear hD hb hq1 HD4 HB4 hfr hbb hne
    go_wp2_with fail
    have hq1 := sync_any HD5.out bB (by decide)
    rw [show syE (R5 b b2 o n false 1 0) bB = 0 from (r6 Hbb.out 0 o n).1, show syS (R5 b b2 o n false 1 0) bB = R5 b b2 o n false 0 (lL n).length from (r6 Hbb.out 0 o n).2] at hq1
    refine hq1.mono ?_
    rintro e w7 ⟨rfl, hD, hb⟩
    have HD6 := Lib.hid hD
    have HB6 := Lib.hid (HB5.out.trans hb)
    clear hD hb hq1 HD5 HB5
    go_wp2_with fail
    have hq1 := rename_any HD6.out (by decide) bB bA (by decide) (by decide)
    rw [show rnE (R5 b b2 o n false 0 (lL n).length) bB bA = 32 from (r7z b b2 o n).1, show rnS (R5 b b2 o n false 0 (lL n).length) bB bA = R6 b b2 o n true 0 from (r7z b b2 o n).2] at hq1
    refine hq1.mono ?_
    rintro e w8 ⟨rfl, hD, hb⟩
    have HD7 := Lib.hid hD
    have HB7 := Lib.hid (HB6.out.trans hb)
    clear hD hb hq1 HD6 HB6
    have HCx := Lib.hid (HC2.out.keep HB7.out)
    clear z0 z1
    have z0 := HCx.out.at_ 0
    have z1 := HCx.out.at_ 1
    simp only [List.getElem?_cons_zero, List.getElem?_cons_succ] at z0 z1
    go_wp2_with fail
    refine (crash_any HD7.out).mono ?_
    rintro e wf ⟨⟨v, rfl⟩, hD, hb⟩
    have hD : Disk wf _ p (R6 b b2 o n true 0) _ := hD
    have HBf := Lib.hid (HB7.out.trans hb)
    have HCy := Lib.hid (HC2.out.keep HBf.out)
    clear z0 z1
    have z0 := HCy.out.at_ 0
    have z1 := HCy.out.at_ 1
    simp only [List.getElem?_cons_zero, List.getElem?_cons_succ] at z0 z1
    have h8 := start_any hD (by decide) rfl (cl := sc) (HI.out.2.1.keep (below_on HK2.out HBf.out)) (fun b' o' t' z e => by
      have h9 := HI.out.2.2.2 b' o' t' z e
      have h10 := HK2.out.size
      have h11 := HBf.out.size
      exact ⟨by omega, .inl (by omega)⟩) HI.out.1 HI.out.2.2.1
    have H8 := Lib.hid h8
    clear h8 hD hb HD7 HB7
    go_wp2_with fail
    refine H8.out.mono ?_
    rintro e wg ⟨⟨v9, rfl⟩, ⟨ss, _, _, hD⟩, hb⟩
    have HD9 := Lib.hid hD
    have HB9 := Lib.hid (HBf.out.trans hb)
    clear hD hb H8 HBf
    go_wp2_with fail
    have h10 := read_any HD9.out bA (by decide)
    rcases (e6 HD9.out).2 with hr | hr
    · rw [(e6 HD9.out).1, hr] at h10
      clear hr
      refine h10.mono ?_
      rintro e wh ⟨rfl, rfl⟩
      clear h10
      go_wp2_with fail
      all_goals
        go_ret
        exact ⟨by first | rfl | simp, (below_on HK2.out HB9.out)⟩
    · rw [(e6 HD9.out).1, hr] at h10
      clear hr
      refine h10.mono ?_
      rintro e wh ⟨rfl, rfl⟩
      clear h10
      go_wp2_with fail
      all_goals
        go_ret
        exact ⟨by first | rfl | simp, (below_on HK2.out HB9.out)⟩
  · have e4 : (q : Int).tmod 6 = 3 := by rw [e2]; rfl
    clear e2 e3
    have hne : True := trivial
    go_wp2_with fail
    have hq1 := append_any HD4.out (by decide) bB n (by decide) (by omega)
    rw [show apE (R4 b o 3) bB n = 0 from (r5 b 0 2 o n (by omega) (by omega)).1] at hq1
    refine hq1.mono ?_
    rintro e w6 ⟨b2, rfl, hD, hfr, hb⟩
    rw [show apS (R4 b o 3) bB n b2 = R5 b b2 o n false 2 0 from (r5 b b2 2 o n (by omega) (by omega)).2] at hD
    have hbb : b ≠ b2 := hfr (r50 b 3 o n (by omega) (by omega)) ⟨b, lL o, (lL o).length⟩ List.mem_cons_self
    have Hbb := Lib.hid hbb
    have HD5 := Lib.hid hD
    have HB5 := Lib.hid (HB4.out.trans hb)
    clear hD hb hq1 HD4 HB4 hfr hbb hne
    go_wp2_with fail
    have hq1 := sync_any HD5.out bB (by decide)
    rw [show syE (R5 b b2 o n false 2 0) bB = 0 from (r6 Hbb.out 1 o n).1, show syS (R5 b b2 o n false 2 0) bB = R5 b b2 o n false 1 (lL n).length from (r6 Hbb.out 1 o n).2] at hq1
    refine hq1.mono ?_
    rintro e w7 ⟨rfl, hD, hb⟩
    have HD6 := Lib.hid hD
    have HB6 := Lib.hid (HB5.out.trans hb)
    clear hD hb hq1 HD5 HB5
    go_wp2_with fail
    have hq1 := rename_any HD6.out (by decide) bB bA (by decide) (by decide)
    rw [show rnE (R5 b b2 o n false 1 (lL n).length) bB bA = 0 from (r7 b b2 0 o n).1, show rnS (R5 b b2 o n false 1 (lL n).length) bB bA = R6 b b2 o n false 0 from (r7 b b2 0 o n).2] at hq1
    refine hq1.mono ?_
    rintro e w8 ⟨rfl, hD, hb⟩
    have HD7 := Lib.hid hD
    have HB7 := Lib.hid (HB6.out.trans hb)
    clear hD hb hq1 HD6 HB6
    go_wp2_with fail
    have hq1 := publish_any HD7.out
    rw [show puE (R6 b b2 o n false 0) = 32 from (r8z b b2 o n).1, show puS (R6 b b2 o n false 0) = R6 b b2 o n true 0 from (r8z b b2 o n).2] at hq1
    refine hq1.mono ?_
    rintro e w9 ⟨rfl, hD, hb⟩
    have HD8 := Lib.hid hD
    have HB8 := Lib.hid (HB7.out.trans hb)
    clear hD hb hq1 HD7 HB7
    have HCx := Lib.hid (HC2.out.keep HB8.out)
    clear z0 z1
    have z0 := HCx.out.at_ 0
    have z1 := HCx.out.at_ 1
    simp only [List.getElem?_cons_zero, List.getElem?_cons_succ] at z0 z1
    go_wp2_with fail
    refine (crash_any HD8.out).mono ?_
    rintro e wf ⟨⟨v, rfl⟩, hD, hb⟩
    have hD : Disk wf _ p (R6 b b2 o n true 0) _ := hD
    have HBf := Lib.hid (HB8.out.trans hb)
    have HCy := Lib.hid (HC2.out.keep HBf.out)
    clear z0 z1
    have z0 := HCy.out.at_ 0
    have z1 := HCy.out.at_ 1
    simp only [List.getElem?_cons_zero, List.getElem?_cons_succ] at z0 z1
    have h8 := start_any hD (by decide) rfl (cl := sc) (HI.out.2.1.keep (below_on HK2.out HBf.out)) (fun b' o' t' z e => by
      have h9 := HI.out.2.2.2 b' o' t' z e
      have h10 := HK2.out.size
      have h11 := HBf.out.size
      exact ⟨by omega, .inl (by omega)⟩) HI.out.1 HI.out.2.2.1
    have H8 := Lib.hid h8
    clear h8 hD hb HD8 HB8
    go_wp2_with fail
    refine H8.out.mono ?_
    rintro e wg ⟨⟨v9, rfl⟩, ⟨ss, _, _, hD⟩, hb⟩
    have HD9 := Lib.hid hD
    have HB9 := Lib.hid (HBf.out.trans hb)
    clear hD hb H8 HBf
    go_wp2_with fail
    have h10 := read_any HD9.out bA (by decide)
    rcases (e6 HD9.out).2 with hr | hr
    · rw [(e6 HD9.out).1, hr] at h10
      clear hr
      refine h10.mono ?_
      rintro e wh ⟨rfl, rfl⟩
      clear h10
      go_wp2_with fail
      all_goals
        go_ret
        exact ⟨by first | rfl | simp, (below_on HK2.out HB9.out)⟩
    · rw [(e6 HD9.out).1, hr] at h10
      clear hr
      refine h10.mono ?_
      rintro e wh ⟨rfl, rfl⟩
      clear h10
      go_wp2_with fail
      all_goals
        go_ret
        exact ⟨by first | rfl | simp, (below_on HK2.out HB9.out)⟩
  · have e4 : (q : Int).tmod 6 = 4 := by rw [e2]; rfl
    clear e2 e3
    have hne : True := trivial
    go_wp2_with fail
    have hq1 := append_any HD4.out (by decide) bB n (by decide) (by omega)
    rw [show apE (R4 b o 4) bB n = 0 from (r5 b 0 3 o n (by omega) (by omega)).1] at hq1
    refine hq1.mono ?_
    rintro e w6 ⟨b2, rfl, hD, hfr, hb⟩
    rw [show apS (R4 b o 4) bB n b2 = R5 b b2 o n false 3 0 from (r5 b b2 3 o n (by omega) (by omega)).2] at hD
    have hbb : b ≠ b2 := hfr (r50 b 4 o n (by omega) (by omega)) ⟨b, lL o, (lL o).length⟩ List.mem_cons_self
    have Hbb := Lib.hid hbb
    have HD5 := Lib.hid hD
    have HB5 := Lib.hid (HB4.out.trans hb)
    clear hD hb hq1 HD4 HB4 hfr hbb hne
    go_wp2_with fail
    have hq1 := sync_any HD5.out bB (by decide)
    rw [show syE (R5 b b2 o n false 3 0) bB = 0 from (r6 Hbb.out 2 o n).1, show syS (R5 b b2 o n false 3 0) bB = R5 b b2 o n false 2 (lL n).length from (r6 Hbb.out 2 o n).2] at hq1
    refine hq1.mono ?_
    rintro e w7 ⟨rfl, hD, hb⟩
    have HD6 := Lib.hid hD
    have HB6 := Lib.hid (HB5.out.trans hb)
    clear hD hb hq1 HD5 HB5
    go_wp2_with fail
    have hq1 := rename_any HD6.out (by decide) bB bA (by decide) (by decide)
    rw [show rnE (R5 b b2 o n false 2 (lL n).length) bB bA = 0 from (r7 b b2 1 o n).1, show rnS (R5 b b2 o n false 2 (lL n).length) bB bA = R6 b b2 o n false 1 from (r7 b b2 1 o n).2] at hq1
    refine hq1.mono ?_
    rintro e w8 ⟨rfl, hD, hb⟩
    have HD7 := Lib.hid hD
    have HB7 := Lib.hid (HB6.out.trans hb)
    clear hD hb hq1 HD6 HB6
    go_wp2_with fail
    have hq1 := publish_any HD7.out
    rw [show puE (R6 b b2 o n false 1) = 0 from (r8 b b2 0 o n).1, show puS (R6 b b2 o n false 1) = R7 b b2 o n false 0 from (r8 b b2 0 o n).2] at hq1
    refine hq1.mono ?_
    rintro e w9 ⟨rfl, hD, hb⟩
    have HD8 := Lib.hid hD
    have HB8 := Lib.hid (HB7.out.trans hb)
    clear hD hb hq1 HD7 HB7
    have HCx := Lib.hid (HC2.out.keep HB8.out)
    clear z0 z1
    have z0 := HCx.out.at_ 0
    have z1 := HCx.out.at_ 1
    simp only [List.getElem?_cons_zero, List.getElem?_cons_succ] at z0 z1
    go_wp2_with fail
    refine (crash_any HD8.out).mono ?_
    rintro e wf ⟨⟨v, rfl⟩, hD, hb⟩
    have hD : Disk wf _ p (R7 b b2 o n true 0) _ := hD
    have HBf := Lib.hid (HB8.out.trans hb)
    have HCy := Lib.hid (HC2.out.keep HBf.out)
    clear z0 z1
    have z0 := HCy.out.at_ 0
    have z1 := HCy.out.at_ 1
    simp only [List.getElem?_cons_zero, List.getElem?_cons_succ] at z0 z1
    have h8 := start_any hD (by decide) rfl (cl := sc) (HI.out.2.1.keep (below_on HK2.out HBf.out)) (fun b' o' t' z e => by
      have h9 := HI.out.2.2.2 b' o' t' z e
      have h10 := HK2.out.size
      have h11 := HBf.out.size
      exact ⟨by omega, .inl (by omega)⟩) HI.out.1 HI.out.2.2.1
    have H8 := Lib.hid h8
    clear h8 hD hb HD8 HB8
    go_wp2_with fail
    refine H8.out.mono ?_
    rintro e wg ⟨⟨v9, rfl⟩, ⟨ss, _, _, hD⟩, hb⟩
    have HD9 := Lib.hid hD
    have HB9 := Lib.hid (HBf.out.trans hb)
    clear hD hb H8 HBf
    go_wp2_with fail
    have h10 := read_any HD9.out bA (by decide)
    rw [(e7 HD9.out).1, (e7 HD9.out).2] at h10
    refine h10.mono ?_
    rintro e wh ⟨rfl, rfl⟩
    clear h10
    go_wp2_with fail
    all_goals
      go_ret
      exact ⟨by first | rfl | simp, (below_on HK2.out HB9.out)⟩
  · have e4 : (q : Int).tmod 6 = 5 := by rw [e2]; rfl
    clear e2 e3
    have hne : True := trivial
    go_wp2_with fail
    have hq1 := append_any HD4.out (by decide) bB n (by decide) (by omega)
    rw [show apE (R4 b o 5) bB n = 0 from (r5 b 0 4 o n (by omega) (by omega)).1] at hq1
    refine hq1.mono ?_
    rintro e w6 ⟨b2, rfl, hD, hfr, hb⟩
    rw [show apS (R4 b o 5) bB n b2 = R5 b b2 o n false 4 0 from (r5 b b2 4 o n (by omega) (by omega)).2] at hD
    have hbb : b ≠ b2 := hfr (r50 b 5 o n (by omega) (by omega)) ⟨b, lL o, (lL o).length⟩ List.mem_cons_self
    have Hbb := Lib.hid hbb
    have HD5 := Lib.hid hD
    have HB5 := Lib.hid (HB4.out.trans hb)
    clear hD hb hq1 HD4 HB4 hfr hbb hne
    go_wp2_with fail
    have hq1 := sync_any HD5.out bB (by decide)
    rw [show syE (R5 b b2 o n false 4 0) bB = 0 from (r6 Hbb.out 3 o n).1, show syS (R5 b b2 o n false 4 0) bB = R5 b b2 o n false 3 (lL n).length from (r6 Hbb.out 3 o n).2] at hq1
    refine hq1.mono ?_
    rintro e w7 ⟨rfl, hD, hb⟩
    have HD6 := Lib.hid hD
    have HB6 := Lib.hid (HB5.out.trans hb)
    clear hD hb hq1 HD5 HB5
    go_wp2_with fail
    have hq1 := rename_any HD6.out (by decide) bB bA (by decide) (by decide)
    rw [show rnE (R5 b b2 o n false 3 (lL n).length) bB bA = 0 from (r7 b b2 2 o n).1, show rnS (R5 b b2 o n false 3 (lL n).length) bB bA = R6 b b2 o n false 2 from (r7 b b2 2 o n).2] at hq1
    refine hq1.mono ?_
    rintro e w8 ⟨rfl, hD, hb⟩
    have HD7 := Lib.hid hD
    have HB7 := Lib.hid (HB6.out.trans hb)
    clear hD hb hq1 HD6 HB6
    go_wp2_with fail
    have hq1 := publish_any HD7.out
    rw [show puE (R6 b b2 o n false 2) = 0 from (r8 b b2 1 o n).1, show puS (R6 b b2 o n false 2) = R7 b b2 o n false 1 from (r8 b b2 1 o n).2] at hq1
    refine hq1.mono ?_
    rintro e w9 ⟨rfl, hD, hb⟩
    have HD8 := Lib.hid hD
    have HB8 := Lib.hid (HB7.out.trans hb)
    clear hD hb hq1 HD7 HB7
    have HCx := Lib.hid (HC2.out.keep HB8.out)
    clear z0 z1
    have z0 := HCx.out.at_ 0
    have z1 := HCx.out.at_ 1
    simp only [List.getElem?_cons_zero, List.getElem?_cons_succ] at z0 z1
    go_wp2_with fail
    refine (crash_any HD8.out).mono ?_
    rintro e wf ⟨⟨v, rfl⟩, hD, hb⟩
    have hD : Disk wf _ p (R7 b b2 o n true 1) _ := hD
    have HBf := Lib.hid (HB8.out.trans hb)
    have HCy := Lib.hid (HC2.out.keep HBf.out)
    clear z0 z1
    have z0 := HCy.out.at_ 0
    have z1 := HCy.out.at_ 1
    simp only [List.getElem?_cons_zero, List.getElem?_cons_succ] at z0 z1
    have h8 := start_any hD (by decide) rfl (cl := sc) (HI.out.2.1.keep (below_on HK2.out HBf.out)) (fun b' o' t' z e => by
      have h9 := HI.out.2.2.2 b' o' t' z e
      have h10 := HK2.out.size
      have h11 := HBf.out.size
      exact ⟨by omega, .inl (by omega)⟩) HI.out.1 HI.out.2.2.1
    have H8 := Lib.hid h8
    clear h8 hD hb HD8 HB8
    go_wp2_with fail
    refine H8.out.mono ?_
    rintro e wg ⟨⟨v9, rfl⟩, ⟨ss, _, _, hD⟩, hb⟩
    have HD9 := Lib.hid hD
    have HB9 := Lib.hid (HBf.out.trans hb)
    clear hD hb H8 HBf
    go_wp2_with fail
    have h10 := read_any HD9.out bA (by decide)
    rw [(e7 HD9.out).1, (e7 HD9.out).2] at h10
    refine h10.mono ?_
    rintro e wh ⟨rfl, rfl⟩
    clear h10
    go_wp2_with fail
    all_goals
      go_ret
      exact ⟨by first | rfl | simp, (below_on HK2.out HB9.out)⟩
end Go.Proofs.Ytbmogecnepgnaaa
