/- The law IntegerParses: its walk. -/
import Derived.Test.YtmfagehoelfjgaaDoorBack
import Derived.Test.YtmfagehoelfjgaaDoorLawFrom
namespace Go.Proofs.YtmfagehoelfjgaaDoor
open Go.RowKit

theorem zeros_any (n : Nat) : ∃ zs : List Int, bytesOf zs = (madeCells #[.int .u8 0] n).toList ∧ zs.length = n := by
  refine ⟨List.replicate n 0, ?_, by rw [List.length_replicate]⟩
  unfold bytesOf madeCells
  apply List.ext_getElem
  · simp
  · intro i h1 h2
    simp [Nat.mod_one]
theorem own_string' {w : World} {base n : Nat} {v : Value} {l : List Int} (h : w.ownsRow base 5 1 v n (bytesOf l)) (hl : l.length = n) :
    ∀ dst, Tryd.prog.underlying dst = some .string → 0 < n → (convert 29 dst v).run Tryd.prog w = .ok (.string (strOfNums l)) w := by
  intro dst hd h0
  subst hl
  exact own_string h h0 dst hd

set_option maxRecDepth 100000 in
set_option maxHeartbeats 8000000 in
theorem integerParses_walk (s : ByteArray) (w : World) (hs : s.size ≤ 9223372036854775807) (hw : Good w) :
    Calls Tryd.prog 3 #[.string s] w fun e w' => e = .returned (.bool true) ∧ Below w.heap.size w w' := by
  have Hw := Lib.hid (fun w' (h : Below w.heap.size w w') => hw.below h)
  have Hk := Lib.hid (known_true w hw)
  clear hw
  go_enter Tryd.func3, Tryd.ntmps3
  go_wp2_with fail
  refine Hk.out.mono ?_
  rintro e w1 ⟨rfl, h1⟩
  have k1 := Lib.hid h1
  clear h1
  by_cases hbig : 200 < s.size
  · go_wp2_with fail
    refine (known_true w1 (Hw.out _ k1.out)).mono ?_
    rintro e w2 ⟨rfl, h2⟩
    have k2 := Lib.hid (k1.out.trans (h2.mono k1.out.size))
    clear h2 k1
    go_wp2
    go_ret
    exact ⟨rfl, k2.out⟩
  · go_wp2_with fail
    refine (parse_any s _ (by omega)).mono ?_
    rintro e w2 ⟨v, rfl, hint, hnot, h2⟩
    obtain ⟨a, P, rfl⟩ : ∃ a P, v = .agg #[.int .i64 a, .pointer P] := by
      by_cases h0 : errOf s = 0
      · exact (hint h0).form
      · exact ⟨_, _, hnot h0⟩
    obtain ⟨E, hE⟩ : ∃ E, errOf s = E := ⟨_, rfl⟩
    have k2 := Lib.hid (k1.out.trans (h2.mono k1.out.size))
    have Hint := Lib.hid hint
    have Hnot := Lib.hid hnot
    have HE := Lib.hid hE
    rw [hE]
    clear hint hnot hE h2 k1
    obtain ⟨i0, hi, hz0, hz1, hz2⟩ := info_parts info_u8
    go_wp2_with (at_make; refine wpList_make_full _ rfl _ _ 29 rfl (w2.heap.size + 1) 5 i0 (.int .u8 0) 1 Tryd.underlying29 hi hz0 hz1 _ _ _ _ 65537 rfl rfl rfl rfl (by rw [hz2]; omega) (by unfold maxLen; omega) (by simp) ?_)
    intro w3 hown3 hgr3
    obtain ⟨zs, hzs, hzl⟩ := zeros_any 65537
    rw [← hzs] at hown3
    have cv := fun dst hd => own_string' hown3 hzl dst hd (by decide)
    have hsz : (strOfNums zs).size = 65537 := by rw [strOfNums_size, hzl]
    have Hlong := Lib.hid (fun w => parse_long (strOfNums zs) w (by rw [hsz]; decide) (by rw [hsz]; decide))
    have b3 := (Below.refl (w2.heap.size + 1) (w2.alloc (.cells #[.int .i64 a, .pointer P] 25))).grown hgr3 (by simp) (by simp)
    have B3 := Lib.hid b3
    clear hown3 hgr3 b3
    go_wp2_with fail
    refine (Hlong.out _).mono ?_
    rintro e w4 ⟨rfl, h4⟩
    have s3 : w2.heap.size + 1 ≤ w3.heap.size := by have := B3.out.size; simpa using this
    have b4 := (B3.out.trans (h4.mono s3)).alloc (Nat.le_trans s3 h4.size) (.cells #[.int .i64 0, .pointer none] 25)
    have c1 : (w4.alloc (.cells #[.int .i64 0, .pointer none] 25)).cell? ⟨w2.heap.size, 0, none⟩ = some (.int .i64 a) := (b4.cell (p := ⟨w2.heap.size, 0, none⟩) (by simp)).trans (by simp [go_sem])
    have c2 : (w4.alloc (.cells #[.int .i64 0, .pointer none] 25)).cell? ⟨w2.heap.size, 1, none⟩ = some (.pointer P) := (b4.cell (p := ⟨w2.heap.size, 1, none⟩) (by simp)).trans (by simp [go_sem])
    have k4 := ((Below.refl w2.heap.size w2).alloc (Nat.le_refl _) (.cells #[.int .i64 a, .pointer P] 25)).trans (b4.mono (Nat.le_succ _))
    have K4 := Lib.hid k4
    have kw := Lib.hid (k2.out.trans (k4.mono k2.out.size))
    have Hcheck := Lib.hid (fun w => refCheck_any s w (by omega))
    rw [HE.out] at Hcheck
    clear h4 b4 k4 cv hsz hzs hzl
    go_wp2_with fail
    refine (Hcheck.out _).mono ?_
    rintro e w5 ⟨rfl, rfl⟩
    by_cases h0 : E = 0
    · have Hii := Lib.hid ((Hint.out (HE.out.trans h0)).keep K4.out)
      have Hwhole := Lib.hid (text_whole (HE.out.trans h0))
      have Htext := Lib.hid (textZ_any _ _ _ Hii.out (Hw.out _ kw.out).1)
      rw [Hwhole.out] at Htext
      subst h0
      go_wp2_with fail
      refine Htext.out.mono ?_
      rintro e w6 ⟨rfl, h6⟩
      have kf := Lib.hid (kw.out.trans (h6.mono kw.out.size))
      clear h6
      go_wp2
      go_ret
      exact ⟨by simp, kf.out⟩
    · have hv := Hnot.out (fun h => h0 (HE.out.symm.trans h))
      obtain ⟨rfl, rfl⟩ : a = 0 ∧ P = none := by simpa [small] using hv
      have t1 : (E == 0) = false := by rw [beq_eq_false_iff_ne]; exact h0
      have Htext := Lib.hid (text_any 0 (w4.alloc (.cells #[.int .i64 0, .pointer none] 25)) (i64_lit (by decide)) (Hw.out _ kw.out).1)
      have hi0 : Lib.itoa 0 = [48] := itoa_zero
      rw [hi0] at Htext
      clear hv hi0
      go_wp2_with fail
      refine Htext.out.mono ?_
      rintro e w6 ⟨rfl, h6⟩
      have kf := Lib.hid (kw.out.trans (h6.mono kw.out.size))
      clear h6
      go_wp2
      go_ret
      exact ⟨by simp, kf.out⟩
end Go.Proofs.YtmfagehoelfjgaaDoor
