/- The law IntegerInts: its walk. -/
import Derived.Test.YtegndbiglehacaaDoorLaw
import Derived.Test.YtegndbiglehacaaDoorRefB
namespace Go.Proofs.YtegndbiglehacaaDoor
open Go.RowKit

theorem cmpZ_low {z k : Int} (h : k ≤ z) : 0 ≤ cmpZ z k ∧ cmpZ z k ≤ 1 := by
  unfold cmpZ
  rw [if_neg (by omega)]
  split <;> omega
theorem cmpZ_high {z k : Int} (h : z ≤ k) : -1 ≤ cmpZ z k ∧ cmpZ z k ≤ 0 := by
  unfold cmpZ
  split
  · omega
  · rw [if_neg (by omega)]; omega
theorem cmpZ_less {z k : Int} (h : z < k) : cmpZ z k = -1 := by unfold cmpZ; rw [if_pos h]
theorem cmpZ_more {z k : Int} (h : k < z) : cmpZ z k = 1 := by unfold cmpZ; rw [if_neg (by omega), if_pos h]
set_option maxRecDepth 100000 in
set_option maxHeartbeats 8000000 in
theorem integerInts_walk (s : ByteArray) (w : World) (hs : s.size ≤ 9223372036854775807) (hw : Good w) :
    Calls Tryd.prog 5 #[.string s] w fun e w' => e = .returned (.bool true) ∧ Below w.heap.size w w' := by
  have Hw := Lib.hid (fun w' (h : Below w.heap.size w w') => hw.below h)
  have Hk := Lib.hid (known_true w hw)
  have Hrs := Lib.hid (fun w => right_any s w hs)
  obtain ⟨bs, hbs⟩ : ∃ b, okT s = b := ⟨_, rfl⟩
  rw [hbs] at Hrs
  have Hbs := Lib.hid hbs
  clear hw hbs
  go_enter Tryd.func5, Tryd.ntmps5
  go_wp2_with fail
  refine Hk.out.mono ?_
  rintro e w1 ⟨rfl, h1⟩
  have k1 := Lib.hid h1
  have Hk2 := Lib.hid (known_true w1 (Hw.out _ h1))
  clear h1
  go_wp2_with fail
  refine (Hrs.out _).mono ?_
  rintro e w2 ⟨rfl, rfl⟩
  cases bs with
  | false =>
    go_wp2_with fail
    refine Hk2.out.mono ?_
    rintro e w2 ⟨rfl, h2⟩
    have k2 := Lib.hid (below_on k1.out h2)
    clear h2
    go_wp2
    go_ret
    exact ⟨rfl, k2.out⟩
  | true =>
    have Hs := okT_true Hbs.out
    have Es := Lib.hid (txt_zOf Hs.2)
    have Hreads := Lib.hid (fun w => read_any s w Hs.1 Hs.2)
    have Hrb := Lib.hid (fun w => refBits_any (zOf s) w (by rw [Es.out]; omega))
    have Hcl := Lib.hid (fun w => refCompare_any (zOf s) (-9223372036854775808) w (by rw [Es.out]; omega) (by have := txt_size (-9223372036854775808) (k := 19) (by decide) (by decide); omega))
    have Hch := Lib.hid (fun w => refCompare_any (zOf s) 9223372036854775807 w (by rw [Es.out]; omega) (by have := txt_size 9223372036854775807 (k := 19) (by decide) (by decide); omega))
    have Hfl := Lib.hid (show ∀ w, Calls Tryd.prog 20 #[.int .i64 (-9223372036854775808)] w fun e w' => e = .returned (.string (txt (-9223372036854775808))) ∧ Below w.heap.size w w' from fun w => refFrom_any _ w ⟨by decide, by decide⟩)
    have Hfh := Lib.hid (show ∀ w, Calls Tryd.prog 20 #[.int .i64 9223372036854775807] w fun e w' => e = .returned (.string (txt 9223372036854775807)) ∧ Below w.heap.size w w' from fun w => refFrom_any _ w ⟨by decide, by decide⟩)
    have Hfz := Lib.hid (show ∀ w, I64 (zOf s) → Calls Tryd.prog 20 #[.int .i64 (zOf s)] w fun e w' => e = .returned (.string (txt (zOf s))) ∧ Below w.heap.size w w' from fun w h => refFrom_any _ w h)
    rw [Es.out] at Hrb Hcl Hch Hfz
    obtain ⟨L, hL⟩ : ∃ L, txt (-9223372036854775808) = L := ⟨_, rfl⟩
    obtain ⟨M, hM⟩ : ∃ M, txt 9223372036854775807 = M := ⟨_, rfl⟩
    rw [hL] at Hcl Hfl
    rw [hM] at Hch Hfh
    obtain ⟨z, hz⟩ : ∃ z, zOf s = z := ⟨_, rfl⟩
    rw [hz] at Hreads Hrb Hcl Hch Hfz
    clear hz Hs hL hM Es
    go_wp2_with fail
    refine (Hreads.out _).mono ?_
    rintro e v0 ⟨a0, P0, rfl, hi0, h0⟩
    have V0 := Lib.hid (Var.new hi0)
    have K0 := Lib.hid (below_var (below_on k1.out h0) (.cells #[.int .i64 a0, .pointer P0] 25))
    clear h0 hi0
    have Hint := Lib.hid (intZ_any a0 P0 z _ V0.out.int)
    have c00 := V0.out.c0
    have c01 := V0.out.c1
    go_wp2_with fail
    refine Hint.out.mono ?_
    rintro e n1 ⟨⟨n, b, rfl, hin, hout⟩, g1⟩
    have J1 := Lib.hid (below_on K0.out g1)
    have V1 := Lib.hid (V0.out.keep g1)
    have Hin := Lib.hid hin
    have Hout := Lib.hid hout
    have Hbt := Lib.hid (bits_any a0 P0 z _ V1.out.int)
    clear c00 c01 g1 hin hout
    have c00 := V1.out.c0
    have c01 := V1.out.c1
    go_wp2_with fail
    refine Hbt.out.mono ?_
    rintro e n2 ⟨⟨l, rfl, hl⟩, g2⟩
    have J2 := Lib.hid (below_on J1.out g2)
    have Hl := Lib.hid hl
    clear c00 c01 g2 hl
    go_wp2_with fail
    refine (Hrb.out _).mono ?_
    rintro e n3 ⟨⟨l', rfl, hl'⟩, g3⟩
    have J3 := Lib.hid (below_on J2.out g3)
    obtain rfl := len2_unique Hl.out hl'
    clear g3 hl'
    go_wp2_with fail
    refine (Hfl.out _).mono ?_
    rintro e n4 ⟨rfl, g4⟩
    have J4 := Lib.hid (below_on J3.out g4)
    clear g4
    go_wp2_with fail
    refine (Hfh.out _).mono ?_
    rintro e n5 ⟨rfl, g5⟩
    have J5 := Lib.hid (below_on J4.out g5)
    clear g5
    by_cases hz : I64 z
    · obtain ⟨rfl, rfl⟩ := Hin.out hz
      have h1 := cmpZ_low hz.1
      have h2 := cmpZ_high hz.2
      obtain ⟨x, hx⟩ : ∃ x, cmpZ n (-9223372036854775808) = x := ⟨_, rfl⟩
      obtain ⟨y, hy⟩ : ∃ y, cmpZ n 9223372036854775807 = y := ⟨_, rfl⟩
      rw [hx] at Hcl h1
      rw [hy] at Hch h2
      obtain ⟨h1a, h1b⟩ := h1
      obtain ⟨h2a, h2b⟩ := h2
      have Hz := Lib.hid hz
      clear hx hy hz
      go_wp2_with fail
      refine (Hcl.out _).mono ?_
      rintro e n6 ⟨rfl, g6⟩
      have J6 := Lib.hid (below_on J5.out g6)
      clear g6
      go_wp2_with fail
      refine (Hch.out _).mono ?_
      rintro e n7 ⟨rfl, g7⟩
      have J7 := Lib.hid (below_on J6.out g7)
      clear g7
      go_wp2_with fail
      refine (Hfz.out _ Hz.out).mono ?_
      rintro e n8 ⟨rfl, g8⟩
      have J8 := Lib.hid (below_on J7.out g8)
      clear g8
      go_wp2
      go_ret
      exact ⟨by simp, J8.out⟩
    · obtain ⟨rfl, rfl⟩ := Hout.out hz
      by_cases hlow : z < -9223372036854775808
      · rw [cmpZ_less hlow] at Hcl
        clear hz hlow
        go_wp2_with fail
        refine (Hcl.out _).mono ?_
        rintro e n6 ⟨rfl, g6⟩
        have J6 := Lib.hid (below_on J5.out g6)
        clear g6
        go_wp2
        go_ret
        exact ⟨rfl, J6.out⟩
      · have hhigh : 9223372036854775807 < z := by unfold I64 at hz; omega
        have h1 := cmpZ_low (z := z) (k := -9223372036854775808) (by omega)
        obtain ⟨x, hx⟩ : ∃ x, cmpZ z (-9223372036854775808) = x := ⟨_, rfl⟩
        rw [hx] at Hcl h1
        rw [cmpZ_more hhigh] at Hch
        obtain ⟨h1a, h1b⟩ := h1
        clear hx hz hlow hhigh
        go_wp2_with fail
        refine (Hcl.out _).mono ?_
        rintro e n6 ⟨rfl, g6⟩
        have J6 := Lib.hid (below_on J5.out g6)
        clear g6
        go_wp2_with fail
        refine (Hch.out _).mono ?_
        rintro e n7 ⟨rfl, g7⟩
        have J7 := Lib.hid (below_on J6.out g7)
        clear g7
        go_wp2
        go_ret
        exact ⟨rfl, J7.out⟩
end Go.Proofs.YtegndbiglehacaaDoor
