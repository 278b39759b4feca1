/- The law RationalParses: its walk. -/
import Derived.Test.YtjcblcikipmojaaGreatDoorChk
namespace Go.Proofs.YtjcblcikipmojaaGreatDoor
open Go.RowKit

set_option maxRecDepth 100000 in
set_option maxHeartbeats 8000000 in
theorem rationalParses_walk (s : ByteArray) (w : World) (hs : s.size ≤ 9223372036854775807) (hw : Good w) :
    Calls Tryz.prog 3 #[.string s] w fun e w' => e = .returned (.bool true) ∧ Below w.heap.size w w' := by
  have Hw := Lib.hid (fun w' (h : Below w.heap.size w w') => hw.below h)
  have Hk := Lib.hid (known2_true w hw)
  clear hw
  go_enter Tryz.func3, Tryz.ntmps3
  go_wp2_with fail
  refine Hk.out.mono ?_
  rintro e w1 ⟨rfl, h1⟩
  have k1 := Lib.hid h1
  clear h1
  by_cases hbig : 200 < s.size
  · go_wp2_with fail
    refine (known2_true w1 (Hw.out _ k1.out)).mono ?_
    rintro e w2 ⟨rfl, h2⟩
    have k2 := Lib.hid (below_on k1.out h2)
    clear h2 k1
    go_wp2
    go_ret
    exact ⟨rfl, k2.out⟩
  · have HP := Lib.hid (fun w' hg => rpE_any s w' (by omega) hg)
    have HR := Lib.hid (fun w' hg => rdE_any s w' (by omega) hg)
    have HC := Lib.hid (fun w' => refCheckE_any s 400 w' (by omega) (by omega) (by decide))
    obtain ⟨i0, hi, hz0, hz1, hz2⟩ := info_parts info_u8
    obtain ⟨E, hE⟩ : ∃ E, errR s = E := ⟨_, rfl⟩
    have HE := Lib.hid hE
    clear hE
    go_wp2_with fail
    refine (HP.out _ (Hw.out _ k1.out)).mono ?_
    rintro e w2 ⟨a2, P2, b2, Q2, E2, rfl, hv, h2⟩
    obtain rfl : E2 = E := hv.1.trans HE.out
    have kv := (Below.refl w2.heap.size w2).alloc (Nat.le_refl _) (.cells #[.int .i64 a2, .pointer P2, .int .i64 b2, .pointer Q2] 27)
    have V2 := Lib.hid (box_rat w2 a2 P2 b2 Q2)
    have F2 := Lib.hid (hv.keep kv)
    have k2 := Lib.hid (below_on (below_on k1.out h2) kv)
    obtain ⟨x2, hx2⟩ : ∃ u, w2.alloc (.cells #[.int .i64 a2, .pointer P2, .int .i64 b2, .pointer Q2] 27) = u := ⟨_, rfl⟩
    obtain ⟨p2, hp2⟩ : ∃ p, w2.heap.size = p := ⟨_, rfl⟩
    rw [hx2] at V2 F2 k2 
    rw [hp2] at V2
    clear hv h2 kv
    go_wp2_with fail
    try simp only [hx2, hp2]
    refine (HR.out _ (Hw.out _ k2.out)).mono ?_
    rintro e w3 ⟨a3, P3, b3, Q3, E3, rfl, hv, h2⟩
    obtain rfl : E3 = E2 := hv.1.trans HE.out
    have kv := (Below.refl w3.heap.size w3).alloc (Nat.le_refl _) (.cells #[.int .i64 a3, .pointer P3, .int .i64 b3, .pointer Q3] 27)
    have V3 := Lib.hid (box_rat w3 a3 P3 b3 Q3)
    have F3 := Lib.hid (hv.keep kv)
    have V2 := Lib.hid ((V2.out.keep h2).keep kv)
    have F2 := Lib.hid ((F2.out.keep h2).keep kv)
    have k3 := Lib.hid (below_on (below_on k2.out h2) kv)
    obtain ⟨x3, hx3⟩ : ∃ u, w3.alloc (.cells #[.int .i64 a3, .pointer P3, .int .i64 b3, .pointer Q3] 27) = u := ⟨_, rfl⟩
    obtain ⟨p3, hp3⟩ : ∃ p, w3.heap.size = p := ⟨_, rfl⟩
    rw [hx3] at V3 F3 k3 V2 F2
    rw [hp3] at V3
    clear hv h2 kv
    go_wp2_with (at_make; refine wpList_make_full _ rfl _ _ 32 rfl x3.heap.size 5 i0 (.int .u8 0) 1 Tryz.underlying32 hi hz0 hz1 _ _ _ _ 401 rfl rfl rfl rfl (by rw [hz2]; omega) (by unfold maxLen; omega) (Nat.le_refl _) ?_)
    intro y4 hown hgr
    obtain ⟨zs, hzs, hzl⟩ := zerosR_any 401
    rw [← hzs] at hown
    have cv := fun dst hd => ownR_string hown hzl dst hd (by decide)
    have hsz : (strOfNums zs).size = 401 := by rw [strOfNums_size, hzl]
    have hb := (Below.refl x3.heap.size x3).grown hgr (Nat.le_refl _) (by simp)
    have V2 := Lib.hid (V2.out.keep hb)
    have F2 := Lib.hid (F2.out.keep hb)
    have V3 := Lib.hid (V3.out.keep hb)
    have F3 := Lib.hid (F3.out.keep hb)
    have m4 := Lib.hid (below_on k3.out hb)
    have HL := Lib.hid (fun w => rpL_any (strOfNums zs) w (by rw [hsz]; decide) (by rw [hsz]; decide))
    clear hown hgr hb hzs
    go_wp2_with fail
    refine (HL.out _).mono ?_
    rintro e w4 ⟨a4, P4, b4, Q4, E4, rfl, ⟨rfl, hz⟩, h2⟩
    clear cv hsz hzl
    have kv := (Below.refl w4.heap.size w4).alloc (Nat.le_refl _) (.cells #[.int .i64 a4, .pointer P4, .int .i64 b4, .pointer Q4] 27)
    have V4 := Lib.hid (box_rat w4 a4 P4 b4 Q4)
    have V2 := Lib.hid ((V2.out.keep h2).keep kv)
    have F2 := Lib.hid ((F2.out.keep h2).keep kv)
    have V3 := Lib.hid ((V3.out.keep h2).keep kv)
    have F3 := Lib.hid ((F3.out.keep h2).keep kv)
    have k4 := Lib.hid (below_on (below_on m4.out h2) kv)
    obtain ⟨x4, hx4⟩ : ∃ u, w4.alloc (.cells #[.int .i64 a4, .pointer P4, .int .i64 b4, .pointer Q4] 27) = u := ⟨_, rfl⟩
    obtain ⟨p4, hp4⟩ : ∃ p, w4.heap.size = p := ⟨_, rfl⟩
    rw [hx4] at V4 k4 V2 F2 V3 F3
    rw [hp4] at V4
    clear h2 kv hz
    go_wp2_with (at_make; refine wpList_make_full _ rfl _ _ 32 rfl x4.heap.size 5 i0 (.int .u8 0) 1 Tryz.underlying32 hi hz0 hz1 _ _ _ _ 65537 rfl rfl rfl rfl (by rw [hz2]; omega) (by unfold maxLen; omega) (Nat.le_refl _) ?_)
    intro y5 hown hgr
    obtain ⟨zs, hzs, hzl⟩ := zerosR_any 65537
    rw [← hzs] at hown
    have cv := fun dst hd => ownR_string hown hzl dst hd (by decide)
    have hsz : (strOfNums zs).size = 65537 := by rw [strOfNums_size, hzl]
    have hb := (Below.refl x4.heap.size x4).grown hgr (Nat.le_refl _) (by simp)
    have V2 := Lib.hid (V2.out.keep hb)
    have F2 := Lib.hid (F2.out.keep hb)
    have V3 := Lib.hid (V3.out.keep hb)
    have F3 := Lib.hid (F3.out.keep hb)
    have m5 := Lib.hid (below_on k4.out hb)
    have HL := Lib.hid (fun w => rdL_any (strOfNums zs) w (by rw [hsz]; decide) (by rw [hsz]; decide))
    clear hown hgr hb hzs
    go_wp2_with fail
    refine (HL.out _).mono ?_
    rintro e w5 ⟨a5, P5, b5, Q5, E5, rfl, ⟨rfl, hz⟩, h2⟩
    clear cv hsz hzl
    have kv := (Below.refl w5.heap.size w5).alloc (Nat.le_refl _) (.cells #[.int .i64 a5, .pointer P5, .int .i64 b5, .pointer Q5] 27)
    have V5 := Lib.hid (box_rat w5 a5 P5 b5 Q5)
    have V2 := Lib.hid ((V2.out.keep h2).keep kv)
    have F2 := Lib.hid ((F2.out.keep h2).keep kv)
    have V3 := Lib.hid ((V3.out.keep h2).keep kv)
    have F3 := Lib.hid ((F3.out.keep h2).keep kv)
    have k5 := Lib.hid (below_on (below_on m5.out h2) kv)
    obtain ⟨x5, hx5⟩ : ∃ u, w5.alloc (.cells #[.int .i64 a5, .pointer P5, .int .i64 b5, .pointer Q5] 27) = u := ⟨_, rfl⟩
    obtain ⟨p5, hp5⟩ : ∃ p, w5.heap.size = p := ⟨_, rfl⟩
    rw [hx5] at V5 k5 V2 F2 V3 F3
    rw [hp5] at V5
    clear h2 kv hz
    go_wp2_with fail
    try simp only [hx5, hp5]
    refine (HC.out _).mono ?_
    rintro e w6 ⟨rfl, h2⟩
    rw [show errR s = E3 from HE.out]
    have V2 := Lib.hid (V2.out.keep h2)
    have F2 := Lib.hid (F2.out.keep h2)
    have V3 := Lib.hid (V3.out.keep h2)
    have F3 := Lib.hid (F3.out.keep h2)
    have k6 := Lib.hid (below_on k5.out h2)
    clear h2
    have c0 := V2.out.c0
    have c1 := V2.out.c1
    have c2 := V2.out.c2
    have c3 := V2.out.c3
    by_cases h0 : E3 = 0
    · subst h0
      obtain ⟨q, hq, hq1, hq2, hq3⟩ := F2.out.2.1 rfl
      obtain ⟨r, hr, hr1, hr2, hr3⟩ := F3.out.2.1 rfl
      have HI := Lib.hid (is_true a2 P2 b2 Q2 q s w6 hq (lt3000 hq2) (lt3000 hq3) hq1 (Hw.out _ k6.out))
      have HR := Lib.hid hr
      clear hq hr
      go_wp2_with fail
      refine HI.out.mono ?_
      rintro e w7 ⟨rfl, h2⟩
      have V3 := Lib.hid (V3.out.keep h2)
      have k7 := Lib.hid (below_on k6.out h2)
      have HI := Lib.hid (is_true a3 P3 b3 Q3 r s w7 (HR.out.keep h2) (lt3000 hr2) (lt3000 hr3) hr1 (Hw.out _ k7.out))
      clear c0 c1 c2 c3 h2
      have c0 := V3.out.c0
      have c1 := V3.out.c1
      have c2 := V3.out.c2
      have c3 := V3.out.c3
      go_wp2_with fail
      refine HI.out.mono ?_
      rintro e w8 ⟨rfl, h2⟩
      have k8 := Lib.hid (below_on k7.out h2)
      clear h2
      go_wp2
      go_ret
      exact ⟨rfl, k8.out⟩
    · obtain ⟨rfl, rfl, rfl, rfl⟩ := F2.out.2.2 h0
      obtain ⟨rfl, rfl, rfl, rfl⟩ := F3.out.2.2 h0
      have t1 : (E3 == 0) = false := by rw [beq_eq_false_iff_ne]; exact h0
      have HI := Lib.hid (fun w hg => is_true 0 none 0 none 0 ⟨#[48]⟩ w ⟨small_int ⟨by decide, by decide⟩, small_int ⟨by decide, by decide⟩⟩ (by decide +kernel) (by decide +kernel) (by decide +kernel) hg)
      go_wp2_with fail
      refine (HI.out _ (Hw.out _ k6.out)).mono ?_
      rintro e w7 ⟨rfl, h2⟩
      have V3 := Lib.hid (V3.out.keep h2)
      have k7 := Lib.hid (below_on k6.out h2)
      clear c0 c1 c2 c3 h2
      have c0 := V3.out.c0
      have c1 := V3.out.c1
      have c2 := V3.out.c2
      have c3 := V3.out.c3
      go_wp2_with fail
      refine (HI.out _ (Hw.out _ k7.out)).mono ?_
      rintro e w8 ⟨rfl, h2⟩
      have k8 := Lib.hid (below_on k7.out h2)
      clear h2
      go_wp2
      go_ret
      exact ⟨rfl, k8.out⟩
end Go.Proofs.YtjcblcikipmojaaGreatDoor
