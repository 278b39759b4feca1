/- The law RationalMakes: its walk. -/
import Derived.Test.YtjcblcikipmojaaDoorRatH
import Derived.Test.YtjcblcikipmojaaDoorRatI
namespace Go.Proofs.YtjcblcikipmojaaDoor
open Go.RowKit

theorem parse_ok (s : ByteArray) (w : World) (hs : s.size ≤ 900) (h0 : errOf s = 0) :
    Calls Tryd.prog 15 #[.string s] w fun e w' => ∃ a P, e = .returned (.tuple #[.agg #[.int .i64 a, .pointer P], .int .i64 0]) ∧ IsInt 0 w' (.agg #[.int .i64 a, .pointer P]) (zOf s) ∧ Below w.heap.size w w' := by
  refine (parse_any s w hs).mono ?_
  rintro e w' ⟨v, rfl, h1, _, h2⟩
  obtain ⟨a, P, rfl⟩ := (h1 h0).form
  exact ⟨a, P, by rw [h0], (h1 h0).mono (Nat.zero_le _), h2⟩
theorem zOf_ten {s : ByteArray} (h : s.size ≤ 40) (h0 : errOf s = 0) : (zOf s).natAbs < ten 40 := by
  have e := txt_zOf h0
  have hl := @digN_sz (zOf s)
  rw [e] at hl
  exact Nat.lt_of_lt_of_le (digN_lt _) (ten_le (by omega))
theorem rat_bounds {z k : Int} (hz : z.natAbs < ten 40) (hk : k.natAbs < ten 40) (hk0 : k ≠ 0) : (Rat.divInt z k).num.natAbs < ten 40 ∧ (Rat.divInt z k).den < ten 40 := by
  rcases Int.lt_or_gt_of_ne hk0 with hn | hp
  · have e2 : Rat.divInt z k = Rat.divInt (-z) (k.natAbs : Nat) := by rw [← rat_neg]; congr 1; omega
    obtain ⟨h1, h2⟩ := rat_make (n := -z) (k := k.natAbs) (by omega)
    rw [e2, h1, h2]
    refine ⟨?_, Nat.lt_of_le_of_lt (Nat.div_le_self _ _) hk⟩
    have h3 := Int.natAbs_ediv_le_natAbs (-z) ((Nat.gcd (-z).natAbs k.natAbs : Nat) : Int)
    rw [Int.natAbs_neg] at h3
    exact Nat.lt_of_le_of_lt (by rw [Int.natAbs_neg]; exact h3) hz
  · have e2 : Rat.divInt z k = Rat.divInt z (k.natAbs : Nat) := by congr 1; omega
    obtain ⟨h1, h2⟩ := rat_make (n := z) (k := k.natAbs) (by omega)
    rw [e2, h1, h2]
    exact ⟨Nat.lt_of_le_of_lt (Int.natAbs_ediv_le_natAbs _ _) hz, Nat.lt_of_le_of_lt (Nat.div_le_self _ _) hk⟩
theorem rat_zero (w : World) : RatV w 0 none 0 none 0 := ⟨small_int ⟨by decide, by decide⟩, small_int ⟨by decide, by decide⟩⟩
set_option maxRecDepth 100000 in
set_option maxHeartbeats 8000000 in
theorem rationalMakes_walk (s t : ByteArray) (w : World) (hs : s.size ≤ 9223372036854775807) (ht : t.size ≤ 9223372036854775807) (hw : Good w) :
    Calls Tryd.prog 4 #[.string s, .string t] w fun e w' => e = .returned (.bool true) ∧ Below w.heap.size w w' := by
  have Hw := Lib.hid (fun w' (h : Below w.heap.size w w') => hw.below h)
  have Hk := Lib.hid (known2_true w hw)
  clear hw
  go_enter Tryd.func4, Tryd.ntmps4
  go_wp2_with fail
  refine Hk.out.mono ?_
  rintro e w1 ⟨rfl, h1⟩
  have k1 := Lib.hid h1
  have Hk2 := Lib.hid (known2_true w1 (Hw.out _ h1))
  clear h1
  rcases Nat.lt_or_ge 40 s.size with hs40 | hs40
  · go_wp2_with fail
    refine Hk2.out.mono ?_
    rintro e w2 ⟨rfl, h2⟩
    have k2 := Lib.hid (below_on k1.out h2)
    clear h2
    go_wp2
    go_ret
    exact ⟨rfl, k2.out⟩
  rcases Nat.lt_or_ge 40 t.size with ht40 | ht40
  · go_wp2_with fail
    refine Hk2.out.mono ?_
    rintro e w2 ⟨rfl, h2⟩
    have k2 := Lib.hid (below_on k1.out h2)
    clear h2
    go_wp2
    go_ret
    exact ⟨rfl, k2.out⟩
  have HCs := Lib.hid (fun w => refCheck_any s w (by omega))
  have HCt := Lib.hid (fun w => refCheck_any t w (by omega))
  obtain ⟨E, hE⟩ : ∃ E, errOf s = E := ⟨_, rfl⟩
  obtain ⟨G, hG⟩ : ∃ E, errOf t = E := ⟨_, rfl⟩
  rw [hE] at HCs
  rw [hG] at HCt
  have HE := Lib.hid hE
  have HG := Lib.hid hG
  clear hE hG
  by_cases hE0 : E = 0
  case neg =>
    have t0 : (E == 0) = false := by rw [beq_eq_false_iff_ne]; exact hE0
    have t1 : (E != 0) = true := by rw [bne, t0]; rfl
    go_wp2_with fail
    refine (HCs.out _).mono ?_
    rintro e w2 ⟨rfl, rfl⟩
    go_wp2_with fail
    refine Hk2.out.mono ?_
    rintro e w2 ⟨rfl, h2⟩
    have k2 := Lib.hid (below_on k1.out h2)
    clear h2
    go_wp2
    go_ret
    exact ⟨rfl, k2.out⟩
  subst hE0
  by_cases hG0 : G = 0
  case neg =>
    have t0 : (G == 0) = false := by rw [beq_eq_false_iff_ne]; exact hG0
    have t1 : (G != 0) = true := by rw [bne, t0]; rfl
    go_wp2_with fail
    refine (HCs.out _).mono ?_
    rintro e w2 ⟨rfl, rfl⟩
    go_wp2_with fail
    refine (HCt.out _).mono ?_
    rintro e w2 ⟨rfl, rfl⟩
    go_wp2_with fail
    refine Hk2.out.mono ?_
    rintro e w2 ⟨rfl, h2⟩
    have k2 := Lib.hid (below_on k1.out h2)
    clear h2
    go_wp2
    go_ret
    exact ⟨rfl, k2.out⟩
  subst hG0
  go_wp2_with fail
  refine (HCs.out _).mono ?_
  rintro e w2 ⟨rfl, rfl⟩
  go_wp2_with fail
  refine (HCt.out _).mono ?_
  rintro e w2 ⟨rfl, rfl⟩
  have Es := Lib.hid (txt_zOf HE.out)
  have Et := Lib.hid (txt_zOf HG.out)
  have Lz := Lib.hid (zOf_ten hs40 HE.out)
  have Lk := Lib.hid (zOf_ten ht40 HG.out)
  have HPs := Lib.hid (fun w => parse_ok s w (by omega) HE.out)
  have HPt := Lib.hid (fun w => parse_ok t w (by omega) HG.out)
  obtain ⟨z, hz⟩ : ∃ z, zOf s = z := ⟨_, rfl⟩
  obtain ⟨k, hk⟩ : ∃ k, zOf t = k := ⟨_, rfl⟩
  rw [hz] at Es Lz HPs
  rw [hk] at Et Lk HPt
  clear hz hk
  go_wp2_with fail
  refine (HPs.out _).mono ?_
  rintro e v0 ⟨a0, P0, rfl, hi0, h0⟩
  have V0 := Lib.hid (Var.new hi0)
  have K0 := Lib.hid (below_var (below_on k1.out h0) (.cells #[.int .i64 a0, .pointer P0] 26))
  clear h0 hi0
  go_wp2_with fail
  refine (HPt.out _).mono ?_
  rintro e v1 ⟨a1, P1, rfl, hi1, h1⟩
  have V1 := Lib.hid (Var.new hi1)
  have K1 := Lib.hid (below_var (below_on K0.out h1) (.cells #[.int .i64 a1, .pointer P1] 26))
  have V0 := Lib.hid ((V0.out.keep h1).keep ((Below.refl v1.heap.size v1).alloc (Nat.le_refl _) (.cells #[.int .i64 a1, .pointer P1] 26)))
  clear h1 hi1
  obtain ⟨p0, hp0⟩ : ∃ p, v0.heap.size = p := ⟨_, rfl⟩
  obtain ⟨p1, hp1⟩ : ∃ p, v1.heap.size = p := ⟨_, rfl⟩
  obtain ⟨wm, hm⟩ : ∃ wm, v1.alloc (.cells #[.int .i64 a1, .pointer P1] 26) = wm := ⟨_, rfl⟩
  rw [hm, hp0] at V0
  rw [hm, hp1] at V1
  rw [hm] at K1
  have c00 := V0.out.c0
  have c01 := V0.out.c1
  have c10 := V1.out.c0
  have c11 := V1.out.c1
  by_cases hk0 : k = 0
  · subst hk0
    have ht0 : t = ⟨#[48]⟩ := by rw [← Et.out, txt_zero]
    have HM := Lib.hid (make_zero a0 P0 a1 P1 wm V1.out.int)
    go_wp2_with fail
    try simp only [hp0, hp1, hm]
    refine HM.out.mono ?_
    rintro e n1 ⟨rfl, g1⟩
    have kv := (Below.refl n1.heap.size n1).alloc (Nat.le_refl _) (.cells #[.int .i64 0, .pointer none, .int .i64 0, .pointer none] 41)
    have J1 := Lib.hid (below_on (below_on K1.out g1) kv)
    have HI := Lib.hid (is_true 0 none 0 none 0 ⟨#[48]⟩ _ (rat_zero (n1.alloc (.cells #[.int .i64 0, .pointer none, .int .i64 0, .pointer none] 41))) (by decide +kernel) (by decide +kernel) (by decide +kernel) (Hw.out _ J1.out))
    clear g1 kv c00 c01 c10 c11 hp0 hp1 hm
    subst ht0
    go_wp2_with fail
    refine HI.out.mono ?_
    rintro e n2 ⟨rfl, g2⟩
    have J2 := Lib.hid (below_on J1.out g2)
    clear g2
    go_wp2
    go_ret
    exact ⟨rfl, J2.out⟩
  · have hn0 : (t.toList == [48]) = false := by rw [← Et.out]; exact txt_not0 hk0
    have b40 : ten 40 ≤ base 390 := by decide +kernel
    have HM := Lib.hid (make_any a0 P0 a1 P1 z k wm V0.out.int V1.out.int hk0 (Nat.lt_of_lt_of_le Lz.out b40) (Nat.lt_of_lt_of_le Lk.out b40) (Hw.out _ K1.out))
    have HX := Lib.hid (fun w => refRat_any z k w (Nat.lt_of_lt_of_le Lz.out (ten_le (by decide))) (Nat.lt_of_lt_of_le Lk.out (ten_le (by decide))) hk0)
    rw [Es.out, Et.out] at HX
    obtain ⟨hb1, hb2⟩ := rat_bounds Lz.out Lk.out hk0
    obtain ⟨q, hq⟩ : ∃ q, Rat.divInt z k = q := ⟨_, rfl⟩
    rw [hq] at HM HX hb1 hb2
    have B1 := Lib.hid (Nat.lt_of_lt_of_le hb1 (ten_le (show 40 ≤ 3000 by decide)))
    have B2 := Lib.hid (Nat.lt_of_lt_of_le hb2 (ten_le (show 40 ≤ 3000 by decide)))
    have HPa := Lib.hid (fun w => refParts_any q w (by have := txt_size q.num hb1 (by decide); omega) (by have := txt_size (q.den : Int) (k := 40) (by rw [Int.natAbs_natCast]; exact hb2) (by decide); omega))
    obtain ⟨X, hX⟩ : ∃ X, ratTxt q = X := ⟨_, rfl⟩
    obtain ⟨T, hT⟩ : ∃ T, txt q.num = T := ⟨_, rfl⟩
    obtain ⟨U, hU⟩ : ∃ U, txt (q.den : Int) = U := ⟨_, rfl⟩
    rw [hX] at HX HPa
    rw [hT, hU] at HPa
    have HXq := Lib.hid hX
    have HTq := Lib.hid hT
    have HUq := Lib.hid hU
    clear hq hb1 hb2 hX hT hU b40 hk0
    go_wp2_with fail
    try simp only [hp0, hp1, hm]
    refine HM.out.mono ?_
    rintro e n1 ⟨ca, cP, cb, cQ, rfl, hv, g1⟩
    have kv := (Below.refl n1.heap.size n1).alloc (Nat.le_refl _) (.cells #[.int .i64 ca, .pointer cP, .int .i64 cb, .pointer cQ] 41)
    have V := Lib.hid (VarR.new hv)
    have J1 := Lib.hid (below_on (below_on K1.out g1) kv)
    obtain ⟨pc, hpc⟩ : ∃ p, n1.heap.size = p := ⟨_, rfl⟩
    obtain ⟨wn, hwn⟩ : ∃ u, n1.alloc (.cells #[.int .i64 ca, .pointer cP, .int .i64 cb, .pointer cQ] 41) = u := ⟨_, rfl⟩
    rw [hwn] at J1 V
    rw [hpc] at V
    clear g1 hv kv c00 c01 c10 c11 hp0 hp1 hm
    go_wp2_with fail
    try simp only [hpc, hwn]
    clear hpc hwn
    refine (HX.out _).mono ?_
    rintro e n2 ⟨rfl, g2⟩
    have V := Lib.hid (V.out.keep g2)
    have J2 := Lib.hid (below_on J1.out g2)
    clear g2
    go_wp2_with fail
    refine (HPa.out _).mono ?_
    rintro e n3 ⟨rfl, g3⟩
    have V := Lib.hid (V.out.keep g3)
    have J3 := Lib.hid (below_on J2.out g3)
    clear g3
    have HI := Lib.hid (is_true ca cP cb cQ q X _ V.out.rat B1.out B2.out HXq.out (Hw.out _ J3.out))
    have c0 := V.out.cells.c0
    have c1 := V.out.cells.c1
    have c2 := V.out.cells.c2
    have c3 := V.out.cells.c3
    go_wp2_with fail
    refine HI.out.mono ?_
    rintro e n4 ⟨rfl, g4⟩
    have V := Lib.hid (V.out.keep g4)
    have J4 := Lib.hid (below_on J3.out g4)
    have HN := Lib.hid (num_any ca cP cb cQ q _ V.out.rat)
    clear g4 c0 c1 c2 c3
    have c0 := V.out.cells.c0
    have c1 := V.out.cells.c1
    have c2 := V.out.cells.c2
    have c3 := V.out.cells.c3
    go_wp2_with fail
    refine HN.out.mono ?_
    rintro e n5 ⟨xa, xP, rfl, hx, g5⟩
    have V := Lib.hid (V.out.keep g5)
    have J5 := Lib.hid (below_on J4.out g5)
    have HT := Lib.hid (show Calls Tryd.prog 9 _ n5 (fun e w2 => e = .returned (.string (txt q.num)) ∧ Below n5.heap.size n5 w2) from textZ_any _ q.num n5 hx (Hw.out _ J5.out).1)
    rw [HTq.out] at HT
    clear g5 hx c0 c1 c2 c3
    go_wp2_with fail
    refine HT.out.mono ?_
    rintro e n6 ⟨rfl, g6⟩
    have V := Lib.hid (V.out.keep g6)
    have J6 := Lib.hid (below_on J5.out g6)
    have HD := Lib.hid (den_any ca cP cb cQ q _ V.out.rat)
    clear g6
    have c0 := V.out.cells.c0
    have c1 := V.out.cells.c1
    have c2 := V.out.cells.c2
    have c3 := V.out.cells.c3
    go_wp2_with fail
    refine HD.out.mono ?_
    rintro e n7 ⟨ya, yP, rfl, hy, g7⟩
    have J7 := Lib.hid (below_on J6.out g7)
    have HU := Lib.hid (show Calls Tryd.prog 9 _ n7 (fun e w2 => e = .returned (.string (txt (q.den : Int))) ∧ Below n7.heap.size n7 w2) from textZ_any _ (q.den : Int) n7 hy (Hw.out _ J7.out).1)
    rw [HUq.out] at HU
    clear g7 hy c0 c1 c2 c3
    go_wp2_with fail
    refine HU.out.mono ?_
    rintro e n8 ⟨rfl, g8⟩
    have J8 := Lib.hid (below_on J7.out g8)
    clear g8
    go_wp2
    go_ret
    exact ⟨by simp, J8.out⟩
end Go.Proofs.YtjcblcikipmojaaDoor
