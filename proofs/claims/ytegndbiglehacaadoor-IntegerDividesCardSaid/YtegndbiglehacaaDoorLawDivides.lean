/- The law IntegerDivides: its walk. -/
import Derived.Test.YtegndbiglehacaaDoorLaw
import Derived.Test.YtegndbiglehacaaDoorDivW
import Derived.Test.YtegndbiglehacaaDoorRefA
namespace Go.Proofs.YtegndbiglehacaaDoor
open Go.RowKit

theorem zOf_lt {s : ByteArray} (h : okT s = true) : (zOf s).natAbs < base 7 := by
  obtain ⟨h1, h2⟩ := okT_true h
  have e := txt_zOf h2
  have hl := @digN_sz (zOf s)
  rw [e] at hl
  refine Nat.lt_of_lt_of_le (digN_lt _) (Nat.le_trans (ten_le (show _ ≤ 120 by omega)) ?_)
  decide +kernel
set_option maxRecDepth 100000 in
set_option maxHeartbeats 8000000 in
theorem integerDivides_walk (s t : ByteArray) (w : World) (hs : s.size ≤ 9223372036854775807) (ht : t.size ≤ 9223372036854775807) (hw : Good w) :
    Calls Tryd.prog 8 #[.string s, .string t] w fun e w' => e = .returned (.bool true) ∧ Below w.heap.size w w' := by
  have Hw := Lib.hid (fun w' (h : Below w.heap.size w w') => hw.below h)
  have Hk := Lib.hid (known_true w hw)
  have Hrs := Lib.hid (fun w => right_any s w hs)
  obtain ⟨bs, hbs⟩ : ∃ b, okT s = b := ⟨_, rfl⟩
  rw [hbs] at Hrs
  have Hbs := Lib.hid hbs
  have Hrt := Lib.hid (fun w => right_any t w ht)
  obtain ⟨bt, hbt⟩ : ∃ b, okT t = b := ⟨_, rfl⟩
  rw [hbt] at Hrt
  have Hbt := Lib.hid hbt
  clear hw hbs hbt
  go_enter Tryd.func8, Tryd.ntmps8
  go_wp2_with fail
  refine Hk.out.mono ?_
  rintro e w1 ⟨rfl, h1⟩
  have k1 := Lib.hid h1
  have Hk2 := Lib.hid (known_true w1 (Hw.out _ h1))
  clear h1
  go_wp2_with fail
  refine (Hrs.out _).mono ?_
  rintro e w2 ⟨rfl, rfl⟩
  cases bs with
  | false =>
    go_wp2_with fail
    refine Hk2.out.mono ?_
    rintro e w2 ⟨rfl, h2⟩
    have k2 := Lib.hid (below_on k1.out h2)
    clear h2
    go_wp2
    go_ret
    exact ⟨rfl, k2.out⟩
  | true =>
    go_wp2_with fail
    refine (Hrt.out _).mono ?_
    rintro e w2 ⟨rfl, rfl⟩
    cases bt with
    | false =>
      go_wp2_with fail
      refine Hk2.out.mono ?_
      rintro e w2 ⟨rfl, h2⟩
      have k2 := Lib.hid (below_on k1.out h2)
      clear h2
      go_wp2
      go_ret
      exact ⟨rfl, k2.out⟩
    | true =>
      have Hs := okT_true Hbs.out
      have Ls := Lib.hid (zOf_lt Hbs.out)
      have Es := Lib.hid (txt_zOf Hs.2)
      have Hreads := Lib.hid (fun w => read_any s w Hs.1 Hs.2)
      have Ht := okT_true Hbt.out
      have Lt := Lib.hid (zOf_lt Hbt.out)
      have Et := Lib.hid (txt_zOf Ht.2)
      have Hreadt := Lib.hid (fun w => read_any t w Ht.1 Ht.2)
      obtain ⟨z, hz⟩ : ∃ z, zOf s = z := ⟨_, rfl⟩
      rw [hz] at Ls Es Hreads
      obtain ⟨k, hk⟩ : ∃ k, zOf t = k := ⟨_, rfl⟩
      rw [hk] at Lt Et Hreadt
      clear hz hk Hs Ht
      go_wp2_with fail
      refine (Hreads.out _).mono ?_
      rintro e v0 ⟨a0, P0, rfl, hi0, h0⟩
      have V0 := Lib.hid (Var.new hi0)
      have K0 := Lib.hid (below_var (below_on k1.out h0) (.cells #[.int .i64 a0, .pointer P0] 25))
      clear h0 hi0
      go_wp2_with fail
      refine (Hreadt.out _).mono ?_
      rintro e v1 ⟨a1, P1, rfl, hi1, h1⟩
      have V1 := Lib.hid (Var.new hi1)
      have K1 := Lib.hid (below_var (below_on K0.out h1) (.cells #[.int .i64 a1, .pointer P1] 25))
      have V0 := Lib.hid ((V0.out.keep h1).keep ((Below.refl v1.heap.size v1).alloc (Nat.le_refl _) (.cells #[.int .i64 a1, .pointer P1] 25)))
      clear h1 hi1
      obtain ⟨p0, hp0⟩ : ∃ p, v0.heap.size = p := ⟨_, rfl⟩
      obtain ⟨p1, hp1⟩ : ∃ p, v1.heap.size = p := ⟨_, rfl⟩
      obtain ⟨wm, hm⟩ : ∃ wm, v1.alloc (.cells #[.int .i64 a1, .pointer P1] 25) = wm := ⟨_, rfl⟩
      rw [hm, hp0] at V0
      rw [hm, hp1] at V1
      rw [hm] at K1
      have c00 := V0.out.c0
      have c01 := V0.out.c1
      have c10 := V1.out.c0
      have c11 := V1.out.c1
      by_cases hk0 : k = 0
      · subst hk0
        obtain ⟨rfl, rfl⟩ : a1 = 0 ∧ P1 = none := by
          rcases V1.out.int.ways with ⟨_, e⟩ | ⟨h0, _⟩
          · exact small_eq e
          · exact absurd ⟨by decide, by decide⟩ h0
        have ht : t = ⟨#[48]⟩ := by rw [← Et.out, txt_zero]
        subst ht
        subst hm
        have HD := Lib.hid (divmod_zero a0 P0 z _ V0.out.int)
        have HT := Lib.hid (fun w' (hg : Good w') => show Calls Tryd.prog 17 #[small 0] w' (fun e w2 => e = .returned (.string ⟨#[48]⟩) ∧ Below w'.heap.size w' w2) by
          have := textZ_any (B := 0) (small 0) 0 w' (.inl ⟨⟨by decide, by decide⟩, rfl⟩) hg.1
          rw [show textOf (decide ((0 : Int) < 0)) (digN (0 : Int).natAbs) = ⟨#[48]⟩ from txt_zero] at this
          exact this)
        go_wp2_with fail
        try simp only [hp0, hp1]
        refine HD.out.mono ?_
        rintro e n1 ⟨rfl, g1⟩
        have J1 := Lib.hid (below_var (below_var (below_on K1.out g1) (.cells #[.int .i64 0, .pointer none] 25)) (.cells #[.int .i64 0, .pointer none] 25))
        clear g1 c00 c01 c10 c11
        go_wp2_with fail
        refine (HT.out _ (Hw.out _ J1.out)).mono ?_
        rintro e m1 ⟨rfl, g1⟩
        have J2 := Lib.hid (below_on J1.out g1)
        have v0 := (g1.cell (p := ⟨n1.heap.size + 1, 0, none⟩) (by simp)).trans (show _ = some (.int .i64 0) by simp [go_sem])
        have v1 := (g1.cell (p := ⟨n1.heap.size + 1, 1, none⟩) (by simp)).trans (show _ = some (.pointer none) by simp [go_sem])
        clear g1
        go_wp2_with fail
        refine (HT.out _ (Hw.out _ J2.out)).mono ?_
        rintro e m2 ⟨rfl, g1⟩
        have J3 := Lib.hid (below_on J2.out g1)
        clear g1
        go_wp2
        go_ret
        exact ⟨rfl, J3.out⟩
      · have hn0 : (t.toList == [48]) = false := by rw [← Et.out]; exact txt_not0 hk0
        have HD := Lib.hid (divmod_any a0 a1 P0 P1 z k wm V0.out.int V1.out.int hk0 (Nat.lt_of_lt_of_le Ls.out (base_le (by decide))) (Nat.lt_of_lt_of_le Lt.out (base_le (by decide))))
        have Hrd := Lib.hid (fun w => refDivMod_any z k w (by rw [Es.out]; have := (okT_true Hbs.out).1; omega) (by rw [Et.out]; have := (okT_true Hbt.out).1; omega) hk0)
        rw [Es.out, Et.out] at Hrd
        have HT := Lib.hid (fun w' x X y (hg : Good w') (hi : IsInt 0 w' (.agg #[.int .i64 x, .pointer X]) y) => show Calls Tryd.prog 17 _ w' (fun e w2 => e = .returned (.string (txt y)) ∧ Below w'.heap.size w' w2) from textZ_any _ y w' hi hg.1)
        go_wp2_with fail
        try simp only [hp0, hp1, hm]
        refine HD.out.mono ?_
        rintro e n1 ⟨qa, qP, ra, rP, q, r, rfl, hi, hj, hdm, g1⟩
        have k1 := (Below.refl n1.heap.size n1).alloc (Nat.le_refl _) (.cells #[.int .i64 qa, .pointer qP] 25)
        have U0 := Lib.hid ((Var.new hi).grow (.cells #[.int .i64 ra, .pointer rP] 25))
        have U1 := Lib.hid (Var.new (hj.keep k1))
        have J1 := Lib.hid (below_var (below_var (below_on K1.out g1) (.cells #[.int .i64 qa, .pointer qP] 25)) (.cells #[.int .i64 ra, .pointer rP] 25))
        simp only [World.size_alloc] at U1
        have Hdm := Lib.hid hdm
        clear g1 hi hj hdm k1 c00 c01 c10 c11
        go_wp2_with fail
        refine (Hrd.out _).mono ?_
        rintro e m1 ⟨⟨q', r', rfl, hdm⟩, g1⟩
        obtain ⟨rfl, rfl⟩ := dm_unique Hdm.out hdm
        have J2 := Lib.hid (below_on J1.out g1)
        have U0' := Lib.hid (U0.out.keep g1)
        have U1' := Lib.hid (U1.out.keep g1)
        have HT0 := Lib.hid (HT.out m1 qa qP q (Hw.out _ J2.out) U0'.out.int)
        have HT1 := Lib.hid (fun w' (hb : Below m1.heap.size m1 w') => HT.out w' ra rP r (Hw.out _ (below_on J2.out hb)) (U1'.out.keep hb).int)
        obtain ⟨R0, hR0⟩ : ∃ R, txt q = R := ⟨_, rfl⟩
        obtain ⟨R1, hR1⟩ : ∃ R, txt r = R := ⟨_, rfl⟩
        rw [hR0] at HT0 ⊢
        rw [hR1] at HT1 ⊢
        have d00 := U0'.out.c0
        have d01 := U0'.out.c1
        clear g1 hdm hR0 hR1
        go_wp2_with fail
        refine HT0.out.mono ?_
        rintro e m2 ⟨rfl, g1⟩
        have J3 := Lib.hid (below_on J2.out g1)
        have d10 := (U1'.out.keep g1).c0
        have d11 := (U1'.out.keep g1).c1
        have HT1' := Lib.hid (HT1.out _ g1)
        clear g1 d00 d01
        go_wp2_with fail
        refine HT1'.out.mono ?_
        rintro e m3 ⟨rfl, g1⟩
        have J4 := Lib.hid (below_on J3.out g1)
        clear g1
        go_wp2
        go_ret
        exact ⟨by simp, J4.out⟩
end Go.Proofs.YtegndbiglehacaaDoor
