/- The law IntegerMuls: its walk. -/
import Derived.Test.YtegndbiglehacaaDoorLaw
import Derived.Test.YtegndbiglehacaaDoorMulZ
import Derived.Test.YtegndbiglehacaaDoorRef8
namespace Go.Proofs.YtegndbiglehacaaDoor
open Go.RowKit

theorem digN_size' {z : Int} : (digN z.natAbs).length ≤ (txt z).size := by
  by_cases h0 : z = 0
  · subst h0; rw [show (0 : Int).natAbs = 0 from rfl, digN_zero]; exact Nat.zero_le _
  · rw [txt_ne h0, strOfNums_size, List.length_append, List.length_map, List.length_reverse]
    omega
theorem zOf_ten {s : ByteArray} (h : okT s = true) : (zOf s).natAbs < ten 120 := by
  obtain ⟨h1, h2⟩ := okT_true h
  have e := txt_zOf h2
  have hl := @digN_size' (zOf s)
  rw [e] at hl
  exact Nat.lt_of_lt_of_le (digN_lt _) (ten_le (show _ ≤ 120 by omega))
theorem zOf_lt {s : ByteArray} (h : okT s = true) : (zOf s).natAbs < base 7 :=
  Nat.lt_of_lt_of_le (zOf_ten h) (by decide +kernel)
theorem base_mono {a b m : Nat} (h : m < base a) (hab : a ≤ b) : m < base b := Nat.lt_of_lt_of_le h (base_le hab)

set_option maxRecDepth 100000 in
set_option maxHeartbeats 8000000 in
theorem integerMuls_walk (s t : ByteArray) (w : World) (hs : s.size ≤ 9223372036854775807) (ht : t.size ≤ 9223372036854775807) (hw : Good w) :
    Calls Tryd.prog 7 #[.string s, .string t] w fun e w' => e = .returned (.bool true) ∧ Below w.heap.size w w' := by
  have Hw := Lib.hid (fun w' (h : Below w.heap.size w w') => hw.below h)
  have Hk := Lib.hid (known_true w hw)
  have Hrs := Lib.hid (fun w => right_any s w hs)
  obtain ⟨bs, hbs⟩ : ∃ b, okT s = b := ⟨_, rfl⟩
  rw [hbs] at Hrs
  have Hbs := Lib.hid hbs
  have Hrt := Lib.hid (fun w => right_any t w ht)
  obtain ⟨bt, hbt⟩ : ∃ b, okT t = b := ⟨_, rfl⟩
  rw [hbt] at Hrt
  have Hbt := Lib.hid hbt
  clear hw hbs hbt
  go_enter Tryd.func7, Tryd.ntmps7
  go_wp2_with fail
  refine Hk.out.mono ?_
  rintro e w1 ⟨rfl, h1⟩
  have k1 := Lib.hid h1
  have Hk2 := Lib.hid (known_true w1 (Hw.out _ h1))
  clear h1
  go_wp2_with fail
  refine (Hrs.out _).mono ?_
  rintro e w2 ⟨rfl, rfl⟩
  cases bs with
  | false =>
    go_wp2_with fail
    refine Hk2.out.mono ?_
    rintro e w2 ⟨rfl, h2⟩
    have k2 := Lib.hid (below_on k1.out h2)
    clear h2
    go_wp2
    go_ret
    exact ⟨rfl, k2.out⟩
  | true =>
    go_wp2_with fail
    refine (Hrt.out _).mono ?_
    rintro e w2 ⟨rfl, rfl⟩
    cases bt with
    | false =>
      go_wp2_with fail
      refine Hk2.out.mono ?_
      rintro e w2 ⟨rfl, h2⟩
      have k2 := Lib.hid (below_on k1.out h2)
      clear h2
      go_wp2
      go_ret
      exact ⟨rfl, k2.out⟩
    | true =>
      have Hs := okT_true Hbs.out
      have Ls := Lib.hid (zOf_lt Hbs.out)
      have Es := Lib.hid (txt_zOf Hs.2)
      have Hreads := Lib.hid (fun w => read_any s w Hs.1 Hs.2)
      have Ht := okT_true Hbt.out
      have Lt := Lib.hid (zOf_lt Hbt.out)
      have Et := Lib.hid (txt_zOf Ht.2)
      have Hreadt := Lib.hid (fun w => read_any t w Ht.1 Ht.2)
      have Hrm := Lib.hid (fun w => refMul_any (zOf s) (zOf t) w (by rw [Es.out]; omega) (by rw [Et.out]; omega))
      rw [Es.out, Et.out] at Hrm
      obtain ⟨z, hz⟩ : ∃ z, zOf s = z := ⟨_, rfl⟩
      rw [hz] at Ls Es Hreads Hrm
      obtain ⟨k, hk⟩ : ∃ k, zOf t = k := ⟨_, rfl⟩
      rw [hk] at Lt Et Hreadt Hrm
      clear hz hk Hs Ht
      go_wp2_with fail
      refine (Hreads.out _).mono ?_
      rintro e v0 ⟨a0, P0, rfl, hi0, h0⟩
      have V0 := Lib.hid (Var.new hi0)
      have K0 := Lib.hid (below_var (below_on k1.out h0) (.cells #[.int .i64 a0, .pointer P0] 25))
      clear h0 hi0
      go_wp2_with fail
      refine (Hreadt.out _).mono ?_
      rintro e v1 ⟨a1, P1, rfl, hi1, h1⟩
      have V1 := Lib.hid (Var.new hi1)
      have K1 := Lib.hid (below_var (below_on K0.out h1) (.cells #[.int .i64 a1, .pointer P1] 25))
      have V0 := Lib.hid ((V0.out.keep h1).keep ((Below.refl v1.heap.size v1).alloc (Nat.le_refl _) (.cells #[.int .i64 a1, .pointer P1] 25)))
      clear h1 hi1
      obtain ⟨p0, hp0⟩ : ∃ p, v0.heap.size = p := ⟨_, rfl⟩
      obtain ⟨p1, hp1⟩ : ∃ p, v1.heap.size = p := ⟨_, rfl⟩
      obtain ⟨wm, hm⟩ : ∃ wm, v1.alloc (.cells #[.int .i64 a1, .pointer P1] 25) = wm := ⟨_, rfl⟩
      rw [hm, hp0] at V0
      rw [hm, hp1] at V1
      rw [hm] at K1
      have HT := Lib.hid (fun w' x X y (h : Below wm.heap.size wm w') (hi : IsInt 0 w' (.agg #[.int .i64 x, .pointer X]) y) => textZ_any _ y w' hi (Hw.out _ (below_on K1.out h)).1)
      have HA := Lib.hid (mul_any a0 a1 P0 P1 z k wm V0.out.int V1.out.int (base_mono Ls.out (by decide)) (base_mono Lt.out (by decide)) (.inl (base_mono Ls.out (by decide))))
      have HB := Lib.hid (fun w' (h : Below wm.heap.size wm w') => (mul_any a1 a0 P1 P0 k z w' (V1.out.keep h).int (V0.out.keep h).int (base_mono Lt.out (by decide)) (base_mono Ls.out (by decide)) (.inl (base_mono Lt.out (by decide)))).mono (fun e w2 q => q.cast (Int.mul_comm k z)))
      obtain ⟨R1, hR1⟩ : ∃ R, txt (z * k) = R := ⟨_, rfl⟩
      rw [hR1] at Hrm
      have HT1 := Lib.hid (fun w' x X (h : Below wm.heap.size wm w') (hi : IsInt 0 w' (.agg #[.int .i64 x, .pointer X]) (z * k)) => show Calls Tryd.prog 17 _ w' (fun e w2 => e = .returned (.string R1) ∧ Below w'.heap.size w' w2) by rw [← hR1]; exact HT.out w' x X _ h hi)
      clear hR1
      have c00 := V0.out.c0
      have c01 := V0.out.c1
      have c10 := V1.out.c0
      have c11 := V1.out.c1
      go_wp2_with fail
      try simp only [hp0, hp1, hm]
      refine HA.out.mono ?_
      rintro e n1 ⟨x1, X1, rfl, hi1, g1⟩
      have J1 := Lib.hid g1
      have Hi1 := Lib.hid hi1
      clear g1 hi1 c00 c01 c10 c11
      go_wp2_with fail
      refine (HT1.out _ _ _ J1.out Hi1.out).mono ?_
      rintro e m1 ⟨rfl, g1⟩
      have G1 := Lib.hid (below_on J1.out g1)
      clear g1
      go_wp2_with fail
      refine (Hrm.out _).mono ?_
      rintro e q1 ⟨rfl, g1⟩
      have F1 := Lib.hid (below_on G1.out g1)
      clear g1
      have c00 := (V0.out.keep F1.out).c0
      have c01 := (V0.out.keep F1.out).c1
      have c10 := (V1.out.keep F1.out).c0
      have c11 := (V1.out.keep F1.out).c1
      go_wp2_with fail
      refine (HB.out _ F1.out).mono ?_
      rintro e n2 ⟨x2, X2, rfl, hi2, g2⟩
      have J2 := Lib.hid (below_on F1.out g2)
      have Hi2 := Lib.hid hi2
      clear g2 hi2 c00 c01 c10 c11
      go_wp2_with fail
      refine (HT1.out _ _ _ J2.out Hi2.out).mono ?_
      rintro e m2 ⟨rfl, g2⟩
      have G2 := Lib.hid (below_on J2.out g2)
      clear g2
      go_wp2_with fail
      refine (Hrm.out _).mono ?_
      rintro e q2 ⟨rfl, g2⟩
      have F2 := Lib.hid (below_on G2.out g2)
      clear g2
      go_wp2
      go_ret
      exact ⟨by simp, below_on K1.out F2.out⟩
end Go.Proofs.YtegndbiglehacaaDoor
