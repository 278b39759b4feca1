/- The law IntegerGcds: its walk. -/
import Derived.Test.YtjcblcikipmojaaDoorThree
import Derived.Test.YtjcblcikipmojaaDoorDivW
import Derived.Test.YtjcblcikipmojaaDoorGcdZ
namespace Go.Proofs.YtjcblcikipmojaaDoor
open Go.RowKit

theorem gcd_base {m k g n : Nat} (h : Nat.gcd m k = g) (hm : m < base n) (hk : k < base n) : g < base n := by
  rcases Nat.eq_zero_or_pos m with h0 | h0
  · rw [h0, Nat.gcd_zero_left] at h; omega
  · rw [← h]; exact Nat.lt_of_le_of_lt (Nat.gcd_le_left _ h0) hm
/-- Division by a divisor. -/
theorem dm_exact {z : Int} {g : Nat} {q r : Int} (hg : 0 < g) (hd : g ∣ z.natAbs) (h : DM z (g : Int) q r) : r = 0 ∧ q.natAbs = z.natAbs / g := by
  obtain ⟨c, hc⟩ := Int.ofNat_dvd_left.2 hd
  have h2 : DM z (g : Int) c 0 := ⟨by rw [hc, Int.mul_comm, Int.add_zero], .inl ⟨by omega, by omega⟩⟩
  obtain ⟨rfl, rfl⟩ := dm_unique h h2
  refine ⟨rfl, ?_⟩
  rw [hc, Int.natAbs_mul, Int.natAbs_natCast, Nat.mul_div_cancel_left _ hg]
theorem gcd_rest {m k g : Nat} (h : Nat.gcd m k = g) (hg : 0 < g) : Nat.gcd (m / g) (k / g) = 1 := by
  rw [Nat.gcd_div (h ▸ Nat.gcd_dvd_left m k) (h ▸ Nat.gcd_dvd_right m k), h, Nat.div_self hg]
theorem txt_one : txt 1 = ⟨#[49]⟩ := by decide +kernel
set_option maxRecDepth 100000 in
set_option maxHeartbeats 8000000 in
theorem integerGcds_walk (s t : ByteArray) (w : World) (hs : s.size ≤ 9223372036854775807) (ht : t.size ≤ 9223372036854775807) (hw : Good w) :
    Calls Tryd.prog 3 #[.string s, .string t] w fun e w' => e = .returned (.bool true) ∧ Below w.heap.size w w' := by
  have Hw := Lib.hid (fun w' (h : Below w.heap.size w w') => hw.below h)
  have Hk := Lib.hid (known_true w hw)
  have Hrs := Lib.hid (fun w => right_any s w hs)
  obtain ⟨bs, hbs⟩ : ∃ b, okT s = b := ⟨_, rfl⟩
  rw [hbs] at Hrs
  have Hbs := Lib.hid hbs
  have Hrt := Lib.hid (fun w => right_any t w ht)
  obtain ⟨bt, hbt⟩ : ∃ b, okT t = b := ⟨_, rfl⟩
  rw [hbt] at Hrt
  have Hbt := Lib.hid hbt
  clear hw hbs hbt
  go_enter Tryd.func3, Tryd.ntmps3
  go_wp2_with fail
  refine Hk.out.mono ?_
  rintro e w1 ⟨rfl, h1⟩
  have k1 := Lib.hid h1
  have Hk2 := Lib.hid (known_true w1 (Hw.out _ h1))
  clear h1
  go_wp2_with fail
  refine (Hrs.out _).mono ?_
  rintro e w2 ⟨rfl, rfl⟩
  cases bs with
  | false =>
    go_wp2_with fail
    refine Hk2.out.mono ?_
    rintro e w2 ⟨rfl, h2⟩
    have k2 := Lib.hid (below_on k1.out h2)
    clear h2
    go_wp2
    go_ret
    exact ⟨rfl, k2.out⟩
  | true =>
    go_wp2_with fail
    refine (Hrt.out _).mono ?_
    rintro e w2 ⟨rfl, rfl⟩
    cases bt with
    | false =>
      go_wp2_with fail
      refine Hk2.out.mono ?_
      rintro e w2 ⟨rfl, h2⟩
      have k2 := Lib.hid (below_on k1.out h2)
      clear h2
      go_wp2
      go_ret
      exact ⟨rfl, k2.out⟩
    | true =>
      rcases Nat.lt_or_ge 60 s.size with h60 | h60
      · go_wp2_with fail
        refine Hk2.out.mono ?_
        rintro e w2 ⟨rfl, h2⟩
        have k2 := Lib.hid (below_on k1.out h2)
        clear h2
        go_wp2
        go_ret
        exact ⟨rfl, k2.out⟩
      · rcases Nat.lt_or_ge 60 t.size with h61 | h61
        · go_wp2_with fail
          refine Hk2.out.mono ?_
          rintro e w2 ⟨rfl, h2⟩
          have k2 := Lib.hid (below_on k1.out h2)
          clear h2
          go_wp2
          go_ret
          exact ⟨rfl, k2.out⟩
        · have Hs := okT_true Hbs.out
          have Ls := Lib.hid (zOf_lt Hbs.out)
          have Es := Lib.hid (txt_zOf Hs.2)
          have Hreads := Lib.hid (fun w => read_any s w Hs.1 Hs.2)
          have Ht := okT_true Hbt.out
          have Lt := Lib.hid (zOf_lt Hbt.out)
          have Et := Lib.hid (txt_zOf Ht.2)
          have Hreadt := Lib.hid (fun w => read_any t w Ht.1 Ht.2)
          obtain ⟨z, hz⟩ : ∃ z, zOf s = z := ⟨_, rfl⟩
          rw [hz] at Ls Es Hreads
          obtain ⟨k, hk⟩ : ∃ k, zOf t = k := ⟨_, rfl⟩
          rw [hk] at Lt Et Hreadt
          clear hz hk Hs Ht
          go_wp2_with fail
          refine (Hreads.out _).mono ?_
          rintro e v0 ⟨a0, P0, rfl, hi0, h0⟩
          have V0 := Lib.hid (Var.new hi0)
          have K0 := Lib.hid (below_var (below_on k1.out h0) (.cells #[.int .i64 a0, .pointer P0] 26))
          clear h0 hi0
          go_wp2_with fail
          refine (Hreadt.out _).mono ?_
          rintro e v1 ⟨a1, P1, rfl, hi1, h1⟩
          have V1 := Lib.hid (Var.new hi1)
          have K1 := Lib.hid (below_var (below_on K0.out h1) (.cells #[.int .i64 a1, .pointer P1] 26))
          have V0 := Lib.hid ((V0.out.keep h1).keep ((Below.refl v1.heap.size v1).alloc (Nat.le_refl _) (.cells #[.int .i64 a1, .pointer P1] 26)))
          clear h1 hi1
          obtain ⟨p0, hp0⟩ : ∃ p, v0.heap.size = p := ⟨_, rfl⟩
          obtain ⟨p1, hp1⟩ : ∃ p, v1.heap.size = p := ⟨_, rfl⟩
          obtain ⟨wm, hm⟩ : ∃ wm, v1.alloc (.cells #[.int .i64 a1, .pointer P1] 26) = wm := ⟨_, rfl⟩
          rw [hm, hp0] at V0
          rw [hm, hp1] at V1
          rw [hm] at K1
          have L60s := Lib.hid (show s.size ≤ 3000 by omega)
          have L60t := Lib.hid (show t.size ≤ 3000 by omega)
          have b400 : ∀ x : Int, x.natAbs < base 7 → x.natAbs < base 400 := fun x h => Nat.lt_of_lt_of_le h (base_le (by decide))
          have b390 : ∀ x : Int, x.natAbs < base 7 → x.natAbs < base 390 := fun x h => Nat.lt_of_lt_of_le h (base_le (by decide))
          have Lz := Lib.hid (b400 z Ls.out)
          have Lk := Lib.hid (b400 k Lt.out)
          have Lz9 := Lib.hid (b390 z Ls.out)
          have Lk9 := Lib.hid (b390 k Lt.out)
          obtain ⟨g, hg⟩ : ∃ g, Nat.gcd z.natAbs k.natAbs = g := ⟨_, rfl⟩
          have Hgz := Lib.hid hg
          have Hgk := Lib.hid ((Nat.gcd_comm k.natAbs z.natAbs).trans hg)
          have Hlg := Lib.hid (gcd_base hg Ls.out Lt.out)
          clear b400 b390 hg h60 h61
          have Hwm := Lib.hid (show 0 < wm.heap.size from Nat.lt_of_le_of_lt (Nat.zero_le _) V0.out.lt)
          have HG := Lib.hid (gcd_any a0 a1 P0 P1 z k wm V0.out.int V1.out.int Lz.out Lk.out (Hw.out _ K1.out).2 Hwm.out)
          rw [Hgz.out] at HG
          have c00 := V0.out.c0
          have c01 := V0.out.c1
          have c10 := V1.out.c0
          have c11 := V1.out.c1
          go_wp2_with fail
          try simp only [hp0, hp1, hm]
          refine HG.out.mono ?_
          rintro e n1 ⟨a2, P2, rfl, hi2, g1⟩
          have k3 := (Below.refl n1.heap.size n1).alloc (Nat.le_refl _) (.cells #[.int .i64 a2, .pointer P2] 26)
          have V2 := Lib.hid (Var.new hi2)
          have V0 := Lib.hid ((V0.out.keep g1).keep k3)
          have V1 := Lib.hid ((V1.out.keep g1).keep k3)
          have J1 := Lib.hid (below_var (below_on K1.out g1) (.cells #[.int .i64 a2, .pointer P2] 26))
          obtain ⟨p2, hp2⟩ : ∃ p, n1.heap.size = p := ⟨_, rfl⟩
          obtain ⟨wn, hn⟩ : ∃ wn, n1.alloc (.cells #[.int .i64 a2, .pointer P2] 26) = wn := ⟨_, rfl⟩
          rw [hn] at V0 V1 V2 J1
          rw [hp2] at V2
          clear g1 hi2 k3 c00 c01 c10 c11
          have Hwn := Lib.hid (show 0 < wn.heap.size from Nat.lt_of_le_of_lt (Nat.zero_le _) V0.out.lt)
          have HR := Lib.hid (fun w => refGcd_any z k w (by rw [Es.out]; exact L60s.out) (by rw [Et.out]; exact L60t.out))
          rw [Es.out, Et.out, Hgz.out] at HR
          have HT := Lib.hid (fun w' x X y (hg : Good w') (hi : IsInt 0 w' (.agg #[.int .i64 x, .pointer X]) y) => show Calls Tryd.prog 9 _ w' (fun e w2 => e = .returned (.string (txt y)) ∧ Below w'.heap.size w' w2) from textZ_any _ y w' hi hg.1)
          have HTg := Lib.hid (fun w' (h : w'.cell? ⟨p0, 0, none⟩ = some (.int .i64 a0) ∧ w'.cell? ⟨p0, 1, none⟩ = some (.pointer P0) ∧ w'.cell? ⟨p1, 0, none⟩ = some (.int .i64 a1) ∧ w'.cell? ⟨p1, 1, none⟩ = some (.pointer P1) ∧ w'.cell? ⟨p2, 0, none⟩ = some (.int .i64 a2) ∧ w'.cell? ⟨p2, 1, none⟩ = some (.pointer P2) ∧ Below wn.heap.size wn w') => HT.out w' a2 P2 (g : Int) (Hw.out _ (below_on J1.out h.2.2.2.2.2.2)) (V2.out.keep h.2.2.2.2.2.2).int)
          have HTx := Lib.hid (fun w' x X (h : w'.cell? ⟨p0, 0, none⟩ = some (.int .i64 a0) ∧ w'.cell? ⟨p0, 1, none⟩ = some (.pointer P0) ∧ w'.cell? ⟨p1, 0, none⟩ = some (.int .i64 a1) ∧ w'.cell? ⟨p1, 1, none⟩ = some (.pointer P1) ∧ w'.cell? ⟨p2, 0, none⟩ = some (.int .i64 a2) ∧ w'.cell? ⟨p2, 1, none⟩ = some (.pointer P2) ∧ Below wn.heap.size wn w') (hi : IsInt 0 w' (.agg #[.int .i64 x, .pointer X]) (g : Int)) => HT.out w' x X (g : Int) (Hw.out _ (below_on J1.out h.2.2.2.2.2.2)) hi)
          have HG2 := Lib.hid (fun w' (h : w'.cell? ⟨p0, 0, none⟩ = some (.int .i64 a0) ∧ w'.cell? ⟨p0, 1, none⟩ = some (.pointer P0) ∧ w'.cell? ⟨p1, 0, none⟩ = some (.int .i64 a1) ∧ w'.cell? ⟨p1, 1, none⟩ = some (.pointer P1) ∧ w'.cell? ⟨p2, 0, none⟩ = some (.int .i64 a2) ∧ w'.cell? ⟨p2, 1, none⟩ = some (.pointer P2) ∧ Below wn.heap.size wn w') => gcd_any a1 a0 P1 P0 k z w' (V1.out.keep h.2.2.2.2.2.2).int (V0.out.keep h.2.2.2.2.2.2).int Lk.out Lz.out (Hw.out _ (below_on J1.out h.2.2.2.2.2.2)).2 (Nat.lt_of_lt_of_le Hwn.out h.2.2.2.2.2.2.size))
          simp only [Hgk.out] at HG2
          obtain ⟨R0, hR0⟩ : ∃ R, txt (g : Int) = R := ⟨_, rfl⟩
          rw [hR0] at HR
          simp only [hR0] at HTg HTx
          clear hR0
          go_wp2_with fail
          try simp only [hp2, hn]
          go_region_held3 (fun w' => w'.cell? ⟨p0, 0, none⟩ = some (.int .i64 a0) ∧ w'.cell? ⟨p0, 1, none⟩ = some (.pointer P0) ∧ w'.cell? ⟨p1, 0, none⟩ = some (.int .i64 a1) ∧ w'.cell? ⟨p1, 1, none⟩ = some (.pointer P1) ∧ w'.cell? ⟨p2, 0, none⟩ = some (.int .i64 a2) ∧ w'.cell? ⟨p2, 1, none⟩ = some (.pointer P2) ∧ Below wn.heap.size wn w')
            (first
              | exact three_start V0 V1 V2 ((Below.refl _ _).drew)
              | exact three_call V0 V1 V2 (by assumption) (by assumption))
            (first
              | (go_at_call_of 9 P2; refine (HTg.out _ (by assumption)).mono ?_; rintro e w' ⟨rfl, hb⟩)
              | (go_at_call 10; refine (HR.out _).mono ?_; rintro e w' ⟨rfl, hb⟩)
              | (go_at_call 8; refine (HG2.out _ (by assumption)).mono ?_; rintro e w' ⟨x3, X3, rfl, hi3, hb⟩)
              | (go_at_call 9; refine (HTx.out _ _ _ (by assumption) hi3).mono ?_; rintro e w' ⟨rfl, hb⟩))
          go_split_ands
          have hw3 : Below wn.heap.size wn w' := by assumption
          have J3 := Lib.hid (below_on J1.out hw3)
          have V0 := Lib.hid (V0.out.keep hw3)
          have V1 := Lib.hid (V1.out.keep hw3)
          have V2 := Lib.hid (V2.out.keep hw3)
          generalize w' = w3 at J3 V0 V1 V2 ⊢
          clear hw3 hi3
          have HS := Lib.hid (signZ_any _ (g : Int) w3 V2.out.int)
          have c20 := V2.out.c0
          have c21 := V2.out.c1
          by_cases hg0 : g = 0
          · subst hg0
            have hz : z = 0 := by have := Nat.eq_zero_of_gcd_eq_zero_left Hgz.out; omega
            have hk : k = 0 := by have := Nat.eq_zero_of_gcd_eq_zero_right Hgz.out; omega
            have hs0 : s = ⟨#[48]⟩ := by rw [← Es.out, hz, txt_zero]
            have ht0 : t = ⟨#[48]⟩ := by rw [← Et.out, hk, txt_zero]
            clear hz hk
            rw [show sgn ((0 : Nat) : Int) = 0 from rfl] at HS
            go_wp2_with fail
            refine HS.out.mono ?_
            rintro e w4 ⟨rfl, h4⟩
            have J4 := Lib.hid (below_on J3.out h4)
            clear h4 c20 c21
            subst hs0 ht0
            go_wp2
            go_ret
            exact ⟨rfl, J4.out⟩
          · have hgp : 0 < g := by omega
            have Hgp := Lib.hid hgp
            rw [show sgn (g : Int) = 1 by unfold sgn; rw [if_neg (by omega), if_pos (by omega)]] at HS
            clear hg0 hgp
            go_wp2_with fail
            refine HS.out.mono ?_
            rintro e w4 ⟨rfl, h4⟩
            have J4 := Lib.hid (below_on J3.out h4)
            have V0 := Lib.hid (V0.out.keep h4)
            have V1 := Lib.hid (V1.out.keep h4)
            have V2 := Lib.hid (V2.out.keep h4)
            clear h4 c20 c21
            have Lg9 := Lib.hid (show ((g : Nat) : Int).natAbs < base 390 by rw [Int.natAbs_natCast]; exact Nat.lt_of_lt_of_le Hlg.out (base_le (by decide)))
            have HD := Lib.hid (divmod_any a0 a2 P0 P2 z (g : Int) w4 V0.out.int V2.out.int (by have := Hgp.out; omega) Lz9.out Lg9.out)
            have c00 := V0.out.c0
            have c01 := V0.out.c1
            have c20 := V2.out.c0
            have c21 := V2.out.c1
            go_wp2_with fail
            refine HD.out.mono ?_
            rintro e n5 ⟨qa, qP, ra, rP, q, r, rfl, hi, hj, hdm, g1⟩
            obtain ⟨rfl, hq⟩ := dm_exact Hgp.out (Hgz.out ▸ Nat.gcd_dvd_left _ _) hdm
            have k5 := (Below.refl n5.heap.size n5).alloc (Nat.le_refl _) (.cells #[.int .i64 qa, .pointer qP] 26)
            have k6 := k5.alloc (by simp) (.cells #[.int .i64 ra, .pointer rP] 26)
            have U0 := Lib.hid ((Var.new hi).grow (.cells #[.int .i64 ra, .pointer rP] 26))
            have U1 := Lib.hid (Var.new (hj.keep k5))
            simp only [World.size_alloc] at U1
            have J5 := Lib.hid (below_var (below_var (below_on J4.out g1) (.cells #[.int .i64 qa, .pointer qP] 26)) (.cells #[.int .i64 ra, .pointer rP] 26))
            have V1 := Lib.hid ((V1.out.keep g1).keep k6)
            have V2 := Lib.hid ((V2.out.keep g1).keep k6)
            have Hq := Lib.hid hq
            obtain ⟨q0, hq0⟩ : ∃ p, n5.heap.size = p := ⟨_, rfl⟩
            obtain ⟨w5, hw5⟩ : ∃ w5, (n5.alloc (.cells #[.int .i64 qa, .pointer qP] 26)).alloc (.cells #[.int .i64 ra, .pointer rP] 26) = w5 := ⟨_, rfl⟩
            rw [hw5] at U0 U1 J5 V1 V2
            rw [hq0] at U0 U1
            clear g1 hi hj hdm hq k5 k6 c00 c01 c20 c21
            have HD := Lib.hid (divmod_any a1 a2 P1 P2 k (g : Int) w5 V1.out.int V2.out.int (by have := Hgp.out; omega) Lk9.out Lg9.out)
            have c10 := V1.out.c0
            have c11 := V1.out.c1
            have c20 := V2.out.c0
            have c21 := V2.out.c1
            go_wp2_with fail
            try simp only [hq0, hw5]
            refine HD.out.mono ?_
            rintro e n6 ⟨sa, sP, ta, tP, x, y, rfl, hi, hj, hdm, g1⟩
            obtain ⟨rfl, hx⟩ := dm_exact Hgp.out (Hgz.out ▸ Nat.gcd_dvd_right _ _) hdm
            have k5 := (Below.refl n6.heap.size n6).alloc (Nat.le_refl _) (.cells #[.int .i64 sa, .pointer sP] 26)
            have k6 := k5.alloc (by simp) (.cells #[.int .i64 ta, .pointer tP] 26)
            have X0 := Lib.hid ((Var.new hi).grow (.cells #[.int .i64 ta, .pointer tP] 26))
            have X1 := Lib.hid (Var.new (hj.keep k5))
            simp only [World.size_alloc] at X1
            have J6 := Lib.hid (below_var (below_var (below_on J5.out g1) (.cells #[.int .i64 sa, .pointer sP] 26)) (.cells #[.int .i64 ta, .pointer tP] 26))
            have U0 := Lib.hid ((U0.out.keep g1).keep k6)
            have U1 := Lib.hid ((U1.out.keep g1).keep k6)
            have Hx := Lib.hid hx
            obtain ⟨x0, hx0⟩ : ∃ p, n6.heap.size = p := ⟨_, rfl⟩
            obtain ⟨w6, hw6⟩ : ∃ w6, (n6.alloc (.cells #[.int .i64 sa, .pointer sP] 26)).alloc (.cells #[.int .i64 ta, .pointer tP] 26) = w6 := ⟨_, rfl⟩
            rw [hw6] at U0 U1 J6 X0 X1
            rw [hx0] at X0 X1
            clear g1 hi hj hdm hx k5 k6 c10 c11 c20 c21
            have HP := Lib.hid (signZ_any _ (0 : Int) w6 U1.out.int)
            have HQ := Lib.hid (fun w' (hb : Below w6.heap.size w6 w') => signZ_any _ (0 : Int) w' (X1.out.keep hb).int)
            rw [show sgn (0 : Int) = 0 from rfl] at HP
            simp only [show sgn (0 : Int) = 0 from rfl] at HQ
            have hlq : q.natAbs < base 400 := by rw [Hq.out]; exact Nat.lt_of_le_of_lt (Nat.div_le_self _ _) Lz.out
            have hlx : x.natAbs < base 400 := by rw [Hx.out]; exact Nat.lt_of_le_of_lt (Nat.div_le_self _ _) Lk.out
            have hone : Nat.gcd q.natAbs x.natAbs = 1 := by rw [Hq.out, Hx.out]; exact gcd_rest Hgz.out Hgp.out
            have HG3 := Lib.hid (fun w' (hb : Below w6.heap.size w6 w') => gcd_any qa sa qP sP q x w' (U0.out.keep hb).int (X0.out.keep hb).int hlq hlx (Hw.out _ (below_on J6.out hb)).2 (Nat.lt_of_lt_of_le (Nat.lt_of_le_of_lt (Nat.zero_le _) U0.out.lt) hb.size))
            simp only [hone] at HG3
            clear hlq hlx hone
            have c0 := U1.out.c0
            have c1 := U1.out.c1
            go_wp2_with fail
            try simp only [hx0, hw6]
            refine HP.out.mono ?_
            rintro e w7 ⟨rfl, h7⟩
            have K7 := Lib.hid h7
            have d0 := (X1.out.keep h7).c0
            have d1 := (X1.out.keep h7).c1
            clear h7 c0 c1
            go_wp2_with fail
            refine (HQ.out _ K7.out).mono ?_
            rintro e w8 ⟨rfl, h8⟩
            have K8 := Lib.hid (below_on K7.out h8)
            clear h8 d0 d1
            have c0 := (U0.out.keep K8.out).c0
            have c1 := (U0.out.keep K8.out).c1
            have d0 := (X0.out.keep K8.out).c0
            have d1 := (X0.out.keep K8.out).c1
            go_wp2_with fail
            refine (HG3.out _ K8.out).mono ?_
            rintro e w9 ⟨ya, yP, rfl, hi, h9⟩
            have K9 := Lib.hid (below_on K8.out h9)
            have HTy := Lib.hid (HT.out w9 ya yP _ (Hw.out _ (below_on J6.out K9.out)) hi)
            rw [show txt ((1 : Nat) : Int) = ⟨#[49]⟩ from txt_one] at HTy
            clear hi h9 c0 c1 d0 d1
            go_wp2_with fail
            refine HTy.out.mono ?_
            rintro e w10 ⟨rfl, h10⟩
            have K10 := Lib.hid (below_on J6.out (below_on K9.out h10))
            clear h10
            go_wp2
            go_ret
            exact ⟨rfl, K10.out⟩
end Go.Proofs.YtjcblcikipmojaaDoor
