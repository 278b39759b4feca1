/- Rationals: quotient and Make. -/
import Derived.Test.YtbpbfjnndkoioaaGreatDoorRatA
import Derived.Deep.RegionHeld3
import Derived.Test.YtbpbfjnndkoioaaGreatDoorGcdZ
import Derived.Test.YtbpbfjnndkoioaaGreatDoorDivW
namespace Go.Proofs.YtbpbfjnndkoioaaGreatDoor
open Go.RowKit

/-- The text of a rational. -/
def ratTxt (q : Rat) : ByteArray := if q.den = 1 then txt q.num else txt q.num ++ ⟨#[47]⟩ ++ txt (q.den : Int)
theorem sgn_denZ (q : Rat) : sgn (denZ q.den) = if q.den = 1 then 0 else 1 := by
  have := q.den_pos
  unfold sgn denZ
  by_cases h : q.den = 1
  · rw [if_pos h, if_pos h]; rfl
  · rw [if_neg h, if_neg h, if_neg (by omega), if_pos (by omega)]
/-- A parameter of type Rat, boxed. -/
theorem box_rat (w : World) (a : Int) (P : Option Addr) (b : Int) (Q : Option Addr) : Cells (w.alloc (.cells #[.int .i64 a, .pointer P, .int .i64 b, .pointer Q] 28)) w.heap.size [.int .i64 a, .pointer P, .int .i64 b, .pointer Q] := Cells.new w _ _
set_option maxHeartbeats 4000000 in
theorem den_any (a : Int) (P : Option Addr) (b : Int) (Q : Option Addr) (q : Rat) (w : World) (h : RatV w a P b Q q) :
    Calls Tryz.prog 51 #[.agg #[.int .i64 a, .pointer P, .int .i64 b, .pointer Q]] w (NewInt (q.den : Int) w) := by
  have kk := ((Below.refl w.heap.size w).alloc (Nat.le_refl _) (.cells #[.int .i64 a, .pointer P, .int .i64 b, .pointer Q] 28)).alloc (by simp) (.cells #[.int .i64 0, .pointer none] 26)
  have R := Lib.hid (Cells.new (w.alloc (.cells #[.int .i64 a, .pointer P, .int .i64 b, .pointer Q] 28)) #[.int .i64 0, .pointer none] 26)
  have V := Lib.hid ((box_rat w a P b Q).keep ((Below.refl _ _).alloc (Nat.le_refl _) (.cells #[.int .i64 0, .pointer none] 26)))
  simp only [World.size_alloc] at R
  have Hd := Lib.hid (h.den.keep kk)
  have Hs := Lib.hid (signZ_any _ (denZ q.den) _ (h.den.keep kk))
  rw [sgn_denZ] at Hs
  have Kk := Lib.hid kk
  clear h kk
  by_cases hd : q.den = 1
  · rw [if_pos hd] at Hs
    rw [hd]
    have Hd1 := Lib.hid hd
    clear hd
    go_enter Tryz.func51, Tryz.ntmps51
    go_wp2_with fail
    refine Hs.out.mono ?_
    rintro e w1 ⟨rfl, h1⟩
    have R := Lib.hid (R.out.keep h1)
    have K1 := Lib.hid (below_on Kk.out h1)
    clear h1
    go_wp2_with fail
    refine (from_any _ _).mono ?_
    rintro e w2 ⟨rfl, h2⟩
    have R := Lib.hid (R.out.keep h2)
    have K2 := Lib.hid (below_put2 (below_on K1.out h2) (show w.heap.size ≤ w.heap.size + 1 by omega) (.int .i64 1) (.pointer none))
    have k0 := R.out.c0
    have k1 := R.out.c1
    have f0 := R.out.fz 0
    have f1 := R.out.fz 1
    clear h2
    go_wp2
    exact bodyPost_ret (v := .agg #[.int .i64 1, .pointer none]) (by simp [results, Tryz.results51, go_sem, k0, k1]) rfl ⟨1, none, rfl, small_int ⟨by decide, by decide⟩, K2.out⟩
  · rw [if_neg hd] at Hs
    have Hd1 := Lib.hid hd
    clear hd
    go_enter Tryz.func51, Tryz.ntmps51
    go_wp2_with fail
    refine Hs.out.mono ?_
    rintro e w1 ⟨rfl, h1⟩
    have R := Lib.hid (R.out.keep h1)
    have V := Lib.hid (V.out.keep h1)
    have K1 := Lib.hid (below_put2 (below_on Kk.out h1) (show w.heap.size ≤ w.heap.size + 1 by omega) (.int .i64 b) (.pointer Q))
    have Hn := Lib.hid ((Hd.out.keep h1).wrote R.out (by rfl) (put2_heap _ (w.heap.size + 1) (.int .i64 b) (.pointer Q)).1 (put2_heap _ _ _ _).2)
    have k0 := R.out.c0
    have k1 := R.out.c1
    have f0 := R.out.fz 0
    have f1 := R.out.fz 1
    have c2 := V.out.c2
    have c3 := V.out.c3
    clear h1
    go_wp2
    exact bodyPost_ret (v := .agg #[.int .i64 b, .pointer Q]) (by simp [results, Tryz.results51, go_sem, k0, k1]) rfl ⟨b, Q, rfl, by have := Hn.out; rwa [denZ_ne Hd1.out] at this, K1.out⟩
set_option maxHeartbeats 8000000 in
theorem number_any (a : Int) (P : Option Addr) (b : Int) (Q : Option Addr) (q : Rat) (w : World) (h : RatV w a P b Q q) (hn : q.num.natAbs < ten 3000) (hdl : q.den < ten 3000) (hg : Good w) :
    Calls Tryz.prog 13 #[.agg #[.int .i64 a, .pointer P, .int .i64 b, .pointer Q]] w fun e w' => e = .returned (.string (ratTxt q)) ∧ Below w.heap.size w w' := by
  have kk := (Below.refl w.heap.size w).alloc (Nat.le_refl _) (.cells #[.int .i64 a, .pointer P, .int .i64 b, .pointer Q] 28)
  have V := Lib.hid (box_rat w a P b Q)
  have Hv := Lib.hid (h.keep kk)
  have Hs := Lib.hid (signZ_any _ (denZ q.den) _ (h.den.keep kk))
  rw [sgn_denZ] at Hs
  have Kk := Lib.hid kk
  have Hw := Lib.hid (fun w' (hb : Below w.heap.size w w') => (hg.below hb).1)
  clear h kk hg
  by_cases hd : q.den = 1
  · rw [if_pos hd] at Hs
    have Hq := Lib.hid (show ratTxt q = txt q.num by unfold ratTxt; rw [if_pos hd])
    rw [Hq.out]
    clear hd hn hdl
    obtain ⟨T, hT⟩ : ∃ T, txt q.num = T := ⟨_, rfl⟩
    rw [hT]
    have HT0 := Lib.hid hT
    clear hT
    go_enter Tryz.func13, Tryz.ntmps13
    go_wp2_with fail
    refine Hs.out.mono ?_
    rintro e w1 ⟨rfl, h1⟩
    have V := Lib.hid (V.out.keep h1)
    have K1 := Lib.hid (below_on Kk.out h1)
    have HT := Lib.hid (show Calls Tryz.prog 15 _ w1 (fun e w2 => e = .returned (.string (txt q.num)) ∧ Below w1.heap.size w1 w2) from textZ_any _ q.num w1 (Hv.out.keep h1).num (Hw.out _ K1.out))
    have c0 := V.out.c0
    have c1 := V.out.c1
    rw [HT0.out] at HT
    clear h1
    go_wp2_with fail
    refine HT.out.mono ?_
    rintro e w2 ⟨rfl, h2⟩
    have K2 := Lib.hid (below_on K1.out h2)
    clear h2
    go_wp2
    go_ret
    exact ⟨rfl, K2.out⟩
  · rw [if_neg hd] at Hs
    have Hq := Lib.hid (show ratTxt q = txt q.num ++ ⟨#[47]⟩ ++ txt (q.den : Int) by unfold ratTxt; rw [if_neg hd])
    rw [Hq.out]
    have s1 := txt_size q.num hn (by decide)
    have s2 := txt_size (q.den : Int) (k := 3000) (by rw [Int.natAbs_natCast]; exact hdl) (by decide)
    have Hd1 := Lib.hid hd
    clear hd hn hdl
    obtain ⟨T, hT⟩ : ∃ T, txt q.num = T := ⟨_, rfl⟩
    obtain ⟨U, hU⟩ : ∃ U, txt (q.den : Int) = U := ⟨_, rfl⟩
    rw [hT] at s1 ⊢
    rw [hU] at s2 ⊢
    have HT := Lib.hid hT
    have HU := Lib.hid hU
    clear hT hU
    go_enter Tryz.func13, Tryz.ntmps13
    go_wp2_with fail
    refine Hs.out.mono ?_
    rintro e w1 ⟨rfl, h1⟩
    have V := Lib.hid (V.out.keep h1)
    have Hv := Lib.hid (Hv.out.keep h1)
    have K1 := Lib.hid (below_on Kk.out h1)
    have HA := Lib.hid (fun w' (hb : Below w1.heap.size w1 w') => show Calls Tryz.prog 15 _ w' (fun e w2 => e = .returned (.string (txt q.num)) ∧ Below w'.heap.size w' w2) from textZ_any _ q.num w' (Hv.out.keep hb).num (Hw.out _ (below_on K1.out hb)))
    have HB := Lib.hid (fun w' (hb : Below w1.heap.size w1 w') => show Calls Tryz.prog 15 _ w' (fun e w2 => e = .returned (.string (txt (q.den : Int))) ∧ Below w'.heap.size w' w2) from by
      have := textZ_any _ (denZ q.den) w' (Hv.out.keep hb).den (Hw.out _ (below_on K1.out hb))
      rwa [denZ_ne Hd1.out] at this)
    simp only [HT.out] at HA
    simp only [HU.out] at HB
    have cat1 : ∀ W : World, (Op.stringOp .add T ⟨#[47]⟩).run Tryz.prog W = .ok (.string (T ++ ⟨#[47]⟩)) W := fun W => run_string_add_sum W _ _ (by show T.size + 1 ≤ _; omega)
    have cat2 : ∀ W : World, (Op.stringOp .add (T ++ ⟨#[47]⟩) U).run Tryz.prog W = .ok (.string (T ++ ⟨#[47]⟩ ++ U)) W := fun W => run_string_add_sum W _ _ (by rw [ByteArray.size_append]; show T.size + 1 + U.size ≤ _; omega)
    have HS := Lib.hid (fun w' (hb : Below w1.heap.size w1 w') => (⟨(V.out.keep hb).c0, (V.out.keep hb).c1, (V.out.keep hb).c2, (V.out.keep hb).c3, hb⟩ : w'.cell? ⟨w.heap.size, 0, none⟩ = some (.int .i64 a) ∧ w'.cell? ⟨w.heap.size, 1, none⟩ = some (.pointer P) ∧ w'.cell? ⟨w.heap.size, 2, none⟩ = some (.int .i64 b) ∧ w'.cell? ⟨w.heap.size, 3, none⟩ = some (.pointer Q) ∧ Below w1.heap.size w1 w'))
    clear h1
    go_wp2_with fail
    go_region_held3 (fun w' => w'.cell? ⟨w.heap.size, 0, none⟩ = some (.int .i64 a) ∧ w'.cell? ⟨w.heap.size, 1, none⟩ = some (.pointer P) ∧ w'.cell? ⟨w.heap.size, 2, none⟩ = some (.int .i64 b) ∧ w'.cell? ⟨w.heap.size, 3, none⟩ = some (.pointer Q) ∧ Below w1.heap.size w1 w')
      (first
        | assumption
        | exact HS.out _ (Below.refl _ _).drew)
      (first
        | (go_at_call_of 15 P; refine (HA.out _ (And.right (And.right (And.right (And.right (by assumption)))))).mono ?_; rintro e w' ⟨rfl, hb⟩; have hk1 := HS.out _ (below_on (And.right (And.right (And.right (And.right (by assumption))))) hb))
        | (go_at_call_of 15 Q; refine (HB.out _ (And.right (And.right (And.right (And.right (by assumption)))))).mono ?_; rintro e w' ⟨rfl, hb⟩; have hk2 := HS.out _ (below_on (And.right (And.right (And.right (And.right (by assumption))))) hb)))
    all_goals
      go_split_ands
      have hfin : Below w1.heap.size w1 w' := by assumption
      have Hfin := Lib.hid (below_on K1.out hfin)
      clear hfin
      go_wp2
      go_ret
      exact ⟨rfl, Hfin.out⟩
theorem dm_ediv {z g q r : Int} (hg : 0 < g) (h : DM z g q r) : q = z / g := by
  obtain ⟨h1, h2⟩ := h
  have hr : 0 ≤ r ∧ r < g := by omega
  rw [h1, Int.add_comm, Int.add_mul_ediv_right _ _ (by omega), Int.ediv_eq_zero_of_lt hr.1 hr.2, Int.zero_add]
set_option maxHeartbeats 4000000 in
theorem quotient_any (a : Int) (P : Option Addr) (b : Int) (Q : Option Addr) (z g : Int) (w : World) (h : IsInt 0 w (.agg #[.int .i64 a, .pointer P]) z) (h' : IsInt 0 w (.agg #[.int .i64 b, .pointer Q]) g) (hg : 0 < g) (hlz : z.natAbs < base 390) (hlg : g.natAbs < base 390) :
    Calls Tryz.prog 37 #[.agg #[.int .i64 a, .pointer P], .agg #[.int .i64 b, .pointer Q]] w (NewInt (z / g) w) := by
  have kk := (((Below.refl w.heap.size w).alloc (Nat.le_refl _) (.cells #[.int .i64 a, .pointer P] 26)).alloc (by simp) (.cells #[.int .i64 b, .pointer Q] 26)).alloc (by simp; omega) (.cells #[.int .i64 0, .pointer none] 26)
  have V0 := Lib.hid (((Cells.new w #[.int .i64 a, .pointer P] 26).keep ((Below.refl _ _).alloc (Nat.le_refl _) (.cells #[.int .i64 b, .pointer Q] 26))).keep ((Below.refl _ _).alloc (Nat.le_refl _) (.cells #[.int .i64 0, .pointer none] 26)))
  have V1 := Lib.hid ((Cells.new (w.alloc (.cells #[.int .i64 a, .pointer P] 26)) #[.int .i64 b, .pointer Q] 26).keep ((Below.refl _ _).alloc (Nat.le_refl _) (.cells #[.int .i64 0, .pointer none] 26)))
  have R := Lib.hid (Cells.new ((w.alloc (.cells #[.int .i64 a, .pointer P] 26)).alloc (.cells #[.int .i64 b, .pointer Q] 26)) #[.int .i64 0, .pointer none] 26)
  simp only [World.size_alloc] at V1 R
  have Hz := Lib.hid (h.keep kk)
  have Hone := Lib.hid (isOne_any b Q g _ (h'.keep kk))
  have HD := Lib.hid (fun w' (hb : Below w.heap.size w w') => divmod_any a b P Q z g w' (h.keep hb) (h'.keep hb) (by omega) hlz hlg)
  have Kk := Lib.hid kk
  have Hg := Lib.hid hg
  clear h h' kk hg hlz hlg
  by_cases h1 : g = 1
  · rw [decide_eq_true h1] at Hone
    have Hfin := Lib.hid (show z / g = z by rw [h1, Int.ediv_one])
    rw [Hfin.out]
    clear h1
    go_enter Tryz.func37, Tryz.ntmps37
    go_wp2_with fail
    refine Hone.out.mono ?_
    rintro e w1 ⟨rfl, h1⟩
    have V0 := Lib.hid (V0.out.keep h1)
    have R := Lib.hid (R.out.keep h1)
    have Hn := Lib.hid ((Hz.out.keep h1).wrote R.out (by rfl) (put2_heap _ (w.heap.size + 1 + 1) (.int .i64 a) (.pointer P)).1 (put2_heap _ _ _ _).2)
    have K1 := Lib.hid (below_put2 (below_on Kk.out h1) (show w.heap.size ≤ w.heap.size + 1 + 1 by omega) (.int .i64 a) (.pointer P))
    clear h1
    have c0 := V0.out.c0
    have c1 := V0.out.c1
    have k0 := R.out.c0
    have k1 := R.out.c1
    have f0 := R.out.fz 0
    have f1 := R.out.fz 1
    go_wp2
    exact bodyPost_ret (v := .agg #[.int .i64 a, .pointer P]) (by simp [results, Tryz.results37, go_sem, k0, k1]) rfl ⟨a, P, rfl, Hn.out, K1.out⟩
  · rw [decide_eq_false h1] at Hone
    clear h1
    go_enter Tryz.func37, Tryz.ntmps37
    go_wp2_with fail
    refine Hone.out.mono ?_
    rintro e w1 ⟨rfl, h1⟩
    have V0 := Lib.hid (V0.out.keep h1)
    have V1 := Lib.hid (V1.out.keep h1)
    have R := Lib.hid (R.out.keep h1)
    have K1 := Lib.hid (below_on Kk.out h1)
    clear h1
    have c0 := V0.out.c0
    have c1 := V0.out.c1
    have d0 := V1.out.c0
    have d1 := V1.out.c1
    go_wp2_with fail
    refine (HD.out _ K1.out).mono ?_
    rintro e n1 ⟨qa, qP, ra, rP, q, r, rfl, hi, hj, hdm, g1⟩
    have hq := dm_ediv Hg.out hdm
    have k3 := ((Below.refl n1.heap.size n1).alloc (Nat.le_refl _) (.cells #[.int .i64 qa, .pointer qP] 26)).alloc (by simp) (.cells #[.int .i64 ra, .pointer rP] 26)
    have R := Lib.hid ((R.out.keep g1).keep k3)
    have Hn := Lib.hid ((hi.keep k3).wrote R.out (by rfl) (put2_heap _ (w.heap.size + 1 + 1) (.int .i64 qa) (.pointer qP)).1 (put2_heap _ _ _ _).2)
    have K2 := Lib.hid (below_put2 (below_on (below_on K1.out g1) k3) (show w.heap.size ≤ w.heap.size + 1 + 1 by omega) (.int .i64 qa) (.pointer qP))
    rw [hq] at Hn
    clear g1 hi hj hdm hq k3 c0 c1 d0 d1
    have k0 := R.out.c0
    have k1 := R.out.c1
    have f0 := R.out.fz 0
    have f1 := R.out.fz 1
    go_wp2
    exact bodyPost_ret (v := .agg #[.int .i64 qa, .pointer qP]) (by simp [results, Tryz.results37, go_sem, k0, k1]) rfl ⟨qa, qP, rfl, Hn.out, K2.out⟩
/-- What Make returns for a denominator other than 0. -/
def Made (q : Rat) (w : World) (e : Ending) (w' : World) : Prop :=
  ∃ (a : Int) (P : Option Addr) (b : Int) (Q : Option Addr), e = .returned (.tuple #[.agg #[.int .i64 a, .pointer P, .int .i64 b, .pointer Q], .int .i64 0]) ∧ RatV w' a P b Q q ∧ Below w.heap.size w w'
set_option maxRecDepth 100000 in
set_option maxHeartbeats 8000000 in
theorem make_pos (a : Int) (P : Option Addr) (b : Int) (Q : Option Addr) (z : Int) (kn : Nat) (w : World) (h : IsInt 0 w (.agg #[.int .i64 a, .pointer P]) z) (h' : IsInt 0 w (.agg #[.int .i64 b, .pointer Q]) (kn : Int)) (hkp : 0 < kn) (hlz : z.natAbs < base 390) (hlk : ((kn : Nat) : Int).natAbs < base 390) (hg : Good w) :
    Calls Tryz.prog 11 #[.agg #[.int .i64 a, .pointer P], .agg #[.int .i64 b, .pointer Q]] w (Made (Rat.divInt z kn) w) := by
  have kk := (((Below.refl w.heap.size w).alloc (Nat.le_refl _) (.cells #[.int .i64 a, .pointer P] 26)).alloc (by simp) (.cells #[.int .i64 b, .pointer Q] 26)).alloc (by simp; omega) (.cells #[.int .i64 0, .pointer none, .int .i64 0, .pointer none] 28)
  have V0 := Lib.hid (((Cells.new w #[.int .i64 a, .pointer P] 26).keep ((Below.refl _ _).alloc (Nat.le_refl _) (.cells #[.int .i64 b, .pointer Q] 26))).keep ((Below.refl _ _).alloc (Nat.le_refl _) (.cells #[.int .i64 0, .pointer none, .int .i64 0, .pointer none] 28)))
  have V1 := Lib.hid ((Cells.new (w.alloc (.cells #[.int .i64 a, .pointer P] 26)) #[.int .i64 b, .pointer Q] 26).keep ((Below.refl _ _).alloc (Nat.le_refl _) (.cells #[.int .i64 0, .pointer none, .int .i64 0, .pointer none] 28)))
  have R := Lib.hid (Cells.new ((w.alloc (.cells #[.int .i64 a, .pointer P] 26)).alloc (.cells #[.int .i64 b, .pointer Q] 26)) #[.int .i64 0, .pointer none, .int .i64 0, .pointer none] 28)
  simp only [World.size_alloc] at V1 R
  have Hz := Lib.hid (h.keep kk)
  have Hk := Lib.hid (h'.keep kk)
  have Hs := Lib.hid (signZ_any _ (kn : Int) _ (h'.keep kk))
  rw [show sgn (kn : Int) = 1 by unfold sgn; rw [if_neg (by omega), if_pos (by omega)]] at Hs
  have Kk := Lib.hid kk
  have Lz := Lib.hid hlz
  have Lk := Lib.hid hlk
  have Hkp := Lib.hid hkp
  have Hw := Lib.hid (fun w' (hb : Below w.heap.size w w') => hg.below hb)
  obtain ⟨qt, hqt⟩ : ∃ q, Rat.divInt z kn = q := ⟨_, rfl⟩
  rw [hqt]
  have Hqt := Lib.hid hqt.symm
  have d0 := V1.out.c0
  have d1 := V1.out.c1
  clear h h' kk hkp hlz hlk hg hqt
  go_enter Tryz.func11, Tryz.ntmps11
  go_wp2_with fail
  refine Hs.out.mono ?_
  rintro e wt ⟨rfl, h1⟩
  have V0 := Lib.hid (V0.out.keep h1)
  have V1 := Lib.hid (V1.out.keep h1)
  have R := Lib.hid (R.out.keep h1)
  have Hz := Lib.hid (Hz.out.keep h1)
  have Hk := Lib.hid (Hk.out.keep h1)
  have Kt := Lib.hid (below_on Kk.out h1)
  clear h1 d0 d1
  have HG := Lib.hid (gcd_any a b P Q z (kn : Int) wt Hz.out Hk.out (base_up Lz.out (by decide)) (base_up Lk.out (by decide)) (Hw.out _ Kt.out).2 (Nat.lt_of_le_of_lt (Nat.zero_le _) V0.out.lt))
  rw [Int.natAbs_natCast] at HG
  obtain ⟨g, hge⟩ : ∃ g, Nat.gcd (z).natAbs kn = g := ⟨_, rfl⟩
  rw [hge] at HG
  obtain ⟨hqn, hqd⟩ := rat_make (n := z) (k := kn) Hkp.out
  rw [hge] at hqn hqd
  have hgp : 0 < g := by rw [← hge]; exact Nat.gcd_pos_of_pos_right _ Hkp.out
  have hgl : g < base 390 := by rw [← hge]; exact Nat.lt_of_le_of_lt (Nat.gcd_le_right _ Hkp.out) (by have := Lk.out; rwa [Int.natAbs_natCast] at this)
  have Hqn := Lib.hid hqn
  have Hqd := Lib.hid (show (((Rat.divInt z kn).den : Nat) : Int) = (kn : Int) / (g : Int) by rw [hqd]; exact Int.natCast_ediv _ _)
  have Hgp := Lib.hid hgp
  have Hgl := Lib.hid (show ((g : Nat) : Int).natAbs < base 390 by rw [Int.natAbs_natCast]; exact hgl)
  obtain ⟨q, hqq⟩ : ∃ q, Rat.divInt z kn = q := ⟨_, rfl⟩
  rw [hqq] at Hqn Hqd Hqt
  clear hge hqn hqd hgp hgl hqq
  have c0 := V0.out.c0
  have c1 := V0.out.c1
  have d0 := V1.out.c0
  have d1 := V1.out.c1
  go_wp2_with fail
  refine HG.out.mono ?_
  rintro e n1 ⟨ga, gP, rfl, hig, g1⟩
  have k3 := (Below.refl n1.heap.size n1).alloc (Nat.le_refl _) (.cells #[.int .i64 ga, .pointer gP] 26)
  have G0 := Lib.hid (Cells.new n1 #[.int .i64 ga, .pointer gP] 26)
  have V0 := Lib.hid ((V0.out.keep g1).keep k3)
  have V1 := Lib.hid ((V1.out.keep g1).keep k3)
  have R := Lib.hid ((R.out.keep g1).keep k3)
  have Hz := Lib.hid ((Hz.out.keep g1).keep k3)
  have Hk := Lib.hid ((Hk.out.keep g1).keep k3)
  have Hig := Lib.hid (hig.keep k3)
  have Ku := Lib.hid (below_on (below_on Kt.out g1) k3)
  obtain ⟨pg, hpg⟩ : ∃ p, n1.heap.size = p := ⟨_, rfl⟩
  obtain ⟨wu, hwu⟩ : ∃ wu, n1.alloc (.cells #[.int .i64 ga, .pointer gP] 26) = wu := ⟨_, rfl⟩
  rw [hwu] at G0 V0 V1 R Hz Hk Hig Ku
  rw [hpg] at G0
  clear g1 hig k3 c0 c1 d0 d1
  have HS := Lib.hid (fun v (hb : Below wu.heap.size wu v) => (⟨(V0.out.keep hb).c0, (V0.out.keep hb).c1, (V1.out.keep hb).c0, (V1.out.keep hb).c1, (G0.out.keep hb).c0, (G0.out.keep hb).c1⟩ : v.cell? ⟨w.heap.size, 0, none⟩ = some (.int .i64 a) ∧ v.cell? ⟨w.heap.size, 1, none⟩ = some (.pointer P) ∧ v.cell? ⟨w.heap.size + 1, 0, none⟩ = some (.int .i64 b) ∧ v.cell? ⟨w.heap.size + 1, 1, none⟩ = some (.pointer Q) ∧ v.cell? ⟨pg, 0, none⟩ = some (.int .i64 ga) ∧ v.cell? ⟨pg, 1, none⟩ = some (.pointer gP)))
  have HA := Lib.hid (fun v (hb : Below wu.heap.size wu v) => quotient_any a P ga gP z (g : Int) v (Hz.out.keep hb) (Hig.out.keep hb) (by have := Hgp.out; omega) Lz.out Hgl.out)
  have HB := Lib.hid (fun v (hb : Below wu.heap.size wu v) => quotient_any b Q ga gP (kn : Int) (g : Int) v (Hk.out.keep hb) (Hig.out.keep hb) (by have := Hgp.out; omega) Lk.out Hgl.out)
  go_wp2_with fail
  try simp only [hpg, hwu]
  clear hpg hwu
  refine Till.begin 7 (fun v => v.cell? ⟨w.heap.size, 0, none⟩ = some (.int .i64 a) ∧ v.cell? ⟨w.heap.size, 1, none⟩ = some (.pointer P) ∧ v.cell? ⟨w.heap.size + 1, 0, none⟩ = some (.int .i64 b) ∧ v.cell? ⟨w.heap.size + 1, 1, none⟩ = some (.pointer Q) ∧ v.cell? ⟨pg, 0, none⟩ = some (.int .i64 ga) ∧ v.cell? ⟨pg, 1, none⟩ = some (.pointer gP)) (by kernel_rfl) (HS.out _ (Below.refl _ _).drew) (fun hH => ?_)
  refine Till.tk 0 2 21 (.agg #[.int .i64 a, .pointer P]) hH ?_
  try simp only [Act.put, List.setIfInBounds_toArray, List.set_cons_zero, List.set_cons_succ]
  refine Till.tk 1 2 22 (.agg #[.int .i64 ga, .pointer gP]) hH ?_
  try simp only [Act.put, List.setIfInBounds_toArray, List.set_cons_zero, List.set_cons_succ]
  refine Till.tk 3 5 24 (.agg #[.int .i64 b, .pointer Q]) hH ?_
  try simp only [Act.put, List.setIfInBounds_toArray, List.set_cons_zero, List.set_cons_succ]
  refine Till.tk 4 5 25 (.agg #[.int .i64 ga, .pointer gP]) hH ?_
  try simp only [Act.put, List.setIfInBounds_toArray, List.set_cons_zero, List.set_cons_succ]
  clear hH
  refine Till.one (i := 2) (by kernel_rfl) rfl (fun K hK => ?_)
  go_simp
  refine (HA.out _ (Below.refl _ _).drew).mono ?_
  rintro e v1 ⟨xa, xP, rfl, hx, g1⟩
  have B1 := Lib.hid (below_on (Below.refl wu.heap.size wu).drew g1)
  have Hx1 := Lib.hid hx
  clear g1 hx
  go_wp2_with fail
  refine hK.out _ _ (fun _ => HS.out _ B1.out) ?_
  clear hK K
  try simp only [Act.put, List.setIfInBounds_toArray, List.set_cons_zero, List.set_cons_succ]
  refine Till.one (i := 5) (by kernel_rfl) rfl (fun K hK => ?_)
  go_simp
  refine (HB.out _ B1.out).mono ?_
  rintro e v2 ⟨ya, yP, rfl, hy, g2⟩
  have B2 := Lib.hid (below_on B1.out g2)
  have Hx2 := Lib.hid (Hx1.out.keep g2)
  have Hy2 := Lib.hid hy
  rw [← Hqn.out] at Hx2
  rw [← Hqd.out] at Hy2
  clear g2 hy
  have HO := Lib.hid (of_any xa xP ya yP q v2 Hx2.out Hy2.out)
  go_wp2_with fail
  refine hK.out _ _ (fun _ => HS.out _ B2.out) ?_
  clear hK K
  try simp only [Act.put, List.setIfInBounds_toArray, List.set_cons_zero, List.set_cons_succ]
  refine Till.one (i := 6) (by kernel_rfl) rfl (fun K hK => ?_)
  go_simp
  refine (HO.out).mono ?_
  rintro e v3 ⟨oa, oP, ob, oQ, rfl, ho, g3⟩
  have B3 := Lib.hid (below_on B2.out g3)
  have Ho := Lib.hid ho
  clear g3 ho
  go_wp2_with fail
  refine hK.out _ _ (fun _ => HS.out _ B3.out) ?_
  clear hK K
  try simp only [Act.put, List.setIfInBounds_toArray, List.set_cons_zero, List.set_cons_succ]
  have R := Lib.hid (R.out.keep B3.out)
  have k0 := R.out.c0
  have k1 := R.out.c1
  have k2 := R.out.c2
  have k3 := R.out.c3
  have f0 := R.out.fz 0
  have f1 := R.out.fz 1
  have f2 := R.out.fz 2
  have f3 := R.out.fz 3
  refine Till.one (i := 7) (by kernel_rfl) rfl (fun K hK => ?_)
  go_simp
  refine hK.out _ _ (fun h => absurd h (by simp)) ?_
  clear hK K
  try simp only [Act.put, List.setIfInBounds_toArray, List.set_cons_zero, List.set_cons_succ]
  refine Till.one (i := 8) (by kernel_rfl) rfl (fun K hK => ?_)
  go_simp
  refine hK.out _ _ (fun h => absurd h (by simp)) ?_
  clear hK K
  try simp only [Act.put, List.setIfInBounds_toArray, List.set_cons_zero, List.set_cons_succ]
  refine Till.done (by kernel_rfl) ?_ _
  have Hfin := Lib.hid (Ho.out.wrote R.out (by rfl) (put4_heap v3 (w.heap.size + 1 + 1) (.int .i64 oa) (.pointer oP) (.int .i64 ob) (.pointer oQ)).1 (put4_heap _ _ _ _ _ _).2)
  have Kf := Lib.hid (below_put4 (below_on Ku.out B3.out) (show w.heap.size ≤ w.heap.size + 1 + 1 by omega) (.int .i64 oa) (.pointer oP) (.int .i64 ob) (.pointer oQ))
  go_wp2
  exact bodyPost_ret (v := .tuple #[.agg #[.int .i64 oa, .pointer oP, .int .i64 ob, .pointer oQ], .int .i64 0]) (by simp [results, Tryz.results11, go_sem, k0, k1, k2, k3]) rfl ⟨oa, oP, ob, oQ, rfl, by rw [Hqt.out]; exact Hfin.out, Kf.out⟩
end Go.Proofs.YtbpbfjnndkoioaaGreatDoor
