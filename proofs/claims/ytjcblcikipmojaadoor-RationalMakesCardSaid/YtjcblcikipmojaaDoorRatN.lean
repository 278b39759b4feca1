/- Rationals: Num, Den, Number. -/
import Derived.Test.YtjcblcikipmojaaDoorRatA
import Derived.Deep.RegionHeld3
namespace Go.Proofs.YtjcblcikipmojaaDoor
open Go.RowKit

/-- The text of a rational. -/
def ratTxt (q : Rat) : ByteArray := if q.den = 1 then txt q.num else txt q.num ++ ⟨#[47]⟩ ++ txt (q.den : Int)
theorem sgn_denZ (q : Rat) : sgn (denZ q.den) = if q.den = 1 then 0 else 1 := by
  have := q.den_pos
  unfold sgn denZ
  by_cases h : q.den = 1
  · rw [if_pos h, if_pos h]; rfl
  · rw [if_neg h, if_neg h, if_neg (by omega), if_pos (by omega)]
/-- A parameter of type Rat, boxed. -/
theorem box_rat (w : World) (a : Int) (P : Option Addr) (b : Int) (Q : Option Addr) : Cells (w.alloc (.cells #[.int .i64 a, .pointer P, .int .i64 b, .pointer Q] 41)) w.heap.size [.int .i64 a, .pointer P, .int .i64 b, .pointer Q] := Cells.new w _ _
set_option maxHeartbeats 4000000 in
theorem num_any (a : Int) (P : Option Addr) (b : Int) (Q : Option Addr) (q : Rat) (w : World) (h : RatV w a P b Q q) :
    Calls Tryd.prog 20 #[.agg #[.int .i64 a, .pointer P, .int .i64 b, .pointer Q]] w (NewInt q.num w) := by
  have kk := ((Below.refl w.heap.size w).alloc (Nat.le_refl _) (.cells #[.int .i64 a, .pointer P, .int .i64 b, .pointer Q] 41)).alloc (by simp) (.cells #[.int .i64 a, .pointer P] 26)
  have Hn := Lib.hid (h.num.keep kk)
  have K := Lib.hid kk
  clear h kk
  go_enter Tryd.func20, Tryd.ntmps20
  go_wp2
  exact bodyPost_ret (v := .agg #[.int .i64 a, .pointer P]) (by simp [results, Tryd.results20, go_sem]) rfl ⟨a, P, rfl, Hn.out, K.out⟩
set_option maxHeartbeats 4000000 in
theorem den_any (a : Int) (P : Option Addr) (b : Int) (Q : Option Addr) (q : Rat) (w : World) (h : RatV w a P b Q q) :
    Calls Tryd.prog 21 #[.agg #[.int .i64 a, .pointer P, .int .i64 b, .pointer Q]] w (NewInt (q.den : Int) w) := by
  have kk := ((Below.refl w.heap.size w).alloc (Nat.le_refl _) (.cells #[.int .i64 a, .pointer P, .int .i64 b, .pointer Q] 41)).alloc (by simp) (.cells #[.int .i64 0, .pointer none] 26)
  have R := Lib.hid (Cells.new (w.alloc (.cells #[.int .i64 a, .pointer P, .int .i64 b, .pointer Q] 41)) #[.int .i64 0, .pointer none] 26)
  have V := Lib.hid ((box_rat w a P b Q).keep ((Below.refl _ _).alloc (Nat.le_refl _) (.cells #[.int .i64 0, .pointer none] 26)))
  simp only [World.size_alloc] at R
  have Hd := Lib.hid (h.den.keep kk)
  have Hs := Lib.hid (signZ_any _ (denZ q.den) _ (h.den.keep kk))
  rw [sgn_denZ] at Hs
  have Kk := Lib.hid kk
  clear h kk
  by_cases hd : q.den = 1
  · rw [if_pos hd] at Hs
    rw [hd]
    have Hd1 := Lib.hid hd
    clear hd
    go_enter Tryd.func21, Tryd.ntmps21
    go_wp2_with fail
    refine Hs.out.mono ?_
    rintro e w1 ⟨rfl, h1⟩
    have R := Lib.hid (R.out.keep h1)
    have K1 := Lib.hid (below_on Kk.out h1)
    clear h1
    go_wp2_with fail
    refine (from_any _ _).mono ?_
    rintro e w2 ⟨rfl, h2⟩
    have R := Lib.hid (R.out.keep h2)
    have K2 := Lib.hid (below_put2 (below_on K1.out h2) (show w.heap.size ≤ w.heap.size + 1 by omega) (.int .i64 1) (.pointer none))
    have k0 := R.out.c0
    have k1 := R.out.c1
    have f0 := R.out.fz 0
    have f1 := R.out.fz 1
    clear h2
    go_wp2
    exact bodyPost_ret (v := .agg #[.int .i64 1, .pointer none]) (by simp [results, Tryd.results21, go_sem, k0, k1]) rfl ⟨1, none, rfl, small_int ⟨by decide, by decide⟩, K2.out⟩
  · rw [if_neg hd] at Hs
    have Hd1 := Lib.hid hd
    clear hd
    go_enter Tryd.func21, Tryd.ntmps21
    go_wp2_with fail
    refine Hs.out.mono ?_
    rintro e w1 ⟨rfl, h1⟩
    have R := Lib.hid (R.out.keep h1)
    have V := Lib.hid (V.out.keep h1)
    have K1 := Lib.hid (below_put2 (below_on Kk.out h1) (show w.heap.size ≤ w.heap.size + 1 by omega) (.int .i64 b) (.pointer Q))
    have Hn := Lib.hid ((Hd.out.keep h1).wrote R.out (by rfl) (put2_heap _ (w.heap.size + 1) (.int .i64 b) (.pointer Q)).1 (put2_heap _ _ _ _).2)
    have k0 := R.out.c0
    have k1 := R.out.c1
    have f0 := R.out.fz 0
    have f1 := R.out.fz 1
    have c2 := V.out.c2
    have c3 := V.out.c3
    clear h1
    go_wp2
    exact bodyPost_ret (v := .agg #[.int .i64 b, .pointer Q]) (by simp [results, Tryd.results21, go_sem, k0, k1]) rfl ⟨b, Q, rfl, by have := Hn.out; rwa [denZ_ne Hd1.out] at this, K1.out⟩
set_option maxHeartbeats 8000000 in
theorem number_any (a : Int) (P : Option Addr) (b : Int) (Q : Option Addr) (q : Rat) (w : World) (h : RatV w a P b Q q) (hn : q.num.natAbs < ten 3000) (hdl : q.den < ten 3000) (hg : Good w) :
    Calls Tryd.prog 38 #[.agg #[.int .i64 a, .pointer P, .int .i64 b, .pointer Q]] w fun e w' => e = .returned (.string (ratTxt q)) ∧ Below w.heap.size w w' := by
  have kk := (Below.refl w.heap.size w).alloc (Nat.le_refl _) (.cells #[.int .i64 a, .pointer P, .int .i64 b, .pointer Q] 41)
  have V := Lib.hid (box_rat w a P b Q)
  have Hv := Lib.hid (h.keep kk)
  have Hs := Lib.hid (signZ_any _ (denZ q.den) _ (h.den.keep kk))
  rw [sgn_denZ] at Hs
  have Kk := Lib.hid kk
  have Hw := Lib.hid (fun w' (hb : Below w.heap.size w w') => (hg.below hb).1)
  clear h kk hg
  by_cases hd : q.den = 1
  · rw [if_pos hd] at Hs
    have Hq := Lib.hid (show ratTxt q = txt q.num by unfold ratTxt; rw [if_pos hd])
    rw [Hq.out]
    clear hd hn hdl
    obtain ⟨T, hT⟩ : ∃ T, txt q.num = T := ⟨_, rfl⟩
    rw [hT]
    have HT0 := Lib.hid hT
    clear hT
    go_enter Tryd.func38, Tryd.ntmps38
    go_wp2_with fail
    refine Hs.out.mono ?_
    rintro e w1 ⟨rfl, h1⟩
    have V := Lib.hid (V.out.keep h1)
    have K1 := Lib.hid (below_on Kk.out h1)
    have HT := Lib.hid (show Calls Tryd.prog 9 _ w1 (fun e w2 => e = .returned (.string (txt q.num)) ∧ Below w1.heap.size w1 w2) from textZ_any _ q.num w1 (Hv.out.keep h1).num (Hw.out _ K1.out))
    have c0 := V.out.c0
    have c1 := V.out.c1
    rw [HT0.out] at HT
    clear h1
    go_wp2_with fail
    refine HT.out.mono ?_
    rintro e w2 ⟨rfl, h2⟩
    have K2 := Lib.hid (below_on K1.out h2)
    clear h2
    go_wp2
    go_ret
    exact ⟨rfl, K2.out⟩
  · rw [if_neg hd] at Hs
    have Hq := Lib.hid (show ratTxt q = txt q.num ++ ⟨#[47]⟩ ++ txt (q.den : Int) by unfold ratTxt; rw [if_neg hd])
    rw [Hq.out]
    have s1 := txt_size q.num hn (by decide)
    have s2 := txt_size (q.den : Int) (k := 3000) (by rw [Int.natAbs_natCast]; exact hdl) (by decide)
    have Hd1 := Lib.hid hd
    clear hd hn hdl
    obtain ⟨T, hT⟩ : ∃ T, txt q.num = T := ⟨_, rfl⟩
    obtain ⟨U, hU⟩ : ∃ U, txt (q.den : Int) = U := ⟨_, rfl⟩
    rw [hT] at s1 ⊢
    rw [hU] at s2 ⊢
    have HT := Lib.hid hT
    have HU := Lib.hid hU
    clear hT hU
    go_enter Tryd.func38, Tryd.ntmps38
    go_wp2_with fail
    refine Hs.out.mono ?_
    rintro e w1 ⟨rfl, h1⟩
    have V := Lib.hid (V.out.keep h1)
    have Hv := Lib.hid (Hv.out.keep h1)
    have K1 := Lib.hid (below_on Kk.out h1)
    have HA := Lib.hid (fun w' (hb : Below w1.heap.size w1 w') => show Calls Tryd.prog 9 _ w' (fun e w2 => e = .returned (.string (txt q.num)) ∧ Below w'.heap.size w' w2) from textZ_any _ q.num w' (Hv.out.keep hb).num (Hw.out _ (below_on K1.out hb)))
    have HB := Lib.hid (fun w' (hb : Below w1.heap.size w1 w') => show Calls Tryd.prog 9 _ w' (fun e w2 => e = .returned (.string (txt (q.den : Int))) ∧ Below w'.heap.size w' w2) from by
      have := textZ_any _ (denZ q.den) w' (Hv.out.keep hb).den (Hw.out _ (below_on K1.out hb))
      rwa [denZ_ne Hd1.out] at this)
    simp only [HT.out] at HA
    simp only [HU.out] at HB
    have cat1 : ∀ W : World, (Op.stringOp .add T ⟨#[47]⟩).run Tryd.prog W = .ok (.string (T ++ ⟨#[47]⟩)) W := fun W => run_string_add_sum W _ _ (by show T.size + 1 ≤ _; omega)
    have cat2 : ∀ W : World, (Op.stringOp .add (T ++ ⟨#[47]⟩) U).run Tryd.prog W = .ok (.string (T ++ ⟨#[47]⟩ ++ U)) W := fun W => run_string_add_sum W _ _ (by rw [ByteArray.size_append]; show T.size + 1 + U.size ≤ _; omega)
    have HS := Lib.hid (fun w' (hb : Below w1.heap.size w1 w') => (⟨(V.out.keep hb).c0, (V.out.keep hb).c1, (V.out.keep hb).c2, (V.out.keep hb).c3, hb⟩ : w'.cell? ⟨w.heap.size, 0, none⟩ = some (.int .i64 a) ∧ w'.cell? ⟨w.heap.size, 1, none⟩ = some (.pointer P) ∧ w'.cell? ⟨w.heap.size, 2, none⟩ = some (.int .i64 b) ∧ w'.cell? ⟨w.heap.size, 3, none⟩ = some (.pointer Q) ∧ Below w1.heap.size w1 w'))
    clear h1
    go_wp2_with fail
    go_region_held3 (fun w' => w'.cell? ⟨w.heap.size, 0, none⟩ = some (.int .i64 a) ∧ w'.cell? ⟨w.heap.size, 1, none⟩ = some (.pointer P) ∧ w'.cell? ⟨w.heap.size, 2, none⟩ = some (.int .i64 b) ∧ w'.cell? ⟨w.heap.size, 3, none⟩ = some (.pointer Q) ∧ Below w1.heap.size w1 w')
      (first
        | assumption
        | exact HS.out _ (Below.refl _ _).drew)
      (first
        | (go_at_call_of 9 P; refine (HA.out _ (And.right (And.right (And.right (And.right (by assumption)))))).mono ?_; rintro e w' ⟨rfl, hb⟩; have hk1 := HS.out _ (below_on (And.right (And.right (And.right (And.right (by assumption))))) hb))
        | (go_at_call_of 9 Q; refine (HB.out _ (And.right (And.right (And.right (And.right (by assumption)))))).mono ?_; rintro e w' ⟨rfl, hb⟩; have hk2 := HS.out _ (below_on (And.right (And.right (And.right (And.right (by assumption))))) hb)))
    all_goals
      go_split_ands
      have hfin : Below w1.heap.size w1 w' := by assumption
      have Hfin := Lib.hid (below_on K1.out hfin)
      clear hfin
      go_wp2
      go_ret
      exact ⟨rfl, Hfin.out⟩
end Go.Proofs.YtjcblcikipmojaaDoor
