/- The reference of rationals: Text. -/
import Derived.Test.YtjcblcikipmojaaGreatDoorRatG
namespace Go.Proofs.YtjcblcikipmojaaGreatDoor
open Go.RowKit

theorem txt_not1 {z : Int} (h0 : 0 ≤ z) (h : z ≠ 1) : ((txt z).toList == [49]) = false := by
  rw [ByteArray.toList_eq, beq_eq_false_iff_ne]
  intro e
  have h1 := (dl_txt z).2
  rw [e] at h1
  have h2 : dval (dl [49]) = 1 := by decide +kernel
  omega
theorem ten_size {z : Int} (h : z.natAbs < ten 2900) : (txt z).size ≤ 2901 := txt_size z h (by decide)
set_option maxRecDepth 100000 in
set_option maxHeartbeats 8000000 in
theorem text_pos (z : Int) (kn : Nat) (w : World) (hz : z.natAbs < ten 2900) (hk : kn < ten 2900) (hkp : 0 < kn) :
    Calls Tryz.prog 85 #[.string (txt z), .string (txt (kn : Int))] w fun e w' => e = .returned (.string (ratTxt (Rat.divInt z kn))) ∧ Below w.heap.size w w' := by
  have HS := Lib.hid (fun w => refSign_any (kn : Int) w (by have := ten_size (z := (kn : Int)) (by rw [Int.natAbs_natCast]; exact hk); omega))
  rw [show sgn (kn : Int) = 1 by unfold sgn; rw [if_neg (by omega), if_pos (by omega)]] at HS
  have sz := ten_size hz
  have sk : (txt (kn : Int)).size ≤ 2901 := ten_size (by rw [Int.natAbs_natCast]; exact hk)
  obtain ⟨hqn, hqd⟩ := rat_make (n := z) (k := kn) hkp
  obtain ⟨g, hge⟩ : ∃ g, Nat.gcd (z).natAbs kn = g := ⟨_, rfl⟩
  have hgp : 0 < g := by rw [← hge]; exact Nat.gcd_pos_of_pos_right _ hkp
  have hgk : g ≤ kn := by rw [← hge]; exact Nat.gcd_le_right _ hkp
  have sg : (txt (g : Int)).size ≤ 2901 := ten_size (by rw [Int.natAbs_natCast]; exact Nat.lt_of_le_of_lt hgk hk)
  have HG := Lib.hid (fun w => refGcd_any z (kn : Int) w (by omega) (by omega))
  have HD := Lib.hid (fun w => refDivMod_any z (g : Int) w (by omega) (by omega) (by omega))
  have HE := Lib.hid (fun w => refDivMod_any (kn : Int) (g : Int) w (by omega) (by omega) (by omega))
  rw [Int.natAbs_natCast, hge] at HG
  rw [hge] at hqn hqd
  obtain ⟨q, hqq⟩ : ∃ q, Rat.divInt z kn = q := ⟨_, rfl⟩
  rw [hqq] at hqn hqd
  rw [hqq]
  have Hqn := Lib.hid hqn
  have Hqd := Lib.hid (show ((q.den : Nat) : Int) = (kn : Int) / (g : Int) by rw [hqd]; exact Int.natCast_ediv _ _)
  have Hgp := Lib.hid (show (0 : Int) < (g : Int) by omega)
  have sn : (txt q.num).size ≤ 2901 := ten_size (by
    have h1 := Int.natAbs_ediv_le_natAbs (z) (g : Int)
    rw [← hqn] at h1
    omega)
  have sd : (txt (q.den : Int)).size ≤ 2901 := ten_size (by
    rw [Int.natAbs_natCast, hqd]; exact Nat.lt_of_le_of_lt (Nat.div_le_self _ _) hk)
  have hn1 : q.den ≠ 1 → ((txt (q.den : Int)).toList == [49]) = false := fun h => txt_not1 (by omega) (by omega)
  obtain ⟨T, hT⟩ : ∃ T, txt q.num = T := ⟨_, rfl⟩
  obtain ⟨U, hU⟩ : ∃ U, txt (q.den : Int) = U := ⟨_, rfl⟩
  rw [hT] at sn
  rw [hU] at sd hn1
  have HT := Lib.hid hT
  have HU := Lib.hid hU
  have Hways := Lib.hid (show (q.den = 1 ∧ ratTxt q = T ∧ U = ⟨#[49]⟩) ∨ (q.den ≠ 1 ∧ ratTxt q = T ++ ⟨#[47]⟩ ++ U ∧ (U.toList == [49]) = false) by
    by_cases h : q.den = 1
    · exact .inl ⟨h, by unfold ratTxt; rw [if_pos h, hT], by rw [← hU, h]; exact txt_1⟩
    · exact .inr ⟨h, by unfold ratTxt; rw [if_neg h, hT, hU], hn1 h⟩)
  obtain ⟨X, hX⟩ : ∃ X, ratTxt q = X := ⟨_, rfl⟩
  rw [hX] at Hways ⊢
  obtain ⟨Z, hZ⟩ : ∃ Z, txt z = Z := ⟨_, rfl⟩
  obtain ⟨Y, hY⟩ : ∃ Y, txt (kn : Int) = Y := ⟨_, rfl⟩
  obtain ⟨G, hG⟩ : ∃ G, txt (g : Int) = G := ⟨_, rfl⟩
  rw [hZ, hY, hG] at HG
  rw [hZ, hG] at HD
  rw [hY, hG] at HE
  rw [hY] at HS
  rw [hZ, hY]
  clear sz sk hqn hqd hge hgp hgk sg hn1 hT hU hZ hY hG hz hk hkp hqq hX
  go_enter Tryz.func85, Tryz.ntmps85
  go_wp2_with fail
  refine (HS.out _).mono ?_
  rintro e w1 ⟨rfl, rfl⟩
  have K2 := Lib.hid (Below.refl w.heap.size w)
  go_wp2_with fail
  refine (HG.out _).mono ?_
  rintro e w3 ⟨rfl, h3⟩
  have K3 := Lib.hid (below_on K2.out h3)
  clear h3
  go_wp2_with fail
  refine (HD.out _).mono ?_
  rintro e w4 ⟨⟨q1, r1, rfl, hdm⟩, h4⟩
  have e1 := dm_ediv Hgp.out hdm
  rw [← Hqn.out] at e1
  subst e1
  have K4 := Lib.hid (below_on K3.out h4)
  clear h4 hdm
  rw [HT.out]
  go_wp2_with fail
  refine (HE.out _).mono ?_
  rintro e w5 ⟨⟨q2, r2, rfl, hdm⟩, h5⟩
  have e2 := dm_ediv Hgp.out hdm
  rw [← Hqd.out] at e2
  subst e2
  have K5 := Lib.hid (below_on K4.out h5)
  clear h5 hdm
  rw [HU.out]
  rcases Hways.out with ⟨hd, hfin, rfl⟩ | ⟨hd, hfin, hn1⟩
  · have Hfin := Lib.hid hfin
    clear hd hfin
    go_wp2
    go_ret
    exact ⟨by rw [Hfin.out]; rfl, K5.out⟩
  · have Hfin := Lib.hid hfin
    have cat1 : ∀ W : World, (Op.stringOp .add T ⟨#[47]⟩).run Tryz.prog W = .ok (.string (T ++ ⟨#[47]⟩)) W := fun W => run_string_add_sum W _ _ (by show T.size + 1 ≤ _; omega)
    have cat2 : ∀ W : World, (Op.stringOp .add (T ++ ⟨#[47]⟩) U).run Tryz.prog W = .ok (.string (T ++ ⟨#[47]⟩ ++ U)) W := fun W => run_string_add_sum W _ _ (by rw [ByteArray.size_append]; show T.size + 1 + U.size ≤ _; omega)
    clear hd hfin
    go_wp2
    go_ret
    exact ⟨by rw [Hfin.out]; rfl, K5.out⟩
set_option maxRecDepth 100000 in
set_option maxHeartbeats 8000000 in
theorem text_neg (z : Int) (kn : Nat) (w : World) (hz : (-z).natAbs < ten 2900) (hk : kn < ten 2900) (hkp : 0 < kn) :
    Calls Tryz.prog 85 #[.string (txt z), .string (txt (-(kn : Int)))] w fun e w' => e = .returned (.string (ratTxt (Rat.divInt (-z) kn))) ∧ Below w.heap.size w w' := by
  have sz0 : (txt z).size ≤ 2901 := ten_size (by rw [Int.natAbs_neg] at hz; exact hz)
  have sk0 : (txt (-(kn : Int))).size ≤ 2901 := ten_size (by rw [Int.natAbs_neg, Int.natAbs_natCast]; exact hk)
  have HS := Lib.hid (fun w => refSign_any (-(kn : Int)) w (by omega))
  rw [show sgn (-(kn : Int)) = -1 by unfold sgn; rw [if_pos (by omega)]] at HS
  have HN := Lib.hid (fun w => refNeg_any z w (by omega))
  have HM := Lib.hid (fun w => refNeg_any (-(kn : Int)) w (by omega))
  rw [Int.neg_neg] at HM
  have sz := ten_size hz
  have sk : (txt (kn : Int)).size ≤ 2901 := ten_size (by rw [Int.natAbs_natCast]; exact hk)
  obtain ⟨hqn, hqd⟩ := rat_make (n := (-z)) (k := kn) hkp
  obtain ⟨g, hge⟩ : ∃ g, Nat.gcd ((-z)).natAbs kn = g := ⟨_, rfl⟩
  have hgp : 0 < g := by rw [← hge]; exact Nat.gcd_pos_of_pos_right _ hkp
  have hgk : g ≤ kn := by rw [← hge]; exact Nat.gcd_le_right _ hkp
  have sg : (txt (g : Int)).size ≤ 2901 := ten_size (by rw [Int.natAbs_natCast]; exact Nat.lt_of_le_of_lt hgk hk)
  have HG := Lib.hid (fun w => refGcd_any (-z) (kn : Int) w (by omega) (by omega))
  have HD := Lib.hid (fun w => refDivMod_any (-z) (g : Int) w (by omega) (by omega) (by omega))
  have HE := Lib.hid (fun w => refDivMod_any (kn : Int) (g : Int) w (by omega) (by omega) (by omega))
  rw [Int.natAbs_natCast, hge] at HG
  rw [hge] at hqn hqd
  obtain ⟨q, hqq⟩ : ∃ q, Rat.divInt (-z) kn = q := ⟨_, rfl⟩
  rw [hqq] at hqn hqd
  rw [hqq]
  have Hqn := Lib.hid hqn
  have Hqd := Lib.hid (show ((q.den : Nat) : Int) = (kn : Int) / (g : Int) by rw [hqd]; exact Int.natCast_ediv _ _)
  have Hgp := Lib.hid (show (0 : Int) < (g : Int) by omega)
  have sn : (txt q.num).size ≤ 2901 := ten_size (by
    have h1 := Int.natAbs_ediv_le_natAbs ((-z)) (g : Int)
    rw [← hqn] at h1
    omega)
  have sd : (txt (q.den : Int)).size ≤ 2901 := ten_size (by
    rw [Int.natAbs_natCast, hqd]; exact Nat.lt_of_le_of_lt (Nat.div_le_self _ _) hk)
  have hn1 : q.den ≠ 1 → ((txt (q.den : Int)).toList == [49]) = false := fun h => txt_not1 (by omega) (by omega)
  obtain ⟨T, hT⟩ : ∃ T, txt q.num = T := ⟨_, rfl⟩
  obtain ⟨U, hU⟩ : ∃ U, txt (q.den : Int) = U := ⟨_, rfl⟩
  rw [hT] at sn
  rw [hU] at sd hn1
  have HT := Lib.hid hT
  have HU := Lib.hid hU
  have Hways := Lib.hid (show (q.den = 1 ∧ ratTxt q = T ∧ U = ⟨#[49]⟩) ∨ (q.den ≠ 1 ∧ ratTxt q = T ++ ⟨#[47]⟩ ++ U ∧ (U.toList == [49]) = false) by
    by_cases h : q.den = 1
    · exact .inl ⟨h, by unfold ratTxt; rw [if_pos h, hT], by rw [← hU, h]; exact txt_1⟩
    · exact .inr ⟨h, by unfold ratTxt; rw [if_neg h, hT, hU], hn1 h⟩)
  obtain ⟨X, hX⟩ : ∃ X, ratTxt q = X := ⟨_, rfl⟩
  rw [hX] at Hways ⊢
  obtain ⟨Z, hZ⟩ : ∃ Z, txt (-z) = Z := ⟨_, rfl⟩
  obtain ⟨Y, hY⟩ : ∃ Y, txt (kn : Int) = Y := ⟨_, rfl⟩
  obtain ⟨G, hG⟩ : ∃ G, txt (g : Int) = G := ⟨_, rfl⟩
  obtain ⟨Z0, hZ0⟩ : ∃ Z, txt z = Z := ⟨_, rfl⟩
  obtain ⟨Y0, hY0⟩ : ∃ Y, txt (-(kn : Int)) = Y := ⟨_, rfl⟩
  rw [hZ, hY, hG] at HG
  rw [hZ, hG] at HD
  rw [hY, hG] at HE
  rw [hY0] at HS
  rw [hZ0, hZ] at HN
  rw [hY0, hY] at HM
  rw [hZ0, hY0]
  clear sz sk hqn hqd hge hgp hgk sg hn1 hT hU hZ hY hG hz hk hkp hqq hX hZ0 hY0 sz0 sk0
  go_enter Tryz.func85, Tryz.ntmps85
  go_wp2_with fail
  refine (HS.out _).mono ?_
  rintro e w1 ⟨rfl, rfl⟩
  go_wp2_with fail
  refine (HN.out _).mono ?_
  rintro e w1 ⟨rfl, h1⟩
  have K1 := Lib.hid h1
  clear h1
  go_wp2_with fail
  refine (HM.out _).mono ?_
  rintro e w2 ⟨rfl, h2⟩
  have K2 := Lib.hid (below_on K1.out h2)
  clear h2
  go_wp2_with fail
  refine (HG.out _).mono ?_
  rintro e w3 ⟨rfl, h3⟩
  have K3 := Lib.hid (below_on K2.out h3)
  clear h3
  go_wp2_with fail
  refine (HD.out _).mono ?_
  rintro e w4 ⟨⟨q1, r1, rfl, hdm⟩, h4⟩
  have e1 := dm_ediv Hgp.out hdm
  rw [← Hqn.out] at e1
  subst e1
  have K4 := Lib.hid (below_on K3.out h4)
  clear h4 hdm
  rw [HT.out]
  go_wp2_with fail
  refine (HE.out _).mono ?_
  rintro e w5 ⟨⟨q2, r2, rfl, hdm⟩, h5⟩
  have e2 := dm_ediv Hgp.out hdm
  rw [← Hqd.out] at e2
  subst e2
  have K5 := Lib.hid (below_on K4.out h5)
  clear h5 hdm
  rw [HU.out]
  rcases Hways.out with ⟨hd, hfin, rfl⟩ | ⟨hd, hfin, hn1⟩
  · have Hfin := Lib.hid hfin
    clear hd hfin
    go_wp2
    go_ret
    exact ⟨by rw [Hfin.out]; rfl, K5.out⟩
  · have Hfin := Lib.hid hfin
    have cat1 : ∀ W : World, (Op.stringOp .add T ⟨#[47]⟩).run Tryz.prog W = .ok (.string (T ++ ⟨#[47]⟩)) W := fun W => run_string_add_sum W _ _ (by show T.size + 1 ≤ _; omega)
    have cat2 : ∀ W : World, (Op.stringOp .add (T ++ ⟨#[47]⟩) U).run Tryz.prog W = .ok (.string (T ++ ⟨#[47]⟩ ++ U)) W := fun W => run_string_add_sum W _ _ (by rw [ByteArray.size_append]; show T.size + 1 + U.size ≤ _; omega)
    clear hd hfin
    go_wp2
    go_ret
    exact ⟨by rw [Hfin.out]; rfl, K5.out⟩
/-- Text of any quotient. -/
theorem refRat_any (z k : Int) (w : World) (hz : z.natAbs < ten 2900) (hk : k.natAbs < ten 2900) (hk0 : k ≠ 0) :
    Calls Tryz.prog 85 #[.string (txt z), .string (txt k)] w fun e w' => e = .returned (.string (ratTxt (Rat.divInt z k))) ∧ Below w.heap.size w w' := by
  rcases Int.lt_or_gt_of_ne hk0 with hn | hp
  · have e : k = -((k.natAbs : Nat) : Int) := by omega
    have e2 : Rat.divInt z k = Rat.divInt (-z) (k.natAbs : Nat) := by rw [← rat_neg]; congr 1; omega
    have h := text_neg z k.natAbs w (by rw [Int.natAbs_neg]; exact hz) hk (by omega)
    rw [← e] at h
    rw [e2]
    exact h
  · have e : k = ((k.natAbs : Nat) : Int) := by omega
    have h := text_pos z k.natAbs w hz hk (by omega)
    rw [← e] at h
    exact h
end Go.Proofs.YtjcblcikipmojaaGreatDoor
