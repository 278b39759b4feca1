/- The reference of rationals: Check, its walk. -/
import Derived.Test.YtbpbfjnndkoioaaGreatDoorRatG
namespace Go.Proofs.YtbpbfjnndkoioaaGreatDoor
open Go.RowKit

theorem txt_not1 {z : Int} (h0 : 0 ≤ z) (h : z ≠ 1) : ((txt z).toList == [49]) = false := by
  rw [ByteArray.toList_eq, beq_eq_false_iff_ne]
  intro e
  have h1 := (dl_txt z).2
  rw [e] at h1
  have h2 : dval (dl [49]) = 1 := by decide +kernel
  omega
theorem ten_size {z : Int} (h : z.natAbs < ten 2900) : (txt z).size ≤ 2901 := txt_size z h (by decide)
set_option maxRecDepth 100000 in
set_option maxHeartbeats 8000000 in
theorem text_pos (z : Int) (kn : Nat) (w : World) (hz : z.natAbs < ten 2900) (hk : kn < ten 2900) (hkp : 0 < kn) :
    Calls Tryz.prog 32 #[.string (txt z), .string (txt (kn : Int))] w fun e w' => e = .returned (.string (ratTxt (Rat.divInt z kn))) ∧ Below w.heap.size w w' := by
  have HS := Lib.hid (fun w => refSign_any (kn : Int) w (by have := ten_size (z := (kn : Int)) (by rw [Int.natAbs_natCast]; exact hk); omega))
  rw [show sgn (kn : Int) = 1 by unfold sgn; rw [if_neg (by omega), if_pos (by omega)]] at HS
  have sz := ten_size hz
  have sk : (txt (kn : Int)).size ≤ 2901 := ten_size (by rw [Int.natAbs_natCast]; exact hk)
  obtain ⟨hqn, hqd⟩ := rat_make (n := z) (k := kn) hkp
  obtain ⟨g, hge⟩ : ∃ g, Nat.gcd (z).natAbs kn = g := ⟨_, rfl⟩
  have hgp : 0 < g := by rw [← hge]; exact Nat.gcd_pos_of_pos_right _ hkp
  have hgk : g ≤ kn := by rw [← hge]; exact Nat.gcd_le_right _ hkp
  have sg : (txt (g : Int)).size ≤ 2901 := ten_size (by rw [Int.natAbs_natCast]; exact Nat.lt_of_le_of_lt hgk hk)
  have HG := Lib.hid (fun w => refGcd_any z (kn : Int) w (by omega) (by omega))
  have HD := Lib.hid (fun w => refDivMod_any z (g : Int) w (by omega) (by omega) (by omega))
  have HE := Lib.hid (fun w => refDivMod_any (kn : Int) (g : Int) w (by omega) (by omega) (by omega))
  rw [Int.natAbs_natCast, hge] at HG
  rw [hge] at hqn hqd
  obtain ⟨q, hqq⟩ : ∃ q, Rat.divInt z kn = q := ⟨_, rfl⟩
  rw [hqq] at hqn hqd
  rw [hqq]
  have Hqn := Lib.hid hqn
  have Hqd := Lib.hid (show ((q.den : Nat) : Int) = (kn : Int) / (g : Int) by rw [hqd]; exact Int.natCast_ediv _ _)
  have Hgp := Lib.hid (show (0 : Int) < (g : Int) by omega)
  have sn : (txt q.num).size ≤ 2901 := ten_size (by
    have h1 := Int.natAbs_ediv_le_natAbs (z) (g : Int)
    rw [← hqn] at h1
    omega)
  have sd : (txt (q.den : Int)).size ≤ 2901 := ten_size (by
    rw [Int.natAbs_natCast, hqd]; exact Nat.lt_of_le_of_lt (Nat.div_le_self _ _) hk)
  have hn1 : q.den ≠ 1 → ((txt (q.den : Int)).toList == [49]) = false := fun h => txt_not1 (by omega) (by omega)
  obtain ⟨T, hT⟩ : ∃ T, txt q.num = T := ⟨_, rfl⟩
  obtain ⟨U, hU⟩ : ∃ U, txt (q.den : Int) = U := ⟨_, rfl⟩
  rw [hT] at sn
  rw [hU] at sd hn1
  have HT := Lib.hid hT
  have HU := Lib.hid hU
  have Hways := Lib.hid (show (q.den = 1 ∧ ratTxt q = T ∧ U = ⟨#[49]⟩) ∨ (q.den ≠ 1 ∧ ratTxt q = T ++ ⟨#[47]⟩ ++ U ∧ (U.toList == [49]) = false) by
    by_cases h : q.den = 1
    · exact .inl ⟨h, by unfold ratTxt; rw [if_pos h, hT], by rw [← hU, h]; exact txt_1⟩
    · exact .inr ⟨h, by unfold ratTxt; rw [if_neg h, hT, hU], hn1 h⟩)
  obtain ⟨X, hX⟩ : ∃ X, ratTxt q = X := ⟨_, rfl⟩
  rw [hX] at Hways ⊢
  obtain ⟨Z, hZ⟩ : ∃ Z, txt z = Z := ⟨_, rfl⟩
  obtain ⟨Y, hY⟩ : ∃ Y, txt (kn : Int) = Y := ⟨_, rfl⟩
  obtain ⟨G, hG⟩ : ∃ G, txt (g : Int) = G := ⟨_, rfl⟩
  rw [hZ, hY, hG] at HG
  rw [hZ, hG] at HD
  rw [hY, hG] at HE
  rw [hY] at HS
  rw [hZ, hY]
  clear sz sk hqn hqd hge hgp hgk sg hn1 hT hU hZ hY hG hz hk hkp hqq hX
  go_enter Tryz.func32, Tryz.ntmps32
  go_wp2_with fail
  refine (HS.out _).mono ?_
  rintro e w1 ⟨rfl, rfl⟩
  have K2 := Lib.hid (Below.refl w.heap.size w)
  go_wp2_with fail
  refine (HG.out _).mono ?_
  rintro e w3 ⟨rfl, h3⟩
  have K3 := Lib.hid (below_on K2.out h3)
  clear h3
  go_wp2_with fail
  refine (HD.out _).mono ?_
  rintro e w4 ⟨⟨q1, r1, rfl, hdm⟩, h4⟩
  have e1 := dm_ediv Hgp.out hdm
  rw [← Hqn.out] at e1
  subst e1
  have K4 := Lib.hid (below_on K3.out h4)
  clear h4 hdm
  rw [HT.out]
  go_wp2_with fail
  refine (HE.out _).mono ?_
  rintro e w5 ⟨⟨q2, r2, rfl, hdm⟩, h5⟩
  have e2 := dm_ediv Hgp.out hdm
  rw [← Hqd.out] at e2
  subst e2
  have K5 := Lib.hid (below_on K4.out h5)
  clear h5 hdm
  rw [HU.out]
  rcases Hways.out with ⟨hd, hfin, rfl⟩ | ⟨hd, hfin, hn1⟩
  · have Hfin := Lib.hid hfin
    clear hd hfin
    go_wp2
    go_ret
    exact ⟨by rw [Hfin.out]; rfl, K5.out⟩
  · have Hfin := Lib.hid hfin
    have cat1 : ∀ W : World, (Op.stringOp .add T ⟨#[47]⟩).run Tryz.prog W = .ok (.string (T ++ ⟨#[47]⟩)) W := fun W => run_string_add_sum W _ _ (by show T.size + 1 ≤ _; omega)
    have cat2 : ∀ W : World, (Op.stringOp .add (T ++ ⟨#[47]⟩) U).run Tryz.prog W = .ok (.string (T ++ ⟨#[47]⟩ ++ U)) W := fun W => run_string_add_sum W _ _ (by rw [ByteArray.size_append]; show T.size + 1 + U.size ≤ _; omega)
    clear hd hfin
    go_wp2
    go_ret
    exact ⟨by rw [Hfin.out]; rfl, K5.out⟩
set_option maxRecDepth 100000 in
set_option maxHeartbeats 8000000 in
theorem text_neg (z : Int) (kn : Nat) (w : World) (hz : (-z).natAbs < ten 2900) (hk : kn < ten 2900) (hkp : 0 < kn) :
    Calls Tryz.prog 32 #[.string (txt z), .string (txt (-(kn : Int)))] w fun e w' => e = .returned (.string (ratTxt (Rat.divInt (-z) kn))) ∧ Below w.heap.size w w' := by
  have sz0 : (txt z).size ≤ 2901 := ten_size (by rw [Int.natAbs_neg] at hz; exact hz)
  have sk0 : (txt (-(kn : Int))).size ≤ 2901 := ten_size (by rw [Int.natAbs_neg, Int.natAbs_natCast]; exact hk)
  have HS := Lib.hid (fun w => refSign_any (-(kn : Int)) w (by omega))
  rw [show sgn (-(kn : Int)) = -1 by unfold sgn; rw [if_pos (by omega)]] at HS
  have HN := Lib.hid (fun w => refNeg_any z w (by omega))
  have HM := Lib.hid (fun w => refNeg_any (-(kn : Int)) w (by omega))
  rw [Int.neg_neg] at HM
  have sz := ten_size hz
  have sk : (txt (kn : Int)).size ≤ 2901 := ten_size (by rw [Int.natAbs_natCast]; exact hk)
  obtain ⟨hqn, hqd⟩ := rat_make (n := (-z)) (k := kn) hkp
  obtain ⟨g, hge⟩ : ∃ g, Nat.gcd ((-z)).natAbs kn = g := ⟨_, rfl⟩
  have hgp : 0 < g := by rw [← hge]; exact Nat.gcd_pos_of_pos_right _ hkp
  have hgk : g ≤ kn := by rw [← hge]; exact Nat.gcd_le_right _ hkp
  have sg : (txt (g : Int)).size ≤ 2901 := ten_size (by rw [Int.natAbs_natCast]; exact Nat.lt_of_le_of_lt hgk hk)
  have HG := Lib.hid (fun w => refGcd_any (-z) (kn : Int) w (by omega) (by omega))
  have HD := Lib.hid (fun w => refDivMod_any (-z) (g : Int) w (by omega) (by omega) (by omega))
  have HE := Lib.hid (fun w => refDivMod_any (kn : Int) (g : Int) w (by omega) (by omega) (by omega))
  rw [Int.natAbs_natCast, hge] at HG
  rw [hge] at hqn hqd
  obtain ⟨q, hqq⟩ : ∃ q, Rat.divInt (-z) kn = q := ⟨_, rfl⟩
  rw [hqq] at hqn hqd
  rw [hqq]
  have Hqn := Lib.hid hqn
  have Hqd := Lib.hid (show ((q.den : Nat) : Int) = (kn : Int) / (g : Int) by rw [hqd]; exact Int.natCast_ediv _ _)
  have Hgp := Lib.hid (show (0 : Int) < (g : Int) by omega)
  have sn : (txt q.num).size ≤ 2901 := ten_size (by
    have h1 := Int.natAbs_ediv_le_natAbs ((-z)) (g : Int)
    rw [← hqn] at h1
    omega)
  have sd : (txt (q.den : Int)).size ≤ 2901 := ten_size (by
    rw [Int.natAbs_natCast, hqd]; exact Nat.lt_of_le_of_lt (Nat.div_le_self _ _) hk)
  have hn1 : q.den ≠ 1 → ((txt (q.den : Int)).toList == [49]) = false := fun h => txt_not1 (by omega) (by omega)
  obtain ⟨T, hT⟩ : ∃ T, txt q.num = T := ⟨_, rfl⟩
  obtain ⟨U, hU⟩ : ∃ U, txt (q.den : Int) = U := ⟨_, rfl⟩
  rw [hT] at sn
  rw [hU] at sd hn1
  have HT := Lib.hid hT
  have HU := Lib.hid hU
  have Hways := Lib.hid (show (q.den = 1 ∧ ratTxt q = T ∧ U = ⟨#[49]⟩) ∨ (q.den ≠ 1 ∧ ratTxt q = T ++ ⟨#[47]⟩ ++ U ∧ (U.toList == [49]) = false) by
    by_cases h : q.den = 1
    · exact .inl ⟨h, by unfold ratTxt; rw [if_pos h, hT], by rw [← hU, h]; exact txt_1⟩
    · exact .inr ⟨h, by unfold ratTxt; rw [if_neg h, hT, hU], hn1 h⟩)
  obtain ⟨X, hX⟩ : ∃ X, ratTxt q = X := ⟨_, rfl⟩
  rw [hX] at Hways ⊢
  obtain ⟨Z, hZ⟩ : ∃ Z, txt (-z) = Z := ⟨_, rfl⟩
  obtain ⟨Y, hY⟩ : ∃ Y, txt (kn : Int) = Y := ⟨_, rfl⟩
  obtain ⟨G, hG⟩ : ∃ G, txt (g : Int) = G := ⟨_, rfl⟩
  obtain ⟨Z0, hZ0⟩ : ∃ Z, txt z = Z := ⟨_, rfl⟩
  obtain ⟨Y0, hY0⟩ : ∃ Y, txt (-(kn : Int)) = Y := ⟨_, rfl⟩
  rw [hZ, hY, hG] at HG
  rw [hZ, hG] at HD
  rw [hY, hG] at HE
  rw [hY0] at HS
  rw [hZ0, hZ] at HN
  rw [hY0, hY] at HM
  rw [hZ0, hY0]
  clear sz sk hqn hqd hge hgp hgk sg hn1 hT hU hZ hY hG hz hk hkp hqq hX hZ0 hY0 sz0 sk0
  go_enter Tryz.func32, Tryz.ntmps32
  go_wp2_with fail
  refine (HS.out _).mono ?_
  rintro e w1 ⟨rfl, rfl⟩
  go_wp2_with fail
  refine (HN.out _).mono ?_
  rintro e w1 ⟨rfl, h1⟩
  have K1 := Lib.hid h1
  clear h1
  go_wp2_with fail
  refine (HM.out _).mono ?_
  rintro e w2 ⟨rfl, h2⟩
  have K2 := Lib.hid (below_on K1.out h2)
  clear h2
  go_wp2_with fail
  refine (HG.out _).mono ?_
  rintro e w3 ⟨rfl, h3⟩
  have K3 := Lib.hid (below_on K2.out h3)
  clear h3
  go_wp2_with fail
  refine (HD.out _).mono ?_
  rintro e w4 ⟨⟨q1, r1, rfl, hdm⟩, h4⟩
  have e1 := dm_ediv Hgp.out hdm
  rw [← Hqn.out] at e1
  subst e1
  have K4 := Lib.hid (below_on K3.out h4)
  clear h4 hdm
  rw [HT.out]
  go_wp2_with fail
  refine (HE.out _).mono ?_
  rintro e w5 ⟨⟨q2, r2, rfl, hdm⟩, h5⟩
  have e2 := dm_ediv Hgp.out hdm
  rw [← Hqd.out] at e2
  subst e2
  have K5 := Lib.hid (below_on K4.out h5)
  clear h5 hdm
  rw [HU.out]
  rcases Hways.out with ⟨hd, hfin, rfl⟩ | ⟨hd, hfin, hn1⟩
  · have Hfin := Lib.hid hfin
    clear hd hfin
    go_wp2
    go_ret
    exact ⟨by rw [Hfin.out]; rfl, K5.out⟩
  · have Hfin := Lib.hid hfin
    have cat1 : ∀ W : World, (Op.stringOp .add T ⟨#[47]⟩).run Tryz.prog W = .ok (.string (T ++ ⟨#[47]⟩)) W := fun W => run_string_add_sum W _ _ (by show T.size + 1 ≤ _; omega)
    have cat2 : ∀ W : World, (Op.stringOp .add (T ++ ⟨#[47]⟩) U).run Tryz.prog W = .ok (.string (T ++ ⟨#[47]⟩ ++ U)) W := fun W => run_string_add_sum W _ _ (by rw [ByteArray.size_append]; show T.size + 1 + U.size ≤ _; omega)
    clear hd hfin
    go_wp2
    go_ret
    exact ⟨by rw [Hfin.out]; rfl, K5.out⟩
/-- Text of any quotient. -/
theorem refRat_any (z k : Int) (w : World) (hz : z.natAbs < ten 2900) (hk : k.natAbs < ten 2900) (hk0 : k ≠ 0) :
    Calls Tryz.prog 32 #[.string (txt z), .string (txt k)] w fun e w' => e = .returned (.string (ratTxt (Rat.divInt z k))) ∧ Below w.heap.size w w' := by
  rcases Int.lt_or_gt_of_ne hk0 with hn | hp
  · have e : k = -((k.natAbs : Nat) : Int) := by omega
    have e2 : Rat.divInt z k = Rat.divInt (-z) (k.natAbs : Nat) := by rw [← rat_neg]; congr 1; omega
    have h := text_neg z k.natAbs w (by rw [Int.natAbs_neg]; exact hz) hk (by omega)
    rw [← e] at h
    rw [e2]
    exact h
  · have e : k = ((k.natAbs : Nat) : Int) := by omega
    have h := text_pos z k.natAbs w hz hk (by omega)
    rw [← e] at h
    exact h
set_option maxHeartbeats 1000000 in
theorem refDigitsR_any (s : ByteArray) (w : World) (hs : s.size ≤ 9223372036854775807) :
    Calls Tryz.prog 44 #[.string s] w fun e w' => e = .returned (.bool (allDig s.data.toList && decide (0 < s.size))) ∧ w = w' := by
  go_enter Tryz.func44, Tryz.ntmps44
  go_wp2_with fail
  go_loop [3] (fun i => ∃ k : Nat, k ≤ s.size ∧ i = .int .i64 k ∧ allDig (s.data.toList.take k) = true) (fun i => s.size - (intOf i).toNat)
  case atStart => exact ⟨0, Nat.zero_le _, rfl, rfl⟩
  case round =>
    obtain ⟨k, hk, rfl, hd⟩ := hrel
    have Hd := Lib.hid hd
    clear hd
    by_cases hlt : k < s.size
    · have Hat := Lib.hid (str_at hlt)
      obtain ⟨x, hx⟩ : ∃ x, (s[k]).toNat = x := ⟨_, rfl⟩
      have Hx := Lib.hid hx
      by_cases h1 : x < 48
      · have hf : allDig s.data.toList = false := allDig_not Hat.out (by unfold isDig; rw [Hx.out]; simp; omega)
        go_wp2
        all_goals go_ret
        all_goals simp
      · by_cases h2 : 57 < x
        · have hf : allDig s.data.toList = false := allDig_not Hat.out (by unfold isDig; rw [Hx.out]; simp; omega)
          go_wp2
          all_goals go_ret
          all_goals simp
        · have hf := Lib.hid (allDig_take Hat.out (by unfold isDig; rw [Hx.out]; simp; omega) Hd.out)
          go_wp2
          go_round
          case rel => exact ⟨k + 1, by omega, by go_num, hf.out⟩
          case measure => simp [intOf]; omega
    · have e : k = s.size := by omega
      have hall : allDig s.data.toList = true := by
        have := Hd.out
        rw [e, ← str_len, List.take_length] at this
        exact this
      go_wp2
      go_ret
      simp
/-- All bytes are zeros. -/
def allZero (l : List UInt8) : Bool := l.all (· == 48)
theorem allZero_not {l : List UInt8} {k : Nat} {c : UInt8} (h : l[k]? = some c) (hc : c ≠ 48) : allZero l = false := by
  unfold allZero
  rw [Bool.eq_false_iff]
  intro h1
  rw [List.all_eq_true] at h1
  have := h1 c (List.mem_of_getElem? h)
  exact hc (by simpa using this)
theorem allZero_take {l : List UInt8} {k : Nat} {c : UInt8} (h : l[k]? = some c) (hc : c = 48) (hd : allZero (l.take k) = true) : allZero (l.take (k + 1)) = true := by
  unfold allZero at *
  rw [List.take_add_one, h, List.all_append, hd]
  simp [hc]
set_option maxHeartbeats 1000000 in
theorem refZeros_any (s : ByteArray) (w : World) (hs : s.size ≤ 9223372036854775807) :
    Calls Tryz.prog 45 #[.string s] w fun e w' => e = .returned (.bool (allZero s.data.toList)) ∧ w = w' := by
  go_enter Tryz.func45, Tryz.ntmps45
  go_wp2_with fail
  go_loop [3] (fun i => ∃ k : Nat, k ≤ s.size ∧ i = .int .i64 k ∧ allZero (s.data.toList.take k) = true) (fun i => s.size - (intOf i).toNat)
  case atStart => exact ⟨0, Nat.zero_le _, rfl, rfl⟩
  case round =>
    obtain ⟨k, hk, rfl, hd⟩ := hrel
    have Hd := Lib.hid hd
    clear hd
    by_cases hlt : k < s.size
    · have Hat := Lib.hid (str_at hlt)
      obtain ⟨x, hx⟩ : ∃ x, (s[k]).toNat = x := ⟨_, rfl⟩
      have Hx := Lib.hid hx
      by_cases h1 : x = 48
      · have hf := Lib.hid (allZero_take Hat.out (by apply UInt8.toNat_inj.1; rw [Hx.out]; exact h1) Hd.out)
        subst h1
        go_wp2
        go_round
        case rel => exact ⟨k + 1, by omega, by go_num, hf.out⟩
        case measure => simp [intOf]; omega
      · have hf : allZero s.data.toList = false := allZero_not Hat.out (fun e => by rw [e] at Hx; exact h1 Hx.out.symm)
        have t0 : ((x : Int) == 48) = false := by rw [beq_eq_false_iff_ne]; omega
        go_wp2
        go_ret
        simp
    · have e : k = s.size := by omega
      have hall : allZero s.data.toList = true := by
        have := Hd.out
        rw [e, ← str_len, List.take_length] at this
        exact this
      go_wp2
      go_ret
      simp
/-- Where the first slash is. -/
def slashAt (s : ByteArray) : Nat := s.data.toList.findIdx (· == 47)
theorem slashAt_le (s : ByteArray) : slashAt s ≤ s.size := by
  have := List.findIdx_le_length (xs := s.data.toList) (p := (· == 47))
  rwa [str_len] at this
theorem slashR_any (s : ByteArray) (w : World) (hs : s.size ≤ 9223372036854775807) :
    Calls Tryz.prog 46 #[.string s] w fun e w' => e = .returned (.int .i64 (slashAt s : Nat)) ∧ w = w' :=
  slash_any s (slashAt s) w hs (slashAt_le s) (fun j c hj h => by
    have hlt : j < s.data.toList.length := by
      rcases Nat.lt_or_ge j s.data.toList.length with h1 | h1
      · exact h1
      · rw [List.getElem?_eq_none h1] at h; cases h
    have := List.not_of_lt_findIdx hj
    rw [List.getElem?_eq_getElem hlt] at h
    injection h with h
    rw [h] at this
    simpa using this) (fun c h => by
    have hlt : slashAt s < s.data.toList.length := by
      rcases Nat.lt_or_ge (slashAt s) s.data.toList.length with h1 | h1
      · exact h1
      · rw [List.getElem?_eq_none h1] at h; cases h
    have := List.findIdx_getElem (xs := s.data.toList) (p := (· == 47)) (w := hlt)
    rw [List.getElem?_eq_getElem hlt] at h
    injection h with h
    have h2 : s.data.toList[slashAt s] = c := h
    unfold slashAt at h2
    rw [h2] at this
    simpa using this)
theorem slash_whole {s : ByteArray} (h : slashAt s < s.size) : s = s.extract 0 (slashAt s) ++ ⟨#[47]⟩ ++ s.extract (slashAt s + 1) s.size := by
  have hlt : slashAt s < s.data.toList.length := by rw [str_len]; exact h
  have h47 := List.findIdx_getElem (xs := s.data.toList) (p := (· == 47)) (w := hlt)
  have h47 : s.data.toList[slashAt s] = 47 := eq_of_beq h47
  apply ByteArray.ext
  apply Array.toList_inj.1
  have e : (s.extract 0 (slashAt s) ++ ⟨#[47]⟩ ++ s.extract (slashAt s + 1) s.size).data.toList = (s.extract 0 (slashAt s)).data.toList ++ [47] ++ (s.extract (slashAt s + 1) s.size).data.toList := by simp [ByteArray.data_append]
  rw [e, extract_data]
  have e2 : (s.extract 0 (slashAt s)).data.toList = s.data.toList.take (slashAt s) := by simp [ByteArray.data_extract]
  rw [e2, List.append_assoc, List.singleton_append, ← h47, ← List.drop_eq_getElem_cons hlt, List.take_append_drop]
/-- Parts of any text. -/
theorem refPartsR_any (s : ByteArray) (w : World) (hs : s.size ≤ 5000) :
    Calls Tryz.prog 24 #[.string s] w fun e w' => (∃ num den : ByteArray, e = .returned (.tuple #[.string num, .string den]) ∧ ((slashAt s = s.size ∧ num = s ∧ den = ⟨#[49]⟩) ∨ (slashAt s < s.size ∧ s = num ++ ⟨#[47]⟩ ++ den))) ∧ Below w.heap.size w w' := by
  have HS := Lib.hid (fun w => slashR_any s w (by omega))
  have hle := slashAt_le s
  have hw := @slash_whole s
  obtain ⟨k, hk⟩ : ∃ k, slashAt s = k := ⟨_, rfl⟩
  rw [hk] at HS hle hw ⊢
  clear hk
  by_cases h : k < s.size
  · have hfin := hw h
    obtain ⟨T, hT⟩ : ∃ T, s.extract 0 k = T := ⟨_, rfl⟩
    obtain ⟨U, hU⟩ : ∃ U, s.extract (k + 1) s.size = U := ⟨_, rfl⟩
    rw [hT, hU] at hfin
    have Hfin := Lib.hid hfin
    have hle1 : k + 1 ≤ s.size := h
    have hk5 : (k : Int) ≤ 5000 := by omega
    have hs5 : (s.size : Int) ≤ 5000 := by omega
    have t0 : ((k : Int) == (s.size : Int)) = false := by rw [beq_eq_false_iff_ne]; omega
    clear hw hfin
    go_enter Tryz.func24, Tryz.ntmps24
    go_wp2_with fail
    refine (HS.out _).mono ?_
    rintro e w1 ⟨rfl, rfl⟩
    go_wp2_with fail
    go_region
    all_goals
      go_wp2
      go_ret2
      exact ⟨⟨T, U, rfl, .inr ⟨h, Hfin.out⟩⟩, (Below.refl _ _).drew⟩
  · obtain rfl : k = s.size := by omega
    clear hw h
    go_enter Tryz.func24, Tryz.ntmps24
    go_wp2_with fail
    refine (HS.out _).mono ?_
    rintro e w1 ⟨rfl, rfl⟩
    go_wp2
    go_ret2
    exact ⟨⟨s, ⟨#[49]⟩, rfl, .inl ⟨by first | rfl | trivial, rfl, rfl⟩⟩, Below.refl _ _⟩
/-- A text of an integer, and its number. -/
def Tx (s : ByteArray) (z : Int) : Prop := errOf s = 0 ∧ zOf s = z
theorem Tx.txt {s : ByteArray} {z : Int} (h : Tx s z) : txt z = s := by rw [← h.2]; exact txt_zOf h.1
/-- A text of a rational. -/
def IsR (s : ByteArray) : Prop := ∃ q : Rat, ratTxt q = s ∧ Tx (txt q.num) q.num ∧ (q.den ≠ 1 → Tx (txt (q.den : Int)) (q.den : Int)) ∧ (txt q.num).size ≤ s.size ∧ (q.den ≠ 1 → (txt (q.den : Int)).size ≤ s.size)
theorem size_cat (T U : ByteArray) : (T ++ ⟨#[47]⟩ ++ U).size = T.size + 1 + U.size := by rw [ByteArray.size_append, ByteArray.size_append]; rfl
theorem isR_int {s : ByteArray} (h : errOf s = 0) : IsR s := by
  have e := txt_zOf h
  have hn : ((zOf s : Int) : Rat).num = zOf s := Rat.num_intCast _
  have hd : ((zOf s : Int) : Rat).den = 1 := Rat.den_intCast _
  refine ⟨((zOf s : Int) : Rat), by unfold ratTxt; rw [if_pos hd, hn, e], by rw [hn, e]; exact ⟨h, rfl⟩, fun h1 => absurd hd h1, by rw [hn, e]; exact Nat.le_refl _, fun h1 => absurd hd h1⟩
theorem isR_frac {T U : ByteArray} {z d : Int} (hT : Tx T z) (hU : Tx U d) (hd : 1 < d) (hg : Nat.gcd z.natAbs d.natAbs = 1) : IsR (T ++ ⟨#[47]⟩ ++ U) := by
  have e1 := hT.txt
  have e2 := hU.txt
  have hk : d = ((d.natAbs : Nat) : Int) := by omega
  obtain ⟨h1, h2⟩ := rat_make (n := z) (k := d.natAbs) (by omega)
  rw [hg] at h1 h2
  rw [Int.natCast_one, Int.ediv_one] at h1
  rw [Nat.div_one] at h2
  refine ⟨Rat.divInt z (d.natAbs : Nat), ?_, by rw [h1, e1]; exact hT, fun _ => by rw [h2, ← hk, e2]; exact hU, by rw [h1, e1, size_cat]; omega, fun _ => by rw [h2, ← hk, e2, size_cat]; omega⟩
  unfold ratTxt
  rw [if_neg (by omega), h1, h2, ← hk, e1, e2]
theorem isNeg_cons {s : ByteArray} (h : isNeg s = true) : ∃ d : ByteArray, bodyOf s = d ∧ s.size = d.size + 1 ∧ s.data.toList = 45 :: d.data.toList := by
  refine ⟨_, rfl, ?_, ?_⟩
  · have hs : 0 < s.size := by
      rcases Nat.eq_zero_or_pos s.size with h0 | h0
      · rw [isNeg_empty h0] at h; cases h
      · exact h0
    unfold bodyOf
    rw [if_pos h, tail_size]; omega
  · unfold bodyOf
    rw [if_pos h, extract_data]
    unfold isNeg at h
    have h2 : s.data.toList.head? = some 45 := by simpa using h
    cases hl : s.data.toList with
    | nil => rw [hl] at h2; cases h2
    | cons c l => rw [hl] at h2; simp at h2; rw [h2]; rfl
/-- What the reference's tests of a numerator say. -/
theorem num_good {num d : ByteArray} (hb : bodyOf num = d) (hd : allDig d.data.toList = true) (h0 : 0 < d.size) (h1 : ¬ (1 < d.size ∧ lead0 d = true)) (h2 : num ≠ ⟨#[45, 48]⟩) : errOf num = 0 := by
  refine (errOf_ways hb).2.2.2 hd h0 (fun ⟨hl, hor⟩ => ?_)
  rcases hor with h | h
  · exact h1 ⟨h, hl⟩
  · by_cases hn : isNeg num = true
    · obtain ⟨d', hb', hsz, hdata⟩ := isNeg_cons hn
      obtain rfl : d' = d := hb'.symm.trans hb
      have hd1 : d'.size = 1 := by
        rcases Nat.lt_or_ge 1 d'.size with h3 | h3
        · exact absurd ⟨h3, hl⟩ h1
        · omega
      apply h2
      apply ByteArray.ext
      apply Array.toList_inj.1
      rw [hdata]
      unfold lead0 at hl
      have hl2 : d'.data.toList.head? = some 48 := by simpa using hl
      have hlen : d'.data.toList.length = 1 := by rw [str_len]; exact hd1
      obtain ⟨c, hc⟩ := List.length_eq_one_iff.1 hlen
      rw [hc] at hl2 ⊢
      simp at hl2
      rw [hl2]
    · have e : bodyOf num = num := by unfold bodyOf; rw [if_neg hn]
      rw [e] at hb
      subst hb
      exact h1 ⟨h, hl⟩
theorem den_neg {den : ByteArray} (hd : allDig den.data.toList = true) : isNeg den = false := by
  unfold isNeg
  cases hl : den.data.toList with
  | nil => rfl
  | cons c l =>
    rw [hl] at hd
    unfold allDig at hd
    rw [List.all_cons, Bool.and_eq_true] at hd
    have h1 := hd.1
    rw [List.head?_cons]
    have : c ≠ 45 := by intro e; rw [e] at h1; revert h1; decide
    simpa using this
theorem den_good {den : ByteArray} (hd : allDig den.data.toList = true) (h0 : 0 < den.size) (h1 : lead0 den = false) : errOf den = 0 ∧ 0 < zOf den := by
  have hn := den_neg hd
  have hb : bodyOf den = den := by unfold bodyOf; rw [hn]; rfl
  have he := (errOf_ways hb).2.2.2 hd h0 (fun ⟨hl, _⟩ => by rw [h1] at hl; cases hl)
  refine ⟨he, ?_⟩
  have hnn : 0 ≤ zOf den := by unfold zOf signZ; rw [hn]; simp
  rcases Int.lt_or_eq_of_le hnn with h | h
  · exact h
  · exfalso
    have e := txt_zOf he
    rw [← h, txt_zero] at e
    rw [← e] at h1
    revert h1
    decide
theorem dig_true {l : List UInt8} {n : Nat} (h : (allDig l && decide (0 < n)) = true) : allDig l = true ∧ 0 < n := by
  rw [Bool.and_eq_true] at h
  exact ⟨h.1, of_decide_eq_true h.2⟩
def CheckR (s : ByteArray) (w : World) (e : Ending) (w' : World) : Prop := (∃ E : Int, e = .returned (.int .i64 E) ∧ (E = 0 → IsR s)) ∧ Below w.heap.size w w'
set_option maxRecDepth 100000 in
set_option maxHeartbeats 16000000 in
theorem refCheckR_any (s : ByteArray) (w : World) (hs : s.size ≤ 40) : Calls Tryz.prog 18 #[.string s, .int .i64 40] w (CheckR s w) := by
  have HP := Lib.hid (fun w => refPartsR_any s w (by omega))
  have HSl := Lib.hid (fun w => slashR_any s w (by omega))
  go_enter Tryz.func18, Tryz.ntmps18
  go_wp2_with fail
  refine (HP.out _).mono ?_
  rintro e w1 ⟨⟨num, den, rfl, hways⟩, h1⟩
  have K1 := Lib.hid h1
  have z1 : num.size ≤ 41 ∧ den.size ≤ 41 := by
    rcases hways with ⟨_, rfl, rfl⟩ | ⟨_, h⟩
    · exact ⟨by omega, by decide⟩
    · have h2 := congrArg ByteArray.size h
      rw [size_cat] at h2
      omega
  obtain ⟨zn, zd⟩ := z1
  clear h1
  obtain ⟨b2, hb2⟩ : ∃ b, (allDig den.data.toList && decide (0 < den.size)) = b := ⟨_, rfl⟩
  have HD2 := Lib.hid (fun w => refDigitsR_any den w (by omega))
  rw [hb2] at HD2
  have Hb2 := Lib.hid hb2
  obtain ⟨b3, hb3⟩ : ∃ b, allZero den.data.toList = b := ⟨_, rfl⟩
  have HZ := Lib.hid (fun w => refZeros_any den w (by omega))
  rw [hb3] at HZ
  clear hb2 hb3
  rcases Nat.eq_zero_or_pos num.size with h0 | h0
  · obtain ⟨b1, hb1⟩ : ∃ b, (allDig num.data.toList && decide (0 < num.size)) = b := ⟨_, rfl⟩
    have HD1 := Lib.hid (fun w => refDigitsR_any num w (by omega))
    rw [hb1] at HD1
    obtain rfl : b1 = false := by rw [← hb1, h0]; simp
    clear hb1
    go_wp2_with fail
    refine (HD1.out _).mono ?_
    rintro e w2 ⟨rfl, rfl⟩
    go_wp2
    go_ret
    exact ⟨⟨14, rfl, fun h => absurd h (by decide)⟩, K1.out⟩
  · obtain ⟨x, hx⟩ : ∃ x, (num[0]).toNat = x := ⟨_, rfl⟩
    have hneg := isNeg_of h0 hx
    by_cases h45 : x = 45
    · rw [decide_eq_true h45] at hneg
      have hb : bodyOf num = num.extract 1 num.size := by unfold bodyOf; rw [hneg]; rfl
      obtain ⟨d, hd⟩ : ∃ d, num.extract 1 num.size = d := ⟨_, rfl⟩
      rw [hd] at hb
      have hds : d.size ≤ 41 := by rw [← hd, tail_size]; omega
      have Hb := Lib.hid hb
      have h1s : (1 : Int) ≤ (num.size : Int) := by omega
      have hns : (num.size : Int) ≤ 41 := by omega
      subst h45
      obtain ⟨b1, hb1⟩ : ∃ b, (allDig d.data.toList && decide (0 < d.size)) = b := ⟨_, rfl⟩
      have HD1 := Lib.hid (fun w => refDigitsR_any d w (by omega))
      rw [hb1] at HD1
      have Hb1 := Lib.hid hb1
      clear hb1 hb hneg
      go_wp2_with fail
      refine (HD1.out _).mono ?_
      rintro e w2 ⟨rfl, rfl⟩
      cases b1 with
      | false =>
        go_wp2
        go_ret
        exact ⟨⟨14, rfl, fun h => absurd h (by decide)⟩, K1.out⟩
      | true =>
        go_wp2_with fail
        refine (HD2.out _).mono ?_
        rintro e w2 ⟨rfl, rfl⟩
        cases b2 with
        | false =>
          go_wp2
          go_ret
          exact ⟨⟨14, rfl, fun h => absurd h (by decide)⟩, K1.out⟩
        | true =>
          obtain ⟨ad, sd⟩ := dig_true Hb1.out
          obtain ⟨an, sn⟩ := dig_true Hb2.out
          have Ad := Lib.hid ad
          have An := Lib.hid an
          clear ad an
          go_wp2_with fail
          refine (HZ.out _).mono ?_
          rintro e w2 ⟨rfl, rfl⟩
          cases b3 with
          | true =>
            go_wp2
            go_ret
            exact ⟨⟨19, rfl, fun h => absurd h (by decide)⟩, K1.out⟩
          | false =>
            obtain ⟨y, hy⟩ : ∃ y, (d[0]).toNat = y := ⟨_, rfl⟩
            obtain ⟨u, hu⟩ : ∃ u, (den[0]).toNat = u := ⟨_, rfl⟩
            have Hl0 := Lib.hid (lead0_of sd hy)
            have Hu0 := Lib.hid (lead0_of sn hu)
            by_cases hlead : 1 < d.size ∧ y = 48
            · obtain ⟨hl1, rfl⟩ := hlead
              go_wp2
              go_ret
              exact ⟨⟨3, rfl, fun h => absurd h (by decide)⟩, K1.out⟩
            · have tl : (1 < d.size ∧ ((y : Int) == 48) = false) ∨ ¬ 1 < d.size := by
                rcases Nat.lt_or_ge 1 d.size with h1 | h1
                · exact .inl ⟨h1, by rw [beq_eq_false_iff_ne]; intro e; exact hlead ⟨h1, by omega⟩⟩
                · exact .inr (by omega)
              have Hgl := Lib.hid (show ¬ (1 < d.size ∧ lead0 d = true) from fun ⟨h1, h2⟩ => hlead ⟨h1, by rw [Hl0.out] at h2; exact of_decide_eq_true h2⟩)
              clear hlead
              by_cases hm : num = ⟨#[45, 48]⟩
              · have tm : (num.toList == [45, 48]) = true := by rw [hm]; decide +kernel
                clear hm
                rcases tl with ⟨tl1, tl2⟩ | tl1
                · go_wp2
                  go_ret
                  exact ⟨⟨3, rfl, fun h => absurd h (by decide)⟩, K1.out⟩
                · go_wp2
                  go_ret
                  exact ⟨⟨3, rfl, fun h => absurd h (by decide)⟩, K1.out⟩
              · have tm : (num.toList == [45, 48]) = false := by
                  rw [ByteArray.toList_eq, beq_eq_false_iff_ne]
                  intro e
                  exact hm (by apply ByteArray.ext; apply Array.toList_inj.1; rw [e])
                have Hm := Lib.hid hm
                clear hm
                have He := Lib.hid (num_good Hb.out Ad.out sd Hgl.out Hm.out)
                by_cases hu48 : u = 48
                · subst hu48
                  rcases tl with ⟨tl1, tl2⟩ | tl1
                  · go_wp2
                    go_ret
                    exact ⟨⟨3, rfl, fun h => absurd h (by decide)⟩, K1.out⟩
                  · go_wp2
                    go_ret
                    exact ⟨⟨3, rfl, fun h => absurd h (by decide)⟩, K1.out⟩
                · have tu : ((u : Int) == 48) = false := by rw [beq_eq_false_iff_ne]; omega
                  have Hd0 := Lib.hid (den_good An.out sn (by rw [Hu0.out]; exact decide_eq_false hu48))
                  clear hu48
                  rcases hways with ⟨hk, rfl, rfl⟩ | ⟨hk, hcat⟩
                  · have Hfin := Lib.hid (isR_int He.out)
                    rw [hk] at HSl
                    clear hk
                    rcases tl with ⟨tl1, tl2⟩ | tl1
                    · go_wp2_with fail
                      refine (HSl.out _).mono ?_
                      rintro e w3 ⟨rfl, rfl⟩
                      go_wp2
                      go_ret
                      exact ⟨⟨0, rfl, fun _ => Hfin.out⟩, K1.out⟩
                    · go_wp2_with fail
                      refine (HSl.out _).mono ?_
                      rintro e w3 ⟨rfl, rfl⟩
                      go_wp2
                      go_ret
                      exact ⟨⟨0, rfl, fun _ => Hfin.out⟩, K1.out⟩
                  · have hkk : (slashAt s : Int) < (s.size : Int) := by omega
                    have Hcat := Lib.hid hcat
                    obtain ⟨kk, hkke⟩ : ∃ kk, slashAt s = kk := ⟨_, rfl⟩
                    rw [hkke] at HSl hkk
                    clear hk hcat hkke
                    by_cases hone : den = ⟨#[49]⟩
                    · have t1 : (den.toList == [49]) = true := by rw [hone]; decide +kernel
                      clear hone
                      rcases tl with ⟨tl1, tl2⟩ | tl1
                      · go_wp2_with fail
                        refine (HSl.out _).mono ?_
                        rintro e w3 ⟨rfl, rfl⟩
                        go_wp2
                        go_ret
                        exact ⟨⟨3, rfl, fun h => absurd h (by decide)⟩, K1.out⟩
                      · go_wp2_with fail
                        refine (HSl.out _).mono ?_
                        rintro e w3 ⟨rfl, rfl⟩
                        go_wp2
                        go_ret
                        exact ⟨⟨3, rfl, fun h => absurd h (by decide)⟩, K1.out⟩
                    · have t1 : (den.toList == [49]) = false := by
                        rw [ByteArray.toList_eq, beq_eq_false_iff_ne]
                        intro e
                        exact hone (by apply ByteArray.ext; apply Array.toList_inj.1; rw [e])
                      have en := txt_zOf He.out
                      have ed := txt_zOf Hd0.out.1
                      obtain ⟨z, hz⟩ : ∃ z, zOf num = z := ⟨_, rfl⟩
                      obtain ⟨dd, hdd⟩ : ∃ dd, zOf den = dd := ⟨_, rfl⟩
                      have hdp := Hd0.out.2
                      rw [hdd] at ed hdp
                      rw [hz] at en
                      have hd1 : 1 < dd := by
                        rcases Int.lt_or_eq_of_le (show (1 : Int) ≤ dd by omega) with h | h
                        · exact h
                        · exfalso
                          apply hone
                          rw [← ed, ← h]
                          exact txt_1
                      have HG := Lib.hid (fun w => refGcd_any z dd w (by rw [en]; omega) (by rw [ed]; omega))
                      rw [en, ed] at HG
                      have Hz := Lib.hid (show Tx num z from ⟨He.out, hz⟩)
                      have Hdd := Lib.hid (show Tx den dd from ⟨Hd0.out.1, hdd⟩)
                      obtain ⟨g, hg⟩ : ∃ g, Nat.gcd z.natAbs dd.natAbs = g := ⟨_, rfl⟩
                      rw [hg] at HG
                      by_cases hg1 : g = 1
                      · have Hfin := Lib.hid (show IsR s by rw [Hcat.out]; exact isR_frac Hz.out Hdd.out hd1 (hg.trans hg1))
                        subst hg1
                        rw [show txt ((1 : Nat) : Int) = ⟨#[49]⟩ from txt_1] at HG
                        clear hone en ed hz hdd hdp hg hd1
                        rcases tl with ⟨tl1, tl2⟩ | tl1
                        · go_wp2_with fail
                          refine (HSl.out _).mono ?_
                          rintro e w3 ⟨rfl, rfl⟩
                          go_wp2_with fail
                          refine (HG.out _).mono ?_
                          rintro e w4 ⟨rfl, h4⟩
                          have KG := Lib.hid (below_on K1.out h4)
                          clear h4
                          go_wp2
                          go_ret
                          exact ⟨⟨0, rfl, fun _ => Hfin.out⟩, KG.out⟩
                        · go_wp2_with fail
                          refine (HSl.out _).mono ?_
                          rintro e w3 ⟨rfl, rfl⟩
                          go_wp2_with fail
                          refine (HG.out _).mono ?_
                          rintro e w4 ⟨rfl, h4⟩
                          have KG := Lib.hid (below_on K1.out h4)
                          clear h4
                          go_wp2
                          go_ret
                          exact ⟨⟨0, rfl, fun _ => Hfin.out⟩, KG.out⟩
                      · have tg : ((txt (g : Int)).toList == [49]) = false := txt_not1 (by omega) (by omega)
                        obtain ⟨G, hG⟩ : ∃ G, txt (g : Int) = G := ⟨_, rfl⟩
                        rw [hG] at tg HG
                        clear hone en ed hz hdd hdp hg hd1 hg1 hG
                        rcases tl with ⟨tl1, tl2⟩ | tl1
                        · go_wp2_with fail
                          refine (HSl.out _).mono ?_
                          rintro e w3 ⟨rfl, rfl⟩
                          go_wp2_with fail
                          refine (HG.out _).mono ?_
                          rintro e w4 ⟨rfl, h4⟩
                          have KG := Lib.hid (below_on K1.out h4)
                          clear h4
                          go_wp2
                          go_ret
                          exact ⟨⟨3, rfl, fun h => absurd h (by decide)⟩, KG.out⟩
                        · go_wp2_with fail
                          refine (HSl.out _).mono ?_
                          rintro e w3 ⟨rfl, rfl⟩
                          go_wp2_with fail
                          refine (HG.out _).mono ?_
                          rintro e w4 ⟨rfl, h4⟩
                          have KG := Lib.hid (below_on K1.out h4)
                          clear h4
                          go_wp2
                          go_ret
                          exact ⟨⟨3, rfl, fun h => absurd h (by decide)⟩, KG.out⟩
    · rw [decide_eq_false h45] at hneg
      have Hb := Lib.hid (show bodyOf num = num by unfold bodyOf; rw [hneg]; rfl)
      have t45 : ((x : Int) == 45) = false := by rw [beq_eq_false_iff_ne]; omega
      obtain ⟨b1, hb1⟩ : ∃ b, (allDig num.data.toList && decide (0 < num.size)) = b := ⟨_, rfl⟩
      have HD1 := Lib.hid (fun w => refDigitsR_any num w (by omega))
      rw [hb1] at HD1
      have Hb1 := Lib.hid hb1
      clear hb1 hneg
      go_wp2_with fail
      refine (HD1.out _).mono ?_
      rintro e w2 ⟨rfl, rfl⟩
      cases b1 with
      | false =>
        go_wp2
        go_ret
        exact ⟨⟨14, rfl, fun h => absurd h (by decide)⟩, K1.out⟩
      | true =>
        go_wp2_with fail
        refine (HD2.out _).mono ?_
        rintro e w2 ⟨rfl, rfl⟩
        cases b2 with
        | false =>
          go_wp2
          go_ret
          exact ⟨⟨14, rfl, fun h => absurd h (by decide)⟩, K1.out⟩
        | true =>
          obtain ⟨ad, sd⟩ := dig_true Hb1.out
          obtain ⟨an, sn⟩ := dig_true Hb2.out
          have Ad := Lib.hid ad
          have An := Lib.hid an
          clear ad an
          go_wp2_with fail
          refine (HZ.out _).mono ?_
          rintro e w2 ⟨rfl, rfl⟩
          cases b3 with
          | true =>
            go_wp2
            go_ret
            exact ⟨⟨19, rfl, fun h => absurd h (by decide)⟩, K1.out⟩
          | false =>
            obtain ⟨y, hy⟩ : ∃ y, (num[0]).toNat = y := ⟨_, rfl⟩
            obtain rfl : y = x := hy.symm.trans hx
            obtain ⟨u, hu⟩ : ∃ u, (den[0]).toNat = u := ⟨_, rfl⟩
            have Hl0 := Lib.hid (lead0_of sd hy)
            have Hu0 := Lib.hid (lead0_of sn hu)
            by_cases hlead : 1 < num.size ∧ y = 48
            · obtain ⟨hl1, rfl⟩ := hlead
              go_wp2
              go_ret
              exact ⟨⟨3, rfl, fun h => absurd h (by decide)⟩, K1.out⟩
            · have tl : (1 < num.size ∧ ((y : Int) == 48) = false) ∨ ¬ 1 < num.size := by
                rcases Nat.lt_or_ge 1 num.size with h1 | h1
                · exact .inl ⟨h1, by rw [beq_eq_false_iff_ne]; intro e; exact hlead ⟨h1, by omega⟩⟩
                · exact .inr (by omega)
              have Hgl := Lib.hid (show ¬ (1 < num.size ∧ lead0 num = true) from fun ⟨h1, h2⟩ => hlead ⟨h1, by rw [Hl0.out] at h2; exact of_decide_eq_true h2⟩)
              clear hlead
              by_cases hm : num = ⟨#[45, 48]⟩
              · have tm : (num.toList == [45, 48]) = true := by rw [hm]; decide +kernel
                clear hm
                rcases tl with ⟨tl1, tl2⟩ | tl1
                · go_wp2
                  go_ret
                  exact ⟨⟨3, rfl, fun h => absurd h (by decide)⟩, K1.out⟩
                · go_wp2
                  go_ret
                  exact ⟨⟨3, rfl, fun h => absurd h (by decide)⟩, K1.out⟩
              · have tm : (num.toList == [45, 48]) = false := by
                  rw [ByteArray.toList_eq, beq_eq_false_iff_ne]
                  intro e
                  exact hm (by apply ByteArray.ext; apply Array.toList_inj.1; rw [e])
                have Hm := Lib.hid hm
                clear hm
                have He := Lib.hid (num_good Hb.out Ad.out sd Hgl.out Hm.out)
                by_cases hu48 : u = 48
                · subst hu48
                  rcases tl with ⟨tl1, tl2⟩ | tl1
                  · go_wp2
                    go_ret
                    exact ⟨⟨3, rfl, fun h => absurd h (by decide)⟩, K1.out⟩
                  · go_wp2
                    go_ret
                    exact ⟨⟨3, rfl, fun h => absurd h (by decide)⟩, K1.out⟩
                · have tu : ((u : Int) == 48) = false := by rw [beq_eq_false_iff_ne]; omega
                  have Hd0 := Lib.hid (den_good An.out sn (by rw [Hu0.out]; exact decide_eq_false hu48))
                  clear hu48
                  rcases hways with ⟨hk, rfl, rfl⟩ | ⟨hk, hcat⟩
                  · have Hfin := Lib.hid (isR_int He.out)
                    rw [hk] at HSl
                    clear hk
                    rcases tl with ⟨tl1, tl2⟩ | tl1
                    · go_wp2_with fail
                      refine (HSl.out _).mono ?_
                      rintro e w3 ⟨rfl, rfl⟩
                      go_wp2
                      go_ret
                      exact ⟨⟨0, rfl, fun _ => Hfin.out⟩, K1.out⟩
                    · go_wp2_with fail
                      refine (HSl.out _).mono ?_
                      rintro e w3 ⟨rfl, rfl⟩
                      go_wp2
                      go_ret
                      exact ⟨⟨0, rfl, fun _ => Hfin.out⟩, K1.out⟩
                  · have hkk : (slashAt s : Int) < (s.size : Int) := by omega
                    have Hcat := Lib.hid hcat
                    obtain ⟨kk, hkke⟩ : ∃ kk, slashAt s = kk := ⟨_, rfl⟩
                    rw [hkke] at HSl hkk
                    clear hk hcat hkke
                    by_cases hone : den = ⟨#[49]⟩
                    · have t1 : (den.toList == [49]) = true := by rw [hone]; decide +kernel
                      clear hone
                      rcases tl with ⟨tl1, tl2⟩ | tl1
                      · go_wp2_with fail
                        refine (HSl.out _).mono ?_
                        rintro e w3 ⟨rfl, rfl⟩
                        go_wp2
                        go_ret
                        exact ⟨⟨3, rfl, fun h => absurd h (by decide)⟩, K1.out⟩
                      · go_wp2_with fail
                        refine (HSl.out _).mono ?_
                        rintro e w3 ⟨rfl, rfl⟩
                        go_wp2
                        go_ret
                        exact ⟨⟨3, rfl, fun h => absurd h (by decide)⟩, K1.out⟩
                    · have t1 : (den.toList == [49]) = false := by
                        rw [ByteArray.toList_eq, beq_eq_false_iff_ne]
                        intro e
                        exact hone (by apply ByteArray.ext; apply Array.toList_inj.1; rw [e])
                      have en := txt_zOf He.out
                      have ed := txt_zOf Hd0.out.1
                      obtain ⟨z, hz⟩ : ∃ z, zOf num = z := ⟨_, rfl⟩
                      obtain ⟨dd, hdd⟩ : ∃ dd, zOf den = dd := ⟨_, rfl⟩
                      have hdp := Hd0.out.2
                      rw [hdd] at ed hdp
                      rw [hz] at en
                      have hd1 : 1 < dd := by
                        rcases Int.lt_or_eq_of_le (show (1 : Int) ≤ dd by omega) with h | h
                        · exact h
                        · exfalso
                          apply hone
                          rw [← ed, ← h]
                          exact txt_1
                      have HG := Lib.hid (fun w => refGcd_any z dd w (by rw [en]; omega) (by rw [ed]; omega))
                      rw [en, ed] at HG
                      have Hz := Lib.hid (show Tx num z from ⟨He.out, hz⟩)
                      have Hdd := Lib.hid (show Tx den dd from ⟨Hd0.out.1, hdd⟩)
                      obtain ⟨g, hg⟩ : ∃ g, Nat.gcd z.natAbs dd.natAbs = g := ⟨_, rfl⟩
                      rw [hg] at HG
                      by_cases hg1 : g = 1
                      · have Hfin := Lib.hid (show IsR s by rw [Hcat.out]; exact isR_frac Hz.out Hdd.out hd1 (hg.trans hg1))
                        subst hg1
                        rw [show txt ((1 : Nat) : Int) = ⟨#[49]⟩ from txt_1] at HG
                        clear hone en ed hz hdd hdp hg hd1
                        rcases tl with ⟨tl1, tl2⟩ | tl1
                        · go_wp2_with fail
                          refine (HSl.out _).mono ?_
                          rintro e w3 ⟨rfl, rfl⟩
                          go_wp2_with fail
                          refine (HG.out _).mono ?_
                          rintro e w4 ⟨rfl, h4⟩
                          have KG := Lib.hid (below_on K1.out h4)
                          clear h4
                          go_wp2
                          go_ret
                          exact ⟨⟨0, rfl, fun _ => Hfin.out⟩, KG.out⟩
                        · go_wp2_with fail
                          refine (HSl.out _).mono ?_
                          rintro e w3 ⟨rfl, rfl⟩
                          go_wp2_with fail
                          refine (HG.out _).mono ?_
                          rintro e w4 ⟨rfl, h4⟩
                          have KG := Lib.hid (below_on K1.out h4)
                          clear h4
                          go_wp2
                          go_ret
                          exact ⟨⟨0, rfl, fun _ => Hfin.out⟩, KG.out⟩
                      · have tg : ((txt (g : Int)).toList == [49]) = false := txt_not1 (by omega) (by omega)
                        obtain ⟨G, hG⟩ : ∃ G, txt (g : Int) = G := ⟨_, rfl⟩
                        rw [hG] at tg HG
                        clear hone en ed hz hdd hdp hg hd1 hg1 hG
                        rcases tl with ⟨tl1, tl2⟩ | tl1
                        · go_wp2_with fail
                          refine (HSl.out _).mono ?_
                          rintro e w3 ⟨rfl, rfl⟩
                          go_wp2_with fail
                          refine (HG.out _).mono ?_
                          rintro e w4 ⟨rfl, h4⟩
                          have KG := Lib.hid (below_on K1.out h4)
                          clear h4
                          go_wp2
                          go_ret
                          exact ⟨⟨3, rfl, fun h => absurd h (by decide)⟩, KG.out⟩
                        · go_wp2_with fail
                          refine (HSl.out _).mono ?_
                          rintro e w3 ⟨rfl, rfl⟩
                          go_wp2_with fail
                          refine (HG.out _).mono ?_
                          rintro e w4 ⟨rfl, h4⟩
                          have KG := Lib.hid (below_on K1.out h4)
                          clear h4
                          go_wp2
                          go_ret
                          exact ⟨⟨3, rfl, fun h => absurd h (by decide)⟩, KG.out⟩
end Go.Proofs.YtbpbfjnndkoioaaGreatDoor
