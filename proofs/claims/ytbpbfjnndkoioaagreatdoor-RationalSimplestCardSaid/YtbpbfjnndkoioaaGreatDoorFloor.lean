/- The reference rounds down and up. -/
import Derived.Test.YtbpbfjnndkoioaaGreatDoorRatU
namespace Go.Proofs.YtbpbfjnndkoioaaGreatDoor
open Go.RowKit

/-- Rounded down, and up. -/
def floorZ (p : Rat) : Int := p.num / (p.den : Int)
def ceilZ (p : Rat) : Int := -(-p.num / (p.den : Int))
theorem cmpZ_le0 {a b : Int} (h : a ≤ b) : decide (cmpZ a b ≤ 0) = true := by
  unfold cmpZ
  split
  · decide
  · rw [if_neg (by omega)]; decide
theorem cmpZ_lt0 {a b : Int} (h : a < b) : decide (cmpZ a b < 0) = true := by
  unfold cmpZ
  rw [if_pos h]
  decide
theorem floor_mul (p : Rat) : floorZ p * (p.den : Int) ≤ p.num := Int.ediv_mul_le _ (by have := p.den_pos; omega)
theorem floor_next (p : Rat) : p.num < (floorZ p + 1) * (p.den : Int) := Int.lt_ediv_add_one_mul_self _ (by have := p.den_pos; omega)
theorem ceil_mul (p : Rat) : p.num ≤ ceilZ p * (p.den : Int) := by
  have h := Int.ediv_mul_le (-p.num) (b := (p.den : Int)) (by have := p.den_pos; omega)
  unfold ceilZ
  rw [Int.neg_mul]
  omega
theorem ceil_next (p : Rat) : (ceilZ p - 1) * (p.den : Int) < p.num := by
  have h := Int.lt_ediv_add_one_mul_self (-p.num) (b := (p.den : Int)) (by have := p.den_pos; omega)
  unfold ceilZ
  have e : (-(-p.num / (p.den : Int)) - 1) * (p.den : Int) = -((-p.num / (p.den : Int) + 1) * (p.den : Int)) := by
    rw [← Int.neg_mul]
    congr 1
    omega
  rw [e]
  omega
theorem cmp_floor (p : Rat) : decide (cmpR ((floorZ p : Int) : Rat) p ≤ 0) = true := by
  unfold cmpR
  rw [(rat_int (floorZ p)).1, (rat_int (floorZ p)).2]
  exact cmpZ_le0 (by have := floor_mul p; omega)
theorem cmp_floor1 (p : Rat) : decide (cmpR p (((floorZ p : Int) : Rat) + ((1 : Int) : Rat)) < 0) = true := by
  rw [← Rat.intCast_add]
  unfold cmpR
  rw [(rat_int (floorZ p + 1)).1, (rat_int (floorZ p + 1)).2]
  exact cmpZ_lt0 (by have := floor_next p; omega)
theorem cmp_ceil (p : Rat) : decide (cmpR p ((ceilZ p : Int) : Rat) ≤ 0) = true := by
  unfold cmpR
  rw [(rat_int (ceilZ p)).1, (rat_int (ceilZ p)).2]
  exact cmpZ_le0 (by have := ceil_mul p; omega)
theorem cmp_ceil1 (p : Rat) : decide (cmpR (((ceilZ p : Int) : Rat) - ((1 : Int) : Rat)) p < 0) = true := by
  rw [← Rat.intCast_sub]
  unfold cmpR
  rw [(rat_int (ceilZ p - 1)).1, (rat_int (ceilZ p - 1)).2]
  exact cmpZ_lt0 (by have := ceil_next p; omega)
theorem floor_ceil (p : Rat) : (cmpZ (floorZ p) (ceilZ p) == 0) = ((txt (p.den : Int)).toList == [49]) := by
  by_cases hd : p.den = 1
  · have e : floorZ p = ceilZ p := by
      unfold floorZ ceilZ
      rw [hd]
      simp
    rw [e, cmpZ_eq rfl, hd]
    decide +kernel
  · rw [txt_not1 (by omega) (by omega)]
    have hp := p.den_pos
    have hne : floorZ p ≠ ceilZ p := by
      intro e
      have h1 := floor_mul p
      have h2 := ceil_mul p
      rw [← e] at h2
      have h3 : p.num = floorZ p * (p.den : Int) := by omega
      have h4 : p.den ∣ p.num.natAbs := Int.ofNat_dvd_left.1 ⟨floorZ p, by rw [h3, Int.mul_comm]⟩
      have h5 := p.reduced
      unfold Nat.Coprime at h5
      rw [Nat.gcd_eq_right h4] at h5
      exact hd h5
    rw [beq_eq_false_iff_ne]
    unfold cmpZ
    split
    · omega
    · rw [if_pos (by omega)]; omega
theorem floor_few {p : Rat} {k : Nat} (h : Few p k) : (floorZ p).natAbs < ten k := Nat.lt_of_le_of_lt (Int.natAbs_ediv_le_natAbs _ _) h.n
theorem ceil_few {p : Rat} {k : Nat} (h : Few p k) : (ceilZ p).natAbs < ten k := by
  unfold ceilZ
  rw [Int.natAbs_neg]
  have := Int.natAbs_ediv_le_natAbs (-p.num) (p.den : Int)
  rw [Int.natAbs_neg] at this
  exact Nat.lt_of_le_of_lt this h.n
theorem Few.int {z : Int} {k : Nat} (h : z.natAbs < ten k) (hk : 0 < k) : Few (z : Rat) k := ⟨by rw [(rat_int z).1]; exact h, by rw [(rat_int z).2]; exact Nat.lt_of_lt_of_le (by decide : 1 < ten 1) (ten_le hk)⟩
theorem floor_neg (p : Rat) : floorZ (-p) = -p.num / (p.den : Int) := by
  unfold floorZ
  rw [Rat.neg_num, Rat.neg_den]
set_option maxHeartbeats 4000000 in
theorem refFloorR_any {p : Rat} {k : Nat} (hp : Few p k) (hk : k ≤ 900) (w : World) : Calls Tryz.prog 30 #[.string (ratTxt p)] w fun e w' => e = .returned (.string (txt (floorZ p))) ∧ Below w.heap.size w w' := by
  have n1 := hp.ns hk
  have n2 := hp.ds hk
  have pp := p.den_pos
  have HP := Lib.hid (fun w => refParts_any p w (by omega) (by omega))
  have HD := Lib.hid (fun w => (refDivMod_any p.num (p.den : Int) w (by omega) (by omega) (by omega)).mono (R' := fun e w' => (∃ r : Int, e = .returned (.tuple #[.string (txt (floorZ p)), .string (txt r)])) ∧ Below w.heap.size w w') (fun e w' h => by
    obtain ⟨⟨q, r, rfl, hdm⟩, hb⟩ := h
    have hq := dm_ediv (by omega) hdm
    subst hq
    exact ⟨⟨r, rfl⟩, hb⟩))
  clear n1 n2 hp pp hk
  generalize txt (floorZ p) = X at HD ⊢
  generalize txt p.num = A1 at HP HD
  generalize txt (p.den : Int) = A2 at HP HD
  generalize ratTxt p = T1 at HP ⊢
  go_enter Tryz.func30, Tryz.ntmps30
  go_wp2_with fail
  refine (HP.out _).mono ?_
  rintro e w1 ⟨rfl, h1⟩
  have K := Lib.hid h1
  clear h1
  go_wp2_with fail
  refine (HD.out _).mono ?_
  rintro e w2 ⟨⟨r, rfl⟩, h1⟩
  replace K := Lib.hid (below_on K.out h1)
  clear h1
  go_wp2
  go_ret
  exact ⟨rfl, K.out⟩
set_option maxHeartbeats 4000000 in
theorem refCeilR_any {p : Rat} {k : Nat} (hp : Few p k) (hk : k ≤ 900) (w : World) : Calls Tryz.prog 28 #[.string (ratTxt p)] w fun e w' => e = .returned (.string (txt (ceilZ p))) ∧ Below w.heap.size w w' := by
  have HN := Lib.hid (fun w => refNegR_any hp hk w)
  have HF := Lib.hid (fun w => refFloorR_any hp.neg hk w)
  have s1 := ten_txt (floor_few hp.neg) (by omega)
  have HM := Lib.hid (fun w => refNeg_any (floorZ (-p)) w (by omega))
  rw [show -floorZ (-p) = ceilZ p from by rw [floor_neg]; rfl] at HM
  clear hp hk s1
  generalize txt (ceilZ p) = X at HM ⊢
  generalize txt (floorZ (-p)) = Y at HF HM
  generalize ratTxt (-p) = T2 at HN HF
  generalize ratTxt p = T1 at HN ⊢
  go_enter Tryz.func28, Tryz.ntmps28
  go_wp2_with fail
  refine (HN.out _).mono ?_
  rintro e w1 ⟨rfl, h1⟩
  have K := Lib.hid h1
  clear h1
  go_wp2_with fail
  refine (HF.out _).mono ?_
  rintro e w2 ⟨rfl, h1⟩
  replace K := Lib.hid (below_on K.out h1)
  clear h1
  go_wp2_with fail
  refine (HM.out _).mono ?_
  rintro e w3 ⟨rfl, h1⟩
  replace K := Lib.hid (below_on K.out h1)
  clear h1
  go_wp2
  go_ret
  exact ⟨rfl, K.out⟩
end Go.Proofs.YtbpbfjnndkoioaaGreatDoor
