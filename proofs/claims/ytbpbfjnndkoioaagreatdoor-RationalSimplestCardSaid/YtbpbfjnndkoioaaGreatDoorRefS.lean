/- The reference's Simplest: it tries all denominators. -/
import Derived.Test.YtbpbfjnndkoioaaGreatDoorSimR
namespace Go.Proofs.YtbpbfjnndkoioaaGreatDoor
open Go.RowKit

set_option maxHeartbeats 4000000 in
theorem refCompareR_any {s t : ByteArray} {p q : Rat} (h : RS s p) (h' : RS t q) (w : World) : Calls Tryz.prog 8 #[.string s, .string t] w fun e w' => e = .returned (.int .i64 (cmpR p q)) ∧ Below w.heap.size w w' := by
  obtain ⟨n1, n2⟩ := h.n5
  obtain ⟨m1, m2⟩ := h'.n5
  have hm : ∀ {x y : Int}, x.natAbs < ten 40 → y.natAbs < ten 40 → (txt (x * y)).size ≤ 5000 := fun {x y} hx hy => by
    have h1 : (x * y).natAbs < ten 80 := by
      rw [Int.natAbs_mul]
      exact Nat.lt_of_lt_of_le (Nat.mul_lt_mul'' hx hy) (by decide +kernel)
    have := txt_size (x * y) h1 (by decide)
    omega
  have HP := Lib.hid (fun w => refParts_any p w (by omega) (by omega))
  have HQ := Lib.hid (fun w => refParts_any q w (by omega) (by omega))
  rw [h.txt_] at HP
  rw [h'.txt_] at HQ
  have HA := Lib.hid (fun w => refMul_any p.num (q.den : Int) w (by omega) (by omega))
  have HB := Lib.hid (fun w => refMul_any q.num (p.den : Int) w (by omega) (by omega))
  have HC := Lib.hid (fun w => refCompare_any (p.num * (q.den : Int)) (q.num * (p.den : Int)) w (hm h.nlt (by rw [Int.natAbs_natCast]; exact h'.dlt)) (hm h'.nlt (by rw [Int.natAbs_natCast]; exact h.dlt)))
  have Hv := Lib.hid (show cmpZ (p.num * (q.den : Int)) (q.num * (p.den : Int)) = cmpR p q from rfl)
  rw [Hv.out] at HC
  clear n1 n2 m1 m2 hm Hv h h'
  generalize cmpR p q = cv at HC ⊢
  generalize txt (p.num * (q.den : Int)) = A at HA HC
  generalize txt (q.num * (p.den : Int)) = B at HB HC
  generalize txt p.num = A1 at HP HA
  generalize txt (p.den : Int) = A2 at HP HB
  generalize txt q.num = B1 at HQ HB
  generalize txt (q.den : Int) = B2 at HQ HA
  go_enter Tryz.func8, Tryz.ntmps8
  go_wp2_with fail
  refine (HP.out _).mono ?_
  rintro e w1 ⟨rfl, h1⟩
  have K1 := Lib.hid h1
  clear h1
  go_wp2_with fail
  refine (HQ.out _).mono ?_
  rintro e w2 ⟨rfl, h1⟩
  have K2 := Lib.hid (below_on K1.out h1)
  clear h1
  go_wp2_with fail
  refine (HA.out _).mono ?_
  rintro e w3 ⟨rfl, h1⟩
  have K3 := Lib.hid (below_on K2.out h1)
  clear h1
  go_wp2_with fail
  refine (HB.out _).mono ?_
  rintro e w4 ⟨rfl, h1⟩
  have K4 := Lib.hid (below_on K3.out h1)
  clear h1
  go_wp2_with fail
  refine (HC.out _).mono ?_
  rintro e w5 ⟨rfl, h1⟩
  have K5 := Lib.hid (below_on K4.out h1)
  clear h1
  go_wp2
  go_ret
  exact ⟨rfl, K5.out⟩
theorem ratTxt_nat (d : Nat) : ratTxt ((d : Int) : Rat) = txt (d : Int) := by
  unfold ratTxt
  rw [if_pos (rat_int _).2, (rat_int _).1]
theorem few_nat {d : Nat} (h : d ≤ 10000000) : Few ((d : Int) : Rat) 40 :=
  Few.int (by rw [Int.natAbs_natCast]; exact Nat.lt_of_le_of_lt h (by decide +kernel)) (by decide)
theorem cmpZ_1of {a b : Int} (h : b < a) : cmpZ a b = 1 := by
  unfold cmpZ
  rw [if_neg (by omega), if_pos h]
theorem cmpZ_leF {a b : Int} (h : a ≤ b) : decide (0 < cmpZ a b) = false := by
  unfold cmpZ
  split
  · decide
  · rw [if_neg (by omega)]; decide
theorem sgn_posd {z : Int} : decide (0 < sgn z) = decide (0 < z) := by
  unfold sgn
  split
  · rw [decide_eq_false (by omega : ¬ 0 < z)]; decide
  · split
    · rw [decide_eq_true (by omega : 0 < z)]; decide
    · rw [decide_eq_false (by omega : ¬ 0 < z)]; decide
theorem sgn_ltd {z : Int} : decide (sgn z < 0) = decide (z < 0) := by
  unfold sgn
  split
  · rw [decide_eq_true (by omega : z < 0)]; decide
  · split
    · rw [decide_eq_false (by omega : ¬ z < 0)]; decide
    · rw [decide_eq_false (by omega : ¬ z < 0)]; decide
set_option maxRecDepth 100000 in
set_option maxHeartbeats 8000000 in
theorem refSimplest_any {p q m : Rat} (hp : Few p 40) (hq : Few q 40) (hS : Simplest p q m) (hm : m.den ≤ 10000000) (w : World) :
    Calls Tryz.prog 10 #[.string (ratTxt p), .string (ratTxt q)] w fun e w' => e = .returned (.string (ratTxt m)) ∧ Below w.heap.size w w' := by
  have HF := Lib.hid (fun (d : Nat) w (hd : d ≤ 10000000) => show Calls Tryz.prog 27 #[.int .i64 (d : Nat)] w (fun e w' => e = .returned (.string (txt (d : Int))) ∧ Below w.heap.size w w') from refFrom_any _ w (by unfold I64; omega))
  have HM := Lib.hid (fun (d : Nat) w (hd : d ≤ 10000000) => refMulF_any hp (few_nat hd) (by decide) (by decide) w)
  have HN := Lib.hid (fun (d : Nat) w (hd : d ≤ 10000000) => refMulF_any hq (few_nat hd) (by decide) (by decide) w)
  simp only [ratTxt_nat] at HM HN
  have HC := Lib.hid (fun (d : Nat) w (hd : d ≤ 10000000) => refCeilR_any (hp.mul (few_nat hd)) (by decide) w)
  have HL := Lib.hid (fun (d : Nat) w (hd : d ≤ 10000000) => refFloorR_any (hq.mul (few_nat hd)) (by decide) w)
  have HP := Lib.hid (fun (d : Nat) w (hd : d ≤ 10000000) => refCompare_any (ceilZ (p * ((d : Int) : Rat))) (floorZ (q * ((d : Int) : Rat))) w (by have := ten_txt (ceil_few (hp.mul (few_nat hd))) (by decide); omega) (by have := ten_txt (floor_few (hq.mul (few_nat hd))) (by decide); omega))
  have HS1 := Lib.hid (fun w => refSign_any (ceilZ (p * ((m.den : Int) : Rat))) w (by have := ten_txt (ceil_few (hp.mul (few_nat hm))) (by decide); omega))
  have HS2 := Lib.hid (fun w => refSign_any (floorZ (q * ((m.den : Int) : Rat))) w (by have := ten_txt (floor_few (hq.mul (few_nat hm))) (by decide); omega))
  have HT := Lib.hid (fun w (hn : m.num.natAbs < ten 80) => refRat_any m.num (m.den : Int) w (Nat.lt_of_lt_of_le hn (ten_le (by decide))) (by rw [Int.natAbs_natCast]; exact Nat.lt_of_le_of_lt hm (Nat.lt_of_lt_of_le (by decide : 10000000 < 10 ^ 40) (ten_le (by decide : 40 ≤ 2900)))) (by have := m.den_pos; omega))
  rw [rat_self] at HT
  have Hn1 := Lib.hid (show ceilZ (p * ((m.den : Int) : Rat)) = m.num → m.num.natAbs < ten 80 from fun e => by rw [← e]; exact ceil_few (hp.mul (few_nat hm)))
  have Hn2 := Lib.hid (show floorZ (q * ((m.den : Int) : Rat)) = m.num → m.num.natAbs < ten 80 from fun e => by rw [← e]; exact floor_few (hq.mul (few_nat hm)))
  have Hskip := Lib.hid (fun (d : Nat) (h0 : 0 < d) (hd : d < m.den) => cmpZ_1of (simplest_skip hS h0 hd))
  have Hmid := Lib.hid (cmpZ_leF (Int.le_trans (simplest_mid hS).1 (simplest_mid hS).2))
  have Hlow := Lib.hid (simplest_low hS)
  have Hhigh := Lib.hid (simplest_high hS)
  have Hnone := Lib.hid (simplest_none hS)
  have hmp := m.den_pos
  clear hp hq hS
  generalize ratTxt p = S at HM ⊢
  generalize ratTxt q = T at HN ⊢
  obtain ⟨R, hR⟩ : ∃ R, ratTxt m = R := ⟨_, rfl⟩
  rw [hR] at HT ⊢
  have HR := Lib.hid hR
  clear hR
  obtain ⟨M, hM⟩ : ∃ M, m.den = M := ⟨_, rfl⟩
  rw [hM] at HS1 HS2 HT Hn1 Hn2 Hskip Hmid Hlow Hhigh Hnone hm hmp
  clear hM
  go_enter Tryz.func10, Tryz.ntmps10
  go_wp2_with fail
  go_loopw [5] (fun v wr => ∃ d : Nat, 0 < d ∧ d ≤ M ∧ v = .int .i64 (d : Nat) ∧ Below w.heap.size w wr) (fun v _ => M + 1 - (intOf v).toNat)
  case atStart => exact ⟨1, by decide, hmp, rfl, Below.refl _ _⟩
  case round =>
    obtain ⟨d, hd0, hdM, rfl, hb⟩ := hrel
    have K := Lib.hid hb
    have hd7 : d ≤ 10000000 := by omega
    clear hb
    go_wp2_with fail
    refine (HF.out d _ hd7).mono ?_
    rintro e w1 ⟨rfl, h1⟩
    have K := Lib.hid (below_on K.out h1)
    clear h1
    have HM1 := Lib.hid (fun w => HM.out d w hd7)
    have HN1 := Lib.hid (fun w => HN.out d w hd7)
    have HC1 := Lib.hid (fun w => HC.out d w hd7)
    have HL1 := Lib.hid (fun w => HL.out d w hd7)
    have HP1 := Lib.hid (fun w => HP.out d w hd7)
    go_wp2_with fail
    refine (HM1.out _).mono ?_
    rintro e w2 ⟨rfl, h1⟩
    have K := Lib.hid (below_on K.out h1)
    clear h1
    go_wp2_with fail
    refine (HC1.out _).mono ?_
    rintro e w3 ⟨rfl, h1⟩
    have K := Lib.hid (below_on K.out h1)
    clear h1
    go_wp2_with fail
    refine (HN1.out _).mono ?_
    rintro e w4 ⟨rfl, h1⟩
    have K := Lib.hid (below_on K.out h1)
    clear h1
    go_wp2_with fail
    refine (HL1.out _).mono ?_
    rintro e w5 ⟨rfl, h1⟩
    have K := Lib.hid (below_on K.out h1)
    clear h1
    go_wp2_with fail
    refine (HP1.out _).mono ?_
    rintro e w6 ⟨rfl, h1⟩
    have K := Lib.hid (below_on K.out h1)
    clear h1
    by_cases hlt : d < M
    · rw [Hskip.out d hd0 hlt]
      go_wp2
      go_roundw
      case rel => exact ⟨d + 1, by omega, by omega, by go_num, K.out⟩
      case measure => simp [intOf]; omega
    · obtain rfl : d = M := by omega
      have tm := Hmid.out
      generalize cmpZ (ceilZ (p * ((d : Int) : Rat))) (floorZ (q * ((d : Int) : Rat))) = cv at tm ⊢
      have t1 := sgn_posd (z := ceilZ (p * ((d : Int) : Rat)))
      have t2 := sgn_ltd (z := floorZ (q * ((d : Int) : Rat)))
      by_cases h0 : 0 < ceilZ (p * ((d : Int) : Rat))
      · have e := Hlow.out h0
        rw [decide_eq_true h0] at t1
        have HT1 := Lib.hid (fun w => HT.out w (Hn1.out e))
        rw [e] at t1 HS1 ⊢
        clear t2 h0
        go_wp2_with fail
        refine (HS1.out _).mono ?_
        rintro e w7 ⟨rfl, rfl⟩
        go_wp2_with fail
        refine (HT1.out _).mono ?_
        rintro e w8 ⟨rfl, h1⟩
        have K := Lib.hid (below_on K.out h1)
        clear h1
        go_wp2
        go_ret
        exact ⟨rfl, K.out⟩
      · rw [decide_eq_false h0] at t1
        by_cases h2 : floorZ (q * ((d : Int) : Rat)) < 0
        · have e := Hhigh.out h2
          rw [decide_eq_true h2] at t2
          have HT1 := Lib.hid (fun w => HT.out w (Hn2.out e))
          rw [e] at t2 HS2 ⊢
          clear h0 h2
          go_wp2_with fail
          refine (HS1.out _).mono ?_
          rintro e w7 ⟨rfl, rfl⟩
          go_wp2_with fail
          refine (HS2.out _).mono ?_
          rintro e w8 ⟨rfl, rfl⟩
          go_wp2_with fail
          refine (HT1.out _).mono ?_
          rintro e w8 ⟨rfl, h1⟩
          have K := Lib.hid (below_on K.out h1)
          clear h1
          go_wp2
          go_ret
          exact ⟨rfl, K.out⟩
        · rw [decide_eq_false h2] at t2
          have e := Hnone.out (by omega) (by omega)
          have HR0 := Lib.hid (show R = ⟨#[48]⟩ by rw [← HR.out, e]; decide +kernel)
          clear h0 h2 e
          go_wp2_with fail
          refine (HS1.out _).mono ?_
          rintro e w7 ⟨rfl, rfl⟩
          go_wp2_with fail
          refine (HS2.out _).mono ?_
          rintro e w8 ⟨rfl, rfl⟩
          go_wp2
          go_ret
          exact ⟨by rw [HR0.out]; rfl, K.out⟩
end Go.Proofs.YtbpbfjnndkoioaaGreatDoor
