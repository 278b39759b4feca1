/- The simplest rational: the first denominator that has an integer between; what is out of order. -/
import Derived.Test.YtbpbfjnndkoioaaGreatDoorSimp
import Derived.Test.YtbpbfjnndkoioaaGreatDoorFloor
namespace Go.Proofs.YtbpbfjnndkoioaaGreatDoor
open Go.RowKit

theorem floor_divInt (N : Int) {D : Nat} (hD : 0 < D) : floorZ (Rat.divInt N D) = N / (D : Int) := by
  obtain ⟨h1, h2⟩ := rat_make (n := N) hD
  have hg : 0 < Nat.gcd N.natAbs D := Nat.gcd_pos_of_pos_right _ hD
  obtain ⟨c, hc⟩ := nat_dvd_int (Nat.gcd_dvd_left N.natAbs D)
  obtain ⟨d, hd⟩ := Nat.gcd_dvd_right N.natAbs D
  unfold floorZ
  rw [h1, h2]
  generalize Nat.gcd N.natAbs D = g at *
  have hgi : (g : Int) ≠ 0 := by omega
  have hgp : (0 : Int) < (g : Int) := by omega
  rw [hc, hd, Nat.mul_div_cancel_left _ hg, Int.mul_ediv_cancel_left _ hgi, Int.natCast_mul, Int.mul_ediv_mul_of_pos _ _ hgp]
theorem rat_times (p : Rat) (d : Nat) : p * ((d : Int) : Rat) = Rat.divInt (p.num * (d : Int)) (p.den : Nat) := by
  have h := Rat.divInt_mul_divInt p.num (d : Int) (d₁ := p.den) (d₂ := 1)
  have e := rat_self ((d : Int) : Rat)
  rw [(rat_int (d : Int)).1, (rat_int (d : Int)).2] at e
  rw [rat_self, Int.mul_one] at h
  rw [← h, ← e]
  rfl
theorem high_of (q : Rat) (d : Nat) : floorZ (q * ((d : Int) : Rat)) = q.num * (d : Int) / (q.den : Int) := by
  rw [rat_times, floor_divInt _ q.den_pos]
theorem low_of (p : Rat) (d : Nat) : ceilZ (p * ((d : Int) : Rat)) = -(-(p.num * (d : Int)) / (p.den : Int)) := by
  have h : ceilZ (p * ((d : Int) : Rat)) = -floorZ (-(p * ((d : Int) : Rat))) := by rw [floor_neg]; rfl
  have e : -(p * ((d : Int) : Rat)) = (-p) * ((d : Int) : Rat) := by rw [Rat.neg_mul]
  rw [h, e, high_of, Rat.neg_num, Rat.neg_den, Int.neg_mul]
theorem low_le {p : Rat} {d : Nat} {x : Int} : ceilZ (p * ((d : Int) : Rat)) ≤ x ↔ p.num * (d : Int) ≤ x * (p.den : Int) := by
  have hp : (0 : Int) < (p.den : Int) := by have := p.den_pos; omega
  rw [low_of]
  have h := Int.le_ediv_iff_mul_le (a := -x) (b := -(p.num * (d : Int))) hp
  rw [Int.neg_mul] at h
  constructor
  · intro h1
    have := h.1 (by omega)
    omega
  · intro h1
    have := h.2 (by omega)
    omega
theorem le_high {q : Rat} {d : Nat} {x : Int} : x ≤ floorZ (q * ((d : Int) : Rat)) ↔ x * (q.den : Int) ≤ q.num * (d : Int) := by
  rw [high_of]
  exact Int.le_ediv_iff_mul_le (by have := q.den_pos; omega)
theorem divInt_parts (x : Int) {d : Nat} (hd : 0 < d) : ∃ g : Int, 0 < g ∧ x = g * (Rat.divInt x d).num ∧ (d : Int) = g * ((Rat.divInt x d).den : Int) := by
  obtain ⟨h1, h2⟩ := rat_make (n := x) hd
  have hg : 0 < Nat.gcd x.natAbs d := Nat.gcd_pos_of_pos_right _ hd
  obtain ⟨c, hc⟩ := nat_dvd_int (Nat.gcd_dvd_left x.natAbs d)
  obtain ⟨k, hk⟩ := Nat.gcd_dvd_right x.natAbs d
  refine ⟨(Nat.gcd x.natAbs d : Nat), by omega, ?_, ?_⟩
  · rw [h1]
    exact (Int.mul_ediv_cancel' (Int.ofNat_dvd_left.2 (Nat.gcd_dvd_left x.natAbs d))).symm
  · rw [h2, ← Int.natCast_mul, Nat.mul_div_cancel' (Nat.gcd_dvd_right x.natAbs d)]
/-- A rational between, of an integer between. -/
theorem between_at {p q : Rat} {d : Nat} {x : Int} (hd : 0 < d) (h1 : p.num * (d : Int) ≤ x * (p.den : Int)) (h2 : x * (q.den : Int) ≤ q.num * (d : Int)) :
    p ≤ Rat.divInt x d ∧ Rat.divInt x d ≤ q ∧ (Rat.divInt x d).den ≤ d ∧ (Rat.divInt x d).num.natAbs ≤ x.natAbs := by
  obtain ⟨e1, e2⟩ := rat_make (n := x) hd
  refine ⟨?_, ?_, by rw [e2]; exact Nat.div_le_self _ _, by rw [e1]; exact Int.natAbs_ediv_le_natAbs _ _⟩
  · obtain ⟨g, hg, hx, hdd⟩ := divInt_parts x hd
    rw [Rat.le_iff]
    apply Int.le_of_mul_le_mul_left _ hg
    have a1 : g * (p.num * ((Rat.divInt x d).den : Int)) = p.num * (d : Int) := by rw [Int.mul_left_comm, ← hdd]
    have a2 : g * ((Rat.divInt x d).num * (p.den : Int)) = x * (p.den : Int) := by rw [← Int.mul_assoc, ← hx]
    rw [a1, a2]
    exact h1
  · obtain ⟨g, hg, hx, hdd⟩ := divInt_parts x hd
    rw [Rat.le_iff]
    apply Int.le_of_mul_le_mul_left _ hg
    have a1 : g * (q.num * ((Rat.divInt x d).den : Int)) = q.num * (d : Int) := by rw [Int.mul_left_comm, ← hdd]
    have a2 : g * ((Rat.divInt x d).num * (q.den : Int)) = x * (q.den : Int) := by rw [← Int.mul_assoc, ← hx]
    rw [a1, a2]
    exact h2
/-- No lesser denominator will do. -/
theorem simplest_skip {p q m : Rat} (h : Simplest p q m) {d : Nat} (h0 : 0 < d) (hd : d < m.den) : floorZ (q * ((d : Int) : Rat)) < ceilZ (p * ((d : Int) : Rat)) := by
  rcases Int.lt_or_le (floorZ (q * ((d : Int) : Rat))) (ceilZ (p * ((d : Int) : Rat))) with h1 | h1
  · exact h1
  · exfalso
    obtain ⟨b1, b2, b3, _⟩ := between_at h0 (low_le.1 (Int.le_refl _)) (le_high.1 h1)
    have := (h.least _ b1 b2).2
    omega
theorem simplest_mid {p q m : Rat} (h : Simplest p q m) : ceilZ (p * ((m.den : Int) : Rat)) ≤ m.num ∧ m.num ≤ floorZ (q * ((m.den : Int) : Rat)) := by
  have h1 := h.lo
  have h2 := h.hi
  rw [Rat.le_iff] at h1 h2
  exact ⟨low_le.2 h1, le_high.2 h2⟩
theorem simplest_low {p q m : Rat} (h : Simplest p q m) (h0 : 0 < ceilZ (p * ((m.den : Int) : Rat))) : ceilZ (p * ((m.den : Int) : Rat)) = m.num := by
  obtain ⟨h1, h2⟩ := simplest_mid h
  obtain ⟨b1, b2, _, b4⟩ := between_at m.den_pos (low_le.1 (Int.le_refl (ceilZ (p * ((m.den : Int) : Rat))))) (le_high.1 (Int.le_trans h1 h2))
  have := (h.least _ b1 b2).1
  omega
theorem simplest_high {p q m : Rat} (h : Simplest p q m) (h0 : floorZ (q * ((m.den : Int) : Rat)) < 0) : floorZ (q * ((m.den : Int) : Rat)) = m.num := by
  obtain ⟨h1, h2⟩ := simplest_mid h
  obtain ⟨b1, b2, _, b4⟩ := between_at m.den_pos (low_le.1 (Int.le_trans h1 h2)) (le_high.1 (Int.le_refl (floorZ (q * ((m.den : Int) : Rat)))))
  have := (h.least _ b1 b2).1
  omega
theorem simplest_none {p q m : Rat} (h : Simplest p q m) (h0 : ¬ 0 < ceilZ (p * ((m.den : Int) : Rat))) (h1 : ¬ floorZ (q * ((m.den : Int) : Rat)) < 0) : m = 0 := by
  have hm := m.den_pos
  have a1 := low_le.1 (show ceilZ (p * ((m.den : Int) : Rat)) ≤ 0 by omega)
  have a2 := le_high.1 (show 0 ≤ floorZ (q * ((m.den : Int) : Rat)) by omega)
  have b1 : p ≤ 0 := by
    rw [Rat.le_iff]
    show p.num * 1 ≤ 0 * (p.den : Int)
    rw [Int.zero_mul] at a1 ⊢
    rcases Int.lt_or_le 0 p.num with h2 | h2
    · have := Int.mul_pos h2 (show (0 : Int) < (m.den : Int) by omega); omega
    · omega
  have b2 : 0 ≤ q := by
    rw [Rat.le_iff]
    show 0 * (q.den : Int) ≤ q.num * 1
    rw [Int.zero_mul] at a2 ⊢
    rcases Int.lt_or_le q.num 0 with h2 | h2
    · have := Int.mul_neg_of_neg_of_pos h2 (show (0 : Int) < (m.den : Int) by omega); omega
    · omega
  have h3 := (h.least 0 b1 b2).1
  have h4 : m.num = 0 := by
    have e : (0 : Rat).num.natAbs = 0 := rfl
    omega
  exact Rat.num_eq_zero.1 h4
set_option maxRecDepth 100000 in
set_option maxHeartbeats 8000000 in
theorem rsimplest_order (a : Int) (P : Option Addr) (b : Int) (Q : Option Addr) (c : Int) (U : Option Addr) (d : Int) (V : Option Addr) (p q : Rat) (w : World) (h : RatV w a P b Q p) (h' : RatV w c U d V q) (hpn : p.num.natAbs < base 47) (hpd : p.den < base 47) (hqn : q.num.natAbs < base 47) (hqd : q.den < base 47) (hlt : 0 < cmpR p q) :
    Calls Tryz.prog 6 #[.agg #[.int .i64 a, .pointer P, .int .i64 b, .pointer Q], .agg #[.int .i64 c, .pointer U, .int .i64 d, .pointer V]] w fun e w' => e = .returned (.tuple #[.agg #[.int .i64 0, .pointer none, .int .i64 0, .pointer none], .int .i64 8]) ∧ Below w.heap.size w w' := by
  have kk := (((Below.refl w.heap.size w).alloc (Nat.le_refl _) (.cells #[.int .i64 a, .pointer P, .int .i64 b, .pointer Q] 28)).alloc (by simp) (.cells #[.int .i64 c, .pointer U, .int .i64 d, .pointer V] 28)).alloc (by simp; omega) (.cells #[.int .i64 0, .pointer none, .int .i64 0, .pointer none] 28)
  have V0 := Lib.hid (((box_rat w a P b Q).keep ((Below.refl _ _).alloc (Nat.le_refl _) (.cells #[.int .i64 c, .pointer U, .int .i64 d, .pointer V] 28))).keep ((Below.refl _ _).alloc (Nat.le_refl _) (.cells #[.int .i64 0, .pointer none, .int .i64 0, .pointer none] 28)))
  have V1 := Lib.hid ((box_rat (w.alloc (.cells #[.int .i64 a, .pointer P, .int .i64 b, .pointer Q] 28)) c U d V).keep ((Below.refl _ _).alloc (Nat.le_refl _) (.cells #[.int .i64 0, .pointer none, .int .i64 0, .pointer none] 28)))
  have R := Lib.hid (Cells.new ((w.alloc (.cells #[.int .i64 a, .pointer P, .int .i64 b, .pointer Q] 28)).alloc (.cells #[.int .i64 c, .pointer U, .int .i64 d, .pointer V] 28)) #[.int .i64 0, .pointer none, .int .i64 0, .pointer none] 28)
  simp only [World.size_alloc] at V1 R
  have HC := Lib.hid (rcmp_any a P b Q c U d V p q _ (h.keep kk) (h'.keep kk) hpn hpd hqn hqd)
  obtain ⟨cv, hcv⟩ : ∃ cv, cmpR p q = cv := ⟨_, rfl⟩
  have tc : decide (0 < cv) = true := by rw [← hcv]; exact decide_eq_true hlt
  rw [hcv] at HC
  have K := Lib.hid kk
  clear h h' kk hcv hlt
  have c0 := V0.out.c0
  have c1 := V0.out.c1
  have c2 := V0.out.c2
  have c3 := V0.out.c3
  have i0 := V1.out.c0
  have i1 := V1.out.c1
  have i2 := V1.out.c2
  have i3 := V1.out.c3
  go_enter Tryz.func6, Tryz.ntmps6
  go_wp2_with fail
  refine HC.out.mono ?_
  rintro e w1 ⟨rfl, g1⟩
  clear c0 c1 c2 c3
  clear i0 i1 i2 i3
  replace R := Lib.hid (R.out.keep g1)
  replace K := Lib.hid (below_on K.out g1)
  clear g1
  have k0 := R.out.c0
  have f0 := R.out.fz 0
  have k1 := R.out.c1
  have f1 := R.out.fz 1
  have k2 := R.out.c2
  have f2 := R.out.fz 2
  have k3 := R.out.c3
  have f3 := R.out.fz 3
  have Kf := Lib.hid (below_put4 K.out (show w.heap.size ≤ w.heap.size + 1 + 1 by omega) (.int .i64 0) (.pointer none) (.int .i64 0) (.pointer none))
  go_wp2
  exact bodyPost_ret (v := .tuple #[.agg #[.int .i64 0, .pointer none, .int .i64 0, .pointer none], .int .i64 8]) (by simp [results, Tryz.results6, go_sem, k0, k1, k2, k3]) rfl ⟨rfl, Kf.out⟩
end Go.Proofs.YtbpbfjnndkoioaaGreatDoor
