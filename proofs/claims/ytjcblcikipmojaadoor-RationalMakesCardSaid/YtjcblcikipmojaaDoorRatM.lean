/- Rationals: plain mathematics, over the rationals of Lean's core. -/
import Derived.Test.YtjcblcikipmojaaDoorDM
namespace Go.Proofs.YtjcblcikipmojaaDoor
open Go.RowKit

/-- The rational with a numerator and a denominator without a common divisor. -/
theorem rat_low {n : Int} {d : Nat} (hd : 0 < d) (hc : Nat.gcd n.natAbs d = 1) {N D : Int} (hD : D ≠ 0) (h : n * D = N * d) : (Rat.divInt N D).num = n ∧ (Rat.divInt N D).den = d := by
  have e : Rat.divInt N D = ⟨n, d, by omega, hc⟩ := by
    rw [Rat.mk_eq_divInt, Rat.divInt_eq_divInt_iff hD (by omega)]
    exact h.symm
  rw [e]
  exact ⟨rfl, rfl⟩
theorem nat_dvd_int {g : Nat} {n : Int} (h : g ∣ n.natAbs) : ∃ c : Int, n = g * c := Int.ofNat_dvd_left.2 h
/-- Numerator and denominator of a quotient: divided by the greatest common divisor. -/
theorem rat_make {n : Int} {k : Nat} (hk : 0 < k) : (Rat.divInt n k).num = n / (Nat.gcd n.natAbs k : Nat) ∧ (Rat.divInt n k).den = k / Nat.gcd n.natAbs k := by
  have hg : 0 < Nat.gcd n.natAbs k := Nat.gcd_pos_of_pos_right _ hk
  obtain ⟨c, hc⟩ := nat_dvd_int (Nat.gcd_dvd_left n.natAbs k)
  obtain ⟨d, hd⟩ := Nat.gcd_dvd_right n.natAbs k
  obtain ⟨g, hge⟩ : ∃ g, Nat.gcd n.natAbs k = g := ⟨_, rfl⟩
  have hgi : (g : Int) ≠ 0 := by omega
  have hcop : Nat.gcd c.natAbs d = 1 := by
    have h1 := hge
    rw [hge] at hc hd
    rw [hc, hd, Int.natAbs_mul, Int.natAbs_natCast, Nat.gcd_mul_left] at h1
    have h2 : g * Nat.gcd c.natAbs d = g * 1 := by omega
    exact Nat.eq_of_mul_eq_mul_left (by omega) h2
  rw [hge] at hc hd hg ⊢
  have hd0 : 0 < d := by
    rcases Nat.eq_zero_or_pos d with h | h
    · rw [h] at hd; omega
    · exact h
  have h := rat_low (N := n) (D := k) hd0 hcop (by omega) (by rw [hc, hd]; push_cast; simp only [Int.mul_comm, Int.mul_left_comm])
  rw [h.1, h.2]
  refine ⟨?_, ?_⟩
  · rw [hc, Int.mul_ediv_cancel_left _ hgi]
  · rw [hd, Nat.mul_div_cancel_left _ hg]
theorem rat_neg (n k : Int) : Rat.divInt (-n) (-k) = Rat.divInt n k := Rat.neg_divInt_neg n k
theorem rat_self (q : Rat) : Rat.divInt q.num q.den = q := Rat.num_divInt_den q
/-- What a denominator is kept as: 0 for 1. -/
def denZ (d : Nat) : Int := if d = 1 then 0 else (d : Int)
theorem denZ_one : denZ 1 = 0 := rfl
theorem denZ_ne {d : Nat} (h : d ≠ 1) : denZ d = (d : Int) := by unfold denZ; rw [if_neg h]
theorem denZ_zero {q : Rat} : denZ q.den = 0 ↔ q.den = 1 := by
  have := q.den_pos
  unfold denZ
  split <;> omega
theorem denZ_pos (q : Rat) : 0 ≤ denZ q.den := by unfold denZ; split <;> omega
/-- The sum as the program makes it. -/
theorem rat_add (a b : Rat) {g c : Nat} {n : Int} {x y : Nat} (hg : Nat.gcd a.den b.den = g) (hx : a.den / g = x) (hy : b.den / g = y) (hn : a.num * y + b.num * x = n) (hc : Nat.gcd n.natAbs g = c) :
    (a + b).num = n / c ∧ ((a + b).den : Int) = x * (b.den / c : Nat) := by
  have ha := a.den_pos
  have hb := b.den_pos
  have hgp : 0 < g := by rw [← hg]; exact Nat.gcd_pos_of_pos_left _ ha
  have aux := Rat.add.aux a b hg.symm hx.symm hy.symm
  simp only at aux
  rw [hn, hc] at aux
  have hax : a.den = x * g := by rw [← hx, Nat.div_mul_cancel (hg ▸ Nat.gcd_dvd_left _ _)]
  have hby : b.den = y * g := by rw [← hy, Nat.div_mul_cancel (hg ▸ Nat.gcd_dvd_right _ _)]
  have hxp : 0 < x := by
    rcases Nat.eq_zero_or_pos x with h | h
    · rw [h] at hax; omega
    · exact h
  have hD : 0 < x * b.den := Nat.mul_pos hxp hb
  have e : a + b = Rat.divInt n ((x * b.den : Nat) : Int) := by
    have e0 := Rat.divInt_add_divInt a.num b.num (d₁ := a.den) (d₂ := b.den) (by omega) (by omega)
    rw [rat_self, rat_self] at e0
    rw [e0, Rat.divInt_eq_divInt_iff (by rw [← Int.natCast_mul]; exact Int.ofNat_ne_zero.2 (Nat.ne_of_gt (Nat.mul_pos ha hb))) (Int.ofNat_ne_zero.2 (Nat.ne_of_gt hD)), ← hn]
    have e1 : (a.den : Int) = x * g := by rw [hax]; push_cast; rfl
    have e2 : (b.den : Int) = y * g := by rw [hby]; push_cast; rfl
    push_cast
    rw [e1, e2]
    simp only [Int.mul_add, Int.mul_assoc, Int.mul_comm, Int.mul_left_comm]
  rw [e]
  obtain ⟨h1, h2⟩ := rat_make (n := n) hD
  rw [← aux] at h1 h2
  refine ⟨h1, ?_⟩
  have hcd : c ∣ b.den := Nat.dvd_trans (hc ▸ Nat.gcd_dvd_right _ _) (hg ▸ Nat.gcd_dvd_right _ _)
  rw [h2, Nat.mul_div_assoc _ hcd, Int.natCast_mul]
/-- The product as the program makes it. -/
theorem rat_mul (a b : Rat) {g k : Nat} (hg : Nat.gcd a.num.natAbs b.den = g) (hk : Nat.gcd b.num.natAbs a.den = k) :
    (a * b).num = (a.num / g) * (b.num / k) ∧ ((a * b).den : Int) = ((a.den / k : Nat) : Int) * ((b.den / g : Nat) : Int) := by
  have e : a * b = Rat.mul a b := rfl
  rw [e]
  unfold Rat.mul
  simp only [hg, hk]
  refine ⟨?_, ?_⟩
  · rw [Int.divExact_eq_ediv, Int.divExact_eq_ediv]
  · rw [Nat.divExact_eq_div, Nat.divExact_eq_div, Int.natCast_mul]
end Go.Proofs.YtjcblcikipmojaaDoor
