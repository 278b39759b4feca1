/- Plain mathematics: greatest common divisors by halving. No program. -/
import Derived.Lib.TrailingZeros
namespace Go.Proofs.YtegndbiglehacaaDoor
theorem ctz_spec (x : Nat) (h0 : x ≠ 0) (h : x < 18446744073709551616) : ∃ m, x = 2 ^ Lib.ctz 64 x * m ∧ m % 2 = 1 ∧ Lib.ctz 64 x < 64 := by
  obtain ⟨m, hm, hk⟩ := Lib.ctzFrom_spec 64 x (by omega) (by simpa using h)
  have e : Lib.ctz 64 x = Lib.ctzFrom 64 x := by unfold Lib.ctz; rw [if_neg h0]
  rw [e]
  exact ⟨2 * m + 1, hm, by omega, hk⟩
theorem gcd_shift (x m k : Nat) (hx : x % 2 = 1) : Nat.gcd x (2 ^ k * m) = Nat.gcd x m := by
  have hc : Nat.Coprime (2 ^ k) x := by
    refine Nat.Coprime.pow_left k ?_
    show Nat.gcd 2 x = 1
    rw [Nat.gcd_rec, hx]
    decide
  exact Nat.Coprime.gcd_mul_left_cancel_right m hc
/-- The shift by the zeros at the end. -/
def odd (x : Nat) : Nat := x / 2 ^ Lib.ctz 64 x
theorem odd_spec (x : Nat) (h0 : x ≠ 0) (h : x < 18446744073709551616) : x = 2 ^ Lib.ctz 64 x * odd x ∧ odd x % 2 = 1 ∧ Lib.ctz 64 x < 64 ∧ odd x ≤ x ∧ 1 ≤ odd x := by
  obtain ⟨m, hm, ho, hk⟩ := ctz_spec x h0 h
  have e : odd x = m := by
    unfold odd
    conv => lhs; lhs; rw [hm]
    exact Nat.mul_div_cancel_left m (Nat.pow_pos (by decide))
  rw [e]
  refine ⟨hm, ho, hk, ?_, by omega⟩
  rw [← e]; exact Nat.div_le_self _ _
theorem gcd_odd (x y : Nat) (hx : x % 2 = 1) (h0 : y ≠ 0) (h : y < 18446744073709551616) : Nat.gcd x (odd y) = Nat.gcd x y := by
  have hs := (odd_spec y h0 h).1
  have := gcd_shift x (odd y) (Lib.ctz 64 y) hx
  rw [← this, ← hs]
theorem gcd_sub (x y : Nat) (h : x ≤ y) : Nat.gcd x (y - x) = Nat.gcd x y := Nat.gcd_sub_self_right h
/-- or of two numbers: the zeros at its end are the lesser of theirs. -/
theorem gcd_two (a b : Nat) (ha : a ≠ 0) (hb : b ≠ 0) (h1 : a < 18446744073709551616) (h2 : b < 18446744073709551616) (k : Nat)
    (hk : k = min (Lib.ctz 64 a) (Lib.ctz 64 b)) : Nat.gcd (odd a) b * 2 ^ k = Nat.gcd a b := by
  obtain ⟨ea, oa, _, _, _⟩ := odd_spec a ha h1
  obtain ⟨eb, ob, _, _, _⟩ := odd_spec b hb h2
  have g1 : Nat.gcd (odd a) b = Nat.gcd (odd a) (odd b) := (gcd_odd (odd a) b oa hb h2).symm
  rw [g1]
  rcases Nat.le_total (Lib.ctz 64 a) (Lib.ctz 64 b) with h | h
  · rw [Nat.min_eq_left h] at hk
    subst hk
    obtain ⟨d, hd⟩ := Nat.exists_eq_add_of_le h
    have : b = 2 ^ Lib.ctz 64 a * (2 ^ d * odd b) := by rw [← Nat.mul_assoc, ← Nat.pow_add, ← hd]; exact eb
    have e : Nat.gcd a b = Nat.gcd (2 ^ Lib.ctz 64 a * odd a) (2 ^ Lib.ctz 64 a * (2 ^ d * odd b)) := by rw [← this, ← ea]
    rw [e, Nat.gcd_mul_left, gcd_shift _ _ _ oa, Nat.mul_comm]
  · rw [Nat.min_eq_right h] at hk
    subst hk
    obtain ⟨d, hd⟩ := Nat.exists_eq_add_of_le h
    have : a = 2 ^ Lib.ctz 64 b * (2 ^ d * odd a) := by rw [← Nat.mul_assoc, ← Nat.pow_add, ← hd]; exact ea
    have e : Nat.gcd a b = Nat.gcd (2 ^ Lib.ctz 64 b * (2 ^ d * odd a)) (2 ^ Lib.ctz 64 b * odd b) := by rw [← this, ← eb]
    rw [e, Nat.gcd_mul_left, Nat.gcd_comm (2 ^ d * odd a), gcd_shift _ _ _ ob, Nat.gcd_comm, Nat.mul_comm]
theorem ctz_or (a b : Nat) (ha : a ≠ 0) (hb : b ≠ 0) (h1 : a < 18446744073709551616) (h2 : b < 18446744073709551616) : Lib.ctz 64 (a ||| b) = min (Lib.ctz 64 a) (Lib.ctz 64 b) := by
  have hor : (a ||| b) ≠ 0 := by intro h; exact ha (Nat.or_eq_zero_iff.1 h).1
  have hlt : (a ||| b) < 18446744073709551616 := by
    have := Nat.or_lt_two_pow (n := 64) (x := a) (y := b) (by simpa using h1) (by simpa using h2)
    simpa using this
  obtain ⟨ea, oa, _, _, _⟩ := odd_spec a ha h1
  obtain ⟨eb, ob, _, _, _⟩ := odd_spec b hb h2
  obtain ⟨ec, oc, _, _, _⟩ := odd_spec _ hor hlt
  have bit : ∀ x m k i, x = 2 ^ k * m → x.testBit i = (decide (k ≤ i) && m.testBit (i - k)) := fun x m k i e => by rw [e, Nat.testBit_two_pow_mul]
  have low : ∀ x m k, x = 2 ^ k * m → m % 2 = 1 → x.testBit k = true := fun x m k e o => by
    rw [bit x m k k e]; simp [Nat.testBit_zero, o]
  have less : ∀ x m k i, x = 2 ^ k * m → i < k → x.testBit i = false := fun x m k i e h => by
    rw [bit x m k i e]; simp; omega
  have hc : (a ||| b).testBit (Lib.ctz 64 (a ||| b)) = true := low _ _ _ ec oc
  rcases Nat.lt_trichotomy (Lib.ctz 64 (a ||| b)) (min (Lib.ctz 64 a) (Lib.ctz 64 b)) with h | h | h
  · rw [Nat.testBit_or, less _ _ _ _ ea (by omega), less _ _ _ _ eb (by omega)] at hc
    simp at hc
  · exact h
  · exfalso
    have hmin : (a ||| b).testBit (min (Lib.ctz 64 a) (Lib.ctz 64 b)) = true := by
      rw [Nat.testBit_or]
      rcases Nat.le_total (Lib.ctz 64 a) (Lib.ctz 64 b) with h' | h'
      · rw [Nat.min_eq_left h', low _ _ _ ea oa]; rfl
      · rw [Nat.min_eq_right h', low _ _ _ eb ob]; simp
    rw [less _ _ _ _ ec h] at hmin
    simp at hmin
end Go.Proofs.YtegndbiglehacaaDoor
