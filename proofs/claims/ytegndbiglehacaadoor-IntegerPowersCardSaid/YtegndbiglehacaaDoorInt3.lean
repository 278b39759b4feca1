/- gcdDigit: the greatest common divisor of two words. -/
import Derived.Test.YtegndbiglehacaaDoorInt1
import Derived.Test.YtegndbiglehacaaDoorNat1
import Derived.Laws.Bits64b
namespace Go.Proofs.YtegndbiglehacaaDoor
open Go.RowKit

abbrev TabTz (w : World) : Prop := TabAt (Tryd.lays7n29_ren.g 1) Lib.deBruijn64tab w

set_option maxHeartbeats 1000000 in
theorem gcdDigit_zero (a b : Nat) (w : World) (ha : a < 18446744073709551616) (hb : b < 18446744073709551616) (h : a = 0 ∨ b = 0) :
    Calls Tryd.prog 65 #[.int .u64 a, .int .u64 b] w fun e w' => e = .returned (.int .u64 (Nat.gcd a b : Nat)) ∧ w' = w := by
  have e : bits BinOp.or IntKind.u64 (a : Int) (b : Int) = (Nat.gcd a b : Nat) := by
    rw [bits_or_u64_nat a b ha hb]
    rcases h with rfl | rfl <;> simp
  have He := Lib.hid e
  clear e
  rcases h with h | h
  · subst h
    go_enter Tryd.func65, Tryd.ntmps65
    go_wp2
    go_ret
    exact ⟨ret_u64 He.out, rfl⟩
  · subst h
    by_cases h0 : a = 0
    · subst h0
      go_enter Tryd.func65, Tryd.ntmps65
      go_wp2
      go_ret
      exact ⟨rfl, rfl⟩
    · have h1 : ((a : Int) == 0) = false := by rw [beq_eq_false_iff_ne]; omega
      go_enter Tryd.func65, Tryd.ntmps65
      go_wp2
      go_ret
      exact ⟨ret_u64 He.out, rfl⟩

theorem tz_at (x k : Nat) (hx : x < 18446744073709551616) (hk : Lib.ctz 64 x = k) (w : World) (ht : TabTz w) :
    Calls Tryd.prog 81 #[.int .u64 x] w fun e w' => e = .returned (.int .i64 (k : Nat)) ∧ w = w' := by
  subst hk
  exact (Tryd.bits_TrailingZeros64 x hx w (fun _ => ht)).mono fun e w' ⟨h1, h2⟩ => ⟨h1, h2.symm⟩

def GcdInv (g : Nat) (va vb : Value) : Prop := ∃ x y : Nat, va = .int .u64 x ∧ vb = .int .u64 y ∧ x % 2 = 1 ∧ x < 18446744073709551616 ∧ y < 18446744073709551616 ∧ Nat.gcd x y = g

theorem int_sum {k l : IntKind} {u v : Int} : (intOf (.int k u)).toNat + (intOf (.int l v)).toNat = u.toNat + v.toNat := rfl
theorem gcd_up {g x y z j : Nat} (hg : Nat.gcd x y = g) (ho : Nat.gcd x z = Nat.gcd x y) (hz : ((y : Int) / 2 ^ j) = (z : Int)) (hx : x % 2 = 1) (hx1 : x < 18446744073709551616) (hy1 : y < 18446744073709551616) (ly : z ≤ y) (py : 1 ≤ z)
    (h : (x : Int) ≤ (y : Int) / 2 ^ j) : GcdInv g (.int .u64 x) (.int .u64 (IntKind.u64.wrap ((y : Int) / 2 ^ j - x))) ∧
      (intOf (.int .u64 x)).toNat + (intOf (.int .u64 (IntKind.u64.wrap ((y : Int) / 2 ^ j - x)))).toNat < (intOf (.int .u64 x)).toNat + (intOf (.int .u64 y)).toNat := by
  rw [hz] at h ⊢
  have e : IntKind.u64.wrap ((z : Int) - x) = ((z - x : Nat) : Int) := by rw [wrap_u64]; omega
  rw [e, int_sum, int_sum]
  refine ⟨⟨x, z - x, rfl, rfl, hx, hx1, by omega, ?_⟩, by omega⟩
  rw [gcd_sub x z (by omega), ho, hg]
theorem gcd_down {g x y z j : Nat} (hg : Nat.gcd x y = g) (ho : Nat.gcd x z = Nat.gcd x y) (hz : ((y : Int) / 2 ^ j) = (z : Int)) (oy : z % 2 = 1) (hx1 : x < 18446744073709551616) (hy1 : y < 18446744073709551616) (ly : z ≤ y)
    (h : (y : Int) / 2 ^ j < (x : Int)) : GcdInv g (.int .u64 ((y : Int) / 2 ^ j)) (.int .u64 (IntKind.u64.wrap ((x : Int) - (y : Int) / 2 ^ j))) ∧
      (intOf (.int .u64 ((y : Int) / 2 ^ j))).toNat + (intOf (.int .u64 (IntKind.u64.wrap ((x : Int) - (y : Int) / 2 ^ j)))).toNat < (intOf (.int .u64 x)).toNat + (intOf (.int .u64 y)).toNat := by
  rw [hz] at h ⊢
  have e : IntKind.u64.wrap ((x : Int) - z) = ((x - z : Nat) : Int) := by rw [wrap_u64]; omega
  rw [e, int_sum, int_sum]
  refine ⟨⟨z, x - z, rfl, rfl, oy, by omega, by omega, ?_⟩, by omega⟩
  rw [gcd_sub z x (by omega), Nat.gcd_comm, ho, hg]

set_option maxHeartbeats 1000000 in
theorem gcdDigit_any (a b : Nat) (w : World) (ha : a < 18446744073709551616) (hb : b < 18446744073709551616) (h0 : a ≠ 0) (h1 : b ≠ 0) (ht : TabTz w) :
    Calls Tryd.prog 65 #[.int .u64 a, .int .u64 b] w fun e w' => e = .returned (.int .u64 (Nat.gcd a b : Nat)) ∧ w' = w := by
  have t0 : ((a : Int) == 0) = false := by rw [beq_eq_false_iff_ne]; omega
  have t1 : ((b : Int) == 0) = false := by rw [beq_eq_false_iff_ne]; omega
  have hor := ctz_or a b h0 h1 ha hb
  have hgcd := gcd_two a b h0 h1 ha hb _ hor
  have hlt : (a ||| b) < 18446744073709551616 := by
    have := Nat.or_lt_two_pow (n := 64) (x := a) (y := b) (by simpa using ha) (by simpa using hb)
    simpa using this
  have hbits := bits_or_u64_nat a b ha hb
  obtain ⟨c, hc⟩ : ∃ c, a ||| b = c := ⟨_, rfl⟩
  rw [hc] at hor hgcd hlt hbits
  obtain ⟨s, hs⟩ : ∃ s, Lib.ctz 64 c = s := ⟨_, rfl⟩
  rw [hs] at hgcd hor
  obtain ⟨sa, oa, ka, la, pa⟩ := odd_spec a h0 ha
  have ks : s < 64 := by omega
  obtain ⟨k, hk⟩ : ∃ k, Lib.ctz 64 a = k := ⟨_, rfl⟩
  rw [hk] at ka
  have Hs := Lib.hid hs
  have Hk := Lib.hid hk
  have Hb := Lib.hid hbits
  have Hg := Lib.hid hgcd
  have Ht := Lib.hid ht
  have Ho := Lib.hid (show odd a = a / 2 ^ k by unfold odd; rw [hk])
  clear hs hk hbits hgcd ht hc hor sa h0 h1
  go_enter Tryd.func65, Tryd.ntmps65
  go_wp2_with fail
  rw [Hb.out]
  refine (tz_at c s hlt Hs.out _ Ht.out).mono ?_
  rintro e w' ⟨rfl, rfl⟩
  go_wp2_with fail
  refine (tz_at a k ha Hk.out _ Ht.out).mono ?_
  rintro e w' ⟨rfl, rfl⟩
  go_wp2_with fail
  go_loop [0, 1] (fun va vb => GcdInv (Nat.gcd (odd a) b) va vb) (fun va vb => (intOf va).toNat + (intOf vb).toNat)
  case atStart =>
    refine ⟨odd a, b, ?_, rfl, oa, by omega, hb, rfl⟩
    rw [Ho.out]; simp
  case round =>
    obtain ⟨x, y, rfl, rfl, hx, hx1, hy1, hg⟩ := hrel
    have Hg' := Lib.hid hg
    clear hg
    by_cases hy : y = 0
    · subst hy
      go_wp2
      go_ret
      refine ⟨ret_u64 ?_, rfl⟩
      have e : x = Nat.gcd (odd a) b := by have := Hg'.out; simpa using this
      have e2 := Hg.out
      rw [← e] at e2
      have e3 : Nat.gcd a b < 18446744073709551616 := Nat.lt_of_le_of_lt (Nat.gcd_le_left _ (by omega)) ha
      rw [wrap_u64, ← e2]
      rw [← e2] at e3
      have e4 : (x : Int) * 2 ^ s = ((x * 2 ^ s : Nat) : Int) := by simp
      rw [e4]
      omega
    · obtain ⟨sy, oy, ky, ly, py⟩ := odd_spec y hy hy1
      have hgo := gcd_odd x y hx hy hy1
      obtain ⟨j, hj⟩ : ∃ j, Lib.ctz 64 y = j := ⟨_, rfl⟩
      obtain ⟨z, hz⟩ : ∃ z, odd y = z := ⟨_, rfl⟩
      rw [hz] at oy ly py hgo
      have t2 : ((y : Int) == 0) = false := by rw [beq_eq_false_iff_ne]; omega
      have Hz := Lib.hid (show ((y : Int) / 2 ^ j) = (z : Int) by rw [← hz, ← hj]; unfold odd; simp)
      rw [hj] at ky
      have Hj := Lib.hid hj
      have Hgo := Lib.hid hgo
      clear hj hz hgo sy hy
      go_wp2_with fail
      refine (tz_at y j hy1 Hj.out _ Ht.out).mono ?_
      rintro e w' ⟨rfl, rfl⟩
      go_wp2_with fail
      · exact gcd_down Hg'.out Hgo.out Hz.out oy hx1 hy1 ly (by assumption)
      · exact gcd_up Hg'.out Hgo.out Hz.out hx hx1 hy1 ly py (by assumption)
end Go.Proofs.YtegndbiglehacaaDoor
