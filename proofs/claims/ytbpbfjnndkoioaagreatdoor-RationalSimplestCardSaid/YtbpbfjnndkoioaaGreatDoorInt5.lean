/- parts and Bits on small ints. -/
import Derived.Lib.TrailingZeros
import Derived.Test.YtbpbfjnndkoioaaGreatDoorInt1
import Derived.Laws.Bits64b
import Derived.Deep.RegionHeld3
import Derived.Deep.RegionWith
namespace Go.Proofs.YtbpbfjnndkoioaaGreatDoor
open Go.RowKit
theorem ctz_spec (x : Nat) (h0 : x ≠ 0) (h : x < 18446744073709551616) : ∃ m, x = 2 ^ Lib.ctz 64 x * m ∧ m % 2 = 1 ∧ Lib.ctz 64 x < 64 := by
  obtain ⟨m, hm, hk⟩ := Lib.ctzFrom_spec 64 x (by omega) (by simpa using h)
  have e : Lib.ctz 64 x = Lib.ctzFrom 64 x := by unfold Lib.ctz; rw [if_neg h0]
  rw [e]
  exact ⟨2 * m + 1, hm, by omega, hk⟩
theorem gcd_shift (x m k : Nat) (hx : x % 2 = 1) : Nat.gcd x (2 ^ k * m) = Nat.gcd x m := by
  have hc : Nat.Coprime (2 ^ k) x := by
    refine Nat.Coprime.pow_left k ?_
    show Nat.gcd 2 x = 1
    rw [Nat.gcd_rec, hx]
    decide
  exact Nat.Coprime.gcd_mul_left_cancel_right m hc
/-- The shift by the zeros at the end. -/
def odd (x : Nat) : Nat := x / 2 ^ Lib.ctz 64 x
theorem odd_spec (x : Nat) (h0 : x ≠ 0) (h : x < 18446744073709551616) : x = 2 ^ Lib.ctz 64 x * odd x ∧ odd x % 2 = 1 ∧ Lib.ctz 64 x < 64 ∧ odd x ≤ x ∧ 1 ≤ odd x := by
  obtain ⟨m, hm, ho, hk⟩ := ctz_spec x h0 h
  have e : odd x = m := by
    unfold odd
    conv => lhs; lhs; rw [hm]
    exact Nat.mul_div_cancel_left m (Nat.pow_pos (by decide))
  rw [e]
  refine ⟨hm, ho, hk, ?_, by omega⟩
  rw [← e]; exact Nat.div_le_self _ _
theorem gcd_odd (x y : Nat) (hx : x % 2 = 1) (h0 : y ≠ 0) (h : y < 18446744073709551616) : Nat.gcd x (odd y) = Nat.gcd x y := by
  have hs := (odd_spec y h0 h).1
  have := gcd_shift x (odd y) (Lib.ctz 64 y) hx
  rw [← this, ← hs]
theorem gcd_sub (x y : Nat) (h : x ≤ y) : Nat.gcd x (y - x) = Nat.gcd x y := Nat.gcd_sub_self_right h
/-- or of two numbers: the zeros at its end are the lesser of theirs. -/
theorem gcd_two (a b : Nat) (ha : a ≠ 0) (hb : b ≠ 0) (h1 : a < 18446744073709551616) (h2 : b < 18446744073709551616) (k : Nat)
    (hk : k = min (Lib.ctz 64 a) (Lib.ctz 64 b)) : Nat.gcd (odd a) b * 2 ^ k = Nat.gcd a b := by
  obtain ⟨ea, oa, _, _, _⟩ := odd_spec a ha h1
  obtain ⟨eb, ob, _, _, _⟩ := odd_spec b hb h2
  have g1 : Nat.gcd (odd a) b = Nat.gcd (odd a) (odd b) := (gcd_odd (odd a) b oa hb h2).symm
  rw [g1]
  rcases Nat.le_total (Lib.ctz 64 a) (Lib.ctz 64 b) with h | h
  · rw [Nat.min_eq_left h] at hk
    subst hk
    obtain ⟨d, hd⟩ := Nat.exists_eq_add_of_le h
    have : b = 2 ^ Lib.ctz 64 a * (2 ^ d * odd b) := by rw [← Nat.mul_assoc, ← Nat.pow_add, ← hd]; exact eb
    have e : Nat.gcd a b = Nat.gcd (2 ^ Lib.ctz 64 a * odd a) (2 ^ Lib.ctz 64 a * (2 ^ d * odd b)) := by rw [← this, ← ea]
    rw [e, Nat.gcd_mul_left, gcd_shift _ _ _ oa, Nat.mul_comm]
  · rw [Nat.min_eq_right h] at hk
    subst hk
    obtain ⟨d, hd⟩ := Nat.exists_eq_add_of_le h
    have : a = 2 ^ Lib.ctz 64 b * (2 ^ d * odd a) := by rw [← Nat.mul_assoc, ← Nat.pow_add, ← hd]; exact ea
    have e : Nat.gcd a b = Nat.gcd (2 ^ Lib.ctz 64 b * (2 ^ d * odd a)) (2 ^ Lib.ctz 64 b * odd b) := by rw [← this, ← eb]
    rw [e, Nat.gcd_mul_left, Nat.gcd_comm (2 ^ d * odd a), gcd_shift _ _ _ ob, Nat.gcd_comm, Nat.mul_comm]
theorem ctz_or (a b : Nat) (ha : a ≠ 0) (hb : b ≠ 0) (h1 : a < 18446744073709551616) (h2 : b < 18446744073709551616) : Lib.ctz 64 (a ||| b) = min (Lib.ctz 64 a) (Lib.ctz 64 b) := by
  have hor : (a ||| b) ≠ 0 := by intro h; exact ha (Nat.or_eq_zero_iff.1 h).1
  have hlt : (a ||| b) < 18446744073709551616 := by
    have := Nat.or_lt_two_pow (n := 64) (x := a) (y := b) (by simpa using h1) (by simpa using h2)
    simpa using this
  obtain ⟨ea, oa, _, _, _⟩ := odd_spec a ha h1
  obtain ⟨eb, ob, _, _, _⟩ := odd_spec b hb h2
  obtain ⟨ec, oc, _, _, _⟩ := odd_spec _ hor hlt
  have bit : ∀ x m k i, x = 2 ^ k * m → x.testBit i = (decide (k ≤ i) && m.testBit (i - k)) := fun x m k i e => by rw [e, Nat.testBit_two_pow_mul]
  have low : ∀ x m k, x = 2 ^ k * m → m % 2 = 1 → x.testBit k = true := fun x m k e o => by
    rw [bit x m k k e]; simp [Nat.testBit_zero, o]
  have less : ∀ x m k i, x = 2 ^ k * m → i < k → x.testBit i = false := fun x m k i e h => by
    rw [bit x m k i e]; simp; omega
  have hc : (a ||| b).testBit (Lib.ctz 64 (a ||| b)) = true := low _ _ _ ec oc
  rcases Nat.lt_trichotomy (Lib.ctz 64 (a ||| b)) (min (Lib.ctz 64 a) (Lib.ctz 64 b)) with h | h | h
  · rw [Nat.testBit_or, less _ _ _ _ ea (by omega), less _ _ _ _ eb (by omega)] at hc
    simp at hc
  · exact h
  · exfalso
    have hmin : (a ||| b).testBit (min (Lib.ctz 64 a) (Lib.ctz 64 b)) = true := by
      rw [Nat.testBit_or]
      rcases Nat.le_total (Lib.ctz 64 a) (Lib.ctz 64 b) with h' | h'
      · rw [Nat.min_eq_left h', low _ _ _ ea oa]; rfl
      · rw [Nat.min_eq_right h', low _ _ _ eb ob]; simp
    rw [less _ _ _ _ ec h] at hmin
    simp at hmin
abbrev TabTz (w : World) : Prop := TabAt (Tryz.lays7n29_ren.g 1) Lib.deBruijn64tab w

set_option maxHeartbeats 1000000 in
theorem gcdDigit_zero (a b : Nat) (w : World) (ha : a < 18446744073709551616) (hb : b < 18446744073709551616) (h : a = 0 ∨ b = 0) :
    Calls Tryz.prog 62 #[.int .u64 a, .int .u64 b] w fun e w' => e = .returned (.int .u64 (Nat.gcd a b : Nat)) ∧ w' = w := by
  have e : bits BinOp.or IntKind.u64 (a : Int) (b : Int) = (Nat.gcd a b : Nat) := by
    rw [bits_or_u64_nat a b ha hb]
    rcases h with rfl | rfl <;> simp
  have He := Lib.hid e
  clear e
  rcases h with h | h
  · subst h
    go_enter Tryz.func62, Tryz.ntmps62
    go_wp2
    go_ret
    exact ⟨ret_u64 He.out, rfl⟩
  · subst h
    by_cases h0 : a = 0
    · subst h0
      go_enter Tryz.func62, Tryz.ntmps62
      go_wp2
      go_ret
      exact ⟨rfl, rfl⟩
    · have h1 : ((a : Int) == 0) = false := by rw [beq_eq_false_iff_ne]; omega
      go_enter Tryz.func62, Tryz.ntmps62
      go_wp2
      go_ret
      exact ⟨ret_u64 He.out, rfl⟩

theorem tz_at (x k : Nat) (hx : x < 18446744073709551616) (hk : Lib.ctz 64 x = k) (w : World) (ht : TabTz w) :
    Calls Tryz.prog 91 #[.int .u64 x] w fun e w' => e = .returned (.int .i64 (k : Nat)) ∧ w = w' := by
  subst hk
  exact (Tryz.bits_TrailingZeros64 x hx w (fun _ => ht)).mono fun e w' ⟨h1, h2⟩ => ⟨h1, h2.symm⟩

def GcdInv (g : Nat) (va vb : Value) : Prop := ∃ x y : Nat, va = .int .u64 x ∧ vb = .int .u64 y ∧ x % 2 = 1 ∧ x < 18446744073709551616 ∧ y < 18446744073709551616 ∧ Nat.gcd x y = g

theorem int_sum {k l : IntKind} {u v : Int} : (intOf (.int k u)).toNat + (intOf (.int l v)).toNat = u.toNat + v.toNat := rfl
theorem gcd_up {g x y z j : Nat} (hg : Nat.gcd x y = g) (ho : Nat.gcd x z = Nat.gcd x y) (hz : ((y : Int) / 2 ^ j) = (z : Int)) (hx : x % 2 = 1) (hx1 : x < 18446744073709551616) (hy1 : y < 18446744073709551616) (ly : z ≤ y) (py : 1 ≤ z)
    (h : (x : Int) ≤ (y : Int) / 2 ^ j) : GcdInv g (.int .u64 x) (.int .u64 (IntKind.u64.wrap ((y : Int) / 2 ^ j - x))) ∧
      (intOf (.int .u64 x)).toNat + (intOf (.int .u64 (IntKind.u64.wrap ((y : Int) / 2 ^ j - x)))).toNat < (intOf (.int .u64 x)).toNat + (intOf (.int .u64 y)).toNat := by
  rw [hz] at h ⊢
  have e : IntKind.u64.wrap ((z : Int) - x) = ((z - x : Nat) : Int) := by rw [wrap_u64]; omega
  rw [e, int_sum, int_sum]
  refine ⟨⟨x, z - x, rfl, rfl, hx, hx1, by omega, ?_⟩, by omega⟩
  rw [gcd_sub x z (by omega), ho, hg]
theorem gcd_down {g x y z j : Nat} (hg : Nat.gcd x y = g) (ho : Nat.gcd x z = Nat.gcd x y) (hz : ((y : Int) / 2 ^ j) = (z : Int)) (oy : z % 2 = 1) (hx1 : x < 18446744073709551616) (hy1 : y < 18446744073709551616) (ly : z ≤ y)
    (h : (y : Int) / 2 ^ j < (x : Int)) : GcdInv g (.int .u64 ((y : Int) / 2 ^ j)) (.int .u64 (IntKind.u64.wrap ((x : Int) - (y : Int) / 2 ^ j))) ∧
      (intOf (.int .u64 ((y : Int) / 2 ^ j))).toNat + (intOf (.int .u64 (IntKind.u64.wrap ((x : Int) - (y : Int) / 2 ^ j)))).toNat < (intOf (.int .u64 x)).toNat + (intOf (.int .u64 y)).toNat := by
  rw [hz] at h ⊢
  have e : IntKind.u64.wrap ((x : Int) - z) = ((x - z : Nat) : Int) := by rw [wrap_u64]; omega
  rw [e, int_sum, int_sum]
  refine ⟨⟨z, x - z, rfl, rfl, oy, by omega, by omega, ?_⟩, by omega⟩
  rw [gcd_sub z x (by omega), Nat.gcd_comm, ho, hg]

set_option maxHeartbeats 1000000 in
theorem gcdDigit_any (a b : Nat) (w : World) (ha : a < 18446744073709551616) (hb : b < 18446744073709551616) (h0 : a ≠ 0) (h1 : b ≠ 0) (ht : TabTz w) :
    Calls Tryz.prog 62 #[.int .u64 a, .int .u64 b] w fun e w' => e = .returned (.int .u64 (Nat.gcd a b : Nat)) ∧ w' = w := by
  have t0 : ((a : Int) == 0) = false := by rw [beq_eq_false_iff_ne]; omega
  have t1 : ((b : Int) == 0) = false := by rw [beq_eq_false_iff_ne]; omega
  have hor := ctz_or a b h0 h1 ha hb
  have hgcd := gcd_two a b h0 h1 ha hb _ hor
  have hlt : (a ||| b) < 18446744073709551616 := by
    have := Nat.or_lt_two_pow (n := 64) (x := a) (y := b) (by simpa using ha) (by simpa using hb)
    simpa using this
  have hbits := bits_or_u64_nat a b ha hb
  obtain ⟨c, hc⟩ : ∃ c, a ||| b = c := ⟨_, rfl⟩
  rw [hc] at hor hgcd hlt hbits
  obtain ⟨s, hs⟩ : ∃ s, Lib.ctz 64 c = s := ⟨_, rfl⟩
  rw [hs] at hgcd hor
  obtain ⟨sa, oa, ka, la, pa⟩ := odd_spec a h0 ha
  have ks : s < 64 := by omega
  obtain ⟨k, hk⟩ : ∃ k, Lib.ctz 64 a = k := ⟨_, rfl⟩
  rw [hk] at ka
  have Hs := Lib.hid hs
  have Hk := Lib.hid hk
  have Hb := Lib.hid hbits
  have Hg := Lib.hid hgcd
  have Ht := Lib.hid ht
  have Ho := Lib.hid (show odd a = a / 2 ^ k by unfold odd; rw [hk])
  clear hs hk hbits hgcd ht hc hor sa h0 h1
  go_enter Tryz.func62, Tryz.ntmps62
  go_wp2_with fail
  rw [Hb.out]
  refine (tz_at c s hlt Hs.out _ Ht.out).mono ?_
  rintro e w' ⟨rfl, rfl⟩
  go_wp2_with fail
  refine (tz_at a k ha Hk.out _ Ht.out).mono ?_
  rintro e w' ⟨rfl, rfl⟩
  go_wp2_with fail
  go_loop [0, 1] (fun va vb => GcdInv (Nat.gcd (odd a) b) va vb) (fun va vb => (intOf va).toNat + (intOf vb).toNat)
  case atStart =>
    refine ⟨odd a, b, ?_, rfl, oa, by omega, hb, rfl⟩
    rw [Ho.out]; simp
  case round =>
    obtain ⟨x, y, rfl, rfl, hx, hx1, hy1, hg⟩ := hrel
    have Hg' := Lib.hid hg
    clear hg
    by_cases hy : y = 0
    · subst hy
      go_wp2
      go_ret
      refine ⟨ret_u64 ?_, rfl⟩
      have e : x = Nat.gcd (odd a) b := by have := Hg'.out; simpa using this
      have e2 := Hg.out
      rw [← e] at e2
      have e3 : Nat.gcd a b < 18446744073709551616 := Nat.lt_of_le_of_lt (Nat.gcd_le_left _ (by omega)) ha
      rw [wrap_u64, ← e2]
      rw [← e2] at e3
      have e4 : (x : Int) * 2 ^ s = ((x * 2 ^ s : Nat) : Int) := by simp
      rw [e4]
      omega
    · obtain ⟨sy, oy, ky, ly, py⟩ := odd_spec y hy hy1
      have hgo := gcd_odd x y hx hy hy1
      obtain ⟨j, hj⟩ : ∃ j, Lib.ctz 64 y = j := ⟨_, rfl⟩
      obtain ⟨z, hz⟩ : ∃ z, odd y = z := ⟨_, rfl⟩
      rw [hz] at oy ly py hgo
      have t2 : ((y : Int) == 0) = false := by rw [beq_eq_false_iff_ne]; omega
      have Hz := Lib.hid (show ((y : Int) / 2 ^ j) = (z : Int) by rw [← hz, ← hj]; unfold odd; simp)
      rw [hj] at ky
      have Hj := Lib.hid hj
      have Hgo := Lib.hid hgo
      clear hj hz hgo sy hy
      go_wp2_with fail
      refine (tz_at y j hy1 Hj.out _ Ht.out).mono ?_
      rintro e w' ⟨rfl, rfl⟩
      go_wp2_with fail
      · exact gcd_down Hg'.out Hgo.out Hz.out oy hx1 hy1 ly (by assumption)
      · exact gcd_up Hg'.out Hgo.out Hz.out hx hx1 hy1 ly py (by assumption)
theorem gcd_word (a b : Nat) (w : World) (ha : a < 18446744073709551616) (hb : b < 18446744073709551616) (ht : TabTz w) :
    Calls Tryz.prog 62 #[.int .u64 a, .int .u64 b] w fun e w' => e = .returned (.int .u64 (Nat.gcd a b : Nat)) ∧ w' = w := by
  by_cases h : a = 0 ∨ b = 0
  · exact gcdDigit_zero a b w ha hb h
  · exact gcdDigit_any a b w ha hb (fun e => h (.inl e)) (fun e => h (.inr e)) ht

theorem gcd_word_at (a b g : Nat) (w : World) (ha : a < 18446744073709551616) (hb : b < 18446744073709551616) (hg : Nat.gcd a b = g) (ht : TabTz w) :
    Calls Tryz.prog 62 #[.int .u64 a, .int .u64 b] w fun e w' => e = .returned (.int .u64 (g : Nat)) ∧ w' = w := by
  subst hg; exact gcd_word a b w ha hb ht

/-- Where the table of TrailingZeros64 lies. -/
abbrev TzG : Nat := Tryz.lays7n29_ren.g 1
theorem tz_below {B : Nat} {w w' : World} (ht : TabTz w) (hb : Below B w w') (hB : TzG < B) : TabTz w' := fun j hj => by
  rw [← ht j hj]; exact hb.cell (p := ⟨_, j, none⟩) hB

set_option maxHeartbeats 1000000 in
theorem gcd_small (a b : Int) (w : World) (ha : I64 a) (hb : I64 b) (g : Nat) (hg : Nat.gcd a.natAbs b.natAbs = g) (hg1 : g ≤ 9223372036854775807) (ht : TabTz w) (hw : TzG < w.heap.size) :
    Calls Tryz.prog 35 #[small a, small b] w fun e w' => e = .returned (small g) ∧ Below w.heap.size w w' := by
  have hg2 : (g : Int) ≤ 9223372036854775807 := by omega
  have Hg := Lib.hid hg
  have Ht : ∀ w', Below w.heap.size w w' → TabTz w' := fun w' h => tz_below ht h hw
  have Hx := Lib.hid Ht
  clear hg ht Ht
  go_enter Tryz.func35, Tryz.ntmps35
  go_wp2_with fail
  go_quiet ((first | (go_at_call 63; exact Calls.quiet_of_same (magnitude_any _ _ (by assumption))) | (go_at_call 62; exact Calls.quiet_of_same (gcd_word_at _ _ g _ (abs_lt ha) (abs_lt hb) Hg.out (Hx.out _ (by repeat (first | exact Below.refl _ _ | refine below_drewN ?_ _ | refine Below.alloc ?_ (by first | exact Nat.le_refl _ | (simp <;> omega)) _)))))))
  go_wp2
  exact bodyPost_ret (v := small g) (by simp [results, Tryz.results35, go_sem]) rfl ⟨rfl, by repeat (first | exact Below.refl _ _ | refine Below.setCell ?_ (by first | exact Nat.le_refl _ | (simp <;> omega)) _ | refine below_drewN ?_ _ | refine Below.alloc ?_ (by first | exact Nat.le_refl _ | (simp <;> omega)) _)⟩

/-- The states of Power(-10, 3) at the head of its loop: the bit, and the power so far. -/
def powStates : List (Int × Int) := [(64, 1), (32, 1), (16, 1), (8, 1), (4, 1), (2, 1), (1, -10), (0, -1000)]
def PowInv (w1 : World) (v : Value) (wr : World) : Prop := ∃ b p : Int, (b, p) ∈ powStates ∧ v = .int .i64 b ∧ wr.cell? ⟨w1.heap.size, 0, none⟩ = some (.int .i64 p) ∧ wr.cell? ⟨w1.heap.size, 1, none⟩ = some (.pointer none) ∧
  wr.frozen? ⟨w1.heap.size, 0, none⟩ = false ∧ wr.frozen? ⟨w1.heap.size, 1, none⟩ = false ∧ Below w1.heap.size w1 wr ∧ w1.heap.size + 1 ≤ wr.heap.size

theorem mul_at (a b c : Int) (w : World) (ha : I64 a) (hb : I64 b) (hab : (a.natAbs * b.natAbs) ≤ 9223372036854775807) (hc : a * b = c) :
    Calls Tryz.prog 50 #[small a, small b] w fun e w' => e = .returned (small c) ∧ Below w.heap.size w w' := by
  subst hc; exact mul_small a b w ha hb hab
theorem i64_lit {n : Int} (h : decide (-1000000 ≤ n) && decide (n ≤ 1000000)) : I64 n := by
  simp at h; exact ⟨by omega, by omega⟩

theorem pow_store {w1 wx : World} {b p : Int} {x0 x1 : Value} (hm : (b, p) ∈ powStates) (h0 : wx.cell? ⟨w1.heap.size, 0, none⟩ = some x0) (h1 : wx.cell? ⟨w1.heap.size, 1, none⟩ = some x1)
    (f0 : wx.frozen? ⟨w1.heap.size, 0, none⟩ = false) (f1 : wx.frozen? ⟨w1.heap.size, 1, none⟩ = false) (hk : Below w1.heap.size w1 wx) (hs : w1.heap.size < wx.heap.size) :
    PowInv w1 (.int .i64 b) ((wx.setCell ⟨w1.heap.size, 0, none⟩ (.int .i64 p)).setCell ⟨w1.heap.size, 1, none⟩ (.pointer none)) :=
  ⟨b, p, hm, rfl, by simp [go_sem, h0], by simp [go_sem, h1], by rw [World.frozen?_setCell, World.frozen?_setCell]; exact f0, by rw [World.frozen?_setCell, World.frozen?_setCell]; exact f1, (hk.setCell (Nat.le_refl _) _).setCell (Nat.le_refl _) _, by simp; omega⟩

def PartsPost (n : Int) (w : World) (e : Ending) (w' : World) : Prop :=
  ∃ b, e = .returned (.tuple #[.slice (some ⟨b, 0, none⟩) 1 1, .bool (decide (n < 0))]) ∧ w.heap.size ≤ b ∧ w'.cell? ⟨b, 0, none⟩ = some (.int .u64 n.natAbs) ∧ Below w.heap.size w w'

set_option maxHeartbeats 1000000 in
theorem parts_small (n : Int) (w : World) (hn : I64 n) (h0 : n ≠ 0) :
    Calls Tryz.prog 60 #[small n] w (PartsPost n w) := by
  have t0 : ((n : Int) == 0) = false := by rw [beq_eq_false_iff_ne]; exact h0
  clear h0
  go_enter Tryz.func60, Tryz.ntmps60
  go_wp2_with fail
  go_region_with (go_at_call 63; refine (magnitude_any _ _ hn).mono ?_; rintro e w' ⟨rfl, rfl⟩)
  all_goals
    go_wp2
    go_ret2
    exact ⟨w.heap.size + 1, rfl, by omega, by simp [go_sem], by repeat (first | exact Below.refl _ _ | refine Below.drew ?_ | refine Below.alloc ?_ (by first | exact Nat.le_refl _ | (simp <;> omega)) _)⟩

theorem gTab : Tryz.prog.globalNamed "internal/strconv.uint64pow10" = some 3 := by kernel_rfl
theorem size_of_cell {w : World} {b o : Nat} {v : Value} (h : w.cell? ⟨b, o, none⟩ = some v) : b < w.heap.size := World.block_lt_of_cell? w ⟨b, o, none⟩ h

/-- What the statements need of a world: the two tables. -/
def Good (w : World) : Prop := Tab w ∧ TabTz w
theorem tz_lt {w : World} (h : TabTz w) : TzG < w.heap.size := size_of_cell (h 0 (by decide))
theorem Good.size {w : World} (h : Good w) : TzG < w.heap.size := tz_lt h.2
theorem Good.below {w w' : World} (h : Good w) (hb : Below w.heap.size w w') : Good w' :=
  ⟨Go.Joins.tab_stays gTab h.1 hb (Nat.le_refl _), tz_below h.2 hb h.size⟩
end Go.Proofs.YtbpbfjnndkoioaaGreatDoor
