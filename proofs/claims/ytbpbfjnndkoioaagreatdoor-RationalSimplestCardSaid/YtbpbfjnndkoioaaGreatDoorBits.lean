/- Bits of any integer. -/
import Derived.Test.YtbpbfjnndkoioaaGreatDoorCmp
import Derived.Test.YtbpbfjnndkoioaaGreatDoorAdd
namespace Go.Proofs.YtbpbfjnndkoioaaGreatDoor
open Go.RowKit

/-- l is the number of binary digits of m. -/
def Len2 (m l : Nat) : Prop := (m = 0 → l = 0) ∧ (0 < m → 1 ≤ l ∧ 2 ^ (l - 1) ≤ m ∧ m < 2 ^ l)
theorem base_two_pow (n : Nat) : base n = 2 ^ (64 * n) := by
  unfold base
  rw [show (18446744073709551616 : Nat) = 2 ^ 64 from by decide, ← Nat.pow_mul]
theorem len2_top {xs : List Nat} {n x m : Nat} (hw : Words xs) (hn : xs.length = n + 1) (ht : Tight xs) (hx : xs.getD n 0 = x) (hv : natVal xs = m) : 0 < x ∧ x < 18446744073709551616 ∧ Len2 m (64 * n + Lib.bitLen x) := by
  have hx1 := word_at hw n
  rw [hx] at hx1
  have e : m = natVal (xs.take n) + base n * x := by
    have := take_up0 (xs := xs) (k := n) hx
    rw [List.take_of_length_le (by omega), hv] at this
    exact this
  have hlo := natVal_lt (words_take hw n)
  rw [List.length_take, Nat.min_eq_left (by omega)] at hlo
  have hge : base n ≤ m := by
    rcases ht with h | h
    · omega
    · rw [hv, hn] at h; exact h
  have hx0 : 0 < x := by
    rcases Nat.eq_zero_or_pos x with h | h
    · subst h; rw [Nat.mul_zero] at e; omega
    · exact h
  refine ⟨hx0, hx1, fun h0 => ?_, fun _ => ?_⟩
  · have := base_pos n; omega
  · obtain ⟨b1, b2, b3⟩ := Lib.bitLenAux_bounds 64 x hx1 (by omega)
    have hb : Lib.bitLenAux 64 x = Lib.bitLen x := rfl
    rw [hb] at b1 b2 b3
    obtain ⟨l, hl⟩ : ∃ l, Lib.bitLen x = l + 1 := ⟨Lib.bitLen x - 1, by omega⟩
    rw [hl] at b2 b3 ⊢
    rw [Nat.add_sub_cancel] at b2
    refine ⟨by omega, ?_, ?_⟩
    · rw [show 64 * n + (l + 1) - 1 = 64 * n + l by omega, Nat.pow_add, ← base_two_pow]
      have := Nat.mul_le_mul_left (base n) b2
      omega
    · rw [Nat.pow_add, ← base_two_pow]
      have : base n * (x + 1) ≤ base n * 2 ^ (l + 1) := Nat.mul_le_mul_left _ b3
      rw [Nat.mul_add] at this
      omega
set_option maxHeartbeats 4000000 in
/-- Int of an integer that is no int. -/
theorem int_large (p : Nat) (w : World) :
    Calls Tryz.prog 72 #[.agg #[.int .i64 0, .pointer (some ⟨p, 0, none⟩)]] w fun e w' => e = .returned (.tuple #[.int .i64 0, .bool false]) ∧ Below w.heap.size w w' := by
  go_enter Tryz.func72, Tryz.ntmps72
  go_wp2
  go_quiet (fail)
  go_wp2
  go_ret2
  exact ⟨rfl, below_drewN ((Below.refl _ _).alloc (Nat.le_refl _) _) _⟩
/-- Int of any integer: the int, and whether it is one. -/
theorem intZ_any (a : Int) (P : Option Addr) (z : Int) (w : World) (h : IsInt 0 w (.agg #[.int .i64 a, .pointer P]) z) :
    Calls Tryz.prog 72 #[.agg #[.int .i64 a, .pointer P]] w fun e w' => (∃ (n : Int) (b : Bool), e = .returned (.tuple #[.int .i64 n, .bool b]) ∧ (I64 z → n = z ∧ b = true) ∧ (¬ I64 z → n = 0 ∧ b = false)) ∧ Below w.heap.size w w' := by
  rcases h.ways with ⟨hz, e⟩ | ⟨hz, p, e, _, _⟩
  · rw [e]
    exact (int_any z w).mono fun e w' ⟨h1, h2⟩ => ⟨⟨z, true, h1, fun _ => ⟨rfl, rfl⟩, fun h => absurd hz h⟩, h2⟩
  · rw [e]
    exact (int_large p w).mono fun e w' ⟨h1, h2⟩ => ⟨⟨0, false, h1, fun h => absurd h hz, fun _ => ⟨rfl, rfl⟩⟩, h2⟩
end Go.Proofs.YtbpbfjnndkoioaaGreatDoor
