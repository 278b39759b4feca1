/- Bits of any integer. -/
import Derived.Test.YtjcblcikipmojaaDoorCmp
import Derived.Test.YtjcblcikipmojaaDoorAdd
namespace Go.Proofs.YtjcblcikipmojaaDoor
open Go.RowKit

/-- l is the number of binary digits of m. -/
def Len2 (m l : Nat) : Prop := (m = 0 → l = 0) ∧ (0 < m → 1 ≤ l ∧ 2 ^ (l - 1) ≤ m ∧ m < 2 ^ l)
theorem base_two_pow (n : Nat) : base n = 2 ^ (64 * n) := by
  unfold base
  rw [show (18446744073709551616 : Nat) = 2 ^ 64 from by decide, ← Nat.pow_mul]
theorem len2_top {xs : List Nat} {n x m : Nat} (hw : Words xs) (hn : xs.length = n + 1) (ht : Tight xs) (hx : xs.getD n 0 = x) (hv : natVal xs = m) : 0 < x ∧ x < 18446744073709551616 ∧ Len2 m (64 * n + Lib.bitLen x) := by
  have hx1 := word_at hw n
  rw [hx] at hx1
  have e : m = natVal (xs.take n) + base n * x := by
    have := take_up0 (xs := xs) (k := n) hx
    rw [List.take_of_length_le (by omega), hv] at this
    exact this
  have hlo := natVal_lt (words_take hw n)
  rw [List.length_take, Nat.min_eq_left (by omega)] at hlo
  have hge : base n ≤ m := by
    rcases ht with h | h
    · omega
    · rw [hv, hn] at h; exact h
  have hx0 : 0 < x := by
    rcases Nat.eq_zero_or_pos x with h | h
    · subst h; rw [Nat.mul_zero] at e; omega
    · exact h
  refine ⟨hx0, hx1, fun h0 => ?_, fun _ => ?_⟩
  · have := base_pos n; omega
  · obtain ⟨b1, b2, b3⟩ := Lib.bitLenAux_bounds 64 x hx1 (by omega)
    have hb : Lib.bitLenAux 64 x = Lib.bitLen x := rfl
    rw [hb] at b1 b2 b3
    obtain ⟨l, hl⟩ : ∃ l, Lib.bitLen x = l + 1 := ⟨Lib.bitLen x - 1, by omega⟩
    rw [hl] at b2 b3 ⊢
    rw [Nat.add_sub_cancel] at b2
    refine ⟨by omega, ?_, ?_⟩
    · rw [show 64 * n + (l + 1) - 1 = 64 * n + l by omega, Nat.pow_add, ← base_two_pow]
      have := Nat.mul_le_mul_left (base n) b2
      omega
    · rw [Nat.pow_add, ← base_two_pow]
      have : base n * (x + 1) ≤ base n * 2 ^ (l + 1) := Nat.mul_le_mul_left _ b3
      rw [Nat.mul_add] at this
      omega
set_option maxHeartbeats 4000000 in
theorem bitsOf_any {B : Nat} {A : Option Addr} {n c m : Nat} {xs : List Nat} (w : World) (h : IsNat B w A n c xs m) :
    Calls Tryd.prog 51 #[.slice A n c] w fun e w' => (∃ l : Nat, e = .returned (.int .i64 (l : Nat)) ∧ Len2 m l) ∧ w = w' := by
  have hn := h.len
  have hle := h.isl.2.1
  have hcc := h.cap
  rcases Nat.eq_zero_or_pos n with h0 | h0
  · subst h0
    have hm : m = 0 := by
      have := h.val
      rw [List.eq_nil_of_length_eq_zero h.size] at this
      exact this.symm
    have Hl := Lib.hid (show Len2 m 0 from ⟨fun _ => rfl, fun h => by omega⟩)
    clear h hm
    go_enter Tryd.func51, Tryd.ntmps51
    go_wp2
    go_ret
    exact ⟨⟨0, rfl, Hl.out⟩, rfl⟩
  · obtain ⟨k, rfl⟩ : ∃ k, n = k + 1 := ⟨n - 1, by omega⟩
    obtain ⟨b, o, rfl, hb, _, hc⟩ := h.at h0
    obtain ⟨x, hx⟩ : ∃ x, xs.getD k 0 = x := ⟨_, rfl⟩
    obtain ⟨hx0, hx1, hlen⟩ := len2_top h.words h.size h.tight hx h.val
    have hcell := hc k (by omega)
    rw [hx] at hcell
    obtain ⟨l, hl⟩ : ∃ l, Lib.bitLen x = l := ⟨_, rfl⟩
    rw [hl] at hlen
    have hl64 : l ≤ 64 := by
      have hb2 := (Lib.bitLenAux_bounds 64 x hx1 (by omega)).2.1
      rw [show Lib.bitLenAux 64 x = l from hl] at hb2
      rcases Nat.lt_or_ge 64 l with h6 | h6
      · exfalso
        have : 2 ^ 64 ≤ 2 ^ (l - 1) := Nat.pow_le_pow_right (by decide) (by omega)
        omega
      · exact h6
    have Hl := Lib.hid hl
    have Hlen := Lib.hid hlen
    have t0 : (((k + 1 : Nat) : Int) == 0) = false := by rw [beq_eq_false_iff_ne]; omega
    clear h hc hx hlen hl
    go_enter Tryd.func51, Tryd.ntmps51
    go_wp2_with fail
    refine (Tryd.bits_LeadingZeros64 _ _ (by omega) (by omega)).mono ?_
    simp only [Int.toNat_natCast]
    rw [Hl.out]
    rintro e w' ⟨rfl, rfl⟩
    go_wp2
    go_ret
    exact ⟨⟨64 * k + l, ret_i64 (by omega), Hlen.out⟩, rfl⟩
set_option maxHeartbeats 4000000 in
theorem bits_any (a : Int) (P : Option Addr) (z : Int) (w : World) (h : IsInt 0 w (.agg #[.int .i64 a, .pointer P]) z) :
    Calls Tryd.prog 24 #[.agg #[.int .i64 a, .pointer P]] w fun e w' => (∃ l : Nat, e = .returned (.int .i64 (l : Nat)) ∧ Len2 z.natAbs l) ∧ Below w.heap.size w w' := by
  obtain ⟨bz, hbz⟩ : ∃ bz, decide (z < 0) = bz := ⟨_, rfl⟩
  have kk := (Below.refl w.heap.size w).alloc (Nat.le_refl _) (.cells #[.int .i64 a, .pointer P] 26)
  have Hx := Lib.hid (parts_at _ z _ bz hbz (h.keep kk))
  have Kk := Lib.hid kk
  clear h kk hbz
  go_enter Tryd.func24, Tryd.ntmps24
  go_wp2_with fail
  refine Hx.out.mono ?_
  rintro e w1 ⟨A, n, c, xs, rfl, hx, h1⟩
  have K1 := Lib.hid (h1.mono Kk.out.size |> Kk.out.trans)
  have Hb := Lib.hid (bitsOf_any w1 hx)
  clear hx h1
  go_wp2_with fail
  refine Hb.out.mono ?_
  rintro e w2 ⟨⟨l, rfl, hl⟩, rfl⟩
  have Hl := Lib.hid hl
  clear hl
  go_wp2
  go_ret
  exact ⟨⟨l, rfl, Hl.out⟩, K1.out⟩
set_option maxHeartbeats 4000000 in
/-- Int of an integer that is no int. -/
theorem int_large (p : Nat) (w : World) :
    Calls Tryd.prog 91 #[.agg #[.int .i64 0, .pointer (some ⟨p, 0, none⟩)]] w fun e w' => e = .returned (.tuple #[.int .i64 0, .bool false]) ∧ Below w.heap.size w w' := by
  go_enter Tryd.func91, Tryd.ntmps91
  go_wp2
  go_quiet (fail)
  go_wp2
  go_ret2
  exact ⟨rfl, below_drewN ((Below.refl _ _).alloc (Nat.le_refl _) _) _⟩
/-- Int of any integer: the int, and whether it is one. -/
theorem intZ_any (a : Int) (P : Option Addr) (z : Int) (w : World) (h : IsInt 0 w (.agg #[.int .i64 a, .pointer P]) z) :
    Calls Tryd.prog 91 #[.agg #[.int .i64 a, .pointer P]] w fun e w' => (∃ (n : Int) (b : Bool), e = .returned (.tuple #[.int .i64 n, .bool b]) ∧ (I64 z → n = z ∧ b = true) ∧ (¬ I64 z → n = 0 ∧ b = false)) ∧ Below w.heap.size w w' := by
  rcases h.ways with ⟨hz, e⟩ | ⟨hz, p, e, _, _⟩
  · rw [e]
    exact (int_any z w).mono fun e w' ⟨h1, h2⟩ => ⟨⟨z, true, h1, fun _ => ⟨rfl, rfl⟩, fun h => absurd hz h⟩, h2⟩
  · rw [e]
    exact (int_large p w).mono fun e w' ⟨h1, h2⟩ => ⟨⟨0, false, h1, fun h => absurd h hz, fun _ => ⟨rfl, rfl⟩⟩, h2⟩
end Go.Proofs.YtjcblcikipmojaaDoor
