/- Sets of nodes as numbers: single, has. -/
import Derived.Test.YthocdmlacfejkaaDoorChecked
import Derived.WalkKit
import Derived.WalkSmall
import Derived.Deep.QuietTactic
import Derived.BigQuiet
import Derived.RegionTactic
import Derived.Below
import Derived.Lib.Hide
import Derived.Lib.SmallJoins
import Derived.Laws.ResultCell
import Derived.OwnWalk
import Derived.Laws.Bits64b
import Derived.Deep.RegionHeld3
import Derived.Deep.RegionWith
import Derived.Shelf.Spec.TrailingZeros
import Derived.Laws.BytesArg
import Derived.WalkSpells
import Derived.Test.YthocdmlacfejkaaDoorGm
namespace Go.Proofs.YthocdmlacfejkaaDoor
open Go.RowKit
theorem bcell {W w1 : World} (hb : Below W.heap.size W w1) : (∀ b o, b < W.heap.size → w1.cell? ⟨b, o, none⟩ = W.cell? ⟨b, o, none⟩) ∧ (∀ b o, b < W.heap.size → w1.frozen? ⟨b, o, none⟩ = W.frozen? ⟨b, o, none⟩) :=
  ⟨fun b o h => hb.cell (p := ⟨b, o, none⟩) h, fun b o h => hb.frozen (p := ⟨b, o, none⟩) h⟩
theorem ret_bool {a b : Bool} (h : a = b) : Ending.returned (.bool a) = .returned (.bool b) := by rw [h]
theorem ret_int {k : IntKind} {a b : Int} (h : a = b) : Ending.returned (.int k a) = .returned (.int k b) := by rw [h]
/-- The set of one node. -/
def sing (n : Nat) : Nat := 2 ^ n
/-- What is in a, and not in b. -/
def diff (a b : Nat) : Nat := a ^^^ (a &&& b)
theorem diff_bit (a b i : Nat) : (diff a b).testBit i = (a.testBit i && !b.testBit i) := by
  unfold diff
  rw [Nat.testBit_xor, Nat.testBit_and]
  cases a.testBit i <;> cases b.testBit i <;> rfl
theorem sing_bit {n i : Nat} : (sing n).testBit i = decide (n = i) := Nat.testBit_two_pow
theorem sing_lt {n : Nat} (h : n < 64) : sing n < 18446744073709551616 := Nat.pow_lt_pow_right (by decide) h
theorem diff_le (a b : Nat) : diff a b ≤ a := by
  have : diff a b = diff a b &&& a := by
    apply Nat.eq_of_testBit_eq
    intro i
    rw [Nat.testBit_and, diff_bit]
    cases a.testBit i <;> cases b.testBit i <;> rfl
  rw [this]
  exact Nat.and_le_right
theorem or_lt {a b : Nat} (ha : a < 18446744073709551616) (hb : b < 18446744073709551616) : a ||| b < 18446744073709551616 := Nat.or_lt_two_pow (n := 64) ha hb
theorem bits_diff (a b : Nat) (ha : a < 18446744073709551616) (hb : b < 18446744073709551616) : bits .andNot .u64 (a : Int) (b : Int) = ((diff a b : Nat) : Int) := by
  have hx : diff a b < 18446744073709551616 := Nat.lt_of_le_of_lt (diff_le a b) ha
  have h1 : (BitVec.ofInt 64 (a : Int)).toNat = a := by
    rw [BitVec.ofInt_natCast, BitVec.toNat_ofNat]; exact Nat.mod_eq_of_lt (by omega)
  have h2 : (BitVec.ofInt 64 (b : Int)).toNat = b := by
    rw [BitVec.ofInt_natCast, BitVec.toNat_ofNat]; exact Nat.mod_eq_of_lt (by omega)
  have e : (BitVec.ofInt 64 (a : Int) &&& ~~~ BitVec.ofInt 64 (b : Int)).toNat = diff a b := by
    apply Nat.eq_of_testBit_eq
    intro i
    rw [BitVec.toNat_and, Nat.testBit_and, h1, BitVec.toNat_not, h2, diff_bit]
    by_cases hi : i < 64
    · have := Nat.testBit_two_pow_sub_succ (x := b) (n := 64) hb i
      rw [show 2 ^ 64 - 1 - b = 2 ^ 64 - (b + 1) by omega, this]
      simp [hi]
    · rw [Nat.testBit_lt_two_pow (x := a) (Nat.lt_of_lt_of_le ha (show 18446744073709551616 ≤ 2 ^ i from Nat.pow_le_pow_right (n := 2) (by decide) (show 64 ≤ i by omega)))]
      simp
  show IntKind.u64.wrap ((BitVec.ofInt 64 (a : Int) &&& ~~~ BitVec.ofInt 64 (b : Int)).toNat : Int) = _
  rw [e, IntKind.wrap_u64]
  omega
theorem sing_wrap {n : Nat} (hn : n < 64) : IntKind.u64.wrap (2 ^ n) = ((sing n : Nat) : Int) := by
  have h := sing_lt hn
  have e : ((sing n : Nat) : Int) = 2 ^ n := by unfold sing; simp
  rw [IntKind.wrap_u64, ← e]
  omega
theorem single_any (n : Nat) (w : World) (hn : n < 64) :
    Calls Tryd.prog 86 #[.int .i64 n] w fun e w' => e = .returned (.int .u64 (sing n : Nat)) ∧ w = w' := by
  have hb := Lib.hid (sing_wrap hn)
  go_enter Tryd.func86, Tryd.ntmps86
  go_wp2
  go_ret
  exact ⟨ret_int hb.out, rfl⟩
theorem has_bit (s n : Nat) (hn : n < 64) (hs : s < 18446744073709551616) : (bits .and .u64 (s : Int) ((sing n : Nat) : Int) != 0) = s.testBit n := by
  rw [bits_and_u64_nat s _ hs (sing_lt hn)]
  have e : s &&& sing n = if s.testBit n then sing n else 0 := by
    apply Nat.eq_of_testBit_eq
    intro i
    rw [Nat.testBit_and, sing_bit]
    by_cases h : n = i
    · subst h; cases h : s.testBit n <;> simp [sing_bit]
    · cases h' : s.testBit n <;> simp [sing_bit, h]
  rw [e]
  have hp : 0 < sing n := Nat.pow_pos (by decide)
  cases s.testBit n <;> simp <;> omega
theorem has_any (s n : Nat) (w : World) (hn : n < 64) (hs : s < 18446744073709551616) :
    Calls Tryd.prog 85 #[.int .u64 s, .int .i64 n] w fun e w' => e = .returned (.bool (s.testBit n)) ∧ w = w' := by
  have hb := Lib.hid (has_bit s n hn hs)
  go_enter Tryd.func85, Tryd.ntmps85
  go_wp2_with fail
  refine (single_any _ _ hn).mono ?_
  rintro e w' ⟨rfl, rfl⟩
  go_wp2
  go_ret
  exact ⟨ret_bool hb.out, rfl⟩
theorem and_bd (x : Int) : ∃ k : Nat, k ≤ 127 ∧ bits .and .i64 x 127 = k := by
  have h2 : (BitVec.ofInt 64 127).toNat = 127 := by decide
  have h : (BitVec.ofInt 64 x &&& BitVec.ofInt 64 127).toNat ≤ 127 := by
    rw [BitVec.toNat_and, h2]; exact Nat.and_le_right
  refine ⟨_, h, ?_⟩
  show IntKind.i64.wrap ((BitVec.ofInt 64 x &&& BitVec.ofInt 64 127).toNat : Int) = _
  generalize (BitVec.ofInt 64 x &&& BitVec.ofInt 64 127).toNat = y at h
  exact IntWalk.i64_in _ (by omega)
theorem ret_k {x : Int} : ∃ k : Nat, k ≤ 127 ∧ Ending.returned (.int .i64 (bits .and .i64 x 127)) = .returned (.int .i64 k) :=
  let ⟨k, h1, h2⟩ := and_bd x
  ⟨k, h1, ret_int h2⟩
theorem ones_any (s : Nat) (w : World) (_hs : s < 18446744073709551616) :
    Calls Tryd.prog 112 #[.int .u64 s] w fun e w' => (∃ k : Nat, k ≤ 127 ∧ e = .returned (.int .i64 k)) ∧ w = w' := by
  go_enter Tryd.func112, Tryd.ntmps112
  go_wp2
  go_ret
  exact ⟨ret_k, rfl⟩
end Go.Proofs.YthocdmlacfejkaaDoor
