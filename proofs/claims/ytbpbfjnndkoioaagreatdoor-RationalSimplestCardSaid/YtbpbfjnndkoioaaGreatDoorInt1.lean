/- Contracts of the small functions of package integer, on ints that are small (no heap digits). -/
import Derived.Test.YtbpbfjnndkoioaaGreatDoorChecked
import Derived.Test.YtbpbfjnndkoioaaGreatDoorShelf
import Derived.WalkKit
import Derived.WalkSmall
import Derived.Deep.QuietTactic
import Derived.BigQuiet
import Derived.RegionTactic
import Derived.Below
import Derived.Lib.Hide
import Derived.Lib.SmallJoins
import Derived.Laws.ResultCell
import Derived.OwnWalk
namespace Go.Proofs.YtbpbfjnndkoioaaGreatDoor
open Go.RowKit

/-- An integer.Int that is an int. -/
abbrev small (n : Int) : Value := .agg #[.int .i64 n, .pointer none]

set_option maxHeartbeats 400000 in
theorem from_any (n : Int) (w : World) :
    Calls Tryz.prog 12 #[.int .i64 n] w fun e w' => e = .returned (small n) ∧ Below w.heap.size w w' := by
  go_enter Tryz.func12, Tryz.ntmps12
  go_wp2
  exact bodyPost_ret (v := small n) (by simp [results, Tryz.results12, go_sem]) rfl ⟨rfl, (Below.refl _ _).alloc (Nat.le_refl _) _⟩

set_option maxHeartbeats 400000 in
theorem int_any (n : Int) (w : World) :
    Calls Tryz.prog 72 #[small n] w fun e w' => e = .returned (.tuple #[.int .i64 n, .bool true]) ∧ Below w.heap.size w w' := by
  go_enter Tryz.func72, Tryz.ntmps72
  go_wp2
  go_quiet (fail)
  go_wp2
  go_ret2
  exact ⟨rfl, below_drewN ((Below.refl _ _).alloc (Nat.le_refl _) _) _⟩

def sgn (n : Int) : Int := if n < 0 then -1 else if 0 < n then 1 else 0

set_option maxHeartbeats 400000 in
theorem sign_any (n : Int) (w : World) :
    Calls Tryz.prog 33 #[small n] w fun e w' => e = .returned (.int .i64 (sgn n)) ∧ Below w.heap.size w w' := by
  rcases Int.lt_trichotomy n 0 with h | h | h
  · have e : sgn n = -1 := by unfold sgn; rw [if_pos h]
    rw [e]; clear e
    go_enter Tryz.func33, Tryz.ntmps33
    go_wp2
    go_ret
    exact ⟨rfl, (Below.refl _ _).alloc (Nat.le_refl _) _⟩
  · subst h
    go_enter Tryz.func33, Tryz.ntmps33
    go_wp2
    go_ret
    exact ⟨rfl, (Below.refl _ _).alloc (Nat.le_refl _) _⟩
  · have e : sgn n = 1 := by unfold sgn; rw [if_neg (by omega), if_pos h]
    rw [e]; clear e
    go_enter Tryz.func33, Tryz.ntmps33
    go_wp2
    go_ret
    exact ⟨rfl, (Below.refl _ _).alloc (Nat.le_refl _) _⟩

theorem bcell {W w1 : World} (hb : Below W.heap.size W w1) : (∀ b o, b < W.heap.size → w1.cell? ⟨b, o, none⟩ = W.cell? ⟨b, o, none⟩) ∧ (∀ b o, b < W.heap.size → w1.frozen? ⟨b, o, none⟩ = W.frozen? ⟨b, o, none⟩) :=
  ⟨fun b o h => hb.cell (p := ⟨b, o, none⟩) h, fun b o h => hb.frozen (p := ⟨b, o, none⟩) h⟩

def I64 (n : Int) : Prop := -9223372036854775808 ≤ n ∧ n ≤ 9223372036854775807
abbrev Tab (w : World) : Prop := Lib.TabIs Tryz.prog w "internal/strconv.uint64pow10" .u64 Lib.pow10Tab

theorem below_grow {B : Nat} {a w : World} (h : Below B a w) (hB : B ≤ w.heap.size) (os : Array Obj) : Below B a (Sort.grow w os) :=
  h.trans ⟨rfl, rfl, rfl, by simp [Sort.grow], fun k hk => by simp [Sort.grow, Array.getElem?_append_left (show k < w.heap.size by omega)]⟩

set_option maxHeartbeats 400000 in
theorem text_any (n : Int) (w : World) (hn : I64 n) (ht : Tab w) :
    Calls Tryz.prog 15 #[small n] w fun e w' => e = .returned (.string ⟨(Lib.itoa n).toArray⟩) ∧ Below w.heap.size w w' := by
  have h0 := hn.1
  have h1 := hn.2
  have ht' := Lib.tabIs_alloc ht (.cells #[.int .i64 n, .pointer none] 26)
  clear hn
  go_enter Tryz.func15, Tryz.ntmps15
  go_wp2_with (go_at_call 38; refine (Tryz.strconv_Itoa _ h0 h1 _ ht').mono ?_; rintro e w' ⟨rfl, k, os, rfl⟩)
  go_ret
  exact ⟨rfl, below_grow (below_drewN ((Below.refl _ _).alloc (Nat.le_refl _) _) _) (by simp) _⟩

theorem wrap_u64 (n : Int) : IntKind.u64.wrap n = n % 18446744073709551616 := by simp [IntKind.wrap, IntKind.signed, IntKind.bits]

theorem ret_u64 {a b : Int} (h : a = b) : Ending.returned (.int .u64 a) = .returned (.int .u64 b) := by rw [h]
theorem ret_i64 {a b : Int} (h : a = b) : Ending.returned (.int .i64 a) = .returned (.int .i64 b) := by rw [h]

set_option maxHeartbeats 400000 in
theorem magnitude_any (n : Int) (w : World) (hn : I64 n) :
    Calls Tryz.prog 63 #[.int .i64 n] w fun e w' => e = .returned (.int .u64 (n.natAbs : Int)) ∧ w' = w := by
  have h0 := hn.1
  have h1 := hn.2
  clear hn
  by_cases h : n < 0
  · go_enter Tryz.func63, Tryz.ntmps63
    go_wp2
    go_ret
    exact ⟨ret_u64 (by rw [wrap_u64, wrap_u64]; omega), rfl⟩
  · go_enter Tryz.func63, Tryz.ntmps63
    go_wp2
    go_ret
    exact ⟨ret_u64 (by omega), rfl⟩

theorem mul64_low (x y m : Nat) (hx : x < 18446744073709551616) (hy : y < 18446744073709551616) (hm : x * y = m) (h : m ≤ 9223372036854775807) (w : World) :
    Calls Tryz.prog 77 #[.int .u64 x, .int .u64 y] w fun e w' => e = .returned (.tuple #[.int .u64 0, .int .u64 (m : Int)]) ∧ w' = w := by
  have h1 : x * y / 18446744073709551616 = 0 := by rw [hm]; omega
  have h2 : x * y % 18446744073709551616 = m := by rw [hm]; omega
  have h := Tryz.bits_Mul64 x y hx hy w
  rw [h1, h2] at h
  exact h

theorem abs_lt {a : Int} (ha : I64 a) : a.natAbs < 18446744073709551616 := by have := ha.1; have := ha.2; omega

set_option maxHeartbeats 1000000 in
theorem mul_small (a b : Int) (w : World) (ha : I64 a) (hb : I64 b) (hab : (a.natAbs * b.natAbs) ≤ 9223372036854775807) :
    Calls Tryz.prog 50 #[small a, small b] w fun e w' => e = .returned (small (a * b)) ∧ Below w.heap.size w w' := by
  obtain ⟨m, hm⟩ : ∃ m, a.natAbs * b.natAbs = m := ⟨_, rfl⟩
  have hm' : m ≤ 9223372036854775807 := by omega
  have hc : m = (a * b).natAbs := by rw [← hm, Int.natAbs_mul]
  have h1 : -9223372036854775807 ≤ a * b := by omega
  have h2 : a * b ≤ 9223372036854775807 := by omega
  have h3 : (m : Int) ≤ 9223372036854775807 := by omega
  have Hm := Lib.hid hm
  clear hm hab hc
  go_enter Tryz.func50, Tryz.ntmps50
  go_wp2_with fail
  go_quiet ((first | (go_at_call 63; exact Calls.quiet_of_same (magnitude_any _ _ (by assumption))) | (go_at_call 77; exact Calls.quiet_of_same (mul64_low _ _ _ (abs_lt ha) (abs_lt hb) Hm.out hm' _))))
  go_wp2
  exact bodyPost_ret (v := small (a * b)) (by simp [results, Tryz.results50, go_sem]) rfl ⟨rfl, by repeat (first | exact Below.refl _ _ | refine Below.setCell ?_ (by first | exact Nat.le_refl _ | (simp <;> omega)) _ | refine below_drewN ?_ _ | refine Below.alloc ?_ (by first | exact Nat.le_refl _ | (simp <;> omega)) _)⟩

end Go.Proofs.YtbpbfjnndkoioaaGreatDoor
