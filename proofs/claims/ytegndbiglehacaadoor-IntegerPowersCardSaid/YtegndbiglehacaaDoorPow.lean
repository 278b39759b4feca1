/- The reference's Power. -/
import Derived.Test.YtegndbiglehacaaDoorRef8
namespace Go.Proofs.YtegndbiglehacaaDoor
open Go.RowKit

theorem ipow_abs (z : Int) (n : Nat) : (z ^ n).natAbs = z.natAbs ^ n := by
  induction n with
  | zero => rw [Int.pow_zero, Nat.pow_zero]; rfl
  | succ n ih => rw [Int.pow_succ, Int.natAbs_mul, ih, Nat.pow_succ]
theorem ten_pow (a b : Nat) : (ten a) ^ b = ten (a * b) := (Nat.pow_mul 10 a b).symm
/-- The text of a power is not long. -/
theorem pow_size {z : Int} (hz : z.natAbs < ten 20) {n : Nat} (hn : n ≤ 64) : (txt (z ^ n)).size ≤ 5000 := by
  have h : (z ^ n).natAbs < ten 1281 := by
    rw [ipow_abs]
    have h1 : z.natAbs ^ n ≤ (ten 20) ^ n := Nat.pow_le_pow_left (by omega) n
    have h2 : (ten 20) ^ n ≤ (ten 20) ^ 64 := Nat.pow_le_pow_right (ten_pos 20) hn
    have h3 : (ten 20) ^ 64 = ten 1280 := ten_pow 20 64
    have h4 : ten 1281 = 10 * ten 1280 := ten_succ 1280
    have h5 := ten_pos 1280
    exact Nat.lt_of_le_of_lt (Nat.le_trans h1 (Nat.le_trans h2 (Nat.le_of_eq h3))) (by omega)
  have := txt_size (z ^ n) h (by decide)
  omega
theorem txt_one : txt 1 = ⟨#[49]⟩ := by
  rw [txt_ne (by decide), if_neg (by decide), show (1 : Int).natAbs = 1 from rfl, digN_pos (by decide), show 1 / 10 = 0 from rfl, digN_zero]
  rfl
def RefPowInv (w0 : World) (z : Int) (n : Nat) (vo vi : Value) (wr : World) : Prop :=
  ∃ i : Nat, i ≤ n ∧ vi = .int .i64 (i : Nat) ∧ vo = .string (txt (z ^ i)) ∧ Below w0.heap.size w0 wr
set_option maxRecDepth 100000 in
set_option maxHeartbeats 4000000 in
theorem refPower_any (z : Int) (n : Nat) (w : World) (hz : z.natAbs < ten 20) (hs : (txt z).size ≤ 5000) (hn : n ≤ 64) :
    Calls Tryd.prog 43 #[.string (txt z), .int .i64 (n : Nat)] w fun e w' => e = .returned (.string (txt (z ^ n))) ∧ Below w.heap.size w w' := by
  have Hm := Lib.hid (fun (i : Nat) (hi : i ≤ 64) w => (refMul_any (z ^ i) z w (pow_size hz hi) hs))
  obtain ⟨S, hS⟩ : ∃ S, txt z = S := ⟨_, rfl⟩
  rw [hS] at Hm hs ⊢
  clear hS
  go_enter Tryd.func43, Tryd.ntmps43
  go_wp2_with fail
  go_loopw [5, 6] (fun vo vi wr => RefPowInv w z n vo vi wr) (fun _ vi _ => n - (intOf vi).toNat)
  case atStart => exact ⟨0, Nat.zero_le _, rfl, by rw [Int.pow_zero, txt_one], Below.refl _ _⟩
  case round =>
    obtain ⟨i, hi, rfl, rfl, hbel⟩ := hrel
    have Hbel := Lib.hid hbel
    clear hbel
    by_cases hlt : i < n
    · have hm := Hm.out i (by omega)
      rw [← Int.pow_succ] at hm
      obtain ⟨T, hT⟩ : ∃ T, txt (z ^ i) = T := ⟨_, rfl⟩
      rw [hT] at hm ⊢
      have HM := Lib.hid hm
      clear hm hT
      go_wp2_with fail
      refine (HM.out _).mono ?_
      rintro e w2 ⟨rfl, h2⟩
      have K2 := Lib.hid (h2.mono Hbel.out.size |> Hbel.out.trans)
      clear h2
      go_wp2_with fail
      exact ⟨⟨i + 1, hlt, by go_num, rfl, K2.out⟩, by simp [intOf] <;> omega⟩
    · obtain rfl : i = n := by omega
      go_wp2
      go_ret
      exact ⟨rfl, Hbel.out⟩
end Go.Proofs.YtegndbiglehacaaDoor
