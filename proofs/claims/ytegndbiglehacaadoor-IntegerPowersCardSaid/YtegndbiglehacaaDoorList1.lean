/- Slices that read as lists; the reference's trim, text and From. -/
import Derived.Test.YtegndbiglehacaaDoorInt5
namespace Go.Proofs.YtegndbiglehacaaDoor
open Go.RowKit

/-- The slice value of n elements reads as the list xs of cells. -/
def IsL (w : World) (A : Option Addr) (n c : Nat) (xs : List Value) : Prop :=
  xs.length = n ∧ n ≤ c ∧ (0 < n → ∃ b o, A = some ⟨b, o, none⟩ ∧ b < w.heap.size ∧ ∀ j u, xs[j]? = some u → w.cell? ⟨b, o + j, none⟩ = some u)
theorem IsL.keep {w w' : World} {A : Option Addr} {n c : Nat} {xs : List Value} (h : IsL w A n c xs) (hb : Below w.heap.size w w') : IsL w' A n c xs :=
  ⟨h.1, h.2.1, fun hn => by
    obtain ⟨b, o, e, hl, hc⟩ := h.2.2 hn
    exact ⟨b, o, e, Nat.lt_of_lt_of_le hl hb.size, fun j u hu => (hb.cell (p := ⟨b, o + j, none⟩) hl).trans (hc j u hu)⟩⟩
theorem IsL.cut {w : World} {A : Option Addr} {n c m : Nat} {xs : List Value} (h : IsL w A n c xs) (hm : m ≤ n) : IsL w A m c (xs.take m) :=
  ⟨by rw [List.length_take, h.1]; omega, by have := h.2.1; omega, fun hn => by
    obtain ⟨b, o, e, hl, hc⟩ := h.2.2 (by omega)
    refine ⟨b, o, e, hl, fun j u hu => hc j u ?_⟩
    rw [List.getElem?_take] at hu
    split at hu
    · exact hu
    · cases hu⟩
def ints (l : List Int) : List Value := l.map (Value.int .i64)

/-- How many numbers are left without the zeros at the end, of the first k. -/
def trimTo (l : List Int) : Nat → Nat
  | 0 => 0
  | k + 1 => if l.getD k 0 = 0 then trimTo l k else k + 1
theorem trimTo_le (l : List Int) (k : Nat) : trimTo l k ≤ k := by
  induction k with
  | zero => exact Nat.le_refl _
  | succ k ih => unfold trimTo; split <;> omega

theorem ret_slice {A : Option Addr} {n m c : Nat} (h : n = m) : Ending.returned (.slice A n c) = .returned (.slice A m c) := by rw [h]

set_option maxHeartbeats 1000000 in
theorem trim_any (A : Option Addr) (n c : Nat) (l : List Int) (w : World) (hl : IsL w A n c (ints l)) (hn : n < 4294967296) (_hc : c ≤ 9223372036854775807) :
    Calls Tryd.prog 64 #[.slice A n c] w fun e w' => e = .returned (.slice A (trimTo l n) c) ∧ w = w' := by
  have hle := hl.2.1
  rcases Nat.eq_zero_or_pos n with h0 | h0
  · subst h0
    go_enter Tryd.func64, Tryd.ntmps64
    go_wp2_with fail
    refine wp_loop_rounds 1 ?_
    rw [rounds_succ]
    go_wp2
    go_ret
    exact ⟨rfl, rfl⟩
  · obtain ⟨b, o, rfl, hb, hcell⟩ := hl.2.2 h0
    have hlen := hl.1
    simp [ints] at hlen
    have Hc := Lib.hid (show ∀ k : Nat, k < n → w.cell? ⟨b, o + k, none⟩ = some (.int .i64 (l.getD k 0)) from fun k hk => hcell k _ (by simp [ints, show k < l.length by omega]))
    clear hcell hl hb
    go_enter Tryd.func64, Tryd.ntmps64
    go_wp2_with fail
    go_loop [3] (fun v => ∃ k : Nat, k ≤ n ∧ v = .int .i64 k ∧ trimTo l k = trimTo l n) (fun v => (intOf v).toNat)
    case atStart => exact ⟨n, Nat.le_refl _, rfl, rfl⟩
    case round =>
      obtain ⟨k, hk, rfl, ht⟩ := hrel
      have Ht := Lib.hid ht
      clear ht
      cases k with
      | zero =>
        go_wp2
        go_ret
        exact ⟨by rw [← Ht.out]; rfl, rfl⟩
      | succ k =>
        have hcell := Hc.out k (by omega)
        by_cases hz : l.getD k 0 = 0
        · have Hz := Lib.hid hz
          rw [hz] at hcell
          clear hz
          go_wp2
          go_round
          case rel => exact ⟨k, by omega, by go_num, by rw [← Ht.out, trimTo, if_pos Hz.out]⟩
          case measure => simp [intOf] <;> omega
        · have hz' : (l.getD k 0 == 0) = false := by rw [beq_eq_false_iff_ne]; exact hz
          have Hz := Lib.hid hz
          obtain ⟨x, hx⟩ : ∃ x, l.getD k 0 = x := ⟨_, rfl⟩
          rw [hx] at hcell hz'
          clear hz hx
          go_wp2
          go_ret
          exact ⟨ret_slice (by rw [← Ht.out, trimTo, if_neg Hz.out]), rfl⟩
end Go.Proofs.YtegndbiglehacaaDoor
