/- Parse of any text; what text a parsed integer has. -/
import Derived.Test.YtegndbiglehacaaDoorParse2
namespace Go.Proofs.YtegndbiglehacaaDoor
open Go.RowKit

set_option maxHeartbeats 1000000 in
theorem parse_empty (s : ByteArray) (w : World) (h0 : s.size = 0) :
    Calls Tryd.prog 15 #[.string s] w fun e w' => e = .returned (.tuple #[small 0, .int .i64 14]) ∧ Below w.heap.size w w' := by
  have Hdig := Lib.hid (fun w => isDigits_false s w (by omega) (.inr h0))
  go_enter Tryd.func15, Tryd.ntmps15
  go_wp2_with fail
  refine (Hdig.out _).mono ?_
  rintro e w1 ⟨rfl, rfl⟩
  go_wp2
  exact bodyPost_ret (v := .tuple #[small 0, .int .i64 14]) (by simp [results, Tryd.results15, go_sem]) rfl ⟨rfl, (Below.refl w.heap.size w).alloc (Nat.le_refl _) _⟩
set_option maxHeartbeats 1000000 in
theorem parse_long (s : ByteArray) (w : World) (h0 : 65536 < s.size) (h1 : s.size ≤ 9223372036854775807) :
    Calls Tryd.prog 15 #[.string s] w fun e w' => e = .returned (.tuple #[small 0, .int .i64 5]) ∧ Below w.heap.size w w' := by
  go_enter Tryd.func15, Tryd.ntmps15
  go_wp2
  exact bodyPost_ret (v := .tuple #[small 0, .int .i64 5]) (by simp [results, Tryd.results15, go_sem]) rfl ⟨rfl, (Below.refl w.heap.size w).alloc (Nat.le_refl _) _⟩
/-- Parse, of any text that is not long. -/
theorem parse_any (s : ByteArray) (w : World) (hs : s.size ≤ 900) :
    Calls Tryd.prog 15 #[.string s] w fun e w' => ∃ v, e = .returned (.tuple #[v, .int .i64 (errOf s)]) ∧ (errOf s = 0 → IsInt w.heap.size w' v (signZ (isNeg s) (decV (bodyOf s).data.toList))) ∧ (errOf s ≠ 0 → v = small 0) ∧ Below w.heap.size w w' := by
  rcases Nat.eq_zero_or_pos s.size with h0 | h0
  · have hb : bodyOf s = s := by unfold bodyOf; rw [isNeg_empty h0]; rfl
    have he := (errOf_ways hb).1 h0
    rw [he]
    refine (parse_empty s w h0).mono ?_
    rintro e w' ⟨rfl, hb⟩
    exact ⟨_, rfl, fun h => absurd h (by decide), fun _ => rfl, hb⟩
  · by_cases h45 : (s[0]).toNat = 45
    · exact parse_neg s w hs h0 h45
    · exact parse_pos s w hs h0 _ rfl h45

theorem sig_byte {c : UInt8} (h : isDig c = true) : (48 : Int) + ((dig c : Nat) : Int) = (c.toNat : Int) := by
  unfold isDig at h
  simp at h
  unfold dig
  omega
/-- The digits of the value of digits: the digits, the last one first. -/
theorem digN_rev : ∀ r : List UInt8, r ≠ [] → allDig r.reverse = true → r.reverse.head? ≠ some 48 → 0 < decV r.reverse ∧ digN (decV r.reverse) = r.map (fun c => ((dig c : Nat) : Int)) := by
  intro r
  induction r with
  | nil => intro h; exact absurd rfl h
  | cons c r ih =>
    intro _ hd hh
    rw [List.reverse_cons] at hd hh ⊢
    unfold allDig at hd
    rw [List.all_append, Bool.and_eq_true] at hd
    have hc : isDig c = true := by simpa using hd.2
    have hlt := dig_lt hc
    rw [decV_snoc]
    cases r with
    | nil =>
      have hne : c ≠ 48 := by simpa using hh
      have hpos : 0 < dig c := by
        rcases Nat.eq_zero_or_pos (dig c) with h | h
        · exfalso
          apply hne
          unfold isDig at hc
          simp at hc
          unfold dig at h
          exact byte_eq (n := 48) (by decide) (by omega)
        · exact h
      rw [show decV ([] : List UInt8).reverse = 0 from rfl, Nat.mul_zero, Nat.zero_add]
      refine ⟨hpos, ?_⟩
      rw [digN_pos (by omega), show dig c / 10 = 0 by omega, digN_zero, show dig c % 10 = dig c by omega]
      rfl
    | cons c' r' =>
      obtain ⟨h1, h2⟩ := ih (by simp) hd.1 (by
        intro h
        apply hh
        rw [List.head?_append, h]
        rfl)
      refine ⟨by omega, ?_⟩
      rw [digN_pos (by omega), show (10 * decV (c' :: r').reverse + dig c) / 10 = decV (c' :: r').reverse by omega, show (10 * decV (c' :: r').reverse + dig c) % 10 = dig c by omega, h2]
      rfl
/-- A text that Check takes is the text of its integer. -/
theorem text_back (l : List UInt8) (h0 : l ≠ []) (hd : allDig l = true) (hh : l.head? ≠ some 48) : 0 < decV l ∧ (sig (digN (decV l))).reverse = l.map fun c => (c.toNat : Int) := by
  have h := digN_rev l.reverse (by simpa using h0) (by rw [List.reverse_reverse]; exact hd) (by rw [List.reverse_reverse]; exact hh)
  rw [List.reverse_reverse] at h
  refine ⟨h.1, ?_⟩
  rw [h.2, sig, List.map_map, List.map_reverse, List.reverse_reverse]
  apply List.map_congr_left
  intro c hc
  unfold allDig at hd
  exact sig_byte (List.all_eq_true.mp hd c hc)
end Go.Proofs.YtegndbiglehacaaDoor
