/- Texts of integers: isDigits. -/
import Derived.Test.YtjcblcikipmojaaGreatDoorInt5
namespace Go.Proofs.YtjcblcikipmojaaGreatDoor
open Go.RowKit

def isDig (c : UInt8) : Bool := decide (48 ≤ c.toNat) && decide (c.toNat ≤ 57)
def allDig (l : List UInt8) : Bool := l.all isDig
theorem str_len (s : ByteArray) : s.data.toList.length = s.size := Array.length_toList
theorem str_at {s : ByteArray} {k : Nat} (h : k < s.size) : s.data.toList[k]? = some s[k] := by
  have h' : k < s.data.toList.length := by rw [str_len]; exact h
  rw [List.getElem?_eq_getElem h']
  rfl
theorem allDig_not {l : List UInt8} {k : Nat} {c : UInt8} (h : l[k]? = some c) (hc : isDig c = false) : allDig l = false := by
  unfold allDig
  rw [Bool.eq_false_iff]
  intro h1
  rw [List.all_eq_true] at h1
  have := h1 c (List.mem_of_getElem? h)
  rw [hc] at this
  cases this
theorem allDig_take {l : List UInt8} {k : Nat} {c : UInt8} (h : l[k]? = some c) (hc : isDig c = true) (hd : allDig (l.take k) = true) : allDig (l.take (k + 1)) = true := by
  unfold allDig at *
  rw [List.take_add_one, h, List.all_append, hd]
  simp [hc]

set_option maxHeartbeats 1000000 in
theorem isDigits_any (s : ByteArray) (w : World) (hs : s.size ≤ 9223372036854775807) :
    Calls Tryz.prog 136 #[.string s] w fun e w' => e = .returned (.bool (allDig s.data.toList && decide (0 < s.size))) ∧ w = w' := by
  go_enter Tryz.func136, Tryz.ntmps136
  go_wp2_with fail
  go_loop [6] (fun i => ∃ k : Nat, k ≤ s.size ∧ i = .int .i64 k ∧ allDig (s.data.toList.take k) = true) (fun i => s.size - (intOf i).toNat)
  case atStart => exact ⟨0, Nat.zero_le _, rfl, rfl⟩
  case round =>
    obtain ⟨k, hk, rfl, hd⟩ := hrel
    have Hd := Lib.hid hd
    clear hd
    by_cases hlt : k < s.size
    · have Hat := Lib.hid (str_at hlt)
      obtain ⟨x, hx⟩ : ∃ x, (s[k]).toNat = x := ⟨_, rfl⟩
      have Hx := Lib.hid hx
      by_cases h1 : x < 48
      · have hf : allDig s.data.toList = false := allDig_not Hat.out (by unfold isDig; rw [Hx.out]; simp; omega)
        go_wp2
        all_goals go_ret
        all_goals simp
      · by_cases h2 : 57 < x
        · have hf : allDig s.data.toList = false := allDig_not Hat.out (by unfold isDig; rw [Hx.out]; simp; omega)
          go_wp2
          all_goals go_ret
          all_goals simp
        · have hf := Lib.hid (allDig_take Hat.out (by unfold isDig; rw [Hx.out]; simp; omega) Hd.out)
          go_wp2
          go_round
          case rel => exact ⟨k + 1, by omega, by go_num, hf.out⟩
          case measure => simp [intOf]; omega
    · have e : k = s.size := by omega
      have hall : allDig s.data.toList = true := by
        have := Hd.out
        rw [e, ← str_len, List.take_length] at this
        exact this
      go_wp2
      go_ret
      simp
end Go.Proofs.YtjcblcikipmojaaGreatDoor
