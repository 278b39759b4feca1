/- Texts of integers: the reference's Check. -/
import Derived.Test.YtjcblcikipmojaaDoorStr1
namespace Go.Proofs.YtjcblcikipmojaaDoor
open Go.RowKit

def isNeg (s : ByteArray) : Bool := s.data.toList.head? == some 45
def bodyOf (s : ByteArray) : ByteArray := if isNeg s then s.extract 1 s.size else s
def lead0 (d : ByteArray) : Bool := d.data.toList.head? == some 48
def errOf (s : ByteArray) : Int :=
  if (bodyOf s).size = 0 then 14 else if allDig (bodyOf s).data.toList = false then 14 else if lead0 (bodyOf s) = true ∧ (1 < (bodyOf s).size ∨ 1 < s.size) then 3 else 0
theorem head_at {s : ByteArray} (h : 0 < s.size) : s.data.toList.head? = some s[0] := by
  have := str_at h
  rwa [← List.head?_eq_getElem?] at this
theorem byte_eq {c : UInt8} {n : Nat} (hn : n < 256) (h : c.toNat = n) : c = UInt8.ofNat n := by
  apply UInt8.toNat_inj.mp
  rw [h, UInt8.toNat_ofNat']
  omega
theorem isNeg_of {s : ByteArray} {x : Nat} (h : 0 < s.size) (hx : (s[0]).toNat = x) : isNeg s = decide (x = 45) := by
  unfold isNeg
  rw [head_at h]
  by_cases e : x = 45
  · subst e
    rw [byte_eq (by decide) hx]
    rfl
  · rw [decide_eq_false e]
    rw [beq_eq_false_iff_ne]
    intro h1
    injection h1 with h1
    rw [h1] at hx
    exact e hx.symm
theorem lead0_of {s : ByteArray} {x : Nat} (h : 0 < s.size) (hx : (s[0]).toNat = x) : lead0 s = decide (x = 48) := by
  unfold lead0
  rw [head_at h]
  by_cases e : x = 48
  · subst e
    rw [byte_eq (by decide) hx]
    rfl
  · rw [decide_eq_false e]
    rw [beq_eq_false_iff_ne]
    intro h1
    injection h1 with h1
    rw [h1] at hx
    exact e hx.symm
theorem isNeg_empty {s : ByteArray} (h : s.size = 0) : isNeg s = false := by
  unfold isNeg
  have : s.data.toList = [] := List.eq_nil_of_length_eq_zero (by rw [str_len]; exact h)
  rw [this]
  rfl
theorem tail_size (s : ByteArray) : (s.extract 1 s.size).size = s.size - 1 := by simp

theorem errOf_ways {s d : ByteArray} (hb : bodyOf s = d) : (d.size = 0 → errOf s = 14) ∧ (allDig d.data.toList = false → errOf s = 14) ∧ (allDig d.data.toList = true → 0 < d.size → lead0 d = true → (1 < d.size ∨ 1 < s.size) → errOf s = 3)
    ∧ (allDig d.data.toList = true → 0 < d.size → ¬ (lead0 d = true ∧ (1 < d.size ∨ 1 < s.size)) → errOf s = 0) := by
  subst hb
  unfold errOf
  refine ⟨fun h => by rw [if_pos h], fun h => by split <;> simp, fun h1 h2 h3 h4 => ?_, fun h1 h2 h3 => ?_⟩
  · rw [if_neg (by omega), if_neg (by simp [h1]), if_pos ⟨h3, h4⟩]
  · rw [if_neg (by omega), if_neg (by simp [h1]), if_neg h3]

set_option maxHeartbeats 4000000 in
theorem refCheck_any (s : ByteArray) (w : World) (hs : s.size ≤ 1000) :
    Calls Tryd.prog 14 #[.string s] w fun e w' => e = .returned (.int .i64 (errOf s)) ∧ w = w' := by
  obtain ⟨E, hE⟩ : ∃ E, errOf s = E := ⟨_, rfl⟩
  rw [hE]
  rcases Nat.eq_zero_or_pos s.size with h0 | h0
  · have hE1 : E = 14 := by
      have hb : bodyOf s = s := by unfold bodyOf; rw [isNeg_empty h0]; rfl
      rw [← hE]; exact (errOf_ways hb).1 h0
    subst hE1
    clear hE
    go_enter Tryd.func14, Tryd.ntmps14
    go_wp2
    go_ret
    exact ⟨rfl, rfl⟩
  · obtain ⟨x, hx⟩ : ∃ x, (s[0]).toNat = x := ⟨_, rfl⟩
    have hneg := isNeg_of h0 hx
    by_cases h45 : x = 45
    · have hb : bodyOf s = s.extract 1 s.size := by unfold bodyOf; rw [hneg, decide_eq_true h45]; rfl
      obtain ⟨d, hd⟩ : ∃ d, s.extract 1 s.size = d := ⟨_, rfl⟩
      have hds : d.size = s.size - 1 := by rw [← hd, tail_size]
      rw [hd] at hb
      have He := Lib.hid (errOf_ways hb)
      rw [hE] at He
      clear hE hneg hb
      subst h45
      rcases Nat.eq_zero_or_pos d.size with hd0 | hd0
      · have hE1 := He.out.1 hd0
        subst hE1
        go_enter Tryd.func14, Tryd.ntmps14
        go_wp2
        go_ret
        exact ⟨rfl, rfl⟩
      · go_enter Tryd.func14, Tryd.ntmps14
        go_wp2_with fail
        go_loop [4] (fun i => ∃ k : Nat, k ≤ d.size ∧ i = .int .i64 k ∧ allDig (d.data.toList.take k) = true) (fun i => d.size - (intOf i).toNat)
        case atStart => exact ⟨0, Nat.zero_le _, rfl, rfl⟩
        case round =>
          obtain ⟨k, hk, rfl, hdd⟩ := hrel
          have Hd := Lib.hid hdd
          clear hdd
          by_cases hlt : k < d.size
          · have Hat := Lib.hid (str_at hlt)
            obtain ⟨y, hy⟩ : ∃ y, (d[k]).toNat = y := ⟨_, rfl⟩
            have Hy := Lib.hid hy
            by_cases h1 : y < 48
            · have hf := He.out.2.1 (allDig_not Hat.out (by unfold isDig; rw [Hy.out]; simp; omega))
              go_wp2
              all_goals go_ret
              all_goals simp
            · by_cases h2 : 57 < y
              · have hf := He.out.2.1 (allDig_not Hat.out (by unfold isDig; rw [Hy.out]; simp; omega))
                go_wp2
                all_goals go_ret
                all_goals simp
              · have hf := Lib.hid (allDig_take Hat.out (by unfold isDig; rw [Hy.out]; simp; omega) Hd.out)
                go_wp2
                go_round
                case rel => exact ⟨k + 1, by omega, by go_num, hf.out⟩
                case measure => simp [intOf]; omega
          · have e : k = d.size := by omega
            have hall : allDig d.data.toList = true := by
              have := Hd.out
              rw [e, ← str_len, List.take_length] at this
              exact this
            obtain ⟨y, hy⟩ : ∃ y, (d[0]).toNat = y := ⟨_, rfl⟩
            have hl0 := lead0_of hd0 hy
            by_cases h48 : y = 48
            · by_cases hbig : 1 < d.size ∨ 1 < s.size
              · have hE1 := He.out.2.2.1 hall hd0 (by rw [hl0, decide_eq_true h48]) hbig
                clear hl0 hall
                subst hE1
                subst h48
                go_wp2
                all_goals go_ret
                all_goals simp
              · have hE1 := He.out.2.2.2 hall hd0 (fun h => hbig h.2)
                clear hl0 hall
                subst hE1
                subst h48
                go_wp2
                all_goals go_ret
                all_goals simp
            · have hE1 := He.out.2.2.2 hall hd0 (fun h => by rw [hl0, decide_eq_false h48] at h; cases h.1)
              have hy48 : ((y : Int) == 48) = false := by rw [beq_eq_false_iff_ne]; omega
              clear hl0 hall
              subst hE1
              go_wp2
              all_goals go_ret
              all_goals simp
    · have hb : bodyOf s = s := by unfold bodyOf; rw [hneg, decide_eq_false h45]; rfl
      obtain ⟨d, hd⟩ : ∃ d, s = d := ⟨_, rfl⟩
      have hds : d.size = s.size := by rw [← hd]
      have hd0 : 0 < d.size := by omega
      have He := Lib.hid (errOf_ways hb)
      rw [hE] at He
      clear hE hneg hb
      subst hd
      have hx45 : ((x : Int) == 45) = false := by rw [beq_eq_false_iff_ne]; omega
      · go_enter Tryd.func14, Tryd.ntmps14
        go_wp2_with fail
        go_loop [4] (fun i => ∃ k : Nat, k ≤ s.size ∧ i = .int .i64 k ∧ allDig (s.data.toList.take k) = true) (fun i => s.size - (intOf i).toNat)
        case atStart => exact ⟨0, Nat.zero_le _, rfl, rfl⟩
        case round =>
          obtain ⟨k, hk, rfl, hdd⟩ := hrel
          have Hd := Lib.hid hdd
          clear hdd
          by_cases hlt : k < s.size
          · have Hat := Lib.hid (str_at hlt)
            obtain ⟨y, hy⟩ : ∃ y, (s[k]).toNat = y := ⟨_, rfl⟩
            have Hy := Lib.hid hy
            by_cases h1 : y < 48
            · have hf := He.out.2.1 (allDig_not Hat.out (by unfold isDig; rw [Hy.out]; simp; omega))
              go_wp2
              all_goals go_ret
              all_goals simp
            · by_cases h2 : 57 < y
              · have hf := He.out.2.1 (allDig_not Hat.out (by unfold isDig; rw [Hy.out]; simp; omega))
                go_wp2
                all_goals go_ret
                all_goals simp
              · have hf := Lib.hid (allDig_take Hat.out (by unfold isDig; rw [Hy.out]; simp; omega) Hd.out)
                go_wp2
                go_round
                case rel => exact ⟨k + 1, by omega, by go_num, hf.out⟩
                case measure => simp [intOf]; omega
          · have e : k = s.size := by omega
            have hall : allDig s.data.toList = true := by
              have := Hd.out
              rw [e, ← str_len, List.take_length] at this
              exact this
            obtain ⟨y, hy⟩ : ∃ y, (s[0]).toNat = y := ⟨_, rfl⟩
            have hl0 := lead0_of hd0 hy
            by_cases h48 : y = 48
            · by_cases hbig : 1 < s.size ∨ 1 < s.size
              · have hE1 := He.out.2.2.1 hall hd0 (by rw [hl0, decide_eq_true h48]) hbig
                clear hl0 hall
                subst hE1
                subst h48
                go_wp2
                all_goals go_ret
                all_goals simp
              · have hE1 := He.out.2.2.2 hall hd0 (fun h => hbig h.2)
                clear hl0 hall
                subst hE1
                subst h48
                go_wp2
                all_goals go_ret
                all_goals simp
            · have hE1 := He.out.2.2.2 hall hd0 (fun h => by rw [hl0, decide_eq_false h48] at h; cases h.1)
              have hy48 : ((y : Int) == 48) = false := by rw [beq_eq_false_iff_ne]; omega
              clear hl0 hall
              subst hE1
              go_wp2
              all_goals go_ret
              all_goals simp
end Go.Proofs.YtjcblcikipmojaaDoor
