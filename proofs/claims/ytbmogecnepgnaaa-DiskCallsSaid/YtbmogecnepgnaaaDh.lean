/- Names of files; an operation on names is performed. -/
import Derived.Test.YtbmogecnepgnaaaDg
namespace Go.Proofs.Ytbmogecnepgnaaa
open Go.RowKit Go.Maps
def chrB (x : Nat) : Bool := (decide (97 ≤ x) && decide (x ≤ 122)) || (decide (48 ≤ x) && decide (x ≤ 57)) || decide (x = 46) || decide (x = 45)
/-- Whether a string is the name of a file. -/
def fileB (s : ByteArray) : Bool := decide (0 < s.size) && decide (s.size ≤ 40) && decide (∀ k (h : k < s.size), chrB (s[k]).toNat = true)
set_option maxRecDepth 100000 in
set_option maxHeartbeats 8000000 in
theorem isFile_any (s : ByteArray) (w : World) (h63 : s.size ≤ 4611686018427387904) : Calls Try.prog 40 #[.string s] w fun e w' => e = .returned (.bool (fileB s)) ∧ w' = w := by
  go_enter Try.func40, Try.ntmps40
  go_wp2_with fail
  go_loop [3, 4, 7] (fun _ _ i => ∃ k : Nat, k ≤ s.size ∧ i = .int .i64 k ∧ ∀ j (h : j < s.size), j < k → chrB (s[j]).toNat = true) (fun _ _ i => s.size - (intOf i).toNat)
  case atStart => exact ⟨0, Nat.zero_le _, rfl, fun _ _ h => absurd h (by omega)⟩
  case round =>
    obtain ⟨k, hk, rfl, hall⟩ := hrel
    have Hall := Lib.hid hall
    clear hall
    by_cases hlt : k < s.size
    · obtain ⟨x, hx⟩ : ∃ x, (s[k]).toNat = x := ⟨_, rfl⟩
      have Hlt := Lib.hid hlt
      have Hyes := Lib.hid (show chrB x = true → ∀ j (h : j < s.size), j < k + 1 → chrB (s[j]).toNat = true from fun hc j hj hjk => by
        by_cases e : j = k
        · subst e; rw [hx]; exact hc
        · exact Hall.out j hj (by omega))
      have Hno := Lib.hid (show chrB x = false → fileB s = false from fun hc => by
        unfold fileB
        rw [decide_eq_false (p := ∀ k (h : k < s.size), chrB (s[k]).toNat = true) (fun ha => by have := ha k hlt; rw [hx, hc] at this; cases this), Bool.and_false])
      by_cases h1 : 97 ≤ x
      · by_cases h2 : x ≤ 122
        · have f0 : decide (97 ≤ (x : Int)) = true := decide_eq_true (by omega)
          have g0 : decide (97 ≤ x) = true := decide_eq_true (by omega)
          have n0 : 97 ≤ (x : Int) := by omega
          have f1 : decide ((x : Int) ≤ 122) = true := decide_eq_true (by omega)
          have g1 : decide (x ≤ 122) = true := decide_eq_true (by omega)
          have n1 : (x : Int) ≤ 122 := by omega
          have hc : chrB x = true := by unfold chrB; simp; omega
          have HY := Lib.hid (Hyes.out hc)
          clear hc Hyes Hno
          go_wp2_with fail
          go_round
          case rel => exact ⟨k + 1, Hlt.out, by go_num, HY.out⟩
          case measure => simp [intOf]; have := Hlt.out; omega
        · by_cases h3 : 48 ≤ x
          · by_cases h4 : x ≤ 57
            · have f0 : decide (97 ≤ (x : Int)) = true := decide_eq_true (by omega)
              have g0 : decide (97 ≤ x) = true := decide_eq_true (by omega)
              have n0 : 97 ≤ (x : Int) := by omega
              have f1 : decide ((x : Int) ≤ 122) = false := decide_eq_false (by omega)
              have g1 : decide (x ≤ 122) = false := decide_eq_false (by omega)
              have n1 : ¬ ((x : Int) ≤ 122) := by omega
              have f2 : decide (48 ≤ (x : Int)) = true := decide_eq_true (by omega)
              have g2 : decide (48 ≤ x) = true := decide_eq_true (by omega)
              have n2 : 48 ≤ (x : Int) := by omega
              have f3 : decide ((x : Int) ≤ 57) = true := decide_eq_true (by omega)
              have g3 : decide (x ≤ 57) = true := decide_eq_true (by omega)
              have n3 : (x : Int) ≤ 57 := by omega
              have hc : chrB x = true := by unfold chrB; simp; omega
              have HY := Lib.hid (Hyes.out hc)
              clear hc Hyes Hno
              go_wp2_with fail
              go_round
              case rel => exact ⟨k + 1, Hlt.out, by go_num, HY.out⟩
              case measure => simp [intOf]; have := Hlt.out; omega
            · by_cases h5 : x = 46
              · have f0 : decide (97 ≤ (x : Int)) = true := decide_eq_true (by omega)
                have g0 : decide (97 ≤ x) = true := decide_eq_true (by omega)
                have n0 : 97 ≤ (x : Int) := by omega
                have f1 : decide ((x : Int) ≤ 122) = false := decide_eq_false (by omega)
                have g1 : decide (x ≤ 122) = false := decide_eq_false (by omega)
                have n1 : ¬ ((x : Int) ≤ 122) := by omega
                have f2 : decide (48 ≤ (x : Int)) = true := decide_eq_true (by omega)
                have g2 : decide (48 ≤ x) = true := decide_eq_true (by omega)
                have n2 : 48 ≤ (x : Int) := by omega
                have f3 : decide ((x : Int) ≤ 57) = false := decide_eq_false (by omega)
                have g3 : decide (x ≤ 57) = false := decide_eq_false (by omega)
                have n3 : ¬ ((x : Int) ≤ 57) := by omega
                have q5 : ((x : Int) == 46) = true := by rw [beq_iff_eq]; omega
                have hc : chrB x = true := by unfold chrB; simp; omega
                have HY := Lib.hid (Hyes.out hc)
                clear hc Hyes Hno
                go_wp2_with fail
                go_round
                case rel => exact ⟨k + 1, Hlt.out, by go_num, HY.out⟩
                case measure => simp [intOf]; have := Hlt.out; omega
              · by_cases h6 : x = 45
                · have f0 : decide (97 ≤ (x : Int)) = true := decide_eq_true (by omega)
                  have g0 : decide (97 ≤ x) = true := decide_eq_true (by omega)
                  have n0 : 97 ≤ (x : Int) := by omega
                  have f1 : decide ((x : Int) ≤ 122) = false := decide_eq_false (by omega)
                  have g1 : decide (x ≤ 122) = false := decide_eq_false (by omega)
                  have n1 : ¬ ((x : Int) ≤ 122) := by omega
                  have f2 : decide (48 ≤ (x : Int)) = true := decide_eq_true (by omega)
                  have g2 : decide (48 ≤ x) = true := decide_eq_true (by omega)
                  have n2 : 48 ≤ (x : Int) := by omega
                  have f3 : decide ((x : Int) ≤ 57) = false := decide_eq_false (by omega)
                  have g3 : decide (x ≤ 57) = false := decide_eq_false (by omega)
                  have n3 : ¬ ((x : Int) ≤ 57) := by omega
                  have q5 : ((x : Int) == 46) = false := by rw [beq_eq_false_iff_ne]; omega
                  have q6 : ((x : Int) == 45) = true := by rw [beq_iff_eq]; omega
                  have hc : chrB x = true := by unfold chrB; simp; omega
                  have HY := Lib.hid (Hyes.out hc)
                  clear hc Hyes Hno
                  go_wp2_with fail
                  go_round
                  case rel => exact ⟨k + 1, Hlt.out, by go_num, HY.out⟩
                  case measure => simp [intOf]; have := Hlt.out; omega
                · have f0 : decide (97 ≤ (x : Int)) = true := decide_eq_true (by omega)
                  have g0 : decide (97 ≤ x) = true := decide_eq_true (by omega)
                  have n0 : 97 ≤ (x : Int) := by omega
                  have f1 : decide ((x : Int) ≤ 122) = false := decide_eq_false (by omega)
                  have g1 : decide (x ≤ 122) = false := decide_eq_false (by omega)
                  have n1 : ¬ ((x : Int) ≤ 122) := by omega
                  have f2 : decide (48 ≤ (x : Int)) = true := decide_eq_true (by omega)
                  have g2 : decide (48 ≤ x) = true := decide_eq_true (by omega)
                  have n2 : 48 ≤ (x : Int) := by omega
                  have f3 : decide ((x : Int) ≤ 57) = false := decide_eq_false (by omega)
                  have g3 : decide (x ≤ 57) = false := decide_eq_false (by omega)
                  have n3 : ¬ ((x : Int) ≤ 57) := by omega
                  have q5 : ((x : Int) == 46) = false := by rw [beq_eq_false_iff_ne]; omega
                  have q6 : ((x : Int) == 45) = false := by rw [beq_eq_false_iff_ne]; omega
                  have hc : chrB x = false := by unfold chrB; simp; omega
                  have HN := Lib.hid (Hno.out hc)
                  clear hc Hyes Hno
                  go_wp2_with fail
                  go_ret
                  rw [HN.out]
                  exact ⟨rfl, rfl⟩
          · by_cases h5 : x = 46
            · have f0 : decide (97 ≤ (x : Int)) = true := decide_eq_true (by omega)
              have g0 : decide (97 ≤ x) = true := decide_eq_true (by omega)
              have n0 : 97 ≤ (x : Int) := by omega
              have f1 : decide ((x : Int) ≤ 122) = false := decide_eq_false (by omega)
              have g1 : decide (x ≤ 122) = false := decide_eq_false (by omega)
              have n1 : ¬ ((x : Int) ≤ 122) := by omega
              have f2 : decide (48 ≤ (x : Int)) = false := decide_eq_false (by omega)
              have g2 : decide (48 ≤ x) = false := decide_eq_false (by omega)
              have n2 : ¬ (48 ≤ (x : Int)) := by omega
              have q5 : ((x : Int) == 46) = true := by rw [beq_iff_eq]; omega
              have hc : chrB x = true := by unfold chrB; simp; omega
              have HY := Lib.hid (Hyes.out hc)
              clear hc Hyes Hno
              go_wp2_with fail
              go_round
              case rel => exact ⟨k + 1, Hlt.out, by go_num, HY.out⟩
              case measure => simp [intOf]; have := Hlt.out; omega
            · by_cases h6 : x = 45
              · have f0 : decide (97 ≤ (x : Int)) = true := decide_eq_true (by omega)
                have g0 : decide (97 ≤ x) = true := decide_eq_true (by omega)
                have n0 : 97 ≤ (x : Int) := by omega
                have f1 : decide ((x : Int) ≤ 122) = false := decide_eq_false (by omega)
                have g1 : decide (x ≤ 122) = false := decide_eq_false (by omega)
                have n1 : ¬ ((x : Int) ≤ 122) := by omega
                have f2 : decide (48 ≤ (x : Int)) = false := decide_eq_false (by omega)
                have g2 : decide (48 ≤ x) = false := decide_eq_false (by omega)
                have n2 : ¬ (48 ≤ (x : Int)) := by omega
                have q5 : ((x : Int) == 46) = false := by rw [beq_eq_false_iff_ne]; omega
                have q6 : ((x : Int) == 45) = true := by rw [beq_iff_eq]; omega
                have hc : chrB x = true := by unfold chrB; simp; omega
                have HY := Lib.hid (Hyes.out hc)
                clear hc Hyes Hno
                go_wp2_with fail
                go_round
                case rel => exact ⟨k + 1, Hlt.out, by go_num, HY.out⟩
                case measure => simp [intOf]; have := Hlt.out; omega
              · have f0 : decide (97 ≤ (x : Int)) = true := decide_eq_true (by omega)
                have g0 : decide (97 ≤ x) = true := decide_eq_true (by omega)
                have n0 : 97 ≤ (x : Int) := by omega
                have f1 : decide ((x : Int) ≤ 122) = false := decide_eq_false (by omega)
                have g1 : decide (x ≤ 122) = false := decide_eq_false (by omega)
                have n1 : ¬ ((x : Int) ≤ 122) := by omega
                have f2 : decide (48 ≤ (x : Int)) = false := decide_eq_false (by omega)
                have g2 : decide (48 ≤ x) = false := decide_eq_false (by omega)
                have n2 : ¬ (48 ≤ (x : Int)) := by omega
                have q5 : ((x : Int) == 46) = false := by rw [beq_eq_false_iff_ne]; omega
                have q6 : ((x : Int) == 45) = false := by rw [beq_eq_false_iff_ne]; omega
                have hc : chrB x = false := by unfold chrB; simp; omega
                have HN := Lib.hid (Hno.out hc)
                clear hc Hyes Hno
                go_wp2_with fail
                go_ret
                rw [HN.out]
                exact ⟨rfl, rfl⟩
      · by_cases h3 : 48 ≤ x
        · by_cases h4 : x ≤ 57
          · have f0 : decide (97 ≤ (x : Int)) = false := decide_eq_false (by omega)
            have g0 : decide (97 ≤ x) = false := decide_eq_false (by omega)
            have n0 : ¬ (97 ≤ (x : Int)) := by omega
            have f1 : decide (48 ≤ (x : Int)) = true := decide_eq_true (by omega)
            have g1 : decide (48 ≤ x) = true := decide_eq_true (by omega)
            have n1 : 48 ≤ (x : Int) := by omega
            have f2 : decide ((x : Int) ≤ 57) = true := decide_eq_true (by omega)
            have g2 : decide (x ≤ 57) = true := decide_eq_true (by omega)
            have n2 : (x : Int) ≤ 57 := by omega
            have hc : chrB x = true := by unfold chrB; simp; omega
            have HY := Lib.hid (Hyes.out hc)
            clear hc Hyes Hno
            go_wp2_with fail
            go_round
            case rel => exact ⟨k + 1, Hlt.out, by go_num, HY.out⟩
            case measure => simp [intOf]; have := Hlt.out; omega
          · by_cases h5 : x = 46
            · have f0 : decide (97 ≤ (x : Int)) = false := decide_eq_false (by omega)
              have g0 : decide (97 ≤ x) = false := decide_eq_false (by omega)
              have n0 : ¬ (97 ≤ (x : Int)) := by omega
              have f1 : decide (48 ≤ (x : Int)) = true := decide_eq_true (by omega)
              have g1 : decide (48 ≤ x) = true := decide_eq_true (by omega)
              have n1 : 48 ≤ (x : Int) := by omega
              have f2 : decide ((x : Int) ≤ 57) = false := decide_eq_false (by omega)
              have g2 : decide (x ≤ 57) = false := decide_eq_false (by omega)
              have n2 : ¬ ((x : Int) ≤ 57) := by omega
              have q5 : ((x : Int) == 46) = true := by rw [beq_iff_eq]; omega
              have hc : chrB x = true := by unfold chrB; simp; omega
              have HY := Lib.hid (Hyes.out hc)
              clear hc Hyes Hno
              go_wp2_with fail
              go_round
              case rel => exact ⟨k + 1, Hlt.out, by go_num, HY.out⟩
              case measure => simp [intOf]; have := Hlt.out; omega
            · by_cases h6 : x = 45
              · have f0 : decide (97 ≤ (x : Int)) = false := decide_eq_false (by omega)
                have g0 : decide (97 ≤ x) = false := decide_eq_false (by omega)
                have n0 : ¬ (97 ≤ (x : Int)) := by omega
                have f1 : decide (48 ≤ (x : Int)) = true := decide_eq_true (by omega)
                have g1 : decide (48 ≤ x) = true := decide_eq_true (by omega)
                have n1 : 48 ≤ (x : Int) := by omega
                have f2 : decide ((x : Int) ≤ 57) = false := decide_eq_false (by omega)
                have g2 : decide (x ≤ 57) = false := decide_eq_false (by omega)
                have n2 : ¬ ((x : Int) ≤ 57) := by omega
                have q5 : ((x : Int) == 46) = false := by rw [beq_eq_false_iff_ne]; omega
                have q6 : ((x : Int) == 45) = true := by rw [beq_iff_eq]; omega
                have hc : chrB x = true := by unfold chrB; simp; omega
                have HY := Lib.hid (Hyes.out hc)
                clear hc Hyes Hno
                go_wp2_with fail
                go_round
                case rel => exact ⟨k + 1, Hlt.out, by go_num, HY.out⟩
                case measure => simp [intOf]; have := Hlt.out; omega
              · have f0 : decide (97 ≤ (x : Int)) = false := decide_eq_false (by omega)
                have g0 : decide (97 ≤ x) = false := decide_eq_false (by omega)
                have n0 : ¬ (97 ≤ (x : Int)) := by omega
                have f1 : decide (48 ≤ (x : Int)) = true := decide_eq_true (by omega)
                have g1 : decide (48 ≤ x) = true := decide_eq_true (by omega)
                have n1 : 48 ≤ (x : Int) := by omega
                have f2 : decide ((x : Int) ≤ 57) = false := decide_eq_false (by omega)
                have g2 : decide (x ≤ 57) = false := decide_eq_false (by omega)
                have n2 : ¬ ((x : Int) ≤ 57) := by omega
                have q5 : ((x : Int) == 46) = false := by rw [beq_eq_false_iff_ne]; omega
                have q6 : ((x : Int) == 45) = false := by rw [beq_eq_false_iff_ne]; omega
                have hc : chrB x = false := by unfold chrB; simp; omega
                have HN := Lib.hid (Hno.out hc)
                clear hc Hyes Hno
                go_wp2_with fail
                go_ret
                rw [HN.out]
                exact ⟨rfl, rfl⟩
        · by_cases h5 : x = 46
          · have f0 : decide (97 ≤ (x : Int)) = false := decide_eq_false (by omega)
            have g0 : decide (97 ≤ x) = false := decide_eq_false (by omega)
            have n0 : ¬ (97 ≤ (x : Int)) := by omega
            have f1 : decide (48 ≤ (x : Int)) = false := decide_eq_false (by omega)
            have g1 : decide (48 ≤ x) = false := decide_eq_false (by omega)
            have n1 : ¬ (48 ≤ (x : Int)) := by omega
            have q5 : ((x : Int) == 46) = true := by rw [beq_iff_eq]; omega
            have hc : chrB x = true := by unfold chrB; simp; omega
            have HY := Lib.hid (Hyes.out hc)
            clear hc Hyes Hno
            go_wp2_with fail
            go_round
            case rel => exact ⟨k + 1, Hlt.out, by go_num, HY.out⟩
            case measure => simp [intOf]; have := Hlt.out; omega
          · by_cases h6 : x = 45
            · have f0 : decide (97 ≤ (x : Int)) = false := decide_eq_false (by omega)
              have g0 : decide (97 ≤ x) = false := decide_eq_false (by omega)
              have n0 : ¬ (97 ≤ (x : Int)) := by omega
              have f1 : decide (48 ≤ (x : Int)) = false := decide_eq_false (by omega)
              have g1 : decide (48 ≤ x) = false := decide_eq_false (by omega)
              have n1 : ¬ (48 ≤ (x : Int)) := by omega
              have q5 : ((x : Int) == 46) = false := by rw [beq_eq_false_iff_ne]; omega
              have q6 : ((x : Int) == 45) = true := by rw [beq_iff_eq]; omega
              have hc : chrB x = true := by unfold chrB; simp; omega
              have HY := Lib.hid (Hyes.out hc)
              clear hc Hyes Hno
              go_wp2_with fail
              go_round
              case rel => exact ⟨k + 1, Hlt.out, by go_num, HY.out⟩
              case measure => simp [intOf]; have := Hlt.out; omega
            · have f0 : decide (97 ≤ (x : Int)) = false := decide_eq_false (by omega)
              have g0 : decide (97 ≤ x) = false := decide_eq_false (by omega)
              have n0 : ¬ (97 ≤ (x : Int)) := by omega
              have f1 : decide (48 ≤ (x : Int)) = false := decide_eq_false (by omega)
              have g1 : decide (48 ≤ x) = false := decide_eq_false (by omega)
              have n1 : ¬ (48 ≤ (x : Int)) := by omega
              have q5 : ((x : Int) == 46) = false := by rw [beq_eq_false_iff_ne]; omega
              have q6 : ((x : Int) == 45) = false := by rw [beq_eq_false_iff_ne]; omega
              have hc : chrB x = false := by unfold chrB; simp; omega
              have HN := Lib.hid (Hno.out hc)
              clear hc Hyes Hno
              go_wp2_with fail
              go_ret
              rw [HN.out]
              exact ⟨rfl, rfl⟩
    · have hkn : k = s.size := by omega
      have Hk := Lib.hid hkn
      have hfin : fileB s = (decide (0 < s.size) && decide (s.size ≤ 40)) := by
        unfold fileB
        rw [decide_eq_true (p := ∀ k (h : k < s.size), chrB (s[k]).toNat = true) (fun j hj => Hall.out j hj (by omega)), Bool.and_true]
      have Hfin := Lib.hid hfin
      clear hfin hkn
      by_cases h0 : 0 < s.size
      · by_cases h40 : s.size ≤ 40
        · have t0 : decide ((0 : Int) < (s.size : Int)) = true := decide_eq_true (by omega)
          have t1 : decide ((s.size : Int) ≤ 40) = true := decide_eq_true (by omega)
          have t2 : decide (0 < s.size) = true := decide_eq_true (by omega)
          have t3 : decide (s.size ≤ 40) = true := decide_eq_true (by omega)
          have HF := Lib.hid (show fileB s = true from Hfin.out.trans (by rw [t2, t3]; rfl))
          go_wp2_with fail
          go_ret
          rw [HF.out]
          exact ⟨rfl, rfl⟩
        · have t0 : decide ((0 : Int) < (s.size : Int)) = true := decide_eq_true (by omega)
          have t1 : decide ((s.size : Int) ≤ 40) = false := decide_eq_false (by omega)
          have t2 : decide (0 < s.size) = true := decide_eq_true (by omega)
          have t3 : decide (s.size ≤ 40) = false := decide_eq_false (by omega)
          have HF := Lib.hid (show fileB s = false from Hfin.out.trans (by rw [t2, t3]; rfl))
          go_wp2_with fail
          go_ret
          rw [HF.out]
          exact ⟨rfl, rfl⟩
      · have t0 : decide ((0 : Int) < (s.size : Int)) = false := decide_eq_false (by omega)
        have t1 : ¬ ((0 : Int) < (s.size : Int)) := by omega
        have t2 : decide (0 < s.size) = false := decide_eq_false (by omega)
        have HF := Lib.hid (show fileB s = false from Hfin.out.trans (by rw [t2]; rfl))
        go_wp2_with fail
        go_ret
        rw [HF.out]
        exact ⟨rfl, rfl⟩
/-- The disk's own cells stay where another block turns. -/
theorem obj_stay {w w' : World} {p : Nat} {us : Array Value} {k : Option Nat} (h : w.heap[p]? = some (.cells us 71 (0, 0))) (hg : w.grownBy w' k) (hk : ∀ j, k = some j → (∃ es c, w.heap[j]? = some (.map es c)) ∨ ∃ cur T fz, w.heap[j]? = some (.cells cur T fz) ∧ T ≠ 71) : w'.heap[p]? = some (.cells us 71 (0, 0)) := by
  refine heap_stay h hg (fun e => ?_)
  rcases hk p e with ⟨es, c, h1⟩ | ⟨cur, T, fz, h1, hT⟩
  · rw [h] at h1; cases h1
  · rw [h] at h1; injection h1 with h1; injection h1 with _ h1; exact hT h1.symm
theorem DM.names {w w' : World} {B p : Nat} {m : Mem} {s : St} (h : DM w B p m s) {n' : Nat} {D' : Mp} (hg : w.grownBy w' (some m.mn)) (ho : w'.ownsMap Try.prog 9 ptrE m.mn n' D') : DM w' B p { m with n1 := n' } { s with D1 := D' } :=
  ⟨obj_stay h.obj hg (fun j e => by injection e with e; subst e; exact .inl (map_obj h.con.nm)), h.low, h.con.names hg ho, h.fr.grown hg (fun j e => by injection e with e; subst e; obtain ⟨es, c, h1⟩ := map_obj h.con.nm; exact ⟨_, h1, rfl⟩)⟩
theorem DM.below {w w' : World} {B p : Nat} {m : Mem} {s : St} (h : DM w B p m s) (hg : w.grownBy w' (some m.mn)) : Below B w w' :=
  ⟨hg.os, hg.tape, hg.output, hg.size, fun k hk => by
    have := h.con.bn
    rcases Nat.lt_or_ge k w.heap.size with h1 | h1
    · exact hg.block k h1 (fun e => by injection e with e; omega)
    · have := h.con.nm.lt; omega⟩
theorem DM.pend {w w' : World} {B p : Nat} {m : Mem} {s : St} (h : DM w B p m s) {v' : Value} {ops' : List Opn} (hg : w.grownBy w' m.pv.ownBlock) (ho : w'.ownsRow B 102 1 v' ops'.length (ops'.map opV)) :
    (w'.cell? ⟨p, 3, none⟩ = some m.pv ∧ w'.frozen? ⟨p, 3, none⟩ = false) ∧ DM (w'.setCell ⟨p, 3, none⟩ v') B p { m with pv := v' } { s with ops := ops' } ∧ Below B w (w'.setCell ⟨p, 3, none⟩ v') := by
  have ob := obj_stay h.obj hg (fun j e => by obtain ⟨cur, h1⟩ := own_obj h.con.pd e; exact .inr ⟨cur, _, _, h1, by decide⟩)
  have C := Cells.of_row ob
  have hc := h.con.pend hg ho
  have hg2 := grown_cells p [v'] 3 w'
  have e : w'.setCells p 3 [v'] = w'.setCell ⟨p, 3, none⟩ v' := rfl
  rw [e] at hg2
  refine ⟨⟨C.at_ 3, C.fz 3⟩, ⟨?_, h.low, hc.other ob hg2 (fun _ _ e => by cases e) (fun _ _ e => by injection e with _ e; exact absurd e (by decide)) (fun _ _ e => by injection e with _ e; exact absurd e (by decide)) (fun _ _ e => by injection e with _ e; exact absurd e (by decide)), (h.fr.grown hg (fun j e => by obtain ⟨cur, h1⟩ := own_obj h.con.pd e; exact ⟨_, h1, rfl⟩)).grown hg2 (fun j e => by injection e with e; subst e; exact ⟨_, ob, rfl⟩)⟩, ?_⟩
  · exact heap_setF w' p 3 _ _ _ v' ob
  · have hlow := h.low
    have hlt := row_lt h.obj
    exact ((Below.refl B w).grown hg (by omega) (fun k hk => own_ge h.con.pd hk)).setCell (p := ⟨p, 3, none⟩) hlow v'
theorem info_op : (Try.prog.info? 102).map (fun i => (i.zero, i.size, i.bytes)) = some (some .nilFunc, 1, 8) := by kernel_rfl
theorem below_of3 {B p : Nat} {w w2 wa w5 : World} (h1 : Below B w w2) (h2 : Below w2.heap.size w2 wa) (h3 : Below B wa w5) (hl : B ≤ p) (hp : p < w2.heap.size) : Below B w w5 := (h1.trans (h2.mono (by omega))).trans h3
set_option maxRecDepth 100000 in
set_option maxHeartbeats 4000000 in
theorem perform_cre {w : World} {B p : Nat} {m : Mem} {s : St} (h : DM w B p m s) (nm : ByteArray) (b : Nat) (hnm : nm.size ≤ maxLen) (hn : m.n1 < 1000000) (ho : s.ops.length ≤ 1000000) (hl : s.left ≤ 4611686018427387904) :
    Calls Try.prog 42 #[ptrV p, opV (.cre nm b)] w fun e w' => ∃ m', e = .returned (.int .i64 (cntE s)) ∧ DM w' B p m' (cntS { s with D1 := appO (.cre nm b) s.D1, ops := s.ops ++ [.cre nm b] }) ∧ m'.n1 ≤ m.n1 + 1 ∧ m'.n2 = m.n2 ∧ m'.dv = m.dv ∧ Below B w w' := by
  obtain ⟨_, c1, _, _, _, _, _⟩ := h.at4
  obtain ⟨i0, hi, hz0, hz1, hz2⟩ := info_parts info_op
  have H := Lib.hid h
  have HO := Lib.hid (cre_any nm b m.mn m.n1 s.D1 w h.con.nm hn hnm)
  clear h
  unfold opV
  go_enter Try.func42, Try.ntmps42
  go_wp2_with fail
  refine HO.out.mono ?_
  rintro e w2 ⟨⟨v, rfl⟩, hown, hg⟩
  have h2 := H.out.names hg hown
  have hb2 := H.out.below hg
  have ka := (Below.refl w2.heap.size w2).alloc (Nat.le_refl _) (.cells #[opV (.cre nm b)] 102)
  have h3 := h2.keep ka
  obtain ⟨_, _, _, c3, _, _, _⟩ := h2.at4
  have ca := Cells.new w2 #[opV (.cre nm b)] 102
  have hlt := row_lt h2.obj
  have hlow := H.out.low
  go_wp2_with (at_builtin; refine wpList_append_own _ rfl _ _ 69 rfl B 102 i0 .nilFunc 1 8 Try.underlying69 hi hz0 hz1 hz2 rfl (by decide) _ _ _ rfl h3.con.pd ⟨w2.heap.size, 0, none⟩ 1 1 [opV (.cre nm b)] rfl rfl ?c1 ?c2 ?c3 ?c4 ?c5 ?_)
  case c1 => exact fun k u hu => by rw [Addr.add_lit, Nat.zero_add]; exact (ca.at_ k).trans hu
  case c2 => exact fun u hu => (by simp at hu; subst hu; rfl)
  case c3 => unfold maxLen; omega
  case c4 => omega
  case c5 => simp; omega
  intro v' w4 hown' hgrow _
  obtain ⟨NA, NC, rfl, _⟩ := own_row hown'
  have T := h3.pend (ops' := s.ops ++ [.cre nm b]) hgrow (by rw [List.length_append, List.map_append]; exact hown')
  have z3 := T.1.1
  have y3 := T.1.2
  have HT := Lib.hid T.2.1
  have HB := Lib.hid (below_of3 hb2 ka T.2.2 hlow hlt)
  have HC := Lib.hid (count_any T.2.1 hl)
  clear T h2 h3 hb2 ka ca hown hg hown' hgrow HO H hlow hlt
  go_wp2_with fail
  refine HC.out.mono ?_
  rintro e w6 ⟨rfl, hD, hb⟩
  have HD := Lib.hid hD
  have HB2 := Lib.hid (HB.out.trans hb)
  clear hD hb
  go_wp2_with fail
  go_ret
  exact ⟨_, rfl, HD.out, by show m.n1 + 1 ≤ m.n1 + 1; omega, rfl, rfl, HB2.out⟩
set_option maxRecDepth 100000 in
set_option maxHeartbeats 4000000 in
theorem perform_ren {w : World} {B p : Nat} {m : Mem} {s : St} (h : DM w B p m s) (a b : ByteArray) (hna : a.size ≤ maxLen) (hnb : b.size ≤ maxLen) (hn : m.n1 < 1000000) (ho : s.ops.length ≤ 1000000) (hl : s.left ≤ 4611686018427387904) :
    Calls Try.prog 42 #[ptrV p, opV (.ren a b)] w fun e w' => ∃ m', e = .returned (.int .i64 (cntE s)) ∧ DM w' B p m' (cntS { s with D1 := appO (.ren a b) s.D1, ops := s.ops ++ [.ren a b] }) ∧ m'.n1 ≤ m.n1 + 1 ∧ m'.n2 = m.n2 ∧ m'.dv = m.dv ∧ Below B w w' := by
  obtain ⟨_, c1, _, _, _, _, _⟩ := h.at4
  obtain ⟨i0, hi, hz0, hz1, hz2⟩ := info_parts info_op
  have H := Lib.hid h
  have HO := Lib.hid (ren_any a b m.mn m.n1 s.D1 w h.con.nm hn hna hnb)
  clear h
  unfold opV
  go_enter Try.func42, Try.ntmps42
  go_wp2_with fail
  refine HO.out.mono ?_
  rintro e w2 ⟨⟨v, rfl⟩, hown, hg⟩
  have h2 := H.out.names hg hown
  have hb2 := H.out.below hg
  have ka := (Below.refl w2.heap.size w2).alloc (Nat.le_refl _) (.cells #[opV (.ren a b)] 102)
  have h3 := h2.keep ka
  obtain ⟨_, _, _, c3, _, _, _⟩ := h2.at4
  have ca := Cells.new w2 #[opV (.ren a b)] 102
  have hlt := row_lt h2.obj
  have hlow := H.out.low
  go_wp2_with (at_builtin; refine wpList_append_own _ rfl _ _ 69 rfl B 102 i0 .nilFunc 1 8 Try.underlying69 hi hz0 hz1 hz2 rfl (by decide) _ _ _ rfl h3.con.pd ⟨w2.heap.size, 0, none⟩ 1 1 [opV (.ren a b)] rfl rfl ?c1 ?c2 ?c3 ?c4 ?c5 ?_)
  case c1 => exact fun k u hu => by rw [Addr.add_lit, Nat.zero_add]; exact (ca.at_ k).trans hu
  case c2 => exact fun u hu => (by simp at hu; subst hu; rfl)
  case c3 => unfold maxLen; omega
  case c4 => omega
  case c5 => simp; omega
  intro v' w4 hown' hgrow _
  obtain ⟨NA, NC, rfl, _⟩ := own_row hown'
  have T := h3.pend (ops' := s.ops ++ [.ren a b]) hgrow (by rw [List.length_append, List.map_append]; exact hown')
  have z3 := T.1.1
  have y3 := T.1.2
  have HT := Lib.hid T.2.1
  have HB := Lib.hid (below_of3 hb2 ka T.2.2 hlow hlt)
  have HC := Lib.hid (count_any T.2.1 hl)
  clear T h2 h3 hb2 ka ca hown hg hown' hgrow HO H hlow hlt
  go_wp2_with fail
  refine HC.out.mono ?_
  rintro e w6 ⟨rfl, hD, hb⟩
  have HD := Lib.hid hD
  have HB2 := Lib.hid (HB.out.trans hb)
  clear hD hb
  go_wp2_with fail
  go_ret
  exact ⟨_, rfl, HD.out, by show m.n1 + 1 ≤ m.n1 + 1; omega, rfl, rfl, HB2.out⟩
set_option maxRecDepth 100000 in
set_option maxHeartbeats 4000000 in
theorem perform_rem {w : World} {B p : Nat} {m : Mem} {s : St} (h : DM w B p m s) (a : ByteArray) (hna : a.size ≤ maxLen) (_hn : m.n1 < 1000000) (ho : s.ops.length ≤ 1000000) (hl : s.left ≤ 4611686018427387904) :
    Calls Try.prog 42 #[ptrV p, opV (.rem a)] w fun e w' => ∃ m', e = .returned (.int .i64 (cntE s)) ∧ DM w' B p m' (cntS { s with D1 := appO (.rem a) s.D1, ops := s.ops ++ [.rem a] }) ∧ m'.n1 ≤ m.n1 + 1 ∧ m'.n2 = m.n2 ∧ m'.dv = m.dv ∧ Below B w w' := by
  obtain ⟨_, c1, _, _, _, _, _⟩ := h.at4
  obtain ⟨i0, hi, hz0, hz1, hz2⟩ := info_parts info_op
  have H := Lib.hid h
  have HO := Lib.hid (rem_any a m.mn m.n1 s.D1 w h.con.nm hna)
  clear h
  unfold opV
  go_enter Try.func42, Try.ntmps42
  go_wp2_with fail
  refine HO.out.mono ?_
  rintro e w2 ⟨⟨v, rfl⟩, hown, hg⟩
  have h2 := H.out.names hg hown
  have hb2 := H.out.below hg
  have ka := (Below.refl w2.heap.size w2).alloc (Nat.le_refl _) (.cells #[opV (.rem a)] 102)
  have h3 := h2.keep ka
  obtain ⟨_, _, _, c3, _, _, _⟩ := h2.at4
  have ca := Cells.new w2 #[opV (.rem a)] 102
  have hlt := row_lt h2.obj
  have hlow := H.out.low
  go_wp2_with (at_builtin; refine wpList_append_own _ rfl _ _ 69 rfl B 102 i0 .nilFunc 1 8 Try.underlying69 hi hz0 hz1 hz2 rfl (by decide) _ _ _ rfl h3.con.pd ⟨w2.heap.size, 0, none⟩ 1 1 [opV (.rem a)] rfl rfl ?c1 ?c2 ?c3 ?c4 ?c5 ?_)
  case c1 => exact fun k u hu => by rw [Addr.add_lit, Nat.zero_add]; exact (ca.at_ k).trans hu
  case c2 => exact fun u hu => (by simp at hu; subst hu; rfl)
  case c3 => unfold maxLen; omega
  case c4 => omega
  case c5 => simp; omega
  intro v' w4 hown' hgrow _
  obtain ⟨NA, NC, rfl, _⟩ := own_row hown'
  have T := h3.pend (ops' := s.ops ++ [.rem a]) hgrow (by rw [List.length_append, List.map_append]; exact hown')
  have z3 := T.1.1
  have y3 := T.1.2
  have HT := Lib.hid T.2.1
  have HB := Lib.hid (below_of3 hb2 ka T.2.2 hlow hlt)
  have HC := Lib.hid (count_any T.2.1 hl)
  clear T h2 h3 hb2 ka ca hown hg hown' hgrow HO H hlow hlt
  go_wp2_with fail
  refine HC.out.mono ?_
  rintro e w6 ⟨rfl, hD, hb⟩
  have HD := Lib.hid hD
  have HB2 := Lib.hid (HB.out.trans hb)
  clear hD hb
  go_wp2_with fail
  go_ret
  exact ⟨_, rfl, HD.out, by show m.n1 ≤ m.n1 + 1; omega, rfl, rfl, HB2.out⟩
end Go.Proofs.Ytbmogecnepgnaaa
