/- Liaisons: the reference's test of a set. -/
import Derived.Test.YtdpfoegcmngdfaaDoorLe
import Derived.Test.YtdpfoegcmngdfaaDoorRl
namespace Go.Proofs.YtdpfoegcmngdfaaDoor
open Go.RowKit
set_option maxRecDepth 100000 in
set_option maxHeartbeats 4000000 in
theorem refSet_any (n : Int) (A : Option Addr) (c : Nat) (l : List Int) (w : World) (h : IL w A l) (hl : l.length ≤ 1000000) :
    Calls Tryd.prog 13 #[.slice A l.length c, .int .i64 n] w fun e w' => e = .returned (.int .i64 (setE n l)) ∧ Below w.heap.size w w' := by
  by_cases h00 : l.length = 0
  · have t0 : (((l.length : Nat) : Int) == 0) = true := by rw [h00]; rfl
    have Hf := Lib.hid (show setE n l = 7 by unfold setE; rw [if_pos h00])
    have t1 : (l.length == 0) = true := by rw [h00]; rfl
    clear h
    go_enter Tryd.func13, Tryd.ntmps13
    go_wp2_with fail
    go_ret
    exact ⟨ret_int Hf.out.symm, Below.refl _ _⟩
  have tz : (((l.length : Nat) : Int) == 0) = false := by rw [beq_eq_false_iff_ne]; omega
  have hsm : setE n l = memE n l := by unfold setE; rw [if_neg h00]
  rw [hsm]
  clear hsm h00
  have H := Lib.hid h
  have HA := Lib.hid (fun k (hk : k < l.length) => @firstE_at (memAt n l) k l.length hk)
  have HN := Lib.hid (@firstE_none (memAt n l) l.length)
  obtain ⟨E, hE⟩ : ∃ E, memE n l = E := ⟨_, rfl⟩
  rw [hE]
  have HA : RowKit.Hid (∀ k, k < l.length → (∀ j, j < k → memAt n l j = 0) → memAt n l k ≠ 0 → E = memAt n l k) := Lib.hid fun k hk h1 h2 => hE.symm.trans (HA.out k hk h1 h2)
  have HN : RowKit.Hid ((∀ j, j < l.length → memAt n l j = 0) → E = 0) := Lib.hid fun h1 => hE.symm.trans (HN.out h1)
  clear h hE
  go_enter Tryd.func13, Tryd.ntmps13
  go_wp2_with fail
  go_loopw [5] (fun i wr => ∃ k : Nat, k ≤ l.length ∧ i = .int .i64 (k : Nat) ∧ (∀ j, j < k → memAt n l j = 0) ∧ Below w.heap.size w wr) (fun i _ => l.length - (intOf i).toNat)
  case atStart => exact ⟨0, Nat.zero_le _, rfl, fun j hj => absurd hj (Nat.not_lt_zero _), Below.refl _ _⟩
  case round =>
    obtain ⟨k, hk, rfl, hz, hbb⟩ := hrel
    have Hz := Lib.hid hz
    have B4 := Lib.hid hbb
    have H4 := Lib.hid (H.out.keep hbb)
    clear hz hbb
    by_cases hlt : k < l.length
    · obtain ⟨b, o, rfl, hbl, hcell⟩ := il_get H4.out hlt
      have HD := Lib.hid (show memAt n l k = if l.getD k 0 < 0 ∨ n ≤ l.getD k 0 then 2 else if 0 < k ∧ l.getD k 0 ≤ l.getD (k - 1) 0 then 8 else 0 from rfl)
      have HK := Lib.hid (HA.out k hlt Hz.out)
      have HC := Lib.hid (fun (h0 : 0 < k) => il_get H4.out (k := k - 1) (by omega))
      have HY := Lib.hid (fun (h0 : memAt n l k = 0) j (hj : j < k + 1) => by
        rcases Nat.lt_or_ge j k with h1 | h1
        · exact Hz.out j h1
        · obtain rfl : j = k := by omega
          exact h0)
      obtain ⟨x, hx⟩ : ∃ x, l.getD k 0 = x := ⟨_, rfl⟩
      obtain ⟨M, hM⟩ : ∃ M, memAt n l k = M := ⟨_, rfl⟩
      rw [hx] at HD hcell
      rw [hM] at HD HK HY
      clear hx hM
      by_cases h1 : x < 0
      · have t1 : decide (x < 0) = true := decide_eq_true h1
        have Hf := Lib.hid (show E = 2 by rw [HK.out (by rw [HD.out, if_pos (.inl h1)]; decide), HD.out, if_pos (.inl h1)])
        clear h1
        go_wp2_with fail
        go_ret
        exact ⟨ret_int Hf.out.symm, by first | exact B4.out | exact below_dN B4.out⟩
      · by_cases h2 : n ≤ x
        · have t1 : decide (x < 0) = false := decide_eq_false h1
          have t2 : decide (n ≤ x) = true := decide_eq_true h2
          have Hf := Lib.hid (show E = 2 by rw [HK.out (by rw [HD.out, if_pos (.inr h2)]; decide), HD.out, if_pos (.inr h2)])
          clear h1 h2
          go_wp2_with fail
          go_ret
          exact ⟨ret_int Hf.out.symm, by first | exact B4.out | exact below_dN B4.out⟩
        · have t1 : decide (x < 0) = false := decide_eq_false h1
          have t2 : decide (n ≤ x) = false := decide_eq_false h2
          rw [if_neg (by omega)] at HD
          clear h1 h2
          by_cases h3 : 0 < k
          · obtain ⟨b', o', e', hb', hc'⟩ := HC.out h3
            injection e' with e'
            injection e' with e1 e2
            subst e1 e2
            obtain ⟨y, hy⟩ : ∃ y, l.getD (k - 1) 0 = y := ⟨_, rfl⟩
            rw [hy] at HD hc'
            have t3 : decide ((0 : Int) < (k : Int)) = true := decide_eq_true (by omega)
            have e3 : (k : Int) - 1 = ((k - 1 : Nat) : Int) := by omega
            have e4 : IntKind.i64.wrap ((k : Int) - 1) = ((k - 1 : Nat) : Int) := by rw [e3]; exact IntWalk.i64_in _ (by omega)
            by_cases h4 : x ≤ y
            · have t4 : decide (x ≤ y) = true := decide_eq_true h4
              have Hf := Lib.hid (show E = 8 by rw [HK.out (by rw [HD.out, if_pos ⟨h3, h4⟩]; decide), HD.out, if_pos ⟨h3, h4⟩])
              clear h4 hy
              go_wp2_with fail
              go_quiet (fail)
              go_wp2_with fail
              go_ret
              exact ⟨ret_int Hf.out.symm, by first | exact B4.out | exact below_dN B4.out⟩
            · have t4 : decide (x ≤ y) = false := decide_eq_false h4
              have Hf := Lib.hid (HY.out (by rw [HD.out, if_neg (fun h => h4 h.2)]))
              clear h4 hy
              go_wp2_with fail
              go_quiet (fail)
              go_wp2_with fail
              go_roundw
              case rel => exact ⟨k + 1, by omega, by go_num, Hf.out, by first | exact B4.out | exact below_dN B4.out⟩
              case measure => simp [intOf]; omega
          · have Hf := Lib.hid (HY.out (by rw [HD.out, if_neg (fun h => h3 h.1)]))
            obtain rfl : k = 0 := by omega
            rw [Nat.add_zero] at hcell
            clear h3
            go_wp2_with fail
            go_quiet (fail)
            go_wp2_with fail
            go_roundw
            case rel => exact ⟨1, by omega, rfl, Hf.out, by first | exact B4.out | exact below_dN B4.out⟩
            case measure => simp [intOf]; omega
    · obtain rfl : k = l.length := by omega
      have Hf := Lib.hid (HN.out Hz.out)
      go_wp2_with fail
      go_ret
      exact ⟨ret_int Hf.out.symm, by first | exact B4.out | exact below_dN B4.out⟩
end Go.Proofs.YtdpfoegcmngdfaaDoor
