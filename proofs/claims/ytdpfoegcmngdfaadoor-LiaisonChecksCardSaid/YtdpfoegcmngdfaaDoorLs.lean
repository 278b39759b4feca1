/- Liaisons: the law's chosen nodes and its pairs. -/
import Derived.Test.YtdpfoegcmngdfaaDoorLr
namespace Go.Proofs.YtdpfoegcmngdfaaDoor
open Go.RowKit
theorem bit_u8 : ∀ b : Nat, b < 256 → ∀ k : Nat, k < 6 → (bits .and .u8 ((b : Int) / 2 ^ k) 1 == 1) = b.testBit k := by decide +kernel
def chL6 (k b : Nat) : List Nat := (List.range k).filter fun v => b.testBit v
theorem chL6_up (k b : Nat) : chL6 (k + 1) b = chL6 k b ++ if b.testBit k then [k] else [] := by
  unfold chL6
  rw [List.range_succ, List.filter_append, List.filter_cons]
  cases b.testBit k <;> rfl
theorem chL6_len (k b : Nat) : (chL6 k b).length ≤ k := by
  unfold chL6
  have := List.length_filter_le (fun v => b.testBit v) (List.range k)
  rwa [List.length_range] at this
theorem chL6_bits : ∀ b : Nat, b < 256 → chL6 6 b = bitsOf (b % 64) := by decide +kernel
set_option maxRecDepth 100000 in
set_option maxHeartbeats 8000000 in
theorem chosen_any (b : Nat) (w : World) (hb : b < 256) :
    Calls Tryd.prog 18 #[.int .u8 b] w fun e w' => ∃ v, e = .returned v ∧ w'.ownsRow w.heap.size 3 1 v (bitsOf (b % 64)).length (nats (bitsOf (b % 64))) ∧ Below w.heap.size w w' := by
  obtain ⟨i0, hi, hz0, hz1, hz2⟩ := info_parts info_int
  go_enter Tryd.func18, Tryd.ntmps18
  go_wp2_with fail
  go_loopw [3, 4] (fun v i wr => ∃ k : Nat, i = .int .i64 (k : Nat) ∧ k ≤ 6 ∧ wr.ownsRow w.heap.size 3 1 v (chL6 k b).length (nats (chL6 k b)) ∧ Below w.heap.size w wr) (fun _ i _ => 6 - (intOf i).toNat)
  case atStart => exact ⟨0, rfl, Nat.zero_le _, World.ownsRow_nil _ _ _ _, Below.refl _ _⟩
  case round =>
    obtain ⟨k, rfl, hk, hown, hbw⟩ := hrel
    have O6 := Lib.hid hown
    have B6 := Lib.hid hbw
    have hsz := hbw.size
    clear hown hbw
    by_cases hlt : k < 6
    · have t0 := bit_u8 b hb k (by omega)
      have hup := chL6_up k b
      have hfl := chL6_len k b
      have Hlt := Lib.hid hlt
      have Hfl := Lib.hid hfl
      clear hfl
      cases ht : b.testBit k with
      | true =>
        rw [ht] at t0 hup
        have Hup := Lib.hid hup
        clear ht hup
        go_wp2_with (at_builtin; refine wpList_append_own _ rfl _ _ 25 rfl w.heap.size 3 i0 (.int .i64 0) 1 8 Tryd.underlying25 hi hz0 hz1 hz2 rfl (by decide) _ _ _ rfl (O6.out.alloc _) ⟨wr.heap.size, 0, none⟩ 1 1 [.int .i64 (k : Nat)] rfl rfl ?c1 ?c2 ?c3 ?c4 ?c5 ?_)
        case c2 => rfl
        case c3 => unfold maxLen; have := Hfl.out; omega
        case c4 => have := Hfl.out; omega
        case c5 => omega
        intro v' w3 hown' hgrow _
        have B7 := Lib.hid ((B6.out.alloc hsz (.cells #[.int .i64 (k : Nat)] 3)).grown hgrow (by simp; omega) (fun k hk => own_ge O6.out hk))
        have O7 := Lib.hid (show w3.ownsRow w.heap.size 3 1 v' (chL6 (k + 1) b).length (nats (chL6 (k + 1) b)) by
          rw [Hup.out, if_pos trivial, List.length_append, nats_snoc]; exact hown')
        clear hown' hgrow
        go_wp2_with fail
        go_roundw
        case rel => exact ⟨k + 1, by go_num, Hlt.out, O7.out, B7.out⟩
        case measure => simp [intOf]; have := Hlt.out; omega
      | false =>
        rw [ht] at t0 hup
        have O7 := Lib.hid (show wr.ownsRow w.heap.size 3 1 _ (chL6 (k + 1) b).length (nats (chL6 (k + 1) b)) by
          rw [hup, if_neg (by simp), List.append_nil]; exact O6.out)
        clear ht hup
        go_wp2_with fail
        go_roundw
        case rel => exact ⟨k + 1, by go_num, Hlt.out, O7.out, B6.out⟩
        case measure => simp [intOf]; have := Hlt.out; omega
    · have hkn : k = 6 := by omega
      subst hkn
      go_wp2_with fail
      go_ret
      exact ⟨_, rfl, by rw [← chL6_bits b hb]; exact O6.out, B6.out⟩
end Go.Proofs.YtdpfoegcmngdfaaDoor
