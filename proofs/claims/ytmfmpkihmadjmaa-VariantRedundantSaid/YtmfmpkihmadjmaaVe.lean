/- The configurations in their order, each one visited. -/
import Derived.Test.YtmfmpkihmadjmaaVi
namespace Go.Proofs.Ytmfmpkihmadjmaa
open Go.RowKit Go.Shelf
/-- The configuration number k of n options, the last one first; and the counter ahead of it. -/
def cfgH (n k : Nat) : Nat := (2 ^ n - k) * 2 ^ (12 - n)
def cfg (n k : Nat) : Nat := (2 ^ n - 1 - k) * 2 ^ (12 - n)
theorem cfg_head (n k : Nat) : cfg n k = cfgH n (k + 1) := by
  unfold cfg cfgH
  rw [show 2 ^ n - 1 - k = 2 ^ n - (k + 1) by omega]
theorem cfg_zero (n : Nat) (hn : n ≤ 12) : cfgH n 0 = 4096 := by
  unfold cfgH
  rw [Nat.sub_zero, ← Nat.pow_add, show n + (12 - n) = 12 by omega]
theorem cfg_end (n : Nat) (_hn : n ≤ 12) : cfgH n (2 ^ n) = 0 := by
  unfold cfgH
  rw [Nat.sub_self, Nat.zero_mul]
theorem cfg_step (n k : Nat) (hn : n ≤ 12) (hk : k < 2 ^ n) : 0 < cfgH n k ∧ cfg n k + sing (12 - n) = cfgH n k ∧ cfgH n (k + 1) < cfgH n k ∧ cfgH n k ≤ 4096 := by
  have hp : 0 < 2 ^ (12 - n) := Nat.pow_pos (by decide)
  have h1 : cfgH n (k + 1) + 2 ^ (12 - n) = cfgH n k := by
    unfold cfgH
    rw [show 2 ^ n - k = (2 ^ n - (k + 1)) + 1 by omega, Nat.add_mul, Nat.one_mul]
  have h2 : cfgH n k ≤ cfgH n 0 := by
    unfold cfgH
    exact Nat.mul_le_mul_right _ (by omega)
  rw [cfg_zero n hn] at h2
  rw [cfg_head]
  unfold sing
  omega
set_option maxRecDepth 100000 in
set_option maxHeartbeats 4000000 in
theorem each70_any (n : Nat) (hn : n ≤ 12) (p1 p2 p3 : Nat) (W : World) (Inv Stop : Nat → World → Prop)
    (hV : ∀ k, k < 2 ^ n → ∀ W1, Inv k W1 → Calls Try.prog 70 #[.int .u64 (cfg n k : Nat), .pointer (some ⟨p1, 0, none⟩), .pointer (some ⟨p2, 0, none⟩), .pointer (some ⟨p3, 0, none⟩)] W1 fun e W2 => (e = .returned (.bool true) ∧ Inv (k + 1) W2) ∨ (e = .returned (.bool false) ∧ Stop k W2)) (h0 : Inv 0 W) :
    Calls Try.prog 59 #[.int .i64 (n : Nat), .func (.func 70) #[] #[.pointer (some ⟨p1, 0, none⟩), .pointer (some ⟨p2, 0, none⟩), .pointer (some ⟨p3, 0, none⟩)]] W fun e W' => (∃ v, e = .returned v) ∧ (Inv (2 ^ n) W' ∨ ∃ k, k < 2 ^ n ∧ Stop k W') := by
  have hb := sing_wrap (n := 12 - n) (by omega)
  have e1 : IntKind.i64.wrap ((12 : Int) - (n : Int)) = ((12 - n : Nat) : Int) := by rw [show (12 : Int) - (n : Int) = ((12 - n : Nat) : Int) by omega]; exact IntWalk.i64_in _ (by omega)
  have e2 : (12 : Int) - (n : Int) = ((12 - n : Nat) : Int) := by omega
  have i0 : ¬ ((12 - n : Nat) : Int) < 0 := by omega
  have HC := Lib.hid (fun k (hk : k < 2 ^ n) => cfg_step n k hn hk)
  have H0 := Lib.hid (cfg_zero n hn)
  have HE := Lib.hid (cfg_end n hn)
  obtain ⟨m, hm⟩ : ∃ m, 12 - n = m := ⟨_, rfl⟩
  obtain ⟨N, hN⟩ : ∃ N, 2 ^ n = N := ⟨_, rfl⟩
  rw [hm] at hb e1 e2 i0 HC
  rw [hN] at HC HE hV
  rw [hN]
  have hmn : m < 64 := by omega
  have HV := Lib.hid hV
  have J0 := Lib.hid h0
  obtain ⟨st, hst⟩ : ∃ st, sing m = st := ⟨_, rfl⟩
  rw [hst] at hb HC
  clear hV h0 hm hN hst
  go_enter Try.func59, Try.ntmps59
  go_wp2_with fail
  try rw [hb]
  go_loopw [5] (fun c wr => ∃ k : Nat, c = .int .u64 (cfgH n k : Nat) ∧ k ≤ N ∧ Inv k wr) (fun c _ => (intOf c).toNat)
  case atStart => exact ⟨0, by rw [H0.out]; rfl, Nat.zero_le _, J0.out⟩
  case round =>
    obtain ⟨k, rfl, hk, hi⟩ := hrel
    have Hi := Lib.hid hi
    clear hi
    by_cases hlt : k < N
    · obtain ⟨hpos, hsub, hlt2, hc64⟩ := HC.out k hlt
      have HVk := HV.out k hlt wr Hi.out
      have Hk := Lib.hid hlt
      obtain ⟨c0, hc0⟩ : ∃ c0, cfgH n k = c0 := ⟨_, rfl⟩
      obtain ⟨c1, hc1⟩ : ∃ c1, cfgH n (k + 1) = c1 := ⟨_, rfl⟩
      rw [hc0] at hpos hsub hlt2 hc64 ⊢
      rw [hc1] at hlt2
      have hcc : cfg n k = c1 := by rw [← hc1]; exact cfg_head n k
      rw [hcc] at HVk hsub
      have t0 : decide ((0 : Int) < (c0 : Int)) = true := decide_eq_true (by omega)
      have e3 : (c0 : Int) - (st : Int) = (c1 : Int) := by omega
      have e4 : IntKind.u64.wrap ((c1 : Nat) : Int) = ((c1 : Nat) : Int) := by rw [IntKind.wrap_u64]; omega
      have HVk := Lib.hid HVk
      have Hc1 := Lib.hid hc1
      have Hl := Lib.hid hlt2
      clear hc0 hc1 hcc hpos hsub hc64 hlt hk
      go_wp2_with fail
      refine HVk.out.mono ?_
      rintro e w1 (⟨rfl, hi⟩ | ⟨rfl, hs⟩)
      · go_wp2_with fail
        go_roundw
        case rel => exact ⟨k + 1, by rw [Hc1.out], Hk.out, hi⟩
        case measure => simp [intOf]; have := Hl.out; omega
      · go_wp2_with fail
        refine bodyPost_ret (results_none rfl _ _ _) rfl ?_
        exact ⟨⟨_, rfl⟩, .inr ⟨k, Hk.out, hs⟩⟩
    · have hkN : k = N := by omega
      subst hkN
      have hz := HE.out
      rw [hz]
      go_wp2_with fail
      go_end0
      exact ⟨⟨_, rfl⟩, .inl Hi.out⟩
end Go.Proofs.Ytmfmpkihmadjmaa
