/- The reference: all sets of options. -/
import Derived.Test.YtmfmpkihmadjmaaVae
namespace Go.Proofs.Ytmfmpkihmadjmaa
open Go.RowKit Go.Shelf
theorem set_and : ∀ k : Nat, k < 64 → ∀ d : Nat, d < 6 → bits .and .i64 ((k : Int) / 2 ^ d) 1 = ((k / 2 ^ d % 2 : Nat) : Int) := by decide +kernel
theorem set_shl : ∀ b : Nat, b < 2 → ∀ i : Nat, i < 6 → IntKind.i64.wrap ((b : Int) * 2 ^ i) = ((b * 2 ^ i : Nat) : Int) := by decide +kernel
theorem set_or : ∀ i : Nat, i < 6 → ∀ s : Nat, s < 2 ^ i → ∀ b : Nat, b < 2 → bits .or .i64 (s : Int) ((b * 2 ^ i : Nat) : Int) = ((s + b * 2 ^ i : Nat) : Int) := by decide +kernel
theorem set_one : ∀ n : Nat, n < 7 → IntKind.i64.wrap (1 * 2 ^ n) = ((2 ^ n : Nat) : Int) ∧ IntKind.i64.wrap (2 ^ n) = ((2 ^ n : Nat) : Int) := by decide +kernel
/-- The first i options of set number k, of n options. -/
def setU (n k : Nat) : Nat → Nat
  | 0 => 0
  | i + 1 => setU n k i + k / 2 ^ (n - 1 - i) % 2 * 2 ^ i
theorem setU_lt (n k : Nat) : ∀ i, setU n k i < 2 ^ i
  | 0 => Nat.one_pos
  | i + 1 => by
    have h := setU_lt n k i
    have h2 : k / 2 ^ (n - 1 - i) % 2 ≤ 1 := by omega
    have h3 : k / 2 ^ (n - 1 - i) % 2 * 2 ^ i ≤ 1 * 2 ^ i := Nat.mul_le_mul_right _ h2
    rw [setU, Nat.pow_succ]
    omega
def setsU (n u : Nat) : List Nat := (List.range u).map fun v => setU n (2 ^ n - 1 - v) n
def setsN (n : Nat) : List Nat := setsU n (2 ^ n)
theorem setsU_succ (n u : Nat) : setsU n (u + 1) = setsU n u ++ [setU n (2 ^ n - 1 - u) n] := by unfold setsU; rw [List.range_succ, List.map_append]; rfl
theorem setsU_len (n u : Nat) : (setsU n u).length = u := by unfold setsU; simp
set_option maxRecDepth 100000 in
set_option maxHeartbeats 8000000 in
theorem sets_any (n : Nat) (w : World) (hn : 0 < n) (hn6 : n ≤ 6) :
    Calls Try.prog 18 #[.int .i64 (n : Nat)] w fun e w' => ∃ v, e = .returned v ∧ w'.ownsRow w.heap.size 3 1 v (2 ^ n) (natsV (setsN n)) ∧ Below w.heap.size w w' := by
  obtain ⟨N, hN⟩ : ∃ N, 2 ^ n = N := ⟨_, rfl⟩
  have hN64 : N ≤ 64 := by rw [← hN]; exact Nat.pow_le_pow_right (by decide) hn6
  have hN1 : 1 ≤ N := by rw [← hN]; exact Nat.one_le_two_pow
  have s1 := (set_one n (by omega)).1
  have s2 := (set_one n (by omega)).2
  rw [hN] at s1 s2
  have s3 : (n : Int) ≤ 64 := by omega
  have s4 : (0 : Int) ≤ (n : Int) := by omega
  have s5 : IntKind.i64.wrap ((N : Int) - 1) = (N : Int) - 1 := IntWalk.i64_in _ (by omega)
  obtain ⟨i0, hi, hz0, hz1, hz2⟩ := info_parts info_intV
  have HN := Lib.hid hN
  rw [hN]
  go_enter Try.func18, Try.ntmps18
  go_wp2_with fail
  go_loopw [3, 4, 5, 6] (fun v k _ _ wr => ∃ u : Nat, k = .int .i64 ((N : Int) - 1 - u) ∧ u ≤ N ∧ wr.ownsRow w.heap.size 3 1 v u (natsV (setsU n u)) ∧ Below w.heap.size w wr) (fun _ k _ _ _ => (intOf k + 1).toNat)
  case atStart => exact ⟨0, by go_num, Nat.zero_le _, World.ownsRow_nil _ _ _ _, Below.refl _ _⟩
  case round =>
    obtain ⟨u, rfl, hu, hown, hb⟩ := hrel
    have Ow := Lib.hid hown
    have B1 := Lib.hid hb
    clear hown hb
    by_cases hlt : u < N
    · obtain ⟨k, hk⟩ : ∃ k : Nat, N - 1 - u = k := ⟨_, rfl⟩
      have ek : (N : Int) - 1 - (u : Int) = (k : Int) := by omega
      have hk64 : k < 64 := by omega
      have HK := Lib.hid hk
      rw [ek]
      go_wp2_with fail
      go_loopw [5, 6] (fun s i wx => ∃ j : Nat, i = .int .i64 (j : Nat) ∧ j ≤ n ∧ s = .int .i64 (setU n k j : Nat) ∧ wr = wx) (fun _ i _ => n - (intOf i).toNat)
      case atStart => exact ⟨0, rfl, Nat.zero_le _, rfl, rfl⟩
      case round =>
        obtain ⟨j, rfl, hj, rfl, rfl⟩ := hrel
        by_cases hjn : j < n
        · obtain ⟨d, hd⟩ : ∃ d, n - 1 - j = d := ⟨_, rfl⟩
          have f1 : IntKind.i64.wrap ((n : Int) - 1) = (n : Int) - 1 := IntWalk.i64_in _ (by omega)
          have f2 : IntKind.i64.wrap ((n : Int) - 1 - (j : Int)) = (d : Int) := by rw [show (n : Int) - 1 - (j : Int) = (d : Int) by omega]; exact IntWalk.i64_in _ (by omega)
          have f3 : (d : Int) ≤ 64 := by omega
          have f4 : (0 : Int) ≤ (d : Int) := by omega
          have f5 : (j : Int) ≤ 64 := by omega
          have f6 : (0 : Int) ≤ (j : Int) := by omega
          have f7 := set_and k hk64 d (by omega)
          obtain ⟨b, hbb⟩ : ∃ b, k / 2 ^ d % 2 = b := ⟨_, rfl⟩
          have hb2 : b < 2 := by omega
          rw [hbb] at f7
          have f8 := set_shl b hb2 j (by omega)
          have f9 := set_or j (by omega) (setU n k j) (setU_lt n k j) b hb2
          obtain ⟨S, hS⟩ : ∃ S, setU n k j = S := ⟨_, rfl⟩
          obtain ⟨T, hT⟩ : ∃ T, b * 2 ^ j = T := ⟨_, rfl⟩
          have hnx : setU n k (j + 1) = S + T := by rw [setU, hS, hd, hbb, hT]
          rw [hS, hT] at f9
          rw [hT] at f8
          rw [hS]
          have HX := Lib.hid hnx
          have f10 : (j : Int) < (n : Int) := by omega
          clear hnx hS hT hbb hd
          go_wp2_with fail
          go_roundw
          case rel => exact ⟨j + 1, by go_num, by omega, by rw [HX.out]; simp, trivial⟩
          case measure => simp [intOf]; omega
        · have hjn : j = n := by omega
          subst hjn
          have f10 : ¬ ((j : Int) < (j : Int)) := by omega
          obtain ⟨S, hS⟩ : ∃ S, setU j k j = S := ⟨_, rfl⟩
          have HS := Lib.hid hS
          rw [hS]
          have g1 : IntKind.i64.wrap ((k : Int) - 1) = (k : Int) - 1 := IntWalk.i64_in _ (by omega)
          go_wp2_with (at_builtin; refine wpList_append_own _ rfl _ _ 51 rfl w.heap.size 3 i0 (.int .i64 0) 1 8 Try.underlying51 hi hz0 hz1 hz2 rfl (by decide) _ _ _ rfl (Ow.out.alloc _) ⟨wr.heap.size, 0, none⟩ 1 1 [.int .i64 (S : Nat)] rfl rfl ?c1 ?c2 ?c3 ?c4 ?c5 ?_)
          case c2 => rfl
          case c3 => unfold maxLen; omega
          case c4 => omega
          case c5 => have := B1.out.size; omega
          intro v' w3 hown' hgrow _
          have Ow3 := Lib.hid (show w3.ownsRow w.heap.size 3 1 v' (u + 1) (natsV (setsU j (u + 1))) by
            rw [setsU_succ, natsV_snoc, HN.out, HK.out, HS.out]
            exact hown')
          have B3 := Lib.hid ((B1.out.alloc B1.out.size (.cells #[.int .i64 (S : Nat)] 3)).grown hgrow (by simp; have := B1.out.size; omega) (fun k hk => own_ge Ow.out hk))
          clear hown' hgrow
          go_wp2
          go_roundw
          case rel => exact ⟨u + 1, by go_num, hlt, Ow3.out, B3.out⟩
          case measure => simp [intOf]
    · have hun : u = N := by omega
      subst hun
      have ek : (u : Int) - 1 - (u : Int) = -1 := by omega
      rw [ek]
      have HF := Lib.hid (show setsU n u = setsN n by unfold setsN; rw [HN.out])
      go_wp2_with fail
      go_ret
      exact ⟨_, rfl, by rw [← HF.out]; exact Ow.out, B1.out⟩
end Go.Proofs.Ytmfmpkihmadjmaa
