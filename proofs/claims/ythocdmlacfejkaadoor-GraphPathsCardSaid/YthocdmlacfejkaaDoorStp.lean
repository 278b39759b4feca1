/- What a set leads to, and what it reaches. -/
import Derived.Test.YthocdmlacfejkaaDoorLnk
namespace Go.Proofs.YthocdmlacfejkaaDoor
open Go.RowKit
/-- A slice of nodes; its cells lie at block B or above. -/
def NL (B : Nat) (w : World) (A : Option Addr) (l : List Nat) : Prop :=
  ∀ k n, l[k]? = some n → ∃ b o, A = some ⟨b, o, none⟩ ∧ B ≤ b ∧ b < w.heap.size ∧ w.cell? ⟨b, o + k, none⟩ = some (.int .i64 (n : Nat))
theorem NL.keep {B : Nat} {w w' : World} {A : Option Addr} {l : List Nat} (h : NL B w A l) (hb : Below w.heap.size w w') : NL B w' A l :=
  fun k n hk => let ⟨b, o, e1, h1, hlt, hc⟩ := h k n hk; ⟨b, o, e1, h1, Nat.lt_of_lt_of_le hlt hb.size, (hb.cell (p := ⟨b, o + k, none⟩) hlt).trans hc⟩
theorem NL.down {B C : Nat} {w : World} {A : Option Addr} {l : List Nat} (h : NL B w A l) (hc : C ≤ B) : NL C w A l :=
  fun k n hk => let ⟨b, o, e1, h1, h2⟩ := h k n hk; ⟨b, o, e1, Nat.le_trans hc h1, h2⟩
theorem own_nats {w : World} {base : Nat} {v : Value} {l : List Nat} (h : w.ownsRow base 3 1 v l.length (nats l)) : ∃ A c, v = .slice A l.length c ∧ NL base w A l ∧ c ≤ maxLen ∧ l.length ≤ c := by
  rcases h.2 with ⟨rfl, h0⟩ | ⟨g, cap, cur, rfl, hg, hh, hnc, hcm, hcs, hx⟩
  · have hl : l = [] := List.eq_nil_of_length_eq_zero h0
    subst hl
    exact ⟨none, 0, rfl, fun k n hk => by simp at hk, by unfold maxLen; omega, Nat.le_refl _⟩
  · refine ⟨_, cap, rfl, fun k n hk => ⟨g, 0, rfl, hg, ?_, ?_⟩, hcm, hnc⟩
    · rcases Nat.lt_or_ge g w.heap.size with h1 | h1
      · exact h1
      · rw [Array.getElem?_eq_none h1] at hh; cases hh
    · rw [cell_of_row _ _ _ _ _ _ hh, Nat.zero_add]
      have hk2 : k < l.length := by
        rcases Nat.lt_or_ge k l.length with h1 | h1
        · exact h1
        · rw [List.getElem?_eq_none h1] at hk; cases hk
      have e1 : (cur.toList.take (l.length * 1))[k]? = cur.toList[k]? := List.getElem?_take_of_lt (by omega)
      have e : cur.toList[k]? = some (.int .i64 (n : Nat)) := by
        rw [← e1, hx]
        unfold nats
        rw [List.getElem?_map, hk]
        rfl
      simpa using e
theorem NL.at_ {B : Nat} {w : World} {A : Option Addr} {l : List Nat} (h : NL B w A l) {k : Nat} (hk : k < l.length) : ∃ n b o, l[k]? = some n ∧ A = some ⟨b, o, none⟩ ∧ B ≤ b ∧ b < w.heap.size ∧ w.cell? ⟨b, o + k, none⟩ = some (.int .i64 (n : Nat)) := by
  obtain ⟨b, o, e, hb, hc⟩ := h k l[k] (List.getElem?_eq_getElem hk)
  exact ⟨_, b, o, List.getElem?_eq_getElem hk, e, hb, hc⟩
def orTo (L : Nat → Nat) (l : List Nat) (k : Nat) : Nat := (l.take k).foldl (fun t n => t ||| L n) 0
theorem orTo_up {L : Nat → Nat} {l : List Nat} {k n : Nat} (h : l[k]? = some n) : orTo L l (k + 1) = orTo L l k ||| L n := by
  unfold orTo; rw [List.take_add_one, h]; simp
theorem orTo_lt {L : Nat → Nat} (h : ∀ i, Under 64 (L i)) (l : List Nat) (k : Nat) : orTo L l k < 18446744073709551616 := by
  refine under_lt (k := 64) fun v hv => ?_
  unfold orTo at hv
  rw [or_fold] at hv
  rcases hv with hv | ⟨n, _, hv⟩
  · simp at hv
  · exact h n v hv
theorem orTo_end (L : Nat → Nat) (s k : Nat) (h : (bitsOf s).length ≤ k) : orTo L (bitsOf s) k = stepM L s := by
  unfold orTo stepM; rw [List.take_of_length_le h]
set_option maxRecDepth 100000 in
set_option maxHeartbeats 2000000 in
theorem step_any (p : Nat) (L : Nat → Nat) (s : Nat) (w : World) (hc : Cells w p (sets L)) (hL : ∀ i, Under 64 (L i)) (hs : s < 18446744073709551616) (hw : Good w) :
    Calls Tryd.prog 116 #[.pointer (some ⟨p, 0, none⟩), .int .u64 s] w fun e w' => e = .returned (.int .u64 (stepM L s : Nat)) ∧ Below w.heap.size w w' := by
  have Hc := Lib.hid hc
  have HL := Lib.hid hL
  have hb0 := bitsOf_len s
  have Hl := list_any s w hs hw
  have Hm := Lib.hid (fun i n (hi : (bitsOf s)[i]? = some n) => (mem_bitsOf.1 (List.mem_of_getElem? hi)).1)
  have He := Lib.hid (orTo_end L s)
  obtain ⟨l, hl⟩ : ∃ l, bitsOf s = l := ⟨_, rfl⟩
  rw [hl] at Hm He hb0 Hl
  have Hl := Lib.hid Hl
  clear hc hL hw hl
  go_enter Tryd.func116, Tryd.ntmps116
  go_wp2_with fail
  refine Hl.out.mono ?_
  rintro e w1 ⟨v, rfl, hown, hb⟩
  obtain ⟨A, c, rfl, hn, hc1, hc2⟩ := own_nats hown
  have Hn := Lib.hid hn
  have Hb := Lib.hid hb
  clear hown hn hb
  go_wp2_with fail
  go_loop [11, 5] (fun i t => ∃ k : Nat, k ≤ l.length ∧ i = .int .i64 (k : Nat) ∧ t = .int .u64 (orTo L l k : Nat)) (fun i _ => l.length - (intOf i).toNat)
  case atStart => exact ⟨0, Nat.zero_le _, rfl, rfl⟩
  case round =>
    obtain ⟨k, hk, rfl, rfl⟩ := hrel
    by_cases hlt : k < l.length
    · obtain ⟨n, b, o, hkn, rfl, hB, hbl, hcell⟩ := Hn.out.at_ hlt
      have hn64 := Hm.out _ _ hkn
      have hni : (n : Int) < 64 := by omega
      have l0 : w1.cell? ⟨p, n, none⟩ = some (.int .u64 (L n : Nat)) := (Hb.out.cell (p := ⟨p, n, none⟩) Hc.out.lt).trans ((Hc.out.at_ n).trans (sets_at _ hn64))
      have e1 : bits .or .u64 ((orTo L l k : Nat) : Int) ((L n : Nat) : Int) = ((orTo L l k ||| L n : Nat) : Int) := bits_or_u64_nat _ _ (orTo_lt HL.out l k) (under_lt (HL.out n))
      have Hup := Lib.hid (orTo_up (L := L) hkn)
      clear hkn
      go_wp2
      go_round
      case rel => exact ⟨k + 1, by omega, by go_num, by rw [Hup.out]⟩
      case measure => simp [intOf]; omega
    · have hf := Lib.hid (He.out k (by omega))
      go_wp2
      go_ret
      exact ⟨ret_int (congrArg _ hf.out), Hb.out⟩
/-- What is new at level k. -/
def fr (L : Nat → Nat) (s k : Nat) : Nat := if k = 0 then s else diff (lev L s k) (lev L s (k - 1))
theorem fr_bit {L : Nat → Nat} {s k v : Nat} : (fr L s k).testBit v = true ↔ (lev L s k).testBit v = true ∧ ∀ j, j < k → (lev L s j).testBit v = false := by
  unfold fr
  by_cases h : k = 0
  · subst h
    rw [if_pos rfl]
    exact ⟨fun h => ⟨h, fun j hj => absurd hj (Nat.not_lt_zero _)⟩, fun h => h.1⟩
  · rw [if_neg h, diff_bit, Bool.and_eq_true, Bool.not_eq_true']
    refine ⟨fun ⟨h1, h2⟩ => ⟨h1, fun j hj => ?_⟩, fun ⟨h1, h2⟩ => ⟨h1, h2 _ (by omega)⟩⟩
    cases h3 : (lev L s j).testBit v with
    | false => rfl
    | true => rw [lev_up (show j ≤ k - 1 by omega) v h3] at h2; cases h2
theorem fr_step (L : Nat → Nat) (s k : Nat) : diff (stepM L (fr L s k)) (lev L s k) = fr L s (k + 1) := by
  apply Nat.eq_of_testBit_eq
  intro v
  rw [Bool.eq_iff_iff, diff_bit, Bool.and_eq_true, Bool.not_eq_true', step_bit, fr_bit]
  constructor
  · rintro ⟨⟨n, hn, h1, h2⟩, h3⟩
    refine ⟨?_, fun j hj => ?_⟩
    · rw [lev, Nat.testBit_or, Bool.or_eq_true, step_bit]
      exact .inr ⟨n, hn, (fr_bit.1 h1).1, h2⟩
    · cases h4 : (lev L s j).testBit v with
      | false => rfl
      | true => rw [lev_up (show j ≤ k by omega) v h4] at h3; cases h3
  · rintro ⟨h1, h2⟩
    have h3 := h2 k (Nat.lt_succ_self k)
    refine ⟨?_, h3⟩
    rw [lev, Nat.testBit_or, Bool.or_eq_true, h3] at h1
    rcases h1 with h1 | h1
    · cases h1
    · obtain ⟨n, hn, h4, h5⟩ := step_bit.1 h1
      refine ⟨n, hn, fr_bit.2 ⟨h4, fun j hj => ?_⟩, h5⟩
      cases h6 : (lev L s j).testBit n with
      | false => rfl
      | true =>
        have : (lev L s (j + 1)).testBit v = true := by
          rw [lev, Nat.testBit_or, Bool.or_eq_true, step_bit]
          exact .inr ⟨n, hn, h6, h5⟩
        rw [h2 (j + 1) (by omega)] at this
        cases this
theorem fr_or (L : Nat → Nat) (s k : Nat) : lev L s k ||| fr L s (k + 1) = lev L s (k + 1) := by
  rw [← fr_step]
  apply Nat.eq_of_testBit_eq
  intro v
  rw [Nat.testBit_or, fr_step]
  rw [Bool.eq_iff_iff, Bool.or_eq_true, fr_bit]
  constructor
  · rintro (h | h)
    · exact lev_up (Nat.le_succ k) v h
    · exact h.1
  · intro h
    cases h1 : (lev L s k).testBit v with
    | true => exact .inl rfl
    | false => exact .inr ⟨h, fun j hj => by
        cases h4 : (lev L s j).testBit v with
        | false => rfl
        | true => rw [lev_up (show j ≤ k by omega) v h4] at h1; cases h1⟩
theorem lev_le (L : Nat → Nat) (s k : Nat) : lev L s k ≤ lev L s (k + 1) := by
  rw [← fr_or]; exact Nat.left_le_or
theorem fr_same {L : Nat → Nat} {s k : Nat} (h : lev L s (k + 1) = lev L s k) : fr L s (k + 1) = 0 := by
  apply Nat.eq_of_testBit_eq
  intro v
  rw [Nat.zero_testBit]
  cases h1 : (fr L s (k + 1)).testBit v with
  | false => rfl
  | true =>
    obtain ⟨h2, h3⟩ := fr_bit.1 h1
    rw [h, h3 k (Nat.lt_succ_self k)] at h2
    cases h2
theorem fr_end {L : Nat → Nat} {s k : Nat} (hL : ∀ i, Under 64 (L i)) (hs : Under 64 s) (h : fr L s k = 0) : lev L s k = lev L s 64 := by
  have h1 : lev L s (k + 1) = lev L s k := by
    rw [← fr_or, ← fr_step, h]
    have e : stepM L 0 = 0 := by unfold stepM; rw [bitsOf_zero]; rfl
    rw [e]
    apply Nat.eq_of_testBit_eq
    intro v
    rw [Nat.testBit_or, diff_bit]
    simp
  rcases Nat.le_total k 64 with h2 | h2
  · exact (lev_stay h1 64 h2).symm
  · exact lev_full hL hs k h2
def m01 (x : Nat) : Nat := if x = 0 then 0 else 1
theorem meas_up {a b x y : Nat} (h : a ≤ b) (hb : b < 18446744073709551616) (hx : x ≠ 0) (hy : b = a → y = 0) : 2 * (18446744073709551616 - b) + m01 y < 2 * (18446744073709551616 - a) + m01 x := by
  unfold m01
  rw [if_neg hx]
  by_cases h1 : b = a
  · rw [if_pos (hy h1)]; omega
  · split <;> omega
set_option maxRecDepth 100000 in
set_option maxHeartbeats 2000000 in
theorem reach_any (p : Nat) (L : Nat → Nat) (s : Nat) (w : World) (hc : Cells w p (sets L)) (hL : ∀ i, Under 64 (L i)) (hs : s < 18446744073709551616) (hw : Good w) :
    Calls Tryd.prog 89 #[.pointer (some ⟨p, 0, none⟩), .int .u64 s] w fun e w' => e = .returned (.int .u64 (lev L s 64 : Nat)) ∧ Below w.heap.size w w' := by
  have Hc := Lib.hid (fun w' (h : Below w.heap.size w w') => hc.keep h)
  have HW := Lib.hid (fun w' (h : Below w.heap.size w w') => hw.below h hw.size)
  have HL := Lib.hid hL
  have HU := Lib.hid (lt_under (k := 64) hs)
  clear hc hL hw
  go_enter Tryd.func89, Tryd.ntmps89
  go_wp2_with fail
  go_loopw [5, 1] (fun f t wr => ∃ k : Nat, t = .int .u64 (lev L s k : Nat) ∧ f = .int .u64 (fr L s k : Nat) ∧ Below w.heap.size w wr) (fun f t _ => 2 * (18446744073709551616 - (intOf t).toNat) + m01 (intOf f).toNat)
  case atStart => exact ⟨0, rfl, rfl, Below.refl _ _⟩
  case round =>
    obtain ⟨k, rfl, rfl, hb⟩ := hrel
    have Hb := Lib.hid hb
    have u0 := under_lt (lev_under HL.out HU.out k)
    have u1 := under_lt (lev_under HL.out HU.out (k + 1))
    have u2 : fr L s k < 18446744073709551616 := lt_under'.1 fun v hv => lev_under HL.out HU.out k v (fr_bit.1 hv).1
    have u3 : fr L s (k + 1) < 18446744073709551616 := lt_under'.1 fun v hv => lev_under HL.out HU.out (k + 1) v (fr_bit.1 hv).1
    clear hb
    by_cases h0 : fr L s k = 0
    · have hf := Lib.hid (fr_end HL.out HU.out h0)
      have t0 : ((fr L s k : Int) != 0) = false := by simp [h0]
      clear h0 u0 u1 u2 u3
      go_wp2_with fail
      go_ret
      exact ⟨ret_int (congrArg _ hf.out), Hb.out⟩
    · have t0 := u64_neq _ h0
      have H0 := Lib.hid (meas_up (lev_le L s k) u1 h0 (fun e => fr_same e))
      have e1 : bits .andNot .u64 ((stepM L (fr L s k) : Nat) : Int) ((lev L s k : Nat) : Int) = ((fr L s (k + 1) : Nat) : Int) := by
        rw [bits_diff _ _ (lt_under'.1 (step_under HL.out _)) u0, fr_step]
      have e2 : bits .or .u64 ((lev L s k : Nat) : Int) ((fr L s (k + 1) : Nat) : Int) = ((lev L s (k + 1) : Nat) : Int) := by
        rw [bits_or_u64_nat _ _ u0 u3, fr_or]
      have HS := Lib.hid (step_any p L (fr L s k) wr (Hc.out _ Hb.out) HL.out u2 (HW.out _ Hb.out))
      clear h0 u0 u1 u2 u3
      go_wp2_with fail
      refine HS.out.mono ?_
      rintro e w2 ⟨rfl, hb2⟩
      have Hb := Lib.hid (below_on Hb.out hb2)
      clear hb2
      go_wp2_with fail
      go_roundw
      case rel => exact ⟨k + 1, rfl, rfl, Hb.out⟩
      case measure => simpa [intOf] using H0.out
end Go.Proofs.YthocdmlacfejkaaDoor
