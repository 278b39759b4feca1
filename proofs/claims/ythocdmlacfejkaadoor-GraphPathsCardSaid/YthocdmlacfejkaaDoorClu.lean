/- What each node reaches. -/
import Derived.Test.YthocdmlacfejkaaDoorRch
import Derived.Test.YthocdmlacfejkaaDoorCmp
namespace Go.Proofs.YthocdmlacfejkaaDoor
open Go.RowKit
def numsU (n : Nat) (f : Nat → Nat) : List Value := (List.range n).map fun i => Value.int .u64 (f i : Nat)
theorem numsU_len (n : Nat) (f : Nat → Nat) : (numsU n f).length = n := by unfold numsU; simp
theorem numsU_at {n : Nat} (f : Nat → Nat) {i : Nat} (h : i < n) : (numsU n f)[i]? = some (.int .u64 (f i : Nat)) := by unfold numsU; simp [h]
theorem numsU_up {n k : Nat} (f : Nat → Nat) : (numsU n fun j => if j < k then f j else 0).set k (.int .u64 (f k : Nat)) = numsU n fun j => if j < k + 1 then f j else 0 := by
  apply List.ext_getElem?
  intro i
  rw [List.getElem?_set]
  by_cases hi : i < n
  · rw [numsU_at _ hi, numsU_at _ hi, numsU_len]
    by_cases hk : k = i
    · subst hk; simp [hi]
    · rw [if_neg hk]
      by_cases h1 : i < k
      · rw [if_pos h1, if_pos (by omega)]
      · rw [if_neg h1, if_neg (by omega)]
  · rw [List.getElem?_eq_none (l := numsU n fun j => if j < k + 1 then f j else 0) (by rw [numsU_len]; omega), List.getElem?_eq_none (l := numsU n fun j => if j < k then f j else 0) (by rw [numsU_len]; omega), numsU_len]
    split
    · rw [if_neg (by omega)]
    · rfl
theorem made_sets {w w1 : World} {n : Nat} (hown : w1.ownsRow w.heap.size 98 1 (.slice (some ⟨w.heap.size, 0, none⟩) n n) n (madeCells #[.int .u64 0] n).toList) : Cells w1 w.heap.size (numsU n fun _ => 0) := by
  rcases hown.2 with ⟨h1, _⟩ | ⟨g', cap, cur, h1, hg, hh, hnc, hcm, hcs, hx⟩
  · cases h1
  · injection h1 with h1 _ h3
    injection h1 with h1
    injection h1 with h1
    subst h1 h3
    rw [List.take_of_length_le (by rw [Array.length_toList, hcs]; exact Nat.le_refl _)] at hx
    have e : cur.toList = numsU n fun _ => 0 := by
      rw [hx]
      apply List.ext_getElem?
      intro i
      by_cases hi : i < n
      · rw [numsU_at _ hi]
        simp [madeCells, hi, Nat.mod_one]
      · rw [List.getElem?_eq_none (by simp [madeCells]; omega), List.getElem?_eq_none (by rw [numsU_len]; omega)]
    rw [← e]
    exact Cells.of_row hh
def closM (es : List (Nat × Nat)) (n : Nat) : List Nat := (List.range n).map fun i => lev (adj es) (sing i) 64
set_option maxRecDepth 100000 in
set_option maxHeartbeats 8000000 in
theorem closure_any (n : Nat) (A : Option Addr) (m c : Nat) (es : List (Nat × Nat)) (w : World) (h : EL w A m (cast es)) (hl : Low 64 es) (hm : m ≤ 4096) (hn : n ≤ 64) (hw : Good w) :
    Calls Tryd.prog 80 #[gV n A m c] w fun e w' => ∃ A', e = .returned (.slice A' n n) ∧ UL w.heap.size w' A' (closM es n) ∧ Below w.heap.size w w' := by
  obtain ⟨i0, hi, hz0, hz1, hz2⟩ := info_parts info_set
  have HL : ∀ i, Under 64 (adj es i) := fun i => adj_under hl i
  have kv := (Below.refl w.heap.size w).alloc (Nat.le_refl _) (.cells #[.int .i64 (n : Nat), .slice A m c] 26)
  have G0 := Lib.hid (Cells.new w #[.int .i64 (n : Nat), .slice A m c] 26)
  have HN := Lib.hid (next_any n A m c es _ (h.keep kv) hl hm)
  have HG := Lib.hid (fun w' (hb' : Below w.heap.size w w') => hw.below hb' hw.size)
  have HL := Lib.hid HL
  have kv := Lib.hid kv
  clear h hl hw
  go_enter Tryd.func80, Tryd.ntmps80
  go_wp2_with fail
  refine HN.out.mono ?_
  rintro e w1 ⟨p, rfl, hp, hps, hb1⟩
  have G1 := Lib.hid (G0.out.keep hb1)
  have B1 := Lib.hid (below_on kv.out hb1)
  have P1 := Lib.hid hp
  have g0 := G1.out.at_ 0
  simp only [List.getElem?_cons_zero] at g0
  have hsz := B1.out.size
  clear hp hps hb1
  go_wp2_with (at_make; refine wpList_make_full _ rfl _ _ 103 rfl w1.heap.size 98 i0 (.int .u64 0) 1 Tryd.underlying103 hi hz0 hz1 _ _ _ _ n rfl rfl rfl rfl (by rw [hz2]; omega) (by unfold maxLen; omega) (Nat.le_refl _) ?_)
  intro w2 hown hgr
  have I2 := Lib.hid (made_sets hown)
  have b2 := (Below.refl w1.heap.size w1).grown hgr (Nat.le_refl _) (by simp)
  have P2 := Lib.hid (P1.out.keep b2)
  have B2 := Lib.hid (below_on B1.out b2)
  have hpl := P1.out.lt
  clear hown hgr b2 g0
  go_wp2_with fail
  go_loopw [13] (fun i wr => ∃ k : Nat, i = .int .i64 (k : Nat) ∧ k ≤ n ∧ Cells wr w1.heap.size (numsU n fun j => if j < k then lev (adj es) (sing j) 64 else 0) ∧ Cells wr p (sets (adj es)) ∧ Below w.heap.size w wr) (fun i _ => n - (intOf i).toNat)
  case atStart => exact ⟨0, rfl, Nat.zero_le _, by simpa using I2.out, P2.out, B2.out⟩
  case round =>
    obtain ⟨k, rfl, hk, hc, hpp, hb⟩ := hrel
    have C6 := Lib.hid hc
    have P6 := Lib.hid hpp
    have B6 := Lib.hid hb
    clear hc hpp hb
    obtain ⟨wa, rfl⟩ : ∃ wa : World, wa = wr := ⟨_, rfl⟩
    by_cases hlt : k < n
    · have Hlt := Lib.hid hlt
      have hk64 : k < 64 := by omega
      have Hsg := Lib.hid (single_any k wa hk64)
      have HR := Lib.hid (reach_any p (adj es) (sing k) wa P6.out HL.out (sing_lt hk64) (HG.out _ B6.out))
      go_wp2_with fail
      refine Hsg.out.mono ?_
      rintro e w3 ⟨rfl, rfl⟩
      go_wp2_with fail
      refine HR.out.mono ?_
      rintro e w4 ⟨rfl, hb4⟩
      have C4 := Lib.hid (C6.out.keep hb4)
      have P4 := Lib.hid (P6.out.keep hb4)
      have B4 := Lib.hid (below_on B6.out hb4)
      have z0 := (C4.out.at_ k).trans (numsU_at _ Hlt.out)
      have f0 := C4.out.fz k
      have C5 := Lib.hid (C4.out.set k (.int .u64 (lev (adj es) (sing k) 64 : Nat)) (by rw [numsU_len]; exact Hlt.out))
      rw [numsU_up] at C5
      have P5 := Lib.hid (P4.out.other (q := w1.heap.size) (by omega) k (.int .u64 (lev (adj es) (sing k) 64 : Nat)))
      have B5 := Lib.hid (B4.out.setCell (p := ⟨w1.heap.size, k, none⟩) (by simpa using hsz) (.int .u64 (lev (adj es) (sing k) 64 : Nat)))
      clear hb4
      go_wp2_with fail
      go_roundw
      case rel => exact ⟨k + 1, by go_num, Hlt.out, C5.out, P5.out, B5.out⟩
      case measure => simp [intOf]; have := Hlt.out; omega
    · have hkn : k = n := by omega
      subst hkn
      have hU : UL w.heap.size wa (some ⟨w1.heap.size, 0, none⟩) (closM es k) := fun j x hj => by
        have hjk : j < k := by
          rcases Nat.lt_or_ge j k with h1 | h1
          · exact h1
          · rw [List.getElem?_eq_none (by simpa [closM] using h1)] at hj; cases hj
        refine ⟨_, 0, rfl, hsz, C6.out.lt, ?_⟩
        rw [C6.out.at_, Nat.zero_add, numsU_at _ hjk]
        simp [closM, hjk] at hj
        simp [hjk, hj]
      have HU := Lib.hid hU
      clear hU
      go_wp2_with fail
      go_ret
      exact ⟨_, rfl, HU.out, B6.out⟩
end Go.Proofs.YthocdmlacfejkaaDoor
