/- The text of an integer. -/
import Derived.Test.YtegndbiglehacaaDoorSigned
import Derived.Test.YtegndbiglehacaaDoorWrite2
namespace Go.Proofs.YtegndbiglehacaaDoor
open Go.RowKit

theorem textOf_pos (neg : Bool) {v : Nat} (h : 0 < v) : textOf neg (digN v) = strOfNums ((if neg then [45] else []) ++ (sig (digN v)).reverse) := by
  unfold textOf
  have hl := digN_pos_len h
  rw [trimTo_full _ (digN_last _), if_neg (by omega), List.take_length]
  unfold outN sig
  simp [List.map_reverse]
theorem str_minus (l : List Int) : (⟨#[45]⟩ : ByteArray) ++ strOfNums l = strOfNums ([45] ++ l) := by
  apply ByteArray.ext
  rw [ByteArray.data_append]
  apply Array.toList_inj.mp
  simp [strOfNums]

set_option maxRecDepth 100000 in
set_option maxHeartbeats 8000000 in
theorem textZ_any (v : Value) (z : Int) (w : World) {B : Nat} (h : IsInt B w v z) (ht : Tab w) :
    Calls Tryd.prog 17 #[v] w fun e w' => e = .returned (.string (textOf (decide (z < 0)) (digN z.natAbs))) ∧ Below w.heap.size w w' := by
  rcases h with ⟨hz, rfl⟩ | ⟨hz, p, A, n, c, xs, rfl, hp, _, _, c0, c1, hl, hc, hn, hw, htt, hval⟩
  · rw [textOf_digN]
    exact text_any z w hz ht
  · have hpos : 0 < z.natAbs := by unfold I64 at hz; omega
    have hb1 := (Below.refl w.heap.size w).alloc (Nat.le_refl _) (.cells #[.int .i64 0, .pointer (some ⟨p, 0, none⟩)] 25)
    have Hcall := Lib.hid (writeDigits_any A n c xs (w.alloc (.cells #[.int .i64 0, .pointer (some ⟨p, 0, none⟩)] 25)) (hl.grow _) hw (by rw [hval]; exact hpos) hn)
    rw [hval] at Hcall
    have Htx := Lib.hid (textOf_pos (decide (z < 0)) hpos)
    have hlen := hl.1
    simp [u64s] at hlen
    have hsz : (strOfNums (sig (digN z.natAbs)).reverse).size ≤ 20000 := by
      rw [strOfNums_size, List.length_reverse, sig, List.length_map]
      have h1 := natVal_lt hw
      rw [hval, hlen] at h1
      have h2 : base n ≤ (10 ^ 20) ^ n := Nat.pow_le_pow_left (by decide) n
      rw [← Nat.pow_mul] at h2
      have := digN_len (20 * n) z.natAbs (by omega)
      omega
    have C0 := Lib.hid c0
    have Hb1 := Lib.hid hb1
    clear hl hw htt hval hb1 hz hlen
    have Hsm := Lib.hid (str_minus (sig (digN z.natAbs)).reverse)
    obtain ⟨U, hU⟩ : ∃ U, strOfNums (sig (digN z.natAbs)).reverse = U := ⟨_, rfl⟩
    rw [hU] at hsz Hcall Hsm
    have HU := Lib.hid hU
    clear hU
    obtain ⟨T, hT⟩ : ∃ T, textOf (decide (z < 0)) (digN z.natAbs) = T := ⟨_, rfl⟩
    rw [hT] at Htx ⊢
    clear hT
    cases hneg : decide (z < 0)
    · rw [hneg] at c0 Htx C0
      go_enter Tryd.func17, Tryd.ntmps17
      go_wp2_with fail
      refine Hcall.out.mono ?_
      rintro e w2 ⟨rfl, hb⟩
      have e0 : w2.cell? ⟨p, 0, none⟩ = some (.bool false) := ((hb.cell (p := ⟨p, 0, none⟩) (by simp; omega)).trans (Hb1.out.cell (p := ⟨p, 0, none⟩) hp)).trans C0.out
      have e1 : w2.cell? ⟨w.heap.size, 0, none⟩ = some (.int .i64 0) := (hb.cell (p := ⟨w.heap.size, 0, none⟩) (by simp)).trans (by simp [go_sem])
      have e2 : w2.cell? ⟨w.heap.size, 1, none⟩ = some (.pointer (some ⟨p, 0, none⟩)) := (hb.cell (p := ⟨w.heap.size, 1, none⟩) (by simp)).trans (by simp [go_sem])
      have Hfin := Lib.hid (Hb1.out.trans (hb.mono (by simp)))
      clear hb
      go_wp2
      go_ret
      exact ⟨by rw [Htx.out, ← HU.out]; rfl, Hfin.out⟩
    · rw [hneg] at c0 Htx C0
      go_enter Tryd.func17, Tryd.ntmps17
      go_wp2_with fail
      refine Hcall.out.mono ?_
      rintro e w2 ⟨rfl, hb⟩
      have e0 : w2.cell? ⟨p, 0, none⟩ = some (.bool true) := ((hb.cell (p := ⟨p, 0, none⟩) (by simp; omega)).trans (Hb1.out.cell (p := ⟨p, 0, none⟩) hp)).trans C0.out
      have e1 : w2.cell? ⟨w.heap.size, 0, none⟩ = some (.int .i64 0) := (hb.cell (p := ⟨w.heap.size, 0, none⟩) (by simp)).trans (by simp [go_sem])
      have e2 : w2.cell? ⟨w.heap.size, 1, none⟩ = some (.pointer (some ⟨p, 0, none⟩)) := (hb.cell (p := ⟨w.heap.size, 1, none⟩) (by simp)).trans (by simp [go_sem])
      have Hfin := Lib.hid (Hb1.out.trans (hb.mono (by simp)))
      clear hb
      go_wp2
      go_ret
      exact ⟨by rw [Htx.out, if_pos trivial, ← Hsm.out]; rfl, Hfin.out⟩
end Go.Proofs.YtegndbiglehacaaDoor
