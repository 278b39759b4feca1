/- parts and Bits on small ints. -/
import Derived.Test.YtegndbiglehacaaDoorInt4
import Derived.Deep.RegionHeld3
import Derived.Deep.RegionWith
namespace Go.Proofs.YtegndbiglehacaaDoor
open Go.RowKit

def PartsPost (n : Int) (w : World) (e : Ending) (w' : World) : Prop :=
  ∃ b, e = .returned (.tuple #[.slice (some ⟨b, 0, none⟩) 1 1, .bool (decide (n < 0))]) ∧ w.heap.size ≤ b ∧ w'.cell? ⟨b, 0, none⟩ = some (.int .u64 n.natAbs) ∧ Below w.heap.size w w'

set_option maxHeartbeats 1000000 in
theorem parts_small (n : Int) (w : World) (hn : I64 n) (h0 : n ≠ 0) :
    Calls Tryd.prog 51 #[small n] w (PartsPost n w) := by
  have t0 : ((n : Int) == 0) = false := by rw [beq_eq_false_iff_ne]; exact h0
  clear h0
  go_enter Tryd.func51, Tryd.ntmps51
  go_wp2_with fail
  go_region_with (go_at_call 61; refine (magnitude_any _ _ hn).mono ?_; rintro e w' ⟨rfl, rfl⟩)
  all_goals
    go_wp2
    go_ret2
    exact ⟨w.heap.size + 1, rfl, by omega, by simp [go_sem], by repeat (first | exact Below.refl _ _ | refine Below.drew ?_ | refine Below.alloc ?_ (by first | exact Nat.le_refl _ | (simp <;> omega)) _)⟩

set_option maxHeartbeats 1000000 in
theorem bitsOf_one (b : Nat) (x l : Nat) (w : World) (hc : w.cell? ⟨b, 0, none⟩ = some (.int .u64 x)) (hx : x < 18446744073709551616) (hl' : Lib.bitLen x = l) (hl : l ≤ 64) (cap : Nat) :
    Calls Tryd.prog 53 #[.slice (some ⟨b, 0, none⟩) 1 cap] w fun e w' => e = .returned (.int .i64 l) ∧ w = w' := by
  have Hl := Lib.hid hl'
  clear hl'
  go_enter Tryd.func53, Tryd.ntmps53
  go_wp2_with fail
  refine (Tryd.bits_LeadingZeros64 _ _ (by omega) (by omega)).mono ?_
  simp only [Int.toNat_natCast]
  rw [Hl.out]
  rintro e w' ⟨rfl, rfl⟩
  go_wp2
  go_ret
  exact ⟨ret_i64 (by omega), rfl⟩

set_option maxHeartbeats 1000000 in
theorem bits_small (n : Int) (l : Nat) (w : World) (hn : I64 n) (h0 : n ≠ 0) (hl' : Lib.bitLen n.natAbs = l) (hl : l ≤ 64) :
    Calls Tryd.prog 25 #[small n] w fun e w' => e = .returned (.int .i64 l) ∧ Below w.heap.size w w' := by
  have Hl := Lib.hid hl'
  clear hl'
  go_enter Tryd.func25, Tryd.ntmps25
  go_wp2_with fail
  refine (parts_small n _ hn h0).mono ?_
  rintro e w1 ⟨b, rfl, hb, hc, hk⟩
  have hk' : Below w.heap.size w w1 := ((Below.refl _ _).alloc (Nat.le_refl _) _).trans (hk.mono (by simp))
  have Hk := Lib.hid hk'
  clear hk hk'
  go_wp2_with fail
  refine (bitsOf_one b _ l _ hc (abs_lt hn) Hl.out hl _).mono ?_
  rintro e w' ⟨rfl, rfl⟩
  go_wp2
  go_ret
  exact ⟨rfl, Hk.out⟩

theorem gTab : Tryd.prog.globalNamed "internal/strconv.uint64pow10" = some 3 := by kernel_rfl
theorem size_of_cell {w : World} {b o : Nat} {v : Value} (h : w.cell? ⟨b, o, none⟩ = some v) : b < w.heap.size := World.block_lt_of_cell? w ⟨b, o, none⟩ h

/-- What the statements need of a world: the two tables. -/
def Good (w : World) : Prop := Tab w ∧ TabTz w
theorem Good.size {w : World} (h : Good w) : 0 < w.heap.size := size_of_cell (h.2 0 (by decide))
theorem Good.below {w w' : World} (h : Good w) (hb : Below w.heap.size w w') : Good w' :=
  ⟨Go.Joins.tab_stays gTab h.1 hb (Nat.le_refl _), tz_below h.2 hb h.size⟩
end Go.Proofs.YtegndbiglehacaaDoor
