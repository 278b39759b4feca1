/- More contracts of package integer on small ints. -/
import Derived.Test.YtegndbiglehacaaDoorInt1
namespace Go.Proofs.YtegndbiglehacaaDoor
open Go.RowKit

set_option maxHeartbeats 1000000 in
theorem divmod_known (w : World) :
    Calls Tryd.prog 38 #[small (-7), small 2] w fun e w' => e = .returned (.tuple #[small (-4), small 1, .int .i64 0]) ∧ Below w.heap.size w w' := by
  go_enter Tryd.func38, Tryd.ntmps38
  go_wp2_with fail
  refine (sign_any 2 _).mono ?_
  rintro e w1 ⟨rfl, hb⟩
  simp only [show sgn 2 = 1 from by decide]
  obtain ⟨hc, hf⟩ := bcell hb
  have hz : w.heap.size + 4 ≤ w1.heap.size := by have := hb.size; simp at this; omega
  go_wp2_with fail
  go_quiet (fail)
  go_wp2
  go_quiet (fail)
  go_wp2
  refine bodyPost_ret (v := .tuple #[small (-4), small 1, .int .i64 0]) ?_ rfl ⟨rfl, ?_⟩
  · simp [results, Tryd.results38, go_sem, hc]
  · refine Below.setCell (Below.setCell (Below.setCell (Below.setCell (below_drewN ?_ _) (by first | exact Nat.le_refl _ | (simp <;> omega)) _) (by first | exact Nat.le_refl _ | (simp <;> omega)) _) (by first | exact Nat.le_refl _ | (simp <;> omega)) _) (by first | exact Nat.le_refl _ | (simp <;> omega)) _
    refine Below.trans ?_ (hb.mono (by first | exact Nat.le_refl _ | (simp <;> omega)))
    repeat (first | exact Below.refl _ _ | refine Below.alloc ?_ (by first | exact Nat.le_refl _ | (simp <;> omega)) _)
end Go.Proofs.YtegndbiglehacaaDoor
