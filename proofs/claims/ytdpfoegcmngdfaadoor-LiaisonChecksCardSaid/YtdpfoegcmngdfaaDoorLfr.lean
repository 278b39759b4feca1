/- What the rows of the liaison give the walks: the two tables. And the world of the witnesses. -/
import Derived.Test.YtdpfoegcmngdfaaDoorCards
import Derived.Test.YtdpfoegcmngdfaaDoorTie
import Derived.Test.YtdpfoegcmngdfaaDoorLb
import Derived.ProofKit
import Derived.OpenShut
import Derived.Deep.DeepHandedRow
import Derived.Lib.SmallJoins
import Derived.Lib.LaidTab
import Derived.Stop.LaidErr
namespace Go.Proofs.YtdpfoegcmngdfaaDoor
open Go.ChangeShapes Go.WideShapes Go.ChangeAt Go.RowKit

theorem own : ownKnob Tryd.prog.godebug = none := by kernel_rfl
theorem g64 : Tryd.prog.globalNamed "math/bits.deBruijn64tab" = some 1 := by kernel_rfl
theorem g64Type : (Tryd.prog.globals[1]?).map (·.type) = some 127 := by kernel_rfl
theorem cells64 : Tryd.prog.cellsOf 127 = 64 := by kernel_rfl
theorem cellsU8 : Tryd.prog.cellsOf 5 = 1 := by kernel_rfl
abbrev list : List (String × DataW Unit) := [("math/bits.deBruijn32tab", Rows.laid_math_bits_deBruijn32tab), ("math/bits.deBruijn64tab", Rows.laid_math_bits_deBruijn64tab)]
theorem data64 : (Rows.laid_math_bits_deBruijn64tab : DataW Unit) = Lib.tabData .u8 (Lib.deBruijn64tab.map Int.ofNat) := by kernel_rfl

theorem good {W : World} (h : laidMet Tryd.prog list W) : Good W := by
  have h1 := laidMet.tail h
  rw [data64] at h1
  have t1 := Lib.tabIs_of_head g64 g64Type Tryd.underlying127 Tryd.underlying5 cellsU8 cells64 h1
  refine fun j hj => ?_
  have := t1.cell g64 j (by simpa using hj)
  show W.cell? ⟨1, j, none⟩ = _
  rw [this]
  congr 2
  simp [List.getD, hj]
/-- A block's cells, written over. -/
def Frame.setBlk (w : World) (g : Nat) (cs : Array Value) : World :=
  { w with heap := w.heap.modify g fun
      | .cells _ t frozen => .cells cs t frozen
      | o => o }
/-- A world for the witnesses: the settled one, the tables holding what their initialisers lay. -/
noncomputable def Frame.laidWorld (os : Os) : World :=
  Frame.setBlk (Frame.setBlk (World.holding Tryd.prog os ⟨#[], #[], []⟩) 0 (Lib.deBruijn32tab.map fun n => Value.int .u8 (Int.ofNat n)).toArray) 1 (Lib.deBruijn64tab.map fun n => Value.int .u8 (Int.ofNat n)).toArray
theorem laidOut : laidOutB Tryd.prog = true := by kernel_rfl
end Go.Proofs.YtdpfoegcmngdfaaDoor
