/- What the rows of layer 1 list gives the walks: the tables. And the worlds of the witnesses. -/
import Derived.Test.YtjcblcikipmojaaDoorCards
import Derived.Test.YtjcblcikipmojaaDoorTie
import Derived.Test.YtjcblcikipmojaaDoorInt5
import Derived.ProofKit
import Derived.OpenShut
import Derived.Deep.DeepHandedRow
import Derived.Lib.LaidTab
import Derived.Stop.LaidErr
namespace Go.Proofs.YtjcblcikipmojaaDoor
open Go.ChangeShapes Go.WideShapes Go.ChangeAt Go.RowKit

theorem own : ownKnob Tryd.prog.godebug = none := by kernel_rfl
theorem g32 : Tryd.prog.globalNamed "math/bits.deBruijn32tab" = some 4 := by kernel_rfl
theorem g64 : Tryd.prog.globalNamed "math/bits.deBruijn64tab" = some 0 := by kernel_rfl
theorem g64Type : (Tryd.prog.globals[0]?).map (·.type) = some 105 := by kernel_rfl
theorem g10Type : (Tryd.prog.globals[3]?).map (·.type) = some 123 := by kernel_rfl
theorem cells64 : Tryd.prog.cellsOf 105 = 64 := by kernel_rfl
theorem cells10 : Tryd.prog.cellsOf 123 = 20 := by kernel_rfl
theorem cellsU8 : Tryd.prog.cellsOf 5 = 1 := by kernel_rfl
theorem cellsU64 : Tryd.prog.cellsOf 50 = 1 := by kernel_rfl
abbrev list : List (String × DataW Unit) := [("math/bits.deBruijn32tab", Rows.laid_math_bits_deBruijn32tab), ("math/bits.deBruijn64tab", Rows.laid_math_bits_deBruijn64tab), ("internal/strconv.uint64pow10", Rows.laid_internal_strconv_uint64pow10)]
theorem data64 : (Rows.laid_math_bits_deBruijn64tab : DataW Unit) = Lib.tabData .u8 (Lib.deBruijn64tab.map Int.ofNat) := by kernel_rfl
theorem data10 : (Rows.laid_internal_strconv_uint64pow10 : DataW Unit) = Lib.tabData .u64 Lib.pow10Tab := by kernel_rfl

theorem good {W : World} (h : laidMet Tryd.prog list W) : Good W := by
  have h1 := laidMet.tail h
  have h2 := laidMet.tail h1
  rw [data64] at h1
  rw [data10] at h2
  have t1 := Lib.tabIs_of_head g64 g64Type Tryd.underlying105 Tryd.underlying5 cellsU8 cells64 h1
  have t2 := Lib.tabIs_of_head gTab g10Type Tryd.underlying123 Tryd.underlying50 cellsU64 cells10 h2
  refine ⟨t2, fun j hj => ?_⟩
  have := t1.cell g64 j (by simpa using hj)
  rw [show Tryd.lays7n29_ren.g 1 = 0 from rfl, this]
  congr 2
  simp [List.getD, hj]
/-- A block's cells, written over. -/
def Frame.setBlk (w : World) (g : Nat) (cs : Array Value) : World :=
  { w with heap := w.heap.modify g fun
      | .cells _ t frozen => .cells cs t frozen
      | o => o }
/-- A world for the witnesses: the settled one, the tables holding what their initialisers lay. -/
noncomputable def Frame.laidWorld (os : Os) : World :=
  Frame.setBlk (Frame.setBlk (Frame.setBlk (World.holding Tryd.prog os ⟨#[], #[], []⟩) 0 (Lib.deBruijn64tab.map fun n => Value.int .u8 (Int.ofNat n)).toArray)
    4 (Lib.deBruijn32tab.map fun n => Value.int .u8 (Int.ofNat n)).toArray) 3 (Lib.pow10Tab.map fun n => Value.int .u64 n).toArray
end Go.Proofs.YtjcblcikipmojaaDoor
