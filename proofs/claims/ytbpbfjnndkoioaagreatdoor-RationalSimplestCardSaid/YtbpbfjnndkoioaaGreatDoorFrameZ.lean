/- What the rows of layer 2 list gives the walks: the tables. And the worlds of the witnesses. -/
import Derived.Test.YtbpbfjnndkoioaaGreatDoorCards
import Derived.Test.YtbpbfjnndkoioaaGreatDoorTie
import Derived.Test.YtbpbfjnndkoioaaGreatDoorInt5
import Derived.ProofKit
import Derived.OpenShut
import Derived.Deep.DeepHandedRow
import Derived.Lib.LaidTab
import Derived.Stop.LaidErr
namespace Go.Proofs.YtbpbfjnndkoioaaGreatDoor
open Go.ChangeShapes Go.WideShapes Go.ChangeAt Go.RowKit

theorem own : ownKnob Tryz.prog.godebug = none := by kernel_rfl
theorem g32 : Tryz.prog.globalNamed "math/bits.deBruijn32tab" = some 7 := by kernel_rfl
theorem g64 : Tryz.prog.globalNamed "math/bits.deBruijn64tab" = some 0 := by kernel_rfl
theorem g64Type : (Tryz.prog.globals[0]?).map (·.type) = some 126 := by kernel_rfl
theorem g10Type : (Tryz.prog.globals[3]?).map (·.type) = some 145 := by kernel_rfl
theorem cells64 : Tryz.prog.cellsOf 126 = 64 := by kernel_rfl
theorem cells10 : Tryz.prog.cellsOf 145 = 20 := by kernel_rfl
theorem cellsU8 : Tryz.prog.cellsOf 5 = 1 := by kernel_rfl
theorem cellsU64 : Tryz.prog.cellsOf 82 = 1 := by kernel_rfl
abbrev list : List (String × DataW Unit) := [("math/bits.deBruijn32tab", Rows.laid_math_bits_deBruijn32tab), ("math/bits.deBruijn64tab", Rows.laid_math_bits_deBruijn64tab), ("internal/strconv.uint64pow10", Rows.laid_internal_strconv_uint64pow10), ("unicode/utf8.acceptRanges", Rows.laid_unicode_utf8_acceptRanges), ("unicode/utf8.first", Rows.laid_unicode_utf8_first)]
theorem data64 : (Rows.laid_math_bits_deBruijn64tab : DataW Unit) = Lib.tabData .u8 (Lib.deBruijn64tab.map Int.ofNat) := by kernel_rfl
theorem data10 : (Rows.laid_internal_strconv_uint64pow10 : DataW Unit) = Lib.tabData .u64 Lib.pow10Tab := by kernel_rfl

theorem good {W : World} (h : laidMet Tryz.prog list W) : Good W := by
  have h1 := laidMet.tail h
  have h2 := laidMet.tail h1
  rw [data64] at h1
  rw [data10] at h2
  have t1 := Lib.tabIs_of_head g64 g64Type Tryz.underlying126 Tryz.underlying5 cellsU8 cells64 h1
  have t2 := Lib.tabIs_of_head gTab g10Type Tryz.underlying145 Tryz.underlying82 cellsU64 cells10 h2
  refine ⟨t2, fun j hj => ?_⟩
  have := t1.cell g64 j (by simpa using hj)
  rw [show Tryz.lays7n29_ren.g 1 = 0 from rfl, this]
  congr 2
  simp [List.getD, hj]
/-- A block's cells, written over. -/
def Frame.setBlk (w : World) (g : Nat) (cs : Array Value) : World :=
  { w with heap := w.heap.modify g fun
      | .cells _ t frozen => .cells cs t frozen
      | o => o }
/-- The two tables of unicode/utf8, cell by cell. -/
def Frame.accept : Array Value := ((#[128, 191, 160, 191, 128, 159, 144, 191, 128, 143] : Array Int) ++ Array.replicate 22 (0 : Int)).map fun n => Value.int .u8 n
def Frame.first : Array Value := (Pinned.utf8FirstZ.map fun n => Value.int .u8 (Int.ofNat n)).toArray
/-- A world for the witnesses: the settled one, the tables holding what their initialisers lay. -/
noncomputable def Frame.laidWorld (os : Os) : World :=
  Frame.setBlk (Frame.setBlk (Frame.setBlk (Frame.setBlk (Frame.setBlk (World.holding Tryz.prog os ⟨#[], #[], []⟩) 0 (Lib.deBruijn64tab.map fun n => Value.int .u8 (Int.ofNat n)).toArray)
    7 (Lib.deBruijn32tab.map fun n => Value.int .u8 (Int.ofNat n)).toArray) 3 (Lib.pow10Tab.map fun n => Value.int .u64 n).toArray)
    6 Frame.accept) 5 Frame.first
end Go.Proofs.YtbpbfjnndkoioaaGreatDoor
