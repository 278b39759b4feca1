/- What the rows of the graph give the walks: the one table. And the world of the witnesses. -/
import Derived.Test.YthocdmlacfejkaaDoorCards
import Derived.Test.YthocdmlacfejkaaDoorTie
import Derived.Test.YthocdmlacfejkaaDoorMFb
import Derived.ProofKit
import Derived.OpenShut
import Derived.Deep.DeepHandedRow
import Derived.Deep.SlicePairs
import Derived.Lib.SmallJoins
import Derived.Lib.LaidTab
import Derived.Stop.LaidErr
namespace Go.Proofs.YthocdmlacfejkaaDoor
open Go.ChangeShapes Go.WideShapes Go.ChangeAt Go.RowKit

theorem own : ownKnob Tryd.prog.godebug = none := by kernel_rfl
theorem g64 : Tryd.prog.globalNamed "math/bits.deBruijn64tab" = some 0 := by kernel_rfl
theorem g64Type : (Tryd.prog.globals[0]?).map (·.type) = some 150 := by kernel_rfl
theorem cells64 : Tryd.prog.cellsOf 150 = 64 := by kernel_rfl
theorem cellsU8 : Tryd.prog.cellsOf 5 = 1 := by kernel_rfl
abbrev list : List (String × DataW Unit) := [("math/bits.deBruijn64tab", Rows.laid_math_bits_deBruijn64tab)]
theorem data64 : (Rows.laid_math_bits_deBruijn64tab : DataW Unit) = Lib.tabData .u8 (Lib.deBruijn64tab.map Int.ofNat) := by kernel_rfl

theorem good {W : World} (h : laidMet Tryd.prog list W) : Good W := by
  have h1 := h
  unfold list at h1
  rw [data64] at h1
  have t1 := Lib.tabIs_of_head g64 g64Type Tryd.underlying150 Tryd.underlying5 cellsU8 cells64 h1
  refine fun j hj => ?_
  have := t1.cell g64 j (by simpa using hj)
  show W.cell? ⟨0, j, none⟩ = _
  rw [this]
  congr 2
  simp [List.getD, hj]
/-- A block's cells, written over. -/
def Frame.setBlk (w : World) (g : Nat) (cs : Array Value) : World :=
  { w with heap := w.heap.modify g fun
      | .cells _ t frozen => .cells cs t frozen
      | o => o }
/-- A world for the witnesses: the settled one, the table holding what its initialiser lays. -/
noncomputable def Frame.laidWorld (os : Os) : World :=
  Frame.setBlk (World.holding Tryd.prog os ⟨#[], #[], []⟩) 0 (Lib.deBruijn64tab.map fun n => Value.int .u8 (Int.ofNat n)).toArray
theorem laidOut : laidOutB Tryd.prog = true := by kernel_rfl
theorem graph_cells : Tryd.prog.cellsOf 26 = 2 := by kernel_rfl
theorem edge_cells : Tryd.prog.cellsOf 32 = 2 := by kernel_rfl
theorem int_cells : Tryd.prog.cellsOf 3 = 1 := by kernel_rfl
set_option maxRecDepth 100000 in
/-- A graph as an argument. -/
theorem open_graph {H : Type} {enc : TypeId × Value → H} {W : World} {base : Nat} {v : Value} {d : DataW H} {p : List MemPlace} (hv : Value.okWide Tryd.prog W .any base 26 v) (h : DataW.Trod enc Tryd.prog W 0 (fun _ => true) true 26 v d p) (hlt : ∀ x ∈ p, x.block < W.heap.size) :
    ∃ (n : Int) (A : Option Addr) (m c : Nat) (es : List (Int × Int)), v = gV n A m c ∧ EL W A m es := by
  obtain ⟨v0, v1, y0, y1, nn, rfl, rfl, rfl, h0, h1⟩ := Go.Joins.open_agg2 Tryd.underlying26 (by kernel_rfl) graph_cells hv h
  obtain ⟨n, hc0, _, _⟩ := DataW.trod_int (k := .i64) Tryd.underlying3 h0
  simp at hc0
  subst hc0
  rcases Go.Deep.open_slice_pairs Tryd.underlying22 Tryd.underlying32 edge_cells rfl rfl int_cells int_cells h1 with ⟨hcs, _⟩ | ⟨a, len, cap, m, q, V0, V1, D0, D1, P0, P1, hcs, _, hl, _, hmm, hx1, hcell⟩
  · simp at hcs
    subst hcs
    exact ⟨n, none, 0, 0, [], rfl, rfl, fun k e hk => by simp at hk⟩
  · simp at hcs
    subst hcs
    simp only [if_true] at hmm
    subst hmm
    refine ⟨n, some a, len, m, (List.range len).map fun i => (intOf (V0 i), intOf (V1 i)), rfl, by simp, fun k e hk => ?_⟩
    have hkl : k < len := by
      rcases Nat.lt_or_ge k len with h2 | h2
      · exact h2
      · rw [List.getElem?_eq_none (by simpa using h2)] at hk; cases hk
    obtain ⟨c0, c1, t0, t1⟩ := hcell k (by omega)
    obtain ⟨x, hx, _, _⟩ := DataW.trod_int (k := .i64) Tryd.underlying3 t0
    obtain ⟨z, hz, _, _⟩ := DataW.trod_int (k := .i64) Tryd.underlying3 t1
    simp at hx hz
    have he : e = (x, z) := by
      rw [List.getElem?_map, List.getElem?_range hkl] at hk
      simp [hx, hz, intOf] at hk
      exact hk.symm
    subst he
    rw [hx] at c0
    rw [hz] at c1
    obtain ⟨b, off, spot⟩ := a
    have hspot : spot = none := by simpa [Addr.add] using World.cell?_spot (hcell 0 (by omega)).1
    subst hspot
    rw [add_at] at c0 c1
    refine ⟨b, off, rfl, hlt (.cell b off) ?_, c0, by rw [Nat.add_assoc]; exact c1⟩
    have hy : y1.2 = MemPlace.row ⟨b, off, none⟩ (m * 2) ++ (List.range m).flatMap fun i => P0 i ++ P1 i := by rw [hx1]
    rw [hy]
    exact List.mem_append_right _ (List.mem_append_left _ (MemPlace.mem_row.2 ⟨0, by omega, by simp⟩))
end Go.Proofs.YthocdmlacfejkaaDoor
