/- Graphs and lists of numbers as arguments. -/
import Derived.Test.YtdpfoegcmngdfaaDoorLfr
import Derived.Deep.SlicePairs
namespace Go.Proofs.YtdpfoegcmngdfaaDoor
open Go.ChangeShapes Go.WideShapes Go.ChangeAt Go.RowKit
theorem graph_cells : Tryd.prog.cellsOf 24 = 2 := by kernel_rfl
theorem edge_cells : Tryd.prog.cellsOf 75 = 2 := by kernel_rfl
theorem int_cells : Tryd.prog.cellsOf 3 = 1 := by kernel_rfl
set_option maxRecDepth 100000 in
/-- A graph as an argument. -/
theorem open_graph {H : Type} {enc : TypeId × Value → H} {W : World} {base : Nat} {v : Value} {d : DataW H} {p : List MemPlace} (hv : Value.okWide Tryd.prog W .any base 24 v) (h : DataW.Trod enc Tryd.prog W 0 (fun _ => true) true 24 v d p) (hlt : ∀ x ∈ p, x.block < W.heap.size) :
    ∃ (n : Int) (A : Option Addr) (m c : Nat) (es : List (Int × Int)), v = gV n A m c ∧ EL W A m es := by
  obtain ⟨v0, v1, y0, y1, nn, rfl, rfl, rfl, h0, h1⟩ := Go.Joins.open_agg2 Tryd.underlying24 (by kernel_rfl) graph_cells hv h
  obtain ⟨n, hc0, _, _⟩ := DataW.trod_int (k := .i64) Tryd.underlying3 h0
  simp at hc0
  subst hc0
  rcases Go.Deep.open_slice_pairs Tryd.underlying22 Tryd.underlying75 edge_cells rfl rfl int_cells int_cells h1 with ⟨hcs, _⟩ | ⟨a, len, cap, m, q, V0, V1, D0, D1, P0, P1, hcs, _, hl, _, hmm, hx1, hcell⟩
  · simp at hcs
    subst hcs
    exact ⟨n, none, 0, 0, [], rfl, rfl, fun k e hk => by simp at hk⟩
  · simp at hcs
    subst hcs
    simp only [if_true] at hmm
    subst hmm
    refine ⟨n, some a, len, m, (List.range len).map fun i => (intOf (V0 i), intOf (V1 i)), rfl, by simp, fun k e hk => ?_⟩
    have hkl : k < len := by
      rcases Nat.lt_or_ge k len with h2 | h2
      · exact h2
      · rw [List.getElem?_eq_none (by simpa using h2)] at hk; cases hk
    obtain ⟨c0, c1, t0, t1⟩ := hcell k (by omega)
    obtain ⟨x, hx, _, _⟩ := DataW.trod_int (k := .i64) Tryd.underlying3 t0
    obtain ⟨z, hz, _, _⟩ := DataW.trod_int (k := .i64) Tryd.underlying3 t1
    simp at hx hz
    have he : e = (x, z) := by
      rw [List.getElem?_map, List.getElem?_range hkl] at hk
      simp [hx, hz, intOf] at hk
      exact hk.symm
    subst he
    rw [hx] at c0
    rw [hz] at c1
    obtain ⟨b, off, spot⟩ := a
    have hspot : spot = none := by simpa [Addr.add] using World.cell?_spot (hcell 0 (by omega)).1
    subst hspot
    rw [add_at] at c0 c1
    refine ⟨b, off, rfl, hlt (.cell b off) ?_, c0, by rw [Nat.add_assoc]; exact c1⟩
    have hy : y1.2 = MemPlace.row ⟨b, off, none⟩ (m * 2) ++ (List.range m).flatMap fun i => P0 i ++ P1 i := by rw [hx1]
    rw [hy]
    exact List.mem_append_right _ (List.mem_append_left _ (MemPlace.mem_row.2 ⟨0, by omega, by simp⟩))
set_option maxRecDepth 100000 in
theorem open_il {H : Type} {enc : TypeId × Value → H} {W : World} {base : Nat} {v : Value} {d : DataW H} {p : List MemPlace} (hv : Value.okWide Tryd.prog W .any base 25 v) (h : DataW.Trod enc Tryd.prog W 0 (fun _ => true) true 25 v d p) (hlt : ∀ x ∈ p, x.block < W.heap.size) :
    ∃ (A : Option Addr) (m c : Nat) (l : List Int), v = .slice A m c ∧ IL W A l ∧ l.length = m := by
  obtain ⟨A, n, cp, rfl⟩ := okWide_slice Tryd.underlying25 hv
  obtain ⟨fuel, h1⟩ := h
  rcases open_ints Tryd.underlying25 Tryd.underlying3 int_cells h1 with ⟨hcs, _⟩ | ⟨a, len, cap, ss, hcs, _, hl, _, hz, hx, hcell, _⟩
  · simp [Value.cells] at hcs
    obtain ⟨rfl, rfl, rfl⟩ := hcs
    exact ⟨none, 0, 0, [], rfl, fun k x hk => by simp at hk, rfl⟩
  · simp [Value.cells] at hcs
    obtain ⟨rfl, rfl, rfl⟩ := hcs
    simp only [if_true] at hz
    simp only [Prod.mk.injEq] at hx
    refine ⟨some a, n, cp, ss.take n, rfl, fun k x hk => ?_, by rw [List.length_take]; omega⟩
    have hkl : k < n := by
      rcases Nat.lt_or_ge k n with h2 | h2
      · exact h2
      · rw [List.getElem?_eq_none (by rw [List.length_take]; omega)] at hk; cases hk
    rw [List.getElem?_take_of_lt hkl] at hk
    have hc := hcell k (by omega)
    rw [List.getD_eq_getElem?_getD, hk] at hc
    obtain ⟨b, off, spot⟩ := a
    have hspot : spot = none := by simpa [Addr.add] using World.cell?_spot (hcell 0 (by omega))
    subst hspot
    rw [add_at] at hc
    refine ⟨b, off, rfl, hlt (.cell b off) ?_, hc⟩
    rw [hx.2]
    exact MemPlace.mem_row.2 ⟨0, by omega, by simp⟩
end Go.Proofs.YtdpfoegcmngdfaaDoor
