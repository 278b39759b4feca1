/- Edges, nodes and pairs of nodes as arguments. -/
import Derived.Test.YthocdmlacfejkaaDoorGfr
import Derived.Test.YthocdmlacfejkaaDoorME
import Derived.ChangeSlices
namespace Go.Proofs.YthocdmlacfejkaaDoor
open Go.ChangeShapes Go.WideShapes Go.ChangeAt Go.RowKit
set_option maxRecDepth 100000 in
theorem open_edges {H : Type} {enc : TypeId × Value → H} {W : World} {base : Nat} {v : Value} {d : DataW H} {p : List MemPlace} (hv : Value.okWide Tryd.prog W .any base 22 v) (h : DataW.Trod enc Tryd.prog W 0 (fun _ => true) true 22 v d p) (hlt : ∀ x ∈ p, x.block < W.heap.size) :
    ∃ (A : Option Addr) (m c : Nat) (es : List (Int × Int)), v = .slice A m c ∧ EL W A m es := by
  obtain ⟨A, n, cp, rfl⟩ := okWide_slice Tryd.underlying22 hv
  obtain ⟨fuel, h1⟩ := h
  rcases Go.Deep.open_slice_pairs Tryd.underlying22 Tryd.underlying32 edge_cells rfl rfl int_cells int_cells h1 with ⟨hcs, _⟩ | ⟨a, len, cap, m, q, V0, V1, D0, D1, P0, P1, hcs, _, hl, _, hmm, hx1, hcell⟩
  · simp [Value.cells] at hcs
    obtain ⟨rfl, rfl, rfl⟩ := hcs
    exact ⟨none, 0, 0, [], rfl, rfl, fun k e hk => by simp at hk⟩
  · simp [Value.cells] at hcs
    obtain ⟨rfl, rfl, rfl⟩ := hcs
    simp only [if_true] at hmm
    subst hmm
    refine ⟨some a, n, m, (List.range n).map fun i => (intOf (V0 i), intOf (V1 i)), rfl, by simp, fun k e hk => ?_⟩
    have hkl : k < n := by
      rcases Nat.lt_or_ge k n with h2 | h2
      · exact h2
      · rw [List.getElem?_eq_none (by simpa using h2)] at hk; cases hk
    obtain ⟨c0, c1, t0, t1⟩ := hcell k (by omega)
    obtain ⟨x, hx, _, _⟩ := DataW.trod_int (k := .i64) Tryd.underlying3 t0
    obtain ⟨z, hz, _, _⟩ := DataW.trod_int (k := .i64) Tryd.underlying3 t1
    simp at hx hz
    have he : e = (x, z) := by
      rw [List.getElem?_map, List.getElem?_range hkl] at hk
      simp [hx, hz, intOf] at hk
      exact hk.symm
    subst he
    rw [hx] at c0
    rw [hz] at c1
    obtain ⟨b, off, spot⟩ := a
    have hspot : spot = none := by simpa [Addr.add] using World.cell?_spot (hcell 0 (by omega)).1
    subst hspot
    rw [add_at] at c0 c1
    have hp : p = MemPlace.row ⟨b, off, none⟩ (m * 2) ++ (List.range m).flatMap fun i => P0 i ++ P1 i := by
      simp only [Prod.mk.injEq] at hx1
      exact hx1.2
    refine ⟨b, off, rfl, hlt (.cell b off) ?_, c0, by rw [Nat.add_assoc]; exact c1⟩
    rw [hp]
    exact List.mem_append_left _ (MemPlace.mem_row.2 ⟨0, by omega, by simp⟩)
set_option maxRecDepth 100000 in
theorem open_il {H : Type} {enc : TypeId × Value → H} {W : World} {base : Nat} {v : Value} {d : DataW H} {p : List MemPlace} (hv : Value.okWide Tryd.prog W .any base 50 v) (h : DataW.Trod enc Tryd.prog W 0 (fun _ => true) true 50 v d p) (hlt : ∀ x ∈ p, x.block < W.heap.size) :
    ∃ (A : Option Addr) (m c : Nat) (l : List Int), v = .slice A m c ∧ IL W A l ∧ l.length = m := by
  obtain ⟨A, n, cp, rfl⟩ := okWide_slice Tryd.underlying50 hv
  obtain ⟨fuel, h1⟩ := h
  rcases open_ints Tryd.underlying50 Tryd.underlying3 int_cells h1 with ⟨hcs, _⟩ | ⟨a, len, cap, ss, hcs, _, hl, _, hz, hx, hcell, _⟩
  · simp [Value.cells] at hcs
    obtain ⟨rfl, rfl, rfl⟩ := hcs
    exact ⟨none, 0, 0, [], rfl, fun k x hk => by simp at hk, rfl⟩
  · simp [Value.cells] at hcs
    obtain ⟨rfl, rfl, rfl⟩ := hcs
    simp only [if_true] at hz
    simp only [Prod.mk.injEq] at hx
    refine ⟨some a, n, cp, ss.take n, rfl, fun k x hk => ?_, by rw [List.length_take]; omega⟩
    have hkl : k < n := by
      rcases Nat.lt_or_ge k n with h2 | h2
      · exact h2
      · rw [List.getElem?_eq_none (by rw [List.length_take]; omega)] at hk; cases hk
    rw [List.getElem?_take_of_lt hkl] at hk
    have hc := hcell k (by omega)
    rw [List.getD_eq_getElem?_getD, hk] at hc
    obtain ⟨b, off, spot⟩ := a
    have hspot : spot = none := by simpa [Addr.add] using World.cell?_spot (hcell 0 (by omega))
    subst hspot
    rw [add_at] at hc
    refine ⟨b, off, rfl, hlt (.cell b off) ?_, hc⟩
    rw [hx.2]
    exact MemPlace.mem_row.2 ⟨0, by omega, by simp⟩
theorem ends_cells : Tryd.prog.cellsOf 55 = 2 := by kernel_rfl
theorem list2 {α : Type} {l : List α} (h : l.length = 2) : ∃ a b, l = [a, b] := by
  match l, h with
  | [a, b], _ => exact ⟨a, b, rfl⟩
section
variable {H : Type} {enc : TypeId × Value → H} {W : World} {base : Nat} {spare : Nat → Bool} {held : Bool}
theorem trod_two {t e : TypeId} {fuel : Nat} {a b : Value} {x : DataW H × List MemPlace} (ht : Tryd.prog.underlying t = some (.array 2 e)) (he : Tryd.prog.cellsOf e = 1) (h : DataW.trod enc Tryd.prog W base spare held fuel t [a, b] = some x) :
    ∃ n y z, DataW.trod enc Tryd.prog W base spare held n e [a] = some y ∧ DataW.trod enc Tryd.prog W base spare held n e [b] = some z := by
  rcases fuel with _ | n
  · simp [DataW.trod] at h
  · simp [DataW.trod, ht, he, show List.range 2 = [0, 1] from rfl] at h
    have h' := h.2
    rcases ea : DataW.trod enc Tryd.prog W base spare held n e [a] with _ | y
    · simp [ea] at h'
    · rcases eb : DataW.trod enc Tryd.prog W base spare held n e [b] with _ | z
      · simp [ea, eb] at h'
      · exact ⟨n, y, z, ea, eb⟩
set_option maxRecDepth 100000 in
theorem open_ends {r : Reach} {b0 : Nat} {v : Value} {d : DataW H} {p : List MemPlace} (hv : Value.okWide Tryd.prog W r b0 55 v) (h : DataW.Trod enc Tryd.prog W base spare held 55 v d p) :
    ∃ n0 n1 : Int, v = .agg #[.int .i64 n0, .int .i64 n1] := by
  simp only [Value.okWide, Tryd.underlying55] at hv
  obtain ⟨cs, rfl, hsz, _⟩ := hv
  rw [ends_cells] at hsz
  obtain ⟨l⟩ := cs
  obtain ⟨a, b, rfl⟩ := list2 (by simpa using hsz)
  obtain ⟨fuel, hf⟩ := h
  obtain ⟨m, y0, y1, g0, g1⟩ := trod_two Tryd.underlying55 int_cells (by simpa [Value.cells] using hf)
  obtain ⟨n0, e0, _, _⟩ := DataW.trod_int Tryd.underlying3 g0
  obtain ⟨n1, e1, _, _⟩ := DataW.trod_int Tryd.underlying3 g1
  simp at e0 e1
  subst e0 e1
  exact ⟨n0, n1, rfl⟩
end
end Go.Proofs.YthocdmlacfejkaaDoor
