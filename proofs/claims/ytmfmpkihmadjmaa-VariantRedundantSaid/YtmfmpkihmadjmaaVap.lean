/- What the laws of families read: a description, small numbers, literals; and the door. -/
import Derived.Test.YtmfmpkihmadjmaaVak
import Derived.Test.YtmfmpkihmadjmaaRows
import Derived.ProofKit
import Derived.OpenShut
import Derived.Deep.SlicePairs
import Derived.Deep.Matrix
import Derived.Lib.SmallJoins
namespace Go.Proofs.Ytmfmpkihmadjmaa
open Go.ChangeShapes Go.WideShapes Go.ChangeAt Go.RowKit
theorem own : ownKnob Try.prog.godebug = none := by kernel_rfl
theorem laidOut : laidOutB Try.prog = true := by kernel_rfl
theorem add_plain' (b o k : Nat) : (⟨b, o, none⟩ : Addr).add k = ⟨b, o + k, none⟩ := by
  cases k <;> rfl
theorem wf_i8 {n : Int} (h : (Lit.int .i8 n).wf = true) : -128 ≤ n ∧ n < 128 := by
  have := bounds_i8 h
  omega
section
variable {H : Type} {enc : TypeId × Value → H} {W : World} {base : Nat}
/-- Small numbers. -/
theorem open_i8 {fuel : Nat} {cs : List Value} {x : DataW H × List MemPlace} (h : DataW.trod enc Try.prog W base (fun _ => true) true fuel 63 cs = some x) :
    ∃ (A : Option Addr) (n c : Nat) (l : List Int), cs = [.slice A n c] ∧ l.length = n ∧ I8L W A l ∧ ∀ k ∈ l, -128 ≤ k ∧ k < 128 := by
  rcases open_ints Try.underlying63 Try.underlying95 (by kernel_rfl) h with ⟨rfl, _⟩ | ⟨a, len, cap, zs, rfl, _, hl, _, hz, _, hcell, hwz⟩
  · exact ⟨none, 0, 0, [], rfl, rfl, fun k x hk => by simp at hk, fun k hk => by cases hk⟩
  · simp only [if_true] at hz
    refine ⟨some a, len, cap, zs.take len, rfl, by rw [List.length_take]; omega, fun k x hk => ?_, fun k hk => wf_i8 (hwz k (List.mem_of_mem_take hk))⟩
    have hk1 : k < len := by
      rcases Nat.lt_or_ge k len with h1 | h1
      · exact h1
      · rw [List.getElem?_take_eq_none h1] at hk; cases hk
    rw [List.getElem?_take_of_lt hk1] at hk
    have hc := hcell k (by omega)
    rw [List.getD_eq_getElem?_getD, hk] at hc
    obtain ⟨b, off, spot⟩ := a
    have hspot : spot = none := by simpa [Addr.add] using World.cell?_spot (hcell 0 (by omega))
    subst hspot
    rw [add_plain'] at hc
    exact ⟨b, off, rfl, size_of_cell hc, hc⟩
/-- Rows of small numbers. -/
theorem open_i8s {fuel : Nat} {cs : List Value} {x : DataW H × List MemPlace} (h : DataW.trod enc Try.prog W base (fun _ => true) true fuel 22 cs = some x) :
    ∃ (A : Option Addr) (n c : Nat) (ls : List (List Int)), cs = [.slice A n c] ∧ ls.length = n ∧ I8LL W A ls ∧ ∀ l ∈ ls, ∀ k ∈ l, -128 ≤ k ∧ k < 128 := by
  rcases Go.Deep.open_int_rows Try.underlying22 Try.underlying63 Try.underlying95 (by kernel_rfl) (by kernel_rfl) h with ⟨rfl, _⟩ | ⟨a, len, cap, A, L, C, Z, rfl, _, hl, _, _, hrow⟩
  · exact ⟨none, 0, 0, [], rfl, rfl, fun k x hk => by simp at hk, fun k hk => by cases hk⟩
  · refine ⟨some a, len, cap, (List.range len).map fun r => (Z r).take (L r), rfl, by simp, fun k l hk => ?_, fun l hl' k hk => ?_⟩
    · have hk1 : k < len := by
        rcases Nat.lt_or_ge k len with h1 | h1
        · exact h1
        · rw [List.getElem?_eq_none (by simpa using h1)] at hk; cases hk
      rw [List.getElem?_map, List.getElem?_range hk1] at hk
      injection hk with hk
      obtain ⟨c0, r1, r2, r3, r4, r5, r6⟩ := hrow k (by omega)
      obtain ⟨b, off, spot⟩ := a
      have hspot : spot = none := by simpa [Addr.add] using World.cell?_spot (hrow 0 (by omega)).1
      subst hspot
      rw [add_plain'] at c0
      have hll : l.length = L k := by rw [← hk, List.length_take, r3]; omega
      refine ⟨b, off, A k, C k, rfl, size_of_cell c0, by rw [hll]; exact c0, fun j x hj => ?_⟩
      have hj1 : j < L k := by
        rcases Nat.lt_or_ge j (L k) with h1 | h1
        · exact h1
        · rw [List.getElem?_eq_none (by omega)] at hj; cases hj
      rw [← hk, List.getElem?_take_of_lt hj1] at hj
      cases hA : A k with
      | none => have := r5 hA; omega
      | some a' =>
        obtain ⟨_, hcc⟩ := r6 a' hA
        have hc := hcc j (by omega)
        rw [List.getD_eq_getElem?_getD, hj] at hc
        obtain ⟨b', off', spot'⟩ := a'
        have hspot' : spot' = none := by simpa [Addr.add] using World.cell?_spot (hcc 0 (by omega))
        subst hspot'
        rw [add_plain'] at hc
        exact ⟨b', off', rfl, size_of_cell hc, hc⟩
    · obtain ⟨r, hr, rfl⟩ := List.mem_map.1 hl'
      have hr := List.mem_range.1 hr
      obtain ⟨_, _, _, _, r4, _⟩ := hrow r (by omega)
      exact wf_i8 (r4 k (List.mem_of_mem_take hk))
/-- Literals. -/
theorem open_lits {fuel : Nat} {cs : List Value} {x : DataW H × List MemPlace} (h : DataW.trod enc Try.prog W base (fun _ => true) true fuel 55 cs = some x) :
    ∃ (A : Option Addr) (n c : Nat) (l : List (Int × Bool)), cs = [.slice A n c] ∧ l.length = n ∧ LitL W A l ∧ ∀ e ∈ l, (Lit.int .i64 e.1).wf = true := by
  rcases Go.Deep.open_slice_pairs Try.underlying55 Try.underlying68 (by kernel_rfl) rfl rfl (by kernel_rfl) (by kernel_rfl) h with ⟨rfl, _⟩ | ⟨a, len, cap, m, q, V0, V1, D0, D1, P0, P1, rfl, _, hl, _, hmm, _, hcell⟩
  · exact ⟨none, 0, 0, [], rfl, rfl, fun k x hk => by simp at hk, fun k hk => by cases hk⟩
  · simp only [if_true] at hmm
    subst hmm
    refine ⟨some a, len, m, (List.range len).map fun i => (intOf (V0 i), match V1 i with | .bool b => b | _ => false), rfl, by simp, fun k e hk => ?_, fun e he => ?_⟩
    · have hkl : k < len := by
        rcases Nat.lt_or_ge k len with h2 | h2
        · exact h2
        · rw [List.getElem?_eq_none (by simpa using h2)] at hk; cases hk
      obtain ⟨c0, c1, t0, t1⟩ := hcell k (by omega)
      obtain ⟨x, hx, _, _⟩ := DataW.trod_int (k := .i64) Try.underlying3 t0
      obtain ⟨z, hz, _⟩ := DataW.trod_bool Try.underlying4 t1
      simp at hx hz
      have he : e = (x, z) := by
        rw [List.getElem?_map, List.getElem?_range hkl] at hk
        simp [hx, hz, intOf] at hk
        exact hk.symm
      subst he
      rw [hx] at c0
      rw [hz] at c1
      obtain ⟨b, off, spot⟩ := a
      have hspot : spot = none := by simpa [Addr.add] using World.cell?_spot (hcell 0 (by omega)).1
      subst hspot
      rw [add_plain'] at c0 c1
      exact ⟨b, off, rfl, size_of_cell c0, c0, by rw [Nat.add_assoc]; exact c1⟩
    · obtain ⟨k, hk, rfl⟩ := List.mem_map.1 he
      have hk := List.mem_range.1 hk
      obtain ⟨c0, c1, t0, t1⟩ := hcell k (by omega)
      obtain ⟨x, hx, _, wx⟩ := DataW.trod_int (k := .i64) Try.underlying3 t0
      simp at hx
      simpa [hx, intOf] using wx
set_option maxRecDepth 100000 in
/-- A description of a family. -/
theorem open_kin {v : Value} {d : DataW H} {p : List MemPlace} (hv : Value.okWide Try.prog W .any base 24 v) (h : DataW.Trod enc Try.prog W 0 (fun _ => true) true 24 v d p) :
    ∃ (o : Nat) (RA GA VA : Option Addr) (rn rc gn gc vn vc : Nat) (kr kg kv : List (List Int)), v = .agg #[.int .u8 (o : Nat), .slice RA rn rc, .slice GA gn gc, .slice VA vn vc] ∧ o < 256 ∧ kr.length = rn ∧ kg.length = gn ∧ kv.length = vn ∧
      I8LL W RA kr ∧ I8LL W GA kg ∧ I8LL W VA kv ∧ (∀ l ∈ kr, ∀ k ∈ l, -128 ≤ k ∧ k < 128) ∧ (∀ l ∈ kg, ∀ k ∈ l, -128 ≤ k ∧ k < 128) ∧ ∀ l ∈ kv, ∀ k ∈ l, -128 ≤ k ∧ k < 128 := by
  obtain ⟨v0, v1, v2, v3, y0, y1, y2, y3, n, rfl, rfl, rfl, h0, h1, h2, h3⟩ := Go.Joins.open_agg4 Try.underlying24 (by kernel_rfl) (by kernel_rfl) hv h
  obtain ⟨o, ho, _, wo⟩ := DataW.trod_int (k := .u8) Try.underlying5 h0
  obtain ⟨RA, rn, rc, kr, e1, lr, hr, br⟩ := open_i8s h1
  obtain ⟨GA, gn, gc, kg, e2, lg, hg, bg⟩ := open_i8s h2
  obtain ⟨VA, vn, vc, kv, e3, lv, hv', bv⟩ := open_i8s h3
  simp at ho e1 e2 e3
  subst ho e1 e2 e3
  have ho : 0 ≤ o ∧ o < 256 := by
    have := bounds_u8 wo
    omega
  exact ⟨o.toNat, RA, GA, VA, rn, rc, gn, gc, vn, vc, kr, kg, kv, by rw [Int.toNat_of_nonneg ho.1], by omega, lr, lg, lv, hr, hg, hv', br, bg, bv⟩
end
end Go.Proofs.Ytmfmpkihmadjmaa
