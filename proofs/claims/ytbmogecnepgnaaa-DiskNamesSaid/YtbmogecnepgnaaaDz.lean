/- What the laws of a disk read: an act. -/
import Derived.Test.YtbmogecnepgnaaaDx
import Derived.Test.YtbmogecnepgnaaaRows
import Derived.ProofKit
import Derived.OpenShut
import Derived.Deep.SlicePairs
import Derived.Lib.SmallJoins
namespace Go.Proofs.Ytbmogecnepgnaaa
open Go.ChangeShapes Go.WideShapes Go.ChangeAt Go.RowKit
theorem own : ownKnob Try.prog.godebug = none := by kernel_rfl
theorem laidOut : laidOutB Try.prog = true := by kernel_rfl
theorem add_plain' (b o k : Nat) : (⟨b, o, none⟩ : Addr).add k = ⟨b, o + k, none⟩ := by
  cases k <;> rfl
section
variable {H : Type} {enc : TypeId × Value → H} {W : World} {base : Nat}
theorem array5 {α : Type} {cs : Array α} (h : cs.size = 5) : ∃ a b c d e, cs = #[a, b, c, d, e] := by
  obtain ⟨l⟩ := cs
  match l, h with
  | [a, b, c, d, e], _ => exact ⟨a, b, c, d, e, rfl⟩
set_option maxRecDepth 100000 in
/-- A struct of five one-cell fields. -/
theorem open_agg5 {r : Reach} {b0 : Nat} {t : TypeId} {f0 f1 f2 f3 f4 : Field} {v : Value} {d : DataW H} {p : List MemPlace} {sp : Nat → Bool} {held : Bool} (hs : Try.prog.underlying t = some (.struct #[f0, f1, f2, f3, f4])) (hone : Go.Deep.oneCellFields Try.prog #[f0, f1, f2, f3, f4] = true) (hC : Try.prog.cellsOf t = 5)
    (hv : Value.okWide Try.prog W r b0 t v) (h : DataW.Trod enc Try.prog W base sp held t v d p) :
    ∃ (v0 v1 v2 v3 v4 : Value) (y0 y1 y2 y3 y4 : DataW H × List MemPlace) (n : Nat), v = .agg #[v0, v1, v2, v3, v4] ∧
      DataW.trod enc Try.prog W base sp held n f0.type [v0] = some y0 ∧ DataW.trod enc Try.prog W base sp held n f1.type [v1] = some y1 ∧ DataW.trod enc Try.prog W base sp held n f2.type [v2] = some y2 ∧ DataW.trod enc Try.prog W base sp held n f3.type [v3] = some y3 ∧ DataW.trod enc Try.prog W base sp held n f4.type [v4] = some y4 := by
  obtain ⟨cs, rfl, hsz⟩ := okWide_struct hs hv
  obtain ⟨c0, c1, c2, c3, c4, rfl⟩ := array5 (hsz.trans hC)
  obtain ⟨fuel, hf⟩ := h
  obtain ⟨xs, n, _, _, hl, hlen, hf⟩ := DataW.trod_struct hs hf
  obtain ⟨o0, k0⟩ := Go.Deep.hone_of hone 0 f0 rfl
  obtain ⟨o1, k1⟩ := Go.Deep.hone_of hone 1 f1 rfl
  obtain ⟨o2, k2⟩ := Go.Deep.hone_of hone 2 f2 rfl
  obtain ⟨o3, k3⟩ := Go.Deep.hone_of hone 3 f3 rfl
  obtain ⟨o4, k4⟩ := Go.Deep.hone_of hone 4 f4 rfl
  match xs, hlen with
  | [y0, y1, y2, y3, y4], _ =>
    exact ⟨c0, c1, c2, c3, c4, y0, y1, y2, y3, y4, n, rfl, by simpa [Value.cells, o0, k0] using hf 0 f0 rfl, by simpa [Value.cells, o1, k1] using hf 1 f1 rfl, by simpa [Value.cells, o2, k2] using hf 2 f2 rfl, by simpa [Value.cells, o3, k3] using hf 3 f3 rfl, by simpa [Value.cells, o4, k4] using hf 4 f4 rfl⟩
/-- The numbers of a script. -/
theorem open_script {fuel : Nat} {cs : List Value} {x : DataW H × List MemPlace} (h : DataW.trod enc Try.prog W base (fun _ => true) true fuel 38 cs = some x) :
    ∃ (A : Option Addr) (n c : Nat) (l : List Int), cs = [.slice A n c] ∧ l.length = n ∧ IntL W A l ∧ ∀ k ∈ l, -9223372036854775808 ≤ k ∧ k ≤ 9223372036854775807 := by
  rcases open_ints Try.underlying38 Try.underlying3 (by kernel_rfl) h with ⟨rfl, _⟩ | ⟨a, len, cap, zs, rfl, _, hl, _, hz, _, hcell, hwz⟩
  · exact ⟨none, 0, 0, [], rfl, rfl, fun k x hk => by simp at hk, fun k hk => by cases hk⟩
  · simp only [if_true] at hz
    refine ⟨some a, len, cap, zs.take len, rfl, by rw [List.length_take]; omega, fun k x hk => ?_, fun k hk => ?_⟩
    · have hk1 : k < len := by
        rcases Nat.lt_or_ge k len with h1 | h1
        · exact h1
        · rw [List.getElem?_take_eq_none h1] at hk; cases hk
      rw [List.getElem?_take_of_lt hk1] at hk
      have hc := hcell k (by omega)
      rw [List.getD_eq_getElem?_getD, hk] at hc
      obtain ⟨b, off, spot⟩ := a
      have hspot : spot = none := by simpa [Addr.add] using World.cell?_spot (hcell 0 (by omega))
      subst hspot
      rw [add_plain'] at hc
      exact ⟨b, off, rfl, size_of_cell hc, hc⟩
    · have := bounds_i64 (hwz k (List.mem_of_mem_take hk))
      omega
set_option maxRecDepth 100000 in
/-- An act. -/
theorem open_act {v : Value} {d : DataW H} {p : List MemPlace} (hv : Value.okWide Try.prog W .any base 40 v) (h : DataW.Trod enc Try.prog W 0 (fun _ => true) true 40 v d p) :
    ∃ (x : Ac) (l : List Int), v = .agg #[.int .u8 (x.kind : Nat), .string x.name, .string x.dst, .int .i8 x.num, .slice x.sA x.sn x.sc] ∧ x.kind < 256 ∧ l.length = x.sn ∧ IntL W x.sA l ∧ (∀ k ∈ l, -9223372036854775808 ≤ k ∧ k ≤ 9223372036854775807) ∧ x.name.size ≤ maxLen ∧ x.dst.size ≤ maxLen ∧ -128 ≤ x.num ∧ x.num ≤ 127 := by
  obtain ⟨v0, v1, v2, v3, v4, y0, y1, y2, y3, y4, n, rfl, h0, h1, h2, h3, h4⟩ := open_agg5 Try.underlying40 (by kernel_rfl) (by kernel_rfl) hv h
  obtain ⟨k, hk, _, wk⟩ := DataW.trod_int (k := .u8) Try.underlying5 h0
  obtain ⟨s, hs, _, ws⟩ := DataW.trod_string Try.underlying9 h1
  obtain ⟨t, ht, _, wt⟩ := DataW.trod_string Try.underlying9 h2
  obtain ⟨z, hz, _, wz⟩ := DataW.trod_int (k := .i8) Try.underlying37 h3
  obtain ⟨A, sn, sc, l, e4, ll, hl, bl⟩ := open_script h4
  simp at hk hs ht hz e4
  subst hk hs ht hz e4
  have hk : 0 ≤ k ∧ k < 256 := by
    have := bounds_u8 wk
    omega
  have hz := bounds_i8 wz
  exact ⟨⟨k.toNat, s, t, z, A, sn, sc⟩, l, by show _ = Value.agg #[.int .u8 (k.toNat : Nat), _, _, _, _]; rw [Int.toNat_of_nonneg hk.1], by show k.toNat < 256; omega, ll, hl, bl, ws, wt, by show -128 ≤ z; omega, by show z ≤ 127; omega⟩
end
end Go.Proofs.Ytbmogecnepgnaaa
