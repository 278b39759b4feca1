/- What the laws of a disk read: acts. -/
import Derived.Test.YtbmogecnepgnaaaDz
import Derived.Deep.Slices
import Derived.SliceStrings
namespace Go.Proofs.Ytbmogecnepgnaaa
open Go.ChangeShapes Go.WideShapes Go.ChangeAt Go.RowKit
/-- What holds of an act. -/
def AcOk (w : World) (x : Ac) : Prop := x.kind < 256 ∧ x.name.size ≤ maxLen ∧ x.dst.size ≤ maxLen ∧ (-128 ≤ x.num ∧ x.num ≤ 127) ∧ (x.sn ≤ x.sc ∧ x.sc ≤ maxLen) ∧ ∃ li : List Int, li.length = x.sn ∧ IntL w x.sA li ∧ ∀ k ∈ li, -9223372036854775808 ≤ k ∧ k ≤ 9223372036854775807
theorem AcOk.keep {w w' : World} {x : Ac} (h : AcOk w x) (hb : Below w.heap.size w w') : AcOk w' x :=
  let ⟨h1, h2, h3, h4, h0, li, h5, h6, h7⟩ := h
  ⟨h1, h2, h3, h4, h0, li, h5, h6.keep hb, h7⟩
section
variable {H : Type} {enc : TypeId × Value → H} {W : World} {base : Nat}
/-- The numbers of a script, with its capacity. -/
theorem open_scriptC {fuel : Nat} {cs : List Value} {x : DataW H × List MemPlace} (h : DataW.trod enc Try.prog W base (fun _ => true) true fuel 38 cs = some x) :
    ∃ (A : Option Addr) (n c : Nat) (l : List Int), cs = [.slice A n c] ∧ l.length = n ∧ IntL W A l ∧ (∀ k ∈ l, -9223372036854775808 ≤ k ∧ k ≤ 9223372036854775807) ∧ n ≤ c ∧ c ≤ maxLen := by
  rcases open_ints Try.underlying38 Try.underlying3 (by kernel_rfl) h with ⟨rfl, _⟩ | ⟨a, len, cap, zs, rfl, _, hl, hcm, hz, _, hcell, hwz⟩
  · exact ⟨none, 0, 0, [], rfl, rfl, fun k x hk => by simp at hk, (fun k hk => by cases hk), Nat.le_refl _, Nat.zero_le _⟩
  · simp only [if_true] at hz
    refine ⟨some a, len, cap, zs.take len, rfl, by rw [List.length_take]; omega, fun k x hk => ?_, fun k hk => ?_, hl, hcm⟩
    · have hk1 : k < len := by
        rcases Nat.lt_or_ge k len with h1 | h1
        · exact h1
        · rw [List.getElem?_take_eq_none h1] at hk; cases hk
      rw [List.getElem?_take_of_lt hk1] at hk
      have hc := hcell k (by omega)
      rw [List.getD_eq_getElem?_getD, hk] at hc
      obtain ⟨b, off, spot⟩ := a
      have hspot : spot = none := by simpa [Addr.add] using World.cell?_spot (hcell 0 (by omega))
      subst hspot
      rw [add_plain'] at hc
      exact ⟨b, off, rfl, size_of_cell hc, hc⟩
    · have := bounds_i64 (hwz k (List.mem_of_mem_take hk))
      omega
set_option maxRecDepth 100000 in
theorem open_act_cells {fuel : Nat} {cs : List Value} {y : DataW H × List MemPlace} (h : DataW.trod enc Try.prog W base (fun _ => true) true fuel 40 cs = some y) :
    ∃ x : Ac, cs = acCells x ∧ AcOk W x := by
  obtain ⟨xs, n, _, _, hl, hlen, hf⟩ := DataW.trod_struct Try.underlying40 h
  rw [show Try.prog.cellsOf 40 = 5 by kernel_rfl] at hl
  match xs, hlen, cs, hl with
  | [y0, y1, y2, y3, y4], _, [v0, v1, v2, v3, v4], _ =>
    have h0 := hf 0 _ rfl
    have h1 := hf 1 _ rfl
    have h2 := hf 2 _ rfl
    have h3 := hf 3 _ rfl
    have h4 := hf 4 _ rfl
    have c0 : Try.prog.cellsOf 5 = 1 := by kernel_rfl
    have c1 : Try.prog.cellsOf 9 = 1 := by kernel_rfl
    have c2 : Try.prog.cellsOf 37 = 1 := by kernel_rfl
    have c3 : Try.prog.cellsOf 38 = 1 := by kernel_rfl
    simp [c0, c1, c2, c3] at h0 h1 h2 h3 h4
    obtain ⟨k, hk, _, wk⟩ := DataW.trod_int (k := .u8) Try.underlying5 h0
    obtain ⟨s, hs, _, ws⟩ := DataW.trod_string Try.underlying9 h1
    obtain ⟨t, ht, _, wt⟩ := DataW.trod_string Try.underlying9 h2
    obtain ⟨z, hz, _, wz⟩ := DataW.trod_int (k := .i8) Try.underlying37 h3
    obtain ⟨A, sn, sc, l, e4, ll, hl, bl, hcc⟩ := open_scriptC h4
    simp at hk hs ht hz e4
    subst hk hs ht hz e4
    have hk : 0 ≤ k ∧ k < 256 := by
      have := bounds_u8 wk
      omega
    have hz := bounds_i8 wz
    refine ⟨⟨k.toNat, s, t, z, A, sn, sc⟩, ?_, by show k.toNat < 256; omega, ws, wt, ⟨by show -128 ≤ z; omega, by show z ≤ 127; omega⟩, hcc, l, ll, hl, bl⟩
    show _ = [Value.int .u8 (k.toNat : Nat), _, _, _, _]
    rw [Int.toNat_of_nonneg hk.1]
instance : Inhabited Ac := ⟨⟨0, ⟨#[]⟩, ⟨#[]⟩, 0, none, 0, 0⟩⟩
set_option maxRecDepth 100000 in
theorem open_acts {fuel : Nat} {cs : List Value} {y : DataW H × List MemPlace} (h : DataW.trod enc Try.prog W base (fun _ => true) true fuel 22 cs = some y) :
    ∃ (A : Option Addr) (n c : Nat) (l : List Ac), cs = [.slice A n c] ∧ l.length = n ∧ n ≤ maxLen ∧ ActsAt W A l ∧ ∀ x ∈ l, AcOk W x := by
  rcases Go.Deep.open_slice Try.underlying22 h with ⟨rfl, _⟩ | ⟨a, len, cap, m, n, D, Pl, rfl, _, hl, hm, hmm, _, hx⟩
  · exact ⟨none, 0, 0, [], rfl, rfl, Nat.zero_le _, fun i x hx => by simp at hx, fun x hx => by cases hx⟩
  · simp only [if_true] at hmm
    have each : ∀ i, i < len → ∃ x : Ac, (a.spot = none ∧ a.block < W.heap.size ∧ ∀ j u, (acCells x)[j]? = some u → W.cell? ⟨a.block, a.off + (5 * i + j), none⟩ = some u) ∧ AcOk W x := fun i hi => by
      obtain ⟨cs', h1, h2⟩ := hx i (by omega)
      have h3 := hx 0 (by omega)
      obtain ⟨cs0, h3, _⟩ := h3
      rw [show Try.prog.cellsOf 40 = 5 by kernel_rfl] at h1 h3
      obtain ⟨_, hlen, hcell⟩ := World.cells?_some h1
      obtain ⟨_, hlen0, hcell0⟩ := World.cells?_some h3
      obtain ⟨x, hc, hok⟩ := open_act_cells h2
      have hz := hcell0 0 (by omega)
      rw [List.getElem?_eq_getElem (by omega)] at hz
      obtain ⟨b, off, spot⟩ := a
      have hspot : spot = none := by simpa [Addr.add] using World.cell?_spot hz
      subst hspot
      rw [add_plain', add_plain'] at hz
      refine ⟨x, ⟨rfl, size_of_cell hz, fun j u hu => ?_⟩, hok⟩
      have hj : j < 5 := (List.getElem?_eq_some_iff.1 hu).1
      have hcj := hcell j hj
      rw [hc, hu, add_plain', add_plain'] at hcj
      rw [show off + (5 * i + j) = off + i * 5 + j by omega]
      exact hcj
    obtain ⟨q, hq⟩ := Go.Deep.choose_lt each
    refine ⟨some a, len, cap, (List.range len).map q, rfl, by simp, by omega, fun i x hi => ?_, fun x hx => ?_⟩
    · have hil : i < len := by
        have := (List.getElem?_eq_some_iff.1 hi).1
        simpa using this
      have e : q i = x := by simpa [hil] using hi
      subst e
      obtain ⟨⟨h1, h2, h3⟩, _⟩ := hq i hil
      obtain ⟨b, off, spot⟩ := a
      have h1 : spot = none := h1
      subst h1
      exact ⟨b, off, rfl, h2, h3⟩
    · obtain ⟨i, hi, rfl⟩ := List.mem_map.1 hx
      exact (hq i (List.mem_range.1 hi)).2
set_option maxRecDepth 100000 in
theorem open_u8 {v : Value} {d : DataW H} {p : List MemPlace} (hv : Value.okWide Try.prog W .any base 5 v) (h : DataW.Trod enc Try.prog W 0 (fun _ => true) true 5 v d p) : ∃ q : Nat, v = .int .u8 (q : Nat) ∧ q < 256 := by
  obtain ⟨z, rfl⟩ := okWide_int (k := .u8) Try.underlying5 hv
  obtain ⟨fuel, hf⟩ := h
  obtain ⟨k, hk, _, wk⟩ := DataW.trod_int (k := .u8) Try.underlying5 hf
  simp [Value.cells] at hk
  subst hk
  have := bounds_u8 wk
  exact ⟨z.toNat, by rw [Int.toNat_of_nonneg (by omega)], by omega⟩
set_option maxRecDepth 100000 in
theorem open_i64 {v : Value} {d : DataW H} {p : List MemPlace} (hv : Value.okWide Try.prog W .any base 3 v) (h : DataW.Trod enc Try.prog W 0 (fun _ => true) true 3 v d p) : ∃ z : Int, v = .int .i64 z ∧ (-9223372036854775808 ≤ z ∧ z ≤ 9223372036854775807) := by
  obtain ⟨z, rfl⟩ := okWide_int (k := .i64) Try.underlying3 hv
  obtain ⟨fuel, hf⟩ := h
  obtain ⟨k, hk, _, wk⟩ := DataW.trod_int (k := .i64) Try.underlying3 hf
  simp [Value.cells] at hk
  subst hk
  have := bounds_i64 wk
  exact ⟨z, rfl, by omega, by omega⟩
set_option maxRecDepth 100000 in
theorem open_scriptv {v : Value} {d : DataW H} {p : List MemPlace} (hv : Value.okWide Try.prog W .any base 38 v) (h : DataW.Trod enc Try.prog W 0 (fun _ => true) true 38 v d p) :
    ∃ (A : Option Addr) (n c : Nat) (l : List Int), v = .slice A n c ∧ l.length = n ∧ IntL W A l ∧ ∀ k ∈ l, -9223372036854775808 ≤ k ∧ k ≤ 9223372036854775807 := by
  obtain ⟨a, len, cap, rfl⟩ := okWide_slice Try.underlying38 hv
  obtain ⟨fuel, hf⟩ := h
  obtain ⟨A, n, c, l, e, h1, h2, h3⟩ := open_script hf
  simp [Value.cells] at e
  obtain ⟨rfl, rfl, rfl⟩ := e
  exact ⟨_, _, _, l, rfl, h1, h2, h3⟩
set_option maxRecDepth 100000 in
theorem open_actsv {v : Value} {d : DataW H} {p : List MemPlace} (hv : Value.okWide Try.prog W .any base 22 v) (h : DataW.Trod enc Try.prog W 0 (fun _ => true) true 22 v d p) :
    ∃ (A : Option Addr) (n c : Nat) (l : List Ac), v = .slice A n c ∧ l.length = n ∧ n ≤ maxLen ∧ ActsAt W A l ∧ ∀ x ∈ l, AcOk W x := by
  obtain ⟨a, len, cap, rfl⟩ := okWide_slice Try.underlying22 hv
  obtain ⟨fuel, hf⟩ := h
  obtain ⟨A, n, c, l, e, h1, h2, h3, h4⟩ := open_acts hf
  simp [Value.cells] at e
  obtain ⟨rfl, rfl, rfl⟩ := e
  exact ⟨_, _, _, l, rfl, h1, h2, h3, h4⟩
/-- Strings in memory. -/
def StrL (w : World) (A : Option Addr) (l : List ByteArray) : Prop := ∀ i x, l[i]? = some x → ∃ g o, A = some ⟨g, o, none⟩ ∧ g < w.heap.size ∧ w.cell? ⟨g, o + i, none⟩ = some (.string x)
theorem StrL.keep {w w' : World} {A : Option Addr} {l : List ByteArray} (h : StrL w A l) (hb : Below w.heap.size w w') : StrL w' A l := fun i x hx =>
  let ⟨g, o, e, hl, hc⟩ := h i x hx
  ⟨g, o, e, Nat.lt_of_lt_of_le hl hb.size, (hb.cell (p := ⟨g, o + i, none⟩) hl).trans hc⟩
set_option maxRecDepth 100000 in
theorem open_strsv {v : Value} {d : DataW H} {p : List MemPlace} (hv : Value.okWide Try.prog W .any base 53 v) (h : DataW.Trod enc Try.prog W 0 (fun _ => true) true 53 v d p) :
    ∃ (A : Option Addr) (n c : Nat) (l : List ByteArray), v = .slice A n c ∧ l.length = n ∧ StrL W A l := by
  obtain ⟨a, len, cap, rfl⟩ := okWide_slice Try.underlying53 hv
  obtain ⟨fuel, hf⟩ := h
  refine ⟨a, len, cap, ?_⟩
  rcases open_strings Try.underlying53 Try.underlying9 (by kernel_rfl) hf with ⟨hcs, _⟩ | ⟨a, len', cap', ss, hcs, _, hl, _, hz, _, hcell, _⟩
  · simp [Value.cells] at hcs
    obtain ⟨rfl, rfl, rfl⟩ := hcs
    exact ⟨[], rfl, rfl, fun k s h => by simp at h⟩
  · simp [Value.cells] at hcs
    obtain ⟨rfl, rfl, rfl⟩ := hcs
    simp only [if_true] at hz
    refine ⟨ss.take len, rfl, by rw [List.length_take]; omega, fun k s hk => ?_⟩
    have hkl : k < len := by
      rcases Nat.lt_or_ge k len with h1 | h1
      · exact h1
      · rw [List.getElem?_eq_none (by rw [List.length_take]; omega)] at hk; cases hk
    rw [List.getElem?_take_of_lt hkl] at hk
    have hc := hcell k (by omega)
    rw [List.getD_eq_getElem?_getD, hk] at hc
    obtain ⟨b, off, spot⟩ := a
    have hspot : spot = none := by simpa [Addr.add] using World.cell?_spot (hcell 0 (by omega))
    subst hspot
    rw [add_plain'] at hc
    exact ⟨b, off, rfl, size_of_cell hc, hc⟩
end
end Go.Proofs.Ytbmogecnepgnaaa
