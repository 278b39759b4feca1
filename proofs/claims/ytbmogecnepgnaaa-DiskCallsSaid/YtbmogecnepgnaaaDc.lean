/- The bytes of a file. -/
import Derived.Test.YtbmogecnepgnaaaDb
namespace Go.Proofs.Ytbmogecnepgnaaa
open Go.RowKit Go.Lib
abbrev bV (bs : List UInt8) : List Value := bs.map fun b => .int .u8 b.toNat
/-- A slice holds some bytes, in a row of its own. -/
def DataAt (w : World) (B : Nat) (v : Value) (bs : List UInt8) : Prop :=
  (v = .slice none 0 0 ∧ bs = []) ∨ ∃ g cap us fz, v = .slice (some ⟨g, 0, none⟩) bs.length cap ∧ B ≤ g ∧ w.heap[g]? = some (.cells us 5 fz) ∧ bs.length ≤ cap ∧ cap ≤ maxLen ∧ us.size = cap ∧ (cap ≤ fz.1 ∨ fz.2 = 0) ∧ us.toList.take bs.length = bV bs
theorem DataAt.obj {w : World} {B : Nat} {v : Value} {bs : List UInt8} (h : DataAt w B v bs) {k : Nat} (hk : v.ownBlock = some k) : ∃ us fz, w.heap[k]? = some (.cells us 5 fz) := by
  rcases h with ⟨rfl, _⟩ | ⟨g, cap, us, fz, rfl, _, hh, _⟩
  · simp [Value.ownBlock] at hk
  · simp [Value.ownBlock] at hk
    subst hk
    exact ⟨us, fz, hh⟩
theorem DataAt.ge {w : World} {B : Nat} {v : Value} {bs : List UInt8} (h : DataAt w B v bs) {k : Nat} (hk : v.ownBlock = some k) : B ≤ k := by
  rcases h with ⟨rfl, _⟩ | ⟨g, cap, us, fz, rfl, hb, _⟩
  · simp [Value.ownBlock] at hk
  · simp [Value.ownBlock] at hk; omega
theorem DataAt.stay {w w' : World} {B : Nat} {v : Value} {bs : List UInt8} {row : Option Nat} (h : DataAt w B v bs) (hg : w.grownBy w' row) (hne : ∀ k, v.ownBlock = some k → row ≠ some k) : DataAt w' B v bs := by
  rcases h with h0 | ⟨g, cap, us, fz, rfl, hb, hh, r⟩
  · exact .inl h0
  · exact .inr ⟨g, cap, us, fz, rfl, hb, heap_stay hh hg (hne g rfl), r⟩
theorem DataAt.keep {w w' : World} {B : Nat} {v : Value} {bs : List UInt8} (h : DataAt w B v bs) (hb : Below w.heap.size w w') : DataAt w' B v bs := h.stay (grown_of hb) (fun _ _ e => by cases e)
theorem DataAt.slice {w : World} {B : Nat} {v : Value} {bs : List UInt8} (h : DataAt w B v bs) : ∃ A c, v = .slice A bs.length c ∧ bs.length ≤ c ∧ c ≤ maxLen ∧ (0 < bs.length → ∃ g, A = some ⟨g, 0, none⟩) := by
  rcases h with ⟨rfl, rfl⟩ | ⟨g, cap, us, fz, rfl, _, _, h1, h2, _⟩
  · exact ⟨none, 0, rfl, Nat.le_refl _, by unfold maxLen; omega, fun h => absurd h (by simp)⟩
  · exact ⟨_, cap, rfl, h1, h2, fun _ => ⟨g, rfl⟩⟩
theorem DataAt.cells {w : World} {B g c : Nat} {bs : List UInt8} (h : DataAt w B (.slice (some ⟨g, 0, none⟩) bs.length c) bs) : g < w.heap.size ∧ B ≤ g ∧ (∀ j, j < c → w.frozen? ⟨g, j, none⟩ = false) ∧ (∀ j, j < c → (w.cell? ⟨g, j, none⟩).isSome = true) ∧ ∀ j b, bs[j]? = some b → w.cell? ⟨g, j, none⟩ = some (.int .u8 b.toNat) := by
  rcases h with ⟨h, _⟩ | ⟨g', cap, us, fz, h, hb, hh, h1, h2, h3, h4, h5⟩
  · cases h
  · injection h with e1 e2 e3
    injection e1 with e1
    injection e1 with e1
    subst e1 e3
    refine ⟨row_lt hh, hb, fun j hj => ?_, fun j hj => ?_, fun j b hb' => ?_⟩
    · unfold World.frozen?
      rw [hh]
      obtain ⟨lo, hi⟩ := fz
      simp only at h4 ⊢
      rcases h4 with h4 | h4
      · rw [Bool.and_eq_false_iff]; left; exact decide_eq_false (by omega)
      · rw [Bool.and_eq_false_iff]; right; exact decide_eq_false (by omega)
    · rw [cell_of_row _ _ _ _ _ _ hh, Array.getElem?_eq_getElem (by omega)]; rfl
    · rw [cell_of_row _ _ _ _ _ _ hh]
      have hj : j < bs.length := (List.getElem?_eq_some_iff.1 hb').1
      have h6 : (us.toList.take bs.length)[j]? = some (.int .u8 b.toNat) := by rw [h5, List.getElem?_map, hb']; rfl
      rw [List.getElem?_take_of_lt hj] at h6
      simpa using h6
theorem DataAt.of_own {w : World} {B n : Nat} {v : Value} {bs : List UInt8} (h : w.ownsRow B 5 1 v n (bV bs)) : DataAt w B v bs := by
  have hl := h.1
  rw [List.length_map, Nat.mul_one] at hl
  rcases h.2 with ⟨rfl, rfl⟩ | ⟨g, cap, cur, rfl, hb, hh, h1, h2, h3, h4⟩
  · exact .inl ⟨rfl, List.eq_nil_of_length_eq_zero hl⟩
  · exact .inr ⟨g, cap, cur, (0, 0), by rw [hl], hb, hh, by omega, h2, by omega, .inr rfl, by rw [hl]; simpa using h4⟩
theorem strCells_eq (s : ByteArray) : strCells s = bV s.data.toList := by unfold strCells; rfl
theorem info_u8 : (Try.prog.info? 5).map (fun i => (i.zero, i.size, i.bytes)) = some (some (.int .u8 0), 1, 1) := by kernel_rfl
/-- 'append(data, text...)'. -/
theorem data_append {w : World} {B : Nat} {v : Value} {bs : List UInt8} (h : DataAt w B v bs) (s : ByteArray) (hl : bs.length ≤ 20000000) (hs : s.size ≤ 20000000) (hB : B ≤ w.heap.size) (ty : TypeId) :
    ∃ v' w', (Builtin.append_ #[55, 9] ty #[v, .string s]).run Try.prog w = .ok v' w' ∧ DataAt w' B v' (bs ++ s.data.toList) ∧ w.grownBy w' v.ownBlock ∧ (∀ k, v'.ownBlock = some k → v.ownBlock = some k ∨ w.heap.size ≤ k) := by
  obtain ⟨i0, hi, hz0, hz1, hz2⟩ := info_parts info_u8
  rcases h with ⟨rfl, rfl⟩ | ⟨g, cap, us, fz, rfl, hb, hh, h1, h2, h3, h4, h5⟩
  · obtain ⟨v', w', e1, e2, e3, _⟩ := run_append_own_string (P := Try.prog) w w.heap.size 55 9 ty 5 i0 Try.underlying55 Try.underlying9 hi hz0 hz1 hz2 (.slice none 0 0) 0 [] (World.ownsRow_nil _ _ _ _) s (by unfold maxLen; omega) (by omega) (Nat.le_refl _)
    rw [List.nil_append, strCells_eq] at e2
    exact ⟨v', w', e1, by rw [List.nil_append]; exact DataAt.of_own (own_down e2 hB), e3, fun k hk => .inr (own_ge e2 hk)⟩
  · by_cases hroom : bs.length + s.size ≤ cap
    · have hC : ∀ j, j < (strCells s).length → (w.cell? ⟨g, bs.length + j, none⟩).isSome = true := fun j hj => by
        rw [strCells_length] at hj
        rw [cell_of_row _ _ _ _ _ _ hh, Array.getElem?_eq_getElem (by omega)]; rfl
      have hF : ∀ j, j < (strCells s).length → w.frozen? ⟨g, bs.length + j, none⟩ = false := fun j hj => by
        rw [strCells_length] at hj
        unfold World.frozen?
        rw [hh]
        obtain ⟨lo, hi⟩ := fz
        simp only at h4 ⊢
        rcases h4 with h4 | h4
        · rw [Bool.and_eq_false_iff]; left; exact decide_eq_false (by omega)
        · rw [Bool.and_eq_false_iff]; right; exact decide_eq_false (by omega)
      have hst := run_storeCells_cells (P := Try.prog) g bs.length (strCells s) 0 w (by simpa using hC) (by simpa using hF) (strCells_oneCell s)
      have hf := run_firstCells_string (P := Try.prog) w 1 s
      simp only [Nat.add_zero] at hst
      have hrun : (Builtin.append_ #[55, 9] ty #[.slice (some ⟨g, 0, none⟩) bs.length cap, .string s]).run Try.prog w = .ok (.slice (some ⟨g, 0, none⟩) (bs.length + s.size) cap) (w.setCells g bs.length (strCells s)) := by
        simp [Builtin.append_, run_underlying Try.underlying55, run_underlying Try.underlying9, sizeOf, typeInfo, hi, hz1, Builtin.lenOf, hroom, hf, Addr.add_lit, hst]
      have hlen : (bs ++ s.data.toList).length = bs.length + s.size := by rw [List.length_append]; rfl
      refine ⟨_, _, hrun, .inr ⟨g, cap, _, fz, by rw [hlen], hb, row_setF g _ fz _ _ _ _ hh, by rw [hlen]; exact hroom, h2, by rw [putL_size]; exact h3, h4, ?_⟩, grown_cells g _ _ w, fun k hk => .inl hk⟩
      rw [putL_list _ _ _ (by rw [strCells_length]; omega), hlen, h5]
      have e1 : (bV bs ++ strCells s).length = bs.length + s.size := by rw [List.length_append, strCells_length]; simp
      rw [← e1, List.take_left, strCells_eq]
      unfold bV
      rw [List.map_append]
    · have hcell : ∀ j u, (bV bs)[j]? = some u → w.cell? ((⟨g, 0, none⟩ : Addr).add j) = some u := fun j u hu => by
        rw [Addr.add_lit, Nat.zero_add, cell_of_row _ _ _ _ _ _ hh]
        rw [← h5] at hu
        rcases Nat.lt_or_ge j bs.length with h6 | h6
        · rw [List.getElem?_take_of_lt h6] at hu; simpa using hu
        · rw [List.getElem?_take_eq_none h6] at hu; cases hu
      have hr := run_append_grow_string (P := Try.prog) w 55 9 ty 5 i0 (.int .u8 0) Try.underlying55 Try.underlying9 hi hz0 ⟨g, 0, none⟩ bs.length cap (bV bs) (by rw [hz1]; simp) hcell s (by omega) (by omega) (by rw [hz2]; exact growslice_fits (by omega) (by omega))
      have hge := grownCap_ge w (bs.length + s.size) cap 5
      have hcm2 : grownCap w (bs.length + s.size) cap 5 ≤ maxLen := grownCap_le_maxLen w (bs.length + s.size) cap 5 (by unfold maxLen; omega)
      have hlen : (bs ++ s.data.toList).length = bs.length + s.size := by rw [List.length_append]; rfl
      refine ⟨_, _, hr, .inr ⟨w.heap.size, _, _, (0, 0), by rw [hlen], hB, heap_alloc_new w.drew _, by rw [hlen]; exact hge, hcm2, ?_, .inr rfl, ?_⟩, ⟨rfl, rfl, rfl, by simp, fun k hk _ => Go.heap_alloc_old w.drew _ hk⟩, fun k hk => .inr ?_⟩
      · have hz1 : (Value.int IntKind.u8 0).cells.size = 1 := rfl
        simp only [Array.size_append, List.size_toArray, size_zeroCells, hz1, strCells_length, List.length_map]
        omega
      · simp only [Array.toList_append, List.append_assoc]
        rw [hlen, ← List.append_assoc]
        have e1 : (bV bs ++ strCells s).length = bs.length + s.size := by rw [List.length_append, strCells_length]; simp
        rw [← e1, List.take_left, strCells_eq]
        unfold bV
        rw [List.map_append]
      · have hkk : w.heap.size = k := by simpa [Value.ownBlock] using hk
        omega
/-- '[]byte(text)'. -/
theorem data_of_text (w : World) (B : Nat) (hB : B ≤ w.heap.size) (s : ByteArray) (hs : s.size ≤ 20000000) : (convert 9 55 (.string s)).run Try.prog w = .ok (.slice (some ⟨w.heap.size, 0, none⟩) s.size (grownCap w s.size 0 5)) (bytesWorld w 5 s) ∧
    DataAt (bytesWorld w 5 s) B (.slice (some ⟨w.heap.size, 0, none⟩) s.size (grownCap w s.size 0 5)) s.data.toList ∧ Below w.heap.size w (bytesWorld w 5 s) ∧ (bytesWorld w 5 s).heap.size = w.heap.size + 1 := by
  have hge := grownCap_ge w s.size 0 5
  have hlen : s.data.toList.length = s.size := rfl
  have hsz : (bytesCells w 5 s).size = grownCap w s.size 0 5 := by
    unfold bytesCells
    simp only [Array.size_append, Array.size_map, Array.size_replicate]
    show s.size + _ = _
    omega
  refine ⟨Go.Lib.run_convert_string_bytes w _ _ _ s Try.underlying9 Try.underlying55 Try.underlying5, .inr ⟨w.heap.size, _, _, _, by rw [hlen], hB, bytesWorld_at_new w _ s, by rw [hlen]; exact hge, grownCap_le_maxLen w s.size 0 5 (by unfold maxLen; omega), hsz, .inl (by rw [hsz]; exact Nat.le_refl _), ?_⟩, ?_, bytesWorld_size w _ s⟩
  · unfold bytesCells
    rw [Array.toList_append, hlen, List.take_append_of_le_length (by simp), List.take_of_length_le (by simp)]
    simp [bV]
  · exact ⟨rfl, rfl, rfl, by rw [bytesWorld_size]; omega, fun k hk => bytesWorld_at_old w _ s k hk⟩
end Go.Proofs.Ytbmogecnepgnaaa
