/- The text of a parsed integer is the text. -/
import Derived.Test.YtegndbiglehacaaDoorParse3
namespace Go.Proofs.YtegndbiglehacaaDoor
open Go.RowKit

theorem strOfNums_bytes (l : List UInt8) : strOfNums (l.map fun c => (c.toNat : Int)) = ⟨l.toArray⟩ := by
  unfold strOfNums
  rw [List.map_map]
  congr 2
  conv => rhs; rw [← List.map_id l]
  apply List.map_congr_left
  intro c _
  simp
theorem of_list {s : ByteArray} {l : List UInt8} (h : s.data.toList = l) : (⟨l.toArray⟩ : ByteArray) = s := by
  subst h
  rfl
theorem text_whole {s : ByteArray} (h : errOf s = 0) : textOf (decide (signZ (isNeg s) (decV (bodyOf s).data.toList) < 0)) (digN (signZ (isNeg s) (decV (bodyOf s).data.toList)).natAbs) = s := by
  obtain ⟨d, hd⟩ : ∃ d, bodyOf s = d := ⟨_, rfl⟩
  obtain ⟨e1, e2, e3, _⟩ := errOf_ways hd
  rw [h] at e1 e2 e3
  rw [hd, signZ_abs]
  have hall : allDig d.data.toList = true := by
    cases hx : allDig d.data.toList
    · exact absurd (e2 hx) (by decide)
    · rfl
  have hpos : 0 < d.size := by
    rcases Nat.eq_zero_or_pos d.size with hx | hx
    · exact absurd (e1 hx) (by decide)
    · exact hx
  cases hl : lead0 d
  · have hh : d.data.toList.head? ≠ some 48 := by
      unfold lead0 at hl
      exact beq_eq_false_iff_ne.mp hl
    obtain ⟨hv, hs⟩ := text_back d.data.toList (by intro hx; have h2 := str_len d; rw [hx] at h2; simp at h2; omega) hall hh
    rw [signZ_neg hv, textOf_pos _ hv, hs]
    cases hn : isNeg s
    · have : bodyOf s = s := by unfold bodyOf; rw [hn]; rfl
      rw [this] at hd
      subst hd
      simp only [Bool.false_eq_true, if_false, List.nil_append]
      exact (strOfNums_bytes _).trans (of_list rfl)
    · have hb : bodyOf s = s.extract 1 s.size := by unfold bodyOf; rw [hn]; rfl
      rw [hb] at hd
      subst hd
      rw [extract_data]
      have hcons : s.data.toList = 45 :: s.data.toList.drop 1 := by
        unfold isNeg at hn
        have h45 := eq_of_beq hn
        cases hx : s.data.toList with
        | nil => rw [hx] at h45; cases h45
        | cons a m =>
          rw [hx] at h45
          simp at h45
          rw [h45]
          rfl
      rw [if_pos rfl]
      have := strOfNums_bytes (45 :: s.data.toList.drop 1)
      rw [List.map_cons] at this
      exact this.trans (of_list hcons)
  · have hone : ¬ (1 < d.size ∨ 1 < s.size) := fun hx => absurd (e3 hall hpos hl hx) (by decide)
    cases hn : isNeg s
    · have : bodyOf s = s := by unfold bodyOf; rw [hn]; rfl
      rw [this] at hd
      subst hd
      have hlist : s.data.toList = [48] := by
        unfold lead0 at hl
        have h48 := eq_of_beq hl
        cases hx : s.data.toList with
        | nil => rw [hx] at h48; cases h48
        | cons a m =>
          rw [hx] at h48
          simp at h48
          have hlen := str_len s
          rw [hx] at hlen
          simp at hlen
          have : m = [] := List.eq_nil_of_length_eq_zero (by omega)
          rw [h48, this]
      rw [hlist]
      have hz : decV [48] = 0 := by decide
      rw [hz, digN_zero]
      exact of_list hlist
    · exfalso
      have hb : bodyOf s = s.extract 1 s.size := by unfold bodyOf; rw [hn]; rfl
      have := tail_size s
      rw [← hb, hd] at this
      omega
end Go.Proofs.YtegndbiglehacaaDoor
