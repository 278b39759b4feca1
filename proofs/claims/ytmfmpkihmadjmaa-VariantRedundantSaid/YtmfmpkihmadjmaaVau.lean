/- What the laws of families share: the reference's allowed sets; the literals of descriptions are low. -/
import Derived.Test.YtmfmpkihmadjmaaVaq
namespace Go.Proofs.Ytmfmpkihmadjmaa
open Go.RowKit Go.Shelf
theorem put10 (a0 a1 a2 a3 a4 a5 a6 a7 a8 a9 : Value) : putL #[.string { data := #[] }, .slice none 0 0, .slice none 0 0, .slice none 0 0, .slice none 0 0, .slice none 0 0, .slice none 0 0, .slice none 0 0, .slice none 0 0, .slice none 0 0] 0 [a0, a1, a2, a3, a4, a5, a6, a7, a8, a9] = #[a0, a1, a2, a3, a4, a5, a6, a7, a8, a9] := by simp [putL]
/-- The family of a description, in a variable. -/
def Started (w : World) (m : Nat) (kr kg kv : List (List Int)) (s : Value) (x : World) : Prop :=
  ∃ p f, s = .pointer (some ⟨p, 0, none⟩) ∧ w.heap.size ≤ p ∧ Cells x p f.cells.toList ∧ f.n = 1 + m ∧ FamOK x f (famO (1 + m)) (famR (1 + m) kr) (famG (1 + m) kg) (famV (1 + m) kv) plainD ∧ Below w.heap.size w x
theorem famR_low {n : Nat} (ks : List (List Int)) : ∀ r ∈ famR n ks, LowN n r.2 := fun r hr => by
  unfold famR at hr
  obtain ⟨i, _, rfl⟩ := List.mem_map.1 hr
  exact decN_low n _
theorem famR_low6 {n : Nat} (hn : n ≤ 6) (ks : List (List Int)) : ∀ r ∈ famR n ks, (∀ l ∈ r.2, l.1 < 6) ∧ r.2.length ≤ 1000 := fun r hr => by
  have h1 := famR_low ks r hr
  obtain ⟨_, h2, _⟩ := (famR_ok n ks hn).1 r hr
  exact ⟨fun l hl => Nat.lt_of_lt_of_le (h1 l hl) hn, by omega⟩
theorem own_bools {w : World} {B n : Nat} {v : Value} {l : List Bool} (h : w.ownsRow B 4 1 v n (l.map .bool)) (_hl : l.length = n) : ∃ A c, v = .slice A n c ∧ BoolL w A l := by
  obtain ⟨A, c, rfl, _, _, _, hx⟩ := own_row h
  refine ⟨A, c, rfl, fun k x hk => ?_⟩
  obtain ⟨g, e1, e2, e3, e4⟩ := hx k (.bool x) (by rw [List.getElem?_map, hk]; rfl)
  exact ⟨g, 0, e1, e3, by rw [Nat.zero_add]; exact e4⟩
/-- What the reference says of forced options. -/
theorem frcR_yes {l : List Nat} {j : Nat} (h : ((l.all fun s => s.testBit j) || (l.all fun s => !s.testBit j)) = true) : frcR l (j + 1) = frcR l j ++ [(j, l.all fun s => s.testBit j)] := by
  unfold frcR
  rw [List.range_succ, List.filterMap_append]
  simp only [List.filterMap_cons, List.filterMap_nil, h, if_true]
theorem frcR_no {l : List Nat} {j : Nat} (h : ((l.all fun s => s.testBit j) || (l.all fun s => !s.testBit j)) = false) : frcR l (j + 1) = frcR l j := by
  unfold frcR
  rw [List.range_succ, List.filterMap_append]
  simp only [List.filterMap_cons, List.filterMap_nil, h, Bool.false_eq_true, if_false, List.append_nil]
theorem frcR_len (l : List Nat) (j : Nat) : (frcR l j).length ≤ j := by
  unfold frcR
  refine Nat.le_trans (List.length_filterMap_le _ _) (by simp)
theorem ALR_lt {n : Nat} (hn : n ≤ 6) {rs : List (ByteArray × List (Nat × Bool))} {out : List Bool} {ch : List (Nat × Bool)} : ∀ s ∈ ALR n rs out ch, s < 64 := fun s hs => setsN_lt hn s (List.mem_filter.1 hs).1
theorem setsN_len (n : Nat) : (setsN n).length = 2 ^ n := by unfold setsN; exact setsU_len _ _
theorem ALR_short {n : Nat} (hn : n ≤ 6) {rs : List (ByteArray × List (Nat × Bool))} {out : List Bool} {ch : List (Nat × Bool)} : (ALR n rs out ch).length ≤ 64 := by
  refine Nat.le_trans (List.length_filter_le _ _) ?_
  rw [setsN_len]
  exact Nat.pow_le_pow_right (by decide) hn
theorem take_all {p : Nat → Bool} {l : List Nat} {k x : Nat} (h : l[k]? = some x) : (l.take (k + 1)).all p = ((l.take k).all p && p x) := by
  rw [List.take_add_one, h, List.all_append]
  simp
/-- none and allowed, of a family in memory. -/
theorem allowedN_any (f : Fm) (os : List ByteArray) (rs : List (ByteArray × List (Nat × Bool))) (gs : List (Nat × List (Nat × Bool))) (vs : List Ov) (ds : List Dm) (XA : Option Addr) (xc : Nat) (A : Option Addr) (m d : Nat) (ch : List (Nat × Bool)) (w : World) (h : FamOK w f os rs gs vs ds) (hn : 0 < f.n) (hn6 : f.n ≤ 6) (hlow : ∀ r ∈ rs, (∀ l ∈ r.2, l.1 < 6) ∧ r.2.length ≤ 1000) (ho : BoolL w XA (List.replicate rs.length false)) (hch : LitL w A (lc ch)) (hcl : ch.length = m) (hcm : m ≤ 1000) (hclow : ∀ l ∈ ch, l.1 < 6) :
    Calls Try.prog 23 #[f.v, .slice XA f.rn xc, .slice A m d] w fun e w' => ∃ B c, e = .returned (.slice B (ALR f.n rs (List.replicate rs.length false) ch).length c) ∧ NatL w' B (ALR f.n rs (List.replicate rs.length false) ch) ∧ Below w.heap.size w w' := by
  refine (allowedR_any f rs XA xc _ A m d ch w hn hn6 h.rsL h.rsl (by have := h.r48; omega) hlow ho (by rw [List.length_replicate]; exact h.rsl) hch hcl hcm hclow).mono ?_
  rintro e w' ⟨v, rfl, hown, hb⟩
  obtain ⟨B, c, rfl, hN⟩ := own_nats hown rfl
  exact ⟨B, c, rfl, hN, hb⟩
theorem noneN_any (f : Fm) (os : List ByteArray) (rs : List (ByteArray × List (Nat × Bool))) (gs : List (Nat × List (Nat × Bool))) (vs : List Ov) (ds : List Dm) (w : World) (h : FamOK w f os rs gs vs ds) :
    Calls Try.prog 17 #[f.v] w fun e w' => ∃ XA xc, e = .returned (.slice XA f.rn xc) ∧ BoolL w' XA (List.replicate rs.length false) ∧ Below w.heap.size w w' := by
  refine (none_any f w (by have := h.r48; omega)).mono ?_
  rintro e w' ⟨v, rfl, hown, hb⟩
  rw [show List.replicate f.rn (Value.bool false) = (List.replicate rs.length false).map .bool by rw [List.map_replicate, h.rsl]] at hown
  obtain ⟨XA, xc, rfl, hB⟩ := own_bools hown (by rw [List.length_replicate]; exact h.rsl)
  exact ⟨XA, xc, rfl, hB, hb⟩
end Go.Proofs.Ytmfmpkihmadjmaa
