/- The edges as pairs. -/
import Derived.Test.YthocdmlacfejkaaDoorFew
import Derived.Deep.DeepAppendWide
namespace Go.Proofs.YthocdmlacfejkaaDoor
open Go.RowKit
def flat (es : List (Int × Int)) : List Value := es.flatMap fun e => [.int .i64 e.1, .int .i64 e.2]
theorem flat_snoc (es : List (Int × Int)) (e : Int × Int) : flat (es ++ [e]) = flat es ++ [.int .i64 e.1, .int .i64 e.2] := by unfold flat; simp
theorem flat_at : ∀ {es : List (Int × Int)} {k : Nat} {e : Int × Int}, es[k]? = some e → (flat es)[k * 2]? = some (.int .i64 e.1) ∧ (flat es)[k * 2 + 1]? = some (.int .i64 e.2)
  | [], k, e, h => by simp at h
  | x :: l, 0, e, h => by simp at h; subst h; simp [flat]
  | x :: l, k + 1, e, h => by
    have h' : l[k]? = some e := by simpa using h
    obtain ⟨h1, h2⟩ := flat_at h'
    have e1 : flat (x :: l) = .int .i64 x.1 :: .int .i64 x.2 :: flat l := rfl
    rw [e1, show (k + 1) * 2 = k * 2 + 1 + 1 by omega]
    exact ⟨by simpa using h1, by simpa using h2⟩
theorem own_pairs {w : World} {base : Nat} {T : TypeId} {v : Value} {es : List (Int × Int)} (h : w.ownsRow base T 2 v es.length (flat es)) : ∃ A c, v = .slice A es.length c ∧ EL w A es.length es ∧ ∀ b o, A = some ⟨b, o, none⟩ → base ≤ b := by
  rcases h.2 with ⟨rfl, h0⟩ | ⟨g, cap, cur, rfl, hg, hh, hnc, hcm, hcs, hx⟩
  · have hl : es = [] := List.eq_nil_of_length_eq_zero h0
    subst hl
    exact ⟨none, 0, rfl, ⟨rfl, fun k n hk => by simp at hk⟩, fun b o h => by cases h⟩
  · refine ⟨_, cap, rfl, ⟨rfl, fun k e hk => ?_⟩, fun b o h => by cases h; exact hg⟩
    have hk2 : k < es.length := by
      rcases Nat.lt_or_ge k es.length with h1 | h1
      · exact h1
      · rw [List.getElem?_eq_none h1] at hk; cases hk
    obtain ⟨f1, f2⟩ := flat_at hk
    have e1 : ∀ j, j < es.length * 2 → cur.toList[j]? = (flat es)[j]? := fun j hj => by
      rw [← hx, List.getElem?_take_of_lt hj]
    refine ⟨g, 0, rfl, ?_, ?_, ?_⟩
    · rcases Nat.lt_or_ge g w.heap.size with h1 | h1
      · exact h1
      · rw [Array.getElem?_eq_none h1] at hh; cases hh
    · rw [cell_of_row _ _ _ _ _ _ hh, Nat.zero_add, ← f1, ← e1 _ (by omega)]; simp
    · rw [cell_of_row _ _ _ _ _ _ hh, Nat.zero_add, ← f2, ← e1 _ (by omega)]; simp
theorem EL.other {w : World} {A : Option Addr} {n : Nat} {es : List (Int × Int)} (h : EL w A n es) {q : Nat} (hq : ∀ b o, A = some ⟨b, o, none⟩ → b ≠ q) (i : Nat) (u : Value) : EL (w.setCell ⟨q, i, none⟩ u) A n es :=
  ⟨h.1, fun k e hk => by
    obtain ⟨b, o, e1, hb, c0, c1⟩ := h.2 k e hk
    have hne := hq b o e1
    refine ⟨b, o, e1, by simpa using hb, ?_, ?_⟩
    · rw [World.cell?_of_block (Below.heap_setCell w ⟨q, i, none⟩ u b hne)]; exact c0
    · rw [World.cell?_of_block (Below.heap_setCell w ⟨q, i, none⟩ u b hne)]; exact c1⟩
theorem info_pair : (Tryd.prog.info? 55).map (fun i => (i.zero, i.size, i.bytes)) = some (some (.agg #[.int .i64 0, .int .i64 0]), 2, 16) := by kernel_rfl
set_option maxRecDepth 100000 in
set_option maxHeartbeats 8000000 in
theorem pairs_any (A : Option Addr) (m c : Nat) (es : List (Int × Int)) (w : World) (h : EL w A m es) (hm : m ≤ 100000) :
    Calls Tryd.prog 19 #[.slice A m c] w fun e w' => ∃ v, e = .returned v ∧ w'.ownsRow w.heap.size 55 2 v es.length (flat es) ∧ Below w.heap.size w w' := by
  obtain ⟨i0, hi, hz0, hz1, hz2⟩ := info_parts info_pair
  have hl := h.1
  have E0 := Lib.hid h
  clear h
  go_enter Tryd.func19, Tryd.ntmps19
  go_wp2_with fail
  go_loopw [8, 3] (fun i v wr => ∃ j : Nat, i = .int .i64 (j : Nat) ∧ j ≤ m ∧ wr.ownsRow w.heap.size 55 2 v (es.take j).length (flat (es.take j)) ∧ Below w.heap.size w wr) (fun i _ _ => m - (intOf i).toNat)
  case atStart => exact ⟨0, rfl, Nat.zero_le _, ⟨by simp [flat], .inl ⟨rfl, by simp⟩⟩, Below.refl _ _⟩
  case round =>
    obtain ⟨j, rfl, hj, hown, hb⟩ := hrel
    have O6 := Lib.hid hown
    have B6 := Lib.hid hb
    have E6 := Lib.hid (E0.out.keep hb)
    have hsz := hb.size
    clear hown hb
    obtain ⟨wa, rfl⟩ : ∃ wa : World, wa = wr := ⟨_, rfl⟩
    by_cases hlt : j < m
    · obtain ⟨e, b, o, he, rfl, hbl, c0, c1⟩ := E6.out.at_ hlt
      obtain ⟨x, y⟩ := e
      simp only at c0 c1
      have Hlt := Lib.hid hlt
      have hlen : (es.take j).length = j := by rw [List.length_take]; omega
      have Hs := Lib.hid (show es.take (j + 1) = es.take j ++ [(x, y)] by rw [List.take_add_one, he]; rfl)
      have B7 := Lib.hid (B6.out.alloc B6.out.size (.cells #[.int .i64 x, .int .i64 y] 32))
      have hlen := Lib.hid hlen
      clear he
      go_wp2_with (at_builtin; refine wpList_append_own_wide _ rfl (.tmp 12) (.tmp 18) 33 rfl w.heap.size 55 i0 (.agg #[.int .i64 0, .int .i64 0]) 2 16 Tryd.underlying33 hi hz0 hz1 hz2 rfl (by decide) _ _ _ rfl ((O6.out.alloc _).alloc _) ⟨wa.heap.size + 1, 0, none⟩ 1 1 [.int .i64 x, .int .i64 y] rfl rfl ?c1 ?c2 ?c3 ?c4 ?c5 ?_)
      case c1 =>
        intro k u hu
        match k, hu with
        | 0, hu => simp at hu; subst hu; simp [Addr.add, go_sem]
        | 1, hu => simp at hu; subst hu; simp [Addr.add, go_sem]
      case c2 => intro u hu; simp at hu; rcases hu with rfl | rfl <;> rfl
      case c3 => unfold maxLen; have := hlen.out; omega
      case c4 => have := hlen.out; omega
      case c5 => simp; omega
      intro v' w3 hown' hgrow _
      have B8 := Lib.hid ((B7.out.alloc (by simp; omega) (.cells #[.int .i64 x, .int .i64 y] 55)).grown hgrow (by simp; omega) (fun k hk => own_ge O6.out hk))
      have O8 := Lib.hid (show w3.ownsRow w.heap.size 55 2 v' (es.take (j + 1)).length (flat (es.take (j + 1))) by
        rw [Hs.out, List.length_append, flat_snoc, hlen.out]; exact hown')
      clear hown' hgrow
      go_wp2_with fail
      go_roundw
      case rel => exact ⟨j + 1, by go_num, Hlt.out, O8.out, B8.out⟩
      case measure => simp [intOf]; have := Hlt.out; omega
    · have hjm : es.take j = es := List.take_of_length_le (by omega)
      rw [hjm] at O6
      clear hjm
      go_wp2_with fail
      go_ret
      exact ⟨_, rfl, O6.out, B6.out⟩
end Go.Proofs.YthocdmlacfejkaaDoor
