/- Parse of any text; what text a parsed integer has. -/
import Derived.Test.YtegndbiglehacaaDoorParse
namespace Go.Proofs.YtegndbiglehacaaDoor
open Go.RowKit

set_option maxRecDepth 100000 in
set_option maxHeartbeats 8000000 in
theorem parse_pos (s : ByteArray) (w : World) (hs : s.size ≤ 900) (h0 : 0 < s.size) (x : Nat) (hx : (s[0]).toNat = x) (h45 : x ≠ 45) :
    Calls Tryd.prog 15 #[.string s] w fun e w' => ∃ v, e = .returned (.tuple #[v, .int .i64 (errOf s)]) ∧ (errOf s = 0 → IsInt w.heap.size w' v (signZ (isNeg s) (decV (bodyOf s).data.toList))) ∧ (errOf s ≠ 0 → v = small 0) ∧ Below w.heap.size w w' := by
  have hneg := isNeg_of h0 hx
  have hb : bodyOf s = s := by unfold bodyOf; rw [hneg, decide_eq_false h45]; rfl
  have hx45 : ((x : Int) == 45) = false := by rw [beq_eq_false_iff_ne]; omega
  have He := Lib.hid (errOf_ways hb)
  rw [hneg, decide_eq_false h45, hb]
  obtain ⟨E, hE⟩ : ∃ E, errOf s = E := ⟨_, rfl⟩
  rw [hE] at He ⊢
  clear hE hneg hb
  cases had : allDig s.data.toList
  · have Hdig := Lib.hid (fun w => isDigits_false s w (by omega) (.inl had))
    have hE1 : E = 14 := He.out.2.1 had
    clear had
    subst hE1
    go_enter Tryd.func15, Tryd.ntmps15
    go_wp2_with fail
    refine (Hdig.out _).mono ?_
    rintro e w1 ⟨rfl, rfl⟩
    go_wp2
    exact bodyPost_ret (v := .tuple #[small 0, .int .i64 14]) (by simp [results, Tryd.results15, go_sem]) rfl ⟨_, rfl, fun h => absurd h (by decide), fun _ => rfl, (Below.refl w.heap.size w).alloc (Nat.le_refl _) _⟩
  · rcases Nat.eq_zero_or_pos s.size with hd0 | hd0
    · omega
    · have Hdig := Lib.hid (fun w => isDigits_true s w (by omega) had hd0)
      have hl0 := lead0_of hd0 hx
      by_cases h48 : x = 48
      · by_cases hone : 1 < s.size
        · have hE1 : E = 3 := He.out.2.2.1 had hd0 (by rw [hl0, decide_eq_true h48]) (.inl hone)
          clear hl0 had
          subst hE1
          subst h48
          go_enter Tryd.func15, Tryd.ntmps15
          go_wp2_with fail
          refine (Hdig.out _).mono ?_
          rintro e w1 ⟨rfl, rfl⟩
          go_wp2
          all_goals first | exact bodyPost_ret (v := .tuple #[small 0, .int .i64 3]) (by simp [results, Tryd.results15, go_sem]) rfl ⟨_, rfl, fun h => absurd h (by decide), fun _ => rfl, (Below.refl w.heap.size w).alloc (Nat.le_refl _) _⟩ | exact bodyPost_ret (v := .tuple #[small 0, .int .i64 3]) (by simp [results, Tryd.results15, go_sem]) rfl ⟨_, rfl, rfl, (Below.refl w.heap.size w).alloc (Nat.le_refl _) _⟩
        · have hE1 : E = 0 := He.out.2.2.2 had hd0 (fun h => hone (by omega))
          subst h48
          have Hread := Lib.hid (fun w => readDigits_isL s w (by omega) had)
          clear hl0 had
          subst hE1
          go_enter Tryd.func15, Tryd.ntmps15
          go_wp2_with fail
          refine (Hdig.out _).mono ?_
          rintro e w1 ⟨rfl, rfl⟩
          go_wp2_with fail
          refine (Hread.out _).mono ?_
          rintro e w2 ⟨A, n, c, xs, rfl, hval, hl, hw, ht, hn, hc, hA, hbel⟩
          have Hsig := Lib.hid (signed_any (w.heap.size + 1) A n c xs false w2 hl hw ht hn hc (by have := hbel.size; simpa using this) (by simpa using hA))
          have Hbel := Lib.hid hbel
          rw [hval] at Hsig
          clear hval hl hw ht hbel hA
          go_wp2_with fail
          refine Hsig.out.mono ?_
          rintro e w3 ⟨v, rfl, hint, hbel3⟩
          obtain ⟨a, P, rfl⟩ := hint.form
          have hc3 : w3.heap[w.heap.size]? = some (.cells #[.int .i64 0, .pointer none] 25 (0, 0)) := by
            rw [hbel3.block _ (by have := Hbel.out.size; simp at this; omega), Hbel.out.block _ (by simp)]
            show (w.heap.push _)[w.heap.size]? = _
            rw [Array.getElem?_push, if_pos rfl]
          have k0 : w3.cell? ⟨w.heap.size, 0, none⟩ = some (.int .i64 0) := by rw [cell_of_row _ _ _ _ _ _ hc3]; rfl
          have k1 : w3.cell? ⟨w.heap.size, 1, none⟩ = some (.pointer none) := by rw [cell_of_row _ _ _ _ _ _ hc3]; rfl
          have f0 : w3.frozen? ⟨w.heap.size, 0, none⟩ = false := by simp [World.frozen?, hc3]
          have f1 : w3.frozen? ⟨w.heap.size, 1, none⟩ = false := by simp [World.frozen?, hc3]
          have Hc3 := Lib.hid hc3
          clear hc3
          have Hint := Lib.hid hint
          have Hbel3 := Lib.hid hbel3
          clear hint hbel3
          go_wp2_with fail
          have Hi := Lib.hid (((Hint.out.set_ (i := 0) (u := .int .i64 a)).set_ (i := 1) (u := .pointer P)).mono (Nat.le_succ _))
          have Hb := Lib.hid ((((((Below.refl w.heap.size w).alloc (Nat.le_refl _) _).trans (Hbel.out.mono (by simp))).trans (Hbel3.out.mono (by have := Hbel.out.size; simp at this; omega))).setCell (p := ⟨w.heap.size, 0, none⟩) (Nat.le_refl w.heap.size) (.int .i64 a)).setCell (p := ⟨w.heap.size, 1, none⟩) (Nat.le_refl w.heap.size) (.pointer P))
          exact bodyPost_ret (v := .tuple #[.agg #[.int .i64 a, .pointer P], .int .i64 0]) (by simp [results, Tryd.results15, go_sem, k0, k1]) rfl ⟨_, rfl, fun _ => Hi.out, fun h => absurd rfl h, Hb.out⟩
      · have hE1 : E = 0 := He.out.2.2.2 had hd0 (fun h => by have h1 := h.1; rw [hl0, decide_eq_false h48] at h1; cases h1)
        have hx48 : ((x : Int) == 48) = false := by rw [beq_eq_false_iff_ne]; omega
        have Hread := Lib.hid (fun w => readDigits_isL s w (by omega) had)
        clear hl0 had
        subst hE1
        go_enter Tryd.func15, Tryd.ntmps15
        go_wp2_with fail
        refine (Hdig.out _).mono ?_
        rintro e w1 ⟨rfl, rfl⟩
        go_wp2_with fail
        refine (Hread.out _).mono ?_
        rintro e w2 ⟨A, n, c, xs, rfl, hval, hl, hw, ht, hn, hc, hA, hbel⟩
        have Hsig := Lib.hid (signed_any (w.heap.size + 1) A n c xs false w2 hl hw ht hn hc (by have := hbel.size; simpa using this) (by simpa using hA))
        have Hbel := Lib.hid hbel
        rw [hval] at Hsig
        clear hval hl hw ht hbel hA
        go_wp2_with fail
        refine Hsig.out.mono ?_
        rintro e w3 ⟨v, rfl, hint, hbel3⟩
        obtain ⟨a, P, rfl⟩ := hint.form
        have hc3 : w3.heap[w.heap.size]? = some (.cells #[.int .i64 0, .pointer none] 25 (0, 0)) := by
          rw [hbel3.block _ (by have := Hbel.out.size; simp at this; omega), Hbel.out.block _ (by simp)]
          show (w.heap.push _)[w.heap.size]? = _
          rw [Array.getElem?_push, if_pos rfl]
        have k0 : w3.cell? ⟨w.heap.size, 0, none⟩ = some (.int .i64 0) := by rw [cell_of_row _ _ _ _ _ _ hc3]; rfl
        have k1 : w3.cell? ⟨w.heap.size, 1, none⟩ = some (.pointer none) := by rw [cell_of_row _ _ _ _ _ _ hc3]; rfl
        have f0 : w3.frozen? ⟨w.heap.size, 0, none⟩ = false := by simp [World.frozen?, hc3]
        have f1 : w3.frozen? ⟨w.heap.size, 1, none⟩ = false := by simp [World.frozen?, hc3]
        have Hc3 := Lib.hid hc3
        clear hc3
        have Hint := Lib.hid hint
        have Hbel3 := Lib.hid hbel3
        clear hint hbel3
        go_wp2_with fail
        have Hi := Lib.hid (((Hint.out.set_ (i := 0) (u := .int .i64 a)).set_ (i := 1) (u := .pointer P)).mono (Nat.le_succ _))
        have Hb := Lib.hid ((((((Below.refl w.heap.size w).alloc (Nat.le_refl _) _).trans (Hbel.out.mono (by simp))).trans (Hbel3.out.mono (by have := Hbel.out.size; simp at this; omega))).setCell (p := ⟨w.heap.size, 0, none⟩) (Nat.le_refl w.heap.size) (.int .i64 a)).setCell (p := ⟨w.heap.size, 1, none⟩) (Nat.le_refl w.heap.size) (.pointer P))
        exact bodyPost_ret (v := .tuple #[.agg #[.int .i64 a, .pointer P], .int .i64 0]) (by simp [results, Tryd.results15, go_sem, k0, k1]) rfl ⟨_, rfl, fun _ => Hi.out, fun h => absurd rfl h, Hb.out⟩
set_option maxHeartbeats 1000000 in
theorem parse_empty (s : ByteArray) (w : World) (h0 : s.size = 0) :
    Calls Tryd.prog 15 #[.string s] w fun e w' => e = .returned (.tuple #[small 0, .int .i64 14]) ∧ Below w.heap.size w w' := by
  have Hdig := Lib.hid (fun w => isDigits_false s w (by omega) (.inr h0))
  go_enter Tryd.func15, Tryd.ntmps15
  go_wp2_with fail
  refine (Hdig.out _).mono ?_
  rintro e w1 ⟨rfl, rfl⟩
  go_wp2
  exact bodyPost_ret (v := .tuple #[small 0, .int .i64 14]) (by simp [results, Tryd.results15, go_sem]) rfl ⟨rfl, (Below.refl w.heap.size w).alloc (Nat.le_refl _) _⟩
set_option maxHeartbeats 1000000 in
theorem parse_long (s : ByteArray) (w : World) (h0 : 65536 < s.size) (h1 : s.size ≤ 9223372036854775807) :
    Calls Tryd.prog 15 #[.string s] w fun e w' => e = .returned (.tuple #[small 0, .int .i64 5]) ∧ Below w.heap.size w w' := by
  go_enter Tryd.func15, Tryd.ntmps15
  go_wp2
  exact bodyPost_ret (v := .tuple #[small 0, .int .i64 5]) (by simp [results, Tryd.results15, go_sem]) rfl ⟨rfl, (Below.refl w.heap.size w).alloc (Nat.le_refl _) _⟩
/-- Parse, of any text that is not long. -/
theorem parse_any (s : ByteArray) (w : World) (hs : s.size ≤ 900) :
    Calls Tryd.prog 15 #[.string s] w fun e w' => ∃ v, e = .returned (.tuple #[v, .int .i64 (errOf s)]) ∧ (errOf s = 0 → IsInt w.heap.size w' v (signZ (isNeg s) (decV (bodyOf s).data.toList))) ∧ (errOf s ≠ 0 → v = small 0) ∧ Below w.heap.size w w' := by
  rcases Nat.eq_zero_or_pos s.size with h0 | h0
  · have hb : bodyOf s = s := by unfold bodyOf; rw [isNeg_empty h0]; rfl
    have he := (errOf_ways hb).1 h0
    rw [he]
    refine (parse_empty s w h0).mono ?_
    rintro e w' ⟨rfl, hb⟩
    exact ⟨_, rfl, fun h => absurd h (by decide), fun _ => rfl, hb⟩
  · by_cases h45 : (s[0]).toNat = 45
    · exact parse_neg s w hs h0 h45
    · exact parse_pos s w hs h0 _ rfl h45

theorem sig_byte {c : UInt8} (h : isDig c = true) : (48 : Int) + ((dig c : Nat) : Int) = (c.toNat : Int) := by
  unfold isDig at h
  simp at h
  unfold dig
  omega
/-- The digits of the value of digits: the digits, the last one first. -/
theorem digN_rev : ∀ r : List UInt8, r ≠ [] → allDig r.reverse = true → r.reverse.head? ≠ some 48 → 0 < decV r.reverse ∧ digN (decV r.reverse) = r.map (fun c => ((dig c : Nat) : Int)) := by
  intro r
  induction r with
  | nil => intro h; exact absurd rfl h
  | cons c r ih =>
    intro _ hd hh
    rw [List.reverse_cons] at hd hh ⊢
    unfold allDig at hd
    rw [List.all_append, Bool.and_eq_true] at hd
    have hc : isDig c = true := by simpa using hd.2
    have hlt := dig_lt hc
    rw [decV_snoc]
    cases r with
    | nil =>
      have hne : c ≠ 48 := by simpa using hh
      have hpos : 0 < dig c := by
        rcases Nat.eq_zero_or_pos (dig c) with h | h
        · exfalso
          apply hne
          unfold isDig at hc
          simp at hc
          unfold dig at h
          exact byte_eq (n := 48) (by decide) (by omega)
        · exact h
      rw [show decV ([] : List UInt8).reverse = 0 from rfl, Nat.mul_zero, Nat.zero_add]
      refine ⟨hpos, ?_⟩
      rw [digN_pos (by omega), show dig c / 10 = 0 by omega, digN_zero, show dig c % 10 = dig c by omega]
      rfl
    | cons c' r' =>
      obtain ⟨h1, h2⟩ := ih (by simp) hd.1 (by
        intro h
        apply hh
        rw [List.head?_append, h]
        rfl)
      refine ⟨by omega, ?_⟩
      rw [digN_pos (by omega), show (10 * decV (c' :: r').reverse + dig c) / 10 = decV (c' :: r').reverse by omega, show (10 * decV (c' :: r').reverse + dig c) % 10 = dig c by omega, h2]
      rfl
/-- A text that Check takes is the text of its integer. -/
theorem text_back (l : List UInt8) (h0 : l ≠ []) (hd : allDig l = true) (hh : l.head? ≠ some 48) : 0 < decV l ∧ (sig (digN (decV l))).reverse = l.map fun c => (c.toNat : Int) := by
  have h := digN_rev l.reverse (by simpa using h0) (by rw [List.reverse_reverse]; exact hd) (by rw [List.reverse_reverse]; exact hh)
  rw [List.reverse_reverse] at h
  refine ⟨h.1, ?_⟩
  rw [h.2, sig, List.map_map, List.map_reverse, List.reverse_reverse]
  apply List.map_congr_left
  intro c hc
  unfold allDig at hd
  exact sig_byte (List.all_eq_true.mp hd c hc)
end Go.Proofs.YtegndbiglehacaaDoor
