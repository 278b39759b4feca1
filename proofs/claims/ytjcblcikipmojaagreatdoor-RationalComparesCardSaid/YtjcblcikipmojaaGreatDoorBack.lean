/- The text of a parsed integer is the text. -/
import Derived.Test.YtjcblcikipmojaaGreatDoorSigned
import Derived.Test.YtjcblcikipmojaaGreatDoorWrite2
import Derived.Test.YtjcblcikipmojaaGreatDoorStr2
namespace Go.Proofs.YtjcblcikipmojaaGreatDoor
open Go.RowKit

theorem textOf_pos (neg : Bool) {v : Nat} (h : 0 < v) : textOf neg (digN v) = strOfNums ((if neg then [45] else []) ++ (sig (digN v)).reverse) := by
  unfold textOf
  have hl := digN_pos_len h
  rw [trimTo_full _ (digN_last _), if_neg (by omega), List.take_length]
  unfold outN sig
  simp [List.map_reverse]
theorem str_minus (l : List Int) : (⟨#[45]⟩ : ByteArray) ++ strOfNums l = strOfNums ([45] ++ l) := by
  apply ByteArray.ext
  rw [ByteArray.data_append]
  apply Array.toList_inj.mp
  simp [strOfNums]

set_option maxRecDepth 100000 in
set_option maxHeartbeats 8000000 in
theorem textZ_any (v : Value) (z : Int) (w : World) {B : Nat} (h : IsInt B w v z) (ht : Tab w) :
    Calls Tryz.prog 32 #[v] w fun e w' => e = .returned (.string (textOf (decide (z < 0)) (digN z.natAbs))) ∧ Below w.heap.size w w' := by
  rcases h with ⟨hz, rfl⟩ | ⟨hz, p, A, n, c, xs, rfl, hp, _, _, c0, c1, hl, hc, hn, hw, htt, hval⟩
  · rw [textOf_digN]
    exact text_any z w hz ht
  · have hpos : 0 < z.natAbs := by unfold I64 at hz; omega
    have hb1 := (Below.refl w.heap.size w).alloc (Nat.le_refl _) (.cells #[.int .i64 0, .pointer (some ⟨p, 0, none⟩)] 25)
    have Hcall := Lib.hid (writeDigits_any A n c xs (w.alloc (.cells #[.int .i64 0, .pointer (some ⟨p, 0, none⟩)] 25)) (hl.grow _) hw (by rw [hval]; exact hpos) hn)
    rw [hval] at Hcall
    have Htx := Lib.hid (textOf_pos (decide (z < 0)) hpos)
    have hlen := hl.1
    simp [u64s] at hlen
    have hsz : (strOfNums (sig (digN z.natAbs)).reverse).size ≤ 20000 := by
      rw [strOfNums_size, List.length_reverse, sig, List.length_map]
      have h1 := natVal_lt hw
      rw [hval, hlen] at h1
      have h2 : base n ≤ (10 ^ 20) ^ n := Nat.pow_le_pow_left (by decide) n
      rw [← Nat.pow_mul] at h2
      have := digN_len (20 * n) z.natAbs (by omega)
      omega
    have C0 := Lib.hid c0
    have Hb1 := Lib.hid hb1
    clear hl hw htt hval hb1 hz hlen
    have Hsm := Lib.hid (str_minus (sig (digN z.natAbs)).reverse)
    obtain ⟨U, hU⟩ : ∃ U, strOfNums (sig (digN z.natAbs)).reverse = U := ⟨_, rfl⟩
    rw [hU] at hsz Hcall Hsm
    have HU := Lib.hid hU
    clear hU
    obtain ⟨T, hT⟩ : ∃ T, textOf (decide (z < 0)) (digN z.natAbs) = T := ⟨_, rfl⟩
    rw [hT] at Htx ⊢
    clear hT
    cases hneg : decide (z < 0)
    · rw [hneg] at c0 Htx C0
      go_enter Tryz.func32, Tryz.ntmps32
      go_wp2_with fail
      refine Hcall.out.mono ?_
      rintro e w2 ⟨rfl, hb⟩
      have e0 : w2.cell? ⟨p, 0, none⟩ = some (.bool false) := ((hb.cell (p := ⟨p, 0, none⟩) (by simp; omega)).trans (Hb1.out.cell (p := ⟨p, 0, none⟩) hp)).trans C0.out
      have e1 : w2.cell? ⟨w.heap.size, 0, none⟩ = some (.int .i64 0) := (hb.cell (p := ⟨w.heap.size, 0, none⟩) (by simp)).trans (by simp [go_sem])
      have e2 : w2.cell? ⟨w.heap.size, 1, none⟩ = some (.pointer (some ⟨p, 0, none⟩)) := (hb.cell (p := ⟨w.heap.size, 1, none⟩) (by simp)).trans (by simp [go_sem])
      have Hfin := Lib.hid (Hb1.out.trans (hb.mono (by simp)))
      clear hb
      go_wp2
      go_ret
      exact ⟨by rw [Htx.out, ← HU.out]; rfl, Hfin.out⟩
    · rw [hneg] at c0 Htx C0
      go_enter Tryz.func32, Tryz.ntmps32
      go_wp2_with fail
      refine Hcall.out.mono ?_
      rintro e w2 ⟨rfl, hb⟩
      have e0 : w2.cell? ⟨p, 0, none⟩ = some (.bool true) := ((hb.cell (p := ⟨p, 0, none⟩) (by simp; omega)).trans (Hb1.out.cell (p := ⟨p, 0, none⟩) hp)).trans C0.out
      have e1 : w2.cell? ⟨w.heap.size, 0, none⟩ = some (.int .i64 0) := (hb.cell (p := ⟨w.heap.size, 0, none⟩) (by simp)).trans (by simp [go_sem])
      have e2 : w2.cell? ⟨w.heap.size, 1, none⟩ = some (.pointer (some ⟨p, 0, none⟩)) := (hb.cell (p := ⟨w.heap.size, 1, none⟩) (by simp)).trans (by simp [go_sem])
      have Hfin := Lib.hid (Hb1.out.trans (hb.mono (by simp)))
      clear hb
      go_wp2
      go_ret
      exact ⟨by rw [Htx.out, if_pos trivial, ← Hsm.out]; rfl, Hfin.out⟩
theorem read_len {xs : List Nat} {k : Nat} (ht : Tight xs) (h : natVal xs < 10 ^ k) : xs.length ≤ k := by
  rcases ht with h0 | h0
  · omega
  · have h1 : (10 : Nat) ^ (xs.length - 1) ≤ base (xs.length - 1) := Nat.pow_le_pow_left (by decide) _
    have h2 : xs.length - 1 < k := (Nat.pow_lt_pow_iff_right (by decide : 1 < 10)).mp (by omega)
    omega
theorem readDigits_isL (s : ByteArray) (w : World) (hs : s.size ≤ 900) (hd : allDig s.data.toList = true) :
    Calls Tryz.prog 137 #[.string s] w fun e w' => ∃ (A : Option Addr) (n c : Nat) (xs : List Nat), e = .returned (.slice A n c) ∧ natVal xs = decV s.data.toList ∧ IsL w' A n c (u64s xs) ∧ Words xs ∧ Tight xs ∧ n < 1000 ∧ c ≤ 9223372036854775807 ∧ (∀ a : Addr, A = some a → w.heap.size ≤ a.block) ∧ Below w.heap.size w w' := by
  refine (readDigits_any s w (by omega) hd).mono ?_
  rintro e w' ⟨va, xs, rfl, hval, hw, ht, hown, hbel⟩
  obtain ⟨A, c, rfl, hl, hc⟩ := own_isL hown
  have h1 := decV_lt _ hd
  rw [← hval, str_len] at h1
  have := read_len ht h1
  exact ⟨A, _, c, xs, rfl, hval, hl, hw, ht, by omega, hc, fun a e => own_ge hown (by rw [e]; rfl), hbel⟩
theorem isDigits_true (d : ByteArray) (w : World) (hs : d.size ≤ 900) (had : allDig d.data.toList = true) (h0 : 0 < d.size) :
    Calls Tryz.prog 136 #[.string d] w fun e w' => e = .returned (.bool true) ∧ w = w' := by
  have := isDigits_any d w (by omega)
  rw [had, decide_eq_true h0] at this
  exact this
theorem isDigits_false (d : ByteArray) (w : World) (hs : d.size ≤ 900) (h : allDig d.data.toList = false ∨ d.size = 0) :
    Calls Tryz.prog 136 #[.string d] w fun e w' => e = .returned (.bool false) ∧ w = w' := by
  have := isDigits_any d w (by omega)
  rcases h with h | h
  · rw [h] at this
    exact this
  · rw [decide_eq_false (by omega), Bool.and_false] at this
    exact this
theorem IsInt.form {B : Nat} {w : World} {v : Value} {z : Int} (h : IsInt B w v z) : ∃ a P, v = .agg #[.int .i64 a, .pointer P] := by
  rcases h with ⟨_, rfl⟩ | ⟨_, p, A, n, c, xs, rfl, _⟩
  · exact ⟨_, _, rfl⟩
  · exact ⟨_, _, rfl⟩

set_option maxRecDepth 100000 in
set_option maxHeartbeats 8000000 in
theorem parse_neg (s : ByteArray) (w : World) (hs : s.size ≤ 900) (h0 : 0 < s.size) (hx : (s[0]).toNat = 45) :
    Calls Tryz.prog 104 #[.string s] w fun e w' => ∃ v, e = .returned (.tuple #[v, .int .i64 (errOf s)]) ∧ (errOf s = 0 → IsInt w.heap.size w' v (signZ (isNeg s) (decV (bodyOf s).data.toList))) ∧ (errOf s ≠ 0 → v = small 0) ∧ Below w.heap.size w w' := by
  have hneg := isNeg_of h0 hx
  have hb : bodyOf s = s.extract 1 s.size := by unfold bodyOf; rw [hneg]; rfl
  obtain ⟨d, hd⟩ : ∃ d, s.extract 1 s.size = d := ⟨_, rfl⟩
  have hds : d.size = s.size - 1 := by rw [← hd, tail_size]
  rw [hd] at hb
  have He := Lib.hid (errOf_ways hb)
  rw [hneg, hb]
  obtain ⟨E, hE⟩ : ∃ E, errOf s = E := ⟨_, rfl⟩
  rw [hE] at He ⊢
  clear hE hneg hb
  cases had : allDig d.data.toList
  · have Hdig := Lib.hid (fun w => isDigits_false d w (by omega) (.inl had))
    have hE1 : E = 14 := He.out.2.1 had
    clear had
    subst hE1
    go_enter Tryz.func104, Tryz.ntmps104
    go_wp2_with fail
    refine (Hdig.out _).mono ?_
    rintro e w1 ⟨rfl, rfl⟩
    go_wp2
    exact bodyPost_ret (v := .tuple #[small 0, .int .i64 14]) (by simp [results, Tryz.results104, go_sem]) rfl ⟨_, rfl, fun h => absurd h (by decide), fun _ => rfl, (Below.refl w.heap.size w).alloc (Nat.le_refl _) _⟩
  · rcases Nat.eq_zero_or_pos d.size with hd0 | hd0
    · have Hdig := Lib.hid (fun w => isDigits_false d w (by omega) (.inr hd0))
      have hE1 : E = 14 := He.out.1 hd0
      clear had
      subst hE1
      go_enter Tryz.func104, Tryz.ntmps104
      go_wp2_with fail
      refine (Hdig.out _).mono ?_
      rintro e w1 ⟨rfl, rfl⟩
      go_wp2
      exact bodyPost_ret (v := .tuple #[small 0, .int .i64 14]) (by simp [results, Tryz.results104, go_sem]) rfl ⟨_, rfl, fun h => absurd h (by decide), fun _ => rfl, (Below.refl w.heap.size w).alloc (Nat.le_refl _) _⟩
    · have Hdig := Lib.hid (fun w => isDigits_true d w (by omega) had hd0)
      obtain ⟨y, hy⟩ : ∃ y, (d[0]).toNat = y := ⟨_, rfl⟩
      have hl0 := lead0_of hd0 hy
      by_cases h48 : y = 48
      · have hE1 : E = 3 := He.out.2.2.1 had hd0 (by rw [hl0, decide_eq_true h48]) (by omega)
        clear hl0 had
        subst hE1
        subst h48
        go_enter Tryz.func104, Tryz.ntmps104
        go_wp2_with fail
        refine (Hdig.out _).mono ?_
        rintro e w1 ⟨rfl, rfl⟩
        go_wp2
        all_goals first | exact bodyPost_ret (v := .tuple #[small 0, .int .i64 3]) (by simp [results, Tryz.results104, go_sem]) rfl ⟨_, rfl, fun h => absurd h (by decide), fun _ => rfl, (Below.refl w.heap.size w).alloc (Nat.le_refl _) _⟩ | exact bodyPost_ret (v := .tuple #[small 0, .int .i64 3]) (by simp [results, Tryz.results104, go_sem]) rfl ⟨_, rfl, rfl, (Below.refl w.heap.size w).alloc (Nat.le_refl _) _⟩
      · have hE1 : E = 0 := He.out.2.2.2 had hd0 (fun h => by have h1 := h.1; rw [hl0, decide_eq_false h48] at h1; cases h1)
        have hy48 : ((y : Int) == 48) = false := by rw [beq_eq_false_iff_ne]; omega
        have Hread := Lib.hid (fun w => readDigits_isL d w (by omega) had)
        clear hl0 had
        subst hE1
        go_enter Tryz.func104, Tryz.ntmps104
        go_wp2_with fail
        refine (Hdig.out _).mono ?_
        rintro e w1 ⟨rfl, rfl⟩
        go_wp2_with fail
        refine (Hread.out _).mono ?_
        rintro e w2 ⟨A, n, c, xs, rfl, hval, hl, hw, ht, hn, hc, hA, hbel⟩
        have Hsig := Lib.hid (signed_any (w.heap.size + 1) A n c xs true w2 hl hw ht hn hc (by have := hbel.size; simpa using this) (by simpa using hA))
        have Hbel := Lib.hid hbel
        rw [hval] at Hsig
        clear hval hl hw ht hbel hA
        go_wp2_with fail
        refine Hsig.out.mono ?_
        rintro e w3 ⟨v, rfl, hint, hbel3⟩
        obtain ⟨a, P, rfl⟩ := hint.form
        have hc3 : w3.heap[w.heap.size]? = some (.cells #[.int .i64 0, .pointer none] 25 (0, 0)) := by
          rw [hbel3.block _ (by have := Hbel.out.size; simp at this; omega), Hbel.out.block _ (by simp)]
          show (w.heap.push _)[w.heap.size]? = _
          rw [Array.getElem?_push, if_pos rfl]
        have k0 : w3.cell? ⟨w.heap.size, 0, none⟩ = some (.int .i64 0) := by rw [cell_of_row _ _ _ _ _ _ hc3]; rfl
        have k1 : w3.cell? ⟨w.heap.size, 1, none⟩ = some (.pointer none) := by rw [cell_of_row _ _ _ _ _ _ hc3]; rfl
        have f0 : w3.frozen? ⟨w.heap.size, 0, none⟩ = false := by simp [World.frozen?, hc3]
        have f1 : w3.frozen? ⟨w.heap.size, 1, none⟩ = false := by simp [World.frozen?, hc3]
        have Hc3 := Lib.hid hc3
        clear hc3
        have Hint := Lib.hid hint
        have Hbel3 := Lib.hid hbel3
        clear hint hbel3
        go_wp2_with fail
        have Hi := Lib.hid (((Hint.out.set_ (i := 0) (u := .int .i64 a)).set_ (i := 1) (u := .pointer P)).mono (Nat.le_succ _))
        have Hb := Lib.hid ((((((Below.refl w.heap.size w).alloc (Nat.le_refl _) _).trans (Hbel.out.mono (by simp))).trans (Hbel3.out.mono (by have := Hbel.out.size; simp at this; omega))).setCell (p := ⟨w.heap.size, 0, none⟩) (Nat.le_refl w.heap.size) (.int .i64 a)).setCell (p := ⟨w.heap.size, 1, none⟩) (Nat.le_refl w.heap.size) (.pointer P))
        exact bodyPost_ret (v := .tuple #[.agg #[.int .i64 a, .pointer P], .int .i64 0]) (by simp [results, Tryz.results104, go_sem, k0, k1]) rfl ⟨_, rfl, fun _ => Hi.out, fun h => absurd rfl h, Hb.out⟩
set_option maxRecDepth 100000 in
set_option maxHeartbeats 8000000 in
theorem parse_pos (s : ByteArray) (w : World) (hs : s.size ≤ 900) (h0 : 0 < s.size) (x : Nat) (hx : (s[0]).toNat = x) (h45 : x ≠ 45) :
    Calls Tryz.prog 104 #[.string s] w fun e w' => ∃ v, e = .returned (.tuple #[v, .int .i64 (errOf s)]) ∧ (errOf s = 0 → IsInt w.heap.size w' v (signZ (isNeg s) (decV (bodyOf s).data.toList))) ∧ (errOf s ≠ 0 → v = small 0) ∧ Below w.heap.size w w' := by
  have hneg := isNeg_of h0 hx
  have hb : bodyOf s = s := by unfold bodyOf; rw [hneg, decide_eq_false h45]; rfl
  have hx45 : ((x : Int) == 45) = false := by rw [beq_eq_false_iff_ne]; omega
  have He := Lib.hid (errOf_ways hb)
  rw [hneg, decide_eq_false h45, hb]
  obtain ⟨E, hE⟩ : ∃ E, errOf s = E := ⟨_, rfl⟩
  rw [hE] at He ⊢
  clear hE hneg hb
  cases had : allDig s.data.toList
  · have Hdig := Lib.hid (fun w => isDigits_false s w (by omega) (.inl had))
    have hE1 : E = 14 := He.out.2.1 had
    clear had
    subst hE1
    go_enter Tryz.func104, Tryz.ntmps104
    go_wp2_with fail
    refine (Hdig.out _).mono ?_
    rintro e w1 ⟨rfl, rfl⟩
    go_wp2
    exact bodyPost_ret (v := .tuple #[small 0, .int .i64 14]) (by simp [results, Tryz.results104, go_sem]) rfl ⟨_, rfl, fun h => absurd h (by decide), fun _ => rfl, (Below.refl w.heap.size w).alloc (Nat.le_refl _) _⟩
  · rcases Nat.eq_zero_or_pos s.size with hd0 | hd0
    · omega
    · have Hdig := Lib.hid (fun w => isDigits_true s w (by omega) had hd0)
      have hl0 := lead0_of hd0 hx
      by_cases h48 : x = 48
      · by_cases hone : 1 < s.size
        · have hE1 : E = 3 := He.out.2.2.1 had hd0 (by rw [hl0, decide_eq_true h48]) (.inl hone)
          clear hl0 had
          subst hE1
          subst h48
          go_enter Tryz.func104, Tryz.ntmps104
          go_wp2_with fail
          refine (Hdig.out _).mono ?_
          rintro e w1 ⟨rfl, rfl⟩
          go_wp2
          all_goals first | exact bodyPost_ret (v := .tuple #[small 0, .int .i64 3]) (by simp [results, Tryz.results104, go_sem]) rfl ⟨_, rfl, fun h => absurd h (by decide), fun _ => rfl, (Below.refl w.heap.size w).alloc (Nat.le_refl _) _⟩ | exact bodyPost_ret (v := .tuple #[small 0, .int .i64 3]) (by simp [results, Tryz.results104, go_sem]) rfl ⟨_, rfl, rfl, (Below.refl w.heap.size w).alloc (Nat.le_refl _) _⟩
        · have hE1 : E = 0 := He.out.2.2.2 had hd0 (fun h => hone (by omega))
          subst h48
          have Hread := Lib.hid (fun w => readDigits_isL s w (by omega) had)
          clear hl0 had
          subst hE1
          go_enter Tryz.func104, Tryz.ntmps104
          go_wp2_with fail
          refine (Hdig.out _).mono ?_
          rintro e w1 ⟨rfl, rfl⟩
          go_wp2_with fail
          refine (Hread.out _).mono ?_
          rintro e w2 ⟨A, n, c, xs, rfl, hval, hl, hw, ht, hn, hc, hA, hbel⟩
          have Hsig := Lib.hid (signed_any (w.heap.size + 1) A n c xs false w2 hl hw ht hn hc (by have := hbel.size; simpa using this) (by simpa using hA))
          have Hbel := Lib.hid hbel
          rw [hval] at Hsig
          clear hval hl hw ht hbel hA
          go_wp2_with fail
          refine Hsig.out.mono ?_
          rintro e w3 ⟨v, rfl, hint, hbel3⟩
          obtain ⟨a, P, rfl⟩ := hint.form
          have hc3 : w3.heap[w.heap.size]? = some (.cells #[.int .i64 0, .pointer none] 25 (0, 0)) := by
            rw [hbel3.block _ (by have := Hbel.out.size; simp at this; omega), Hbel.out.block _ (by simp)]
            show (w.heap.push _)[w.heap.size]? = _
            rw [Array.getElem?_push, if_pos rfl]
          have k0 : w3.cell? ⟨w.heap.size, 0, none⟩ = some (.int .i64 0) := by rw [cell_of_row _ _ _ _ _ _ hc3]; rfl
          have k1 : w3.cell? ⟨w.heap.size, 1, none⟩ = some (.pointer none) := by rw [cell_of_row _ _ _ _ _ _ hc3]; rfl
          have f0 : w3.frozen? ⟨w.heap.size, 0, none⟩ = false := by simp [World.frozen?, hc3]
          have f1 : w3.frozen? ⟨w.heap.size, 1, none⟩ = false := by simp [World.frozen?, hc3]
          have Hc3 := Lib.hid hc3
          clear hc3
          have Hint := Lib.hid hint
          have Hbel3 := Lib.hid hbel3
          clear hint hbel3
          go_wp2_with fail
          have Hi := Lib.hid (((Hint.out.set_ (i := 0) (u := .int .i64 a)).set_ (i := 1) (u := .pointer P)).mono (Nat.le_succ _))
          have Hb := Lib.hid ((((((Below.refl w.heap.size w).alloc (Nat.le_refl _) _).trans (Hbel.out.mono (by simp))).trans (Hbel3.out.mono (by have := Hbel.out.size; simp at this; omega))).setCell (p := ⟨w.heap.size, 0, none⟩) (Nat.le_refl w.heap.size) (.int .i64 a)).setCell (p := ⟨w.heap.size, 1, none⟩) (Nat.le_refl w.heap.size) (.pointer P))
          exact bodyPost_ret (v := .tuple #[.agg #[.int .i64 a, .pointer P], .int .i64 0]) (by simp [results, Tryz.results104, go_sem, k0, k1]) rfl ⟨_, rfl, fun _ => Hi.out, fun h => absurd rfl h, Hb.out⟩
      · have hE1 : E = 0 := He.out.2.2.2 had hd0 (fun h => by have h1 := h.1; rw [hl0, decide_eq_false h48] at h1; cases h1)
        have hx48 : ((x : Int) == 48) = false := by rw [beq_eq_false_iff_ne]; omega
        have Hread := Lib.hid (fun w => readDigits_isL s w (by omega) had)
        clear hl0 had
        subst hE1
        go_enter Tryz.func104, Tryz.ntmps104
        go_wp2_with fail
        refine (Hdig.out _).mono ?_
        rintro e w1 ⟨rfl, rfl⟩
        go_wp2_with fail
        refine (Hread.out _).mono ?_
        rintro e w2 ⟨A, n, c, xs, rfl, hval, hl, hw, ht, hn, hc, hA, hbel⟩
        have Hsig := Lib.hid (signed_any (w.heap.size + 1) A n c xs false w2 hl hw ht hn hc (by have := hbel.size; simpa using this) (by simpa using hA))
        have Hbel := Lib.hid hbel
        rw [hval] at Hsig
        clear hval hl hw ht hbel hA
        go_wp2_with fail
        refine Hsig.out.mono ?_
        rintro e w3 ⟨v, rfl, hint, hbel3⟩
        obtain ⟨a, P, rfl⟩ := hint.form
        have hc3 : w3.heap[w.heap.size]? = some (.cells #[.int .i64 0, .pointer none] 25 (0, 0)) := by
          rw [hbel3.block _ (by have := Hbel.out.size; simp at this; omega), Hbel.out.block _ (by simp)]
          show (w.heap.push _)[w.heap.size]? = _
          rw [Array.getElem?_push, if_pos rfl]
        have k0 : w3.cell? ⟨w.heap.size, 0, none⟩ = some (.int .i64 0) := by rw [cell_of_row _ _ _ _ _ _ hc3]; rfl
        have k1 : w3.cell? ⟨w.heap.size, 1, none⟩ = some (.pointer none) := by rw [cell_of_row _ _ _ _ _ _ hc3]; rfl
        have f0 : w3.frozen? ⟨w.heap.size, 0, none⟩ = false := by simp [World.frozen?, hc3]
        have f1 : w3.frozen? ⟨w.heap.size, 1, none⟩ = false := by simp [World.frozen?, hc3]
        have Hc3 := Lib.hid hc3
        clear hc3
        have Hint := Lib.hid hint
        have Hbel3 := Lib.hid hbel3
        clear hint hbel3
        go_wp2_with fail
        have Hi := Lib.hid (((Hint.out.set_ (i := 0) (u := .int .i64 a)).set_ (i := 1) (u := .pointer P)).mono (Nat.le_succ _))
        have Hb := Lib.hid ((((((Below.refl w.heap.size w).alloc (Nat.le_refl _) _).trans (Hbel.out.mono (by simp))).trans (Hbel3.out.mono (by have := Hbel.out.size; simp at this; omega))).setCell (p := ⟨w.heap.size, 0, none⟩) (Nat.le_refl w.heap.size) (.int .i64 a)).setCell (p := ⟨w.heap.size, 1, none⟩) (Nat.le_refl w.heap.size) (.pointer P))
        exact bodyPost_ret (v := .tuple #[.agg #[.int .i64 a, .pointer P], .int .i64 0]) (by simp [results, Tryz.results104, go_sem, k0, k1]) rfl ⟨_, rfl, fun _ => Hi.out, fun h => absurd rfl h, Hb.out⟩
set_option maxHeartbeats 1000000 in
theorem parse_empty (s : ByteArray) (w : World) (h0 : s.size = 0) :
    Calls Tryz.prog 104 #[.string s] w fun e w' => e = .returned (.tuple #[small 0, .int .i64 14]) ∧ Below w.heap.size w w' := by
  have Hdig := Lib.hid (fun w => isDigits_false s w (by omega) (.inr h0))
  go_enter Tryz.func104, Tryz.ntmps104
  go_wp2_with fail
  refine (Hdig.out _).mono ?_
  rintro e w1 ⟨rfl, rfl⟩
  go_wp2
  exact bodyPost_ret (v := .tuple #[small 0, .int .i64 14]) (by simp [results, Tryz.results104, go_sem]) rfl ⟨rfl, (Below.refl w.heap.size w).alloc (Nat.le_refl _) _⟩
set_option maxHeartbeats 1000000 in
theorem parse_long (s : ByteArray) (w : World) (h0 : 65536 < s.size) (h1 : s.size ≤ 9223372036854775807) :
    Calls Tryz.prog 104 #[.string s] w fun e w' => e = .returned (.tuple #[small 0, .int .i64 5]) ∧ Below w.heap.size w w' := by
  go_enter Tryz.func104, Tryz.ntmps104
  go_wp2
  exact bodyPost_ret (v := .tuple #[small 0, .int .i64 5]) (by simp [results, Tryz.results104, go_sem]) rfl ⟨rfl, (Below.refl w.heap.size w).alloc (Nat.le_refl _) _⟩
/-- Parse, of any text that is not long. -/
theorem parse_any (s : ByteArray) (w : World) (hs : s.size ≤ 900) :
    Calls Tryz.prog 104 #[.string s] w fun e w' => ∃ v, e = .returned (.tuple #[v, .int .i64 (errOf s)]) ∧ (errOf s = 0 → IsInt w.heap.size w' v (signZ (isNeg s) (decV (bodyOf s).data.toList))) ∧ (errOf s ≠ 0 → v = small 0) ∧ Below w.heap.size w w' := by
  rcases Nat.eq_zero_or_pos s.size with h0 | h0
  · have hb : bodyOf s = s := by unfold bodyOf; rw [isNeg_empty h0]; rfl
    have he := (errOf_ways hb).1 h0
    rw [he]
    refine (parse_empty s w h0).mono ?_
    rintro e w' ⟨rfl, hb⟩
    exact ⟨_, rfl, fun h => absurd h (by decide), fun _ => rfl, hb⟩
  · by_cases h45 : (s[0]).toNat = 45
    · exact parse_neg s w hs h0 h45
    · exact parse_pos s w hs h0 _ rfl h45

theorem sig_byte {c : UInt8} (h : isDig c = true) : (48 : Int) + ((dig c : Nat) : Int) = (c.toNat : Int) := by
  unfold isDig at h
  simp at h
  unfold dig
  omega
/-- The digits of the value of digits: the digits, the last one first. -/
theorem digN_rev : ∀ r : List UInt8, r ≠ [] → allDig r.reverse = true → r.reverse.head? ≠ some 48 → 0 < decV r.reverse ∧ digN (decV r.reverse) = r.map (fun c => ((dig c : Nat) : Int)) := by
  intro r
  induction r with
  | nil => intro h; exact absurd rfl h
  | cons c r ih =>
    intro _ hd hh
    rw [List.reverse_cons] at hd hh ⊢
    unfold allDig at hd
    rw [List.all_append, Bool.and_eq_true] at hd
    have hc : isDig c = true := by simpa using hd.2
    have hlt := dig_lt hc
    rw [decV_snoc]
    cases r with
    | nil =>
      have hne : c ≠ 48 := by simpa using hh
      have hpos : 0 < dig c := by
        rcases Nat.eq_zero_or_pos (dig c) with h | h
        · exfalso
          apply hne
          unfold isDig at hc
          simp at hc
          unfold dig at h
          exact byte_eq (n := 48) (by decide) (by omega)
        · exact h
      rw [show decV ([] : List UInt8).reverse = 0 from rfl, Nat.mul_zero, Nat.zero_add]
      refine ⟨hpos, ?_⟩
      rw [digN_pos (by omega), show dig c / 10 = 0 by omega, digN_zero, show dig c % 10 = dig c by omega]
      rfl
    | cons c' r' =>
      obtain ⟨h1, h2⟩ := ih (by simp) hd.1 (by
        intro h
        apply hh
        rw [List.head?_append, h]
        rfl)
      refine ⟨by omega, ?_⟩
      rw [digN_pos (by omega), show (10 * decV (c' :: r').reverse + dig c) / 10 = decV (c' :: r').reverse by omega, show (10 * decV (c' :: r').reverse + dig c) % 10 = dig c by omega, h2]
      rfl
/-- A text that Check takes is the text of its integer. -/
theorem text_back (l : List UInt8) (h0 : l ≠ []) (hd : allDig l = true) (hh : l.head? ≠ some 48) : 0 < decV l ∧ (sig (digN (decV l))).reverse = l.map fun c => (c.toNat : Int) := by
  have h := digN_rev l.reverse (by simpa using h0) (by rw [List.reverse_reverse]; exact hd) (by rw [List.reverse_reverse]; exact hh)
  rw [List.reverse_reverse] at h
  refine ⟨h.1, ?_⟩
  rw [h.2, sig, List.map_map, List.map_reverse, List.reverse_reverse]
  apply List.map_congr_left
  intro c hc
  unfold allDig at hd
  exact sig_byte (List.all_eq_true.mp hd c hc)
theorem strOfNums_bytes (l : List UInt8) : strOfNums (l.map fun c => (c.toNat : Int)) = ⟨l.toArray⟩ := by
  unfold strOfNums
  rw [List.map_map]
  congr 2
  conv => rhs; rw [← List.map_id l]
  apply List.map_congr_left
  intro c _
  simp
theorem of_list {s : ByteArray} {l : List UInt8} (h : s.data.toList = l) : (⟨l.toArray⟩ : ByteArray) = s := by
  subst h
  rfl
theorem text_whole {s : ByteArray} (h : errOf s = 0) : textOf (decide (signZ (isNeg s) (decV (bodyOf s).data.toList) < 0)) (digN (signZ (isNeg s) (decV (bodyOf s).data.toList)).natAbs) = s := by
  obtain ⟨d, hd⟩ : ∃ d, bodyOf s = d := ⟨_, rfl⟩
  obtain ⟨e1, e2, e3, _⟩ := errOf_ways hd
  rw [h] at e1 e2 e3
  rw [hd, signZ_abs]
  have hall : allDig d.data.toList = true := by
    cases hx : allDig d.data.toList
    · exact absurd (e2 hx) (by decide)
    · rfl
  have hpos : 0 < d.size := by
    rcases Nat.eq_zero_or_pos d.size with hx | hx
    · exact absurd (e1 hx) (by decide)
    · exact hx
  cases hl : lead0 d
  · have hh : d.data.toList.head? ≠ some 48 := by
      unfold lead0 at hl
      exact beq_eq_false_iff_ne.mp hl
    obtain ⟨hv, hs⟩ := text_back d.data.toList (by intro hx; have h2 := str_len d; rw [hx] at h2; simp at h2; omega) hall hh
    rw [signZ_neg hv, textOf_pos _ hv, hs]
    cases hn : isNeg s
    · have : bodyOf s = s := by unfold bodyOf; rw [hn]; rfl
      rw [this] at hd
      subst hd
      simp only [Bool.false_eq_true, if_false, List.nil_append]
      exact (strOfNums_bytes _).trans (of_list rfl)
    · have hb : bodyOf s = s.extract 1 s.size := by unfold bodyOf; rw [hn]; rfl
      rw [hb] at hd
      subst hd
      rw [extract_data]
      have hcons : s.data.toList = 45 :: s.data.toList.drop 1 := by
        unfold isNeg at hn
        have h45 := eq_of_beq hn
        cases hx : s.data.toList with
        | nil => rw [hx] at h45; cases h45
        | cons a m =>
          rw [hx] at h45
          simp at h45
          rw [h45]
          rfl
      rw [if_pos rfl]
      have := strOfNums_bytes (45 :: s.data.toList.drop 1)
      rw [List.map_cons] at this
      exact this.trans (of_list hcons)
  · have hone : ¬ (1 < d.size ∨ 1 < s.size) := fun hx => absurd (e3 hall hpos hl hx) (by decide)
    cases hn : isNeg s
    · have : bodyOf s = s := by unfold bodyOf; rw [hn]; rfl
      rw [this] at hd
      subst hd
      have hlist : s.data.toList = [48] := by
        unfold lead0 at hl
        have h48 := eq_of_beq hl
        cases hx : s.data.toList with
        | nil => rw [hx] at h48; cases h48
        | cons a m =>
          rw [hx] at h48
          simp at h48
          have hlen := str_len s
          rw [hx] at hlen
          simp at hlen
          have : m = [] := List.eq_nil_of_length_eq_zero (by omega)
          rw [h48, this]
      rw [hlist]
      have hz : decV [48] = 0 := by decide
      rw [hz, digN_zero]
      exact of_list hlist
    · exfalso
      have hb : bodyOf s = s.extract 1 s.size := by unfold bodyOf; rw [hn]; rfl
      have := tail_size s
      rw [← hb, hd] at this
      omega
end Go.Proofs.YtjcblcikipmojaaGreatDoor
