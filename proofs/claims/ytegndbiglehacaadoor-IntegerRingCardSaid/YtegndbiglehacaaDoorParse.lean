/- Parse: its walk. -/
import Derived.Test.YtegndbiglehacaaDoorSigned
import Derived.Test.YtegndbiglehacaaDoorWrite2
import Derived.Test.YtegndbiglehacaaDoorStr2
namespace Go.Proofs.YtegndbiglehacaaDoor
open Go.RowKit

theorem textOf_pos (neg : Bool) {v : Nat} (h : 0 < v) : textOf neg (digN v) = strOfNums ((if neg then [45] else []) ++ (sig (digN v)).reverse) := by
  unfold textOf
  have hl := digN_pos_len h
  rw [trimTo_full _ (digN_last _), if_neg (by omega), List.take_length]
  unfold outN sig
  simp [List.map_reverse]
theorem str_minus (l : List Int) : (⟨#[45]⟩ : ByteArray) ++ strOfNums l = strOfNums ([45] ++ l) := by
  apply ByteArray.ext
  rw [ByteArray.data_append]
  apply Array.toList_inj.mp
  simp [strOfNums]

set_option maxRecDepth 100000 in
set_option maxHeartbeats 8000000 in
theorem textZ_any (v : Value) (z : Int) (w : World) {B : Nat} (h : IsInt B w v z) (ht : Tab w) :
    Calls Tryd.prog 17 #[v] w fun e w' => e = .returned (.string (textOf (decide (z < 0)) (digN z.natAbs))) ∧ Below w.heap.size w w' := by
  rcases h with ⟨hz, rfl⟩ | ⟨hz, p, A, n, c, xs, rfl, hp, _, _, c0, c1, hl, hc, hn, hw, htt, hval⟩
  · rw [textOf_digN]
    exact text_any z w hz ht
  · have hpos : 0 < z.natAbs := by unfold I64 at hz; omega
    have hb1 := (Below.refl w.heap.size w).alloc (Nat.le_refl _) (.cells #[.int .i64 0, .pointer (some ⟨p, 0, none⟩)] 25)
    have Hcall := Lib.hid (writeDigits_any A n c xs (w.alloc (.cells #[.int .i64 0, .pointer (some ⟨p, 0, none⟩)] 25)) (hl.grow _) hw (by rw [hval]; exact hpos) hn)
    rw [hval] at Hcall
    have Htx := Lib.hid (textOf_pos (decide (z < 0)) hpos)
    have hlen := hl.1
    simp [u64s] at hlen
    have hsz : (strOfNums (sig (digN z.natAbs)).reverse).size ≤ 20000 := by
      rw [strOfNums_size, List.length_reverse, sig, List.length_map]
      have h1 := natVal_lt hw
      rw [hval, hlen] at h1
      have h2 : base n ≤ (10 ^ 20) ^ n := Nat.pow_le_pow_left (by decide) n
      rw [← Nat.pow_mul] at h2
      have := digN_len (20 * n) z.natAbs (by omega)
      omega
    have C0 := Lib.hid c0
    have Hb1 := Lib.hid hb1
    clear hl hw htt hval hb1 hz hlen
    have Hsm := Lib.hid (str_minus (sig (digN z.natAbs)).reverse)
    obtain ⟨U, hU⟩ : ∃ U, strOfNums (sig (digN z.natAbs)).reverse = U := ⟨_, rfl⟩
    rw [hU] at hsz Hcall Hsm
    have HU := Lib.hid hU
    clear hU
    obtain ⟨T, hT⟩ : ∃ T, textOf (decide (z < 0)) (digN z.natAbs) = T := ⟨_, rfl⟩
    rw [hT] at Htx ⊢
    clear hT
    cases hneg : decide (z < 0)
    · rw [hneg] at c0 Htx C0
      go_enter Tryd.func17, Tryd.ntmps17
      go_wp2_with fail
      refine Hcall.out.mono ?_
      rintro e w2 ⟨rfl, hb⟩
      have e0 : w2.cell? ⟨p, 0, none⟩ = some (.bool false) := ((hb.cell (p := ⟨p, 0, none⟩) (by simp; omega)).trans (Hb1.out.cell (p := ⟨p, 0, none⟩) hp)).trans C0.out
      have e1 : w2.cell? ⟨w.heap.size, 0, none⟩ = some (.int .i64 0) := (hb.cell (p := ⟨w.heap.size, 0, none⟩) (by simp)).trans (by simp [go_sem])
      have e2 : w2.cell? ⟨w.heap.size, 1, none⟩ = some (.pointer (some ⟨p, 0, none⟩)) := (hb.cell (p := ⟨w.heap.size, 1, none⟩) (by simp)).trans (by simp [go_sem])
      have Hfin := Lib.hid (Hb1.out.trans (hb.mono (by simp)))
      clear hb
      go_wp2
      go_ret
      exact ⟨by rw [Htx.out, ← HU.out]; rfl, Hfin.out⟩
    · rw [hneg] at c0 Htx C0
      go_enter Tryd.func17, Tryd.ntmps17
      go_wp2_with fail
      refine Hcall.out.mono ?_
      rintro e w2 ⟨rfl, hb⟩
      have e0 : w2.cell? ⟨p, 0, none⟩ = some (.bool true) := ((hb.cell (p := ⟨p, 0, none⟩) (by simp; omega)).trans (Hb1.out.cell (p := ⟨p, 0, none⟩) hp)).trans C0.out
      have e1 : w2.cell? ⟨w.heap.size, 0, none⟩ = some (.int .i64 0) := (hb.cell (p := ⟨w.heap.size, 0, none⟩) (by simp)).trans (by simp [go_sem])
      have e2 : w2.cell? ⟨w.heap.size, 1, none⟩ = some (.pointer (some ⟨p, 0, none⟩)) := (hb.cell (p := ⟨w.heap.size, 1, none⟩) (by simp)).trans (by simp [go_sem])
      have Hfin := Lib.hid (Hb1.out.trans (hb.mono (by simp)))
      clear hb
      go_wp2
      go_ret
      exact ⟨by rw [Htx.out, if_pos trivial, ← Hsm.out]; rfl, Hfin.out⟩
theorem read_len {xs : List Nat} {k : Nat} (ht : Tight xs) (h : natVal xs < 10 ^ k) : xs.length ≤ k := by
  rcases ht with h0 | h0
  · omega
  · have h1 : (10 : Nat) ^ (xs.length - 1) ≤ base (xs.length - 1) := Nat.pow_le_pow_left (by decide) _
    have h2 : xs.length - 1 < k := (Nat.pow_lt_pow_iff_right (by decide : 1 < 10)).mp (by omega)
    omega
theorem readDigits_isL (s : ByteArray) (w : World) (hs : s.size ≤ 900) (hd : allDig s.data.toList = true) :
    Calls Tryd.prog 47 #[.string s] w fun e w' => ∃ (A : Option Addr) (n c : Nat) (xs : List Nat), e = .returned (.slice A n c) ∧ natVal xs = decV s.data.toList ∧ IsL w' A n c (u64s xs) ∧ Words xs ∧ Tight xs ∧ n < 1000 ∧ c ≤ 9223372036854775807 ∧ (∀ a : Addr, A = some a → w.heap.size ≤ a.block) ∧ Below w.heap.size w w' := by
  refine (readDigits_any s w (by omega) hd).mono ?_
  rintro e w' ⟨va, xs, rfl, hval, hw, ht, hown, hbel⟩
  obtain ⟨A, c, rfl, hl, hc⟩ := own_isL hown
  have h1 := decV_lt _ hd
  rw [← hval, str_len] at h1
  have := read_len ht h1
  exact ⟨A, _, c, xs, rfl, hval, hl, hw, ht, by omega, hc, fun a e => own_ge hown (by rw [e]; rfl), hbel⟩
theorem isDigits_true (d : ByteArray) (w : World) (hs : d.size ≤ 900) (had : allDig d.data.toList = true) (h0 : 0 < d.size) :
    Calls Tryd.prog 45 #[.string d] w fun e w' => e = .returned (.bool true) ∧ w = w' := by
  have := isDigits_any d w (by omega)
  rw [had, decide_eq_true h0] at this
  exact this
theorem isDigits_false (d : ByteArray) (w : World) (hs : d.size ≤ 900) (h : allDig d.data.toList = false ∨ d.size = 0) :
    Calls Tryd.prog 45 #[.string d] w fun e w' => e = .returned (.bool false) ∧ w = w' := by
  have := isDigits_any d w (by omega)
  rcases h with h | h
  · rw [h] at this
    exact this
  · rw [decide_eq_false (by omega), Bool.and_false] at this
    exact this
theorem IsInt.form {B : Nat} {w : World} {v : Value} {z : Int} (h : IsInt B w v z) : ∃ a P, v = .agg #[.int .i64 a, .pointer P] := by
  rcases h with ⟨_, rfl⟩ | ⟨_, p, A, n, c, xs, rfl, _⟩
  · exact ⟨_, _, rfl⟩
  · exact ⟨_, _, rfl⟩

set_option maxRecDepth 100000 in
set_option maxHeartbeats 8000000 in
theorem parse_neg (s : ByteArray) (w : World) (hs : s.size ≤ 900) (h0 : 0 < s.size) (hx : (s[0]).toNat = 45) :
    Calls Tryd.prog 15 #[.string s] w fun e w' => ∃ v, e = .returned (.tuple #[v, .int .i64 (errOf s)]) ∧ (errOf s = 0 → IsInt w.heap.size w' v (signZ (isNeg s) (decV (bodyOf s).data.toList))) ∧ (errOf s ≠ 0 → v = small 0) ∧ Below w.heap.size w w' := by
  have hneg := isNeg_of h0 hx
  have hb : bodyOf s = s.extract 1 s.size := by unfold bodyOf; rw [hneg]; rfl
  obtain ⟨d, hd⟩ : ∃ d, s.extract 1 s.size = d := ⟨_, rfl⟩
  have hds : d.size = s.size - 1 := by rw [← hd, tail_size]
  rw [hd] at hb
  have He := Lib.hid (errOf_ways hb)
  rw [hneg, hb]
  obtain ⟨E, hE⟩ : ∃ E, errOf s = E := ⟨_, rfl⟩
  rw [hE] at He ⊢
  clear hE hneg hb
  cases had : allDig d.data.toList
  · have Hdig := Lib.hid (fun w => isDigits_false d w (by omega) (.inl had))
    have hE1 : E = 14 := He.out.2.1 had
    clear had
    subst hE1
    go_enter Tryd.func15, Tryd.ntmps15
    go_wp2_with fail
    refine (Hdig.out _).mono ?_
    rintro e w1 ⟨rfl, rfl⟩
    go_wp2
    exact bodyPost_ret (v := .tuple #[small 0, .int .i64 14]) (by simp [results, Tryd.results15, go_sem]) rfl ⟨_, rfl, fun h => absurd h (by decide), fun _ => rfl, (Below.refl w.heap.size w).alloc (Nat.le_refl _) _⟩
  · rcases Nat.eq_zero_or_pos d.size with hd0 | hd0
    · have Hdig := Lib.hid (fun w => isDigits_false d w (by omega) (.inr hd0))
      have hE1 : E = 14 := He.out.1 hd0
      clear had
      subst hE1
      go_enter Tryd.func15, Tryd.ntmps15
      go_wp2_with fail
      refine (Hdig.out _).mono ?_
      rintro e w1 ⟨rfl, rfl⟩
      go_wp2
      exact bodyPost_ret (v := .tuple #[small 0, .int .i64 14]) (by simp [results, Tryd.results15, go_sem]) rfl ⟨_, rfl, fun h => absurd h (by decide), fun _ => rfl, (Below.refl w.heap.size w).alloc (Nat.le_refl _) _⟩
    · have Hdig := Lib.hid (fun w => isDigits_true d w (by omega) had hd0)
      obtain ⟨y, hy⟩ : ∃ y, (d[0]).toNat = y := ⟨_, rfl⟩
      have hl0 := lead0_of hd0 hy
      by_cases h48 : y = 48
      · have hE1 : E = 3 := He.out.2.2.1 had hd0 (by rw [hl0, decide_eq_true h48]) (by omega)
        clear hl0 had
        subst hE1
        subst h48
        go_enter Tryd.func15, Tryd.ntmps15
        go_wp2_with fail
        refine (Hdig.out _).mono ?_
        rintro e w1 ⟨rfl, rfl⟩
        go_wp2
        all_goals first | exact bodyPost_ret (v := .tuple #[small 0, .int .i64 3]) (by simp [results, Tryd.results15, go_sem]) rfl ⟨_, rfl, fun h => absurd h (by decide), fun _ => rfl, (Below.refl w.heap.size w).alloc (Nat.le_refl _) _⟩ | exact bodyPost_ret (v := .tuple #[small 0, .int .i64 3]) (by simp [results, Tryd.results15, go_sem]) rfl ⟨_, rfl, rfl, (Below.refl w.heap.size w).alloc (Nat.le_refl _) _⟩
      · have hE1 : E = 0 := He.out.2.2.2 had hd0 (fun h => by have h1 := h.1; rw [hl0, decide_eq_false h48] at h1; cases h1)
        have hy48 : ((y : Int) == 48) = false := by rw [beq_eq_false_iff_ne]; omega
        have Hread := Lib.hid (fun w => readDigits_isL d w (by omega) had)
        clear hl0 had
        subst hE1
        go_enter Tryd.func15, Tryd.ntmps15
        go_wp2_with fail
        refine (Hdig.out _).mono ?_
        rintro e w1 ⟨rfl, rfl⟩
        go_wp2_with fail
        refine (Hread.out _).mono ?_
        rintro e w2 ⟨A, n, c, xs, rfl, hval, hl, hw, ht, hn, hc, hA, hbel⟩
        have Hsig := Lib.hid (signed_any (w.heap.size + 1) A n c xs true w2 hl hw ht hn hc (by have := hbel.size; simpa using this) (by simpa using hA))
        have Hbel := Lib.hid hbel
        rw [hval] at Hsig
        clear hval hl hw ht hbel hA
        go_wp2_with fail
        refine Hsig.out.mono ?_
        rintro e w3 ⟨v, rfl, hint, hbel3⟩
        obtain ⟨a, P, rfl⟩ := hint.form
        have hc3 : w3.heap[w.heap.size]? = some (.cells #[.int .i64 0, .pointer none] 25 (0, 0)) := by
          rw [hbel3.block _ (by have := Hbel.out.size; simp at this; omega), Hbel.out.block _ (by simp)]
          show (w.heap.push _)[w.heap.size]? = _
          rw [Array.getElem?_push, if_pos rfl]
        have k0 : w3.cell? ⟨w.heap.size, 0, none⟩ = some (.int .i64 0) := by rw [cell_of_row _ _ _ _ _ _ hc3]; rfl
        have k1 : w3.cell? ⟨w.heap.size, 1, none⟩ = some (.pointer none) := by rw [cell_of_row _ _ _ _ _ _ hc3]; rfl
        have f0 : w3.frozen? ⟨w.heap.size, 0, none⟩ = false := by simp [World.frozen?, hc3]
        have f1 : w3.frozen? ⟨w.heap.size, 1, none⟩ = false := by simp [World.frozen?, hc3]
        have Hc3 := Lib.hid hc3
        clear hc3
        have Hint := Lib.hid hint
        have Hbel3 := Lib.hid hbel3
        clear hint hbel3
        go_wp2_with fail
        have Hi := Lib.hid (((Hint.out.set_ (i := 0) (u := .int .i64 a)).set_ (i := 1) (u := .pointer P)).mono (Nat.le_succ _))
        have Hb := Lib.hid ((((((Below.refl w.heap.size w).alloc (Nat.le_refl _) _).trans (Hbel.out.mono (by simp))).trans (Hbel3.out.mono (by have := Hbel.out.size; simp at this; omega))).setCell (p := ⟨w.heap.size, 0, none⟩) (Nat.le_refl w.heap.size) (.int .i64 a)).setCell (p := ⟨w.heap.size, 1, none⟩) (Nat.le_refl w.heap.size) (.pointer P))
        exact bodyPost_ret (v := .tuple #[.agg #[.int .i64 a, .pointer P], .int .i64 0]) (by simp [results, Tryd.results15, go_sem, k0, k1]) rfl ⟨_, rfl, fun _ => Hi.out, fun h => absurd rfl h, Hb.out⟩
end Go.Proofs.YtegndbiglehacaaDoor
