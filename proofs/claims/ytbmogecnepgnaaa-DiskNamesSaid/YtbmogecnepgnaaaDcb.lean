/- The model: find, outcome. -/
import Derived.Test.YtbmogecnepgnaaaDca
namespace Go.Proofs.Ytbmogecnepgnaaa
open Go.RowKit Go.Maps Go.Shelf
abbrev Ent := ByteArray × Nat
def findM (l : List Ent) (name : ByteArray) : Int := match l.find? (fun e => decide (e.1.data.toList = name.data.toList)) with
  | some e => (e.2 : Nat)
  | none => -1
theorem findM_stop {l : List Ent} {name : ByteArray} {j : Nat} {e : Ent} (hn : ∀ (i : Nat) (x : Ent), i < j → l[i]? = some x → x.1.data.toList ≠ name.data.toList) (hj : l[j]? = some e) (he : e.1.data.toList = name.data.toList) : findM l name = (e.2 : Nat) := by
  have : l.find? (fun e => decide (e.1.data.toList = name.data.toList)) = some e := by
    induction l generalizing j with
    | nil => cases hj
    | cons a l ih =>
      cases j with
      | zero =>
        have : a = e := by simpa using hj
        subst this
        rw [List.find?_cons, decide_eq_true he]
      | succ j =>
        rw [List.find?_cons, decide_eq_false (hn 0 a (by omega) rfl)]
        exact ih (j := j) (fun i x hi hx => hn (i + 1) x (by omega) (by simpa using hx)) (by simpa using hj)
  unfold findM
  rw [this]
theorem findM_none {l : List Ent} {name : ByteArray} (hn : ∀ (i : Nat) (x : Ent), l[i]? = some x → x.1.data.toList ≠ name.data.toList) : findM l name = -1 := by
  have : l.find? (fun e => decide (e.1.data.toList = name.data.toList)) = none := List.find?_eq_none.2 fun x hx => by
    obtain ⟨i, hi⟩ := List.getElem?_of_mem hx
    rw [decide_eq_false (hn i x hi)]
    decide
  unfold findM
  rw [this]
theorem beq_str {a b : ByteArray} : (a.toList == b.toList) = decide (a.data.toList = b.data.toList) := by
  rw [ByteArray.toList_eq, ByteArray.toList_eq]
  by_cases h : a.data.toList = b.data.toList
  · rw [decide_eq_true h, h, beq_self_eq_true]
  · rw [decide_eq_false h]; exact beq_eq_false_iff_ne.2 h
set_option maxRecDepth 100000 in
set_option maxHeartbeats 8000000 in
theorem findE_any {w : World} {v : Value} {n : Nat} {l : List Ent} (h : RowAt w 75 2 v n (entC l)) (hn : l.length = n) (hnm : n ≤ 1000000) (name : ByteArray) :
    Calls Try.prog 45 #[v, .string name] w fun e w' => e = .returned (.int .i64 (findM l name)) ∧ w' = w := by
  obtain ⟨A, c, rfl, hc1, hc2, _, hc⟩ := h.slice
  have HC := Lib.hid hc
  have HN := Lib.hid hn
  clear h hn hc
  go_enter Try.func45, Try.ntmps45
  go_wp2_with fail
  go_loopw [5] (fun i wr => ∃ j : Nat, i = .int .i64 (j : Nat) ∧ j ≤ n ∧ (∀ (i : Nat) (x : Ent), i < j → l[i]? = some x → x.1.data.toList ≠ name.data.toList) ∧ w = wr) (fun i _ => n - (intOf i).toNat)
  case atStart => exact ⟨0, rfl, Nat.zero_le _, fun i x h => absurd h (Nat.not_lt_zero _), rfl⟩
  case round =>
    obtain ⟨j, rfl, hj, hall, rfl⟩ := hrel
    have HA := Lib.hid hall
    clear hall
    by_cases hlt : j < n
    · have i1 : (j : Int) < (n : Int) := by omega
      have i2 : IntKind.i64.wrap ((j : Int) + 1) = (j : Int) + 1 := IntWalk.i64_in _ (by omega)
      obtain ⟨x, hx⟩ : ∃ x, l[j]? = some x := ⟨_, List.getElem?_eq_getElem (by have := HN.out; omega)⟩
      have he := entC_at l j x hx
      obtain ⟨g, o, e, _, z0⟩ := HC.out _ _ he.1
      subst e
      obtain ⟨g', o', e, _, z1⟩ := HC.out _ _ he.2
      injection e with e
      injection e with e1 e2 _
      subst e1 e2
      rw [show o + (j * 2 + 1) = o + j * 2 + 1 by omega] at z1
      have HX := Lib.hid hx
      have hb := beq_str (a := x.1) (b := name)
      clear he hx
      by_cases hq : x.1.data.toList = name.data.toList
      · rw [decide_eq_true hq] at hb
        have HF := Lib.hid (findM_stop HA.out HX.out hq)
        clear hq
        go_wp2_with fail
        go_ret
        rw [HF.out]
        exact ⟨rfl, rfl⟩
      · rw [decide_eq_false hq] at hb
        have HQ := Lib.hid hq
        clear hq
        go_wp2_with fail
        go_roundw
        case rel =>
          refine ⟨j + 1, by go_num, by omega, fun i y hi hy => ?_, by first | rfl | trivial⟩
          by_cases e : i = j
          · subst e
            rw [HX.out] at hy
            injection hy with hy
            rw [← hy]
            exact HQ.out
          · exact HA.out i y (by omega) hy
        case measure => simp [intOf]; omega
    · have i1 : ¬ (j : Int) < (n : Int) := by omega
      go_wp2_with fail
      go_ret
      rw [findM_none fun i x hx => HA.out i x (by
        have := (List.getElem?_eq_some_iff.1 hx).1
        have := HN.out
        omega) hx]
      exact ⟨rfl, rfl⟩
set_option maxRecDepth 100000 in
set_option maxHeartbeats 4000000 in
theorem outcome_any (q : Bool) (w : World) : Calls Try.prog 49 #[.bool q] w fun e w' => e = .returned (.int .i64 (if q then 32 else 0)) ∧ w' = w := by
  cases q
  all_goals
    go_enter Try.func49, Try.ntmps49
    go_wp2_with fail
    go_ret
    exact ⟨rfl, rfl⟩
end Go.Proofs.Ytbmogecnepgnaaa
