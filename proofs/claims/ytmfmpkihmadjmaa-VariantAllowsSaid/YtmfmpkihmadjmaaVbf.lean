/- Allowed and the reference: the same set. -/
import Derived.Test.YtmfmpkihmadjmaaVbe
namespace Go.Proofs.Ytmfmpkihmadjmaa
open Go.RowKit
theorem runC_snd {bt bt' : Nat → Nat} : ∀ (l : List (Option Nat)) (last : Int) (c c' : Nat), (runC bt last c l).2 = (runC bt' last c' l).2
  | [], _, _, _ => rfl
  | none :: _, _, _, _ => rfl
  | some a :: l, last, c, c' => by
    rw [runC, runC]
    split
    · rfl
    · exact runC_snd l a _ _
theorem runC_bits : ∀ (l : List (Option Nat)) (last : Int) (c c' : Nat), (∀ a, some a ∈ l → a < 6) → (∀ i, i < 6 → c.testBit (11 - i) = c'.testBit i) → (runC (fun a => 2 ^ a) last c' l).2 = 0 → ∀ i, i < 6 → (runC (fun a => 2 ^ (11 - a)) last c l).1.testBit (11 - i) = (runC (fun a => 2 ^ a) last c' l).1.testBit i
  | [], _, _, _, _, hc, _ => hc
  | none :: _, _, _, _, _, _, h => by rw [runC] at h; exact absurd h (by decide)
  | some a :: l, last, c, c', hl, hc, h => by
    have ha := hl a List.mem_cons_self
    rw [runC] at h ⊢
    rw [runC]
    by_cases hal : (a : Int) ≤ last
    · rw [if_pos hal] at h; exact absurd h (by decide)
    · rw [if_neg hal] at h ⊢
      rw [if_neg hal]
      refine runC_bits l a _ _ (fun x hx => hl x (List.mem_cons_of_mem _ hx)) (fun i hi => ?_) h
      rw [Nat.testBit_or, Nat.testBit_or, hc i hi, Nat.testBit_two_pow, Nat.testBit_two_pow]
      congr 1
      rw [Bool.eq_iff_iff, decide_eq_true_iff, decide_eq_true_iff]
      omega
theorem runC_low : ∀ (l : List (Option Nat)) (last : Int) (c : Nat), c < 2 ^ 6 → (∀ a, some a ∈ l → a < 6) → (runC (fun a => 2 ^ a) last c l).1 < 2 ^ 6
  | [], _, _, hc, _ => hc
  | none :: _, _, _, _, _ => by simp [runC]
  | some a :: l, last, c, hc, hl => by
    rw [runC]
    split
    · decide
    · exact runC_low l a _ (Nat.or_lt_two_pow hc (Nat.pow_lt_pow_right (by decide) (hl a List.mem_cons_self))) (fun x hx => hl x (List.mem_cons_of_mem _ hx))
theorem sat_same {n c s : Nat} (hn : n ≤ 6) (h : ∀ i, i < 6 → c.testBit (11 - i) = s.testBit i) {r : ByteArray × List (Nat × Bool)} (hr : LowN n r.2) : satB c r = r.2.any (litR s) := by
  unfold satB
  rw [Bool.eq_iff_iff, List.any_eq_true, List.any_eq_true]
  have e : ∀ x ∈ r.2, litB c x = litR s x := fun x hx => by
    have := hr x hx
    unfold litB litR
    rw [h x.1 (by omega)]
  exact ⟨fun ⟨x, hx, h⟩ => ⟨x, hx, e x hx ▸ h⟩, fun ⟨x, hx, h⟩ => ⟨x, hx, (e x hx).symm ▸ h⟩⟩
theorem bad_none {rs : List (ByteArray × List (Nat × Bool))} {s i : Nat} {r : ByteArray × List (Nat × Bool)} (hr : rs[i]? = some r) : badR rs (List.replicate rs.length false) s i = !(r.2.any (litR s)) := by
  have hi : i < rs.length := by
    rcases Nat.lt_or_ge i rs.length with h | h
    · exact h
    · rw [List.getElem?_eq_none h] at hr; cases hr
  unfold badR
  rw [List.getD_eq_getElem?_getD, List.getD_eq_getElem?_getD, hr, List.getElem?_replicate, if_pos hi]
  rfl
/-- The first rule that is not satisfied, on both sides. -/
theorem brk_fidx {rs : List (ByteArray × List (Nat × Bool))} {n c s : Nat} (hn : n ≤ 6) (h : ∀ i, i < 6 → c.testBit (11 - i) = s.testBit i) (hr : ∀ r ∈ rs, LowN n r.2) : fidx (fun r => !satB c r) rs = brkR rs (List.replicate rs.length false) s := by
  have key : ∀ i r, rs[i]? = some r → badR rs (List.replicate rs.length false) s i = !satB c r := fun i r hi => by
    rw [bad_none hi, sat_same hn h (hr r (List.mem_of_getElem? hi))]
  cases ha : rs.any (fun r => !satB c r) with
  | false =>
    rw [fidx_miss ha, brkR_none]
    intro i hi
    rw [key i rs[i] (List.getElem?_eq_getElem hi)]
    rw [List.any_eq_false] at ha
    simpa using ha rs[i] (List.getElem_mem hi)
  | true =>
    have hj : rs.findIdx (fun r => !satB c r) < rs.length := List.findIdx_lt_length_of_exists (List.any_eq_true.1 ha)
    unfold fidx
    rw [if_pos ha, brkR_some hj]
    · intro i hi
      rw [key i rs[i] (List.getElem?_eq_getElem (by omega))]
      have := List.not_of_lt_findIdx hi
      simpa using this
    · rw [key _ _ (List.getElem?_eq_getElem hj)]
      exact List.findIdx_getElem (w := hj)
/-- What Allowed answers, by what the reference reads. -/
def alwR (rs : List (ByteArray × List (Nat × Bool))) (se : Nat × Int) : Value :=
  if se.2 = 0 then .tuple #[.bool (decide (brkR rs (List.replicate rs.length false) se.1 < 0)), .int .i64 (brkR rs (List.replicate rs.length false) se.1), .int .i64 0] else .tuple #[.bool false, .int .i64 0, .int .i64 se.2]
theorem alw_same {rs : List (ByteArray × List (Nat × Bool))} {n : Nat} (hn : n ≤ 6) (hr : ∀ r ∈ rs, LowN n r.2) (l : List (Option Nat)) (hl : ∀ a, some a ∈ l → a < 6) : alwV rs (runC (fun a => 2 ^ (11 - a)) (-1) 0 l) = alwR rs (runC (fun a => 2 ^ a) (-1) 0 l) := by
  have h2 := runC_snd (bt := fun a => 2 ^ (11 - a)) (bt' := fun a => 2 ^ a) l (-1) 0 0
  unfold alwV alwR
  rw [h2]
  by_cases h0 : (runC (fun a => 2 ^ a) (-1) 0 l).2 = 0
  · rw [if_pos h0, if_pos h0]
    rw [brk_fidx hn (runC_bits l (-1) 0 0 hl (fun i _ => by simp) h0) hr]
  · rw [if_neg h0, if_neg h0]
/-- The names of a set are read as the set. -/
theorem parse_names : ∀ n, n < 7 → ∀ k, k < 2 ^ n → runC (fun a => 2 ^ a) (-1) 0 ((nmU (famO n) (fun i => (sOf n k).testBit i) n).map (idxO n)) = (sOf n k, 0) := by decide +kernel
end Go.Proofs.Ytmfmpkihmadjmaa
