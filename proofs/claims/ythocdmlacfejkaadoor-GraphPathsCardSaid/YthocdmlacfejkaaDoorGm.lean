/- Sets of nodes as bits: steps, levels, walks. -/
import Derived.Lib.TrailingZeros
namespace Go.Proofs.YthocdmlacfejkaaDoor
/-- The nodes of a set, in increasing order. -/
def bitsOf (s : Nat) : List Nat := (List.range 64).filter fun i => s.testBit i
theorem mem_bitsOf {s i : Nat} : i ∈ bitsOf s ↔ i < 64 ∧ s.testBit i = true := by
  unfold bitsOf; rw [List.mem_filter, List.mem_range]
theorem bitsOf_zero : bitsOf 0 = [] := by
  unfold bitsOf; rw [List.filter_eq_nil_iff]; intro a _; simp
theorem bitsOf_len (s : Nat) : (bitsOf s).length ≤ 64 := by
  unfold bitsOf; have := List.length_filter_le (fun i => s.testBit i) (List.range 64); simpa using this
theorem testBit_low {k m i : Nat} : (2 ^ k * (2 * m + 1) &&& (2 ^ k * (2 * m + 1) - 1)).testBit i = ((2 ^ k * (2 * m + 1)).testBit i && decide (i ≠ k)) := by
  have hk : 0 < 2 ^ k := Nat.pow_pos (by decide)
  rw [Nat.testBit_and]
  rcases Nat.lt_trichotomy i k with h | h | h
  · have e : (2 ^ k * (2 * m + 1)).testBit i = false := by
      rw [Nat.testBit_eq_decide_div_mod_eq]
      obtain ⟨d, rfl⟩ : ∃ d, k = i + (d + 1) := ⟨k - i - 1, by omega⟩
      rw [Nat.pow_add, Nat.mul_assoc, Nat.mul_div_cancel_left _ (Nat.pow_pos (by decide)), Nat.pow_succ]
      simp [Nat.mul_mod, Nat.mul_comm]
    rw [e]; simp
  · subst h
    have e : (2 ^ i * (2 * m + 1) - 1).testBit i = false := by
      rw [Nat.testBit_eq_decide_div_mod_eq]
      have : (2 ^ i * (2 * m + 1) - 1) / 2 ^ i = 2 * m := by
        rw [show 2 ^ i * (2 * m + 1) - 1 = (2 ^ i - 1) + 2 ^ i * (2 * m) by rw [Nat.mul_add, Nat.mul_one]; omega, Nat.add_mul_div_left _ _ hk, Nat.div_eq_of_lt (by omega), Nat.zero_add]
      rw [this]; simp
    rw [e]; simp
  · have e : (2 ^ k * (2 * m + 1) - 1).testBit i = (2 ^ k * (2 * m + 1)).testBit i := by
      obtain ⟨d, rfl⟩ : ∃ d, i = k + 1 + d := ⟨i - k - 1, by omega⟩
      rw [Nat.testBit_eq_decide_div_mod_eq, Nat.testBit_eq_decide_div_mod_eq, Nat.pow_add 2 (k + 1) d, ← Nat.div_div_eq_div_mul, ← Nat.div_div_eq_div_mul]
      have e1 : (2 ^ k * (2 * m + 1) - 1) / 2 ^ (k + 1) = m := by
        rw [show 2 ^ k * (2 * m + 1) - 1 = (2 ^ k - 1) + 2 ^ (k + 1) * m by rw [Nat.pow_succ, Nat.mul_add, Nat.mul_one, ← Nat.mul_assoc]; omega, Nat.add_mul_div_left _ _ (Nat.pow_pos (by decide)), Nat.div_eq_of_lt (by rw [Nat.pow_succ]; omega), Nat.zero_add]
      have e2 : (2 ^ k * (2 * m + 1)) / 2 ^ (k + 1) = m := by
        rw [show 2 ^ k * (2 * m + 1) = 2 ^ k + 2 ^ (k + 1) * m by rw [Nat.pow_succ, Nat.mul_add, Nat.mul_one, ← Nat.mul_assoc]; omega, Nat.add_mul_div_left _ _ (Nat.pow_pos (by decide)), Nat.div_eq_of_lt (by rw [Nat.pow_succ]; omega), Nat.zero_add]
      rw [e1, e2]
    rw [e]; simp; intro _; omega
theorem range_split {k : Nat} (h : k < 64) : List.range 64 = List.range k ++ k :: List.range' (k + 1) (63 - k) := by
  rw [List.range_eq_range', List.range_eq_range', show List.range' 0 64 = List.range' 0 (k + (64 - k)) by congr 1; omega, ← List.range'_append_1, Nat.zero_add, show 64 - k = (63 - k) + 1 by omega, List.range'_succ]
theorem bits_low {s : Nat} (h0 : s ≠ 0) (h : s < 18446744073709551616) : bitsOf s = Lib.ctz 64 s :: bitsOf (s &&& (s - 1)) := by
  obtain ⟨m, hm, hk⟩ := Lib.ctzFrom_spec 64 s (by omega) (by simpa using h)
  have e : Lib.ctz 64 s = Lib.ctzFrom 64 s := by unfold Lib.ctz; rw [if_neg h0]
  rw [← e] at hm hk
  have tb : ∀ i, (s &&& (s - 1)).testBit i = (s.testBit i && decide (i ≠ Lib.ctz 64 s)) := fun i => by
    generalize Lib.ctz 64 s = k at hm
    subst hm
    exact testBit_low
  have lo : ∀ i, i < Lib.ctz 64 s → s.testBit i = false := fun i hi => by
    generalize Lib.ctz 64 s = k at *
    subst hm
    rw [Nat.testBit_eq_decide_div_mod_eq]
    obtain ⟨d, rfl⟩ : ∃ d, k = i + (d + 1) := ⟨k - i - 1, by omega⟩
    rw [Nat.pow_add, Nat.mul_assoc, Nat.mul_div_cancel_left _ (Nat.pow_pos (by decide)), Nat.pow_succ]
    simp [Nat.mul_mod, Nat.mul_comm]
  have at_ : s.testBit (Lib.ctz 64 s) = true := by
    generalize Lib.ctz 64 s = k at *
    subst hm
    rw [Nat.testBit_eq_decide_div_mod_eq, Nat.mul_div_cancel_left _ (Nat.pow_pos (by decide))]
    simp <;> omega
  unfold bitsOf
  generalize Lib.ctz 64 s = k at *
  rw [range_split hk, List.filter_append, List.filter_append, List.filter_cons, List.filter_cons, at_, tb k]
  have n1 : (List.range k).filter (fun i => s.testBit i) = [] := by
    rw [List.filter_eq_nil_iff]; intro a ha; rw [lo a (by simpa using ha)]; simp
  have n2 : (List.range k).filter (fun i => (s &&& (s - 1)).testBit i) = [] := by
    rw [List.filter_eq_nil_iff]; intro a ha; rw [tb, lo a (by simpa using ha)]; simp
  rw [n1, n2]
  simp
  apply List.filter_congr
  intro x hx
  have : k + 1 ≤ x := (List.mem_range'_1.1 hx).1
  have := tb x
  simp at this
  simp [this]
  intro _; omega

/-- The nodes to which those of a set lead. -/
def stepM (L : Nat → Nat) (s : Nat) : Nat := (bitsOf s).foldl (fun t n => t ||| L n) 0
theorem or_fold (L : Nat → Nat) : ∀ (l : List Nat) (t v : Nat), (l.foldl (fun t n => t ||| L n) t).testBit v = true ↔ t.testBit v = true ∨ ∃ n ∈ l, (L n).testBit v = true
  | [], t, v => by simp
  | a :: l, t, v => by
    rw [List.foldl_cons, or_fold L l, Nat.testBit_or]
    simp [or_assoc]
theorem step_bit {L : Nat → Nat} {s v : Nat} : (stepM L s).testBit v = true ↔ ∃ n, n < 64 ∧ s.testBit n = true ∧ (L n).testBit v = true := by
  unfold stepM
  rw [or_fold]
  simp only [Nat.zero_testBit, Bool.false_eq_true, false_or, mem_bitsOf, and_assoc]
/-- All bits lie below k. -/
def Under (k s : Nat) : Prop := ∀ v, s.testBit v = true → v < k
theorem under_lt {k s : Nat} (h : Under k s) : s < 2 ^ k := Nat.lt_pow_two_of_testBit _ fun i hi => by
  cases e : s.testBit i with
  | false => rfl
  | true => have := h i e; omega
theorem lt_under {k s : Nat} (h : s < 2 ^ k) : Under k s := fun v hv => by
  rcases Nat.lt_or_ge v k with h1 | h1
  · exact h1
  · rw [Nat.testBit_lt_two_pow (Nat.lt_of_lt_of_le h (Nat.pow_le_pow_right (by decide) h1))] at hv; cases hv
theorem step_under {k : Nat} {L : Nat → Nat} (h : ∀ n, Under k (L n)) (s : Nat) : Under k (stepM L s) := fun v hv => by
  obtain ⟨n, _, _, h3⟩ := step_bit.1 hv
  exact h n v h3
/-- What a set reaches in at most k steps. -/
def lev (L : Nat → Nat) (s : Nat) : Nat → Nat
  | 0 => s
  | k + 1 => lev L s k ||| stepM L (lev L s k)
theorem lev_under {m : Nat} {L : Nat → Nat} {s : Nat} (h : ∀ n, Under m (L n)) (hs : Under m s) : ∀ k, Under m (lev L s k)
  | 0 => hs
  | k + 1 => fun v hv => by
    rw [lev, Nat.testBit_or, Bool.or_eq_true] at hv
    rcases hv with hv | hv
    · exact lev_under h hs k v hv
    · exact step_under h _ v hv
theorem lev_up {L : Nat → Nat} {s : Nat} : ∀ {k j : Nat}, k ≤ j → ∀ v, (lev L s k).testBit v = true → (lev L s j).testBit v = true
  | k, 0, h, v, hv => by obtain rfl : k = 0 := by omega
                         exact hv
  | k, j + 1, h, v, hv => by
    rcases Nat.lt_or_ge k (j + 1) with h1 | h1
    · rw [lev, Nat.testBit_or, Bool.or_eq_true]; exact .inl (lev_up (by omega) v hv)
    · obtain rfl : k = j + 1 := by omega
      exact hv
theorem lev_stay {L : Nat → Nat} {s k : Nat} (h : lev L s (k + 1) = lev L s k) : ∀ j, k ≤ j → lev L s j = lev L s k
  | 0, hj => by obtain rfl : k = 0 := by omega
                rfl
  | j + 1, hj => by
    rcases Nat.lt_or_ge k (j + 1) with h1 | h1
    · rw [lev, lev_stay h j (by omega), ← lev, h]
    · obtain rfl : k = j + 1 := by omega
      rfl
theorem countP_lt {α : Type} {p q : α → Bool} : ∀ {l : List α}, (∀ x ∈ l, p x = true → q x = true) → (∃ x ∈ l, q x = true ∧ p x = false) → l.countP p + 1 ≤ l.countP q
  | [], _, h => by simp at h
  | a :: l, h1, h2 => by
    rw [List.countP_cons, List.countP_cons]
    have hl : l.countP p ≤ l.countP q := List.countP_mono_left (fun x hx hp => h1 x (List.mem_cons_of_mem _ hx) hp)
    obtain ⟨x, hx, hq, hp⟩ := h2
    rcases List.mem_cons.1 hx with rfl | hx
    · simp [hq, hp]; exact hl
    · have := countP_lt (fun x hx hp => h1 x (List.mem_cons_of_mem _ hx) hp) ⟨x, hx, hq, hp⟩
      have ha := h1 a (List.mem_cons_self ..)
      cases hpa : p a <;> cases hqa : q a <;> simp_all <;> omega
theorem lev_grow {n : Nat} {L : Nat → Nat} {s : Nat} (h : ∀ i, Under n (L i)) (hs : Under n s) (k : Nat) : lev L s (k + 1) = lev L s k ∨ (List.range n).countP (fun v => (lev L s k).testBit v) + 1 ≤ (List.range n).countP (fun v => (lev L s (k + 1)).testBit v) := by
  by_cases e : lev L s (k + 1) = lev L s k
  · exact .inl e
  · refine .inr (countP_lt (fun x _ hx => lev_up (Nat.le_succ k) x hx) ?_)
    apply Classical.byContradiction
    intro hno
    apply e
    apply Nat.eq_of_testBit_eq
    intro v
    cases h1 : (lev L s (k + 1)).testBit v with
    | true =>
      cases h2 : (lev L s k).testBit v with
      | true => rfl
      | false => exact absurd ⟨v, List.mem_range.2 (lev_under h hs _ v h1), h1, h2⟩ hno
    | false =>
      cases h2 : (lev L s k).testBit v with
      | false => rfl
      | true => rw [lev_up (Nat.le_succ k) v h2] at h1; cases h1
theorem lev_count {n : Nat} {L : Nat → Nat} {s : Nat} (h : ∀ i, Under n (L i)) (hs : Under n s) (k : Nat) : (∃ i, i ≤ k ∧ lev L s (i + 1) = lev L s i) ∨ k + 1 + (List.range n).countP (fun v => s.testBit v) ≤ (List.range n).countP (fun v => (lev L s (k + 1)).testBit v) := by
  induction k with
  | zero =>
    rcases lev_grow h hs 0 with h1 | h1
    · exact .inl ⟨0, Nat.le_refl _, h1⟩
    · refine .inr ?_
      have : lev L s 0 = s := rfl
      rw [this] at h1
      omega
  | succ k ih =>
    rcases ih with ⟨i, hi, e⟩ | h1
    · exact .inl ⟨i, by omega, e⟩
    · rcases lev_grow h hs (k + 1) with h2 | h2
      · exact .inl ⟨k + 1, Nat.le_refl _, h2⟩
      · exact .inr (by omega)
/-- Behind as many steps as there are nodes nothing is added. -/
theorem lev_full {n : Nat} {L : Nat → Nat} {s : Nat} (h : ∀ i, Under n (L i)) (hs : Under n s) : ∀ j, n ≤ j → lev L s j = lev L s n := by
  have hc := List.countP_le_length (p := fun v => (lev L s (n + 1)).testBit v) (l := List.range n)
  rw [List.length_range] at hc
  rcases lev_count h hs n with ⟨i, hi, e⟩ | h1
  · intro j hj
    rw [lev_stay e j (by omega), lev_stay e n hi]
  · omega
/-- A walk of k edges. -/
inductive Walk (L : Nat → Nat) : Nat → Nat → Nat → Prop
  | here (a : Nat) : Walk L 0 a a
  | more {k a b c : Nat} : Walk L k a b → b < 64 → (L b).testBit c = true → Walk L (k + 1) a c
theorem lev_walk {L : Nat → Nat} {s : Nat} : ∀ {k v : Nat}, (lev L s k).testBit v = true ↔ ∃ a j, j ≤ k ∧ s.testBit a = true ∧ Walk L j a v
  | 0, v => by
    constructor
    · intro h; exact ⟨v, 0, Nat.le_refl _, h, .here v⟩
    · rintro ⟨a, j, hj, ha, hw⟩
      obtain rfl : j = 0 := by omega
      cases hw
      exact ha
  | k + 1, v => by
    rw [lev, Nat.testBit_or, Bool.or_eq_true, step_bit]
    constructor
    · rintro (h | ⟨n, hn, h1, h2⟩)
      · obtain ⟨a, j, hj, ha, hw⟩ := lev_walk.1 h
        exact ⟨a, j, by omega, ha, hw⟩
      · obtain ⟨a, j, hj, ha, hw⟩ := lev_walk.1 h1
        exact ⟨a, j + 1, by omega, ha, hw.more hn h2⟩
    · rintro ⟨a, j, hj, ha, hw⟩
      cases hw with
      | here => exact .inl (lev_walk.2 ⟨v, 0, Nat.zero_le _, ha, .here v⟩)
      | @more j a b c hw hb hc => exact .inr ⟨b, hb, lev_walk.2 ⟨a, j, by omega, ha, hw⟩, hc⟩
end Go.Proofs.YthocdmlacfejkaaDoor
