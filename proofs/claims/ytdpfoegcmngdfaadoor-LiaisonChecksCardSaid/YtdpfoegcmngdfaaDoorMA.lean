/- Graph: Gm, Gd. -/
import Derived.Lib.TrailingZeros
namespace Go.Proofs.YtdpfoegcmngdfaaDoor
def bitsOf (s : Nat) : List Nat := (List.range 64).filter fun i => s.testBit i
theorem mem_bitsOf {s i : Nat} : i ∈ bitsOf s ↔ i < 64 ∧ s.testBit i = true := by
  unfold bitsOf; rw [List.mem_filter, List.mem_range]
theorem bitsOf_zero : bitsOf 0 = [] := by
  unfold bitsOf; rw [List.filter_eq_nil_iff]; intro a _; simp
theorem bitsOf_len (s : Nat) : (bitsOf s).length ≤ 64 := by
  unfold bitsOf; have := List.length_filter_le (fun i => s.testBit i) (List.range 64); simpa using this
theorem testBit_low {k m i : Nat} : (2 ^ k * (2 * m + 1) &&& (2 ^ k * (2 * m + 1) - 1)).testBit i = ((2 ^ k * (2 * m + 1)).testBit i && decide (i ≠ k)) := by
  have hk : 0 < 2 ^ k := Nat.pow_pos (by decide)
  rw [Nat.testBit_and]
  rcases Nat.lt_trichotomy i k with h | h | h
  · have e : (2 ^ k * (2 * m + 1)).testBit i = false := by
      rw [Nat.testBit_eq_decide_div_mod_eq]
      obtain ⟨d, rfl⟩ : ∃ d, k = i + (d + 1) := ⟨k - i - 1, by omega⟩
      rw [Nat.pow_add, Nat.mul_assoc, Nat.mul_div_cancel_left _ (Nat.pow_pos (by decide)), Nat.pow_succ]
      simp [Nat.mul_mod, Nat.mul_comm]
    rw [e]; simp
  · subst h
    have e : (2 ^ i * (2 * m + 1) - 1).testBit i = false := by
      rw [Nat.testBit_eq_decide_div_mod_eq]
      have : (2 ^ i * (2 * m + 1) - 1) / 2 ^ i = 2 * m := by
        rw [show 2 ^ i * (2 * m + 1) - 1 = (2 ^ i - 1) + 2 ^ i * (2 * m) by rw [Nat.mul_add, Nat.mul_one]; omega, Nat.add_mul_div_left _ _ hk, Nat.div_eq_of_lt (by omega), Nat.zero_add]
      rw [this]; simp
    rw [e]; simp
  · have e : (2 ^ k * (2 * m + 1) - 1).testBit i = (2 ^ k * (2 * m + 1)).testBit i := by
      obtain ⟨d, rfl⟩ : ∃ d, i = k + 1 + d := ⟨i - k - 1, by omega⟩
      rw [Nat.testBit_eq_decide_div_mod_eq, Nat.testBit_eq_decide_div_mod_eq, Nat.pow_add 2 (k + 1) d, ← Nat.div_div_eq_div_mul, ← Nat.div_div_eq_div_mul]
      have e1 : (2 ^ k * (2 * m + 1) - 1) / 2 ^ (k + 1) = m := by
        rw [show 2 ^ k * (2 * m + 1) - 1 = (2 ^ k - 1) + 2 ^ (k + 1) * m by rw [Nat.pow_succ, Nat.mul_add, Nat.mul_one, ← Nat.mul_assoc]; omega, Nat.add_mul_div_left _ _ (Nat.pow_pos (by decide)), Nat.div_eq_of_lt (by rw [Nat.pow_succ]; omega), Nat.zero_add]
      have e2 : (2 ^ k * (2 * m + 1)) / 2 ^ (k + 1) = m := by
        rw [show 2 ^ k * (2 * m + 1) = 2 ^ k + 2 ^ (k + 1) * m by rw [Nat.pow_succ, Nat.mul_add, Nat.mul_one, ← Nat.mul_assoc]; omega, Nat.add_mul_div_left _ _ (Nat.pow_pos (by decide)), Nat.div_eq_of_lt (by rw [Nat.pow_succ]; omega), Nat.zero_add]
      rw [e1, e2]
    rw [e]; simp; intro _; omega
theorem range_split {k : Nat} (h : k < 64) : List.range 64 = List.range k ++ k :: List.range' (k + 1) (63 - k) := by
  rw [List.range_eq_range', List.range_eq_range', show List.range' 0 64 = List.range' 0 (k + (64 - k)) by congr 1; omega, ← List.range'_append_1, Nat.zero_add, show 64 - k = (63 - k) + 1 by omega, List.range'_succ]
theorem bits_low {s : Nat} (h0 : s ≠ 0) (h : s < 18446744073709551616) : bitsOf s = Lib.ctz 64 s :: bitsOf (s &&& (s - 1)) := by
  obtain ⟨m, hm, hk⟩ := Lib.ctzFrom_spec 64 s (by omega) (by simpa using h)
  have e : Lib.ctz 64 s = Lib.ctzFrom 64 s := by unfold Lib.ctz; rw [if_neg h0]
  rw [← e] at hm hk
  have tb : ∀ i, (s &&& (s - 1)).testBit i = (s.testBit i && decide (i ≠ Lib.ctz 64 s)) := fun i => by
    generalize Lib.ctz 64 s = k at hm
    subst hm
    exact testBit_low
  have lo : ∀ i, i < Lib.ctz 64 s → s.testBit i = false := fun i hi => by
    generalize Lib.ctz 64 s = k at *
    subst hm
    rw [Nat.testBit_eq_decide_div_mod_eq]
    obtain ⟨d, rfl⟩ : ∃ d, k = i + (d + 1) := ⟨k - i - 1, by omega⟩
    rw [Nat.pow_add, Nat.mul_assoc, Nat.mul_div_cancel_left _ (Nat.pow_pos (by decide)), Nat.pow_succ]
    simp [Nat.mul_mod, Nat.mul_comm]
  have at_ : s.testBit (Lib.ctz 64 s) = true := by
    generalize Lib.ctz 64 s = k at *
    subst hm
    rw [Nat.testBit_eq_decide_div_mod_eq, Nat.mul_div_cancel_left _ (Nat.pow_pos (by decide))]
    simp <;> omega
  unfold bitsOf
  generalize Lib.ctz 64 s = k at *
  rw [range_split hk, List.filter_append, List.filter_append, List.filter_cons, List.filter_cons, at_, tb k]
  have n1 : (List.range k).filter (fun i => s.testBit i) = [] := by
    rw [List.filter_eq_nil_iff]; intro a ha; rw [lo a (by simpa using ha)]; simp
  have n2 : (List.range k).filter (fun i => (s &&& (s - 1)).testBit i) = [] := by
    rw [List.filter_eq_nil_iff]; intro a ha; rw [tb, lo a (by simpa using ha)]; simp
  rw [n1, n2]
  simp
  apply List.filter_congr
  intro x hx
  have : k + 1 ≤ x := (List.mem_range'_1.1 hx).1
  have := tb x
  simp at this
  simp [this]
  intro _; omega

def stepM (L : Nat → Nat) (s : Nat) : Nat := (bitsOf s).foldl (fun t n => t ||| L n) 0
theorem or_fold (L : Nat → Nat) : ∀ (l : List Nat) (t v : Nat), (l.foldl (fun t n => t ||| L n) t).testBit v = true ↔ t.testBit v = true ∨ ∃ n ∈ l, (L n).testBit v = true
  | [], t, v => by simp
  | a :: l, t, v => by
    rw [List.foldl_cons, or_fold L l, Nat.testBit_or]
    simp [or_assoc]
theorem step_bit {L : Nat → Nat} {s v : Nat} : (stepM L s).testBit v = true ↔ ∃ n, n < 64 ∧ s.testBit n = true ∧ (L n).testBit v = true := by
  unfold stepM
  rw [or_fold]
  simp only [Nat.zero_testBit, Bool.false_eq_true, false_or, mem_bitsOf, and_assoc]
def Under (k s : Nat) : Prop := ∀ v, s.testBit v = true → v < k
theorem under_lt {k s : Nat} (h : Under k s) : s < 2 ^ k := Nat.lt_pow_two_of_testBit _ fun i hi => by
  cases e : s.testBit i with
  | false => rfl
  | true => have := h i e; omega
theorem lt_under {k s : Nat} (h : s < 2 ^ k) : Under k s := fun v hv => by
  rcases Nat.lt_or_ge v k with h1 | h1
  · exact h1
  · rw [Nat.testBit_lt_two_pow (Nat.lt_of_lt_of_le h (Nat.pow_le_pow_right (by decide) h1))] at hv; cases hv
theorem step_under {k : Nat} {L : Nat → Nat} (h : ∀ n, Under k (L n)) (s : Nat) : Under k (stepM L s) := fun v hv => by
  obtain ⟨n, _, _, h3⟩ := step_bit.1 hv
  exact h n v h3
def lev (L : Nat → Nat) (s : Nat) : Nat → Nat
  | 0 => s
  | k + 1 => lev L s k ||| stepM L (lev L s k)
theorem lev_under {m : Nat} {L : Nat → Nat} {s : Nat} (h : ∀ n, Under m (L n)) (hs : Under m s) : ∀ k, Under m (lev L s k)
  | 0 => hs
  | k + 1 => fun v hv => by
    rw [lev, Nat.testBit_or, Bool.or_eq_true] at hv
    rcases hv with hv | hv
    · exact lev_under h hs k v hv
    · exact step_under h _ v hv
theorem lev_up {L : Nat → Nat} {s : Nat} : ∀ {k j : Nat}, k ≤ j → ∀ v, (lev L s k).testBit v = true → (lev L s j).testBit v = true
  | k, 0, h, v, hv => by obtain rfl : k = 0 := by omega
                         exact hv
  | k, j + 1, h, v, hv => by
    rcases Nat.lt_or_ge k (j + 1) with h1 | h1
    · rw [lev, Nat.testBit_or, Bool.or_eq_true]; exact .inl (lev_up (by omega) v hv)
    · obtain rfl : k = j + 1 := by omega
      exact hv
theorem lev_stay {L : Nat → Nat} {s k : Nat} (h : lev L s (k + 1) = lev L s k) : ∀ j, k ≤ j → lev L s j = lev L s k
  | 0, hj => by obtain rfl : k = 0 := by omega
                rfl
  | j + 1, hj => by
    rcases Nat.lt_or_ge k (j + 1) with h1 | h1
    · rw [lev, lev_stay h j (by omega), ← lev, h]
    · obtain rfl : k = j + 1 := by omega
      rfl
theorem countP_lt {α : Type} {p q : α → Bool} : ∀ {l : List α}, (∀ x ∈ l, p x = true → q x = true) → (∃ x ∈ l, q x = true ∧ p x = false) → l.countP p + 1 ≤ l.countP q
  | [], _, h => by simp at h
  | a :: l, h1, h2 => by
    rw [List.countP_cons, List.countP_cons]
    have hl : l.countP p ≤ l.countP q := List.countP_mono_left (fun x hx hp => h1 x (List.mem_cons_of_mem _ hx) hp)
    obtain ⟨x, hx, hq, hp⟩ := h2
    rcases List.mem_cons.1 hx with rfl | hx
    · simp [hq, hp]; exact hl
    · have := countP_lt (fun x hx hp => h1 x (List.mem_cons_of_mem _ hx) hp) ⟨x, hx, hq, hp⟩
      have ha := h1 a (List.mem_cons_self ..)
      cases hpa : p a <;> cases hqa : q a <;> simp_all <;> omega
theorem lev_grow {n : Nat} {L : Nat → Nat} {s : Nat} (h : ∀ i, Under n (L i)) (hs : Under n s) (k : Nat) : lev L s (k + 1) = lev L s k ∨ (List.range n).countP (fun v => (lev L s k).testBit v) + 1 ≤ (List.range n).countP (fun v => (lev L s (k + 1)).testBit v) := by
  by_cases e : lev L s (k + 1) = lev L s k
  · exact .inl e
  · refine .inr (countP_lt (fun x _ hx => lev_up (Nat.le_succ k) x hx) ?_)
    apply Classical.byContradiction
    intro hno
    apply e
    apply Nat.eq_of_testBit_eq
    intro v
    cases h1 : (lev L s (k + 1)).testBit v with
    | true =>
      cases h2 : (lev L s k).testBit v with
      | true => rfl
      | false => exact absurd ⟨v, List.mem_range.2 (lev_under h hs _ v h1), h1, h2⟩ hno
    | false =>
      cases h2 : (lev L s k).testBit v with
      | false => rfl
      | true => rw [lev_up (Nat.le_succ k) v h2] at h1; cases h1
theorem lev_count {n : Nat} {L : Nat → Nat} {s : Nat} (h : ∀ i, Under n (L i)) (hs : Under n s) (k : Nat) : (∃ i, i ≤ k ∧ lev L s (i + 1) = lev L s i) ∨ k + 1 + (List.range n).countP (fun v => s.testBit v) ≤ (List.range n).countP (fun v => (lev L s (k + 1)).testBit v) := by
  induction k with
  | zero =>
    rcases lev_grow h hs 0 with h1 | h1
    · exact .inl ⟨0, Nat.le_refl _, h1⟩
    · refine .inr ?_
      have : lev L s 0 = s := rfl
      rw [this] at h1
      omega
  | succ k ih =>
    rcases ih with ⟨i, hi, e⟩ | h1
    · exact .inl ⟨i, by omega, e⟩
    · rcases lev_grow h hs (k + 1) with h2 | h2
      · exact .inl ⟨k + 1, Nat.le_refl _, h2⟩
      · exact .inr (by omega)
theorem lev_full {n : Nat} {L : Nat → Nat} {s : Nat} (h : ∀ i, Under n (L i)) (hs : Under n s) : ∀ j, n ≤ j → lev L s j = lev L s n := by
  have hc := List.countP_le_length (p := fun v => (lev L s (n + 1)).testBit v) (l := List.range n)
  rw [List.length_range] at hc
  rcases lev_count h hs n with ⟨i, hi, e⟩ | h1
  · intro j hj
    rw [lev_stay e j (by omega), lev_stay e n hi]
  · omega
inductive Walk (L : Nat → Nat) : Nat → Nat → Nat → Prop
  | here (a : Nat) : Walk L 0 a a
  | more {k a b c : Nat} : Walk L k a b → b < 64 → (L b).testBit c = true → Walk L (k + 1) a c
theorem lev_walk {L : Nat → Nat} {s : Nat} : ∀ {k v : Nat}, (lev L s k).testBit v = true ↔ ∃ a j, j ≤ k ∧ s.testBit a = true ∧ Walk L j a v
  | 0, v => by
    constructor
    · intro h; exact ⟨v, 0, Nat.le_refl _, h, .here v⟩
    · rintro ⟨a, j, hj, ha, hw⟩
      obtain rfl : j = 0 := by omega
      cases hw
      exact ha
  | k + 1, v => by
    rw [lev, Nat.testBit_or, Bool.or_eq_true, step_bit]
    constructor
    · rintro (h | ⟨n, hn, h1, h2⟩)
      · obtain ⟨a, j, hj, ha, hw⟩ := lev_walk.1 h
        exact ⟨a, j, by omega, ha, hw⟩
      · obtain ⟨a, j, hj, ha, hw⟩ := lev_walk.1 h1
        exact ⟨a, j + 1, by omega, ha, hw.more hn h2⟩
    · rintro ⟨a, j, hj, ha, hw⟩
      cases hw with
      | here => exact .inl (lev_walk.2 ⟨v, 0, Nat.zero_le _, ha, .here v⟩)
      | @more j a b c hw hb hc => exact .inr ⟨b, hb, lev_walk.2 ⟨a, j, by omega, ha, hw⟩, hc⟩
end Go.Proofs.YtdpfoegcmngdfaaDoor
namespace Go.Proofs.YtdpfoegcmngdfaaDoor
def adj (es : List (Nat × Nat)) (i : Nat) : Nat := es.foldl (fun s e => if e.1 = i then s ||| 2 ^ e.2 else s) 0
def adjR (es : List (Nat × Nat)) (i : Nat) : Nat := es.foldl (fun s e => if e.2 = i then s ||| 2 ^ e.1 else s) 0
theorem adj_snoc (es : List (Nat × Nat)) (e : Nat × Nat) (i : Nat) : adj (es ++ [e]) i = if e.1 = i then adj es i ||| 2 ^ e.2 else adj es i := by
  unfold adj; rw [List.foldl_append]; rfl
theorem adjR_snoc (es : List (Nat × Nat)) (e : Nat × Nat) (i : Nat) : adjR (es ++ [e]) i = if e.2 = i then adjR es i ||| 2 ^ e.1 else adjR es i := by
  unfold adjR; rw [List.foldl_append]; rfl
theorem adj_go {i v : Nat} : ∀ (es : List (Nat × Nat)) (t : Nat), (es.foldl (fun s e => if e.1 = i then s ||| 2 ^ e.2 else s) t).testBit v = true ↔ t.testBit v = true ∨ (i, v) ∈ es
  | [], t => by simp
  | e :: es, t => by
    rw [List.foldl_cons, adj_go es, List.mem_cons]
    obtain ⟨x, y⟩ := e
    by_cases h : x = i
    · subst h
      simp only [if_true, Nat.testBit_or, Nat.testBit_two_pow, Bool.or_eq_true, decide_eq_true_eq, Prod.mk.injEq, true_and, or_assoc]
      rw [eq_comm (a := y)]
    · have hn : (i, v) ≠ (x, y) := fun e => h (congrArg Prod.fst e).symm
      simp [h, hn]
theorem adj_bit {es : List (Nat × Nat)} {i v : Nat} : (adj es i).testBit v = true ↔ (i, v) ∈ es := by
  unfold adj; rw [adj_go]; simp
theorem adjR_go {i v : Nat} : ∀ (es : List (Nat × Nat)) (t : Nat), (es.foldl (fun s e => if e.2 = i then s ||| 2 ^ e.1 else s) t).testBit v = true ↔ t.testBit v = true ∨ (v, i) ∈ es
  | [], t => by simp
  | e :: es, t => by
    rw [List.foldl_cons, adjR_go es, List.mem_cons]
    obtain ⟨x, y⟩ := e
    by_cases h : y = i
    · subst h
      simp only [if_true, Nat.testBit_or, Nat.testBit_two_pow, Bool.or_eq_true, decide_eq_true_eq, Prod.mk.injEq, and_true, or_assoc]
      rw [eq_comm (a := x)]
    · have hn : (v, i) ≠ (x, y) := fun e => h (congrArg Prod.snd e).symm
      simp [h, hn]
theorem adjR_bit {es : List (Nat × Nat)} {i v : Nat} : (adjR es i).testBit v = true ↔ (v, i) ∈ es := by
  unfold adjR; rw [adjR_go]; simp
def Low (n : Nat) (es : List (Nat × Nat)) : Prop := ∀ e ∈ es, e.1 < n ∧ e.2 < n
theorem adj_under {n : Nat} {es : List (Nat × Nat)} (h : Low n es) (i : Nat) : Under n (adj es i) := fun _ hv => (h _ (adj_bit.1 hv)).2
theorem adjR_under {n : Nat} {es : List (Nat × Nat)} (h : Low n es) (i : Nat) : Under n (adjR es i) := fun _ hv => (h _ (adjR_bit.1 hv)).1
theorem Walk.front {L : Nat → Nat} {a b : Nat} (hb : a < 64) (h : (L a).testBit b = true) : ∀ {k c : Nat}, Walk L k b c → Walk L (k + 1) a c
  | _, _, .here _ => (Walk.here a).more hb h
  | _, _, .more hw h1 h2 => (Walk.front hb h hw).more h1 h2
theorem Walk.turn {es : List (Nat × Nat)} (h : Low 64 es) {a : Nat} : ∀ {k v : Nat}, Walk (adj es) k a v → Walk (adjR es) k v a
  | _, _, .here _ => .here _
  | _, _, .more hw _ h2 => by
    have := h _ (adj_bit.1 h2)
    exact Walk.front this.2 (adjR_bit.2 (adj_bit.1 h2)) (Walk.turn h hw)
theorem Walk.turn' {es : List (Nat × Nat)} (h : Low 64 es) {a : Nat} : ∀ {k v : Nat}, Walk (adjR es) k a v → Walk (adj es) k v a
  | _, _, .here _ => .here _
  | _, _, .more hw _ h2 => by
    have := h _ (adjR_bit.1 h2)
    exact Walk.front this.1 (adj_bit.2 (adjR_bit.1 h2)) (Walk.turn' h hw)
def distTo (L : Nat → Nat) (s k v : Nat) : Int := match (List.range k).find? (fun j => (lev L s j).testBit v) with | some j => j | none => -1
theorem distTo_zero (L : Nat → Nat) (s v : Nat) : distTo L s 0 v = -1 := rfl
theorem distTo_succ (L : Nat → Nat) (s k v : Nat) : distTo L s (k + 1) v = if 0 ≤ distTo L s k v then distTo L s k v else if (lev L s k).testBit v then (k : Int) else -1 := by
  unfold distTo
  rw [List.range_succ, List.find?_append]
  cases h : (List.range k).find? (fun j => (lev L s j).testBit v) with
  | some j => simp
  | none =>
    cases h1 : (lev L s k).testBit v <;> simp [h1]
theorem distTo_cases (L : Nat → Nat) (s v : Nat) : ∀ k, (distTo L s k v = -1 ∧ ∀ j, j < k → (lev L s j).testBit v = false) ∨ ∃ j : Nat, j < k ∧ distTo L s k v = j ∧ (lev L s j).testBit v = true ∧ ∀ i, i < j → (lev L s i).testBit v = false
  | 0 => .inl ⟨rfl, fun j hj => absurd hj (Nat.not_lt_zero _)⟩
  | k + 1 => by
    rw [distTo_succ]
    rcases distTo_cases L s v k with ⟨h1, h2⟩ | ⟨j, h0, h1, h2, h3⟩
    · rw [h1, if_neg (by decide)]
      cases h : (lev L s k).testBit v with
      | true => exact .inr ⟨k, by omega, by simp, h, h2⟩
      | false => exact .inl ⟨by simp, fun j hj => by
          rcases Nat.lt_or_ge j k with h4 | h4
          · exact h2 j h4
          · obtain rfl : j = k := by omega
            exact h⟩
    · rw [h1, if_pos (by omega)]
      exact .inr ⟨j, by omega, rfl, h2, h3⟩
theorem distTo_iff {L : Nat → Nat} {s v k j : Nat} : distTo L s k v = j ↔ j < k ∧ (lev L s j).testBit v = true ∧ ∀ i, i < j → (lev L s i).testBit v = false := by
  rcases distTo_cases L s v k with ⟨h1, h2⟩ | ⟨i, h0, h1, h2, h3⟩
  · constructor
    · intro h; omega
    · rintro ⟨h3, h4, _⟩; rw [h2 j h3] at h4; cases h4
  · constructor
    · intro h
      obtain rfl : i = j := by omega
      exact ⟨h0, h2, h3⟩
    · rintro ⟨h4, h5, h6⟩
      rcases Nat.lt_trichotomy i j with h | h | h
      · rw [h6 i h] at h2; cases h2
      · omega
      · rw [h3 j h] at h5; cases h5
theorem distTo_neg {L : Nat → Nat} {s v k : Nat} : distTo L s k v < 0 ↔ ∀ j, j < k → (lev L s j).testBit v = false := by
  rcases distTo_cases L s v k with ⟨h1, h2⟩ | ⟨i, h0, h1, h2, h3⟩
  · exact ⟨fun _ => h2, fun _ => by omega⟩
  · constructor
    · intro h; omega
    · intro h; rw [h i h0] at h2; cases h2
theorem distTo_bd (L : Nat → Nat) (s k v : Nat) : -1 ≤ distTo L s k v ∧ distTo L s k v < k := by
  rcases distTo_cases L s v k with ⟨h1, _⟩ | ⟨i, h0, h1, _, _⟩ <;> omega
theorem distTo_stay {L : Nat → Nat} {s k : Nat} (h : lev L s (k + 1) = lev L s k) (v : Nat) {j : Nat} (hj : k + 1 ≤ j) : distTo L s j v = distTo L s (k + 1) v := by
  rcases distTo_cases L s v (k + 1) with ⟨h1, h2⟩ | ⟨i, h0, h1, h2, h3⟩
  · have h4 : distTo L s j v < 0 := distTo_neg.2 fun i hi => by
      rcases Nat.lt_or_ge i (k + 1) with h5 | h5
      · exact h2 i h5
      · rw [lev_stay h i (by omega)]; exact h2 k (by omega)
    have := distTo_bd L s j v
    omega
  · rw [h1]; exact distTo_iff.2 ⟨by omega, h2, h3⟩
def dist (L : Nat → Nat) (s v : Nat) : Int := distTo L s 65 v
theorem dist_full {n : Nat} {L : Nat → Nat} {s : Nat} (h : ∀ i, Under n (L i)) (hs : Under n s) (hn : n ≤ 64) (v : Nat) {j : Nat} (hj : n + 1 ≤ j) : distTo L s j v = dist L s v := by
  have e : lev L s (n + 1) = lev L s n := lev_full h hs _ (Nat.le_succ n)
  unfold dist
  rw [distTo_stay e v hj, distTo_stay e v (by omega : n + 1 ≤ 65)]
end Go.Proofs.YtdpfoegcmngdfaaDoor
