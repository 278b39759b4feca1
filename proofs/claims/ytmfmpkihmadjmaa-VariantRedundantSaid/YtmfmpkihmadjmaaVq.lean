/- The literals that a choice forces. -/
import Derived.Test.YtmfmpkihmadjmaaVr
namespace Go.Proofs.Ytmfmpkihmadjmaa
open Go.RowKit Go.Shelf Go.Maps Go.WideMaps
def ones64 : Nat := 18446744073709551615
def andF (l : List Cf) : Nat := l.foldl (fun a c => a &&& c.1) ones64
def norF (l : List Cf) : Nat := l.foldl (fun a c => a ^^^ (a &&& c.1)) ones64
theorem andF_snoc (l : List Cf) (c : Cf) : andF (l ++ [c]) = andF l &&& c.1 := by unfold andF; rw [List.foldl_append]; rfl
theorem norF_snoc (l : List Cf) (c : Cf) : norF (l ++ [c]) = norF l ^^^ (norF l &&& c.1) := by unfold norF; rw [List.foldl_append]; rfl
theorem andF_lt (l : List Cf) : andF l < 18446744073709551616 := by
  unfold andF
  have key : ∀ (l : List Cf) (a : Nat), a < 18446744073709551616 → l.foldl (fun a c => a &&& c.1) a < 18446744073709551616 := by
    intro l
    induction l with
    | nil => intro a h; exact h
    | cons c l ih => intro a h; exact ih _ (Nat.lt_of_le_of_lt Nat.and_le_left h)
  exact key l _ (by decide)
theorem diff_bit' (a b i : Nat) : (a ^^^ (a &&& b)).testBit i = (a.testBit i && !b.testBit i) := by
  rw [Nat.testBit_xor, Nat.testBit_and]
  cases a.testBit i <;> cases b.testBit i <;> rfl
theorem diff_le' (a b : Nat) : a ^^^ (a &&& b) ≤ a := by
  have : a ^^^ (a &&& b) = (a ^^^ (a &&& b)) &&& a := by
    apply Nat.eq_of_testBit_eq
    intro i
    rw [Nat.testBit_and, diff_bit']
    cases a.testBit i <;> cases b.testBit i <;> rfl
  rw [this]
  exact Nat.and_le_right
theorem norF_lt (l : List Cf) : norF l < 18446744073709551616 := by
  unfold norF
  have key : ∀ (l : List Cf) (a : Nat), a < 18446744073709551616 → l.foldl (fun a c => a ^^^ (a &&& c.1)) a < 18446744073709551616 := by
    intro l
    induction l with
    | nil => intro a h; exact h
    | cons c l ih => intro a h; exact ih _ (Nat.lt_of_le_of_lt (diff_le' _ _) h)
  exact key l _ (by decide)
theorem ones_bit (i : Nat) (h : i < 64) : ones64.testBit i = true := by
  have : ones64 = 2 ^ 64 - 1 := by decide
  rw [this, Nat.testBit_two_pow_sub_one]
  simpa using h
theorem andF_bit (l : List Cf) (i : Nat) (h : i < 64) : (andF l).testBit i = l.all fun c => c.1.testBit i := by
  unfold andF
  have key : ∀ (l : List Cf) (a : Nat), (l.foldl (fun a c => a &&& c.1) a).testBit i = (a.testBit i && l.all fun c => c.1.testBit i) := by
    intro l
    induction l with
    | nil => intro a; simp
    | cons c l ih => intro a; rw [List.foldl_cons, ih, Nat.testBit_and, List.all_cons, Bool.and_assoc]
  rw [key, ones_bit i h, Bool.true_and]
theorem norF_bit (l : List Cf) (i : Nat) (h : i < 64) : (norF l).testBit i = l.all fun c => !c.1.testBit i := by
  unfold norF
  have key : ∀ (l : List Cf) (a : Nat), (l.foldl (fun a c => a ^^^ (a &&& c.1)) a).testBit i = (a.testBit i && l.all fun c => !c.1.testBit i) := by
    intro l
    induction l with
    | nil => intro a; simp
    | cons c l ih => intro a; rw [List.foldl_cons, ih, diff_bit', List.all_cons, Bool.and_assoc]
  rw [key, ones_bit i h, Bool.true_and]
theorem bits_nor (a b : Nat) (ha : a < 18446744073709551616) (hb : b < 18446744073709551616) : bits .andNot .u64 (a : Int) (b : Int) = ((a ^^^ (a &&& b) : Nat) : Int) := by
  have hx : (a ^^^ (a &&& b)) < 18446744073709551616 := Nat.lt_of_le_of_lt (diff_le' a b) ha
  have h1 : (BitVec.ofInt 64 (a : Int)).toNat = a := by
    rw [BitVec.ofInt_natCast, BitVec.toNat_ofNat]; exact Nat.mod_eq_of_lt (by omega)
  have h2 : (BitVec.ofInt 64 (b : Int)).toNat = b := by
    rw [BitVec.ofInt_natCast, BitVec.toNat_ofNat]; exact Nat.mod_eq_of_lt (by omega)
  have e : (BitVec.ofInt 64 (a : Int) &&& ~~~ BitVec.ofInt 64 (b : Int)).toNat = (a ^^^ (a &&& b)) := by
    apply Nat.eq_of_testBit_eq
    intro i
    rw [BitVec.toNat_and, Nat.testBit_and, h1, BitVec.toNat_not, h2, diff_bit']
    by_cases hi : i < 64
    · have := Nat.testBit_two_pow_sub_succ (x := b) (n := 64) hb i
      rw [show 2 ^ 64 - 1 - b = 2 ^ 64 - (b + 1) by omega, this]
      simp [hi]
    · rw [Nat.testBit_lt_two_pow (x := a) (Nat.lt_of_lt_of_le ha (show 18446744073709551616 ≤ 2 ^ i from Nat.pow_le_pow_right (n := 2) (by decide) (show 64 ≤ i by omega)))]
      simp
  show IntKind.u64.wrap ((BitVec.ofInt 64 (a : Int) &&& ~~~ BitVec.ofInt 64 (b : Int)).toNat : Int) = _
  rw [e, IntKind.wrap_u64]
  omega
/-- The literals that hold in all of some configurations, of the first j options. -/
def frcU (l : List Cf) (j : Nat) : List (Nat × Bool) := (List.range j).filterMap fun i => if (l.all fun c => c.1.testBit (11 - i)) || (l.all fun c => !c.1.testBit (11 - i)) then some (i, l.all fun c => c.1.testBit (11 - i)) else none
theorem frcU_yes {l : List Cf} {j : Nat} (h : ((l.all fun c => c.1.testBit (11 - j)) || (l.all fun c => !c.1.testBit (11 - j))) = true) : frcU l (j + 1) = frcU l j ++ [(j, l.all fun c => c.1.testBit (11 - j))] := by
  unfold frcU
  rw [List.range_succ, List.filterMap_append]
  simp only [List.filterMap_cons, List.filterMap_nil, h, if_true]
theorem frcU_no {l : List Cf} {j : Nat} (h : ((l.all fun c => c.1.testBit (11 - j)) || (l.all fun c => !c.1.testBit (11 - j))) = false) : frcU l (j + 1) = frcU l j := by
  unfold frcU
  rw [List.range_succ, List.filterMap_append]
  simp only [List.filterMap_cons, List.filterMap_nil, h, Bool.false_eq_true, if_false, List.append_nil]
theorem frcU_len (l : List Cf) (j : Nat) : (frcU l j).length ≤ j := by
  unfold frcU
  refine Nat.le_trans (List.length_filterMap_le _ _) (by simp)
/-- Literals, flat. -/
def litV (l : List (Nat × Bool)) : List Value := l.flatMap fun e => [.int .i64 (e.1 : Nat), .bool e.2]
theorem litV_len (l : List (Nat × Bool)) : (litV l).length = l.length * 2 := by
  unfold litV
  induction l with
  | nil => rfl
  | cons a l ih => rw [List.flatMap_cons, List.length_append, ih]; simp; omega
theorem litV_at : ∀ {l : List (Nat × Bool)} {k : Nat} {e : Nat × Bool}, l[k]? = some e → (litV l)[k * 2]? = some (.int .i64 (e.1 : Nat)) ∧ (litV l)[k * 2 + 1]? = some (.bool e.2)
  | [], k, e, h => by simp at h
  | a :: l, 0, e, h => by
    injection h with h
    subst h
    exact ⟨rfl, rfl⟩
  | a :: l, k + 1, e, h => by
    rw [List.getElem?_cons_succ] at h
    have := litV_at h
    unfold litV at this ⊢
    rw [List.flatMap_cons]
    rw [show (k + 1) * 2 = k * 2 + 1 + 1 by omega]
    exact this
theorem own_lits {w : World} {base : Nat} {v : Value} {l : List (Nat × Bool)} (h : w.ownsRow base 68 2 v l.length (litV l)) : ∃ A c, v = .slice A l.length c ∧ LitL w A (lc l) := by
  obtain ⟨A, c, rfl, _, _, _, hc⟩ := own_row h
  refine ⟨A, c, rfl, fun k e hk => ?_⟩
  obtain ⟨x, s, hx, rfl⟩ := lc_at hk
  obtain ⟨h1, h2⟩ := litV_at hx
  obtain ⟨g, hA, _, h3, h4⟩ := hc _ _ h1
  obtain ⟨g', hA', _, _, h5⟩ := hc _ _ h2
  rw [hA] at hA'
  injection hA' with hA'
  injection hA' with hA'
  subst hA'
  exact ⟨g, 0, hA, h3, by rw [Nat.zero_add]; exact h4, by rw [Nat.zero_add]; exact h5⟩
theorem info_lit : (Try.prog.info? 68).map (fun i => (i.zero, i.size, i.bytes)) = some (some (.agg #[.int .i64 0, .bool false]), 2, 16) := by kernel_rfl
end Go.Proofs.Ytmfmpkihmadjmaa
