/- Plain mathematics: the value of decimal digits; the text of an integer. No program. -/
import Derived.Test.YtegndbiglehacaaDoorBack
import Derived.Test.YtegndbiglehacaaDoorNum
namespace Go.Proofs.YtegndbiglehacaaDoor
open Go.RowKit

/-- The value of digits, the lowest one first. -/
def dval : List Int → Nat
  | [] => 0
  | d :: r => d.toNat + 10 * dval r
def Dig (l : List Int) : Prop := ∀ x ∈ l, 0 ≤ x ∧ x ≤ 9
def ten (n : Nat) : Nat := 10 ^ n
theorem ten_zero : ten 0 = 1 := rfl
theorem ten_succ (n : Nat) : ten (n + 1) = 10 * ten n := by unfold ten; rw [Nat.pow_succ, Nat.mul_comm]
theorem ten_pos (n : Nat) : 0 < ten n := Nat.pow_pos (by decide)
theorem ten_le {a b : Nat} (h : a ≤ b) : ten a ≤ ten b := Nat.pow_le_pow_right (by decide) h
theorem dval_append (a b : List Int) : dval (a ++ b) = dval a + ten a.length * dval b := by
  induction a with
  | nil => simp [dval, ten_zero]
  | cons d r ih => rw [List.cons_append, dval, dval, ih, List.length_cons, ten_succ, Nat.mul_add, Nat.mul_assoc]; omega
theorem dval_snoc (a : List Int) (d : Int) : dval (a ++ [d]) = dval a + ten a.length * d.toNat := by rw [dval_append]; simp [dval]
theorem dval_lt {l : List Int} (h : Dig l) : dval l < ten l.length := by
  induction l with
  | nil => exact Nat.one_pos
  | cons d r ih =>
    rw [dval, List.length_cons, ten_succ]
    have h1 := h d (List.mem_cons_self ..)
    have h2 := ih (fun x hx => h x (List.mem_cons_of_mem _ hx))
    omega
theorem dval_digN (u : Nat) : dval (digN u) = u := by
  induction u using Nat.strongRecOn with
  | _ u ih =>
    by_cases h0 : u = 0
    · subst h0; rw [digN_zero]; rfl
    · rw [digN_pos h0, dval, ih (u / 10) (by omega)]
      omega
theorem dig_digN (u : Nat) : Dig (digN u) := digN_mem u
theorem dig_take {l : List Int} (h : Dig l) (k : Nat) : Dig (l.take k) := fun d hd => h d (List.mem_of_mem_take hd)
theorem dval_split (xs : List Int) (k : Nat) : dval xs = dval (xs.take k) + ten (xs.take k).length * dval (xs.drop k) := by
  rw [← dval_append, List.take_append_drop]
/-- Digits without zeros at the end are those of their value. -/
theorem digN_dval : ∀ l : List Int, Dig l → l.getLast? ≠ some 0 → digN (dval l) = l := by
  intro l
  induction l with
  | nil => intro _ _; rw [dval, digN_zero]
  | cons d r ih =>
    intro h hl
    have hd := h d (List.mem_cons_self ..)
    have hr : Dig r := fun x hx => h x (List.mem_cons_of_mem _ hx)
    cases r with
    | nil =>
      have : d ≠ 0 := by intro e; apply hl; simp [e]
      rw [dval, dval, digN_pos (by omega), show (d.toNat + 10 * 0) / 10 = 0 by omega, digN_zero]
      congr 1
      omega
    | cons e s =>
      have hl' : (e :: s).getLast? ≠ some 0 := by rw [List.getLast?_cons_of_ne_nil (by simp)] at hl; exact hl
      have ih' := ih hr hl'
      have hpos : dval (e :: s) ≠ 0 := by
        intro h0
        rw [h0, digN_zero] at ih'
        cases ih'
      rw [dval, digN_pos (by omega), show (d.toNat + 10 * dval (e :: s)) / 10 = dval (e :: s) by omega, ih']
      congr 1
      omega
theorem dval_trim (l : List Int) : ∀ k, k ≤ l.length → dval (l.take (trimTo l k)) = dval (l.take k) := by
  intro k
  induction k with
  | zero => intro _; rfl
  | succ k ih =>
    intro hk
    unfold trimTo
    by_cases h0 : l.getD k 0 = 0
    · rw [if_pos h0, ih (by omega), List.take_succ_eq_append_getElem (by omega), dval_snoc]
      have e : l[k] = 0 := by rw [← h0]; simp [List.getD, show k < l.length by omega]
      rw [e]
      simp
    · rw [if_neg h0]
theorem trim_last (l : List Int) : ∀ k, k ≤ l.length → (l.take (trimTo l k)).getLast? ≠ some 0 := by
  intro k
  induction k with
  | zero => intro _; simp [trimTo]
  | succ k ih =>
    intro hk
    unfold trimTo
    by_cases h0 : l.getD k 0 = 0
    · rw [if_pos h0]; exact ih (by omega)
    · rw [if_neg h0, List.take_succ_eq_append_getElem (by omega)]
      have e : l[k] = l.getD k 0 := by simp [List.getD, show k < l.length by omega]
      rw [List.getLast?_append, List.getLast?_singleton, e]
      simp only [Option.some_or, ne_eq, Option.some.injEq]
      exact h0
/-- Digits, trimmed, are those of their value. -/
theorem trim_digN {l : List Int} (h : Dig l) : l.take (trimTo l l.length) = digN (dval l) := by
  have e := digN_dval _ (dig_take h _) (trim_last l l.length (Nat.le_refl _))
  rw [dval_trim l l.length (Nat.le_refl _), List.take_length] at e
  exact e.symm
theorem trim_len {l : List Int} (h : Dig l) : trimTo l l.length = (digN (dval l)).length := by
  rw [← trim_digN h, List.length_take]
  have := trimTo_le l l.length
  omega
theorem textOf_dval (neg : Bool) {l : List Int} (h : Dig l) : textOf neg l = textOf neg (digN (dval l)) := by
  unfold textOf
  rw [trimTo_full _ (digN_last _), List.take_length, trim_digN h, trim_len h]
theorem digN_ge {u : Nat} (h : 0 < u) : ten ((digN u).length - 1) ≤ u := by
  induction u using Nat.strongRecOn with
  | _ u ih =>
    rw [digN_pos (by omega), List.length_cons]
    by_cases h1 : u / 10 = 0
    · rw [h1, digN_zero]; exact h
    · have h2 := ih (u / 10) (by omega) (by omega)
      have h3 : 0 < (digN (u / 10)).length := by rw [digN_pos h1]; simp
      rw [show (digN (u / 10)).length + 1 - 1 = ((digN (u / 10)).length - 1) + 1 by omega, ten_succ]
      omega
theorem digN_lt (u : Nat) : u < ten (digN u).length := by
  have := dval_lt (dig_digN u)
  rwa [dval_digN] at this

/-- The text of an integer. -/
def txt (z : Int) : ByteArray := textOf (decide (z < 0)) (digN z.natAbs)
def zOf (s : ByteArray) : Int := signZ (isNeg s) (decV (bodyOf s).data.toList)
theorem txt_zOf {s : ByteArray} (h : errOf s = 0) : txt (zOf s) = s := text_whole h
/-- A sign and digits as the text of an integer. -/
theorem textOf_txt {neg : Bool} {l : List Int} {z : Int} (h : Dig l) (hv : dval l = z.natAbs) (hs : z ≠ 0 → neg = decide (z < 0)) : textOf neg l = txt z := by
  rw [textOf_dval neg h, hv]
  unfold txt
  by_cases h0 : z = 0
  · subst h0
    unfold textOf
    rw [show (0 : Int).natAbs = 0 from rfl, digN_zero]
    rfl
  · rw [hs h0]
theorem txt_zero : txt 0 = ⟨#[48]⟩ := by
  unfold txt textOf
  rw [show (0 : Int).natAbs = 0 from rfl, digN_zero]
  rfl
theorem txt_ne {z : Int} (h : z ≠ 0) : txt z = strOfNums ((if z < 0 then [45] else []) ++ (digN z.natAbs).reverse.map (48 + ·)) := by
  have e : txt z = textOf (decide (z < 0)) (digN z.natAbs) := rfl
  rw [e, textOf_pos _ (by omega)]
  unfold sig
  rw [List.map_reverse]
  by_cases hz : z < 0 <;> simp [hz]
theorem nums_data (l : List Int) : (strOfNums l).data.toList = l.map fun n => UInt8.ofNat n.toNat := by
  simp [strOfNums]

/-- The digits of bytes, the last one first, without minus. -/
def dl (l : List UInt8) : List Int := (l.filter (· != 45)).reverse.map fun c => (c.toNat : Int) - 48
theorem dl_minus (l : List UInt8) : dl (45 :: l) = dl l := by unfold dl; rw [List.filter_cons_of_neg (by decide)]
theorem dl_digit {c : UInt8} (h : c ≠ 45) (l : List UInt8) : dl (c :: l) = dl l ++ [(c.toNat : Int) - 48] := by
  unfold dl
  rw [List.filter_cons_of_pos (by simpa using h), List.reverse_cons, List.map_append]
  rfl
theorem dl_sig : ∀ l : List Int, Dig l → dl (l.reverse.map fun d => UInt8.ofNat (48 + d).toNat) = l := by
  intro l h
  unfold dl
  have hf : (l.reverse.map fun d => UInt8.ofNat (48 + d).toNat).filter (· != 45) = l.reverse.map fun d => UInt8.ofNat (48 + d).toNat := by
    rw [List.filter_eq_self]
    intro c hc
    obtain ⟨d, hd, rfl⟩ := List.mem_map.1 hc
    have := h d (by simpa using hd)
    simp only [bne_iff_ne, ne_eq]
    intro e
    have e2 := congrArg UInt8.toNat e
    rw [UInt8.toNat_ofNat'] at e2
    simp at e2
    omega
  rw [hf, ← List.map_reverse, List.reverse_reverse, List.map_map]
  conv => rhs; rw [← List.map_id l]
  apply List.map_congr_left
  intro d hd
  have := h d hd
  simp only [Function.comp, id]
  rw [UInt8.toNat_ofNat']
  omega
/-- The digits of a text. -/
theorem dl_txt (z : Int) : Dig (dl (txt z).data.toList) ∧ dval (dl (txt z).data.toList) = z.natAbs := by
  by_cases h0 : z = 0
  · subst h0
    rw [txt_zero]
    have e : dl (⟨#[48]⟩ : ByteArray).data.toList = [0] := by decide
    rw [e]
    exact ⟨fun x hx => by rw [List.mem_singleton.1 hx]; decide, rfl⟩
  · have e : dl (txt z).data.toList = digN z.natAbs := by
      rw [txt_ne h0, nums_data]
      have hd := dl_sig _ (dig_digN z.natAbs)
      by_cases hz : z < 0
      · rw [if_pos hz, List.map_append, List.map_map, ← hd]
        exact (dl_minus _).trans (by rw [hd]; exact hd)
      · rw [if_neg hz, List.nil_append, List.map_map]
        exact hd
    rw [e]
    exact ⟨dig_digN _, dval_digN _⟩
/-- The first byte of a text. -/
theorem txt_first {z : Int} (h : z ≠ 0) : ∃ (n : Nat) (hs : 0 < (txt z).size), ((txt z)[0]).toNat = n ∧ (z < 0 → n = 45) ∧ (0 < z → 49 ≤ n ∧ n ≤ 57) := by
  have e := txt_ne h
  have hl : (txt z).data.toList = ((if z < 0 then [45] else []) ++ (digN z.natAbs).reverse.map (48 + ·)).map fun n : Int => UInt8.ofNat n.toNat := by rw [e, nums_data]
  have hne : digN z.natAbs ≠ [] := by rw [digN_pos (by omega)]; simp
  obtain ⟨d, hd⟩ : ∃ d, (digN z.natAbs).getLast? = some d := ⟨_, List.getLast?_eq_some_getLast hne⟩
  have hd0 : d ≠ 0 := fun e => digN_last z.natAbs (by rw [hd, e])
  have hdm := dig_digN z.natAbs d (List.mem_of_getLast? hd)
  have hs : 0 < (txt z).size := by
    rw [← str_len, hl]
    simp only [List.length_map, List.length_append, List.length_reverse]
    have := List.length_pos_iff.mpr hne
    omega
  have hh := head_at hs
  rw [hl] at hh
  refine ⟨_, hs, rfl, fun hz => ?_, fun hz => ?_⟩
  · rw [if_pos hz] at hh
    simp at hh
    rw [← hh]
    decide
  · rw [if_neg (by omega), List.nil_append, List.map_map, List.head?_map, List.head?_reverse, hd] at hh
    simp at hh
    rw [← hh, UInt8.toNat_ofNat']
    omega
theorem txt_size (z : Int) {k : Nat} (h : z.natAbs < ten k) (hk : 0 < k) : (txt z).size ≤ k + 1 := by
  by_cases h0 : z = 0
  · subst h0; rw [txt_zero]; show 1 ≤ k + 1; omega
  · rw [txt_ne h0, strOfNums_size]
    have := digN_len k z.natAbs h
    split <;> simp <;> omega
end Go.Proofs.YtegndbiglehacaaDoor
