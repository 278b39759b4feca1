/- Rows of other types are other blocks; the numbers that describe a family. -/
import Derived.Test.YtmfmpkihmadjmaaVaj
namespace Go.Proofs.Ytmfmpkihmadjmaa
open Go.RowKit Go.Shelf
theorem own_other {x y : World} {B B' sz sz' n n' : Nat} {e e' : TypeId} {v v' : Value} {xs xs' : List Value} (h : x.ownsRow B e sz v n xs) (h' : x.ownsRow B' e' sz' v' n' xs') (he : e ≠ e') (hg : x.grownBy y v.ownBlock) : y.ownsRow B' e' sz' v' n' xs' := by
  refine ⟨h'.1, ?_⟩
  rcases h'.2 with h0 | ⟨g, cap, cur, hv, hB, hh, hr⟩
  · exact .inl h0
  · have hlt : g < x.heap.size := by
      rcases Nat.lt_or_ge g x.heap.size with h1 | h1
      · exact h1
      · rw [Array.getElem?_eq_none h1] at hh; cases hh
    have hne : some g ≠ v.ownBlock := by
      intro e1
      rcases h.2 with ⟨rfl, _⟩ | ⟨g2, cap2, cur2, rfl, _, hh2, _⟩
      · cases e1
      · have e2 : g = g2 := by injection e1
        rw [e2, hh2] at hh
        injection hh with hh
        injection hh with _ hh _
        exact he hh
    exact .inr ⟨g, cap, cur, hv, hB, (hg.block g hlt hne).trans hh, hr⟩
/-- The same behind an alloc. -/
theorem own_other2 {x y : World} {o : Obj} {B B' sz sz' n n' : Nat} {e e' : TypeId} {v v' : Value} {xs xs' : List Value} (h : x.ownsRow B e sz v n xs) (h' : x.ownsRow B' e' sz' v' n' xs') (he : e ≠ e') (hg : (x.alloc o).grownBy y v.ownBlock) : y.ownsRow B' e' sz' v' n' xs' :=
  own_other (h.alloc o) (h'.alloc o) he hg
/-- Rows of small numbers in memory. -/
def I8LL (w : World) (A : Option Addr) (ls : List (List Int)) : Prop :=
  ∀ k l, ls[k]? = some l → ∃ b o A' c, A = some ⟨b, o, none⟩ ∧ b < w.heap.size ∧ w.cell? ⟨b, o + k, none⟩ = some (.slice A' l.length c) ∧ I8L w A' l
theorem I8LL.keep {w w' : World} {A : Option Addr} {ls : List (List Int)} (h : I8LL w A ls) (hb : Below w.heap.size w w') : I8LL w' A ls :=
  fun k l hk => let ⟨b, o, A', c, e1, hlt, hc, hl⟩ := h k l hk; ⟨b, o, A', c, e1, Nat.lt_of_lt_of_le hlt hb.size, (hb.cell (p := ⟨b, o + k, none⟩) hlt).trans hc, hl.keep hb⟩
/-- The name of a rule. -/
def ruleN (i : Nat) : ByteArray := ⟨#[114, (49 + i).toUInt8]⟩
theorem dLs_low (ats : List Int) : ∀ i, ∀ l ∈ dLs ats i, l.1 < i
  | 0, l, h => by cases h
  | i + 1, l, h => by
    rw [dLs] at h
    split at h
    · exact Nat.lt_succ_of_lt (dLs_low ats i l h)
    · split at h
      · exact Nat.lt_succ_of_lt (dLs_low ats i l h)
      · rcases List.mem_append.1 h with h1 | h1
        · exact Nat.lt_succ_of_lt (dLs_low ats i l h1)
        · rw [List.mem_singleton.1 h1]
          exact Nat.lt_succ_self i
theorem decN_low (n : Nat) (l : List Int) : ∀ x ∈ decN n l, x.1 < n := dLs_low _ n
theorem dLs_sorted (ats : List Int) : ∀ i, (dLs ats i).Pairwise (fun a b => a.1 < b.1)
  | 0 => List.Pairwise.nil
  | i + 1 => by
    rw [dLs]
    split
    · exact dLs_sorted ats i
    · split
      · exact dLs_sorted ats i
      · refine List.pairwise_append.2 ⟨dLs_sorted ats i, List.pairwise_singleton _ _, fun a ha b hb => ?_⟩
        rw [List.mem_singleton.1 hb]
        exact dLs_low ats i a ha
theorem chE_sorted {n : Nat} : ∀ {ls : List (Nat × Bool)} {p : Option Int}, ls.Pairwise (fun a b => a.1 < b.1) → (∀ l ∈ ls, l.1 < n) → (∀ q, p = some q → ∀ l ∈ ls, q < (l.1 : Int)) → chE n p (lc ls) = 0
  | [], p, _, _, _ => by cases p <;> rfl
  | x :: l, p, h1, h2, h3 => by
    rw [List.pairwise_cons] at h1
    have hx := h2 x (List.mem_cons_self ..)
    have hok : ¬ (((x.1 : Nat) : Int) < 0 ∨ (n : Int) ≤ ((x.1 : Nat) : Int)) := by omega
    have ih := chE_sorted (n := n) (ls := l) (p := some ((x.1 : Nat) : Int)) h1.2 (fun y hy => h2 y (List.mem_cons_of_mem _ hy)) (fun q hq y hy => by injection hq with hq; subst hq; have := h1.1 y hy; omega)
    show chE n p ((((x.1 : Nat) : Int), x.2) :: lc l) = 0
    cases p with
    | none => rw [chE_first hok]; exact ih
    | some q =>
      have hq := h3 q rfl x (List.mem_cons_self ..)
      rw [chE_next hok (by show ¬ ((x.1 : Nat) : Int) ≤ q; omega)]
      exact ih
theorem decN_ok (n : Nat) (l : List Int) : chE n none (lc (decN n l)) = 0 := chE_sorted (dLs_sorted _ _) (dLs_low _ _) (fun q hq => by cases hq)
theorem decN_len (n : Nat) (l : List Int) : (decN n l).length ≤ n := dLs_len _ n
/-- The names of options and rules are names, in order, and differ. -/
theorem optN_name (i : Nat) (hi : i < 6) : nameB (optN i) := by
  match i, hi with
  | 0, _ => exact ⟨by decide, by decide, by decide⟩
  | 1, _ => exact ⟨by decide, by decide, by decide⟩
  | 2, _ => exact ⟨by decide, by decide, by decide⟩
  | 3, _ => exact ⟨by decide, by decide, by decide⟩
  | 4, _ => exact ⟨by decide, by decide, by decide⟩
  | 5, _ => exact ⟨by decide, by decide, by decide⟩
theorem ruleN_name (i : Nat) (hi : i < 6) : nameB (ruleN i) := by
  match i, hi with
  | 0, _ => exact ⟨by decide, by decide, by decide⟩
  | 1, _ => exact ⟨by decide, by decide, by decide⟩
  | 2, _ => exact ⟨by decide, by decide, by decide⟩
  | 3, _ => exact ⟨by decide, by decide, by decide⟩
  | 4, _ => exact ⟨by decide, by decide, by decide⟩
  | 5, _ => exact ⟨by decide, by decide, by decide⟩
theorem optN_order (i : Nat) (hi : i < 5) : Op.bytesLess (optN i).toList (optN (i + 1)).toList = true := by
  match i, hi with
  | 0, _ => decide +kernel
  | 1, _ => decide +kernel
  | 2, _ => decide +kernel
  | 3, _ => decide +kernel
  | 4, _ => decide +kernel
theorem ruleN_inj6 : ∀ i, i < 6 → ∀ j, j < 6 → ruleN i = ruleN j → i = j := by decide +kernel
theorem ruleN_inj (i j : Nat) (hi : i < 6) (hj : j < 6) (h : ruleN i = ruleN j) : i = j := ruleN_inj6 i hi j hj h
def famO (n : Nat) : List ByteArray := (List.range n).map optN
def famR (n : Nat) (ks : List (List Int)) : List (ByteArray × List (Nat × Bool)) := (List.range (min ks.length 6)).map fun i => (ruleN i, decN n (ks.getD i []))
theorem famO_at {n j : Nat} {s : ByteArray} (h : (famO n)[j]? = some s) : j < n ∧ s = optN j := by
  unfold famO at h
  rw [List.getElem?_map] at h
  obtain ⟨k, hk, rfl⟩ := Option.map_eq_some_iff.1 h
  obtain ⟨h1, h2⟩ := List.getElem?_eq_some_iff.1 hk
  rw [List.length_range] at h1
  rw [List.getElem_range] at h2
  exact ⟨h1, by rw [h2]⟩
theorem famO_ok {n : Nat} (hn : n ≤ 6) : (∀ s ∈ famO n, nameB s) ∧ ∀ j s t, (famO n)[j]? = some s → (famO n)[j + 1]? = some t → Op.bytesLess s.toList t.toList = true := by
  refine ⟨fun s hs => ?_, fun j s t h1 h2 => ?_⟩
  · obtain ⟨k, hk⟩ := List.getElem?_of_mem hs
    obtain ⟨h1, rfl⟩ := famO_at hk
    exact optN_name k (by omega)
  · obtain ⟨_, rfl⟩ := famO_at h1
    obtain ⟨h3, rfl⟩ := famO_at h2
    exact optN_order j (by omega)
theorem famR_ok (n : Nat) (ks : List (List Int)) (hn : n ≤ 6) : (∀ r ∈ famR n ks, nameB r.1 ∧ r.2.length ≤ 12 ∧ chE n none (lc r.2) = 0) ∧ ((famR n ks).map (·.1)).Nodup := by
  refine ⟨fun r hr => ?_, ?_⟩
  · unfold famR at hr
    obtain ⟨i, hi, rfl⟩ := List.mem_map.1 hr
    have hi := List.mem_range.1 hi
    exact ⟨ruleN_name i (by omega), by have := decN_len n (ks.getD i []); show (decN n (ks.getD i [])).length ≤ 12; omega, decN_ok _ _⟩
  · unfold famR
    rw [List.map_map]
    rw [List.Nodup, List.pairwise_map]
    refine List.Pairwise.imp_of_mem (fun {a b} ha hb hab => ?_) (List.nodup_range (n := min ks.length 6))
    have ha := List.mem_range.1 ha
    have hb := List.mem_range.1 hb
    exact fun e => hab (ruleN_inj a b (by omega) (by omega) e)
end Go.Proofs.Ytmfmpkihmadjmaa
