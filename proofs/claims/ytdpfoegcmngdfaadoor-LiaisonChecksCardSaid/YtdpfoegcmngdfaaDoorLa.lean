/- Liaisons: the mathematics. -/
import Derived.Test.YtdpfoegcmngdfaaDoorLb
namespace Go.Proofs.YtdpfoegcmngdfaaDoor
/-- The least node of a set, alone. -/
def lowB (s : Nat) : Nat := if s = 0 then 0 else 2 ^ Lib.ctz 64 s
theorem bits_head {s : Nat} (h0 : s ≠ 0) (h : s < 18446744073709551616) : (bitsOf s).head? = some (Lib.ctz 64 s) := by rw [bits_low h0 h]; rfl
theorem ctz_in {s : Nat} (h0 : s ≠ 0) (h : s < 18446744073709551616) : Lib.ctz 64 s < 64 ∧ s.testBit (Lib.ctz 64 s) = true :=
  mem_bitsOf.1 (List.mem_of_mem_head? (by rw [bits_head h0 h]; rfl))
theorem lowB_bit {s v : Nat} (h0 : s ≠ 0) : (lowB s).testBit v = decide (Lib.ctz 64 s = v) := by
  unfold lowB; rw [if_neg h0]; exact Nat.testBit_two_pow
theorem minus_one {s : Nat} (h0 : s ≠ 0) (h : s < 18446744073709551616) (v : Nat) : (s &&& (s - 1)).testBit v = (s.testBit v && decide (v ≠ Lib.ctz 64 s)) := by
  obtain ⟨m, hm, hk⟩ := Lib.ctzFrom_spec 64 s (by omega) (by simpa using h)
  have e : Lib.ctz 64 s = Lib.ctzFrom 64 s := by unfold Lib.ctz; rw [if_neg h0]
  rw [← e] at hm hk
  generalize Lib.ctz 64 s = k at *
  subst hm
  exact testBit_low
theorem lowB_and {s : Nat} (h0 : s ≠ 0) (h : s < 18446744073709551616) : s &&& (18446744073709551616 - s) = lowB s := by
  apply Nat.eq_of_testBit_eq
  intro v
  have e : 18446744073709551616 - s = 2 ^ 64 - ((s - 1) + 1) := by omega
  rw [Nat.testBit_and, e, Nat.testBit_two_pow_sub_succ (by omega), lowB_bit h0]
  have h1 := minus_one h0 h v
  rw [Nat.testBit_and] at h1
  have h2 := ctz_in h0 h
  by_cases hv : Lib.ctz 64 s = v
  · subst hv
    simp only [h2.2, h2.1, Bool.true_and, ne_eq, not_true, decide_false, decide_true] at h1 ⊢
    rw [h1]; rfl
  · rw [show decide (v ≠ Lib.ctz 64 s) = true from decide_eq_true (fun e => hv e.symm), Bool.and_true] at h1
    rw [decide_eq_false hv]
    cases h3 : s.testBit v with
    | false => rfl
    | true => rw [h3, Bool.true_and] at h1; rw [h1]; simp
theorem lowB_le {s : Nat} (h : s < 18446744073709551616) : ∀ v, (lowB s).testBit v = true → s.testBit v = true := fun v hv => by
  by_cases h0 : s = 0
  · subst h0; simp [lowB] at hv
  · rw [lowB_bit h0] at hv
    have := of_decide_eq_true hv
    rw [← this]; exact (ctz_in h0 h).2
theorem lowB_lt {s : Nat} (h : s < 18446744073709551616) : lowB s < 18446744073709551616 :=
  under_lt (k := 64) fun v hv => lt_under (k := 64) h v (lowB_le h v hv)
/-- The links within a set. -/
def inL (L : Nat → Nat) (s i : Nat) : Nat := L i &&& s
/-- The piece of a set to which its least node belongs. -/
def pieceM (L : Nat → Nat) (s : Nat) : Nat := lev (inL L s) (lowB s) 64
def conM (L : Nat → Nat) (s : Nat) : Bool := pieceM L s == s
theorem inL_bit {L : Nat → Nat} {s i v : Nat} : (inL L s i).testBit v = ((L i).testBit v && s.testBit v) := by unfold inL; exact Nat.testBit_and ..
theorem step_in (L : Nat → Nat) (s t : Nat) : stepM (inL L s) t = stepM L t &&& s := by
  apply Nat.eq_of_testBit_eq
  intro v
  rw [Bool.eq_iff_iff, step_bit, Nat.testBit_and, Bool.and_eq_true, step_bit]
  constructor
  · rintro ⟨n, h1, h2, h3⟩
    rw [inL_bit, Bool.and_eq_true] at h3
    exact ⟨⟨n, h1, h2, h3.1⟩, h3.2⟩
  · rintro ⟨⟨n, h1, h2, h3⟩, h4⟩
    exact ⟨n, h1, h2, by rw [inL_bit, h3, h4]; rfl⟩
theorem pl_in {L : Nat → Nat} {s : Nat} (h : s < 18446744073709551616) : ∀ k v, (lev (inL L s) (lowB s) k).testBit v = true → s.testBit v = true
  | 0, v, hv => lowB_le h v hv
  | k + 1, v, hv => by
    rw [lev, Nat.testBit_or, Bool.or_eq_true] at hv
    rcases hv with hv | hv
    · exact pl_in h k v hv
    · rw [step_in, Nat.testBit_and, Bool.and_eq_true] at hv; exact hv.2
theorem pl_lt {L : Nat → Nat} {s : Nat} (h : s < 18446744073709551616) (k : Nat) : lev (inL L s) (lowB s) k < 18446744073709551616 :=
  under_lt (k := 64) fun v hv => lt_under (k := 64) h v (pl_in h k v hv)
theorem pieceM_in {L : Nat → Nat} {s : Nat} (h : s < 18446744073709551616) {v : Nat} : (pieceM L s).testBit v = true → s.testBit v = true := pl_in h 64 v
theorem pieceM_lt {L : Nat → Nat} {s : Nat} (h : s < 18446744073709551616) : pieceM L s < 18446744073709551616 := pl_lt h 64
theorem inL_under {L : Nat → Nat} {s : Nat} (h : s < 18446744073709551616) (i : Nat) : Under 64 (inL L s i) := fun v hv => by
  rw [inL_bit, Bool.and_eq_true] at hv; exact lt_under (k := 64) h v hv.2
theorem piece_end {L : Nat → Nat} {s k : Nat} (h : s < 18446744073709551616) (e : lev (inL L s) (lowB s) (k + 1) = lev (inL L s) (lowB s) k) : lev (inL L s) (lowB s) k = pieceM L s := by
  unfold pieceM
  rcases Nat.lt_or_ge k 65 with h1 | h1
  · exact (lev_stay e 64 (by omega)).symm
  · exact lev_full (n := 64) (inL_under h) (fun v hv => lt_under (k := 64) (lowB_lt h) v hv) k (by omega)
theorem lev_le' (L : Nat → Nat) (s k : Nat) : lev L s k ≤ lev L s (k + 1) := Nat.left_le_or
theorem piece_closed {L : Nat → Nat} {s : Nat} (h : s < 18446744073709551616) {a v : Nat} (ha : (pieceM L s).testBit a = true) (hl : (L a).testBit v = true) (hs : s.testBit v = true) : (pieceM L s).testBit v = true := by
  have e : lev (inL L s) (lowB s) 65 = lev (inL L s) (lowB s) 64 := lev_full (n := 64) (inL_under h) (fun v hv => lt_under (k := 64) (lowB_lt h) v hv) 65 (by omega)
  unfold pieceM at ha ⊢
  rw [← e, lev, Nat.testBit_or, Bool.or_eq_true, step_bit]
  exact .inr ⟨a, lt_under (k := 64) (pl_lt h 64) a ha, ha, by rw [inL_bit, hl, hs]; rfl⟩
theorem piece_low {L : Nat → Nat} {s : Nat} (h0 : s ≠ 0) : (pieceM L s).testBit (Lib.ctz 64 s) = true :=
  lev_up (Nat.zero_le 64) _ (by show (lowB s).testBit _ = true; rw [lowB_bit h0]; simp)
/-- What holds the least node and is closed holds the piece. -/
theorem piece_least {L : Nat → Nat} {s : Nat} (h0 : s ≠ 0) (P : Nat → Prop) (hp : P (Lib.ctz 64 s)) (hc : ∀ a v, P a → (L a).testBit v = true → s.testBit v = true → P v) : ∀ k v, (lev (inL L s) (lowB s) k).testBit v = true → P v
  | 0, v, hv => by
    have hv : (lowB s).testBit v = true := hv
    rw [lowB_bit h0] at hv
    rw [← of_decide_eq_true hv]; exact hp
  | k + 1, v, hv => by
    rw [lev, Nat.testBit_or, Bool.or_eq_true, step_bit] at hv
    rcases hv with hv | ⟨n, _, h2, h3⟩
    · exact piece_least h0 P hp hc k v hv
    · rw [inL_bit, Bool.and_eq_true] at h3
      exact hc n v (piece_least h0 P hp hc k n h2) h3.1 h3.2
theorem piece_zero (L : Nat → Nat) : pieceM L 0 = 0 := by
  apply Nat.eq_of_testBit_eq
  intro v
  rw [Nat.zero_testBit]
  cases e : (pieceM L 0).testBit v with
  | false => rfl
  | true => have := pieceM_in (by decide) e; rw [Nat.zero_testBit] at this; cases this
theorem diff_less {L : Nat → Nat} {s : Nat} (h0 : s ≠ 0) (h : s < 18446744073709551616) : diff s (pieceM L s) < s := by
  refine Nat.lt_of_le_of_ne (diff_le _ _) fun e => ?_
  have := congrArg (fun x => x.testBit (Lib.ctz 64 s)) e
  simp only [diff_bit, piece_low h0, (ctz_in h0 h).2] at this
  cases this
/-- The pieces of a set. -/
def piecesM (L : Nat → Nat) : Nat → Nat → List Nat
  | 0, _ => []
  | n + 1, s => if s = 0 then [] else pieceM L s :: piecesM L n (diff s (pieceM L s))
theorem pieces_more {L : Nat → Nat} : ∀ {n m s : Nat}, s ≤ n → s ≤ m → s < 18446744073709551616 → piecesM L n s = piecesM L m s
  | 0, 0, s, _, _, _ => rfl
  | 0, m + 1, s, h, _, _ => by obtain rfl : s = 0 := by omega
                               rfl
  | n + 1, 0, s, _, h, _ => by obtain rfl : s = 0 := by omega
                               rfl
  | n + 1, m + 1, s, h1, h2, h3 => by
    unfold piecesM
    by_cases h0 : s = 0
    · rw [if_pos h0, if_pos h0]
    · rw [if_neg h0, if_neg h0]
      have := diff_less (L := L) h0 h3
      rw [pieces_more (n := n) (m := m) (by omega) (by omega) (by omega)]
def pcsM (L : Nat → Nat) (s : Nat) : List Nat := piecesM L s s
theorem pcs_zero (L : Nat → Nat) : pcsM L 0 = [] := rfl
theorem pcs_step {L : Nat → Nat} {s : Nat} (h0 : s ≠ 0) (h : s < 18446744073709551616) : pcsM L s = pieceM L s :: pcsM L (diff s (pieceM L s)) := by
  unfold pcsM
  obtain ⟨n, rfl⟩ : ∃ n, s = n + 1 := ⟨s - 1, by omega⟩
  have := diff_less (L := L) h0 h
  rw [piecesM, if_neg h0, pieces_more (by omega) (Nat.le_refl _) (by omega)]
/-- The nodes of a list, in the order of the list, that a set holds. -/
theorem bits_filter (s t : Nat) : (bitsOf s).filter (fun v => t.testBit v) = bitsOf (s &&& t) := by
  unfold bitsOf
  rw [List.filter_filter]
  exact List.filter_congr fun v _ => by rw [Nat.testBit_and, Bool.and_comm]
theorem bits_con {x u : Nat} (h : u < 64) : (bitsOf x).contains u = x.testBit u := by
  rw [Bool.eq_iff_iff, List.contains_iff_mem, mem_bitsOf]
  exact ⟨fun h => h.2, fun h1 => ⟨h, h1⟩⟩
theorem bits_nodup (s : Nat) : (bitsOf s).Nodup := (List.nodup_range).filter _
theorem bits_inj {s t : Nat} (hs : s < 18446744073709551616) (ht : t < 18446744073709551616) (h : bitsOf s = bitsOf t) : s = t := by
  apply Nat.eq_of_testBit_eq
  intro v
  by_cases hv : v < 64
  · rw [← bits_con hv, ← bits_con hv, h]
  · rw [Bool.eq_false_iff.2 fun e => hv (lt_under (k := 64) hs v e), Bool.eq_false_iff.2 fun e => hv (lt_under (k := 64) ht v e)]
theorem and_piece {L : Nat → Nat} {s : Nat} (h : s < 18446744073709551616) : s &&& pieceM L s = pieceM L s := by
  apply Nat.eq_of_testBit_eq
  intro v
  rw [Nat.testBit_and]
  cases e : (pieceM L s).testBit v with
  | false => simp
  | true => rw [pieceM_in h e]; rfl
/-- A list is as long as a part of it only if it is this part. -/
theorem con_len {L : Nat → Nat} {s : Nat} (h : s < 18446744073709551616) : ((bitsOf (pieceM L s)).length == (bitsOf s).length) = conM L s := by
  unfold conM
  rw [Bool.eq_iff_iff, beq_iff_eq, beq_iff_eq]
  constructor
  · intro e
    have e2 := bits_filter s (pieceM L s)
    rw [and_piece h] at e2
    rw [← e2] at e
    have := List.filter_eq_self.2 (List.length_filter_eq_length_iff.1 e)
    rw [e2] at this
    exact bits_inj (pieceM_lt h) h this
  · intro e; rw [e]
theorem bits_diff_filter (s t : Nat) : (bitsOf s).filter (fun v => !(bitsOf t).contains v) = bitsOf (diff s t) := by
  unfold bitsOf
  rw [List.filter_filter]
  refine List.filter_congr fun v hv => ?_
  have := List.mem_range.1 hv
  show (!(bitsOf t).contains v && s.testBit v) = _
  rw [bits_con this, diff_bit, Bool.and_comm]
/-- The state of the reference's search for a piece: nodes found, node i is looked at, its links to the first k nodes have been seen. -/
structure PIn (L : Nat → Nat) (s : Nat) (I : List Nat) (i k : Nat) : Prop where
  nd : I.Nodup
  mem : ∀ v ∈ I, (pieceM L s).testBit v = true
  fst : Lib.ctz 64 s ∈ I
  cl : ∀ j, j < i → ∀ a, I[j]? = some a → ∀ v ∈ bitsOf s, (L a).testBit v = true → v ∈ I
  hk : ∀ a, I[i]? = some a → ∀ v ∈ (bitsOf s).take k, (L a).testBit v = true → v ∈ I
  lt : i ≤ I.length
theorem PIn.start {L : Nat → Nat} {s : Nat} (h0 : s ≠ 0) : PIn L s [Lib.ctz 64 s] 0 0 where
  nd := by simp
  mem := fun v hv => by rw [List.mem_singleton.1 hv]; exact piece_low h0
  fst := List.mem_singleton.2 rfl
  cl := fun j hj => absurd hj (Nat.not_lt_zero _)
  hk := fun a _ v hv => by simp at hv
  lt := Nat.zero_le _
theorem PIn.len {L : Nat → Nat} {s : Nat} {I : List Nat} {i k : Nat} (h : PIn L s I i k) (hs : s < 18446744073709551616) : I.length ≤ (bitsOf s).length :=
  h.nd.length_le_of_subset fun v hv => by
    have h1 := h.mem v hv
    exact mem_bitsOf.2 ⟨lt_under (k := 64) (pieceM_lt hs) v h1, pieceM_in hs h1⟩
theorem PIn.yes {L : Nat → Nat} {s : Nat} {I : List Nat} {i k a v : Nat} (h : PIn L s I i k) (hs : s < 18446744073709551616) (ha : I[i]? = some a) (hv : (bitsOf s)[k]? = some v) (hl : (L a).testBit v = true) (hn : I.contains v = false) : PIn L s (I ++ [v]) i (k + 1) where
  nd := by
    rw [List.nodup_append]
    exact ⟨h.nd, by simp, fun x hx y hy e => by
      rw [List.mem_singleton.1 hy] at e
      rw [e] at hx
      rw [List.contains_iff_mem.2 hx] at hn; cases hn⟩
  mem := fun x hx => by
    rcases List.mem_append.1 hx with h1 | h1
    · exact h.mem x h1
    · rw [List.mem_singleton.1 h1]
      exact piece_closed hs (h.mem a (List.mem_of_getElem? ha)) hl (mem_bitsOf.1 (List.mem_of_getElem? hv)).2
  fst := List.mem_append_left _ h.fst
  cl := fun j hj b hb x hx hlx => by
    have hil := (List.getElem?_eq_some_iff.1 ha).1
    rw [List.getElem?_append_left (by omega)] at hb
    exact List.mem_append_left _ (h.cl j hj b hb x hx hlx)
  hk := fun b hb x hx hlx => by
    have hil := (List.getElem?_eq_some_iff.1 ha).1
    rw [List.getElem?_append_left hil, ha] at hb
    injection hb with hb
    subst hb
    rw [List.take_add_one, hv] at hx
    rcases List.mem_append.1 hx with h1 | h1
    · exact List.mem_append_left _ (h.hk a ha x h1 hlx)
    · exact List.mem_append_right _ (by simpa using h1)
  lt := by rw [List.length_append]; have := h.lt; omega
theorem PIn.no {L : Nat → Nat} {s : Nat} {I : List Nat} {i k a v : Nat} (h : PIn L s I i k) (ha : I[i]? = some a) (hv : (bitsOf s)[k]? = some v) (hl : (L a).testBit v = true → I.contains v = true) : PIn L s I i (k + 1) :=
  { h with
    hk := fun b hb x hx hlx => by
      rw [ha] at hb
      injection hb with hb
      subst hb
      rw [List.take_add_one, hv] at hx
      rcases List.mem_append.1 hx with h1 | h1
      · exact h.hk a ha x h1 hlx
      · have h1 : x = v := by simpa using h1
        subst h1
        exact List.contains_iff_mem.1 (hl hlx) }
theorem PIn.next {L : Nat → Nat} {s : Nat} {I : List Nat} {i k : Nat} (h : PIn L s I i k) (hk : (bitsOf s).length ≤ k) (hi : i < I.length) : PIn L s I (i + 1) 0 :=
  { h with
    cl := fun j hj a ha v hv hl => by
      rcases Nat.lt_or_ge j i with h1 | h1
      · exact h.cl j h1 a ha v hv hl
      · obtain rfl : j = i := by omega
        exact h.hk a ha v (by rw [List.take_of_length_le hk]; exact hv) hl
    hk := fun a _ v hv => by simp at hv
    lt := hi }
theorem PIn.done {L : Nat → Nat} {s : Nat} {I : List Nat} {i k : Nat} (h : PIn L s I i k) (hs : s < 18446744073709551616) (h0 : s ≠ 0) (hi : I.length ≤ i) (v : Nat) : I.contains v = (pieceM L s).testBit v := by
  rw [Bool.eq_iff_iff, List.contains_iff_mem]
  refine ⟨h.mem v, fun hv => ?_⟩
  refine piece_least h0 (fun v => v ∈ I) h.fst (fun a v ha hl hsv => ?_) 64 v hv
  obtain ⟨j, hj⟩ := List.getElem?_of_mem ha
  exact h.cl j (by have := (List.getElem?_eq_some_iff.1 hj).1; omega) a hj v (mem_bitsOf.2 ⟨lt_under (k := 64) hs v hsv, hsv⟩) hl
/-- The order of sets, as the reference has it. -/
def lexL : List Nat → List Nat → Bool
  | a :: l, b :: m => if a = b then lexL l m else decide (a < b)
  | _, _ => false
def lessL (a b : List Nat) : Bool := if a.length = b.length then lexL a b else decide (a.length < b.length)
theorem lexL_irrefl : ∀ l, lexL l l = false
  | [] => rfl
  | a :: l => by rw [lexL, if_pos rfl]; exact lexL_irrefl l
theorem lexL_total : ∀ {l m : List Nat}, l.length = m.length → l ≠ m → lexL l m = true ∨ lexL m l = true
  | [], [], _, h => absurd rfl h
  | a :: l, b :: m, h1, h2 => by
    unfold lexL
    by_cases e : a = b
    · subst e
      rw [if_pos rfl, if_pos rfl]
      exact lexL_total (by simpa using h1) fun e => h2 (by rw [e])
    · rw [if_neg e, if_neg (Ne.symm e)]
      simp only [decide_eq_true_eq]; omega
theorem lexL_trans : ∀ {l m k : List Nat}, lexL l m = true → lexL m k = true → lexL l k = true
  | [], _, _, h, _ => by simp [lexL] at h
  | a :: l, [], _, h, _ => by simp [lexL] at h
  | a :: l, b :: m, [], _, h => by simp [lexL] at h
  | a :: l, b :: m, c :: k, h1, h2 => by
    unfold lexL at h1 h2 ⊢
    by_cases e : a = b
    · subst e
      rw [if_pos rfl] at h1
      by_cases e2 : a = c
      · subst e2
        rw [if_pos rfl] at h2 ⊢
        exact lexL_trans h1 h2
      · rw [if_neg e2] at h2 ⊢; exact h2
    · rw [if_neg e] at h1
      have h1 := of_decide_eq_true h1
      by_cases e2 : b = c
      · subst e2; rw [if_neg e]; exact decide_eq_true h1
      · rw [if_neg e2] at h2
        have h2 := of_decide_eq_true h2
        rw [if_neg (by omega)]; exact decide_eq_true (by omega)
theorem lessL_irrefl (l : List Nat) : lessL l l = false := by unfold lessL; rw [if_pos rfl]; exact lexL_irrefl l
theorem lessL_total {l m : List Nat} (h : l ≠ m) : lessL l m = true ∨ lessL m l = true := by
  unfold lessL
  by_cases e : l.length = m.length
  · rw [if_pos e, if_pos e.symm]; exact lexL_total e h
  · rw [if_neg e, if_neg (Ne.symm e)]; simp only [decide_eq_true_eq]; omega
theorem lessL_trans {l m k : List Nat} (h1 : lessL l m = true) (h2 : lessL m k = true) : lessL l k = true := by
  unfold lessL at h1 h2 ⊢
  by_cases e : l.length = m.length
  · rw [if_pos e] at h1
    by_cases e2 : m.length = k.length
    · rw [if_pos e2] at h2; rw [if_pos (e.trans e2)]; exact lexL_trans h1 h2
    · rw [if_neg e2] at h2; rw [if_neg (by omega)]; rw [e]; exact h2
  · rw [if_neg e] at h1
    have h1 := of_decide_eq_true h1
    by_cases e2 : m.length = k.length
    · rw [if_neg (by omega)]; exact decide_eq_true (by omega)
    · rw [if_neg e2] at h2
      have h2 := of_decide_eq_true h2
      rw [if_neg (by omega)]; exact decide_eq_true (by omega)
/-- A set is put in at its place. -/
def atL (x : List Nat) (out : List (List Nat)) : Nat := (out.takeWhile fun y => lessL y x).length
def insX (out : List (List Nat)) (x : List Nat) : List (List Nat) := out.take (atL x out) ++ x :: out.drop (atL x out)
theorem atL_le (x : List Nat) (out : List (List Nat)) : atL x out ≤ out.length := (List.takeWhile_sublist _).length_le
theorem ins_perm (out : List (List Nat)) (x : List Nat) : (insX out x).Perm (x :: out) := by
  unfold insX
  refine List.perm_middle.trans ?_
  rw [List.take_append_drop]
theorem ins_take (out : List (List Nat)) (x : List Nat) : out.take (atL x out) = out.takeWhile fun y => lessL y x := by
  unfold atL
  have h := List.prefix_iff_eq_take.1 (List.takeWhile_prefix (fun y => lessL y x) (l := out))
  exact h.symm
theorem ins_drop (out : List (List Nat)) (x : List Nat) : out.drop (atL x out) = out.dropWhile fun y => lessL y x := by
  have h := List.takeWhile_append_dropWhile (p := fun y => lessL y x) (l := out)
  have h2 := List.take_append_drop (atL x out) out
  rw [ins_take] at h2
  exact List.append_cancel_left (h2.trans h.symm)
theorem ins_sorted {out : List (List Nat)} {x : List Nat} (h : out.Pairwise fun a b => lessL a b = true) (hx : x ∉ out) : (insX out x).Pairwise fun a b => lessL a b = true := by
  unfold insX
  have h1 := h
  rw [← List.take_append_drop (atL x out) out, List.pairwise_append] at h1
  have hlt : ∀ a ∈ out.take (atL x out), lessL a x = true := fun a ha => by
    rw [ins_take] at ha
    have := List.all_takeWhile (p := fun y => lessL y x) (l := out)
    exact List.all_eq_true.1 this a ha
  have hge : ∀ b ∈ out.drop (atL x out), lessL x b = true := by
    intro b hb
    have hne : x ≠ b := fun e => hx (e ▸ List.mem_of_mem_drop hb)
    cases hd : out.drop (atL x out) with
    | nil => rw [hd] at hb; cases hb
    | cons c l =>
      have hc : lessL c x = false := by
        rw [ins_drop] at hd
        have := List.head?_dropWhile_not (fun y => lessL y x) out
        rw [hd] at this
        simpa using this
      have hnc : x ≠ c := fun e => hx (e ▸ List.mem_of_mem_drop (by rw [hd]; exact List.mem_cons_self ..))
      have hxc : lessL x c = true := (lessL_total hnc).resolve_right (by rw [hc]; simp)
      rw [hd] at hb h1
      rcases List.mem_cons.1 hb with rfl | hb
      · exact hxc
      · exact lessL_trans hxc ((List.pairwise_cons.1 h1.2.1).1 b hb)
  rw [List.pairwise_append, List.pairwise_cons]
  exact ⟨h1.1, ⟨hge, h1.2.1⟩, fun a ha b hb => by
    rcases List.mem_cons.1 hb with rfl | hb
    · exact hlt a ha
    · exact lessL_trans (hlt a ha) (hge b hb)⟩
/-- Sets put in one by one. -/
def sortX (l : List (List Nat)) : List (List Nat) := l.foldl insX []
theorem sort_go : ∀ {l out : List (List Nat)}, out.Pairwise (fun a b => lessL a b = true) → (out ++ l).Nodup → (l.foldl insX out).Pairwise (fun a b => lessL a b = true) ∧ (l.foldl insX out).Perm (out ++ l)
  | [], out, h, _ => ⟨h, by rw [List.append_nil]; exact List.Perm.refl _⟩
  | x :: l, out, h, hn => by
    have hx : x ∉ out := fun hx => (List.nodup_append.1 hn).2.2 x hx x (List.mem_cons_self ..) rfl
    have hp : (insX out x ++ l).Perm (out ++ x :: l) := (List.Perm.append_right l (ins_perm out x)).trans (by rw [List.cons_append]; exact List.perm_middle.symm)
    have := sort_go (l := l) (ins_sorted h hx) (hp.nodup_iff.2 hn)
    exact ⟨this.1, this.2.trans hp⟩
theorem sort_same {l m : List (List Nat)} (hm : m.Pairwise fun a b => lessL a b = true) (hp : l.Perm m) : sortX l = m := by
  have hn : m.Nodup := hm.imp fun {a b} h e => by rw [e, lessL_irrefl] at h; cases h
  obtain ⟨h1, h2⟩ := sort_go (l := l) (out := []) List.Pairwise.nil (by simpa using hp.nodup_iff.2 hn)
  refine List.Perm.eq_of_pairwise (le := fun a b => lessL a b = true) (fun a b _ _ h3 h4 => ?_) h1 hm (h2.trans hp)
  have := lessL_trans h3 h4
  rw [lessL_irrefl] at this; cases this
/-- The subsets of a list of nodes with k more elements, each with those of c. -/
def chL : List Nat → Nat → Nat → List Nat
  | _, c, 0 => [c]
  | [], _, _ + 1 => []
  | x :: F, c, k + 1 => chL F (c ||| 2 ^ x) k ++ chL F c (k + 1)
/-- The subsets of a set with 1 to m elements. -/
def sbs (s m : Nat) : List Nat := (List.range m).flatMap fun k => chL (bitsOf s) 0 (k + 1)
/-- The nodes of a list at the places of a number's bits. -/
def pick (l : List Nat) (b : Nat) : List Nat := ((List.range l.length).filter fun i => b.testBit i).map fun i => l.getD i 0
def pow1 (l : List Nat) : List (List Nat) := (List.range' 1 (2 ^ l.length - 1)).map (pick l)
def bits6 (s : Nat) : List Nat := (List.range 6).filter fun i => s.testBit i
theorem bits6_eq {s : Nat} (h : s < 64) : bitsOf s = bits6 s := by
  unfold bitsOf bits6
  rw [show List.range 64 = List.range 6 ++ List.range' 6 58 by decide, List.filter_append]
  have : (List.range' 6 58).filter (fun i => s.testBit i) = [] := by
    rw [List.filter_eq_nil_iff]
    intro a ha
    rw [Nat.testBit_lt_two_pow (Nat.lt_of_lt_of_le h (Nat.pow_le_pow_right (n := 2) (i := 6) (by decide) (List.mem_range'_1.1 ha).1))]
    simp
  rw [this, List.append_nil]
def sbs6 (s m : Nat) : List Nat := (List.range m).flatMap fun k => chL (bits6 s) 0 (k + 1)
def sorted6 (l : List (List Nat)) : Bool := match l with | [] => true | a :: l => (l.all fun b => lessL a b) && sorted6 l
theorem sorted6_iff : ∀ {l}, sorted6 l = true → l.Pairwise fun a b => lessL a b = true
  | [], _ => List.Pairwise.nil
  | a :: l, h => by
    rw [sorted6, Bool.and_eq_true, List.all_eq_true] at h
    exact List.pairwise_cons.2 ⟨h.1, sorted6_iff h.2⟩
theorem fin_sorted : ∀ s, s < 64 → sorted6 ((sbs6 s (bits6 s).length).map bits6) = true := by decide +kernel
theorem fin_perm : ∀ s, s < 64 → (pow1 (bits6 s)).isPerm ((sbs6 s (bits6 s).length).map bits6) = true := by decide +kernel
theorem fin_len : ∀ s, s < 64 → ∀ m, m ≤ (bits6 s).length → sbs6 s m = (sbs6 s (bits6 s).length).filter (fun t => decide ((bits6 t).length ≤ m)) := by decide +kernel
theorem fin_in : ∀ s, s < 64 → (sbs6 s (bits6 s).length).all (fun t => decide (t < 64) && t != 0 && t &&& s == t) = true := by decide +kernel
theorem fin_all : ∀ s, s < 64 → ∀ t, t < 64 → t ≠ 0 → t &&& s = t → (sbs6 s (bits6 s).length).contains t = true := by decide +kernel
theorem fin_head : ∀ s, s < 64 → ∀ t, t < 64 → t ≠ 0 → t &&& s = t → ((bits6 t).head? == (bits6 s).head?) = t.testBit ((bits6 s).headD 0) := by decide +kernel
theorem and_lt64 {s t : Nat} (hs : s < 64) (h : t &&& s = t) : t < 64 := Nat.lt_of_le_of_lt (h ▸ Nat.and_le_right) hs
theorem sbs_six {s m : Nat} (hs : s < 64) : sbs s m = sbs6 s m := by unfold sbs sbs6; rw [bits6_eq hs]
theorem sbs_len {s m : Nat} (hs : s < 64) (hm : m ≤ (bitsOf s).length) : sbs s m = (sbs s (bitsOf s).length).filter (fun t => decide ((bitsOf t).length ≤ m)) := by
  rw [sbs_six hs, sbs_six hs]
  rw [bits6_eq hs] at hm ⊢
  rw [fin_len s hs m hm]
  refine List.filter_congr fun t ht => ?_
  have := List.all_eq_true.1 (fin_in s hs) t ht
  simp only [Bool.and_eq_true, decide_eq_true_eq] at this
  rw [bits6_eq this.1.1]
theorem sbs_mem {s m t : Nat} (hs : s < 64) (hm : m ≤ (bitsOf s).length) : t ∈ sbs s m ↔ t ≠ 0 ∧ t &&& s = t ∧ (bitsOf t).length ≤ m := by
  rw [sbs_len hs hm, List.mem_filter, decide_eq_true_eq, sbs_six hs, bits6_eq hs, ← and_assoc]
  refine and_congr_left fun _ => ⟨fun h => ?_, fun h => ?_⟩
  · have := List.all_eq_true.1 (fin_in s hs) t h
    simp only [Bool.and_eq_true, decide_eq_true_eq, bne_iff_ne, beq_iff_eq] at this
    exact ⟨this.1.2, this.2⟩
  · exact List.contains_iff_mem.1 (fin_all s hs t (and_lt64 hs h.2) h.1 h.2)
theorem map_six {s : Nat} (hs : s < 64) : (sbs s (bitsOf s).length).map bitsOf = (sbs6 s (bits6 s).length).map bits6 := by
  rw [sbs_six hs, bits6_eq hs]
  refine List.map_congr_left fun t ht => ?_
  have := List.all_eq_true.1 (fin_in s hs) t ht
  simp only [Bool.and_eq_true, decide_eq_true_eq] at this
  exact bits6_eq this.1.1
theorem sbs_sorted {s m : Nat} (hs : s < 64) (hm : m ≤ (bitsOf s).length) (q : Nat → Bool) : (((sbs s m).filter q).map bitsOf).Pairwise fun a b => lessL a b = true := by
  have h := sorted6_iff (fin_sorted s hs)
  rw [← map_six hs, List.pairwise_map] at h
  rw [sbs_len hs hm, List.pairwise_map]
  exact (h.filter _).filter _
/-- What the reference sorts is what the program lists. -/
theorem ref_sub {s m : Nat} (hs : s < 64) (hm : m ≤ (bitsOf s).length) (q : Nat → Bool) (ok : List Nat → Bool) (hq : ∀ t, t ≠ 0 → t &&& s = t → ok (bitsOf t) = (decide ((bitsOf t).length ≤ m) && q t)) :
    sortX ((pow1 (bitsOf s)).filter ok) = ((sbs s m).filter q).map bitsOf := by
  refine sort_same (sbs_sorted hs hm q) ?_
  have hp : (pow1 (bitsOf s)).Perm ((sbs s (bitsOf s).length).map bitsOf) := by
    rw [map_six hs, bits6_eq hs]; exact List.isPerm_iff.1 (fin_perm s hs)
  refine (hp.filter ok).trans ?_
  rw [List.filter_map, sbs_len hs hm, List.filter_filter]
  refine List.Perm.of_eq (congrArg _ (List.filter_congr fun t ht => ?_))
  have := (sbs_mem hs (Nat.le_refl _)).1 ht
  show ok (bitsOf t) = _
  rw [hq t this.1 this.2.1, Bool.and_comm]
theorem sortX_snoc (l : List (List Nat)) (x : List Nat) : sortX (l ++ [x]) = insX (sortX l) x := by unfold sortX; rw [List.foldl_append]; rfl
theorem sortX_len (l : List (List Nat)) : (sortX l).length = l.length := by
  unfold sortX
  have : ∀ (l out : List (List Nat)), (l.foldl insX out).length = out.length + l.length := by
    intro l
    induction l with
    | nil => intro out; simp
    | cons x l ih => intro out; rw [List.foldl_cons, ih, (ins_perm out x).length_eq]; simp; omega
  rw [this]; simp
theorem sortX_mem {l : List (List Nat)} {x : List Nat} : x ∈ sortX l ↔ x ∈ l := by
  unfold sortX
  have : ∀ (l out : List (List Nat)), x ∈ l.foldl insX out ↔ x ∈ out ∨ x ∈ l := by
    intro l
    induction l with
    | nil => intro out; simp
    | cons y l ih => intro out; rw [List.foldl_cons, ih, (ins_perm out y).mem_iff]; simp [or_assoc, or_comm, or_left_comm]
  rw [this]; simp
/-- The reference's list behind the numbers below b. -/
def refU (S : List Nat) (ok : List Nat → Bool) (b : Nat) : List (List Nat) := sortX (((List.range' 1 (b - 1)).map (pick S)).filter ok)
theorem refU_one (S : List Nat) (ok : List Nat → Bool) : refU S ok 1 = [] := rfl
theorem refU_yes {S : List Nat} {ok : List Nat → Bool} {b : Nat} (h1 : 1 ≤ b) (h : ok (pick S b) = true) : refU S ok (b + 1) = insX (refU S ok b) (pick S b) := by
  unfold refU
  obtain ⟨c, rfl⟩ : ∃ c, b = c + 1 := ⟨b - 1, by omega⟩
  rw [Nat.add_sub_cancel, Nat.add_sub_cancel, List.range'_concat, List.map_append, List.filter_append]
  simp only [Nat.one_mul, List.map_cons, List.map_nil]
  rw [Nat.add_comm 1 c, List.filter_cons, h, if_pos rfl, List.filter_nil, sortX_snoc]
theorem refU_no {S : List Nat} {ok : List Nat → Bool} {b : Nat} (h1 : 1 ≤ b) (h : ok (pick S b) = false) : refU S ok (b + 1) = refU S ok b := by
  unfold refU
  obtain ⟨c, rfl⟩ : ∃ c, b = c + 1 := ⟨b - 1, by omega⟩
  rw [Nat.add_sub_cancel, Nat.add_sub_cancel, List.range'_concat, List.map_append, List.filter_append]
  simp only [Nat.one_mul, List.map_cons, List.map_nil]
  rw [Nat.add_comm 1 c, List.filter_cons, h]
  simp
theorem refU_end (S : List Nat) (ok : List Nat → Bool) : refU S ok (2 ^ S.length) = sortX ((pow1 S).filter ok) := rfl
theorem refU_len (S : List Nat) (ok : List Nat → Bool) (b : Nat) : (refU S ok b).length ≤ b := by
  unfold refU
  rw [sortX_len]
  refine Nat.le_trans (List.length_filter_le _ _) ?_
  rw [List.length_map, List.length_range']; omega
theorem refU_mem {S : List Nat} {ok : List Nat → Bool} {b : Nat} {x : List Nat} (h : x ∈ refU S ok b) : ∃ c, x = pick S c ∧ ok x = true := by
  unfold refU at h
  rw [sortX_mem, List.mem_filter, List.mem_map] at h
  obtain ⟨⟨c, _, rfl⟩, h2⟩ := h
  exact ⟨c, rfl, h2⟩
/-- The nodes at the first i places whose bits are set. -/
def pickU (S : List Nat) (b i : Nat) : List Nat := ((List.range i).filter fun j => b.testBit j).map fun j => S.getD j 0
theorem pickU_yes {S : List Nat} {b i v : Nat} (h : S[i]? = some v) (hb : b.testBit i = true) : pickU S b (i + 1) = pickU S b i ++ [v] := by
  unfold pickU
  rw [List.range_succ, List.filter_append, List.map_append]
  simp [hb, List.getD, h]
theorem pickU_no {S : List Nat} {b i : Nat} (hb : b.testBit i = false) : pickU S b (i + 1) = pickU S b i := by
  unfold pickU
  rw [List.range_succ, List.filter_append, List.map_append]
  simp [hb]
theorem pickU_end (S : List Nat) (b : Nat) : pickU S b S.length = pick S b := rfl
theorem pickU_len (S : List Nat) (b i : Nat) : (pickU S b i).length ≤ i := by
  unfold pickU
  rw [List.length_map]
  refine Nat.le_trans (List.length_filter_le _ _) ?_
  simp
theorem fin_pick : ∀ s, s < 64 → ∀ b, b < 2 ^ (bits6 s).length → b ≠ 0 → (List.range 64).any (fun t => t != 0 && t &&& s == t && pick (bits6 s) b == bits6 t) = true := by decide +kernel
theorem pick_set {s b : Nat} (hs : s < 64) (hb : b < 2 ^ (bitsOf s).length) (h0 : b ≠ 0) : ∃ t, t ≠ 0 ∧ t &&& s = t ∧ t < 64 ∧ pick (bitsOf s) b = bitsOf t := by
  rw [bits6_eq hs] at hb
  obtain ⟨t, ht, h⟩ := List.any_eq_true.1 (fin_pick s hs b hb h0)
  simp only [Bool.and_eq_true, bne_iff_ne, beq_iff_eq] at h
  have := List.mem_range.1 ht
  exact ⟨t, h.1.1, h.1.2, this, by rw [bits6_eq hs, bits6_eq this]; exact h.2⟩
end Go.Proofs.YtdpfoegcmngdfaaDoor
