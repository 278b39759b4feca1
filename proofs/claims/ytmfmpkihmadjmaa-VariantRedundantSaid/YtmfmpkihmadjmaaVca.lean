/- Which rules follow from those before them. -/
import Derived.Test.YtmfmpkihmadjmaaVam
namespace Go.Proofs.Ytmfmpkihmadjmaa
open Go.RowKit Go.Shelf
abbrev Ru := ByteArray × List (Nat × Bool)
/-- Rule number i is the first one that configuration c breaks. -/
def brkAt (rs : List Ru) (c i : Nat) : Bool := (rs.take i).all (satB c) && !satB c (rs.getD i (ByteArray.empty, []))
def folB (n : Nat) (rs : List Ru) (k i : Nat) : Bool := (List.range k).all fun j => !brkAt rs (cfg n j) i
def folL (n : Nat) (rs : List Ru) (k : Nat) : List Bool := (List.range rs.length).map (folB n rs k)
def redU (n : Nat) (rs : List Ru) (j : Nat) : List Nat := (List.range j).filter (folB n rs (2 ^ n))
def lessL (n : Nat) (rs : List Ru) (j : Nat) : List Ru := ((List.range j).filter fun i => !folB n rs (2 ^ n) i).map fun i => rs.getD i (ByteArray.empty, [])
theorem folL_len (n : Nat) (rs : List Ru) (k : Nat) : (folL n rs k).length = rs.length := by unfold folL; rw [List.length_map, List.length_range]
theorem folL_at {n k i : Nat} {rs : List Ru} (hi : i < rs.length) : (folL n rs k)[i]? = some (folB n rs k i) := by
  unfold folL
  rw [List.getElem?_map, List.getElem?_range hi]
  rfl
theorem folL_zero (n : Nat) (rs : List Ru) : folL n rs 0 = List.replicate rs.length true := by
  unfold folL
  refine List.ext_getElem (by simp) fun i h1 h2 => ?_
  simp [folB]
theorem folB_succ (n : Nat) (rs : List Ru) (k i : Nat) : folB n rs (k + 1) i = (folB n rs k i && !brkAt rs (cfg n k) i) := by
  unfold folB
  rw [List.range_succ, List.all_append]
  simp
theorem brkAt_one {rs : List Ru} {c i i' : Nat} (hi : i < rs.length) (hi' : i' < rs.length) (h : brkAt rs c i = true) (hne : i' ≠ i) : brkAt rs c i' = false := by
  have aux : ∀ a b : Nat, a < b → b < rs.length → brkAt rs c a = true → brkAt rs c b = true → False := by
    intro a b hab hb h1 h2
    unfold brkAt at h1 h2
    rw [Bool.and_eq_true] at h1 h2
    have := List.all_eq_true.1 h2.1 (rs.getD a (ByteArray.empty, [])) (by
      rw [List.getD_eq_getElem?_getD, List.getElem?_eq_getElem (by omega)]
      exact List.mem_of_getElem? (i := a) (by rw [List.getElem?_take_of_lt hab, List.getElem?_eq_getElem (by omega)]; rfl))
    rw [this] at h1
    simp at h1
  cases hb : brkAt rs c i' with
  | false => rfl
  | true =>
    rcases Nat.lt_or_gt_of_ne hne with h1 | h1
    · exact (aux _ _ h1 hi hb h).elim
    · exact (aux _ _ h1 hi' h hb).elim
theorem folL_set {n k i : Nat} {rs : List Ru} (hi : i < rs.length) (h : brkAt rs (cfg n k) i = true) : folL n rs (k + 1) = (folL n rs k).set i false := by
  refine List.ext_getElem? fun j => ?_
  by_cases hj : j < rs.length
  · rw [folL_at hj, folB_succ]
    by_cases he : i = j
    · subst he
      rw [h, List.getElem?_set_self (by rw [folL_len]; exact hi)]
      simp
    · rw [List.getElem?_set_ne he, folL_at hj, brkAt_one hi hj h (fun e => he e.symm)]
      simp
  · rw [List.getElem?_eq_none (by rw [folL_len]; omega), List.getElem?_eq_none (by rw [List.length_set, folL_len]; omega)]
theorem folL_none {n k : Nat} {rs : List Ru} (h : rs.all (satB (cfg n k)) = true) : folL n rs (k + 1) = folL n rs k := by
  unfold folL
  refine List.map_congr_left fun i hi => ?_
  rw [List.mem_range] at hi
  rw [folB_succ]
  have : satB (cfg n k) (rs.getD i (ByteArray.empty, [])) = true := List.all_eq_true.1 h _ (by
    rw [List.getD_eq_getElem?_getD, List.getElem?_eq_getElem hi]; exact List.getElem_mem hi)
  unfold brkAt
  rw [this]
  simp
theorem redU_yes {n j : Nat} {rs : List Ru} (h : folB n rs (2 ^ n) j = true) : redU n rs (j + 1) = redU n rs j ++ [j] := by
  unfold redU
  rw [List.range_succ, List.filter_append, List.filter_cons, h]
  simp
theorem redU_no {n j : Nat} {rs : List Ru} (h : folB n rs (2 ^ n) j = false) : redU n rs (j + 1) = redU n rs j := by
  unfold redU
  rw [List.range_succ, List.filter_append, List.filter_cons, h]
  simp
theorem redU_len (n : Nat) (rs : List Ru) (j : Nat) : (redU n rs j).length ≤ j := Nat.le_trans (List.length_filter_le _ _) (by simp)
theorem redU_lt {n j : Nat} {rs : List Ru} : ∀ x ∈ redU n rs j, x < j := fun _x hx => List.mem_range.1 (List.mem_filter.1 hx).1
theorem redU_pre (n : Nat) (rs : List Ru) (j : Nat) : ∀ d, ∃ t, redU n rs (j + d) = redU n rs j ++ t ∧ ∀ x ∈ t, j ≤ x
  | 0 => ⟨[], by simp, by simp⟩
  | d + 1 => by
    obtain ⟨t, h1, h2⟩ := redU_pre n rs j d
    rw [show j + (d + 1) = (j + d) + 1 by omega]
    cases hf : folB n rs (2 ^ n) (j + d) with
    | false => exact ⟨t, by rw [redU_no hf, h1], h2⟩
    | true =>
      refine ⟨t ++ [j + d], by rw [redU_yes hf, h1, List.append_assoc], fun x hx => ?_⟩
      rcases List.mem_append.1 hx with h | h
      · exact h2 x h
      · rw [List.mem_singleton.1 h]; omega
/-- What the law asks of the answer at rule j: the answer names j next exactly if j follows. -/
theorem red_next {n j N : Nat} {rs : List Ru} (hj : j < N) : (redU n rs N)[(redU n rs j).length]? = some j ↔ folB n rs (2 ^ n) j = true := by
  obtain ⟨t, h1, h2⟩ := redU_pre n rs (j + 1) (N - (j + 1))
  rw [show j + 1 + (N - (j + 1)) = N by omega] at h1
  rw [h1]
  cases hf : folB n rs (2 ^ n) j with
  | true =>
    rw [redU_yes hf, List.append_assoc, List.getElem?_append_right (Nat.le_refl _), Nat.sub_self]
    simp
  | false =>
    rw [redU_no hf, List.getElem?_append_right (Nat.le_refl _), Nat.sub_self]
    constructor
    · intro h
      have := h2 j (List.mem_of_getElem? h)
      omega
    · intro h; cases h
theorem red_more {n j N : Nat} {rs : List Ru} (hj : j ≤ N) : (redU n rs j).length ≤ (redU n rs N).length := by
  obtain ⟨t, h1, _⟩ := redU_pre n rs j (N - j)
  rw [show j + (N - j) = N by omega] at h1
  rw [h1, List.length_append]
  omega
theorem lessL_yes {n j : Nat} {rs : List Ru} (h : folB n rs (2 ^ n) j = true) : lessL n rs (j + 1) = lessL n rs j := by
  unfold lessL
  rw [List.range_succ, List.filter_append, List.filter_cons, h]
  simp
theorem lessL_no {n j : Nat} {rs : List Ru} {r : Ru} (h : folB n rs (2 ^ n) j = false) (hr : rs[j]? = some r) : lessL n rs (j + 1) = lessL n rs j ++ [r] := by
  unfold lessL
  rw [List.range_succ, List.filter_append, List.filter_cons, h]
  simp [List.getD_eq_getElem?_getD, hr]
theorem lessL_len (n : Nat) (rs : List Ru) (j : Nat) : (lessL n rs j).length ≤ j := by
  unfold lessL
  rw [List.length_map]
  exact Nat.le_trans (List.length_filter_le _ _) (by simp)
theorem lessL_in {n j : Nat} {rs : List Ru} (hj : j ≤ rs.length) : ∀ r ∈ lessL n rs j, r ∈ rs := fun r hr => by
  unfold lessL at hr
  obtain ⟨i, hi, rfl⟩ := List.mem_map.1 hr
  have := List.mem_range.1 (List.mem_filter.1 hi).1
  rw [List.getD_eq_getElem?_getD, List.getElem?_eq_getElem (by omega)]
  exact List.getElem_mem (by omega)
theorem okB_nil (rs : List Ru) (c : Nat) : okB rs [] c = rs.all (satB c) := by unfold okB; simp
theorem okB_take {rs : List Ru} {i : Nat} (hi : i < rs.length) (c : Nat) : okB (rs.take (i + 1)) [] c = (okB (rs.take i) [] c && satB c (rs.getD i (ByteArray.empty, []))) := by
  rw [okB_nil, okB_nil, List.take_add_one, List.getElem?_eq_getElem hi, List.all_append, List.getD_eq_getElem?_getD, List.getElem?_eq_getElem hi]
  simp
theorem KS_take {n i : Nat} {rs : List Ru} (hi : i < rs.length) : KS n (rs.take (i + 1)) [] = (KS n (rs.take i) []).filter fun k => satB (cfg n k) (rs.getD i (ByteArray.empty, [])) := by
  unfold KS
  rw [List.filter_filter]
  refine List.filter_congr fun k _ => ?_
  rw [okB_take hi, Bool.and_comm]
theorem AL_take_le {n i : Nat} {rs : List Ru} (hi : i < rs.length) : (AL n (rs.take (i + 1)) []).length ≤ (AL n (rs.take i) []).length := by
  rw [AL_ks, AL_ks, List.length_map, List.length_map, KS_take hi]
  exact List.length_filter_le _ _
theorem AL_take_eq {n i : Nat} {rs : List Ru} (hi : i < rs.length) : (AL n (rs.take (i + 1)) []).length = (AL n (rs.take i) []).length ↔ folB n rs (2 ^ n) i = true := by
  rw [AL_ks, AL_ks, List.length_map, List.length_map, KS_take hi, List.length_filter_eq_length_iff]
  unfold folB
  rw [List.all_eq_true]
  constructor
  · intro h j hj
    unfold brkAt
    rw [← okB_nil]
    cases ho : okB (rs.take i) [] (cfg n j) with
    | false => rfl
    | true =>
      rw [h j (by unfold KS; rw [List.mem_filter]; exact ⟨hj, ho⟩)]
      rfl
  · intro h j hj
    unfold KS at hj
    rw [List.mem_filter] at hj
    have h1 := h j hj.1
    unfold brkAt at h1
    rw [← okB_nil, hj.2] at h1
    simpa using h1
theorem less_all {n k : Nat} (hk : k < 2 ^ n) {rs : List Ru} : (lessL n rs rs.length).all (satB (cfg n k)) = rs.all (satB (cfg n k)) := by
  rw [Bool.eq_iff_iff, List.all_eq_true, List.all_eq_true]
  constructor
  · intro h
    have key : ∀ i, i ≤ rs.length → (rs.take i).all (satB (cfg n k)) = true := by
      intro i
      induction i with
      | zero => intro _; simp
      | succ i ih =>
        intro hi
        have h1 := ih (by omega)
        have hr : rs[i]? = some (rs.getD i (ByteArray.empty, [])) := by rw [List.getD_eq_getElem?_getD, List.getElem?_eq_getElem (by omega)]; rfl
        rw [List.take_add_one, hr, List.all_append, h1]
        cases hs : satB (cfg n k) (rs.getD i (ByteArray.empty, [])) with
        | true => simp only [Option.toList, List.all_cons, List.all_nil, hs, Bool.and_true]
        | false =>
          exfalso
          have hf : folB n rs (2 ^ n) i = false := by
            cases hf : folB n rs (2 ^ n) i with
            | false => rfl
            | true =>
              unfold folB at hf
              have := List.all_eq_true.1 hf k (List.mem_range.2 hk)
              unfold brkAt at this
              rw [h1, hs] at this
              simp at this
          have hm : rs.getD i (ByteArray.empty, []) ∈ lessL n rs rs.length := by
            unfold lessL
            exact List.mem_map.2 ⟨i, List.mem_filter.2 ⟨List.mem_range.2 (by omega), by rw [hf]; rfl⟩, rfl⟩
          rw [h _ hm] at hs
          cases hs
    have := key rs.length (Nat.le_refl _)
    rw [List.take_length] at this
    exact List.all_eq_true.1 this
  · intro h r hr
    exact h r (lessL_in (Nat.le_refl _) r hr)
theorem less_same {n : Nat} (hn : n ≤ 6) {rs : List Ru} (hr : ∀ r ∈ rs, LowN n r.2) : ALR n (lessL n rs rs.length) (List.replicate (lessL n rs rs.length).length false) [] = ALR n rs (List.replicate rs.length false) [] := by
  rw [ALR_ks hn (by simp) (fun r h => hr r (lessL_in (Nat.le_refl _) r h)) (fun x h => by cases h), ALR_ks hn (by simp) hr (fun x h => by cases h), eff_none, eff_none]
  congr 1
  unfold KS
  refine List.filter_congr fun k hk => ?_
  rw [okB_nil, okB_nil, less_all (List.mem_range.1 hk)]
theorem lessL_nodup {n j : Nat} {rs : List Ru} (hj : j ≤ rs.length) (hn : (rs.map (·.1)).Nodup) : ((lessL n rs j).map (·.1)).Nodup := by
  have hs : ∀ j, j ≤ rs.length → (lessL n rs j).Sublist (rs.take j) := by
    intro j
    induction j with
    | zero => intro _; simp [lessL]
    | succ j ih =>
      intro hj
      have hr : rs[j]? = some rs[j] := List.getElem?_eq_getElem (by omega)
      rw [List.take_add_one, hr]
      cases hf : folB n rs (2 ^ n) j with
      | true => rw [lessL_yes hf]; exact (ih (by omega)).trans (List.sublist_append_left _ _)
      | false => rw [lessL_no hf hr]; exact (ih (by omega)).append (List.Sublist.refl _)
  exact List.Nodup.sublist (((hs j hj).trans (List.take_sublist _ _)).map _) hn
end Go.Proofs.Ytmfmpkihmadjmaa
