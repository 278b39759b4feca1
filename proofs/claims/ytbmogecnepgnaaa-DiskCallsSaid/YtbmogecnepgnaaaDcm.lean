/- The model: start. -/
import Derived.Test.YtbmogecnepgnaaaDcl
namespace Go.Proofs.Ytbmogecnepgnaaa
open Go.RowKit Go.Maps Go.Shelf
def failM (l : List Int) (nx : Nat) (f : Ent) : Ent := (⟨(failB l nx ⟨0, f.1.data.toList, f.2⟩).toArray⟩, f.2 + failK l nx ⟨0, f.1.data.toList, f.2⟩)
def failXM (l : List Int) (nx : Nat) (f : Ent) : Nat := failX l nx ⟨0, f.1.data.toList, f.2⟩
def stepM (l : List Int) (st : List Ent × Nat) (e : Ent) : List Ent × Nat := match st.1[e.2]? with
  | some f => (st.1.set e.2 (failM l st.2 f), failXM l st.2 f)
  | none => st
def stDM (md : Md) (l : List Int) : List Ent := (md.pend.take (chN l 0 md.pend.length)).foldl changedM md.dur
def stM (md : Md) (l : List Int) : Md := if md.down = false then md else { md with names := stDM md l, dur := stDM md l, pend := [], down := false, lim := -1, files := ((stDM md l).foldl (stepM l) (md.files, 1)).1 }
theorem ext_size (s : ByteArray) (n : Nat) (h : n ≤ s.size) : (s.extract 0 n).size = n := by simp; omega
theorem ext_data (s : ByteArray) (n : Nat) : (s.extract 0 n).data.toList = s.data.toList.take n := by
  rw [← ByteArray.toList_eq]
  rw [ByteArray.toList_eq]
  simp [ByteArray.data_extract]
theorem back_eq {a : ByteArray} {l : List UInt8} (h : a.data.toList = l) : (⟨l.toArray⟩ : ByteArray) = a := by cases a; rw [← h]
/-- What is left of a file: a beginning. -/
theorem fm_a {l : List Int} {nx : Nat} {s : ByteArray} {d : Nat} (h : ¬ (0 < failK l nx ⟨0, s.data.toList, d⟩ ∧ chN l (nx + 1) 1 = 1)) : failM l nx (s, d) = (s.extract 0 (d + failK l nx ⟨0, s.data.toList, d⟩), d + failK l nx ⟨0, s.data.toList, d⟩) := by
  unfold failM failB
  simp only
  rw [if_neg h, back_eq (ext_data s _)]
theorem set_last {l : List UInt8} {n : Nat} (h : l.length = n + 1) (x : UInt8) : l.set n x = l.take n ++ [x] := by
  refine List.ext_getElem? fun i => ?_
  rw [List.getElem?_set, List.getElem?_append, List.length_take, Nat.min_eq_left (by omega)]
  by_cases h1 : i < n
  · rw [if_neg (by omega), if_pos h1, List.getElem?_take_of_lt h1]
  · rw [if_neg h1]
    by_cases h2 : n = i
    · subst h2
      rw [if_pos rfl, if_pos (by omega), Nat.sub_self]
      rfl
    · rw [if_neg h2, List.getElem?_eq_none (by omega), List.getElem?_eq_none (by simp; omega)]
theorem fm_b {l : List Int} {nx n : Nat} {s : ByteArray} {d : Nat} (h : 0 < failK l nx ⟨0, s.data.toList, d⟩ ∧ chN l (nx + 1) 1 = 1) (hn : d + failK l nx ⟨0, s.data.toList, d⟩ = n + 1) (hs : n + 1 ≤ s.size) (y : UInt8) (hy : s.data.toList.getD n 0 = y) :
    failM l nx (s, d) = ((s.extract 0 (n + 1)).extract 0 n ++ ⟨#[255 - y]⟩, n + 1) := by
  unfold failM failB
  simp only
  rw [if_pos h, hn]
  have hlen : (s.data.toList.take (n + 1)).length = n + 1 := by rw [List.length_take]; exact Nat.min_eq_left hs
  rw [hlen, Nat.add_sub_cancel, set_last hlen]
  have hg : (s.data.toList.take (n + 1)).getD n 0 = y := by rw [List.getD_eq_getElem?_getD, List.getElem?_take_of_lt (by omega), ← List.getD_eq_getElem?_getD, hy]
  rw [hg]
  rw [back_eq (a := (s.extract 0 (n + 1)).extract 0 n ++ ⟨#[255 - y]⟩)]
  rw [ByteArray.data_append, Array.toList_append, ext_data, ext_data]
  rfl
theorem failM_ok (l : List Int) (nx : Nat) (f : Ent) (h : f.2 ≤ f.1.size) : (failM l nx f).1.size ≤ f.1.size ∧ (failM l nx f).2 = (failM l nx f).1.size := by
  have h1 := failF_ok l nx ⟨0, f.1.data.toList, f.2⟩ h
  exact ⟨h1.1, h1.2⟩
theorem with_len (l : List Ent) (x : Ent) : (withM l x).length ≤ l.length + 1 := by
  unfold withM
  simp only [List.length_append, List.length_cons, List.length_nil]
  have h1 : (withoutM l x.1).length ≤ l.length := List.length_filter_le _ _
  have h2 := congrArg List.length (List.take_append_drop (posM (withoutM l x.1) x.1) (withoutM l x.1))
  rw [List.length_append] at h2
  omega
theorem changed_len (l : List Ent) (c : Chg) : (changedM l c).length ≤ l.length + 1 := by
  unfold changedM
  simp only
  have h1 : (if isE c.1 then l else withoutM l c.1).length ≤ l.length := by
    split
    · exact Nat.le_refl _
    · exact List.length_filter_le _ _
  split
  · omega
  · have := with_len (if isE c.1 then l else withoutM l c.1) (c.2.1, c.2.2)
    omega
theorem changed_mem {l : List Ent} {c : Chg} {e : Ent} (h : e ∈ changedM l c) : e ∈ l ∨ (isE c.2.1 = false ∧ e = (c.2.1, c.2.2)) := by
  unfold changedM at h
  simp only at h
  have h1 : ∀ e, e ∈ (if isE c.1 then l else withoutM l c.1) → e ∈ l := fun e he => by
    split at he
    · exact he
    · exact (List.mem_filter.1 he).1
  split at h
  · exact .inl (h1 _ h)
  · rename_i hE
    unfold withM at h
    simp only [List.mem_append, List.mem_singleton] at h
    rcases h with (h | h) | h
    · exact .inl (h1 _ (List.mem_filter.1 (List.mem_of_mem_take h)).1)
    · exact .inr ⟨by simpa using hE, h⟩
    · exact .inl (h1 _ (List.mem_filter.1 (List.mem_of_mem_drop h)).1)
theorem fold_changed {n : Nat} : ∀ (cs : List Chg) (D : List Ent), (∀ e ∈ D, e.2 < n) → (∀ c ∈ cs, isE c.2.1 = false → c.2.2 < n) → (∀ e ∈ cs.foldl changedM D, e.2 < n) ∧ (cs.foldl changedM D).length ≤ D.length + cs.length
  | [], D, h, _ => ⟨h, Nat.le_refl _⟩
  | c :: cs, D, h, hc => by
    have h1 := fold_changed cs (changedM D c) (fun e he => by
      rcases changed_mem he with h1 | ⟨h1, rfl⟩
      · exact h e h1
      · exact hc c List.mem_cons_self h1) (fun c' h' => hc c' (List.mem_cons_of_mem _ h'))
    have h2 := changed_len D c
    exact ⟨h1.1, by rw [List.foldl_cons, List.length_cons]; omega⟩
theorem fold_snoc {α β : Type} (f : β → α → β) (b : β) (l : List α) (j : Nat) (x : α) (h : l[j]? = some x) : (l.take (j + 1)).foldl f b = f ((l.take j).foldl f b) x := by
  rw [List.take_add_one, h, List.foldl_append]
  rfl
theorem stepM_len (l : List Int) (st : List Ent × Nat) (e : Ent) : (stepM l st e).1.length = st.1.length := by
  unfold stepM
  split
  · rw [List.length_set]
  · rfl
theorem fold_step_ok {n : Nat} (l : List Int) : ∀ (es : List Ent) (st : List Ent × Nat), st.1.length = n → (∀ f ∈ st.1, f.1.size ≤ 16777216 ∧ f.2 ≤ f.1.size) → (es.foldl (stepM l) st).1.length = n ∧ ∀ f ∈ (es.foldl (stepM l) st).1, f.1.size ≤ 16777216 ∧ f.2 ≤ f.1.size
  | [], _, h, k => ⟨h, k⟩
  | e :: es, st, h, k => fold_step_ok l es (stepM l st e) (by rw [stepM_len]; exact h) (fun f hf => by
    unfold stepM at hf
    split at hf
    · rename_i f0 h0
      rcases List.mem_or_eq_of_mem_set hf with h1 | rfl
      · exact k f h1
      · have h2 := k f0 (List.mem_of_getElem? h0)
        have h3 := failM_ok l st.2 f0 h2.2
        exact ⟨by omega, by omega⟩
    · exact k f hf)
theorem one_text (w : World) (x : UInt8) (v : Int) (hv : v = (x.toNat : Int)) :
    (convert 55 9 (.slice (some ⟨w.heap.size, 0, none⟩) 1 1)).run Try.prog (w.alloc (.cells #[.int .u8 v] 5)) = .ok (.string ⟨#[x]⟩) (w.alloc (.cells #[.int .u8 v] 5)) := by
  subst hv
  have hd : DataAt (w.alloc (.cells #[.int .u8 (x.toNat : Int)] 5)) 0 (.slice (some ⟨w.heap.size, 0, none⟩) 1 1) [x] :=
    .inr ⟨w.heap.size, 1, _, (0, 0), rfl, Nat.zero_le _, heap_new w _, by simp, by unfold maxLen; omega, rfl, .inr rfl, rfl⟩
  exact data_text hd
theorem one_text2 (w : World) (x : UInt8) (v : Int) (hv : v = (x.toNat : Int)) :
    (convert 55 9 (.slice (some ⟨w.heap.size, 0, none⟩) 1 1)).run Try.prog (w.alloc (.cells #[.int .u8 v] 5)).drew = .ok (.string ⟨#[x]⟩) (w.alloc (.cells #[.int .u8 v] 5)).drew := by
  subst hv
  have hd : DataAt (w.alloc (.cells #[.int .u8 (x.toNat : Int)] 5)) 0 (.slice (some ⟨w.heap.size, 0, none⟩) 1 1) [x] :=
    .inr ⟨w.heap.size, 1, _, (0, 0), rfl, Nat.zero_le _, heap_new w _, by simp, by unfold maxLen; omega, rfl, .inr rfl, rfl⟩
  exact data_text (hd.keep (Below.refl _ _).drew)
end Go.Proofs.Ytbmogecnepgnaaa
