/- The disk and its model: names. -/
import Derived.Test.YtbmogecnepgnaaaDcn
namespace Go.Proofs.Ytbmogecnepgnaaa
open Go.RowKit Go.Maps Go.Shelf
abbrev bsE (e : Ent) : List UInt8 := e.1.data.toList
theorem ltB_lt {a b : ByteArray} : ltB a b = true ↔ a.data.toList < b.data.toList := by
  unfold ltB
  rw [ByteArray.toList_eq, ByteArray.toList_eq, bytesLess_eq]
  exact decide_eq_true_iff
theorem lt_tri {a b : List UInt8} (h : ¬ a < b) (k : a ≠ b) : b < a := by
  have h1 : b ≤ a := List.not_lt.1 h
  by_cases h2 : b < a
  · exact h2
  · exact absurd (List.le_antisymm (List.not_lt.1 h2) h1) k
/-- The names of a disk, and of its model: in order, each with its file. -/
structure NR (F : List Fl) (D : Mp) (l : List Ent) : Prop where
  tid : Tidy D
  key : ∀ k, Maps.has D k = true → ∃ e ∈ l, k = kS e.1
  lit : ∀ es, D = .map es → ∀ p ∈ es, WideAt.IsKeyLit p.1
  srt : l.Pairwise fun a b => bsE a < bsE b
  hit : ∀ e ∈ l, fileB e.1 = true ∧ Maps.has D (kS e.1) = true ∧ ∃ f, F[e.2]? = some f ∧ D.atKey (kS e.1) zD = pD f.b
theorem insert_mem {H : Type} (x p : Lit × DataW H) : ∀ (es : List (Lit × DataW H)), p ∈ DataW.insert x es → p = x ∨ p ∈ es
  | [], h => by unfold DataW.insert at h; exact .inl (by simpa using h)
  | y :: es, h => by
    unfold DataW.insert at h
    split at h
    · rcases List.mem_cons.1 h with h | h
      · exact .inl h
      · exact .inr h
    · rcases List.mem_cons.1 h with h | h
      · exact .inr (by rw [h]; exact List.mem_cons_self)
      · exact (insert_mem x p es h).imp id (fun h => List.mem_cons_of_mem _ h)
theorem lit_put {D : Mp} (h : ∀ es, D = .map es → ∀ p ∈ es, WideAt.IsKeyLit p.1) (hD : IsMap D) {k : Lit} (hk : WideAt.IsKeyLit k) (d : Mp) : ∀ es, D.put k d = .map es → ∀ p ∈ es, WideAt.IsKeyLit p.1 := by
  obtain ⟨es0, rfl⟩ := hD
  intro es e p hp
  have e : (DataW.map (DataW.insert (k, d) (es0.filter fun p => !p.1.sameKey k)) : Mp) = .map es := e
  injection e with e
  rw [← e] at hp
  rcases insert_mem _ _ _ hp with rfl | hp
  · exact hk
  · exact h es0 rfl p (List.mem_filter.1 hp).1
theorem lit_del {D : Mp} (h : ∀ es, D = .map es → ∀ p ∈ es, WideAt.IsKeyLit p.1) (hD : IsMap D) (k : Lit) : ∀ es, D.del k = .map es → ∀ p ∈ es, WideAt.IsKeyLit p.1 := by
  obtain ⟨es0, rfl⟩ := hD
  intro es e p hp
  have e : (DataW.map (es0.filter fun p => !p.1.sameKey k) : Mp) = .map es := e
  injection e with e
  rw [← e] at hp
  exact h es0 rfl p (List.mem_filter.1 hp).1
theorem kS_inj {a b : ByteArray} (h : kS a = kS b) : a.data.toList = b.data.toList := by unfold kS at h; injection h
theorem kS_of {a b : ByteArray} (h : a.data.toList = b.data.toList) : kS a = kS b := by unfold kS; rw [h]
theorem ba_of {a b : ByteArray} (h : a.data.toList = b.data.toList) : a = b := by cases a; cases b; congr; exact Array.ext' h
section
variable {F : List Fl} {D : Mp} {l : List Ent}
theorem NR.mono {F' : List Fl} (h : NR F D l) (hF : ∀ (i : Nat) (f : Fl), F[i]? = some f → ∃ f' : Fl, F'[i]? = some f' ∧ f'.b = f.b) : NR F' D l where
  tid := h.tid
  key := h.key
  lit := h.lit
  srt := h.srt
  hit := fun e he => by
      obtain ⟨h1, h2, f, h3, h4⟩ := h.hit e he
      obtain ⟨f', h5, h6⟩ := hF _ _ h3
      exact ⟨h1, h2, f', h5, by rw [h6]; exact h4⟩
theorem NR.del (h : NR F D l) (n : ByteArray) : NR F (D.del (kS n)) (withoutM l n) where
  tid := h.tid.del _
  lit := lit_del h.lit h.tid.isMap _
  srt := h.srt.filter _
  key := fun k hk => by
    by_cases e : k = kS n
    · rw [e, has_del_same] at hk; cases hk
    · rw [has_del_other e] at hk
      obtain ⟨x, hx, rfl⟩ := h.key k hk
      refine ⟨x, List.mem_filter.2 ⟨hx, ?_⟩, rfl⟩
      unfold eqN
      rw [decide_eq_false (fun h => e (kS_of h))]
      rfl
  hit := fun e he => by
    obtain ⟨h1, h2⟩ := List.mem_filter.1 he
    have hne : kS e.1 ≠ kS n := fun x => by
      unfold eqN at h2
      rw [decide_eq_true (kS_inj x)] at h2
      cases h2
    obtain ⟨h3, h4, f, h5, h6⟩ := h.hit e h1
    exact ⟨h3, by rw [has_del_other hne]; exact h4, f, h5, by rw [atKey_del_other hne]; exact h6⟩
theorem tw_all {α : Type} (p : α → Bool) : ∀ (l : List α) (x : α), x ∈ l.takeWhile p → p x = true
  | [], x, h => by cases h
  | a :: l, x, h => by
    rw [List.takeWhile_cons] at h
    split at h
    · rename_i ha
      rcases List.mem_cons.1 h with rfl | h
      · exact ha
      · exact tw_all p l x h
    · cases h
theorem dw_head {α : Type} (p : α → Bool) : ∀ (l : List α) (y : α) (r : List α), l.dropWhile p = y :: r → p y = false
  | [], _, _, h => by cases h
  | a :: l, y, r, h => by
    rw [List.dropWhile_cons] at h
    split at h
    · exact dw_head p l y r h
    · rename_i ha
      injection h with h1 _
      subst h1
      simpa using ha
theorem withM_eq (l : List Ent) (x : Ent) : withM l x = (withoutM l x.1).takeWhile (fun e => ltB e.1 x.1) ++ [x] ++ (withoutM l x.1).dropWhile (fun e => ltB e.1 x.1) := by
  unfold withM posM
  simp only
  generalize withoutM l x.1 = m
  have h := List.takeWhile_append_dropWhile (p := fun e : Ent => ltB e.1 x.1) (l := m)
  have h1 : m.take (m.takeWhile fun e => ltB e.1 x.1).length = m.takeWhile fun e => ltB e.1 x.1 := by
    conv => lhs; arg 2; rw [← h]
    exact List.take_left
  have h2 : m.drop (m.takeWhile fun e => ltB e.1 x.1).length = m.dropWhile fun e => ltB e.1 x.1 := by
    conv => lhs; arg 2; rw [← h]
    exact List.drop_left
  rw [h1, h2]
theorem withM_mem (l : List Ent) (x e : Ent) : e ∈ withM l x ↔ e = x ∨ e ∈ withoutM l x.1 := by
  rw [withM_eq]
  have h := List.takeWhile_append_dropWhile (p := fun e : Ent => ltB e.1 x.1) (l := withoutM l x.1)
  constructor
  · intro h1
    simp only [List.mem_append, List.mem_singleton] at h1
    rcases h1 with (h1 | h1) | h1
    · exact .inr (by rw [← h]; exact List.mem_append_left _ h1)
    · exact .inl h1
    · exact .inr (by rw [← h]; exact List.mem_append_right _ h1)
  · intro h1
    simp only [List.mem_append, List.mem_singleton]
    rcases h1 with h1 | h1
    · exact .inl (.inr h1)
    · rw [← h] at h1
      rcases List.mem_append.1 h1 with h1 | h1
      · exact .inl (.inl h1)
      · exact .inr h1
theorem without_ne {l : List Ent} {n : ByteArray} {e : Ent} (h : e ∈ withoutM l n) : e ∈ l ∧ bsE e ≠ n.data.toList := by
  obtain ⟨h1, h2⟩ := List.mem_filter.1 h
  refine ⟨h1, fun x => ?_⟩
  unfold eqN at h2
  rw [decide_eq_true x] at h2
  cases h2
theorem with_srt {l : List Ent} (h : l.Pairwise fun a b => bsE a < bsE b) (x : Ent) : (withM l x).Pairwise fun a b => bsE a < bsE b := by
  rw [withM_eq]
  have h0 : (withoutM l x.1).Pairwise fun a b => bsE a < bsE b := h.filter _
  have hm : ∀ e ∈ withoutM l x.1, bsE e ≠ bsE x := fun e he => (without_ne he).2
  generalize withoutM l x.1 = m at h0 hm
  have hs := List.takeWhile_append_dropWhile (p := fun e : Ent => ltB e.1 x.1) (l := m)
  have h1 := h0
  rw [← hs, List.pairwise_append] at h1
  have hd : ∀ b ∈ m.dropWhile fun e => ltB e.1 x.1, bsE x < bsE b := by
    cases hc : m.dropWhile (fun e => ltB e.1 x.1) with
    | nil => intro b hb; cases hb
    | cons y r =>
      have hy := dw_head _ m y r hc
      have hym : y ∈ m := by rw [← hs, hc]; exact List.mem_append_right _ List.mem_cons_self
      have hxy : bsE x < bsE y := lt_tri (fun k => by rw [ltB_lt.2 k] at hy; cases hy) (hm y hym)
      have h2 := h1.2.1
      rw [hc] at h2
      intro b hb
      rcases List.mem_cons.1 hb with rfl | hb
      · exact hxy
      · exact List.lt_trans hxy ((List.pairwise_cons.1 h2).1 b hb)
  rw [List.pairwise_append, List.pairwise_append]
  refine ⟨⟨h1.1, List.pairwise_singleton _ _, fun a ha b hb => ?_⟩, h1.2.1, fun a ha b hb => ?_⟩
  · rw [List.mem_singleton.1 hb]
    exact ltB_lt.1 (tw_all _ _ a ha)
  · rcases List.mem_append.1 ha with ha | ha
    · exact h1.2.2 a ha b hb
    · rw [List.mem_singleton.1 ha]
      exact hd b hb
theorem NR.put (h : NR F D l) {n : ByteArray} (hn : fileB n = true) {i : Nat} {f : Fl} (hf : F[i]? = some f) : NR F (D.put (kS n) (pD f.b)) (withM l (n, i)) where
  tid := h.tid.put (keyLit n) _
  lit := lit_put h.lit h.tid.isMap (keyLit n) _
  srt := with_srt h.srt _
  key := fun k hk => by
    by_cases e : k = kS n
    · exact ⟨(n, i), (withM_mem _ _ _).2 (.inl rfl), e⟩
    · rw [has_put_other e] at hk
      obtain ⟨x, hx, rfl⟩ := h.key k hk
      refine ⟨x, (withM_mem _ _ _).2 (.inr (List.mem_filter.2 ⟨hx, ?_⟩)), rfl⟩
      unfold eqN
      rw [decide_eq_false (fun h => e (kS_of h))]
      rfl
  hit := fun e he => by
    rcases (withM_mem _ _ _).1 he with rfl | he
    · exact ⟨hn, has_put_same h.tid.isMap (keyLit n) _, f, hf, atKey_put_same h.tid.isMap (keyLit n) _ _⟩
    · obtain ⟨h1, h2⟩ := without_ne he
      have hne : kS e.1 ≠ kS n := fun x => h2 (kS_inj x)
      obtain ⟨h3, h4, f', h5, h6⟩ := h.hit e h1
      exact ⟨h3, by rw [has_put_other hne]; exact h4, f', h5, by rw [atKey_put_other hne]; exact h6⟩
theorem NR.nil : NR F (.map []) [] where
  tid := tidy_empty
  lit := fun es e p hp => by injection e with e; rw [← e] at hp; cases hp
  srt := List.Pairwise.nil
  key := fun k hk => by cases hk
  hit := fun e he => by cases he
/-- find. -/
theorem NR.miss (h : NR F D l) {n : ByteArray} (hh : Maps.has D (kS n) = false) : findM l n = -1 :=
  findM_none fun i x hx hc => by
    have h1 := (h.hit x (List.mem_of_getElem? hx)).2.1
    rw [kS_of hc, hh] at h1
    cases h1
theorem NR.found (h : NR F D l) {n : ByteArray} (hh : Maps.has D (kS n) = true) : ∃ i f, findM l n = ((i : Nat) : Int) ∧ F[i]? = some f ∧ D.atKey (kS n) zD = pD f.b ∧ fileB n = true := by
  obtain ⟨e, he, hk⟩ := h.key _ hh
  have hx : l.find? (fun e => decide (e.1.data.toList = n.data.toList)) ≠ none := fun hx => by
    have := List.find?_eq_none.1 hx e he
    rw [decide_eq_true (kS_inj hk).symm] at this
    exact this rfl
  cases hf : l.find? (fun e => decide (e.1.data.toList = n.data.toList)) with
  | none => exact absurd hf hx
  | some x =>
    have hx1 := List.mem_of_find?_eq_some hf
    have hx2 : x.1.data.toList = n.data.toList := of_decide_eq_true (by simpa using List.find?_some hf)
    obtain ⟨h3, _, f, h5, h6⟩ := h.hit x hx1
    refine ⟨x.2, f, by unfold findM; rw [hf], h5, by rw [← kS_of hx2]; exact h6, by rw [← ba_of hx2]; exact h3⟩
theorem NR.find_lt (h : NR F D l) (n : ByteArray) : (findM l n < 0) = (Maps.has D (kS n) = false) := by
  cases hh : Maps.has D (kS n) with
  | false => rw [h.miss hh]; simp
  | true =>
    obtain ⟨i, f, e, _⟩ := h.found hh
    rw [e]
    simp
/-- The names, as they come out of the map. -/
theorem NR.perm (h : NR F D l) : (strKeys D).Perm (l.map bsE) := by
  obtain ⟨es, rfl, hp⟩ := h.tid
  have hkey : ∀ p ∈ es, ∃ e ∈ l, p.1 = kS e.1 := fun p hp => h.key p.1 (by rw [has_eq, List.any_eq_true]; exact ⟨p, hp, WideAt.sameKey_self (h.lit es rfl p hp)⟩)
  have hs : ∀ p ∈ es, p.1 = .string (strOf p.1) := fun p hp => by
    obtain ⟨e, _, h1⟩ := hkey p hp
    rw [h1]; rfl
  have n1 : (strKeys (.map es : Mp)).Nodup := by
    show (es.map fun p => strOf p.1).Nodup
    rw [List.nodup_iff_pairwise_ne, List.pairwise_map]
    exact hp.imp_of_mem fun {a b} ha hb hab e => hab (by rw [hs a ha, hs b hb, e])
  have n2 : (l.map bsE).Nodup := by
    rw [List.nodup_iff_pairwise_ne, List.pairwise_map]
    exact h.srt.imp fun {a b} hab e => by rw [e] at hab; exact List.lt_irrefl _ hab
  refine (List.perm_ext_iff_of_nodup n1 n2).2 fun x => ⟨fun hx => ?_, fun hx => ?_⟩
  · obtain ⟨p, hp, rfl⟩ := List.mem_map.1 hx
    obtain ⟨e, he, h1⟩ := hkey p hp
    exact List.mem_map.2 ⟨e, he, by rw [h1]; rfl⟩
  · obtain ⟨e, he, rfl⟩ := List.mem_map.1 hx
    have h1 := (h.hit e he).2.1
    rw [has_eq, List.any_eq_true] at h1
    obtain ⟨p, hp, h2⟩ := h1
    exact List.mem_map.2 ⟨p, hp, by rw [WideAt.sameKey_eq h2]; rfl⟩
theorem NR.size (h : NR F D l) : Maps.size D = l.length := by
  have h1 := h.perm.length_eq
  rw [List.length_map] at h1
  rw [← h1]
  obtain ⟨es, rfl, _⟩ := h.tid
  show es.length = (es.map _).length
  rw [List.length_map]
/-- A file of the disk, as the model has it. -/
def entF (f : Fl) : Ent := (⟨f.bs.toArray⟩, f.dur)
theorem at_map {F : List Fl} {i : Nat} {f : Fl} (h : F[i]? = some f) : (F.map entF)[i]? = some (entF f) := by rw [List.getElem?_map, h]; rfl
theorem NR.used (h : NR F D l) (hn : F.Pairwise fun f g => f.b ≠ g.b) : usM (F.map entF) l = usedD F D := by
  have hp := h.perm
  have h1 : usedD F D = ((strKeys D).map fun n => flen F (D.atKey (.string n) zD)).sum := by
    obtain ⟨es, rfl, hpw⟩ := h.tid
    show (es.map fun p => flen F p.2).sum = ((es.map fun p => strOf p.1).map fun n => flen F ((DataW.map es : Mp).atKey (.string n) zD)).sum
    rw [List.map_map]
    congr 1
    refine List.map_congr_left fun p hp => ?_
    obtain ⟨e, _, h2⟩ := h.key p.1 (by rw [has_eq, List.any_eq_true]; exact ⟨p, hp, WideAt.sameKey_self (h.lit es rfl p hp)⟩)
    have h3 : Lit.string (strOf p.1) = p.1 := by rw [h2]; rfl
    show flen F p.2 = flen F ((DataW.map es : Mp).atKey (.string (strOf p.1)) zD)
    rw [h3]
    congr 1
    unfold DataW.atKey
    have h4 : es.find? (fun q => q.1.sameKey p.1) = some p := by
      cases hx : es.find? (fun q => q.1.sameKey p.1) with
      | none =>
        have := List.find?_eq_none.1 hx p hp
        rw [WideAt.sameKey_self (h.lit es rfl p hp)] at this
        exact absurd rfl this
      | some q =>
        have hq := List.mem_of_find?_eq_some hx
        have hk : q.1 = p.1 := WideAt.sameKey_eq (by simpa using List.find?_some hx)
        by_cases e : q = p
        · rw [e]
        · exfalso
          have := List.pairwise_iff_getElem.1 hpw
          obtain ⟨i, hi, rfl⟩ := List.getElem_of_mem hq
          obtain ⟨j, hj, rfl⟩ := List.getElem_of_mem hp
          rcases Nat.lt_trichotomy i j with hij | hij | hij
          · exact this i j hi hj hij hk
          · subst hij; exact e rfl
          · exact this j i hj hi hij hk.symm
    simp only [h4]
  rw [h1, (hp.map _).sum_nat, List.map_map]
  unfold usM
  congr 1
  refine List.map_congr_left fun e he => ?_
  obtain ⟨_, _, f, h5, h6⟩ := h.hit e he
  rw [at_map h5]
  show f.bs.toArray.size = flen F (D.atKey (kS e.1) zD)
  rw [h6, flen_at hn (List.mem_of_getElem? h5)]
  simp
/-- The order in which a start goes through the names. -/
theorem NR.order (h : NR F D l) {ss : List (List UInt8)} (hp : ss.Perm (strKeys D)) (hs : ss.Pairwise fun a b => decide (a ≤ b) = true) : ss = l.map bsE := by
  refine List.Perm.eq_of_pairwise (le := fun a b => a ≤ b) (fun a b _ _ h1 h2 => List.le_antisymm h1 h2) (hs.imp fun h => of_decide_eq_true h) ?_ (hp.trans h.perm)
  rw [List.pairwise_map]
  exact h.srt.imp fun {a b} hab => List.not_lt.1 (fun h => List.lt_asymm hab h)
end
end Go.Proofs.Ytbmogecnepgnaaa
