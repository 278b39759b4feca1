/- Rules as cells: Clone. -/
import Derived.Deep.DeepAppendWide
import Derived.Test.YtmfmpkihmadjmaaVj
namespace Go.Proofs.Ytmfmpkihmadjmaa
open Go.RowKit Go.Shelf
/-- A rule with the place of its literals. -/
abbrev Rq := (ByteArray × List (Nat × Bool)) × Option Addr × Nat
def rflat (qs : List Rq) : List Value := qs.flatMap fun q => [.string q.1.1, .slice q.2.1 q.1.2.length q.2.2]
theorem rflat_nil : rflat [] = [] := rfl
theorem rflat_cons (q : Rq) (qs : List Rq) : rflat (q :: qs) = .string q.1.1 :: .slice q.2.1 q.1.2.length q.2.2 :: rflat qs := rfl
theorem rflat_app (a b : List Rq) : rflat (a ++ b) = rflat a ++ rflat b := by unfold rflat; rw [List.flatMap_append]
theorem rflat_len : ∀ qs : List Rq, (rflat qs).length = qs.length * 2
  | [] => rfl
  | q :: qs => by rw [rflat_cons, List.length_cons, List.length_cons, rflat_len qs, List.length_cons]; omega
theorem rflat_take : ∀ (qs : List Rq) (k : Nat), (rflat qs).take (k * 2) = rflat (qs.take k)
  | [], k => by rw [rflat_nil]; simp [rflat_nil]
  | q :: qs, 0 => rfl
  | q :: qs, k + 1 => by
    rw [rflat_cons, show (k + 1) * 2 = k * 2 + 1 + 1 by omega, List.take_succ_cons, List.take_succ_cons, rflat_take qs k, List.take_succ_cons, rflat_cons]
theorem rflat_drop : ∀ (qs : List Rq) (k : Nat), (rflat qs).drop (k * 2) = rflat (qs.drop k)
  | [], k => by rw [rflat_nil]; simp [rflat_nil]
  | q :: qs, 0 => rfl
  | q :: qs, k + 1 => by
    rw [rflat_cons, show (k + 1) * 2 = k * 2 + 1 + 1 by omega, List.drop_succ_cons, List.drop_succ_cons, rflat_drop qs k, List.drop_succ_cons]
theorem rflat_one (qs : List Rq) : ∀ v ∈ rflat qs, v.oneCell' = true := fun v hv => by
  unfold rflat at hv
  obtain ⟨e, _, he⟩ := List.mem_flatMap.1 hv
  simp at he
  rcases he with rfl | rfl <;> rfl
theorem rflat_at : ∀ (qs : List Rq) (k : Nat) (q : Rq), qs[k]? = some q → (rflat qs)[k * 2]? = some (.string q.1.1) ∧ (rflat qs)[k * 2 + 1]? = some (.slice q.2.1 q.1.2.length q.2.2)
  | [], k, q, h => by simp at h
  | p :: qs, 0, q, h => by injection h with h; subst h; exact ⟨rfl, rfl⟩
  | p :: qs, k + 1, q, h => by
    rw [List.getElem?_cons_succ] at h
    rw [rflat_cons, show (k + 1) * 2 = k * 2 + 1 + 1 by omega, List.getElem?_cons_succ, List.getElem?_cons_succ, List.getElem?_cons_succ, List.getElem?_cons_succ]
    exact rflat_at qs k q h
theorem rflat_inv : ∀ (qs : List Rq) (j : Nat) (u : Value), (rflat qs)[j]? = some u → ∃ k q, qs[k]? = some q ∧ ((j = k * 2 ∧ u = .string q.1.1) ∨ (j = k * 2 + 1 ∧ u = .slice q.2.1 q.1.2.length q.2.2))
  | [], j, u, h => by simp [rflat_nil] at h
  | p :: qs, 0, u, h => by injection h with h; exact ⟨0, p, rfl, .inl ⟨rfl, h.symm⟩⟩
  | p :: qs, 1, u, h => by injection h with h; exact ⟨0, p, rfl, .inr ⟨rfl, h.symm⟩⟩
  | p :: qs, j + 2, u, h => by
    rw [rflat_cons, List.getElem?_cons_succ, List.getElem?_cons_succ] at h
    obtain ⟨k, q, h1, h2⟩ := rflat_inv qs j u h
    refine ⟨k + 1, q, h1, ?_⟩
    rcases h2 with ⟨h2, h3⟩ | ⟨h2, h3⟩
    · exact .inl ⟨by omega, h3⟩
    · exact .inr ⟨by omega, h3⟩
/-- The literals of some rules lie in memory. -/
def LitQ (w : World) (qs : List Rq) : Prop := ∀ q ∈ qs, LitL w q.2.1 (lc q.1.2)
theorem LitQ.keep {w w' : World} {qs : List Rq} (h : LitQ w qs) (hb : Below w.heap.size w w') : LitQ w' qs := fun q hq => (h q hq).keep hb
theorem RuleL.recs {w : World} {A : Option Addr} {rs : List (ByteArray × List (Nat × Bool))} (h : RuleL w A rs) : ∃ qs : List Rq, qs.map (·.1) = rs ∧ LitQ w qs ∧ ∀ j u, (rflat qs)[j]? = some u → ∃ b o, A = some ⟨b, o, none⟩ ∧ b < w.heap.size ∧ w.cell? ⟨b, o + j, none⟩ = some u := by
  have H : ∀ n, n ≤ rs.length → ∃ qs : List Rq, qs.map (·.1) = rs.take n ∧ ∀ k q, qs[k]? = some q → ∃ b o, A = some ⟨b, o, none⟩ ∧ b < w.heap.size ∧ w.cell? ⟨b, o + k * 2, none⟩ = some (.string q.1.1) ∧ w.cell? ⟨b, o + k * 2 + 1, none⟩ = some (.slice q.2.1 q.1.2.length q.2.2) ∧ LitL w q.2.1 (lc q.1.2) := by
    intro n
    induction n with
    | zero => exact fun _ => ⟨[], rfl, fun k q hq => by simp at hq⟩
    | succ n ih =>
      intro hn
      obtain ⟨qs, h1, h2⟩ := ih (by omega)
      obtain ⟨r, b, o, A', c, hr, hA, hb, hc, hd, hl⟩ := h.at_ (k := n) (by omega)
      have hql : qs.length = n := by
        have := congrArg List.length h1
        rw [List.length_map, List.length_take] at this
        omega
      refine ⟨qs ++ [(r, A', c)], by rw [List.map_append, h1, List.take_add_one, hr]; rfl, fun k q hq => ?_⟩
      rcases Nat.lt_or_ge k n with hk | hk
      · rw [List.getElem?_append_left (by omega)] at hq
        exact h2 k q hq
      · rw [List.getElem?_append_right (by omega), hql] at hq
        have hk0 : k - n = 0 := by
          rcases Nat.eq_zero_or_pos (k - n) with h0 | h0
          · exact h0
          · rw [List.getElem?_eq_none (by simp; omega)] at hq; cases hq
        rw [hk0] at hq
        injection hq with hq
        subst hq
        rw [show k = n by omega]
        exact ⟨b, o, hA, hb, hc, hd, hl⟩
  obtain ⟨qs, h1, h2⟩ := H rs.length (Nat.le_refl _)
  rw [List.take_length] at h1
  refine ⟨qs, h1, fun q hq => ?_, fun j u hu => ?_⟩
  · obtain ⟨k, hk⟩ := List.getElem?_of_mem hq
    obtain ⟨_, _, _, _, _, _, hl⟩ := h2 k q hk
    exact hl
  · obtain ⟨k, q, hq, h3⟩ := rflat_inv qs j u hu
    obtain ⟨b, o, hA, hb, hc, hd, _⟩ := h2 k q hq
    rcases h3 with ⟨rfl, rfl⟩ | ⟨rfl, rfl⟩
    · exact ⟨b, o, hA, hb, hc⟩
    · exact ⟨b, o, hA, hb, hd⟩
/-- The first cells of a block hold some rules. -/
theorem RuleL.of_cells {w : World} {g m : Nat} {us : List Value} {qs : List Rq} (h : Cells w g us) (hm : us.take (m * 2) = rflat qs) (hq : LitQ w qs) : RuleL w (some ⟨g, 0, none⟩) (qs.map (·.1)) := by
  have hpre : ∀ j u, (rflat qs)[j]? = some u → us[j]? = some u := fun j u hu => by
    rw [← hm] at hu
    rcases Nat.lt_or_ge j (m * 2) with h1 | h1
    · rwa [List.getElem?_take_of_lt h1] at hu
    · rw [List.getElem?_take_eq_none h1] at hu; cases hu
  intro k r hr
  rw [List.getElem?_map] at hr
  obtain ⟨q, hk, rfl⟩ := Option.map_eq_some_iff.1 hr
  obtain ⟨a1, a2⟩ := rflat_at qs k q hk
  exact ⟨g, 0, q.2.1, q.2.2, rfl, h.lt, by rw [Nat.zero_add]; exact (h.at_ _).trans (hpre _ _ a1), by rw [Nat.zero_add]; exact (h.at_ _).trans (hpre _ _ a2), hq q (List.mem_of_getElem? hk)⟩
theorem eql_rules_nil (w : World) (a : Option Addr) (n c : Nat) : (binOp .eql 36 (.slice a n c) (.slice none 0 0)).run Try.prog w = .ok (.bool a.isNone) w := Lib.run_eql_slice_nil w 36 76 a n c 0 0 Try.underlying36
set_option maxRecDepth 100000 in
set_option maxHeartbeats 8000000 in
theorem clone_rules (A : Option Addr) (m c : Nat) (qs : List Rq) (w : World) (h : ∀ j u, (rflat qs)[j]? = some u → ∃ b o, A = some ⟨b, o, none⟩ ∧ b < w.heap.size ∧ w.cell? ⟨b, o + j, none⟩ = some u) (hql : qs.length = m) (hm : m ≤ 100000) :
    Calls Try.prog 49 #[.slice A m c] w fun e w' => ∃ v, e = .returned v ∧ w'.ownsRow w.heap.size 76 2 v m (rflat qs) ∧ Below w.heap.size w w' := by
  obtain ⟨i0, hi, hz0, hz1, hz2⟩ := info_parts info_rule
  cases A with
  | none =>
    have hes : qs = [] := by
      cases qs with
      | nil => rfl
      | cons x l => obtain ⟨b, o, e1, _⟩ := h 0 _ rfl; cases e1
    subst hes
    have hm0 : m = 0 := hql.symm
    subst hm0
    have t0 := fun w' => eql_rules_nil w' none 0 c
    simp only [Option.isNone_none] at t0
    clear h hm hql
    go_enter Try.func49, Try.ntmps49
    go_wp2_with fail
    go_ret
    exact ⟨_, rfl, World.ownsRow_nil _ _ _ _, Below.refl _ _⟩
  | some ad =>
    have k0 := (Below.refl w.heap.size w).alloc (Nat.le_refl _) (.cells #[] 76)
    have hF := Lib.hid (show ∀ j u, (rflat qs)[j]? = some u → (w.alloc (.cells #[] 76)).cell? (ad.add j) = some u from fun j u hu => by
      obtain ⟨b, o, hA, hb, hc⟩ := h j u hu
      injection hA with hA
      subst hA
      rw [Addr.add_lit]
      exact (k0.cell (p := ⟨b, o + j, none⟩) hb).trans hc)
    have hfl := Lib.hid (show (rflat qs).length = m * 2 from by rw [rflat_len, hql])
    have hone := Lib.hid (rflat_one qs)
    have t0 := fun w' => eql_rules_nil w' (some ad) m c
    simp only [Option.isNone_some] at t0
    have O0 := Lib.hid (show (w.alloc (.cells #[] 76)).ownsRow w.heap.size 76 2 (.slice (some ⟨w.heap.size, 0, none⟩) 0 0) 0 [] from ⟨rfl, .inr ⟨w.heap.size, 0, #[], rfl, Nat.le_refl _, heap_new w _, Nat.le_refl _, by unfold maxLen; omega, rfl, rfl⟩⟩)
    clear h hql k0
    go_enter Try.func49, Try.ntmps49
    go_wp2_with (at_builtin; refine wpList_append_own_wide _ rfl (.tmp 5) (.tmp 6) 36 rfl w.heap.size 76 i0 (.agg #[.string ByteArray.empty, .slice none 0 0]) 2 40 Try.underlying36 hi hz0 hz1 hz2 rfl (by decide) _ 0 [] rfl O0.out ad m c (rflat qs) rfl hfl.out hF.out hone.out (by unfold maxLen; omega) (by omega) (by simp) ?_)
    intro v' w3 hown' hgrow _
    have B8 := Lib.hid (((Below.refl w.heap.size w).alloc (Nat.le_refl _) (.cells #[] 76)).grown hgrow (by simp) (fun k hk => own_ge O0.out hk))
    (try simp only [List.nil_append, Nat.zero_add] at hown')
    have O8 := Lib.hid hown'
    clear hown' hgrow
    go_wp2_with fail
    go_ret
    exact ⟨_, rfl, O8.out, B8.out⟩
end Go.Proofs.Ytmfmpkihmadjmaa
