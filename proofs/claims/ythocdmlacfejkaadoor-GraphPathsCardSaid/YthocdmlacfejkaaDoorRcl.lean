/- The reference's Closure and Closed. -/
import Derived.Test.YthocdmlacfejkaaDoorRrc
import Derived.Test.YthocdmlacfejkaaDoorKno
namespace Go.Proofs.YthocdmlacfejkaaDoor
open Go.RowKit
/-- A list of nodes in a row of its own. -/
def RowL (w : World) (A : Option Addr) (l : List Nat) : Prop := l = [] ∨ ∃ g vs, A = some ⟨g, 0, none⟩ ∧ Row w g 3 vs ∧ ∀ (k n : Nat), l[k]? = some n → vs[k]? = some (.int .i64 (n : Nat))
theorem RowL.of_own {C : Nat} {w : World} {v : Value} {l : List Nat} (h : w.ownsRow C 3 1 v l.length (nats l)) : ∃ A c, v = .slice A l.length c ∧ RowL w A l := by
  rcases h.2 with ⟨rfl, h0⟩ | ⟨g, cap, cur, rfl, hg, hh, hnc, hcm, hcs, hx⟩
  · exact ⟨none, 0, by rw [h0], .inl (List.eq_nil_of_length_eq_zero h0)⟩
  · refine ⟨_, cap, rfl, .inr ⟨g, cur.toList, rfl, by simpa [Row] using hh, fun k n hk => ?_⟩⟩
    have hk2 : k < l.length := by
      rcases Nat.lt_or_ge k l.length with h1 | h1
      · exact h1
      · rw [List.getElem?_eq_none h1] at hk; cases hk
    have e1 : (cur.toList.take (l.length * 1))[k]? = cur.toList[k]? := List.getElem?_take_of_lt (by omega)
    rw [← e1, hx]
    unfold nats
    rw [List.getElem?_map, hk]
    rfl
theorem RowL.keep {w w' : World} {A : Option Addr} {l : List Nat} (h : RowL w A l) (hb : Below w.heap.size w w') : RowL w' A l :=
  h.imp id fun ⟨g, vs, e, hr, hc⟩ => ⟨g, vs, e, hr.keep hb, hc⟩
theorem RowL.grown {C k : Nat} {w w1 : World} {v : Value} {xs : List Value} {o : Obj} {A : Option Addr} {l : List Nat} (h : RowL w A l) (hown : w.ownsRow C 50 1 v k xs) (hg : (w.alloc o).grownBy w1 v.ownBlock) : RowL w1 A l :=
  h.imp id fun ⟨g, vs, e, hr, hc⟩ => ⟨g, vs, e, row_grown hr hown hg, hc⟩
theorem RowL.nl {w : World} {A : Option Addr} {l : List Nat} (h : RowL w A l) : NL 0 w A l := fun k n hk => by
  rcases h with rfl | ⟨g, vs, rfl, hr, hc⟩
  · simp at hk
  · exact ⟨g, 0, rfl, Nat.zero_le _, hr.cells.lt, by rw [hr.cells.at_, Nat.zero_add]; exact hc k n hk⟩
/-- Lists of nodes, in a slice that one appends to. -/
def OutN (C : Nat) (w : World) (v : Value) (ls : List (List Nat)) : Prop :=
  ∃ vs, w.ownsRow C 50 1 v ls.length vs ∧ ∀ (k : Nat) (l : List Nat), ls[k]? = some l → ∃ A c, vs[k]? = some (Value.slice A l.length c) ∧ RowL w A l
theorem OutN.nil (C : Nat) (w : World) : OutN C w (.slice none 0 0) [] := ⟨[], World.ownsRow_nil _ _ _ _, fun k l h => by simp at h⟩
theorem OutN.keep {C : Nat} {w w' : World} {v : Value} {ls : List (List Nat)} (h : OutN C w v ls) (hb : Below w.heap.size w w') : OutN C w' v ls :=
  let ⟨vs, h1, h2⟩ := h; ⟨vs, own_below h1 hb, fun k l hk => let ⟨A, c, e, hr⟩ := h2 k l hk; ⟨A, c, e, hr.keep hb⟩⟩
theorem OutN.down {B C : Nat} {w : World} {v : Value} {ls : List (List Nat)} (h : OutN B w v ls) (hC : C ≤ B) : OutN C w v ls := let ⟨vs, h1, h2⟩ := h; ⟨vs, own_down' h1 hC, h2⟩
theorem OutN.push {C : Nat} {w w1 : World} {v v' : Value} {ls : List (List Nat)} {vs : List Value} {l : List Nat} {A : Option Addr} {c : Nat} {o : Obj} (hown : w.ownsRow C 50 1 v ls.length vs) (hvs : ∀ (k : Nat) (l : List Nat), ls[k]? = some l → ∃ A c, vs[k]? = some (Value.slice A l.length c) ∧ RowL w A l) (hl : RowL w A l)
    (hown' : w1.ownsRow C 50 1 v' (ls.length + 1) (vs ++ [.slice A l.length c])) (hg : (w.alloc o).grownBy w1 v.ownBlock) : OutN C w1 v' (ls ++ [l]) := by
  have hvl : vs.length = ls.length := by have := hown.1; omega
  refine ⟨_, by rw [List.length_append]; exact hown', fun k x hk => ?_⟩
  rcases Nat.lt_or_ge k ls.length with h1 | h1
  · rw [List.getElem?_append_left h1] at hk
    obtain ⟨A', c', e, hr⟩ := hvs k x hk
    exact ⟨A', c', by rw [List.getElem?_append_left (by omega)]; exact e, hr.grown hown hg⟩
  · rw [List.getElem?_append_right h1] at hk
    have hk0 : k - ls.length = 0 := by
      rcases Nat.eq_zero_or_pos (k - ls.length) with h2 | h2
      · exact h2
      · rw [List.getElem?_eq_none (by rw [List.length_singleton]; omega)] at hk; cases hk
    rw [hk0] at hk
    simp at hk
    subst hk
    refine ⟨A, c, ?_, hl.grown hown hg⟩
    rw [List.getElem?_append_right (by omega), show k - vs.length = 0 by omega]
    rfl
theorem OutN.ll {C : Nat} {w : World} {v : Value} {ls : List (List Nat)} (h : OutN C w v ls) : ∃ A c, v = .slice A ls.length c ∧ LL 0 w A ls := by
  obtain ⟨vs, h1, h2⟩ := h
  rcases h1.2 with ⟨rfl, h0⟩ | ⟨g, cap, cur, rfl, hg, hh, hnc, hcm, hcs, hx⟩
  · have : ls = [] := List.eq_nil_of_length_eq_zero h0
    subst this
    exact ⟨none, 0, rfl, fun k l hk => by simp at hk⟩
  · refine ⟨_, cap, rfl, fun k l hk => ?_⟩
    obtain ⟨A, c, e, hr⟩ := h2 k l hk
    have hk2 : k < ls.length := by
      rcases Nat.lt_or_ge k ls.length with h1 | h1
      · exact h1
      · rw [List.getElem?_eq_none h1] at hk; cases hk
    refine ⟨g, 0, A, c, rfl, Nat.zero_le _, ?_, ?_, hr.nl⟩
    · rcases Nat.lt_or_ge g w.heap.size with h1 | h1
      · exact h1
      · rw [Array.getElem?_eq_none h1] at hh; cases hh
    · rw [cell_of_row _ _ _ _ _ _ hh, Nat.zero_add, ← Array.getElem?_toList, ← e, ← hx, List.getElem?_take_of_lt (by omega)]
theorem reachL_len (n : Nat) (es : List (Nat × Nat)) (l : List Nat) : (reachL n es l).length ≤ n := by
  have := List.length_filter_le (reachB es l) (List.range n)
  rw [List.length_range] at this
  exact this
set_option maxRecDepth 100000 in
set_option maxHeartbeats 8000000 in
theorem refClosed_any (n : Nat) (A : Option Addr) (m c : Nat) (es : List (Nat × Nat)) (B : Option Addr) (d : Nat) (l : List Nat) (w : World) (h : EL w A m (cast es)) (hg : Fine n es) (hl : IL w B (zs l)) (hll : l.length ≤ 1000000) (hin : ∀ a ∈ l, a < n) :
    Calls Tryd.prog 45 #[gV n A m c, .slice B l.length d] w fun e w' => e = .returned (.bool (decide ((reachL n es l).length = l.length))) ∧ Below w.heap.size w w' := by
  have kv := (Below.refl w.heap.size w).alloc (Nat.le_refl _) (.cells #[.int .i64 (n : Nat), .slice A m c] 35)
  have G0 := Lib.hid (Cells.new w #[.int .i64 (n : Nat), .slice A m c] 35)
  have HT := Lib.hid (refReach_any n A m c es B d l _ (h.keep kv) hg (hl.keep kv) hll hin)
  have kv := Lib.hid kv
  clear h hg hl hin
  go_enter Tryd.func45, Tryd.ntmps45
  have g0 := G0.out.at_ 0
  have g1 := G0.out.at_ 1
  simp only [List.getElem?_cons_zero, List.getElem?_cons_succ] at g0 g1
  go_wp2_with fail
  refine HT.out.mono ?_
  rintro e w1 ⟨v, rfl, hown, hb1⟩
  obtain ⟨A1, c1, rfl, _⟩ := own_nats hown
  have B1 := Lib.hid (below_on kv.out hb1)
  clear hb1 hown
  go_wp2_with fail
  go_ret
  exact ⟨ret_bool (by rw [Bool.eq_iff_iff, beq_iff_eq, decide_eq_true_eq]; omega), B1.out⟩
set_option maxRecDepth 100000 in
set_option maxHeartbeats 8000000 in
theorem refClosure_any (n : Nat) (A : Option Addr) (m c : Nat) (es : List (Nat × Nat)) (w : World) (h : EL w A m (cast es)) (hg : Fine n es) :
    Calls Tryd.prog 44 #[gV n A m c] w fun e w' => ∃ v, e = .returned v ∧ OutN w.heap.size w' v ((List.range n).map fun a => reachL n es [a]) ∧ Below w.heap.size w w' := by
  obtain ⟨j0, hj, jz0, jz1, jz2⟩ := info_parts info_ints
  have hn64 := hg.n64
  have kv := (Below.refl w.heap.size w).alloc (Nat.le_refl _) (.cells #[.int .i64 (n : Nat), .slice A m c] 35)
  have G0 := Lib.hid (Cells.new w #[.int .i64 (n : Nat), .slice A m c] 35)
  have HR := Lib.hid (fun w' a (hb : Below w.heap.size w w') (ha : a < n) => refReach_any n A m c es (some ⟨w'.heap.size, 0, none⟩) 1 [a] (w'.alloc (.cells #[.int .i64 (a : Nat)] 3)) ((h.keep hb).keep ((Below.refl _ _).alloc (Nat.le_refl _) _)) hg (nl_one (w'.alloc (.cells #[.int .i64 (a : Nat)] 3)) w'.heap.size a (by simp) (by simp [go_sem])).il (by simp) (by simpa using ha))
  have kv := Lib.hid kv
  clear h hg
  go_enter Tryd.func44, Tryd.ntmps44
  go_wp2_with fail
  go_loopw [3, 4] (fun v i wr => ∃ a : Nat, i = .int .i64 (a : Nat) ∧ a ≤ n ∧ OutN (w.heap.size + 1) wr v ((List.range a).map fun a => reachL n es [a]) ∧ Cells wr w.heap.size [.int .i64 (n : Nat), .slice A m c] ∧ Below w.heap.size w wr) (fun _ i _ => n - (intOf i).toNat)
  case atStart => exact ⟨0, rfl, Nat.zero_le _, OutN.nil _ _, G0.out, kv.out⟩
  case round =>
    obtain ⟨a, rfl, ha, hout, hgc, hb⟩ := hrel
    have Hout := Lib.hid hout
    have B6 := Lib.hid hb
    have G6 := Lib.hid hgc
    clear hout hb hgc
    obtain ⟨wa, rfl⟩ : ∃ wa : World, wa = wr := ⟨_, rfl⟩
    have g0 := G6.out.at_ 0
    have g1 := G6.out.at_ 1
    simp only [List.getElem?_cons_zero, List.getElem?_cons_succ] at g0 g1
    by_cases hlt : a < n
    · have Hlt := Lib.hid hlt
      have HRa := Lib.hid (HR.out wa a B6.out hlt)
      have bA := (Below.refl wa.heap.size wa).alloc (Nat.le_refl _) (.cells #[.int .i64 (a : Nat)] 3)
      have bA := Lib.hid bA
      go_wp2_with fail
      refine HRa.out.mono ?_
      rintro e w2 ⟨v, rfl, hown, hb2⟩
      obtain ⟨A2, c2, rfl, hl2⟩ := RowL.of_own hown
      have b2 := below_on bA.out hb2
      have G2 := Lib.hid (G6.out.keep b2)
      have B2 := Lib.hid (below_on B6.out b2)
      have L2 := Lib.hid hl2
      obtain ⟨vs, hown2, hrows⟩ := Hout.out.keep b2
      have O2 := Lib.hid hown2
      have R2 := Lib.hid hrows
      have hbc : w.heap.size + 1 ≤ w2.heap.size := G2.out.lt
      have Hl := Lib.hid (show ((List.range a).map fun a => reachL n es [a]).length = a by simp)
      have Hn := Lib.hid (reachL_len n es [a])
      have Hsn := Lib.hid (show ((List.range (a + 1)).map fun a => reachL n es [a]) = ((List.range a).map fun a => reachL n es [a]) ++ [reachL n es [a]] by rw [List.range_succ, List.map_append]; rfl)
      clear hown hl2 hb2 b2 hown2 hrows g0 g1
      go_wp2_with (at_builtin; refine wpList_append_own _ rfl _ _ 47 rfl (w.heap.size + 1) 50 j0 (.slice none 0 0) 1 24 Tryd.underlying47 hj jz0 jz1 jz2 rfl (by decide) _ _ _ rfl (O2.out.alloc _) ⟨w2.heap.size, 0, none⟩ 1 1 [.slice A2 (reachL n es [a]).length c2] rfl rfl ?c1 ?c2 ?c3 ?c4 ?c5 ?_)
      case c1 =>
        intro k u hu
        match k, hu with
        | 0, hu => simp at hu; subst hu; simp [Addr.add]
      case c2 => intro u hu; simp at hu; subst hu; rfl
      case c3 => unfold maxLen; have := Hl.out; omega
      case c4 => have := Hl.out; omega
      case c5 => simp; omega
      intro v' w3 hown' hgrow _
      have HO := Lib.hid (OutN.push O2.out R2.out L2.out (by rw [Hl.out]; exact hown') hgrow)
      rw [← Hsn.out] at HO
      have B7 := Lib.hid ((B2.out.alloc B2.out.size (.cells #[.slice A2 (reachL n es [a]).length c2] 50)).grown hgrow (by simp; omega) (fun k hk => Nat.le_of_succ_le (own_ge O2.out hk)))
      have G7 := Lib.hid (G2.out.keepB (B := w.heap.size + 1) (((Below.refl (w.heap.size + 1) w2).alloc hbc (.cells #[.slice A2 (reachL n es [a]).length c2] 50)).grown hgrow (by simp; omega) (fun k hk => own_ge O2.out hk)) (Nat.lt_succ_self _))
      clear hown' hgrow
      go_wp2_with fail
      go_roundw
      case rel => exact ⟨a + 1, by go_num, Hlt.out, HO.out, G7.out, B7.out⟩
      case measure => simp [intOf]; have := Hlt.out; omega
    · have han : a = n := by omega
      subst han
      go_wp2_with fail
      go_ret
      exact ⟨_, rfl, Hout.out.down (Nat.le_succ _), B6.out⟩
end Go.Proofs.YthocdmlacfejkaaDoor
