/- Make: the graph with some edges. -/
import Derived.Test.YthocdmlacfejkaaDoorSrt
import Derived.Test.YthocdmlacfejkaaDoorCpt
import Derived.Test.YthocdmlacfejkaaDoorMJ
namespace Go.Proofs.YthocdmlacfejkaaDoor
open Go.RowKit
set_option maxRecDepth 100000 in
set_option maxHeartbeats 8000000 in
theorem clone_own (A : Option Addr) (m c : Nat) (es : List (Int × Int)) (w : World) (h : EL w A m es) (hm : m ≤ 100000) :
    Calls Tryd.prog 17 #[.slice A m c] w fun e w' => ∃ v, e = .returned v ∧ w'.ownsRow w.heap.size 32 2 v es.length (Go.Proofs.YthocdmlacfejkaaDoor.flat es) ∧ Below w.heap.size w w' := by
  obtain ⟨i0, hi, hz0, hz1, hz2⟩ := info_parts info_edge
  have hel := h.1
  cases A with
  | none =>
    have hes : es = [] := by
      cases es with
      | nil => rfl
      | cons x l => obtain ⟨b, o, e1, _⟩ := h.2 0 x rfl; cases e1
    subst hes
    have hm0 : m = 0 := hel.symm
    subst hm0
    have t0 := fun w' => eql_edges_nil w' none 0 c
    simp only [Option.isNone_none] at t0
    clear h hm hel
    go_enter Tryd.func17, Tryd.ntmps17
    go_wp2_with fail
    go_ret
    exact ⟨_, rfl, World.ownsRow_nil _ _ _ _, Below.refl _ _⟩
  | some ad =>
    have hF := Lib.hid ((h.keep ((Below.refl w.heap.size w).alloc (Nat.le_refl _) (.cells #[] 32))).flat)
    have hfl := Lib.hid (show (Go.Proofs.YthocdmlacfejkaaDoor.flat es).length = m * 2 from by
      rw [← hel]; exact flat_len es)
    have hone := Lib.hid (show ∀ u ∈ Go.Proofs.YthocdmlacfejkaaDoor.flat es, u.oneCell' = true from fun u hu => by
      unfold Go.Proofs.YthocdmlacfejkaaDoor.flat at hu
      obtain ⟨e, _, he⟩ := List.mem_flatMap.1 hu
      simp at he
      rcases he with rfl | rfl <;> rfl)
    have t0 := fun w' => eql_edges_nil w' (some ad) m c
    simp only [Option.isNone_some] at t0
    have O0 := Lib.hid (show (w.alloc (.cells #[] 32)).ownsRow w.heap.size 32 2 (.slice (some ⟨w.heap.size, 0, none⟩) 0 0) 0 [] from ⟨rfl, .inr ⟨w.heap.size, 0, #[], rfl, Nat.le_refl _, heap_new w _, Nat.le_refl _, by unfold maxLen; omega, rfl, rfl⟩⟩)
    have hel := Lib.hid hel
    clear h
    go_enter Tryd.func17, Tryd.ntmps17
    go_wp2_with (at_builtin; refine wpList_append_own_wide _ rfl (.tmp 5) (.tmp 6) 22 rfl w.heap.size 32 i0 (.agg #[.int .i64 0, .int .i64 0]) 2 16 Tryd.underlying22 hi hz0 hz1 hz2 rfl (by decide) _ 0 [] rfl O0.out ad m c (Go.Proofs.YthocdmlacfejkaaDoor.flat es) rfl hfl.out hF.out hone.out (by unfold maxLen; omega) (by omega) (by simp) ?_)
    intro v' w3 hown' hgrow _
    have B8 := Lib.hid (((Below.refl w.heap.size w).alloc (Nat.le_refl _) (.cells #[] 32)).grown hgrow (by simp) (fun k hk => own_ge O0.out hk))
    (try simp only [List.nil_append, Nat.zero_add] at hown')
    rw [← hel.out] at hown'
    have O8 := Lib.hid hown'
    clear hown' hgrow
    go_wp2_with fail
    go_ret
    exact ⟨_, rfl, O8.out, B8.out⟩
/-- The edges of a graph in order, each once. -/
def makeL (n : Nat) (es : List (Nat × Nat)) : List (Nat × Nat) := (List.range n).flatMap fun a => ((List.range n).filter (hasE es a)).map fun b => (a, b)
def rE (x y : Int × Int) : Prop := x.1 < y.1 ∨ (x.1 = y.1 ∧ x.2 < y.2)
theorem sorted_same : ∀ {l1 l2 : List (Int × Int)}, l1.Pairwise rE → l2.Pairwise rE → (∀ x, x ∈ l1 ↔ x ∈ l2) → l1 = l2
  | [], [], _, _, _ => rfl
  | [], b :: l2, _, _, h => by have := (h b).2 (List.mem_cons_self ..); cases this
  | a :: l1, [], _, _, h => by have := (h a).1 (List.mem_cons_self ..); cases this
  | a :: l1, b :: l2, h1, h2, h => by
    rw [List.pairwise_cons] at h1 h2
    have irr : ∀ x, ¬ rE x x := fun x hx => by unfold rE at hx; omega
    have asy : ∀ x y, rE x y → ¬ rE y x := fun x y h1 h2 => by unfold rE at h1 h2; omega
    have e : a = b := by
      rcases List.mem_cons.1 ((h a).1 (List.mem_cons_self ..)) with h3 | h3
      · exact h3
      · rcases List.mem_cons.1 ((h b).2 (List.mem_cons_self ..)) with h4 | h4
        · exact h4.symm
        · exact absurd (h1.1 b h4) (asy _ _ (h2.1 a h3))
    subst e
    rw [sorted_same h1.2 h2.2 fun x => ?_]
    constructor
    · intro hx
      rcases List.mem_cons.1 ((h x).1 (List.mem_cons_of_mem _ hx)) with h3 | h3
      · rw [h3] at hx; exact absurd (h1.1 a hx) (irr a)
      · exact h3
    · intro hx
      rcases List.mem_cons.1 ((h x).2 (List.mem_cons_of_mem _ hx)) with h3 | h3
      · rw [h3] at hx; exact absurd (h2.1 a hx) (irr a)
      · exact h3
theorem mem_make {n : Nat} {es : List (Nat × Nat)} (hl : Low n es) {e : Nat × Nat} : e ∈ makeL n es ↔ e ∈ es := by
  obtain ⟨x, y⟩ := e
  unfold makeL
  rw [List.mem_flatMap]
  constructor
  · rintro ⟨a, ha, h⟩
    obtain ⟨b, hb, e⟩ := List.mem_map.1 h
    injection e with e1 e2
    subst e1 e2
    exact adj_bit.1 (hasE_iff.1 (List.mem_filter.1 hb).2)
  · intro h
    have := hl _ h
    exact ⟨x, List.mem_range.2 this.1, List.mem_map.2 ⟨y, List.mem_filter.2 ⟨List.mem_range.2 this.2, hasE_iff.2 (adj_bit.2 h)⟩, rfl⟩⟩
theorem make_sorted (n : Nat) (es : List (Nat × Nat)) : (cast (makeL n es)).Pairwise rE := by
  unfold cast makeL
  rw [List.pairwise_map, List.pairwise_flatMap]
  constructor
  · intro a _
    rw [List.pairwise_map]
    refine (List.Pairwise.filter _ List.pairwise_lt_range).imp fun h => ?_
    unfold rE
    simp
    exact h
  · refine List.pairwise_lt_range.imp fun h x hx y hy => ?_
    obtain ⟨p, _, rfl⟩ := List.mem_map.1 hx
    obtain ⟨q, _, rfl⟩ := List.mem_map.1 hy
    unfold rE
    simp
    omega
theorem compT_sorted {ss : List (Int × Int)} (hs : ∀ i j, i < j → j < ss.length → ltOf cmpE ss.toArray[j]! ss.toArray[i]! = false) : ∀ i, i ≤ ss.length →
    (∀ x, x ∈ compT ss i ↔ x ∈ ss.take i) ∧ (compT ss i).Pairwise rE ∧ ∀ x ∈ compT ss i, ∀ z, 0 < i → ss[i - 1]? = some z → x = z ∨ rE x z
  | 0, _ => ⟨fun x => by simp [compT], by simp [compT], fun x hx => by simp [compT] at hx⟩
  | i + 1, hi => by
    obtain ⟨h1, h2, h3⟩ := compT_sorted hs i (by omega)
    obtain ⟨y, hy⟩ : ∃ y, ss[i]? = some y := ⟨_, List.getElem?_eq_getElem (by omega)⟩
    have ht : ss.take (i + 1) = ss.take i ++ [y] := by rw [List.take_add_one, hy]; rfl
    rcases Nat.eq_zero_or_pos i with h0 | h0
    · subst h0
      have e : compT ss (0 + 1) = [y] := by rw [compT, hy]; simp [compT]
      rw [e, ht]
      refine ⟨fun x => by simp, List.pairwise_singleton _ _, fun x hx z _ hz => ?_⟩
      rw [show 0 + 1 - 1 = 0 from rfl, hy] at hz
      injection hz with hz
      exact .inl (by rw [List.mem_singleton.1 hx, hz])
    · obtain ⟨x0, hx0⟩ : ∃ x0, ss[i - 1]? = some x0 := ⟨_, List.getElem?_eq_getElem (by omega)⟩
      have hno := hs (i - 1) i (by omega) (by omega)
      have ga : ss.toArray[i]! = y := by
        rw [getElem!_pos ss.toArray i (by simp; omega)]
        have := hy
        rw [List.getElem?_eq_getElem (by omega)] at this
        injection this
      have gb : ss.toArray[i - 1]! = x0 := by
        rw [getElem!_pos ss.toArray (i - 1) (by simp; omega)]
        have := hx0
        rw [List.getElem?_eq_getElem (by omega)] at this
        injection this
      rw [ga, gb, ltE_not] at hno
      by_cases e : x0 = y
      · subst e
        rw [compT_old h0 hx0 hy, ht]
        refine ⟨fun x => ?_, h2, fun x hx z _ hz => ?_⟩
        · rw [h1, List.mem_append, List.mem_singleton]
          constructor
          · exact .inl
          · rintro (h | h)
            · exact h
            · rw [h]
              refine List.mem_of_getElem? (i := i - 1) ?_
              rw [List.getElem?_take_of_lt (by omega)]
              exact hx0
        · rw [show i + 1 - 1 = i from rfl, hy] at hz
          injection hz with hz
          rw [← hz]
          exact h3 x hx x0 h0 hx0
      · have hlt : rE x0 y := by
          obtain ⟨a, b⟩ := x0
          obtain ⟨p, q⟩ := y
          unfold rE
          simp only at hno ⊢
          have : ¬ (a = p ∧ b = q) := fun ⟨e1, e2⟩ => e (by rw [e1, e2])
          omega
        have hall : ∀ x ∈ compT ss i, rE x y := fun x hx => by
          rcases h3 x hx x0 h0 hx0 with h4 | h4
          · rw [h4]; exact hlt
          · unfold rE at h4 hlt ⊢; omega
        rw [compT_new h0 hx0 hy e, ht]
        refine ⟨fun x => by rw [List.mem_append, List.mem_append, h1], ?_, fun x hx z _ hz => ?_⟩
        · rw [List.pairwise_append]
          refine ⟨h2, List.pairwise_singleton _ _, fun a ha b hb => ?_⟩
          rw [List.mem_singleton.1 hb]
          exact hall a ha
        · rw [show i + 1 - 1 = i from rfl, hy] at hz
          injection hz with hz
          rcases List.mem_append.1 hx with h4 | h4
          · exact .inr (by rw [← hz]; exact hall x h4)
          · exact .inl (by rw [List.mem_singleton.1 h4, hz])
theorem cast_mem {es : List (Nat × Nat)} {x : Int × Int} : x ∈ cast es ↔ ∃ e ∈ es, x = ((e.1 : Int), (e.2 : Int)) := by
  unfold cast
  rw [List.mem_map]
  exact ⟨fun ⟨e, h, he⟩ => ⟨e, h, he.symm⟩, fun ⟨e, h, he⟩ => ⟨e, h, he.symm⟩⟩
theorem comp_make {n : Nat} {es : List (Nat × Nat)} {ss : List (Int × Int)} (hl : Low n es) (hp : ss.Perm (cast es)) (hs : ∀ i j, i < j → j < ss.length → ltOf cmpE ss.toArray[j]! ss.toArray[i]! = false) : compT ss ss.length = cast (makeL n es) := by
  obtain ⟨h1, h2, _⟩ := compT_sorted hs ss.length (Nat.le_refl _)
  refine sorted_same h2 (make_sorted n es) fun x => ?_
  rw [h1, List.take_length, hp.mem_iff, cast_mem, cast_mem]
  constructor
  · rintro ⟨e, he, rfl⟩; exact ⟨e, (mem_make hl).2 he, rfl⟩
  · rintro ⟨e, he, rfl⟩; exact ⟨e, (mem_make hl).1 he, rfl⟩
/-- A row of edges that the call owns. -/
def OwnE (base : Nat) (w : World) (v : Value) (ss : List (Int × Int)) : Prop :=
  (ss = [] ∧ ∃ p c, v = .slice p 0 c) ∨ ∃ g cap cur, v = .slice (some ⟨g, 0, none⟩) ss.length cap ∧ base ≤ g ∧ w.heap[g]? = some (.cells cur 32 (0, 0)) ∧ cur.toList.take (ss.length * 2) = flat ss ∧ ss.length ≤ cap
theorem OwnE.of_own {base : Nat} {w : World} {v : Value} {es : List (Int × Int)} (h : w.ownsRow base 32 2 v es.length (flat es)) : OwnE base w v es := by
  rcases h.2 with ⟨rfl, h0⟩ | ⟨g, cap, cur, rfl, hg, hh, hnc, hcm, hcs, hx⟩
  · exact .inl ⟨List.eq_nil_of_length_eq_zero h0, none, 0, rfl⟩
  · exact .inr ⟨g, cap, cur, rfl, hg, hh, hx, hnc⟩
theorem sort_all {base : Nat} {w : World} {v : Value} {es : List (Int × Int)} (h : OwnE base w v es) (hl : es.length ≤ 100000) :
    Calls Tryd.prog 71 #[v, .func (.func 72) #[] #[]] w fun e w' => e = .returned (.tuple #[]) ∧ ∃ ss, ss.Perm es ∧ (∀ i j, i < j → j < ss.length → ltOf cmpE ss.toArray[j]! ss.toArray[i]! = false) ∧ OwnE base w' v ss ∧ Below base w w' := by
  rcases h with ⟨rfl, p, c, rfl⟩ | ⟨g, cap, cur, rfl, hg, hh, hc, hcap⟩
  · refine (AnyF.slices_SortFunc_none Tryd.sortE p c _ w).mono fun e w' ⟨h1, h2⟩ => ⟨h1, [], List.Perm.refl _, fun i j _ hj => by simp at hj, .inl ⟨rfl, p, c, rfl⟩, by rw [h2]; exact Below.refl _ _⟩
  · refine (sortF_any g cap _ es cur w hh hc hl).mono fun e w' ⟨h1, cur', ss, hp, hs, hh', _, hc', hb⟩ => ⟨h1, ss, hp, hs, .inr ⟨g, cap, cur', ?_, hg, hh', ?_, ?_⟩, hb.mono hg⟩
    · rw [hp.length_eq]
    · rw [hp.length_eq]; exact hc'
    · rw [hp.length_eq]; exact hcap
theorem compact_all {base : Nat} {w : World} {v : Value} {ss : List (Int × Int)} (h : OwnE base w v ss) (hl : ss.length ≤ 100000) (hbw : base ≤ w.heap.size) :
    Calls Tryd.prog 73 #[v] w fun e w' => ∃ B c, e = .returned (.slice B (compT ss ss.length).length c) ∧ EL w' B (compT ss ss.length).length (compT ss ss.length) ∧ (∀ b o, B = some ⟨b, o, none⟩ → base ≤ b ∨ (compT ss ss.length) = []) ∧ Below base w w' := by
  rcases h with ⟨rfl, p, c, rfl⟩ | ⟨g, cap, cur, rfl, hg, hh, hc, hcap⟩
  · exact (compact_few p 0 c w (by decide)).mono fun e w' ⟨h1, h2⟩ => ⟨p, c, h1, ⟨rfl, fun k e hk => by simp [compT] at hk⟩, fun b o _ => .inr rfl, h2.mono hbw⟩
  · have hcl : Cells w g (flat ss ++ cur.toList.drop (ss.length * 2)) := by
      rw [← hc, List.take_append_drop]
      exact Cells.of_row hh
    by_cases h2 : ss.length < 2
    · have e : compT ss ss.length = ss := by
        match ss, h2 with
        | [], _ => rfl
        | [x], _ => rfl
      rw [e]
      exact (compact_few _ _ cap w h2).mono fun e w' ⟨h1, h2⟩ => ⟨_, cap, h1, (el_cells hcl).keep h2, fun b o hb => by cases hb; exact .inl hg, h2.mono hbw⟩
    · exact (compact_any g cap ss _ w hcl (by omega) hl hcap).mono fun e w' ⟨h1, h2, h3⟩ => ⟨_, cap, h1, h2, fun b o hb => by cases hb; exact .inl hg, h3.mono hg⟩
theorem edges_cast {k : Nat} {l : List (Nat × Nat)} (hl : Low k l) : edgesE (k : Int) (cast l) = 0 := by
  unfold edgesE
  rw [if_pos]
  rw [List.all_eq_true]
  intro x hx
  obtain ⟨e, he, rfl⟩ := cast_mem.1 hx
  have := hl e he
  unfold okE
  simp
  omega
theorem make_len {n : Nat} {es : List (Nat × Nat)} : (makeL n es).length ≤ n * n := by
  unfold makeL
  have : ∀ l : List Nat, (l.flatMap fun a => ((List.range n).filter (hasE es a)).map fun b => (a, b)).length ≤ l.length * n := by
    intro l
    induction l with
    | nil => simp
    | cons a l ih =>
      rw [List.flatMap_cons, List.length_append, List.length_map, List.length_cons, Nat.add_mul]
      have := List.length_filter_le (hasE es a) (List.range n)
      rw [List.length_range] at this
      omega
  have := this (List.range n)
  rwa [List.length_range] at this
def MakPost (k : Nat) (l : List (Nat × Nat)) (w : World) (e : Ending) (w' : World) : Prop :=
  (∃ B c, e = .returned (.tuple #[gV k B (makeL k l).length c, .int .i64 0]) ∧ EL w' B (makeL k l).length (cast (makeL k l)) ∧ ∀ b o, B = some ⟨b, o, none⟩ → w.heap.size ≤ b ∨ makeL k l = []) ∧ Below w.heap.size w w'
set_option maxRecDepth 100000 in
set_option maxHeartbeats 8000000 in
theorem make_ok (k : Nat) (A : Option Addr) (m c : Nat) (l : List (Nat × Nat)) (w : World) (h : EL w A m (cast l)) (hm : m ≤ 100000) (hl : Low k l) (hk : k ≤ 64) :
    Calls Tryd.prog 16 #[.int .i64 (k : Nat), .slice A m c] w (MakPost k l w) := by
  have kv := (Below.refl w.heap.size w).alloc (Nat.le_refl _) (.cells #[.int .i64 0, .slice none 0 0] 26)
  have X0 := Lib.hid (Cells.new w #[.int .i64 0, .slice none 0 0] 26)
  have HE := checkEdges_any (k : Int) A m c (cast l) (w.alloc (.cells #[.int .i64 0, .slice none 0 0] 26)) (h.keep kv) (by omega)
  rw [edges_cast hl] at HE
  have HE := Lib.hid HE
  have HC := Lib.hid (fun w' (hb : Below w.heap.size w w') => clone_own A m c (cast l) w' (h.keep hb) hm)
  have hml := h.1
  have Hcm := Lib.hid (fun ss hp hs => comp_make (ss := ss) hl hp hs)
  have t0 : decide ((k : Int) < 0) = false := decide_eq_false (by omega)
  have t1 : decide ((64 : Int) < (k : Int)) = false := decide_eq_false (by omega)
  have Kv := Lib.hid kv
  clear h hl kv
  go_enter Tryd.func16, Tryd.ntmps16
  go_wp2_with fail
  refine HE.out.mono ?_
  rintro e w1 ⟨rfl, hb1⟩
  have X1 := Lib.hid (X0.out.keep hb1)
  have B1 := Lib.hid (below_on Kv.out hb1)
  clear hb1
  go_wp2_with fail
  refine (HC.out _ B1.out).mono ?_
  rintro e w2 ⟨v, rfl, hown, hb2⟩
  have O2 := Lib.hid (OwnE.of_own hown)
  have X2 := Lib.hid (X1.out.keep hb2)
  have B2 := Lib.hid (below_on B1.out hb2)
  have hs12 := hb2.size
  have hx1 := X1.out.lt
  have HS := Lib.hid (sort_all O2.out (by omega))
  clear hown hb2
  go_wp2_with fail
  refine HS.out.mono ?_
  rintro e w3 ⟨rfl, ss, hp, hs, ho, hb3⟩
  have X3 := Lib.hid (X2.out.keepB hb3 hx1)
  have B3 := Lib.hid (B2.out.trans (hb3.mono B1.out.size))
  have hs23 := hb3.size
  have hsl : ss.length ≤ 100000 := by rw [hp.length_eq]; omega
  have HQ := compact_all ho hsl (by omega)
  rw [Hcm.out ss hp hs, cast_len] at HQ
  have HQ := Lib.hid HQ
  clear hp hs ho hb3
  go_wp2_with fail
  refine HQ.out.mono ?_
  rintro e w4 ⟨B, cB, rfl, hE, hBb, hb4⟩
  have X4 := Lib.hid (X3.out.keepB hb4 hx1)
  have B4 := B3.out.trans (hb4.mono B1.out.size)
  have x0 := X4.out.at_ 0
  have x1 := X4.out.at_ 1
  have f0 := X4.out.fz 0
  have f1 := X4.out.fz 1
  simp only [List.getElem?_cons_zero, List.getElem?_cons_succ] at x0 x1
  have X5 := Lib.hid ((X4.out.set 0 (.int .i64 (k : Nat)) (by simp)).set 1 (.slice B (makeL k l).length cB) (by simp))
  have E5 : EL ((w4.setCell ⟨w.heap.size, 0, none⟩ (.int .i64 (k : Nat))).setCell ⟨w.heap.size, 1, none⟩ (.slice B (makeL k l).length cB)) B (makeL k l).length (cast (makeL k l)) := by
    by_cases h0 : cast (makeL k l) = []
    · rw [h0] at hE ⊢
      exact ⟨hE.1, fun k e hk => by simp at hk⟩
    · have HBn : ∀ b o, B = some ⟨b, o, none⟩ → b ≠ w.heap.size := fun b o hb hh => by
        rcases hBb b o hb with h1 | h1
        · omega
        · exact h0 h1
      exact (hE.other HBn 0 _).other HBn 1 _
  have E5 := Lib.hid E5
  have HB5 := Lib.hid (show ∀ b o, B = some ⟨b, o, none⟩ → w.heap.size ≤ b ∨ makeL k l = [] from fun b o hb => by
    rcases hBb b o hb with h1 | h1
    · exact .inl (by omega)
    · right
      have := congrArg List.length h1
      rw [cast_len] at this
      exact List.eq_nil_of_length_eq_zero this)
  have B5 := Lib.hid ((B4.setCell (p := ⟨w.heap.size, 0, none⟩) (by simp) (.int .i64 (k : Nat))).setCell (p := ⟨w.heap.size, 1, none⟩) (by simp) (.slice B (makeL k l).length cB))
  clear hE hBb hb4 B4
  go_wp2_with fail
  exact bodyPost_ret (ret_graph rfl _ _ w.heap.size _ _ rfl X5.out) rfl ⟨⟨B, cB, rfl, E5.out, HB5.out⟩, B5.out⟩
end Go.Proofs.YthocdmlacfejkaaDoor
