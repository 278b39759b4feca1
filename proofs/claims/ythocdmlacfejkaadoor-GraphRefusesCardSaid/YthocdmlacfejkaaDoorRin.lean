/- Induced: the reference's; a clone of a list of nodes. -/
import Derived.Test.YthocdmlacfejkaaDoorRvs
namespace Go.Proofs.YthocdmlacfejkaaDoor
open Go.RowKit
theorem own_ints {w : World} {base : Nat} {v : Value} {l : List Int} (h : w.ownsRow base 3 1 v l.length (l.map (Value.int .i64))) : ∃ A c, v = .slice A l.length c ∧ IL w A l := by
  rcases h.2 with ⟨rfl, h0⟩ | ⟨g, cap, cur, rfl, hg, hh, hnc, hcm, hcs, hx⟩
  · have hl : l = [] := List.eq_nil_of_length_eq_zero h0
    subst hl
    exact ⟨none, 0, rfl, fun k n hk => by simp at hk⟩
  · refine ⟨_, cap, rfl, fun k n hk => ⟨g, 0, rfl, ?_, ?_⟩⟩
    · rcases Nat.lt_or_ge g w.heap.size with h1 | h1
      · exact h1
      · rw [Array.getElem?_eq_none h1] at hh; cases hh
    · rw [cell_of_row _ _ _ _ _ _ hh, Nat.zero_add]
      have hk2 : k < l.length := by
        rcases Nat.lt_or_ge k l.length with h1 | h1
        · exact h1
        · rw [List.getElem?_eq_none h1] at hk; cases hk
      have e1 : (cur.toList.take (l.length * 1))[k]? = cur.toList[k]? := List.getElem?_take_of_lt (by omega)
      have e : cur.toList[k]? = some (.int .i64 n) := by
        rw [← e1, hx]
        rw [List.getElem?_map, hk]
        rfl
      simpa using e
theorem cloneI_any (A : Option Addr) (d : Nat) (l : List Int) (w : World) (h : IL w A l) (hl : l.length ≤ 1000000) :
    Calls Tryd.prog 34 #[.slice A l.length d] w fun e w' => ∃ B c, e = .returned (.slice B l.length c) ∧ IL w' B l ∧ Below w.heap.size w w' := by
  have nil_il : ∀ (w' : World) (B : Option Addr), IL w' B [] := fun w' B k x hk => by simp at hk
  by_cases h0 : l = []
  · subst h0
    cases A with
    | none => exact (Tryd.slices_Clone_int_nil 0 d w).mono fun e w' ⟨h1, h2⟩ => ⟨none, 0, h1, nil_il _ _, by rw [h2]; exact Below.refl _ _⟩
    | some a =>
      refine (Tryd.slices_Clone_int_zero a d w).mono fun e w' ⟨v, h1, h2, _, h3⟩ => ?_
      obtain ⟨B, c, hv, hi⟩ := own_ints (l := []) h2
      exact ⟨B, c, by rw [h1, hv], hi, h3⟩
  · have hp : 0 < l.length := List.length_pos_iff.2 h0
    obtain ⟨b, o, rfl, hc⟩ := h.flat hp
    refine (Tryd.slices_Clone_int b o l.length d l w (Nat.le_refl _) (by omega) hc).mono fun e w' ⟨v, h1, h2, _, h3⟩ => ?_
    rw [List.take_of_length_le (Nat.le_refl _)] at h2
    obtain ⟨B, c, hv, hi⟩ := own_ints h2
    exact ⟨B, c, by rw [h1, hv], hi, h3⟩
theorem ordE_sorted : ∀ {l : List (Int × Int)}, ordE l = true → l.Pairwise rE
  | [], _ => List.Pairwise.nil
  | [x], _ => List.pairwise_singleton _ _
  | x :: y :: l, h => by
    rw [ordE, Bool.and_eq_true, decide_eq_true_eq] at h
    have ih := ordE_sorted h.2
    have hxy : rE x y := (ltE_iff x y).1 (by unfold ltOf; exact decide_eq_true h.1)
    rw [List.pairwise_cons]
    refine ⟨fun z hz => ?_, ih⟩
    rcases List.mem_cons.1 hz with h1 | h1
    · rw [h1]; exact hxy
    · have := (List.pairwise_cons.1 ih).1 z h1
      unfold rE at this hxy ⊢
      omega
theorem Fine.sorted {n : Nat} {es : List (Nat × Nat)} (h : Fine n es) : (cast es).Pairwise rE := by
  have hc := h.check
  refine ordE_sorted ?_
  unfold checkG at hc
  cases e : ordE (cast es) with
  | true => rfl
  | false =>
    exfalso
    rw [e] at hc
    simp only at hc
    split at hc
    · cases hc
    · split at hc
      · cases hc
      · split at hc
        · cases hc
        · simp at hc
theorem inc_nat {l : List Nat} (h : incL (zs l) = true) : l.Pairwise (· < ·) := by
  have := incL_pair h
  unfold zs at this
  rw [List.pairwise_map] at this
  exact this.imp fun h => by simpa using h
theorem pos_at : ∀ {l : List Nat}, l.Pairwise (· < ·) → ∀ {i x : Nat}, l[i]? = some x → l.countP (· < x) = i
  | [], _, i, x, h => by simp at h
  | y :: l, hs, 0, x, h => by
    simp at h
    subst h
    rw [List.pairwise_cons] at hs
    rw [List.countP_eq_zero]
    intro a ha
    rcases List.mem_cons.1 ha with h1 | h1
    · simp [h1]
    · have := hs.1 a h1; simp; omega
  | y :: l, hs, i + 1, x, h => by
    rw [List.getElem?_cons_succ] at h
    rw [List.pairwise_cons] at hs
    have hy := hs.1 x (List.mem_of_getElem? h)
    rw [List.countP_cons_of_pos (by simpa using hy), pos_at hs.2 h]
theorem pos_mem {l : List Nat} (hs : l.Pairwise (· < ·)) {x : Nat} (h : x ∈ l) : l[l.countP (· < x)]? = some x := by
  obtain ⟨i, hi, e⟩ := List.getElem_of_mem h
  have h1 : l[i]? = some x := by rw [List.getElem?_eq_getElem hi, e]
  rw [pos_at hs h1]
  exact h1
theorem ind_has {es : List (Nat × Nat)} {l : List Nat} (hs : l.Pairwise (· < ·)) {a b x y : Nat} (ha : l[a]? = some x) (hb : l[b]? = some y) : hasE (indM es l) a b = hasE es x y := by
  rw [Bool.eq_iff_iff, hasE_iff, hasE_iff, adj_bit, adj_bit]
  unfold indM
  rw [List.mem_map]
  constructor
  · rintro ⟨⟨p, q⟩, he, hp⟩
    rw [List.mem_filter] at he
    obtain ⟨h1, h2⟩ := he
    unfold keepE at h2
    rw [Bool.and_eq_true, List.contains_iff_mem, List.contains_iff_mem] at h2
    unfold posE at hp
    injection hp with e1 e2
    simp only at e1 e2 h2
    have g1 := pos_mem hs h2.1
    have g2 := pos_mem hs h2.2
    rw [e1, ha] at g1
    rw [e2, hb] at g2
    injection g1 with g1
    injection g2 with g2
    rw [g1, g2]
    exact h1
  · intro h
    refine ⟨(x, y), List.mem_filter.2 ⟨h, ?_⟩, ?_⟩
    · unfold keepE
      rw [Bool.and_eq_true, List.contains_iff_mem, List.contains_iff_mem]
      exact ⟨List.mem_of_getElem? ha, List.mem_of_getElem? hb⟩
    · unfold posE
      rw [pos_at hs ha, pos_at hs hb]
theorem pos_lt {l : List Nat} (hs : l.Pairwise (· < ·)) {x : Nat} (h : x ∈ l) : l.countP (· < x) < l.length := by
  have := pos_mem hs h
  rcases Nat.lt_or_ge (l.countP (· < x)) l.length with h1 | h1
  · exact h1
  · rw [List.getElem?_eq_none h1] at this; cases this
theorem pos_inc {l : List Nat} (hs : l.Pairwise (· < ·)) {x y : Nat} (hx : x ∈ l) (hy : y ∈ l) (h : x < y) : l.countP (· < x) < l.countP (· < y) := by
  have g1 := pos_mem hs hx
  have g2 := pos_mem hs hy
  rcases Nat.lt_or_ge (l.countP (· < x)) (l.countP (· < y)) with h1 | h1
  · exact h1
  · exfalso
    rcases Nat.eq_or_lt_of_le h1 with h2 | h2
    · rw [h2, g1] at g2; injection g2; omega
    · have l1 := pos_lt hs hx
      have := List.pairwise_iff_getElem.1 hs _ _ (pos_lt hs hy) l1 h2
      rw [List.getElem?_eq_getElem l1] at g1
      rw [List.getElem?_eq_getElem (pos_lt hs hy)] at g2
      injection g1 with g1
      injection g2 with g2
      rw [g1, g2] at this
      omega
theorem ind_low {es : List (Nat × Nat)} {l : List Nat} (hs : l.Pairwise (· < ·)) : Low l.length (indM es l) := fun e he => by
  unfold indM at he
  obtain ⟨p, hp, rfl⟩ := List.mem_map.1 he
  have h2 := (List.mem_filter.1 hp).2
  unfold keepE at h2
  rw [Bool.and_eq_true, List.contains_iff_mem, List.contains_iff_mem] at h2
  exact ⟨pos_lt hs h2.1, pos_lt hs h2.2⟩
theorem ind_sorted {es : List (Nat × Nat)} {l : List Nat} (hs : l.Pairwise (· < ·)) (he : (cast es).Pairwise rE) : (cast (indM es l)).Pairwise rE := by
  unfold cast at he ⊢
  rw [List.pairwise_map] at he
  unfold indM
  rw [List.map_map, List.pairwise_map]
  refine List.Pairwise.imp_of_mem (fun {a b} ha hb h => ?_) (he.filter _)
  have h1 := (List.mem_filter.1 ha).2
  have h2 := (List.mem_filter.1 hb).2
  unfold keepE at h1 h2
  rw [Bool.and_eq_true, List.contains_iff_mem, List.contains_iff_mem] at h1 h2
  unfold rE at h ⊢
  simp only [Function.comp_apply, posE] at h ⊢
  rcases h with h | h
  · have := pos_inc hs h1.1 h2.1 (by omega)
    omega
  · have h3 := pos_inc hs h1.2 h2.2 (by omega)
    have h4 : a.1 = b.1 := by omega
    rw [h4]
    omega
theorem ind_make {n : Nat} {es : List (Nat × Nat)} {l : List Nat} (hg : Fine n es) (hi : incL (zs l) = true) : cast (makeL l.length (indM es l)) = cast (indM es l) := by
  have hs := inc_nat hi
  refine sorted_same (make_sorted _ _) (ind_sorted hs hg.sorted) fun x => ?_
  rw [cast_mem, cast_mem]
  constructor
  · rintro ⟨e, he, rfl⟩; exact ⟨e, (mem_make (ind_low hs)).1 he, rfl⟩
  · rintro ⟨e, he, rfl⟩; exact ⟨e, (mem_make (ind_low hs)).2 he, rfl⟩
set_option maxRecDepth 100000 in
set_option maxHeartbeats 8000000 in
theorem refInduced_ok (n : Nat) (A : Option Addr) (m c : Nat) (es : List (Nat × Nat)) (L : Option Addr) (d : Nat) (l : List Nat) (w : World) (h : EL w A m (cast es)) (hm : m ≤ 100000) (hL : IL w L (zs l)) (hll : l.length ≤ 64) (hi : incL (zs l) = true) :
    Calls Tryd.prog 48 #[gV n A m c, .slice L l.length d] w fun e w' => (∃ B cB, e = .returned (gV l.length B (makeL l.length (indM es l)).length cB) ∧ EL w' B (makeL l.length (indM es l)).length (cast (makeL l.length (indM es l)))) ∧ Below w.heap.size w w' := by
  obtain ⟨k, hk⟩ : ∃ k, l.length = k := ⟨_, rfl⟩
  obtain ⟨i0, hi0, hz0, hz1, hz2⟩ := info_parts info_pair
  have hs := inc_nat hi
  have HI := Lib.hid (fun a b x y ha hb => ind_has (es := es) (a := a) (b := b) (x := x) (y := y) hs ha hb)
  have k3 := ((Below.refl w.heap.size w).alloc (Nat.le_refl _) (.cells #[.int .i64 (n : Nat), .slice A m c] 35)).alloc (by simp) (.cells #[.int .i64 0, .slice none 0 0] 35)
  have k3 := k3.alloc (by simp; omega) (.cells #[.int .i64 (k : Nat), .slice none 0 0] 35)
  have G1 := (Cells.new w #[.int .i64 (n : Nat), .slice A m c] 35).keep ((Below.refl _ _).alloc (Nat.le_refl _) (.cells #[.int .i64 0, .slice none 0 0] 35))
  have G3p := G1.keep ((Below.refl _ _).alloc (Nat.le_refl _) (.cells #[.int .i64 (k : Nat), .slice none 0 0] 35))
  have X2 := Cells.new (w.alloc (.cells #[.int .i64 (n : Nat), .slice A m c] 35)) #[.int .i64 0, .slice none 0 0] 35
  have X3p := X2.keep ((Below.refl _ _).alloc (Nat.le_refl _) (.cells #[.int .i64 (k : Nat), .slice none 0 0] 35))
  have Z3p := Cells.new ((w.alloc (.cells #[.int .i64 (n : Nat), .slice A m c] 35)).alloc (.cells #[.int .i64 0, .slice none 0 0] 35)) #[.int .i64 (k : Nat), .slice none 0 0] 35
  simp only [World.size_alloc] at X3p Z3p
  have HH := Lib.hid (fun w' x y (hb : Below w.heap.size w w') => has_edge n A m c es x y w' (h.keep hb) (by omega))
  have L0 := Lib.hid (fun w' (hb : Below w.heap.size w w') => hL.keep hb)
  obtain ⟨is, his⟩ : ∃ is, indM es l = is := ⟨_, rfl⟩
  rw [his] at HI ⊢
  have Hzl := Lib.hid (show (zs l).length = k by rw [zs_len]; exact hk)
  rw [hk]
  rw [hk] at hll
  have G3 := Lib.hid G3p
  have X3 := Lib.hid X3p
  have Z3 := Lib.hid Z3p
  have K3 := Lib.hid k3
  clear h hL hs hi G1 X2 k3 his hk G3p X3p Z3p
  go_enter Tryd.func48, Tryd.ntmps48
  go_wp2_with fail
  have kb := K3.out
  have gb := G3.out
  have xb := X3.out
  have zb := Z3.out
  obtain ⟨w3, hw3⟩ : ∃ u, ((w.alloc (.cells #[.int .i64 (n : Nat), .slice A m c] 35)).alloc (.cells #[.int .i64 0, .slice none 0 0] 35)).alloc (.cells #[.int .i64 (k : Nat), .slice none 0 0] 35) = u := ⟨_, rfl⟩
  obtain ⟨p, hp⟩ : ∃ p, w.heap.size + 1 + 1 = p := ⟨_, rfl⟩
  rw [hw3] at kb gb xb zb
  rw [hp] at zb
  rw [hw3, hp]
  clear K3 G3 X3 Z3
  have K3 := Lib.hid kb
  have G3 := Lib.hid gb
  have X3 := Lib.hid xb
  have Z3 := Lib.hid zb
  have Hp := Lib.hid hp
  clear kb gb xb zb hw3 hp
  go_loopw [6, 7] (fun av _ wr => ∃ (a : Nat) (v : Value), av = .int .i64 (a : Nat) ∧ a ≤ k ∧ Cells wr p [.int .i64 (k : Nat), v] ∧ wr.ownsRow (p + 1) 55 2 v (parM k is a 0).length (flat (cast (parM k is a 0))) ∧ Below p w3 wr) (fun av _ _ => k - (intOf av).toNat)
  case atStart => exact ⟨0, _, rfl, Nat.zero_le _, Z3.out, World.ownsRow_nil _ _ _ _, Below.refl _ _⟩
  case round =>
    obtain ⟨a, v, rfl, ha, hz, hown, hb⟩ := hrel
    have Z6 := Lib.hid hz
    have O6 := Lib.hid hown
    have B6 := Lib.hid hb
    clear hz hown hb
    obtain ⟨wa, rfl⟩ : ∃ wa : World, wa = wr := ⟨_, rfl⟩
    by_cases hlt : a < k
    · have Hlt := Lib.hid hlt
      have hak : a * k ≤ 64 * 64 := Nat.mul_le_mul (by omega) (by omega)
      go_wp2_with fail
      clear hlt
      go_loopw [7] (fun jv wr => ∃ (j : Nat) (v : Value), jv = .int .i64 (j : Nat) ∧ j ≤ k ∧ Cells wr p [.int .i64 (k : Nat), v] ∧ wr.ownsRow (p + 1) 55 2 v (parM k is a j).length (flat (cast (parM k is a j))) ∧ Below p w3 wr) (fun jv _ => k - (intOf jv).toNat)
      case atStart => exact ⟨0, v, rfl, Nat.zero_le _, Z6.out, O6.out, B6.out⟩
      case round =>
        obtain ⟨j, v7, rfl, hj, hz, hown, hb⟩ := hrel
        have Z7 := Lib.hid hz
        have O7 := Lib.hid hown
        have B7 := Lib.hid hb
        have hpl := Z7.out.lt
        clear hz hown hb
        obtain ⟨wb, rfl⟩ : ∃ wb : World, wb = wr := ⟨_, rfl⟩
        by_cases hjk : j < k
        · have Hjk := Lib.hid hjk
          have Hst := Lib.hid (parM_step k is a j)
          have hpm := parM_len k is a j
          have Bw := K3.out.trans (B7.out.mono (by have := Hp.out; omega))
          obtain ⟨x, b, o, hx, hLe, _, c0⟩ := (L0.out wb Bw).at_ (k := a) (by rw [Hzl.out]; exact Hlt.out)
          obtain ⟨y, b2, o2, hy, hLe2, _, c1⟩ := (L0.out wb Bw).at_ (k := j) (by rw [Hzl.out]; exact hjk)
          subst hLe
          injection hLe2 with hLe2
          injection hLe2 with hb2 ho2
          subst hb2 ho2
          obtain ⟨x, hx1, rfl⟩ := zs_at hx
          obtain ⟨y, hy1, rfl⟩ := zs_at hy
          have y0 := (G3.out.keepB B7.out (by have := Hp.out; omega)).at_ 0
          have y1 := (G3.out.keepB B7.out (by have := Hp.out; omega)).at_ 1
          simp only [List.getElem?_cons_zero, List.getElem?_cons_succ] at y0 y1
          have HHk := HH.out wb.drew x y Bw.drew
          have hhe0 := HI.out a j x y hx1 hy1
          obtain ⟨hh, hhe⟩ : ∃ hh, hasE es x y = hh := ⟨_, rfl⟩
          rw [hhe] at HHk hhe0
          rw [hhe0] at Hst
          have HHk := Lib.hid HHk
          have ai : (a : Int) < (k : Int) := by have := Hlt.out; omega
          have ji : (j : Int) < (k : Int) := by omega
          clear hhe hhe0 hx hy hx1 hy1 Bw
          go_wp2_with fail
          go_still_tail 9, (by kernel_rfl)
          change wpList _ _ _ _ _ wb.drew
          go_wp2_with fail
          refine HHk.out.mono ?_
          rintro e w8 ⟨rfl, hb8⟩
          have Z8 := Lib.hid (Z7.out.drew.keep hb8)
          have O8 := Lib.hid (World.ownsRow.kept (World.ownsRow.kept O7.out (w' := wb.drew) (row := none) ⟨rfl, rfl, rfl, Nat.le_refl _, fun k hk _ => rfl⟩ (by cases Value.ownBlock _ <;> simp)) (row := none) ⟨hb8.os, hb8.tape, hb8.output, hb8.size, fun k hk _ => hb8.block k hk⟩ (by cases Value.ownBlock _ <;> simp))
          have B8 := Lib.hid (B7.out.drew.trans (hb8.mono (by show p ≤ wb.heap.size; omega)))
          have hs8 : wb.heap.size ≤ w8.heap.size := hb8.size
          clear hb8 y0 y1 c0 c1
          cases hh with
          | false =>
            rw [if_neg (by simp), List.append_nil] at Hst
            have O9 := Lib.hid (show w8.ownsRow (p + 1) 55 2 v7 (parM k is a (j + 1)).length (flat (cast (parM k is a (j + 1)))) by rw [Hst.out]; exact O8.out)
            go_wp2_with fail
            go_roundw
            case rel => exact ⟨j + 1, v7, by go_num, Hjk.out, Z8.out, O9.out, B8.out⟩
            case measure => simp [intOf]; have := Hjk.out; omega
          | true =>
            rw [if_pos rfl] at Hst
            have z0 := Z8.out.at_ 0
            have z1 := Z8.out.at_ 1
            simp only [List.getElem?_cons_zero, List.getElem?_cons_succ] at z0 z1
            have hp8 : p + 1 ≤ w8.heap.size := by omega
            go_wp2_with (at_builtin; refine wpList_append_own_wide _ rfl (.tmp 34) (.tmp 38) 33 rfl (p + 1) 55 i0 (.agg #[.int .i64 0, .int .i64 0]) 2 16 Tryd.underlying33 hi0 hz0 hz1 hz2 rfl (by decide) _ _ _ rfl (O8.out.alloc _) ⟨w8.heap.size, 0, none⟩ 1 1 [.int .i64 (a : Int), .int .i64 (j : Int)] rfl rfl ?c1 ?c2 ?c3 ?c4 ?c5 ?_)
            case c1 =>
              intro k u hu
              match k, hu with
              | 0, hu => simp at hu; subst hu; simp [Addr.add, go_sem]
              | 1, hu => simp at hu; subst hu; simp [Addr.add, go_sem]
            case c2 => intro u hu; simp at hu; rcases hu with rfl | rfl <;> rfl
            case c3 => unfold maxLen; omega
            case c4 => omega
            case c5 => simp; omega
            intro v' w9 hown' hgrow _
            have b9 := ((Below.refl (p + 1) w8).alloc hp8 (.cells #[.int .i64 (a : Int), .int .i64 (j : Int)] 55)).grown hgrow (by simp; omega) (fun k hk => own_ge O8.out hk)
            have Z9 := Z8.out.keepB b9 (Nat.lt_succ_self p)
            have x1 := Z9.at_ 1
            have f1 := Z9.fz 1
            simp only [List.getElem?_cons_zero, List.getElem?_cons_succ] at x1
            have Z10 := Lib.hid (Z9.set 1 v' (by simp))
            have O9 : w9.ownsRow (p + 1) 55 2 v' (parM k is a (j + 1)).length (flat (cast (parM k is a (j + 1)))) := by
              rw [Hst.out, List.length_append, cast_snoc, flat_snoc]; exact hown'
            have O10 := Lib.hid (ownsRow_setCell_below O9 (a := ⟨p, 1, none⟩) (Nat.lt_succ_self p) v')
            have B10 := Lib.hid ((B8.out.trans (b9.mono (Nat.le_succ p))).setCell (p := ⟨p, 1, none⟩) (Nat.le_refl _) v')
            obtain ⟨A9, c9, hv9, _, _⟩ := own_pairs (es := cast (parM k is a (j + 1))) (by rw [cast_len]; exact O9)
            rw [cast_len] at hv9
            subst hv9
            clear hown' hgrow b9 Z9 O9
            go_wp2_with fail
            go_roundw
            case rel => exact ⟨j + 1, _, by go_num, Hjk.out, Z10.out, O10.out, B10.out⟩
            case measure => simp [intOf]; have := Hjk.out; omega
        · have hjk' : j = k := by omega
          subst hjk'
          have Hnx := Lib.hid (parM_next j is a)
          have O8 := Lib.hid (show wb.ownsRow (p + 1) 55 2 v7 (parM j is (a + 1) 0).length (flat (cast (parM j is (a + 1) 0))) by rw [Hnx.out]; exact O7.out)
          go_wp2_with fail
          go_roundw
          case rel => exact ⟨a + 1, v7, by go_num, Hlt.out, Z7.out, O8.out, B7.out⟩
          case measure => simp [intOf]; have := Hlt.out; omega
    · have hak : a = k := by omega
      subst hak
      have Hend := Lib.hid (parM_end a is)
      have Of := O6.out
      rw [Hend.out] at Of
      have hcl : (cast (makeL a is)).length = (makeL a is).length := cast_len _
      rw [← hcl] at Of
      obtain ⟨B, cB, hv, hE, hBb⟩ := own_pairs Of
      rw [hcl] at hv hE
      subst hv
      have X6 := X3.out.keepB B6.out (show w.heap.size + 1 < p by have := Hp.out; omega)
      have z0 := Z6.out.at_ 0
      have z1 := Z6.out.at_ 1
      have x0 := X6.at_ 0
      have x1 := X6.at_ 1
      have f0 := X6.fz 0
      have f1 := X6.fz 1
      simp only [List.getElem?_cons_zero, List.getElem?_cons_succ] at z0 z1 x0 x1
      have X7 := Lib.hid ((X6.set 0 (.int .i64 (a : Nat)) (by simp)).set 1 (.slice B (makeL a is).length cB) (by simp))
      have E7 := Lib.hid (el_sets2 (q := w.heap.size + 1) hE (fun b o hb => .inl (by have := hBb b o hb; have := Hp.out; omega)) (.int .i64 (a : Nat)) (.slice B (makeL a is).length cB))
      have Bf := K3.out.trans (B6.out.mono (by have := Hp.out; omega))
      have B7 := Lib.hid ((Bf.setCell (p := ⟨w.heap.size + 1, 0, none⟩) (by simp) (.int .i64 (a : Nat))).setCell (p := ⟨w.heap.size + 1, 1, none⟩) (by simp) (.slice B (makeL a is).length cB))
      clear hcl hE hBb Of X6 Bf
      go_wp2_with fail
      exact bodyPost_ret (ret_ref1 rfl _ _ (w.heap.size + 1) _ _ rfl X7.out) rfl ⟨⟨B, cB, rfl, E7.out⟩, B7.out⟩
end Go.Proofs.YthocdmlacfejkaaDoor
