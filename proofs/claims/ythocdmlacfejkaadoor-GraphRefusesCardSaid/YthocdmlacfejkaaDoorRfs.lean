/- What the functions with nodes answer, of whatever graph, list and ends. -/
import Derived.Test.YthocdmlacfejkaaDoorGrh
import Derived.Test.YthocdmlacfejkaaDoorRin
import Derived.Test.YthocdmlacfejkaaDoorRnd
import Derived.Test.YthocdmlacfejkaaDoorGpt
namespace Go.Proofs.YthocdmlacfejkaaDoor
open Go.RowKit
/-- The error of a graph and a list of its nodes. -/
def wantN (n : Int) (es : List (Int × Int)) (l : List Int) : Int := if checkG n es = 0 then errN n.toNat l else checkG n es
def offE (n a b : Int) : Bool := decide (a < 0) || decide (n ≤ a) || decide (b < 0) || decide (n ≤ b)
/-- The error of a graph and two of its nodes. -/
def wantP (n : Int) (es : List (Int × Int)) (a b : Int) : Int := if checkG n es = 0 then (if offE n a b then 2 else 0) else checkG n es
set_option maxRecDepth 100000 in
set_option maxHeartbeats 8000000 in
theorem reach_bad (n : Int) (A : Option Addr) (m c : Nat) (es : List (Int × Int)) (v : Value) (w : World) (h : EL w A m es) (hm : m ≤ 4611686018427387904) (hd : checkG n es ≠ 0) :
    Calls Tryd.prog 33 #[gV n A m c, v] w fun e w' => e = .returned (.tuple #[.slice none 0 0, .int .i64 (checkG n es)]) ∧ Below w.heap.size w w' := by
  have kv := ((Below.refl w.heap.size w).alloc (Nat.le_refl _) (.cells #[.int .i64 n, .slice A m c] 26))
  have HC := Lib.hid (nodes_bad n A m c es v _ (h.keep kv) hm hd)
  have G0 := Lib.hid (Cells.new w #[.int .i64 n, .slice A m c] 26)
  have kv := Lib.hid kv
  obtain ⟨d, hd0⟩ : ∃ d, checkG n es = d := ⟨_, rfl⟩
  rw [hd0] at HC hd ⊢
  have t0 : (d != 0) = true := by simpa using hd
  have t1 : ¬ d = 0 := hd
  clear h hm hd hd0
  go_enter Tryd.func33, Tryd.ntmps33
  go_wp2_with fail
  refine HC.out.mono ?_
  rintro e w1 ⟨rfl, hb1⟩
  have G1 := Lib.hid (G0.out.keep hb1)
  have B1 := Lib.hid (below_on kv.out hb1)
  have g0 := G1.out.at_ 0
  have g1 := G1.out.at_ 1
  simp only [List.getElem?_cons_zero, List.getElem?_cons_succ] at g0 g1
  clear hb1
  go_wp2_with fail
  go_ret2
  exact ⟨rfl, B1.out⟩
set_option maxRecDepth 100000 in
set_option maxHeartbeats 8000000 in
theorem closed_bad (n : Int) (A : Option Addr) (m c : Nat) (es : List (Int × Int)) (v : Value) (w : World) (h : EL w A m es) (hm : m ≤ 4611686018427387904) (hd : checkG n es ≠ 0) :
    Calls Tryd.prog 35 #[gV n A m c, v] w fun e w' => e = .returned (.tuple #[.bool false, .int .i64 (checkG n es)]) ∧ Below w.heap.size w w' := by
  have kv := ((Below.refl w.heap.size w).alloc (Nat.le_refl _) (.cells #[.int .i64 n, .slice A m c] 26))
  have HC := Lib.hid (nodes_bad n A m c es v _ (h.keep kv) hm hd)
  have G0 := Lib.hid (Cells.new w #[.int .i64 n, .slice A m c] 26)
  have kv := Lib.hid kv
  obtain ⟨d, hd0⟩ : ∃ d, checkG n es = d := ⟨_, rfl⟩
  rw [hd0] at HC hd ⊢
  have t0 : (d != 0) = true := by simpa using hd
  have t1 : ¬ d = 0 := hd
  clear h hm hd hd0
  go_enter Tryd.func35, Tryd.ntmps35
  go_wp2_with fail
  refine HC.out.mono ?_
  rintro e w1 ⟨rfl, hb1⟩
  have G1 := Lib.hid (G0.out.keep hb1)
  have B1 := Lib.hid (below_on kv.out hb1)
  have g0 := G1.out.at_ 0
  have g1 := G1.out.at_ 1
  simp only [List.getElem?_cons_zero, List.getElem?_cons_succ] at g0 g1
  have B2 := Lib.hid (B1.out.alloc B1.out.size (.cells #[.int .u64 0] 98))
  clear hb1
  go_wp2_with fail
  go_ret2
  exact ⟨rfl, B2.out⟩
set_option maxRecDepth 100000 in
set_option maxHeartbeats 8000000 in
theorem path_bad (n : Int) (A : Option Addr) (m c : Nat) (es : List (Int × Int)) (a b : Int) (w : World) (h : EL w A m es) (hm : m ≤ 4611686018427387904) (hd : checkG n es ≠ 0) :
    Calls Tryd.prog 36 #[gV n A m c, .int .i64 a, .int .i64 b] w fun e w' => e = .returned (.tuple #[.slice none 0 0, .int .i64 (checkG n es)]) ∧ Below w.heap.size w w' := by
  have kv := ((Below.refl w.heap.size w).alloc (Nat.le_refl _) (.cells #[.int .i64 n, .slice A m c] 26))
  have HC := Lib.hid (check_any n A m c es  _ (h.keep kv) hm)
  have G0 := Lib.hid (Cells.new w #[.int .i64 n, .slice A m c] 26)
  have kv := Lib.hid kv
  obtain ⟨d, hd0⟩ : ∃ d, checkG n es = d := ⟨_, rfl⟩
  rw [hd0] at HC hd ⊢
  have t0 : (d != 0) = true := by simpa using hd
  have t1 : ¬ d = 0 := hd
  clear h hm hd hd0
  go_enter Tryd.func36, Tryd.ntmps36
  go_wp2_with fail
  refine HC.out.mono ?_
  rintro e w1 ⟨rfl, hb1⟩
  have G1 := Lib.hid (G0.out.keep hb1)
  have B1 := Lib.hid (below_on kv.out hb1)
  have g0 := G1.out.at_ 0
  have g1 := G1.out.at_ 1
  simp only [List.getElem?_cons_zero, List.getElem?_cons_succ] at g0 g1
  clear hb1
  go_wp2_with fail
  go_ret2
  exact ⟨rfl, B1.out⟩
set_option maxRecDepth 100000 in
set_option maxHeartbeats 8000000 in
theorem path_off (n : Nat) (A : Option Addr) (m c : Nat) (es : List (Nat × Nat)) (a b : Int) (w : World) (h : EL w A m (cast es)) (hg : Fine n es) (ho : offE n a b = true) :
    Calls Tryd.prog 36 #[gV n A m c, .int .i64 a, .int .i64 b] w fun e w' => e = .returned (.tuple #[.slice none 0 0, .int .i64 2]) ∧ Below w.heap.size w w' := by
  have hlen := h.len
  have hm : m ≤ 4096 := by have := hg.len; omega
  have kv := (Below.refl w.heap.size w).alloc (Nat.le_refl _) (.cells #[.int .i64 (n : Nat), .slice A m c] 26)
  have G0 := Lib.hid (Cells.new w #[.int .i64 (n : Nat), .slice A m c] 26)
  have HC := check_any (n : Int) A m c (cast es) (w.alloc (.cells #[.int .i64 (n : Nat), .slice A m c] 26)) (h.keep kv) (by omega)
  rw [hg.check] at HC
  have HC := Lib.hid HC
  have kv := Lib.hid kv
  clear h hg hlen
  unfold offE at ho
  go_enter Tryd.func36, Tryd.ntmps36
  go_wp2_with fail
  refine HC.out.mono ?_
  rintro e w1 ⟨rfl, hb1⟩
  have G1 := Lib.hid (G0.out.keep hb1)
  have B1 := Lib.hid (below_on kv.out hb1)
  have g0 := G1.out.at_ 0
  have g1 := G1.out.at_ 1
  simp only [List.getElem?_cons_zero, List.getElem?_cons_succ] at g0 g1
  clear hb1
  by_cases h0 : a < 0
  · have t0 : decide (a < 0) = true := decide_eq_true h0
    clear ho
    go_wp2_with fail
    go_ret2
    exact ⟨rfl, B1.out⟩
  · have t0 : decide (a < 0) = false := decide_eq_false h0
    by_cases h1 : (n : Int) ≤ a
    · have t1 : decide ((n : Int) ≤ a) = true := decide_eq_true h1
      clear ho
      go_wp2_with fail
      go_ret2
      exact ⟨rfl, B1.out⟩
    · have t1 : decide ((n : Int) ≤ a) = false := decide_eq_false h1
      by_cases h2 : b < 0
      · have t2 : decide (b < 0) = true := decide_eq_true h2
        clear ho
        go_wp2_with fail
        go_ret2
        exact ⟨rfl, B1.out⟩
      · have t2 : decide (b < 0) = false := decide_eq_false h2
        by_cases h3 : (n : Int) ≤ b
        · have t3 : decide ((n : Int) ≤ b) = true := decide_eq_true h3
          clear ho
          go_wp2_with fail
          go_ret2
          exact ⟨rfl, B1.out⟩
        · have t3 : decide ((n : Int) ≤ b) = false := decide_eq_false h3
          exfalso
          simp [t0, t1, t2, t3] at ho
set_option maxRecDepth 100000 in
set_option maxHeartbeats 8000000 in
theorem induced_no (n : Nat) (A : Option Addr) (m c : Nat) (es : List (Nat × Nat)) (B : Option Addr) (d : Nat) (l : List Int) (w : World) (h : EL w A m (cast es)) (hg : Fine n es) (hl : IL w B l) (hll : l.length ≤ 1000000) (hd : errN n l ≠ 0) :
    Calls Tryd.prog 26 #[gV n A m c, .slice B l.length d] w fun e w' => e = .returned (.tuple #[gV 0 none 0 0, .int .i64 (errN n l)]) ∧ Below w.heap.size w w' := by
  have kv := ((Below.refl w.heap.size w).alloc (Nat.le_refl _) (.cells #[.int .i64 (n : Nat), .slice A m c] 26)).alloc (by simp) (.cells #[.int .i64 0, .slice none 0 0] 26)
  have HC := checkNodes_any n A m c es B d l _ (h.keep kv) hg (hl.keep kv) hll
  unfold NdsPost at HC
  have G0 := Lib.hid ((Cells.new w #[.int .i64 (n : Nat), .slice A m c] 26).keep ((Below.refl _ _).alloc (Nat.le_refl _) (.cells #[.int .i64 0, .slice none 0 0] 26)))
  have X0 := Cells.new (w.alloc (.cells #[.int .i64 (n : Nat), .slice A m c] 26)) #[.int .i64 0, .slice none 0 0] 26
  simp only [World.size_alloc] at X0
  have X0 := Lib.hid X0
  have kv := Lib.hid kv
  obtain ⟨q, hd0⟩ : ∃ q, errN n l = q := ⟨_, rfl⟩
  rw [hd0] at HC hd ⊢
  have HC := Lib.hid HC
  have t0 : (q != 0) = true := by simpa using hd
  have t1 : ¬ q = 0 := hd
  clear h hd hd0 hl hg
  go_enter Tryd.func26, Tryd.ntmps26
  go_wp2_with fail
  refine HC.out.mono ?_
  rintro e w1 ⟨hc, hb1⟩
  rcases hc with ⟨_, rfl⟩ | ⟨hno, _⟩
  case inr => exact absurd hno t1
  have G1 := Lib.hid (G0.out.keep hb1)
  have X1 := Lib.hid (X0.out.keep hb1)
  have B1 := Lib.hid (below_on kv.out hb1)
  have g0 := G1.out.at_ 0
  have g1 := G1.out.at_ 1
  have x0 := X1.out.at_ 0
  have x1 := X1.out.at_ 1
  have f0 := X1.out.fz 0
  have f1 := X1.out.fz 1
  simp only [List.getElem?_cons_zero, List.getElem?_cons_succ] at g0 g1 x0 x1
  have X2 := Lib.hid ((X1.out.set 0 (.int .i64 0) (by simp)).set 1 (.slice none 0 0) (by simp))
  have B2 := Lib.hid ((B1.out.setCell (p := ⟨w.heap.size + 1, 0, none⟩) (by simp) (.int .i64 0)).setCell (p := ⟨w.heap.size + 1, 1, none⟩) (by simp) (.slice none 0 0))
  clear hb1
  go_wp2_with fail
  exact bodyPost_ret (ret_graph rfl _ _ (w.heap.size + 1) _ _ rfl X2.out) rfl ⟨rfl, B2.out⟩
theorem wantN_bad {n : Int} {es : List (Int × Int)} (l : List Int) (h : checkG n es ≠ 0) : wantN n es l = checkG n es := if_neg h
theorem wantN_ok {n : Nat} {es : List (Int × Int)} (l : List Int) (h : checkG (n : Int) es = 0) : wantN n es l = errN n l := by unfold wantN; rw [if_pos h, Int.toNat_natCast]
theorem errN_nat {n : Nat} {l : List Int} (h : errN n l = 0) : ∃ k : List Nat, l = zs k := by
  have hall : l.all (inN n) = true := by
    unfold errN at h
    cases e : l.all (inN n) with
    | true => rfl
    | false => rw [e] at h; simp at h
  refine ⟨l.map Int.toNat, ?_⟩
  unfold zs
  rw [List.map_map, List.map_congr_left (g := id) fun x hx => ?_, List.map_id]
  have := List.all_eq_true.1 hall x hx
  unfold inN at this
  simp only [Bool.and_eq_true, decide_eq_true_eq] at this
  simp only [Function.comp_apply, id]
  show ((x.toNat : Nat) : Int) = x
  omega
theorem reachU (n : Int) (A : Option Addr) (m c : Nat) (es : List (Int × Int)) (B : Option Addr) (d : Nat) (l : List Int) (w : World) (h : EL w A m es) (hm : m ≤ 4611686018427387904) (hl : IL w B l) (hll : l.length ≤ 1000000) (hw : Good w) :
    Calls Tryd.prog 33 #[gV n A m c, .slice B l.length d] w fun e w' => ∃ A' q c', e = .returned (.tuple #[.slice A' q c', .int .i64 (wantN n es l)]) ∧ (wantN n es l ≠ 0 → q = 0) ∧ Below w.heap.size w w' := by
  by_cases hd : checkG n es = 0
  · obtain ⟨k, e, rfl, rfl, hf⟩ := fine_of hd
    rw [wantN_ok l hd]
    refine (reachG_any k A m c e B d l w h hf hl hll hw).mono fun e w' ⟨hc, hb⟩ => ?_
    rcases hc with ⟨_, rfl⟩ | ⟨h0, v, rfl, hown⟩
    · exact ⟨none, 0, 0, rfl, fun _ => rfl, hb⟩
    · obtain ⟨A', c', rfl, _, _, _⟩ := own_nats hown
      exact ⟨A', _, c', by rw [h0], fun h => absurd h0 h, hb⟩
  · rw [wantN_bad l hd]
    exact (reach_bad n A m c es _ w h hm hd).mono fun e w' ⟨h1, h2⟩ => ⟨none, 0, 0, h1, fun _ => rfl, h2⟩
theorem closedU (n : Int) (A : Option Addr) (m c : Nat) (es : List (Int × Int)) (B : Option Addr) (d : Nat) (l : List Int) (w : World) (h : EL w A m es) (hm : m ≤ 4611686018427387904) (hl : IL w B l) (hll : l.length ≤ 1000000) :
    Calls Tryd.prog 35 #[gV n A m c, .slice B l.length d] w fun e w' => ∃ b, e = .returned (.tuple #[.bool b, .int .i64 (wantN n es l)]) ∧ Below w.heap.size w w' := by
  by_cases hd : checkG n es = 0
  · obtain ⟨k, e, rfl, rfl, hf⟩ := fine_of hd
    rw [wantN_ok l hd]
    refine (closedG_any k A m c e B d l w h hf hl hll).mono fun e w' ⟨hc, hb⟩ => ?_
    rcases hc with ⟨_, rfl⟩ | ⟨h0, rfl⟩
    · exact ⟨false, rfl, hb⟩
    · exact ⟨_, by rw [h0], hb⟩
  · rw [wantN_bad l hd]
    exact (closed_bad n A m c es _ w h hm hd).mono fun e w' ⟨h1, h2⟩ => ⟨false, h1, h2⟩
theorem inducedU (n : Int) (A : Option Addr) (m c : Nat) (es : List (Int × Int)) (B : Option Addr) (d : Nat) (l : List Int) (w : World) (h : EL w A m es) (hm : m ≤ 4611686018427387904) (hl : IL w B l) (hll : l.length ≤ 1000) :
    Calls Tryd.prog 26 #[gV n A m c, .slice B l.length d] w fun e w' => ∃ x A' q c', e = .returned (.tuple #[gV x A' q c', .int .i64 (wantN n es l)]) ∧ (wantN n es l ≠ 0 → x = 0 ∧ q = 0) ∧ Below w.heap.size w w' := by
  by_cases hd : checkG n es = 0
  · obtain ⟨k, e, rfl, rfl, hf⟩ := fine_of hd
    rw [wantN_ok l hd]
    by_cases h0 : errN k l = 0
    · obtain ⟨l, rfl⟩ := errN_nat h0
      rw [zs_len] at hll ⊢
      refine (induced_any k A m c e B d l w h hf hl hll h0).mono fun e w' ⟨⟨B', c', h1, _⟩, h2⟩ => ?_
      exact ⟨_, B', _, c', by rw [h0]; exact h1, fun h => absurd h0 h, h2⟩
    · exact (induced_no k A m c e B d l w h hf hl (by omega) h0).mono fun e w' ⟨h1, h2⟩ => ⟨0, none, 0, 0, h1, fun _ => ⟨rfl, rfl⟩, h2⟩
  · rw [wantN_bad l hd]
    exact (induced_bad n A m c es _ w h hm hd).mono fun e w' ⟨h1, h2⟩ => ⟨0, none, 0, 0, h1, fun _ => ⟨rfl, rfl⟩, h2⟩
theorem pathU (n : Int) (A : Option Addr) (m c : Nat) (es : List (Int × Int)) (a b : Int) (w : World) (h : EL w A m es) (hm : m ≤ 4611686018427387904) (hw : Good w) :
    Calls Tryd.prog 36 #[gV n A m c, .int .i64 a, .int .i64 b] w fun e w' => ∃ A' q c' x, e = .returned (.tuple #[.slice A' q c', .int .i64 x]) ∧ (wantP n es a b ≠ 0 → x = wantP n es a b ∧ q = 0) ∧ (wantP n es a b = 0 → x = 0 ∨ x = 10) ∧ Below w.heap.size w w' := by
  unfold wantP
  by_cases hd : checkG n es = 0
  · rw [if_pos hd]
    obtain ⟨k, e, rfl, rfl, hf⟩ := fine_of hd
    cases ho : offE k a b with
    | true => exact (path_off k A m c e a b w h hf ho).mono fun e w' ⟨h1, h2⟩ => ⟨none, 0, 0, 2, h1, fun _ => ⟨rfl, rfl⟩, fun h => (by cases h), h2⟩
    | false =>
      unfold offE at ho
      simp only [Bool.or_eq_false_iff, decide_eq_false_iff_not] at ho
      obtain ⟨x, rfl⟩ : ∃ x : Nat, a = x := ⟨a.toNat, by omega⟩
      obtain ⟨y, rfl⟩ : ∃ y : Nat, b = y := ⟨b.toNat, by omega⟩
      refine (path_one k A m c e x y w h hf (by omega) (by omega) hw).mono fun e w' ⟨⟨A', c', h1, _⟩, h2⟩ => ⟨A', _, c', _, h1, fun h => absurd rfl h, fun _ => ?_, h2⟩
      unfold pthE
      split
      · exact .inr rfl
      · exact .inl rfl
  · rw [if_neg hd]
    exact (path_bad n A m c es a b w h hm hd).mono fun e w' ⟨h1, h2⟩ => ⟨none, 0, 0, _, h1, fun _ => ⟨rfl, rfl⟩, fun h => absurd h hd, h2⟩
theorem nbU (n : Int) (A : Option Addr) (m c : Nat) (es : List (Int × Int)) (a b : Int) (w : World) (h : EL w A m es) (hw : Good w) (h0 : wantP n es a b = 0) :
    (Calls Tryd.prog 37 #[gV n A m c, .int .i64 a] w fun e w' => ∃ A' q c', e = .returned (.tuple #[.slice A' q c', .int .i64 0]) ∧ Below w.heap.size w w') ∧
    (Calls Tryd.prog 38 #[gV n A m c, .int .i64 b] w fun e w' => ∃ A' q c', e = .returned (.tuple #[.slice A' q c', .int .i64 0]) ∧ Below w.heap.size w w') := by
  unfold wantP at h0
  by_cases hd : checkG n es = 0
  · rw [if_pos hd] at h0
    obtain ⟨k, e, rfl, rfl, hf⟩ := fine_of hd
    cases ho : offE k a b with
    | true => rw [ho] at h0; cases h0
    | false =>
      unfold offE at ho
      simp only [Bool.or_eq_false_iff, decide_eq_false_iff_not] at ho
      obtain ⟨x, rfl⟩ : ∃ x : Nat, a = x := ⟨a.toNat, by omega⟩
      obtain ⟨y, rfl⟩ : ∃ y : Nat, b = y := ⟨b.toNat, by omega⟩
      exact ⟨(tree_any k A m c e x w h hf (by omega) hw).mono fun e w' ⟨⟨g, h1, _⟩, h2⟩ => ⟨_, _, _, h1, h2⟩, (back_any k A m c e y w h hf (by omega) hw).mono fun e w' ⟨⟨g, h1, _⟩, h2⟩ => ⟨_, _, _, h1, h2⟩⟩
  · rw [if_neg hd] at h0; exact absurd h0 hd
end Go.Proofs.YthocdmlacfejkaaDoor
