/- Path. -/
import Derived.Test.YthocdmlacfejkaaDoorWlk
import Derived.Test.YthocdmlacfejkaaDoorChk2
namespace Go.Proofs.YthocdmlacfejkaaDoor
open Go.RowKit
theorem wpList_store_new {P : Program} {ops : Array Oper} {rest : List Oper} {o : Oper} {a : Act} {w : World} {Q : Exit → Act → World → Prop} (hgd : o.guard = none) (ty : TypeId) (x y : Operand) (ho : o.op = .store ty x y)
    (cells : Array Value) (T : TypeId) (old : Array Value) (hx : a.eval x = .pointer (some ⟨w.heap.size, 0, none⟩)) (hy : a.eval y = .agg cells) (hi : (P.info? ty).map (·.size) = some cells.size)
    (hold : old.size = cells.size) (h1 : cells.all (·.oneCell') = true) (h : wpList P ops Q rest (a.put o.dst undef) (w.alloc (.cells cells T))) : wpList P ops Q (o :: rest) a (w.alloc (.cells old T)) :=
  wpList_store_row hgd ty x y ho w.heap.size cells hx hy T old (heap_new w _) hi hold h1 (by rw [World.setRow_alloc_new]; exact h)
theorem dist_down {es : List (Nat × Nat)} (_hl : Low 64 es) {s a k : Nat} (h : dist (adjR es) s a = ((k + 1 : Nat) : Int)) : ∃ n, n ∈ bitsOf (adj es a) ∧ dist (adjR es) s n = (k : Int) := by
  obtain ⟨h1, h2, h3⟩ := distTo_iff.1 h
  have h4 := h3 k (Nat.lt_succ_self k)
  rw [lev, Nat.testBit_or, h4, Bool.false_or] at h2
  obtain ⟨n, hn, h5, h6⟩ := step_bit.1 h2
  have he := adjR_bit.1 h6
  refine ⟨n, mem_bitsOf.2 ⟨hn, adj_bit.2 he⟩, distTo_iff.2 ⟨by omega, h5, fun i hi => ?_⟩⟩
  cases e : (lev (adjR es) s i).testBit n with
  | false => rfl
  | true =>
    have : (lev (adjR es) s (i + 1)).testBit a = true := by
      rw [lev, Nat.testBit_or, Bool.or_eq_true, step_bit]
      exact .inr ⟨n, hn, e, h6⟩
    rw [h3 (i + 1) (by omega)] at this
    cases this
theorem dist_bd (L : Nat → Nat) (s n : Nat) : -1 ≤ dist L s n ∧ dist L s n ≤ 65 := by
  have := distTo_bd L s 65 n
  unfold dist
  omega
/-- A graph without an error. -/
structure Fine (n : Nat) (es : List (Nat × Nat)) : Prop where
  check : checkG (n : Int) (cast es) = 0
  low : Low n es
  n64 : n ≤ 64
  len : es.length ≤ 4096
theorem Fine.low64 {n : Nat} {es : List (Nat × Nat)} (h : Fine n es) : Low 64 es := fun e he => ⟨Nat.lt_of_lt_of_le (h.low e he).1 h.n64, Nat.lt_of_lt_of_le (h.low e he).2 h.n64⟩
theorem cast_len (es : List (Nat × Nat)) : (cast es).length = es.length := by unfold cast; simp
theorem EL.len {w : World} {A : Option Addr} {m : Nat} {es : List (Nat × Nat)} (h : EL w A m (cast es)) : es.length = m := by rw [← cast_len]; exact h.1
theorem fine_of {n : Int} {es : List (Int × Int)} (h : checkG n es = 0) : ∃ (k : Nat) (l : List (Nat × Nat)), n = k ∧ es = cast l ∧ Fine k l := by
  have h0 := h
  unfold checkG at h
  by_cases h1 : n < 0 ∨ 64 < n
  · rw [if_pos h1] at h; cases h
  · rw [if_neg h1] at h
    by_cases h2 : n * n < es.length
    · rw [if_pos h2] at h; cases h
    · rw [if_neg h2] at h
      by_cases h3 : es.all (okE n) = false
      · rw [if_pos h3] at h; cases h
      · rw [Bool.not_eq_false, List.all_eq_true] at h3
        have h4 : ∀ e ∈ es, 0 ≤ e.1 ∧ e.1 < n ∧ 0 ≤ e.2 ∧ e.2 < n := fun e he => by
          have := h3 e he
          simp only [okE, Bool.and_eq_true, decide_eq_true_eq] at this
          omega
        have hc : es = cast (es.map fun e => (e.1.toNat, e.2.toNat)) := by
          unfold cast
          rw [List.map_map]
          conv => lhs; rw [← List.map_id es]
          apply List.map_congr_left
          intro e he
          obtain ⟨a, _, b, _⟩ := h4 e he
          obtain ⟨x, y⟩ := e
          simp at a b ⊢
          omega
        obtain ⟨q0, q1⟩ := sq_bd (n := n) (by omega) (by omega)
        refine ⟨n.toNat, _, by omega, hc, ?_, ?_, by omega, by rw [List.length_map]; omega⟩
        · rw [← hc, show ((n.toNat : Nat) : Int) = n by omega]; exact h0
        · intro e he
          obtain ⟨x, hx, rfl⟩ := List.mem_map.1 he
          have := h4 x hx
          exact ⟨by simp; omega, by simp; omega⟩
set_option maxRecDepth 100000 in
set_option maxHeartbeats 8000000 in
theorem path_no (n : Nat) (A : Option Addr) (m c : Nat) (es : List (Nat × Nat)) (a b : Nat) (w : World) (h : EL w A m (cast es)) (hg : Fine n es) (ha : a < n) (hb : b < n) (hd : dist (adjR es) (sing b) a < 0) (hw : Good w) :
    Calls Tryd.prog 36 #[gV n A m c, .int .i64 a, .int .i64 b] w fun e w' => e = .returned (.tuple #[.slice none 0 0, .int .i64 10]) ∧ Below w.heap.size w w' := by
  have hlen := h.len
  have hm : m ≤ 4096 := by have := hg.len; omega
  have hn64 := hg.n64
  have kv := (Below.refl w.heap.size w).alloc (Nat.le_refl _) (.cells #[.int .i64 (n : Nat), .slice A m c] 26)
  have G0 := Lib.hid (Cells.new w #[.int .i64 (n : Nat), .slice A m c] 26)
  have HC := check_any (n : Int) A m c (cast es) (w.alloc (.cells #[.int .i64 (n : Nat), .slice A m c] 26)) (h.keep kv) (by omega)
  rw [hg.check] at HC
  have HC := Lib.hid HC
  have HD := Lib.hid (fun w' (hb' : Below w.heap.size w w') => distances_any n A m c es b w' (h.keep hb') hg.low64 hm (by omega) (hw.below hb' hw.size))
  have kv := Lib.hid kv
  obtain ⟨D, hD⟩ : ∃ D, dist (adjR es) (sing b) = D := ⟨_, rfl⟩
  rw [hD] at HD hd
  have t1 : decide ((a : Int) < 0) = false := decide_eq_false (by omega)
  have t2 : decide ((n : Int) ≤ (a : Int)) = false := decide_eq_false (by omega)
  have t3 : decide ((b : Int) < 0) = false := decide_eq_false (by omega)
  have t4 : decide ((n : Int) ≤ (b : Int)) = false := decide_eq_false (by omega)
  have hai : (a : Int) < 64 := by omega
  have ha64 : a < 64 := by omega
  clear h hg hw hD hlen
  go_enter Tryd.func36, Tryd.ntmps36
  go_wp2_with fail
  refine HC.out.mono ?_
  rintro e w1 ⟨rfl, hb1⟩
  have G1 := Lib.hid (G0.out.keep hb1)
  have B1 := Lib.hid (below_on kv.out hb1)
  have g0 := G1.out.at_ 0
  have g1 := G1.out.at_ 1
  simp only [List.getElem?_cons_zero, List.getElem?_cons_succ] at g0 g1
  clear hb1
  go_wp2_with fail
  refine (HD.out _ B1.out).mono ?_
  rintro e w2 ⟨rfl, hb2⟩
  have B2 := Lib.hid (below_on B1.out hb2)
  have R2 := Lib.hid (Cells.new w2 (nums D).toArray 112)
  have z0 := (R2.out.at_ a).trans (by simpa using nums_at D ha64)
  have B3 := Lib.hid (B2.out.alloc B2.out.size (.cells (nums D).toArray 112))
  have td : decide (D a < 0) = true := decide_eq_true hd
  clear hb2 g0 g1
  go_wp2_with (refine wpList_store_new rfl 112 (.tmp 9) (.tmp 35) rfl (nums D).toArray 112 _ rfl rfl (by rw [info_nums]; simp [nums_len]) (by simp [nums_len]) (nums_one _) ?_)
  go_ret2
  exact ⟨rfl, B3.out⟩
set_option maxRecDepth 100000 in
set_option maxHeartbeats 8000000 in
theorem path_yes (n : Nat) (A : Option Addr) (m c : Nat) (es : List (Nat × Nat)) (a b d : Nat) (w : World) (h : EL w A m (cast es)) (hg : Fine n es) (ha : a < n) (hb : b < n) (hd : dist (adjR es) (sing b) a = (d : Int)) (hw : Good w) :
    Calls Tryd.prog 36 #[gV n A m c, .int .i64 a, .int .i64 b] w fun e w' => ∃ v, e = .returned (.tuple #[v, .int .i64 0]) ∧ w'.ownsRow w.heap.size 3 1 v (wayM (adj es) (dist (adjR es) (sing b)) d a).length (nats (wayM (adj es) (dist (adjR es) (sing b)) d a)) ∧ Below w.heap.size w w' := by
  have hlen := h.len
  have hm : m ≤ 4096 := by have := hg.len; omega
  have hn64 := hg.n64
  have hd64 : d ≤ 64 := by have := distTo_bd (adjR es) (sing b) 65 a; unfold dist at hd; omega
  have kv := (Below.refl w.heap.size w).alloc (Nat.le_refl _) (.cells #[.int .i64 (n : Nat), .slice A m c] 26)
  have G0 := Lib.hid (Cells.new w #[.int .i64 (n : Nat), .slice A m c] 26)
  have HC := check_any (n : Int) A m c (cast es) (w.alloc (.cells #[.int .i64 (n : Nat), .slice A m c] 26)) (h.keep kv) (by omega)
  rw [hg.check] at HC
  have HC := Lib.hid HC
  have HD := Lib.hid (fun w' (hb' : Below w.heap.size w w') => distances_any n A m c es b w' (h.keep hb') hg.low64 hm (by omega) (hw.below hb' hw.size))
  have HWk := Lib.hid (fun w' (hb' : Below w.heap.size w w') => walk_any n A m c es (dist (adjR es) (sing b)) a d w' (h.keep hb') hg.low64 hm (by omega) hd hd64 (fun _ _ _ hk => dist_down hg.low64 hk) (dist_bd _ _) (hw.below hb' hw.size))
  have kv := Lib.hid kv
  obtain ⟨D, hD⟩ : ∃ D, dist (adjR es) (sing b) = D := ⟨_, rfl⟩
  rw [hD] at HD hd HWk ⊢
  have Hdd := Lib.hid hd
  have t1 : decide ((a : Int) < 0) = false := decide_eq_false (by omega)
  have t2 : decide ((n : Int) ≤ (a : Int)) = false := decide_eq_false (by omega)
  have t3 : decide ((b : Int) < 0) = false := decide_eq_false (by omega)
  have t4 : decide ((n : Int) ≤ (b : Int)) = false := decide_eq_false (by omega)
  have hai : (a : Int) < 64 := by omega
  have ha64 : a < 64 := by omega
  clear h hg hw hD hlen hd
  go_enter Tryd.func36, Tryd.ntmps36
  go_wp2_with fail
  refine HC.out.mono ?_
  rintro e w1 ⟨rfl, hb1⟩
  have G1 := Lib.hid (G0.out.keep hb1)
  have B1 := Lib.hid (below_on kv.out hb1)
  have g0 := G1.out.at_ 0
  have g1 := G1.out.at_ 1
  simp only [List.getElem?_cons_zero, List.getElem?_cons_succ] at g0 g1
  clear hb1
  go_wp2_with fail
  refine (HD.out _ B1.out).mono ?_
  rintro e w2 ⟨rfl, hb2⟩
  have B2 := Lib.hid (below_on B1.out hb2)
  have R2 := Lib.hid (Row.new w2 112 (nums D))
  have z0 := (R2.out.cells.at_ a).trans (nums_at D ha64)
  rw [Hdd.out] at z0
  have B3 := Lib.hid (B2.out.alloc B2.out.size (.cells (nums D).toArray 112))
  have G3 := Lib.hid ((G1.out.keep hb2).keep ((Below.refl _ _).alloc (Nat.le_refl _) (.cells (nums D).toArray 112)))
  obtain ⟨w3, hw3⟩ : ∃ u, w2.alloc (.cells (nums D).toArray 112) = u := ⟨_, rfl⟩
  obtain ⟨p3, hp3⟩ : ∃ p, w2.heap.size = p := ⟨_, rfl⟩
  rw [hw3] at R2 z0 B3 G3
  rw [hp3] at R2 z0
  have td : decide ((d : Int) < 0) = false := decide_eq_false (by omega)
  have h0 := G3.out.at_ 0
  have h1 := G3.out.at_ 1
  simp only [List.getElem?_cons_zero, List.getElem?_cons_succ] at h0 h1
  clear hb2 g0 g1
  go_wp2_with (first
    | (refine wpList_store_new rfl 112 (.tmp 9) (.tmp 35) rfl (nums D).toArray 112 _ (by first | rfl | (rw [hp3]; rfl)) rfl (by rw [info_nums]; simp [nums_len]) (by simp [nums_len]) (nums_one _) ?_; rw [hw3])
    | (refine wpList_load_row rfl 112 (.tmp 9) rfl p3 rfl 112 _ (0, 0) _ R2.out Tryd.underlying112 rfl (by rw [info_nums]; simp [nums_len]) ?_))
  refine (HWk.out _ B3.out).mono ?_
  rintro e w4 ⟨v, rfl, hown, hb4⟩
  have O4 := Lib.hid (own_down' hown B3.out.size)
  have B4 := Lib.hid (below_on B3.out hb4)
  clear hown hb4
  go_wp2_with fail
  go_ret2
  exact ⟨_, rfl, O4.out, B4.out⟩
end Go.Proofs.YthocdmlacfejkaaDoor
