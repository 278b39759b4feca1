/- Graph: Rmt, Tbm, Tab, Rrc, Rcl. -/
import Derived.Test.YthocdmlacfejkaaDoorMG
import Derived.Test.YthocdmlacfejkaaDoorME
import Derived.Test.YthocdmlacfejkaaDoorMF
namespace Go.Proofs.YthocdmlacfejkaaDoor
open Go.RowKit
theorem filter_upto {p : Nat → Bool} : ∀ {m n : Nat}, n ≤ m → (∀ v, p v = true → v < n) → (List.range m).filter p = (List.range n).filter p
  | 0, n, h, _ => by obtain rfl : n = 0 := by omega
                     rfl
  | m + 1, n, h, hp => by
    rcases Nat.lt_or_ge m n with h1 | h1
    · obtain rfl : n = m + 1 := by omega
      rfl
    · rw [List.range_succ, List.filter_append, filter_upto h1 hp]
      have : p m = false := by
        cases e : p m with
        | false => rfl
        | true => have := hp m e; omega
      simp [this]
theorem setI_go {a : Nat} : ∀ (l : List Nat) (s : Nat), ((zs l).foldl (fun s x => s ||| sing x.toNat) s).testBit a = true ↔ s.testBit a = true ∨ a ∈ l
  | [], s => by simp [zs]
  | x :: l, s => by
    have e : zs (x :: l) = (x : Int) :: zs l := rfl
    rw [e, List.foldl_cons, setI_go l, Nat.testBit_or, Bool.or_eq_true, Int.toNat_natCast, sing_bit, decide_eq_true_eq, List.mem_cons, or_assoc]
    rw [eq_comm (a := x)]
theorem setI_bit {a : Nat} {l : List Nat} : (setI (zs l)).testBit a = true ↔ a ∈ l := by
  unfold setI; rw [setI_go]; simp
theorem lev_from {L : Nat → Nat} {S k v : Nat} : (lev L S k).testBit v = true ↔ ∃ a, S.testBit a = true ∧ (lev L (sing a) k).testBit v = true := by
  rw [lev_walk]
  constructor
  · rintro ⟨a, j, hj, ha, hw⟩
    exact ⟨a, ha, lev_walk.2 ⟨a, j, hj, by rw [sing_bit]; simp, hw⟩⟩
  · rintro ⟨a, ha, h⟩
    obtain ⟨b, j, hj, hb, hw⟩ := lev_walk.1 h
    rw [sing_bit, decide_eq_true_eq] at hb
    subst hb
    exact ⟨a, j, hj, ha, hw⟩
theorem dist_lev {L : Nat → Nat} {s v : Nat} : 0 ≤ dist L s v ↔ (lev L s 64).testBit v = true := by
  unfold dist
  rcases distTo_cases L s v 65 with ⟨h1, h2⟩ | ⟨j, h0, h1, h2, _⟩
  · rw [h1, h2 64 (by omega)]; simp
  · rw [h1]
    exact ⟨fun _ => lev_up (by omega) v h2, fun _ => by omega⟩
/-- Whether one of some nodes reaches a node. -/
def reachB (es : List (Nat × Nat)) (l : List Nat) (b : Nat) : Bool := l.any fun a => decide (0 ≤ dist (adj es) (sing a) b)
theorem reachB_iff {es : List (Nat × Nat)} {l : List Nat} {b : Nat} : reachB es l b = true ↔ (lev (adj es) (setI (zs l)) 64).testBit b = true := by
  unfold reachB
  rw [List.any_eq_true, lev_from]
  constructor
  · rintro ⟨a, ha, h⟩
    exact ⟨a, setI_bit.2 ha, dist_lev.1 (of_decide_eq_true h)⟩
  · rintro ⟨a, ha, h⟩
    exact ⟨a, setI_bit.1 ha, decide_eq_true (dist_lev.2 h)⟩
def reachL (n : Nat) (es : List (Nat × Nat)) (l : List Nat) : List Nat := (List.range n).filter (reachB es l)
theorem setI_in {n : Nat} {l : List Nat} (h : ∀ a ∈ l, a < n) : Under n (setI (zs l)) := fun v hv => h v (setI_bit.1 hv)
theorem reach_list {n : Nat} {es : List (Nat × Nat)} {l : List Nat} (hl : Low n es) (hn : n ≤ 64) (h : ∀ a ∈ l, a < n) : bitsOf (lev (adj es) (setI (zs l)) 64) = reachL n es l := by
  unfold bitsOf reachL
  rw [filter_upto hn (fun v hv => lev_under (adj_under hl) (setI_in h) 64 v hv)]
  apply List.filter_congr
  intro v _
  rw [Bool.eq_iff_iff, reachB_iff]
theorem reach_one (n : Nat) {es : List (Nat × Nat)} {a : Nat} (hl : Low n es) (hn : n ≤ 64) (ha : a < n) : bitsOf (lev (adj es) (sing a) 64) = reachL n es [a] := by
  rw [← reach_list hl hn (by simpa using ha)]
  have e : setI (zs [a]) = sing a := by simp [setI, zs]
  rw [e]
theorem clos_list {n : Nat} {es : List (Nat × Nat)} (hl : Low n es) (hn : n ≤ 64) : (closM es n).map bitsOf = (List.range n).map fun a => reachL n es [a] := by
  unfold closM
  rw [List.map_map]
  apply List.map_congr_left
  intro a ha
  exact reach_one n hl hn (List.mem_range.1 ha)
theorem lev_closed {es : List (Nat × Nat)} {S : Nat} (h : es.any (outE S) = false) : ∀ k, lev (adj es) S k = S
  | 0 => rfl
  | k + 1 => by
    rw [lev, lev_closed h k]
    apply Nat.eq_of_testBit_eq
    intro v
    rw [Nat.testBit_or]
    cases h1 : (stepM (adj es) S).testBit v with
    | false => simp
    | true =>
      obtain ⟨x, _, hx, hv⟩ := step_bit.1 h1
      have hm := adj_bit.1 hv
      rw [List.any_eq_false] at h
      have := h _ hm
      simp only [outE, hx, Bool.true_and] at this
      simpa using this
theorem closed_len {n : Nat} {es : List (Nat × Nat)} (hl : Low n es) (hn : n ≤ 64) {q : Nat → Bool} : (!es.any (outE (setI (zs ((List.range n).filter q))))) = decide ((reachL n es ((List.range n).filter q)).length = ((List.range n).filter q).length) := by
  have hmem : ∀ v, v ∈ (List.range n).filter q ↔ v < n ∧ q v = true := fun v => by rw [List.mem_filter, List.mem_range]
  have hq : ∀ v, (setI (zs ((List.range n).filter q))).testBit v = true ↔ v < n ∧ q v = true := fun v => by rw [setI_bit, hmem]
  have hsub : ∀ v, v < n → q v = true → reachB es ((List.range n).filter q) v = true := fun v hv hqv => reachB_iff.2 (lev_up (Nat.zero_le 64) v ((hq v).2 ⟨hv, hqv⟩))
  unfold reachL
  rw [← List.countP_eq_length_filter, ← List.countP_eq_length_filter]
  cases hc : es.any (outE (setI (zs ((List.range n).filter q)))) with
  | false =>
    have e : ∀ v ∈ List.range n, reachB es ((List.range n).filter q) v = true ↔ q v = true := fun v hv => by
      rw [reachB_iff, lev_closed hc, hq]
      simp [List.mem_range.1 hv]
    rw [List.countP_congr e]
    simp
  | true =>
    obtain ⟨⟨x, y⟩, he, ho⟩ := List.any_eq_true.1 hc
    simp only [outE, Bool.and_eq_true, Bool.not_eq_true'] at ho
    have hy : y < n := (hl _ he).2
    have hqy : q y = false := by
      cases e : q y with
      | false => rfl
      | true => have := (hq y).2 ⟨hy, e⟩; rw [ho.2] at this; cases this
    have hr : reachB es ((List.range n).filter q) y = true := by
      rw [reachB_iff]
      refine lev_up (show 1 ≤ 64 by omega) y ?_
      rw [lev, Nat.testBit_or, Bool.or_eq_true]
      have hx := ho.1
      exact .inr (step_bit.2 ⟨x, Nat.lt_of_lt_of_le (hl _ he).1 hn, hx, adj_bit.2 he⟩)
    have := countP_lt (l := List.range n) (fun v hv h => hsub v (List.mem_range.1 hv) h) ⟨y, List.mem_range.2 hy, hr, hqy⟩
    simp
    omega
end Go.Proofs.YthocdmlacfejkaaDoor
namespace Go.Proofs.YthocdmlacfejkaaDoor
open Go.RowKit
def tabF (es : List (Nat × Nat)) (a step v : Nat) : Int := distTo (adj es) (sing a) step v
def hitE (es : List (Nat × Nat)) (a step v : Nat) (e : Nat × Nat) : Bool := e.2 == v && tabF es a step e.1 == ((step : Int) - 1)
def rowP (es : List (Nat × Nat)) (a step k v : Nat) : Int := if 0 ≤ tabF es a step v then tabF es a step v else if (es.take k).any (hitE es a step v) then (step : Int) else -1
theorem tabF_bd (es : List (Nat × Nat)) (a step v : Nat) : -1 ≤ tabF es a step v ∧ tabF es a step v < step := distTo_bd _ _ _ _
theorem tabF_one (es : List (Nat × Nat)) (a v : Nat) : (if a = v then (0 : Int) else -1) = tabF es a 1 v := by
  show _ = distTo (adj es) (sing a) (0 + 1) v
  rw [distTo_succ, distTo_zero, if_neg (show ¬ (0 : Int) ≤ -1 by decide), lev, sing_bit]
  by_cases h : a = v <;> simp [h]
theorem rowP_zero (es : List (Nat × Nat)) (a step v : Nat) : rowP es a step 0 v = tabF es a step v := by
  unfold rowP
  have := tabF_bd es a step v
  simp
  intro h
  omega
theorem rowP_src {es : List (Nat × Nat)} {a step k x : Nat} (h1 : 1 ≤ step) : rowP es a step k x = (step : Int) - 1 ↔ tabF es a step x = (step : Int) - 1 := by
  unfold rowP
  have := tabF_bd es a step x
  by_cases h : 0 ≤ tabF es a step x
  · rw [if_pos h]
  · rw [if_neg h]
    split <;> omega
theorem rowP_bd (es : List (Nat × Nat)) (a step k v : Nat) : -1 ≤ rowP es a step k v ∧ rowP es a step k v ≤ step := by
  unfold rowP
  have := tabF_bd es a step v
  split
  · omega
  · split <;> omega
theorem take_any {es : List (Nat × Nat)} {k : Nat} {e : Nat × Nat} (p : Nat × Nat → Bool) (hk : es[k]? = some e) : (es.take (k + 1)).any p = ((es.take k).any p || p e) := by
  rw [List.take_add_one, hk, List.any_append]; simp
theorem rowP_no1 {es : List (Nat × Nat)} {a step k x y : Nat} (hk : es[k]? = some (x, y)) (h1 : 1 ≤ step) (hx : rowP es a step k x ≠ (step : Int) - 1) (v : Nat) : rowP es a step k v = rowP es a step (k + 1) v := by
  have hx' : tabF es a step x ≠ (step : Int) - 1 := fun e => hx ((rowP_src h1).2 e)
  unfold rowP
  rw [take_any _ hk]
  have e : hitE es a step v (x, y) = false := by unfold hitE; simp [hx']
  rw [e, Bool.or_false]
theorem rowP_no2 {es : List (Nat × Nat)} {a step k x y : Nat} (hk : es[k]? = some (x, y)) (hy : 0 ≤ rowP es a step k y) (v : Nat) : rowP es a step k v = rowP es a step (k + 1) v := by
  by_cases e : y = v
  · subst e
    unfold rowP at hy ⊢
    by_cases h : 0 ≤ tabF es a step y
    · rw [if_pos h, if_pos h]
    · rw [if_neg h] at hy
      rw [if_neg h, if_neg h, take_any _ hk]
      cases h2 : (es.take k).any (hitE es a step y) with
      | true => simp
      | false => rw [h2] at hy; simp at hy
  · unfold rowP
    rw [take_any _ hk]
    have e2 : hitE es a step v (x, y) = false := by unfold hitE; simp [e]
    rw [e2, Bool.or_false]
theorem rowP_yes {es : List (Nat × Nat)} {a step k x y : Nat} (hk : es[k]? = some (x, y)) (h1 : 1 ≤ step) (hx : rowP es a step k x = (step : Int) - 1) (hy : rowP es a step k y < 0) (v : Nat) : (if y = v then (step : Int) else rowP es a step k v) = rowP es a step (k + 1) v := by
  have hx' := (rowP_src h1).1 hx
  by_cases e : y = v
  · subst e
    rw [if_pos rfl]
    unfold rowP at hy ⊢
    have h : ¬ 0 ≤ tabF es a step y := fun h => by rw [if_pos h] at hy; omega
    rw [if_neg h, take_any _ hk]
    have e2 : hitE es a step y (x, y) = true := by unfold hitE; simp [hx']
    rw [e2, Bool.or_true, if_pos rfl]
  · rw [if_neg e]
    unfold rowP
    rw [take_any _ hk]
    have e2 : hitE es a step v (x, y) = false := by unfold hitE; simp [e]
    rw [e2, Bool.or_false]
theorem rowP_end {es : List (Nat × Nat)} {a step k : Nat} (hl : Low 64 es) (h1 : 1 ≤ step) (hk : es.length ≤ k) (v : Nat) : rowP es a step k v = tabF es a (step + 1) v := by
  unfold rowP
  rw [List.take_of_length_le hk]
  show _ = distTo (adj es) (sing a) (step + 1) v
  rw [distTo_succ]
  show _ = if 0 ≤ tabF es a step v then tabF es a step v else _
  by_cases h : 0 ≤ tabF es a step v
  · rw [if_pos h, if_pos h]
  · rw [if_neg h, if_neg h]
    have hno := distTo_neg.1 (show distTo (adj es) (sing a) step v < 0 by unfold tabF at h; omega)
    obtain ⟨s, rfl⟩ : ∃ s, step = s + 1 := ⟨step - 1, by omega⟩
    have e : es.any (hitE es a (s + 1) v) = (lev (adj es) (sing a) (s + 1)).testBit v := by
      rw [Bool.eq_iff_iff, lev, Nat.testBit_or, hno s (Nat.lt_succ_self s), Bool.false_or, step_bit, List.any_eq_true]
      constructor
      · rintro ⟨⟨x, y⟩, he, h2⟩
        unfold hitE at h2
        simp only [Bool.and_eq_true, beq_iff_eq] at h2
        obtain ⟨rfl, h3⟩ := h2
        have h4 : distTo (adj es) (sing a) (s + 1) x = ((s : Nat) : Int) := by unfold tabF at h3; rw [h3]; omega
        obtain ⟨_, h5, _⟩ := distTo_iff.1 h4
        exact ⟨x, (hl _ he).1, h5, adj_bit.2 he⟩
      · rintro ⟨x, _, h2, h3⟩
        refine ⟨(x, v), adj_bit.1 h3, ?_⟩
        unfold hitE
        have h4 : distTo (adj es) (sing a) (s + 1) x = ((s : Nat) : Int) := by
          refine distTo_iff.2 ⟨by omega, h2, fun i hi => ?_⟩
          cases h5 : (lev (adj es) (sing a) i).testBit x with
          | false => rfl
          | true =>
            have : (lev (adj es) (sing a) (i + 1)).testBit v = true := by
              rw [lev, Nat.testBit_or, Bool.or_eq_true, step_bit]
              exact .inr ⟨x, (hl _ (adj_bit.1 h3)).1, h5, h3⟩
            rw [hno (i + 1) (by omega)] at this
            cases this
        have h6 : tabF es a (s + 1) x = (((s + 1 : Nat) : Int)) - 1 := by unfold tabF; rw [h4]; omega
        simp [h6]
    rw [e]
theorem tabF_full {n : Nat} {es : List (Nat × Nat)} {a : Nat} (hl : Low n es) (hn : n ≤ 64) (ha : a < n) (v : Nat) : tabF es a (n + 1) v = dist (adj es) (sing a) v :=
  dist_full (adj_under hl) (fun i hi => by rw [sing_bit, decide_eq_true_eq] at hi; omega) hn v (Nat.le_refl _)
theorem made_row {w w1 : World} {n : Nat} (hown : w1.ownsRow w.heap.size 3 1 (.slice (some ⟨w.heap.size, 0, none⟩) n n) n (madeCells #[.int .i64 0] n).toList) : Row w1 w.heap.size 3 (numsN n fun _ => 0) := by
  have h0 := made_ints hown
  rcases hown.2 with ⟨h1, _⟩ | ⟨g', cap, cur, h1, hg, hh, hnc, hcm, hcs, hx⟩
  · cases h1
  · injection h1 with h1 _ h3
    injection h1 with h1
    injection h1 with h1
    subst h1 h3
    have e : cur.toList = numsN n fun _ => 0 := by
      apply List.ext_getElem?
      intro i
      rw [← h0.at_ i, cell_of_row _ _ _ _ _ _ hh]; simp
    unfold Row
    rw [← e]
    simpa using hh
/-- Rows of numbers, in a slice that one appends to. -/
def OutT (C : Nat) (w : World) (v : Value) (k n : Nat) (f : Nat → Nat → Int) : Prop :=
  ∃ vs, w.ownsRow C 50 1 v k vs ∧ ∀ a, a < k → ∃ p, vs[a]? = some (.slice (some ⟨p, 0, none⟩) n n) ∧ Row w p 3 (numsN n (f a))
theorem row_grown {C k p : Nat} {w w1 : World} {v : Value} {xs vs : List Value} {o : Obj} (hr : Row w p 3 vs) (hown : w.ownsRow C 50 1 v k xs) (hg : (w.alloc o).grownBy w1 v.ownBlock) : Row w1 p 3 vs := by
  have hp := hr.cells.lt
  unfold Row at hr ⊢
  rw [hg.block p (by simp; omega) ?_, Below.heap_alloc _ _ _ hp, hr]
  intro e
  rcases hown.2 with ⟨rfl, _⟩ | ⟨g, cap, cur, rfl, _, hh, _⟩
  · cases e
  · simp only [Value.ownBlock, Option.some.injEq] at e
    subst e
    rw [hr] at hh
    injection hh with hh
    injection hh with _ h2
    exact absurd h2 (by decide)
theorem OutT.keep {C k n : Nat} {w w' : World} {v : Value} {f : Nat → Nat → Int} (h : OutT C w v k n f) (hb : Below w.heap.size w w') : OutT C w' v k n f :=
  let ⟨vs, h1, h2⟩ := h; ⟨vs, own_below h1 hb, fun a ha => let ⟨p, e, hr⟩ := h2 a ha; ⟨p, e, hr.keep hb⟩⟩
theorem OutT.down {B C k n : Nat} {w : World} {v : Value} {f : Nat → Nat → Int} (h : OutT B w v k n f) (hC : C ≤ B) : OutT C w v k n f := let ⟨vs, h1, h2⟩ := h; ⟨vs, own_down' h1 hC, h2⟩
theorem OutT.at_ {C k n : Nat} {w : World} {v : Value} {f : Nat → Nat → Int} (h : OutT C w v k n f) : ∃ A c, v = .slice A k c ∧ ∀ a, a < k → ∃ g p, A = some ⟨g, 0, none⟩ ∧ w.cell? ⟨g, a, none⟩ = some (.slice (some ⟨p, 0, none⟩) n n) ∧ Cells w p (numsN n (f a)) := by
  obtain ⟨vs, h1, h2⟩ := h
  rcases h1.2 with ⟨rfl, h0⟩ | ⟨g, cap, cur, rfl, hg, hh, hnc, hcm, hcs, hx⟩
  · exact ⟨none, 0, by rw [h0], fun a ha => by omega⟩
  · refine ⟨_, cap, rfl, fun a ha => ?_⟩
    obtain ⟨p, e, hr⟩ := h2 a ha
    refine ⟨g, p, rfl, ?_, hr.cells⟩
    rw [cell_of_row _ _ _ _ _ _ hh, ← Array.getElem?_toList, ← e, ← hx, List.getElem?_take_of_lt (by omega)]
end Go.Proofs.YthocdmlacfejkaaDoor
namespace Go.Proofs.YthocdmlacfejkaaDoor
open Go.RowKit
set_option maxRecDepth 100000 in
set_option maxHeartbeats 8000000 in
theorem table_any (n : Nat) (A : Option Addr) (m c : Nat) (es : List (Nat × Nat)) (w : World) (h : EL w A m (cast es)) (hg : Fine n es) :
    Calls Tryd.prog 96 #[gV n A m c] w fun e w' => ∃ v, e = .returned v ∧ OutT w.heap.size w' v n n (fun a => tabF es a (n + 1)) ∧ Below w.heap.size w w' := by
  obtain ⟨i0, hi, hz0, hz1, hz2⟩ := info_parts info_int
  obtain ⟨j0, hj, jz0, jz1, jz2⟩ := info_parts info_ints
  have hlen := h.len
  have hm : m ≤ 4096 := by have := hg.len; omega
  have hn64 := hg.n64
  have kv := (Below.refl w.heap.size w).alloc (Nat.le_refl _) (.cells #[.int .i64 (n : Nat), .slice A m c] 35)
  have G0 := Lib.hid (Cells.new w #[.int .i64 (n : Nat), .slice A m c] 35)
  have E0 := Lib.hid h
  have HLow := Lib.hid hg.low
  have HLow64 := Lib.hid hg.low64
  have kv := Lib.hid kv
  have Hlen := Lib.hid hlen
  clear h hg hlen
  go_enter Tryd.func96, Tryd.ntmps96
  go_wp2_with fail
  go_loopw [3, 4, 5, 6, 7, 8] (fun v i _ _ _ _ wr => ∃ a : Nat, i = .int .i64 (a : Nat) ∧ a ≤ n ∧ OutT (w.heap.size + 1) wr v a n (fun a => tabF es a (n + 1)) ∧ Cells wr w.heap.size [.int .i64 (n : Nat), .slice A m c] ∧ Below w.heap.size w wr) (fun _ i _ _ _ _ _ => n - (intOf i).toNat)
  case atStart => exact ⟨0, rfl, Nat.zero_le _, ⟨[], World.ownsRow_nil _ _ _ _, fun a ha => absurd ha (Nat.not_lt_zero _)⟩, G0.out, kv.out⟩
  case round =>
    obtain ⟨a, rfl, ha, hout, hgc, hb⟩ := hrel
    have Hout := Lib.hid hout
    have B6 := Lib.hid hb
    have G6 := Lib.hid hgc
    clear hout hb hgc
    obtain ⟨wa, rfl⟩ : ∃ wa : World, wa = wr := ⟨_, rfl⟩
    have g0 := G6.out.at_ 0
    simp only [List.getElem?_cons_zero] at g0
    by_cases hlt : a < n
    · have Hlt := Lib.hid hlt
      go_wp2_with (at_make; refine wpList_make_full _ rfl _ _ 50 rfl wa.heap.size 3 i0 (.int .i64 0) 1 Tryd.underlying50 hi hz0 hz1 _ _ _ _ n rfl rfl rfl rfl (by rw [hz2]; omega) (by unfold maxLen; omega) (Nat.le_refl _) ?_)
      intro w2 hown hgr
      have R2 := Lib.hid (made_row hown)
      have b2 := (Below.refl wa.heap.size wa).grown hgr (Nat.le_refl _) (by simp)
      have B2 := Lib.hid b2
      clear hown hgr g0 b2
      obtain ⟨p, hp⟩ : ∃ p, wa.heap.size = p := ⟨_, rfl⟩
      rw [hp] at R2 B2 ⊢
      have Hp := Lib.hid hp
      have HG := Lib.hid (fun w' (hb' : Below p wa w') => G6.out.keep (w' := w') (by rw [hp]; exact hb'))
      have HE := Lib.hid (fun w' (hb' : Below p wa w') => E0.out.keep (below_on B6.out (w' := w') (by rw [hp]; exact hb')))
      clear hp
      go_wp2_with fail
      go_loopw [6] (fun i wr => ∃ k : Nat, i = .int .i64 (k : Nat) ∧ k ≤ n ∧ Row wr p 3 (numsN n fun v => if v < k then -1 else 0) ∧ Below p wa wr) (fun i _ => n - (intOf i).toNat)
      case atStart => exact ⟨0, rfl, Nat.zero_le _, by simpa using R2.out, B2.out⟩
      case round =>
        obtain ⟨k, rfl, hk, hr, hb⟩ := hrel
        have Hr := Lib.hid hr
        have Hb := Lib.hid hb
        clear hr hb
        obtain ⟨wb, rfl⟩ : ∃ wb : World, wb = wr := ⟨_, rfl⟩
        have g0 := (HG.out _ Hb.out).at_ 0
        have g1 := (HG.out _ Hb.out).at_ 1
        simp only [List.getElem?_cons_zero, List.getElem?_cons_succ] at g0 g1
        by_cases hkn : k < n
        · have Hkn := Lib.hid hkn
          have z0 := (Hr.out.cells.at_ k).trans (numsN_at _ hkn)
          have f0 := Hr.out.cells.fz k
          obtain ⟨x0, hx0⟩ : ∃ x : Int, (if k < k then (-1 : Int) else 0) = x := ⟨_, rfl⟩
          rw [hx0] at z0
          have R3 := Hr.out.set k (.int .i64 (-1))
          rw [numsN_set, numsN_congr (f' := fun v => if v < k + 1 then -1 else 0) (fun v _ => by
            by_cases h : k = v
            · subst h; simp
            · by_cases h2 : v < k
              · simp [h, h2, show v < k + 1 by omega]
              · simp [h, h2, show ¬ v < k + 1 by omega])] at R3
          have R3 := Lib.hid R3
          have B3 := Lib.hid (Hb.out.setCell (p := ⟨p, k, none⟩) (Nat.le_refl _) (.int .i64 (-1)))
          clear hx0
          go_wp2_with fail
          go_roundw
          case rel => exact ⟨k + 1, by go_num, Hkn.out, R3.out, B3.out⟩
          case measure => simp [intOf]; have := Hkn.out; omega
        · have z0 := (Hr.out.cells.at_ a).trans (numsN_at _ Hlt.out)
          have f0 := Hr.out.cells.fz a
          obtain ⟨x0, hx0⟩ : ∃ x : Int, (if a < k then (-1 : Int) else 0) = x := ⟨_, rfl⟩
          rw [hx0] at z0
          have R3 := Hr.out.set a (.int .i64 0)
          rw [numsN_set, numsN_congr (f' := tabF es a 1) (fun v hv => by
            rw [← tabF_one]
            by_cases h : a = v
            · rw [if_pos h, if_pos h]
            · rw [if_neg h, if_neg h, if_pos (by omega)])] at R3
          have R3 := Lib.hid R3
          have B3 := Lib.hid (Hb.out.setCell (p := ⟨p, a, none⟩) (Nat.le_refl _) (.int .i64 0))
          have hai : (a : Int) < n := by have := Hlt.out; omega
          clear hx0
          go_wp2_with fail
          clear hkn
          go_loopw [7, 8] (fun s _ wr => ∃ k : Nat, s = .int .i64 (k : Nat) ∧ 1 ≤ k ∧ k ≤ n + 1 ∧ Row wr p 3 (numsN n (tabF es a k)) ∧ Below p wa wr) (fun s _ _ => n + 1 - (intOf s).toNat)
          case atStart => exact ⟨1, rfl, Nat.le_refl _, by omega, R3.out, B3.out⟩
          case round =>
            obtain ⟨st, rfl, hs1, hs2, hr, hb⟩ := hrel
            have Hr := Lib.hid hr
            have Hb := Lib.hid hb
            clear hr hb
            obtain ⟨wc, rfl⟩ : ∃ wc : World, wc = wr := ⟨_, rfl⟩
            have g0 := (HG.out _ Hb.out).at_ 0
            have g1 := (HG.out _ Hb.out).at_ 1
            simp only [List.getElem?_cons_zero, List.getElem?_cons_succ] at g0 g1
            by_cases hsn : st ≤ n
            · have Hsn := Lib.hid hsn
              have R4 := Hr.out
              rw [numsN_congr (f' := rowP es a st 0) (fun v _ => (rowP_zero es a st v).symm)] at R4
              have R4 := Lib.hid R4
              go_wp2_with fail
              go_loopw [8] (fun i wr => ∃ k : Nat, i = .int .i64 (k : Nat) ∧ k ≤ m ∧ Row wr p 3 (numsN n (rowP es a st k)) ∧ Below p wa wr) (fun i _ => m - (intOf i).toNat)
              case atStart => exact ⟨0, rfl, Nat.zero_le _, R4.out, Hb.out⟩
              case round =>
                obtain ⟨k, rfl, hk, hr, hb⟩ := hrel
                have Hr := Lib.hid hr
                have Hb := Lib.hid hb
                clear hr hb
                obtain ⟨wd, rfl⟩ : ∃ wd : World, wd = wr := ⟨_, rfl⟩
                have g0 := (HG.out _ Hb.out).at_ 0
                have g1 := (HG.out _ Hb.out).at_ 1
                simp only [List.getElem?_cons_zero, List.getElem?_cons_succ] at g0 g1
                by_cases hkm : k < m
                · obtain ⟨e, b, o, he, rfl, hbl, c0, c1⟩ := (HE.out _ Hb.out).at_ hkm
                  obtain ⟨x, y, hxy, rfl⟩ := cast_at he
                  obtain ⟨hx, hy⟩ := HLow.out _ (List.mem_of_getElem? hxy)
                  simp only at c0 c1 hx hy
                  have Hxy := Lib.hid hxy
                  have Hkm := Lib.hid hkm
                  have x0 := (Hr.out.cells.at_ x).trans (numsN_at _ hx)
                  have y0 := (Hr.out.cells.at_ y).trans (numsN_at _ hy)
                  have f0 := Hr.out.cells.fz y
                  have hxi : (x : Int) < n := by omega
                  have hyi : (y : Int) < n := by omega
                  have ew : IntKind.i64.wrap ((st : Int) - 1) = (st : Int) - 1 := IntWalk.i64_in _ (by omega)
                  clear he hxy
                  obtain ⟨u, hu⟩ : ∃ u, rowP es a st k x = u := ⟨_, rfl⟩
                  obtain ⟨v, hv⟩ : ∃ v, rowP es a st k y = v := ⟨_, rfl⟩
                  rw [hu] at x0
                  rw [hv] at y0
                  have Hu := Lib.hid hu
                  have Hv := Lib.hid hv
                  clear hu hv
                  by_cases h1 : u = (st : Int) - 1
                  · have t1 : (u == (st : Int) - 1) = true := by rw [beq_iff_eq]; exact h1
                    by_cases h2 : v < 0
                    · have t2 : decide (v < 0) = true := decide_eq_true h2
                      have R5 := Hr.out.set y (.int .i64 (st : Nat))
                      rw [numsN_set, numsN_congr (f' := rowP es a st (k + 1)) (fun j _ => rowP_yes Hxy.out hs1 (by rw [Hu.out]; exact h1) (by rw [Hv.out]; exact h2) j)] at R5
                      have R5 := Lib.hid R5
                      have B5 := Lib.hid (Hb.out.setCell (p := ⟨p, y, none⟩) (Nat.le_refl _) (.int .i64 (st : Nat)))
                      clear h1 h2
                      go_wp2_with fail
                      go_roundw
                      case rel => exact ⟨k + 1, by go_num, Hkm.out, R5.out, B5.out⟩
                      case measure => simp [intOf]; have := Hkm.out; omega
                    · have t2 : decide (v < 0) = false := decide_eq_false h2
                      have R5 := Hr.out
                      rw [numsN_congr (f' := rowP es a st (k + 1)) (fun j _ => rowP_no2 Hxy.out (by rw [Hv.out]; omega) j)] at R5
                      have R5 := Lib.hid R5
                      clear h1 h2
                      go_wp2_with fail
                      go_roundw
                      case rel => exact ⟨k + 1, by go_num, Hkm.out, R5.out, Hb.out⟩
                      case measure => simp [intOf]; have := Hkm.out; omega
                  · have t1 : (u == (st : Int) - 1) = false := by rw [beq_eq_false_iff_ne]; exact h1
                    have R5 := Hr.out
                    rw [numsN_congr (f' := rowP es a st (k + 1)) (fun j _ => rowP_no1 Hxy.out hs1 (by rw [Hu.out]; exact h1) j)] at R5
                    have R5 := Lib.hid R5
                    clear h1
                    go_wp2_with fail
                    go_roundw
                    case rel => exact ⟨k + 1, by go_num, Hkm.out, R5.out, Hb.out⟩
                    case measure => simp [intOf]; have := Hkm.out; omega
                · have R5 := Hr.out
                  rw [numsN_congr (f' := tabF es a (st + 1)) (fun j _ => rowP_end HLow64.out hs1 (by rw [Hlen.out]; omega) j)] at R5
                  have R5 := Lib.hid R5
                  go_wp2_with fail
                  go_roundw
                  case rel => exact ⟨st + 1, by go_num, by omega, by have := Hsn.out; omega, R5.out, Hb.out⟩
                  case measure => simp [intOf]; have := Hsn.out; omega
            · have hsn' : st = n + 1 := by omega
              subst hsn'
              obtain ⟨vs, hown, hrows⟩ := Hout.out
              have hown' := own_below hown (w' := wc) (by rw [Hp.out]; exact Hb.out)
              have Ho := Lib.hid hown'
              have Hrows := Lib.hid (fun q (hq : q < a) => let ⟨p, e, hr⟩ := hrows q hq; (⟨p, e, hr.keep (by rw [Hp.out]; exact Hb.out)⟩ : ∃ p : Nat, vs[q]? = some (Value.slice (some ⟨p, 0, none⟩) n n) ∧ Row wc p 3 (numsN n (tabF es q (n + 1)))))
              have hvl : vs.length = a := by have := hown.1; omega
              have hpc : p ≤ wc.heap.size := by have := Hb.out.size; have := Hp.out; omega
              have Hvl := Lib.hid hvl
              have hbc : w.heap.size + 1 ≤ wc.heap.size := (HG.out _ Hb.out).lt
              have hwp : w.heap.size ≤ p := by have := B6.out.size; have := Hp.out; omega
              clear hown hown' hrows hvl
              go_wp2_with (at_builtin; refine wpList_append_own _ rfl _ _ 47 rfl (w.heap.size + 1) 50 j0 (.slice none 0 0) 1 24 Tryd.underlying47 hj jz0 jz1 jz2 rfl (by decide) _ _ _ rfl (Ho.out.alloc _) ⟨wc.heap.size, 0, none⟩ 1 1 [.slice (some ⟨p, 0, none⟩) n n] rfl rfl ?c1 ?c2 ?c3 ?c4 ?c5 ?_)
              case c1 =>
                intro k u hu
                match k, hu with
                | 0, hu => simp at hu; subst hu; simp [Addr.add]
              case c2 => intro u hu; simp at hu; subst hu; rfl
              case c3 => unfold maxLen; omega
              case c4 => omega
              case c5 => simp; omega
              intro v' w3 hown' hgrow _
              have HO := Lib.hid (show OutT (w.heap.size + 1) w3 v' (a + 1) n (fun a => tabF es a (n + 1)) from ⟨_, hown', fun q hq => by
                rcases Nat.lt_or_ge q a with h1 | h1
                · obtain ⟨p1, e1, r1⟩ := Hrows.out q h1
                  exact ⟨p1, by rw [List.getElem?_append_left (by rw [Hvl.out]; exact h1)]; exact e1, row_grown r1 Ho.out hgrow⟩
                · obtain rfl : q = a := by omega
                  exact ⟨p, by rw [List.getElem?_append_right (by rw [Hvl.out]; exact Nat.le_refl _), Hvl.out]; simp, row_grown Hr.out Ho.out hgrow⟩⟩)
              have B7 := Lib.hid (((B6.out.trans (Hb.out.mono hwp)).alloc (by omega) (.cells #[.slice (some ⟨p, 0, none⟩) n n] 50)).grown hgrow (by simp; omega) (fun k hk => Nat.le_of_succ_le (own_ge Ho.out hk)))
              have G7 := Lib.hid ((HG.out _ Hb.out).keepB (B := w.heap.size + 1) (((Below.refl (w.heap.size + 1) wc).alloc hbc (.cells #[.slice (some ⟨p, 0, none⟩) n n] 50)).grown hgrow (by simp; omega) (fun k hk => own_ge Ho.out hk)) (Nat.lt_succ_self _))
              clear hown' hgrow
              go_wp2_with fail
              go_roundw
              case rel => exact ⟨a + 1, by go_num, Hlt.out, HO.out, G7.out, B7.out⟩
              case measure => simp [intOf]; have := Hlt.out; omega
    · have han : a = n := by omega
      subst han
      go_wp2_with fail
      go_ret
      exact ⟨_, rfl, Hout.out.down (Nat.le_succ _), B6.out⟩
end Go.Proofs.YthocdmlacfejkaaDoor
namespace Go.Proofs.YthocdmlacfejkaaDoor
open Go.RowKit
theorem zs_at {l : List Nat} {j : Nat} {x : Int} (h : (zs l)[j]? = some x) : ∃ y : Nat, l[j]? = some y ∧ x = (y : Int) := by
  unfold zs at h
  rw [List.getElem?_map] at h
  cases h1 : l[j]? with
  | none => rw [h1] at h; cases h
  | some p => rw [h1] at h; injection h with h; exact ⟨p, rfl, h.symm⟩
theorem reachB_step {es : List (Nat × Nat)} {l : List Nat} {j y b : Nat} (h : l[j]? = some y) : (l.take (j + 1)).any (fun a => decide (0 ≤ dist (adj es) (sing a) b)) = ((l.take j).any (fun a => decide (0 ≤ dist (adj es) (sing a) b)) || decide (0 ≤ dist (adj es) (sing y) b)) := by
  rw [List.take_add_one, h, List.any_append]; simp
theorem reach_up (r : Nat → Bool) (k : Nat) : (List.range (k + 1)).filter r = (List.range k).filter r ++ if r k then [k] else [] := by
  rw [List.range_succ, List.filter_append, List.filter_cons]
  cases r k <;> rfl
set_option maxRecDepth 100000 in
set_option maxHeartbeats 8000000 in
theorem refReach_any (n : Nat) (A : Option Addr) (m c : Nat) (es : List (Nat × Nat)) (B : Option Addr) (d : Nat) (l : List Nat) (w : World) (h : EL w A m (cast es)) (hg : Fine n es) (hl : IL w B (zs l)) (hll : l.length ≤ 1000000) (hin : ∀ a ∈ l, a < n) :
    Calls Tryd.prog 42 #[gV n A m c, .slice B l.length d] w fun e w' => ∃ v, e = .returned v ∧ w'.ownsRow w.heap.size 3 1 v (reachL n es l).length (nats (reachL n es l)) ∧ Below w.heap.size w w' := by
  obtain ⟨i0, hi, hz0, hz1, hz2⟩ := info_parts info_int
  have hn64 := hg.n64
  have kv := (Below.refl w.heap.size w).alloc (Nat.le_refl _) (.cells #[.int .i64 (n : Nat), .slice A m c] 35)
  have G0 := Lib.hid (Cells.new w #[.int .i64 (n : Nat), .slice A m c] 35)
  have HT := Lib.hid (table_any n A m c es _ (h.keep kv) hg)
  have L0 := Lib.hid (hl.keep kv)
  have Hin := Lib.hid hin
  have Hd := Lib.hid (fun a (ha : a < n) v => tabF_full hg.low hn64 ha v)
  have kv := Lib.hid kv
  clear h hg hl hin
  go_enter Tryd.func42, Tryd.ntmps42
  have g0 := G0.out.at_ 0
  have g1 := G0.out.at_ 1
  simp only [List.getElem?_cons_zero, List.getElem?_cons_succ] at g0 g1
  go_wp2_with fail
  refine HT.out.mono ?_
  rintro e w1 ⟨v, rfl, hout, hb1⟩
  obtain ⟨T, cT, rfl, hrows⟩ := hout.at_
  have Hrows := Lib.hid hrows
  have L1 := Lib.hid (L0.out.keep hb1)
  have G1 := Lib.hid (G0.out.keep hb1)
  have B1 := Lib.hid (below_on kv.out hb1)
  clear hb1 hout hrows g0 g1
  go_wp2_with fail
  go_loopw [6, 7, 8, 9] (fun v b _ _ wr => ∃ k : Nat, b = .int .i64 (k : Nat) ∧ k ≤ n ∧ wr.ownsRow w1.heap.size 3 1 v ((List.range k).filter (reachB es l)).length (nats ((List.range k).filter (reachB es l))) ∧ Below w1.heap.size w1 wr) (fun _ b _ _ _ => n - (intOf b).toNat)
  case atStart => exact ⟨0, rfl, Nat.zero_le _, World.ownsRow_nil _ _ _ _, Below.refl _ _⟩
  case round =>
    obtain ⟨k, rfl, hk, hown, hb⟩ := hrel
    have O6 := Lib.hid hown
    have B6 := Lib.hid hb
    have hsz := hb.size
    have g0 := (G1.out.keep hb).at_ 0
    simp only [List.getElem?_cons_zero] at g0
    clear hown hb
    obtain ⟨wa, rfl⟩ : ∃ wa : World, wa = wr := ⟨_, rfl⟩
    by_cases hlt : k < n
    · have Hlt := Lib.hid hlt
      have hki : (k : Int) < n := by omega
      have hfl : ((List.range k).filter (reachB es l)).length ≤ 64 := by
        have := List.length_filter_le (reachB es l) (List.range k)
        rw [List.length_range] at this
        omega
      have Hfl := Lib.hid hfl
      have Hup := Lib.hid (reach_up (reachB es l) k)
      have HB := Lib.hid (show reachB es l k = l.any (fun a => decide (0 ≤ dist (adj es) (sing a) k)) from rfl)
      clear hfl
      go_wp2_with fail
      go_loop [8, 9] (fun s i => ∃ j : Nat, i = .int .i64 (j : Nat) ∧ j ≤ l.length ∧ s = .bool ((l.take j).any fun a => decide (0 ≤ dist (adj es) (sing a) k))) (fun _ i => l.length - (intOf i).toNat)
      case atStart => exact ⟨0, rfl, Nat.zero_le _, rfl⟩
      case round =>
        obtain ⟨j, rfl, hj, rfl⟩ := hrel
        by_cases hjl : j < l.length
        · obtain ⟨x, b, o, hx, rfl, _, hcell⟩ := (L1.out.keep B6.out).at_ (k := j) (by rw [zs_len]; exact hjl)
          obtain ⟨y, hy, rfl⟩ := zs_at hx
          have hyn := Hin.out y (List.mem_of_getElem? hy)
          obtain ⟨gt, p, rfl, t1, hc⟩ := Hrows.out y hyn
          have hc6 := (hc.keep B6.out).at_ k
          rw [numsN_at _ hlt, Hd.out y hyn k] at hc6
          have t6 := (B6.out.cell (p := ⟨gt, y, none⟩) (World.block_lt_of_cell? w1 ⟨gt, y, none⟩ t1)).trans t1
          have Hs := Lib.hid (reachB_step (es := es) (b := k) hy)
          have Hjl := Lib.hid hjl
          have hyi : (y : Int) < n := by omega
          obtain ⟨u, hu⟩ : ∃ u, dist (adj es) (sing y) k = u := ⟨_, rfl⟩
          rw [hu] at hc6
          have Hu := Lib.hid hu
          obtain ⟨bb, hbb⟩ : ∃ bb, ((l.take j).any fun a => decide (0 ≤ dist (adj es) (sing a) k)) = bb := ⟨_, rfl⟩
          rw [hbb]
          have Hbb := Lib.hid hbb
          clear hx hy t1 hc hu hbb
          cases bb with
          | true =>
            go_wp2_with fail
            go_round
            case rel => exact ⟨j + 1, by go_num, Hjl.out, by rw [Hs.out, Hbb.out]; rfl⟩
            case measure => simp [intOf]; have := Hjl.out; omega
          | false =>
            by_cases h0 : 0 ≤ u
            · have t0 : decide (0 ≤ u) = true := decide_eq_true h0
              go_wp2_with fail
              go_round
              case rel => exact ⟨j + 1, by go_num, Hjl.out, by rw [Hs.out, Hbb.out, Hu.out, decide_eq_true h0]; rfl⟩
              case measure => simp [intOf]; have := Hjl.out; omega
            · have t0 : decide (0 ≤ u) = false := decide_eq_false h0
              go_wp2_with fail
              go_round
              case rel => exact ⟨j + 1, by go_num, Hjl.out, by rw [Hs.out, Hbb.out, Hu.out, decide_eq_false h0]; rfl⟩
              case measure => simp [intOf]; have := Hjl.out; omega
        · have hjl' : l.take j = l := List.take_of_length_le (by omega)
          rw [hjl']
          rw [← HB.out]
          clear hjl'
          cases hr : reachB es l k with
          | true =>
            rw [hr] at Hup
            have Hr := Lib.hid hr
            clear hr
            go_wp2_with (at_builtin; refine wpList_append_own _ rfl _ _ 50 rfl w1.heap.size 3 i0 (.int .i64 0) 1 8 Tryd.underlying50 hi hz0 hz1 hz2 rfl (by decide) _ _ _ rfl (O6.out.alloc _) ⟨wa.heap.size, 0, none⟩ 1 1 [.int .i64 (k : Nat)] rfl rfl ?c1 ?c2 ?c3 ?c4 ?c5 ?_)
            case c2 => rfl
            case c3 => unfold maxLen; have := Hfl.out; omega
            case c4 => have := Hfl.out; omega
            case c5 => omega
            intro v' w3 hown' hgrow _
            have B7 := Lib.hid ((B6.out.alloc hsz (.cells #[.int .i64 (k : Nat)] 3)).grown hgrow (by simp; omega) (fun k hk => own_ge O6.out hk))
            have O7 := Lib.hid (show w3.ownsRow w1.heap.size 3 1 v' ((List.range (k + 1)).filter (reachB es l)).length (nats ((List.range (k + 1)).filter (reachB es l))) by
              rw [Hup.out, if_pos trivial, List.length_append, nats_snoc]; exact hown')
            clear hown' hgrow
            go_wp2_with fail
            go_roundw
            case rel => exact ⟨k + 1, by go_num, Hlt.out, O7.out, B7.out⟩
            case measure => simp [intOf]; have := Hlt.out; omega
          | false =>
            rw [hr] at Hup
            have O7 := Lib.hid (show wa.ownsRow w1.heap.size 3 1 _ ((List.range (k + 1)).filter (reachB es l)).length (nats ((List.range (k + 1)).filter (reachB es l))) by
              rw [Hup.out, if_neg (by simp), List.append_nil]; exact O6.out)
            clear hr
            go_wp2_with fail
            go_roundw
            case rel => exact ⟨k + 1, by go_num, Hlt.out, O7.out, B6.out⟩
            case measure => simp [intOf]; have := Hlt.out; omega
    · have hkn : k = n := by omega
      subst hkn
      have Of := Lib.hid (own_down' O6.out B1.out.size)
      have Bf := Lib.hid (below_on B1.out B6.out)
      go_wp2_with fail
      go_ret
      exact ⟨_, rfl, Of.out, Bf.out⟩
end Go.Proofs.YthocdmlacfejkaaDoor
namespace Go.Proofs.YthocdmlacfejkaaDoor
open Go.RowKit
/-- A list of nodes in a row of its own. -/
def RowL (w : World) (A : Option Addr) (l : List Nat) : Prop := l = [] ∨ ∃ g vs, A = some ⟨g, 0, none⟩ ∧ Row w g 3 vs ∧ ∀ (k n : Nat), l[k]? = some n → vs[k]? = some (.int .i64 (n : Nat))
theorem RowL.of_own {C : Nat} {w : World} {v : Value} {l : List Nat} (h : w.ownsRow C 3 1 v l.length (nats l)) : ∃ A c, v = .slice A l.length c ∧ RowL w A l := by
  rcases h.2 with ⟨rfl, h0⟩ | ⟨g, cap, cur, rfl, hg, hh, hnc, hcm, hcs, hx⟩
  · exact ⟨none, 0, by rw [h0], .inl (List.eq_nil_of_length_eq_zero h0)⟩
  · refine ⟨_, cap, rfl, .inr ⟨g, cur.toList, rfl, by simpa [Row] using hh, fun k n hk => ?_⟩⟩
    have hk2 : k < l.length := by
      rcases Nat.lt_or_ge k l.length with h1 | h1
      · exact h1
      · rw [List.getElem?_eq_none h1] at hk; cases hk
    have e1 : (cur.toList.take (l.length * 1))[k]? = cur.toList[k]? := List.getElem?_take_of_lt (by omega)
    rw [← e1, hx]
    unfold nats
    rw [List.getElem?_map, hk]
    rfl
theorem RowL.keep {w w' : World} {A : Option Addr} {l : List Nat} (h : RowL w A l) (hb : Below w.heap.size w w') : RowL w' A l :=
  h.imp id fun ⟨g, vs, e, hr, hc⟩ => ⟨g, vs, e, hr.keep hb, hc⟩
theorem RowL.grown {C k : Nat} {w w1 : World} {v : Value} {xs : List Value} {o : Obj} {A : Option Addr} {l : List Nat} (h : RowL w A l) (hown : w.ownsRow C 50 1 v k xs) (hg : (w.alloc o).grownBy w1 v.ownBlock) : RowL w1 A l :=
  h.imp id fun ⟨g, vs, e, hr, hc⟩ => ⟨g, vs, e, row_grown hr hown hg, hc⟩
theorem RowL.nl {w : World} {A : Option Addr} {l : List Nat} (h : RowL w A l) : NL 0 w A l := fun k n hk => by
  rcases h with rfl | ⟨g, vs, rfl, hr, hc⟩
  · simp at hk
  · exact ⟨g, 0, rfl, Nat.zero_le _, hr.cells.lt, by rw [hr.cells.at_, Nat.zero_add]; exact hc k n hk⟩
/-- Lists of nodes, in a slice that one appends to. -/
def OutN (C : Nat) (w : World) (v : Value) (ls : List (List Nat)) : Prop :=
  ∃ vs, w.ownsRow C 50 1 v ls.length vs ∧ ∀ (k : Nat) (l : List Nat), ls[k]? = some l → ∃ A c, vs[k]? = some (Value.slice A l.length c) ∧ RowL w A l
theorem OutN.nil (C : Nat) (w : World) : OutN C w (.slice none 0 0) [] := ⟨[], World.ownsRow_nil _ _ _ _, fun k l h => by simp at h⟩
theorem OutN.keep {C : Nat} {w w' : World} {v : Value} {ls : List (List Nat)} (h : OutN C w v ls) (hb : Below w.heap.size w w') : OutN C w' v ls :=
  let ⟨vs, h1, h2⟩ := h; ⟨vs, own_below h1 hb, fun k l hk => let ⟨A, c, e, hr⟩ := h2 k l hk; ⟨A, c, e, hr.keep hb⟩⟩
theorem OutN.down {B C : Nat} {w : World} {v : Value} {ls : List (List Nat)} (h : OutN B w v ls) (hC : C ≤ B) : OutN C w v ls := let ⟨vs, h1, h2⟩ := h; ⟨vs, own_down' h1 hC, h2⟩
theorem OutN.push {C : Nat} {w w1 : World} {v v' : Value} {ls : List (List Nat)} {vs : List Value} {l : List Nat} {A : Option Addr} {c : Nat} {o : Obj} (hown : w.ownsRow C 50 1 v ls.length vs) (hvs : ∀ (k : Nat) (l : List Nat), ls[k]? = some l → ∃ A c, vs[k]? = some (Value.slice A l.length c) ∧ RowL w A l) (hl : RowL w A l)
    (hown' : w1.ownsRow C 50 1 v' (ls.length + 1) (vs ++ [.slice A l.length c])) (hg : (w.alloc o).grownBy w1 v.ownBlock) : OutN C w1 v' (ls ++ [l]) := by
  have hvl : vs.length = ls.length := by have := hown.1; omega
  refine ⟨_, by rw [List.length_append]; exact hown', fun k x hk => ?_⟩
  rcases Nat.lt_or_ge k ls.length with h1 | h1
  · rw [List.getElem?_append_left h1] at hk
    obtain ⟨A', c', e, hr⟩ := hvs k x hk
    exact ⟨A', c', by rw [List.getElem?_append_left (by omega)]; exact e, hr.grown hown hg⟩
  · rw [List.getElem?_append_right h1] at hk
    have hk0 : k - ls.length = 0 := by
      rcases Nat.eq_zero_or_pos (k - ls.length) with h2 | h2
      · exact h2
      · rw [List.getElem?_eq_none (by rw [List.length_singleton]; omega)] at hk; cases hk
    rw [hk0] at hk
    simp at hk
    subst hk
    refine ⟨A, c, ?_, hl.grown hown hg⟩
    rw [List.getElem?_append_right (by omega), show k - vs.length = 0 by omega]
    rfl
theorem OutN.ll {C : Nat} {w : World} {v : Value} {ls : List (List Nat)} (h : OutN C w v ls) : ∃ A c, v = .slice A ls.length c ∧ LL 0 w A ls := by
  obtain ⟨vs, h1, h2⟩ := h
  rcases h1.2 with ⟨rfl, h0⟩ | ⟨g, cap, cur, rfl, hg, hh, hnc, hcm, hcs, hx⟩
  · have : ls = [] := List.eq_nil_of_length_eq_zero h0
    subst this
    exact ⟨none, 0, rfl, fun k l hk => by simp at hk⟩
  · refine ⟨_, cap, rfl, fun k l hk => ?_⟩
    obtain ⟨A, c, e, hr⟩ := h2 k l hk
    have hk2 : k < ls.length := by
      rcases Nat.lt_or_ge k ls.length with h1 | h1
      · exact h1
      · rw [List.getElem?_eq_none h1] at hk; cases hk
    refine ⟨g, 0, A, c, rfl, Nat.zero_le _, ?_, ?_, hr.nl⟩
    · rcases Nat.lt_or_ge g w.heap.size with h1 | h1
      · exact h1
      · rw [Array.getElem?_eq_none h1] at hh; cases hh
    · rw [cell_of_row _ _ _ _ _ _ hh, Nat.zero_add, ← Array.getElem?_toList, ← e, ← hx, List.getElem?_take_of_lt (by omega)]
theorem reachL_len (n : Nat) (es : List (Nat × Nat)) (l : List Nat) : (reachL n es l).length ≤ n := by
  have := List.length_filter_le (reachB es l) (List.range n)
  rw [List.length_range] at this
  exact this
set_option maxRecDepth 100000 in
set_option maxHeartbeats 8000000 in
theorem refClosed_any (n : Nat) (A : Option Addr) (m c : Nat) (es : List (Nat × Nat)) (B : Option Addr) (d : Nat) (l : List Nat) (w : World) (h : EL w A m (cast es)) (hg : Fine n es) (hl : IL w B (zs l)) (hll : l.length ≤ 1000000) (hin : ∀ a ∈ l, a < n) :
    Calls Tryd.prog 45 #[gV n A m c, .slice B l.length d] w fun e w' => e = .returned (.bool (decide ((reachL n es l).length = l.length))) ∧ Below w.heap.size w w' := by
  have kv := (Below.refl w.heap.size w).alloc (Nat.le_refl _) (.cells #[.int .i64 (n : Nat), .slice A m c] 35)
  have G0 := Lib.hid (Cells.new w #[.int .i64 (n : Nat), .slice A m c] 35)
  have HT := Lib.hid (refReach_any n A m c es B d l _ (h.keep kv) hg (hl.keep kv) hll hin)
  have kv := Lib.hid kv
  clear h hg hl hin
  go_enter Tryd.func45, Tryd.ntmps45
  have g0 := G0.out.at_ 0
  have g1 := G0.out.at_ 1
  simp only [List.getElem?_cons_zero, List.getElem?_cons_succ] at g0 g1
  go_wp2_with fail
  refine HT.out.mono ?_
  rintro e w1 ⟨v, rfl, hown, hb1⟩
  obtain ⟨A1, c1, rfl, _⟩ := own_nats hown
  have B1 := Lib.hid (below_on kv.out hb1)
  clear hb1 hown
  go_wp2_with fail
  go_ret
  exact ⟨ret_bool (by rw [Bool.eq_iff_iff, beq_iff_eq, decide_eq_true_eq]; omega), B1.out⟩
set_option maxRecDepth 100000 in
set_option maxHeartbeats 8000000 in
theorem refClosure_any (n : Nat) (A : Option Addr) (m c : Nat) (es : List (Nat × Nat)) (w : World) (h : EL w A m (cast es)) (hg : Fine n es) :
    Calls Tryd.prog 44 #[gV n A m c] w fun e w' => ∃ v, e = .returned v ∧ OutN w.heap.size w' v ((List.range n).map fun a => reachL n es [a]) ∧ Below w.heap.size w w' := by
  obtain ⟨j0, hj, jz0, jz1, jz2⟩ := info_parts info_ints
  have hn64 := hg.n64
  have kv := (Below.refl w.heap.size w).alloc (Nat.le_refl _) (.cells #[.int .i64 (n : Nat), .slice A m c] 35)
  have G0 := Lib.hid (Cells.new w #[.int .i64 (n : Nat), .slice A m c] 35)
  have HR := Lib.hid (fun w' a (hb : Below w.heap.size w w') (ha : a < n) => refReach_any n A m c es (some ⟨w'.heap.size, 0, none⟩) 1 [a] (w'.alloc (.cells #[.int .i64 (a : Nat)] 3)) ((h.keep hb).keep ((Below.refl _ _).alloc (Nat.le_refl _) _)) hg (nl_one (w'.alloc (.cells #[.int .i64 (a : Nat)] 3)) w'.heap.size a (by simp) (by simp [go_sem])).il (by simp) (by simpa using ha))
  have kv := Lib.hid kv
  clear h hg
  go_enter Tryd.func44, Tryd.ntmps44
  go_wp2_with fail
  go_loopw [3, 4] (fun v i wr => ∃ a : Nat, i = .int .i64 (a : Nat) ∧ a ≤ n ∧ OutN (w.heap.size + 1) wr v ((List.range a).map fun a => reachL n es [a]) ∧ Cells wr w.heap.size [.int .i64 (n : Nat), .slice A m c] ∧ Below w.heap.size w wr) (fun _ i _ => n - (intOf i).toNat)
  case atStart => exact ⟨0, rfl, Nat.zero_le _, OutN.nil _ _, G0.out, kv.out⟩
  case round =>
    obtain ⟨a, rfl, ha, hout, hgc, hb⟩ := hrel
    have Hout := Lib.hid hout
    have B6 := Lib.hid hb
    have G6 := Lib.hid hgc
    clear hout hb hgc
    obtain ⟨wa, rfl⟩ : ∃ wa : World, wa = wr := ⟨_, rfl⟩
    have g0 := G6.out.at_ 0
    have g1 := G6.out.at_ 1
    simp only [List.getElem?_cons_zero, List.getElem?_cons_succ] at g0 g1
    by_cases hlt : a < n
    · have Hlt := Lib.hid hlt
      have HRa := Lib.hid (HR.out wa a B6.out hlt)
      have bA := (Below.refl wa.heap.size wa).alloc (Nat.le_refl _) (.cells #[.int .i64 (a : Nat)] 3)
      have bA := Lib.hid bA
      go_wp2_with fail
      refine HRa.out.mono ?_
      rintro e w2 ⟨v, rfl, hown, hb2⟩
      obtain ⟨A2, c2, rfl, hl2⟩ := RowL.of_own hown
      have b2 := below_on bA.out hb2
      have G2 := Lib.hid (G6.out.keep b2)
      have B2 := Lib.hid (below_on B6.out b2)
      have L2 := Lib.hid hl2
      obtain ⟨vs, hown2, hrows⟩ := Hout.out.keep b2
      have O2 := Lib.hid hown2
      have R2 := Lib.hid hrows
      have hbc : w.heap.size + 1 ≤ w2.heap.size := G2.out.lt
      have Hl := Lib.hid (show ((List.range a).map fun a => reachL n es [a]).length = a by simp)
      have Hn := Lib.hid (reachL_len n es [a])
      have Hsn := Lib.hid (show ((List.range (a + 1)).map fun a => reachL n es [a]) = ((List.range a).map fun a => reachL n es [a]) ++ [reachL n es [a]] by rw [List.range_succ, List.map_append]; rfl)
      clear hown hl2 hb2 b2 hown2 hrows g0 g1
      go_wp2_with (at_builtin; refine wpList_append_own _ rfl _ _ 47 rfl (w.heap.size + 1) 50 j0 (.slice none 0 0) 1 24 Tryd.underlying47 hj jz0 jz1 jz2 rfl (by decide) _ _ _ rfl (O2.out.alloc _) ⟨w2.heap.size, 0, none⟩ 1 1 [.slice A2 (reachL n es [a]).length c2] rfl rfl ?c1 ?c2 ?c3 ?c4 ?c5 ?_)
      case c1 =>
        intro k u hu
        match k, hu with
        | 0, hu => simp at hu; subst hu; simp [Addr.add]
      case c2 => intro u hu; simp at hu; subst hu; rfl
      case c3 => unfold maxLen; have := Hl.out; omega
      case c4 => have := Hl.out; omega
      case c5 => simp; omega
      intro v' w3 hown' hgrow _
      have HO := Lib.hid (OutN.push O2.out R2.out L2.out (by rw [Hl.out]; exact hown') hgrow)
      rw [← Hsn.out] at HO
      have B7 := Lib.hid ((B2.out.alloc B2.out.size (.cells #[.slice A2 (reachL n es [a]).length c2] 50)).grown hgrow (by simp; omega) (fun k hk => Nat.le_of_succ_le (own_ge O2.out hk)))
      have G7 := Lib.hid (G2.out.keepB (B := w.heap.size + 1) (((Below.refl (w.heap.size + 1) w2).alloc hbc (.cells #[.slice A2 (reachL n es [a]).length c2] 50)).grown hgrow (by simp; omega) (fun k hk => own_ge O2.out hk)) (Nat.lt_succ_self _))
      clear hown' hgrow
      go_wp2_with fail
      go_roundw
      case rel => exact ⟨a + 1, by go_num, Hlt.out, HO.out, G7.out, B7.out⟩
      case measure => simp [intOf]; have := Hlt.out; omega
    · have han : a = n := by omega
      subst han
      go_wp2_with fail
      go_ret
      exact ⟨_, rfl, Hout.out.down (Nat.le_succ _), B6.out⟩
end Go.Proofs.YthocdmlacfejkaaDoor
