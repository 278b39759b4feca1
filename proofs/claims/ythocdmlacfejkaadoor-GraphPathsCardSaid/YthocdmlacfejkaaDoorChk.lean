/- Check: edges in order. -/
import Derived.Test.YthocdmlacfejkaaDoorStp
namespace Go.Proofs.YthocdmlacfejkaaDoor
open Go.RowKit
/-- The first one that is not 0. -/
def orI (a b : Int) : Int := if a = 0 then b else a
theorem orI_zero (b : Int) : orI 0 b = b := rfl
theorem orI_pos {a : Int} (b : Int) (h : a ≠ 0) : orI a b = a := if_neg h
/-- The order of edges. -/
def cmpE (a b : Int × Int) : Int := orI (Lib.compareInt a.1 b.1) (Lib.compareInt a.2 b.2)
theorem cmpI_cases (x y : Int) : (Lib.compareInt x y = -1 ∧ x < y) ∨ (Lib.compareInt x y = 0 ∧ x = y) ∨ (Lib.compareInt x y = 1 ∧ y < x) := by
  unfold Lib.compareInt
  by_cases h1 : x < y
  · simp [h1]
  · by_cases h2 : y < x
    · simp [h1, h2]
    · simp [h1, h2]; omega
theorem cmpE_ge (a b : Int × Int) : (0 ≤ cmpE a b) ↔ ¬ (a.1 < b.1 ∨ (a.1 = b.1 ∧ a.2 < b.2)) := by
  unfold cmpE orI
  rcases cmpI_cases a.1 b.1 with ⟨h, h'⟩ | ⟨h, h'⟩ | ⟨h, h'⟩ <;> rcases cmpI_cases a.2 b.2 with ⟨g, g'⟩ | ⟨g, g'⟩ | ⟨g, g'⟩ <;> simp [h, g] <;> omega
set_option maxHeartbeats 1000000 in
theorem or_any (p : Nat) (a b : Int) (w : World) (h0 : w.cell? ⟨p, 0, none⟩ = some (.int .i64 a)) (h1 : w.cell? ⟨p, 1, none⟩ = some (.int .i64 b)) :
    Calls Tryd.prog 108 #[.slice (some ⟨p, 0, none⟩) 2 2] w fun e w' => e = .returned (.int .i64 (orI a b)) ∧ w = w' := by
  have H0 := Lib.hid h0
  have H1 := Lib.hid h1
  clear h0 h1
  go_enter Tryd.func108, Tryd.ntmps108
  go_wp2_with fail
  go_loop [8] (fun i => ∃ k : Nat, k ≤ 2 ∧ i = .int .i64 (k : Nat) ∧ (0 < k → a = 0) ∧ (1 < k → b = 0)) (fun i => 2 - (intOf i).toNat)
  case atStart => exact ⟨0, by omega, rfl, by simp, by simp⟩
  case round =>
    obtain ⟨k, hk, rfl, ha, hb⟩ := hrel
    rcases (by omega : k = 0 ∨ k = 1 ∨ k = 2) with rfl | rfl | rfl
    · have c0 := H0.out
      by_cases hz : a = 0
      · subst hz
        clear ha hb
        go_wp2
        go_round
        case rel => exact ⟨1, by omega, rfl, by simp, by simp⟩
        case measure => simp [intOf]
      · have t0 : (a != 0) = true := by simp [hz]
        have Hz := Lib.hid hz
        clear hz ha hb
        go_wp2
        go_ret
        exact ⟨ret_int (orI_pos b Hz.out).symm, rfl⟩
    · have c1 := H1.out
      have Ha := Lib.hid (ha (by omega))
      by_cases hz : b = 0
      · subst hz
        clear ha hb
        go_wp2
        go_round
        case rel => exact ⟨2, by omega, rfl, by simp [Ha.out], by simp⟩
        case measure => simp [intOf]
      · have t0 : (b != 0) = true := by simp [hz]
        clear hz ha hb
        go_wp2
        go_ret
        exact ⟨ret_int (by rw [Ha.out]; rfl), rfl⟩
    · have Ha := Lib.hid (ha (by omega))
      have Hb := Lib.hid (hb (by omega))
      clear ha hb
      go_wp2
      go_ret
      exact ⟨ret_int (by rw [Ha.out, Hb.out]; rfl), rfl⟩
set_option maxRecDepth 100000 in
set_option maxHeartbeats 2000000 in
theorem compare_any (a b : Int × Int) (w : World) :
    Calls Tryd.prog 72 #[.agg #[.int .i64 a.1, .int .i64 a.2], .agg #[.int .i64 b.1, .int .i64 b.2]] w fun e w' => e = .returned (.int .i64 (cmpE a b)) ∧ Below w.heap.size w w' := by
  obtain ⟨a1, a2⟩ := a
  obtain ⟨b1, b2⟩ := b
  have H := Lib.hid (show cmpE (a1, a2) (b1, b2) = orI (Lib.compareInt a1 b1) (Lib.compareInt a2 b2) from rfl)
  obtain ⟨c, hc⟩ : ∃ c, cmpE (a1, a2) (b1, b2) = c := ⟨_, rfl⟩
  rw [hc] at H
  rw [hc]
  have HC := Lib.hid (fun x y w => Tryd.cmp_Compare_int x y w)
  obtain ⟨f, hf⟩ : ∃ f, Lib.compareInt = f := ⟨_, rfl⟩
  rw [hf] at H HC
  clear hc hf
  simp only
  have E1 := Lib.hid ((Cells.new w #[.int .i64 a1, .int .i64 a2] 32).keep ((Below.refl _ _).alloc (Nat.le_refl _) (.cells #[.int .i64 b1, .int .i64 b2] 32)))
  have E2 := Lib.hid (Cells.new (w.alloc (.cells #[.int .i64 a1, .int .i64 a2] 32)) #[.int .i64 b1, .int .i64 b2] 32)
  have HB := Lib.hid (((Below.refl w.heap.size w).alloc (Nat.le_refl _) (.cells #[.int .i64 a1, .int .i64 a2] 32)).alloc (by simp) (.cells #[.int .i64 b1, .int .i64 b2] 32))
  obtain ⟨w2, hw2⟩ : ∃ u, (w.alloc (.cells #[.int .i64 a1, .int .i64 a2] 32)).alloc (.cells #[.int .i64 b1, .int .i64 b2] 32) = u := ⟨_, rfl⟩
  rw [hw2] at E1 E2 HB
  have hs1 : (w.alloc (.cells #[.int .i64 a1, .int .i64 a2] 32)).heap.size = w.heap.size + 1 := by simp
  rw [hs1] at E2
  clear hs1
  have c0 := E1.out.at_ 0
  have c1 := E1.out.at_ 1
  have c2 := E2.out.at_ 0
  have c3 := E2.out.at_ 1
  simp only [List.getElem?_cons_zero, List.getElem?_cons_succ] at c0 c1 c2 c3
  go_enter Tryd.func72, Tryd.ntmps72
  go_wp2_with fail
  go_still_tail 10, (by kernel_rfl)
  still_call (HC.out _ _ _)
  repeat still_step
  still_call (HC.out _ _ _)
  repeat still_step
  refine wpStill_nil ?_
  change wpList _ _ _ _ _ w2.drew
  go_wp2_with fail
  refine (or_any _ (f a1 b1) (f a2 b2) _ (by simp [go_sem]) (by simp [go_sem])).mono ?_
  rintro e w' ⟨rfl, rfl⟩
  go_wp2_with fail
  go_ret
  exact ⟨ret_int H.out.symm, HB.out.drew.alloc (by have := HB.out.size; simpa using this) _⟩
/-- Both nodes of an edge exist. -/
def okE (n : Int) (e : Int × Int) : Bool := decide (0 ≤ e.1) && decide (e.1 < n) && decide (0 ≤ e.2) && decide (e.2 < n)
def edgesE (n : Int) (es : List (Int × Int)) : Int := if es.all (okE n) then 0 else 2
theorem all_take {α : Type} {p : α → Bool} {l : List α} {k : Nat} {x : α} (h : l[k]? = some x) (ha : (l.take k).all p = true) (hx : p x = true) : (l.take (k + 1)).all p = true := by
  rw [List.take_add_one, h, List.all_append, ha]; simp [hx]
theorem edgesE_bad {n : Int} {es : List (Int × Int)} {k : Nat} {x : Int × Int} (h : es[k]? = some x) (hx : okE n x = false) : edgesE n es = 2 := by
  unfold edgesE
  rw [if_neg]
  intro ha
  rw [List.all_eq_true.1 ha x (List.mem_of_getElem? h)] at hx
  cases hx
theorem edgesE_ok {n : Int} {es : List (Int × Int)} {k : Nat} (hk : es.length ≤ k) (h : (es.take k).all (okE n) = true) : edgesE n es = 0 := by
  rw [List.take_of_length_le hk] at h
  unfold edgesE
  rw [if_pos h]
set_option maxRecDepth 100000 in
set_option maxHeartbeats 2000000 in
theorem checkEdges_any (n : Int) (A : Option Addr) (m c : Nat) (es : List (Int × Int)) (w : World) (h : EL w A m es) (hm : m ≤ 4611686018427387904) :
    Calls Tryd.prog 70 #[.int .i64 n, .slice A m c] w fun e w' => e = .returned (.int .i64 (edgesE n es)) ∧ Below w.heap.size w w' := by
  have hlen := h.1
  have H := Lib.hid h
  have hnl := Nat.le_of_eq hlen
  clear h hlen
  go_enter Tryd.func70, Tryd.ntmps70
  go_wp2_with fail
  go_loopw [9] (fun i wr => ∃ k : Nat, k ≤ m ∧ i = .int .i64 (k : Nat) ∧ (es.take k).all (okE n) = true ∧ Below w.heap.size w wr) (fun i _ => m - (intOf i).toNat)
  case atStart => exact ⟨0, Nat.zero_le _, rfl, by simp, Below.refl _ _⟩
  case round =>
    obtain ⟨k, hk, rfl, ha, hb⟩ := hrel
    have Ha := Lib.hid ha
    have Hb := Lib.hid hb
    clear ha hb
    by_cases hlt : k < m
    · obtain ⟨e, b, o, he, rfl, hbl, c0, c1⟩ := (H.out.keep Hb.out).at_ hlt
      obtain ⟨x, y⟩ := e
      have He := Lib.hid he
      have Hb2 := Lib.hid (Hb.out.alloc Hb.out.size (.cells #[.int .i64 x, .int .i64 y] 32))
      simp only at c0 c1
      clear he
      by_cases h1 : x < 0
      · have t1 : decide (x < 0) = true := decide_eq_true h1
        have Hf := Lib.hid (edgesE_bad (n := n) He.out (by simp [okE]; omega))
        clear h1
        go_wp2
        go_ret
        exact ⟨ret_int Hf.out.symm, Hb2.out⟩
      · have t1 : decide (x < 0) = false := decide_eq_false h1
        by_cases h2 : n ≤ x
        · have t2 : decide (n ≤ x) = true := decide_eq_true h2
          have Hf := Lib.hid (edgesE_bad (n := n) He.out (by simp [okE]; omega))
          clear h1 h2
          go_wp2
          go_ret
          exact ⟨ret_int Hf.out.symm, Hb2.out⟩
        · have t2 : decide (n ≤ x) = false := decide_eq_false h2
          by_cases h3 : y < 0
          · have t3 : decide (y < 0) = true := decide_eq_true h3
            have Hf := Lib.hid (edgesE_bad (n := n) He.out (by simp [okE]; omega))
            clear h1 h2 h3
            go_wp2
            go_ret
            exact ⟨ret_int Hf.out.symm, Hb2.out⟩
          · have t3 : decide (y < 0) = false := decide_eq_false h3
            by_cases h4 : n ≤ y
            · have t4 : decide (n ≤ y) = true := decide_eq_true h4
              have Hf := Lib.hid (edgesE_bad (n := n) He.out (by simp [okE]; omega))
              clear h1 h2 h3 h4
              go_wp2
              go_ret
              exact ⟨ret_int Hf.out.symm, Hb2.out⟩
            · have t4 : decide (n ≤ y) = false := decide_eq_false h4
              have Hf := Lib.hid (all_take He.out Ha.out (show okE n (x, y) = true by simp [okE]; omega))
              clear h1 h2 h3 h4
              go_wp2
              go_roundw
              case rel => exact ⟨k + 1, by omega, by go_num, Hf.out, Hb2.out⟩
              case measure => simp [intOf]; omega
    · have Hf := Lib.hid (edgesE_ok (by omega) Ha.out)
      go_wp2
      go_ret
      exact ⟨ret_int Hf.out.symm, Hb.out⟩
/-- Edges in increasing order. -/
def ordE : List (Int × Int) → Bool
  | a :: b :: l => decide (cmpE a b < 0) && ordE (b :: l)
  | _ => true
theorem ordE_iff : ∀ (es : List (Int × Int)), ordE es = true ↔ ∀ i a b, es[i]? = some a → es[i + 1]? = some b → cmpE a b < 0
  | [] => by simp [ordE]
  | [x] => by simp [ordE]
  | x :: y :: l => by
    rw [ordE, Bool.and_eq_true, decide_eq_true_eq, ordE_iff (y :: l)]
    constructor
    · rintro ⟨h1, h2⟩ i a b ha hb
      cases i with
      | zero => simp at ha hb; subst ha hb; exact h1
      | succ i => exact h2 i a b (by simpa using ha) (by simpa using hb)
    · intro h
      exact ⟨h 0 x y rfl rfl, fun i a b ha hb => h (i + 1) a b (by simpa using ha) (by simpa using hb)⟩
/-- The first error of a graph. -/
def checkG (n : Int) (es : List (Int × Int)) : Int :=
  if n < 0 ∨ 64 < n then 2 else if n * n < es.length then 6 else if es.all (okE n) = false then 2 else if ordE es = false then 8 else 0
end Go.Proofs.YthocdmlacfejkaaDoor
