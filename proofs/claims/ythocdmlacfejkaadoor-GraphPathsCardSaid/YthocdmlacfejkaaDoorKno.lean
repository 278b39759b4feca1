/- What the document knows of its example. -/
import Derived.Test.YthocdmlacfejkaaDoorExa
import Derived.Test.YthocdmlacfejkaaDoorTre
import Derived.Test.YthocdmlacfejkaaDoorCyl
import Derived.Test.YthocdmlacfejkaaDoorEq
namespace Go.Proofs.YthocdmlacfejkaaDoor
open Go.RowKit
theorem ex_fine : Fine 4 exEs := ⟨by decide +kernel, fun e he => by simp [exEs] at he; rcases he with rfl | rfl | rfl | rfl <;> simp, by decide, by decide⟩
theorem ex_comp : compM exEs 4 = some [3, 4, 8] := comp_example
theorem ex_sink : sinkM exEs [3, 4, 8] = [4] := by decide +kernel
theorem ex_tree : (List.range 4).map (treeV exEs 0) = [-1, 0, 1, -1] := by decide +kernel
theorem ex_cycle : cycleM exEs 4 = some [0, 1] := by decide +kernel
theorem ex_bits : [3, 4, 8].map bitsOf = [[0, 1], [2], [3]] := by decide +kernel
theorem ex_bits4 : [4].map bitsOf = [[2]] := by decide +kernel
abbrev wA (w : World) : World := (((w.alloc (.cells #[.int .i64 0, .int .i64 1] 3)).alloc (.cells #[.int .i64 2] 3)).alloc (.cells #[.int .i64 3] 3)).alloc (.cells #[.slice (some ⟨w.heap.size, 0, none⟩) 2 2, .slice (some ⟨w.heap.size + 1, 0, none⟩) 1 1, .slice (some ⟨w.heap.size + 1 + 1, 0, none⟩) 1 1] 50)
theorem wA_below (w : World) : Below w.heap.size w (wA w) := ((((Below.refl _ _).alloc (Nat.le_refl _) _).alloc (by simp) _).alloc (by simp; omega) _).alloc (by simp; omega) _
theorem nl_one (w : World) (p n : Nat) (hp : p < w.heap.size) (h : w.cell? ⟨p, 0, none⟩ = some (.int .i64 (n : Nat))) : NL 0 w (some ⟨p, 0, none⟩) [n] := fun k x hk => by
  match k, hk with
  | 0, hk => simp at hk; subst hk; exact ⟨p, 0, rfl, Nat.zero_le _, hp, h⟩
theorem nl_two (w : World) (p n m : Nat) (hp : p < w.heap.size) (h : w.cell? ⟨p, 0, none⟩ = some (.int .i64 (n : Nat))) (h1 : w.cell? ⟨p, 1, none⟩ = some (.int .i64 (m : Nat))) : NL 0 w (some ⟨p, 0, none⟩) [n, m] := fun k x hk => by
  match k, hk with
  | 0, hk => simp at hk; subst hk; exact ⟨p, 0, rfl, Nat.zero_le _, hp, h⟩
  | 1, hk => simp at hk; subst hk; exact ⟨p, 0, rfl, Nat.zero_le _, hp, h1⟩
theorem wA_ll (w : World) : LL 0 (wA w) (some ⟨w.heap.size + 1 + 1 + 1, 0, none⟩) [[0, 1], [2], [3]] := fun k l hk => by
  match k, hk with
  | 0, hk => simp at hk; subst hk; exact ⟨_, 0, _, 2, rfl, Nat.zero_le _, by simp, by simp [go_sem], nl_two _ w.heap.size 0 1 (by simp; omega) (by simp [go_sem]) (by simp [go_sem])⟩
  | 1, hk => simp at hk; subst hk; exact ⟨_, 0, _, 1, rfl, Nat.zero_le _, by simp, by simp [go_sem], nl_one _ (w.heap.size + 1) 2 (by simp) (by simp [go_sem])⟩
  | 2, hk => simp at hk; subst hk; exact ⟨_, 0, _, 1, rfl, Nat.zero_le _, by simp, by simp [go_sem], nl_one _ (w.heap.size + 1 + 1) 3 (by simp) (by simp [go_sem])⟩
abbrev wB (w : World) : World := (w.alloc (.cells #[.int .i64 2] 3)).alloc (.cells #[.slice (some ⟨w.heap.size, 0, none⟩) 1 1] 50)
theorem wB_below (w : World) : Below w.heap.size w (wB w) := ((Below.refl _ _).alloc (Nat.le_refl _) _).alloc (by simp) _
theorem wB_ll (w : World) : LL 0 (wB w) (some ⟨w.heap.size + 1, 0, none⟩) [[2]] := fun k l hk => by
  match k, hk with
  | 0, hk => simp at hk; subst hk; exact ⟨_, 0, _, 1, rfl, Nat.zero_le _, by simp, by simp [go_sem], nl_one _ w.heap.size 2 (by simp; omega) (by simp [go_sem])⟩
abbrev wC (w : World) : World := w.alloc (.cells #[.int .i64 (-1), .int .i64 0, .int .i64 1, .int .i64 (-1)] 3)
theorem wC_below (w : World) : Below w.heap.size w (wC w) := (Below.refl _ _).alloc (Nat.le_refl _) _
theorem wC_il (w : World) : IL (wC w) (some ⟨w.heap.size, 0, none⟩) [-1, 0, 1, -1] := fun k x hk => by
  match k, hk with
  | 0, hk => simp at hk; subst hk; exact ⟨_, 0, rfl, by simp, by simp [go_sem]⟩
  | 1, hk => simp at hk; subst hk; exact ⟨_, 0, rfl, by simp, by simp [go_sem]⟩
  | 2, hk => simp at hk; subst hk; exact ⟨_, 0, rfl, by simp, by simp [go_sem]⟩
  | 3, hk => simp at hk; subst hk; exact ⟨_, 0, rfl, by simp, by simp [go_sem]⟩
abbrev wE (w : World) : World := w.alloc (.cells #[.int .i64 0, .int .i64 1] 3)
theorem wE_below (w : World) : Below w.heap.size w (wE w) := (Below.refl _ _).alloc (Nat.le_refl _) _
theorem wE_il (w : World) : IL (wE w) (some ⟨w.heap.size, 0, none⟩) [0, 1] := fun k x hk => by
  match k, hk with
  | 0, hk => simp at hk; subst hk; exact ⟨_, 0, rfl, by simp, by simp [go_sem]⟩
  | 1, hk => simp at hk; subst hk; exact ⟨_, 0, rfl, by simp, by simp [go_sem]⟩
set_option maxRecDepth 100000 in
set_option maxHeartbeats 8000000 in
theorem known_any (w : World) (hw : Good w) : Calls Tryd.prog 14 #[] w fun e w' => e = .returned (.bool true) ∧ Below w.heap.size w w' := by
  have HX := Lib.hid (fun w' => example_any w')
  have HG := Lib.hid (fun w' (hb' : Below w.heap.size w w') => hw.below hb' hw.size)
  have HK := Lib.hid (fun A w' (h : EL w' A 4 (cast exEs)) (hb' : Below w.heap.size w w') => comps_any 4 A 4 4 exEs [3, 4, 8] w' h ex_fine ex_comp (by decide) (by decide) (hw.below hb' hw.size))
  have HS := Lib.hid (fun A w' (h : EL w' A 4 (cast exEs)) (hb' : Below w.heap.size w w') => sinks_any 4 A 4 4 exEs [3, 4, 8] w' h ex_fine ex_comp (by decide) (by decide) (hw.below hb' hw.size))
  have HT := Lib.hid (fun A w' (h : EL w' A 4 (cast exEs)) (hb' : Below w.heap.size w w') => tree_any 4 A 4 4 exEs 0 w' h ex_fine (by decide) (hw.below hb' hw.size))
  have HC := Lib.hid (fun A w' (h : EL w' A 4 (cast exEs)) (hb' : Below w.heap.size w w') => cycle_any 4 A 4 4 exEs w' h ex_fine (hw.below hb' hw.size))
  rw [ex_bits] at HK
  rw [ex_sink, ex_bits4] at HS
  clear hw
  go_enter Tryd.func14, Tryd.ntmps14
  go_wp2_with fail
  refine (HX.out _).mono ?_
  rintro e w1 ⟨A1, rfl, hE1, hb1⟩
  have E1 := Lib.hid hE1
  have B1 := Lib.hid hb1
  clear hE1 hb1
  go_wp2_with fail
  refine (HK.out _ _ E1.out B1.out).mono ?_
  rintro e w2 ⟨K2, rfl, hL2, hb2⟩
  have B2 := Lib.hid (below_on B1.out hb2)
  have L2 := Lib.hid (hL2.down B1.out.size)
  clear hL2 hb2
  go_wp2_with fail
  refine (HX.out _).mono ?_
  rintro e w3 ⟨A3, rfl, hE3, hb3⟩
  have E3 := Lib.hid hE3
  have B3 := Lib.hid (below_on B2.out hb3)
  have L3 := Lib.hid (L2.out.keep hb3)
  clear hE3 hb3
  go_wp2_with fail
  refine (HS.out _ _ E3.out B3.out).mono ?_
  rintro e w4 ⟨K4, rfl, hM4, hb4⟩
  have B4 := Lib.hid (below_on B3.out hb4)
  have L4 := Lib.hid (L3.out.keep hb4)
  have M4 := Lib.hid (hM4.down B3.out.size)
  clear hM4 hb4
  go_wp2_with fail
  refine (HX.out _).mono ?_
  rintro e w5 ⟨A5, rfl, hE5, hb5⟩
  have E5 := Lib.hid hE5
  have B5 := Lib.hid (below_on B4.out hb5)
  have L5 := Lib.hid (L4.out.keep hb5)
  have M5 := Lib.hid (M4.out.keep hb5)
  clear hE5 hb5
  go_wp2_with fail
  refine (HT.out _ _ E5.out B5.out).mono ?_
  rintro e w6 ⟨⟨g6, rfl, hg6, hI6⟩, hb6⟩
  rw [ex_tree] at hI6
  have B6 := Lib.hid (below_on B5.out hb6)
  have L6 := Lib.hid (L5.out.keep hb6)
  have M6 := Lib.hid (M5.out.keep hb6)
  have I6 := Lib.hid hI6
  clear hI6 hb6 hg6
  go_wp2_with fail
  refine (HX.out _).mono ?_
  rintro e w7 ⟨A7, rfl, hE7, hb7⟩
  have E7 := Lib.hid hE7
  have B7 := Lib.hid (below_on B6.out hb7)
  have L7 := Lib.hid (L6.out.keep hb7)
  have M7 := Lib.hid (M6.out.keep hb7)
  have I7 := Lib.hid (I6.out.keep hb7)
  clear hE7 hb7
  go_wp2_with fail
  refine (HC.out _ _ E7.out B7.out).mono ?_
  rintro e w8 ⟨hcy, hb8⟩
  rcases hcy with ⟨hno, _⟩ | ⟨lc, g8, c8, hyes, rfl, hN8⟩
  · rw [ex_cycle] at hno; cases hno
  · rw [ex_cycle] at hyes
    injection hyes with hyes
    subst hyes
    have B8 := Lib.hid (below_on B7.out hb8)
    have L8 := Lib.hid (L7.out.keep hb8)
    have M8 := Lib.hid (M7.out.keep hb8)
    have I8 := Lib.hid (I7.out.keep hb8)
    have N8 := Lib.hid hN8
    clear hN8 hb8
    go_wp2_with fail
    refine (lawLists_any _ 0 K2 (some ⟨w8.heap.size + 1 + 1 + 1, 0, none⟩) 3 3 [[0, 1], [2], [3]] [[0, 1], [2], [3]] (wA w8) (L8.out.keep (wA_below w8)) (wA_ll w8) (by decide) (by decide) (by decide) (by decide)).mono ?_
    rintro e w9 ⟨rfl, hb9⟩
    have b9 := below_on (wA_below w8) hb9
    have B9 := Lib.hid (below_on B8.out b9)
    have M9 := Lib.hid (M8.out.keep b9)
    have I9 := Lib.hid (I8.out.keep b9)
    have N9 := Lib.hid (N8.out.keep b9)
    rw [show (([[0, 1], [2], [3]] : List (List Nat)) == [[0, 1], [2], [3]]) = true by decide]
    clear hb9 b9
    go_wp2_with fail
    refine (lawLists_any _ 0 K4 (some ⟨w9.heap.size + 1, 0, none⟩) 1 1 [[2]] [[2]] (wB w9) (M9.out.keep (wB_below w9)) (wB_ll w9) (by decide) (by decide) (by decide) (by decide)).mono ?_
    rintro e w10 ⟨rfl, hb10⟩
    have b10 := below_on (wB_below w9) hb10
    have B10 := Lib.hid (below_on B9.out b10)
    have I10 := Lib.hid (I9.out.keep b10)
    have N10 := Lib.hid (N9.out.keep b10)
    rw [show (([[2]] : List (List Nat)) == [[2]]) = true by decide]
    clear hb10 b10
    go_wp2_with fail
    refine (equal_any (some ⟨g6, 0, none⟩) (some ⟨w10.heap.size, 0, none⟩) 4 4 [-1, 0, 1, -1] [-1, 0, 1, -1] (wC w10) (I10.out.keep (wC_below w10)) (wC_il w10) (by decide) (by decide)).mono ?_
    rintro e w11 ⟨rfl, hb11⟩
    have b11 := below_on (wC_below w10) hb11
    have B11 := Lib.hid (below_on B10.out b11)
    have N11 := Lib.hid (N10.out.keep b11)
    rw [show (([-1, 0, 1, -1] : List Int) == [-1, 0, 1, -1]) = true by decide]
    clear hb11 b11
    go_wp2_with fail
    refine (equal_any (some ⟨g8, 0, none⟩) (some ⟨w11.heap.size, 0, none⟩) c8 2 [0, 1] [0, 1] (wE w11) (N11.out.il.keep (wE_below w11)) (wE_il w11) (by decide) (by decide)).mono ?_
    rintro e w12 ⟨rfl, hb12⟩
    have b12 := below_on (wE_below w11) hb12
    have B12 := Lib.hid (below_on B11.out b12)
    rw [show (([0, 1] : List Int) == [0, 1]) = true by decide]
    clear hb12 b12
    go_wp2_with fail
    go_ret
    exact ⟨rfl, B12.out⟩
end Go.Proofs.YthocdmlacfejkaaDoor
