/- The law GraphMakes. -/
import Derived.Test.YthocdmlacfejkaaDoorGrh
import Derived.Test.YthocdmlacfejkaaDoorRmk
import Derived.Test.YthocdmlacfejkaaDoorSm2
namespace Go.Proofs.YthocdmlacfejkaaDoor
open Go.RowKit
set_option maxRecDepth 100000 in
set_option maxHeartbeats 8000000 in
theorem make_bad (n : Int) (A : Option Addr) (m c : Nat) (es : List (Int × Int)) (w : World) (h : EL w A m es) (hm : m ≤ 100000) (hb : n < 0 ∨ 64 < n ∨ es.all (okE n) = false) :
    Calls Tryd.prog 16 #[.int .i64 n, .slice A m c] w fun e w' => e = .returned (.tuple #[gV 0 none 0 0, .int .i64 2]) ∧ Below w.heap.size w w' := by
  have kv := (Below.refl w.heap.size w).alloc (Nat.le_refl _) (.cells #[.int .i64 0, .slice none 0 0] 26)
  have X0 := Cells.new w #[.int .i64 0, .slice none 0 0] 26
  have HE := checkEdges_any n A m c es (w.alloc (.cells #[.int .i64 0, .slice none 0 0] 26)) (h.keep kv) (by omega)
  by_cases h0 : n < 0
  · have t0 : decide (n < 0) = true := decide_eq_true h0
    clear h hm hb HE h0
    have X2 := Lib.hid X0
    have B2 := Lib.hid kv
    clear X0 kv
    go_enter Tryd.func16, Tryd.ntmps16
    go_wp2_with fail
    exact bodyPost_ret (ret_graph rfl _ _ w.heap.size _ _ rfl X2.out) rfl ⟨rfl, B2.out⟩
  by_cases h1 : 64 < n
  · have t0 : decide (n < 0) = false := decide_eq_false h0
    have t1 : decide ((64 : Int) < n) = true := decide_eq_true h1
    clear h hm hb HE h0 h1
    have X2 := Lib.hid X0
    have B2 := Lib.hid kv
    clear X0 kv
    go_enter Tryd.func16, Tryd.ntmps16
    go_wp2_with fail
    exact bodyPost_ret (ret_graph rfl _ _ w.heap.size _ _ rfl X2.out) rfl ⟨rfl, B2.out⟩
  · have t0 : decide (n < 0) = false := decide_eq_false h0
    have t1 : decide ((64 : Int) < n) = false := decide_eq_false h1
    have ha : es.all (okE n) = false := (hb.resolve_left h0).resolve_left h1
    unfold edgesE at HE
    rw [ha, if_neg (by simp)] at HE
    have HE := Lib.hid HE
    have X0 := Lib.hid X0
    have kv := Lib.hid kv
    clear h hm hb ha h0 h1
    go_enter Tryd.func16, Tryd.ntmps16
    go_wp2_with fail
    refine HE.out.mono ?_
    rintro e w1 ⟨rfl, hb1⟩
    have X1 := X0.out.keep hb1
    have B1 := below_on kv.out hb1
    have x0 := X1.at_ 0
    have x1 := X1.at_ 1
    have f0 := X1.fz 0
    have f1 := X1.fz 1
    simp only [List.getElem?_cons_zero, List.getElem?_cons_succ] at x0 x1
    have X2 := Lib.hid ((X1.set 0 (.int .i64 0) (by simp)).set 1 (.slice none 0 0) (by simp))
    have B2 := Lib.hid ((B1.setCell (p := ⟨w.heap.size, 0, none⟩) (by simp) (.int .i64 0)).setCell (p := ⟨w.heap.size, 1, none⟩) (by simp) (.slice none 0 0))
    clear X1 B1 hb1
    go_wp2_with fail
    exact bodyPost_ret (ret_graph rfl _ _ w.heap.size _ _ rfl X2.out) rfl ⟨rfl, B2.out⟩
set_option maxRecDepth 100000 in
set_option maxHeartbeats 8000000 in
theorem refMake_bad (n : Int) (A : Option Addr) (m c : Nat) (es : List (Int × Int)) (w : World) (h : EL w A m es) (hm : m ≤ 100000) (hb : n < 0 ∨ 64 < n ∨ es.all (okE n) = false) :
    Calls Tryd.prog 18 #[.int .i64 n, .slice A m c] w fun e w' => e = .returned (.tuple #[gV 0 none 0 0, .int .i64 2]) ∧ Below w.heap.size w w' := by
  have kv := (Below.refl w.heap.size w).alloc (Nat.le_refl _) (.cells #[.int .i64 0, .slice none 0 0] 35)
  have X0 := Cells.new w #[.int .i64 0, .slice none 0 0] 35
  have HE := inside_any n A m c es (w.alloc (.cells #[.int .i64 0, .slice none 0 0] 35)) (h.keep kv) (by omega)
  by_cases h0 : n < 0
  · have t0 : decide (n < 0) = true := decide_eq_true h0
    clear h hm hb HE h0
    have X2 := Lib.hid X0
    have B2 := Lib.hid kv
    clear X0 kv
    go_enter Tryd.func18, Tryd.ntmps18
    go_wp2_with fail
    exact bodyPost_ret (ret_refg rfl _ _ w.heap.size _ _ rfl X2.out) rfl ⟨rfl, B2.out⟩
  by_cases h1 : 64 < n
  · have t0 : decide (n < 0) = false := decide_eq_false h0
    have t1 : decide ((64 : Int) < n) = true := decide_eq_true h1
    clear h hm hb HE h0 h1
    have X2 := Lib.hid X0
    have B2 := Lib.hid kv
    clear X0 kv
    go_enter Tryd.func18, Tryd.ntmps18
    go_wp2_with fail
    exact bodyPost_ret (ret_refg rfl _ _ w.heap.size _ _ rfl X2.out) rfl ⟨rfl, B2.out⟩
  · have t0 : decide (n < 0) = false := decide_eq_false h0
    have t1 : decide ((64 : Int) < n) = false := decide_eq_false h1
    have ha : es.all (okE n) = false := (hb.resolve_left h0).resolve_left h1
    rw [ha] at HE
    have HE := Lib.hid HE
    have X0 := Lib.hid X0
    have kv := Lib.hid kv
    clear h hm hb ha h0 h1
    go_enter Tryd.func18, Tryd.ntmps18
    go_wp2_with fail
    refine HE.out.mono ?_
    rintro e w1 ⟨rfl, rfl⟩
    have X1 := X0.out
    have B1 := kv.out
    have X2 := Lib.hid X1
    have B2 := Lib.hid B1
    clear X1 B1
    go_wp2_with fail
    exact bodyPost_ret (ret_refg rfl _ _ w.heap.size _ _ rfl X2.out) rfl ⟨rfl, B2.out⟩
theorem made_check {k : Nat} {l : List (Nat × Nat)} (hl : Low k l) (hk : k ≤ 64) : checkG (k : Int) (cast (makeL k l)) = 0 := by
  have hp := make_sorted k l
  have hall : (cast (makeL k l)).all (okE (k : Int)) = true := by
    rw [List.all_eq_true]
    intro x hx
    obtain ⟨e, he, rfl⟩ := cast_mem.1 hx
    have := hl e ((mem_make hl).1 he)
    unfold okE
    simp
    omega
  have hle := make_len (n := k) (es := l)
  refine checkG_ok (by omega) (by rw [cast_len]; exact_mod_cast hle) hall (Nat.le_refl _) fun i a b hi ha hb => ?_
  have h1 := List.pairwise_iff_getElem.1 hp i (i + 1) (by omega) hi (by omega)
  rw [List.getElem?_eq_getElem (by omega)] at ha
  rw [List.getElem?_eq_getElem hi] at hb
  injection ha with ha
  injection hb with hb
  rw [ha, hb] at h1
  have := (ltE_iff a b).2 h1
  unfold ltOf at this
  exact of_decide_eq_true this
theorem low_split {n : Int} {m : Nat} {es : List (Int × Int)} (hf : fewG n m = true) (h : ¬ (n < 0 ∨ 64 < n ∨ es.all (okE n) = false)) : ∃ (k : Nat) (l : List (Nat × Nat)), n = k ∧ es = cast l ∧ Low k l ∧ k ≤ 8 := by
  have hall : es.all (okE n) = true := by
    cases e : es.all (okE n) with
    | true => rfl
    | false => exact absurd (.inr (.inr e)) h
  unfold fewG at hf
  simp only [Bool.and_eq_true, Bool.or_eq_true, decide_eq_true_eq] at hf
  obtain ⟨k, rfl⟩ : ∃ k : Nat, n = k := ⟨n.toNat, by omega⟩
  rw [List.all_eq_true] at hall
  refine ⟨k, es.map fun e => (e.1.toNat, e.2.toNat), rfl, ?_, ?_, by omega⟩
  · unfold cast
    rw [List.map_map]
    rw [List.map_congr_left (g := id) fun x hx => ?_, List.map_id]
    have := hall x hx
    unfold okE at this
    simp only [Bool.and_eq_true, decide_eq_true_eq] at this
    obtain ⟨a, b⟩ := x
    simp only [Function.comp_apply, id] at this ⊢
    rw [Int.toNat_of_nonneg (by omega), Int.toNat_of_nonneg (by omega)]
  · intro e he
    obtain ⟨x, hx, rfl⟩ := List.mem_map.1 he
    have := hall x hx
    unfold okE at this
    simp only [Bool.and_eq_true, decide_eq_true_eq] at this
    simp only
    omega
set_option maxRecDepth 100000 in
set_option maxHeartbeats 8000000 in
theorem gmk_any (n : Int) (A : Option Addr) (m c : Nat) (es : List (Int × Int)) (w : World) (h : EL w A m es) (hw : Good w) :
    Calls Tryd.prog 3 #[.int .i64 n, .slice A m c] w fun e w' => e = .returned (.bool true) ∧ Below w.heap.size w w' := by
  have HK := Lib.hid (fun w' (hb : Below w.heap.size w w') => known_any w' (hw.below hb hw.size))
  have HE := Lib.hid (fun w' (hb : Below w.heap.size w w') => h.keep hb)
  have HF := Lib.hid (fun w' => few_any n A m c w')
  have hml := h.1
  obtain ⟨fb, hfb⟩ : ∃ fb, fewG n m = fb := ⟨_, rfl⟩
  rw [hfb] at HF
  have B0 := Lib.hid (Below.refl w.heap.size w)
  clear h hw
  go_enter Tryd.func3, Tryd.ntmps3
  go_wp2_with fail
  refine (HK.out _ B0.out).mono ?_
  rintro e w1 ⟨rfl, hb1⟩
  have B1 := Lib.hid (below_on B0.out hb1)
  clear hb1
  go_wp2_with fail
  refine (HF.out _).mono ?_
  rintro e w2 ⟨rfl, hb2⟩
  have B2 := Lib.hid (below_on B1.out hb2)
  clear hb2
  cases fb with
  | false =>
    clear hfb
    go_wp2_with fail
    refine (HK.out _ B2.out).mono ?_
    rintro e w3 ⟨rfl, hb3⟩
    have B3 := Lib.hid (below_on B2.out hb3)
    clear hb3
    go_wp2_with fail
    go_ret
    exact ⟨rfl, B3.out⟩
  | true =>
    have hm24 : m ≤ 24 := by
      unfold fewG at hfb
      simp only [Bool.and_eq_true, decide_eq_true_eq] at hfb
      exact hfb.1
    by_cases hbad : n < 0 ∨ 64 < n ∨ es.all (okE n) = false
    · have Hbad := Lib.hid hbad
      clear hbad hfb
      go_wp2_with fail
      refine (clone_any A m c es w2 (HE.out _ B2.out) (by omega)).mono ?_
      rintro e w3 ⟨P3, d3, rfl, hE3, _, hb3⟩
      have B3 := Lib.hid (below_on B2.out hb3)
      have E3 := Lib.hid (hE3)
      clear hb3  hE3
      go_wp2_with fail
      refine (make_bad n P3 m d3 es w3 E3.out (by omega) Hbad.out).mono ?_
      rintro e w4 ⟨rfl, hb4⟩
      have kx := (Below.refl w4.heap.size w4).alloc (Nat.le_refl _) (.cells #[.int .i64 0, .slice none 0 0] 26)
      have b4 := below_on hb4 kx
      have B4 := Lib.hid (below_on B3.out b4)
      have X4 := Lib.hid (Cells.new w4 #[.int .i64 0, .slice none 0 0] 26)
      clear hb4 kx b4  
      go_wp2_with fail
      refine (pairs_any A m c es _ (HE.out _ B4.out) (by omega)).mono ?_
      rintro e w5 ⟨v5, rfl, hown5, hb5⟩
      obtain ⟨P5, d5, rfl, hE5, _⟩ := own_pairs hown5
      rw [hml] at hE5
      rw [hml]
      have X5 := Lib.hid (X4.out.keep hb5)
      have B5 := Lib.hid (below_on B4.out hb5)
      have E5 := Lib.hid (hE5)
      clear hb5  hE5 hown5
      go_wp2_with fail
      refine (refMake_bad n P5 m d5 es w5 E5.out (by omega) Hbad.out).mono ?_
      rintro e w6 ⟨rfl, hb6⟩
      have kx := (Below.refl w6.heap.size w6).alloc (Nat.le_refl _) (.cells #[.int .i64 0, .slice none 0 0] 35)
      have b6 := below_on hb6 kx
      have X6 := Lib.hid (X5.out.keep b6)
      have B6 := Lib.hid (below_on B5.out b6)
      have Y6 := Lib.hid (Cells.new w6 #[.int .i64 0, .slice none 0 0] 35)
      clear hb6 kx b6  
      have x0 := X6.out.at_ 0
      have x1 := X6.out.at_ 1
      have y0 := Y6.out.at_ 0
      have y1 := Y6.out.at_ 1
      simp only [List.getElem?_cons_zero, List.getElem?_cons_succ] at x0 x1 y0 y1
      go_wp2_with fail
      refine (same_zero _).mono ?_
      rintro e w7 ⟨rfl, hb7⟩
      have B7 := Lib.hid (below_on B6.out hb7)
      clear hb7 x0 x1 y0 y1 
      go_wp2_with fail
      go_ret
      exact ⟨rfl, B7.out⟩
    · obtain ⟨k, l, rfl, rfl, hl, hk8⟩ := low_split hfb hbad
      have Hl := Lib.hid hl
      have hrl : (makeL k l).length ≤ 100000 := by
        have := make_len (n := k) (es := l)
        have : k * k ≤ 64 * 64 := Nat.mul_le_mul (by omega) (by omega)
        omega
      have HMc := Lib.hid (made_check hl (by omega : k ≤ 64))
      clear hl hbad hfb
      go_wp2_with fail
      refine (clone_any A m c (cast l) w2 (HE.out _ B2.out) (by omega)).mono ?_
      rintro e w3 ⟨P3, d3, rfl, hE3, _, hb3⟩
      have B3 := Lib.hid (below_on B2.out hb3)
      have E3 := Lib.hid (hE3)
      clear hb3  hE3
      go_wp2_with fail
      refine (make_ok k P3 m d3 l w3 E3.out (by omega) Hl.out (by omega)).mono ?_
      rintro e w4 ⟨⟨P4, d4, rfl, hE4, _⟩, hb4⟩
      have kx := (Below.refl w4.heap.size w4).alloc (Nat.le_refl _) (.cells #[.int .i64 (k : Nat), .slice P4 (makeL k l).length d4] 26)
      have b4 := below_on hb4 kx
      have B4 := Lib.hid (below_on B3.out b4)
      have R4 := Lib.hid ((hE4).keep kx)
      have X4 := Lib.hid (Cells.new w4 #[.int .i64 (k : Nat), .slice P4 (makeL k l).length d4] 26)
      clear hb4 kx b4  hE4
      obtain ⟨w4', hw4⟩ : ∃ u, w4.alloc (.cells #[.int .i64 (k : Nat), .slice P4 (makeL k l).length d4] 26) = u := ⟨_, rfl⟩
      rw [hw4] at B4 R4 X4
      go_wp2_with fail
      refine (pairs_any A m c (cast l) w4' (HE.out _ B4.out) (by omega)).mono ?_
      rintro e w5 ⟨v5, rfl, hown5, hb5⟩
      obtain ⟨P5, d5, rfl, hE5, _⟩ := own_pairs hown5
      rw [hml] at hE5
      rw [hml]
      have R5 := Lib.hid (R4.out.keep hb5)
      have X5 := Lib.hid (X4.out.keep hb5)
      have B5 := Lib.hid (below_on B4.out hb5)
      have E5 := Lib.hid (hE5)
      clear hb5  hE5 hown5 hw4
      go_wp2_with fail
      refine (refMake_ok k P5 m d5 l w5 E5.out (by omega) Hl.out (by omega)).mono ?_
      rintro e w6 ⟨⟨P6, d6, rfl, hE6, _⟩, hb6⟩
      have kx := (Below.refl w6.heap.size w6).alloc (Nat.le_refl _) (.cells #[.int .i64 (k : Nat), .slice P6 (makeL k l).length d6] 35)
      have b6 := below_on hb6 kx
      have R6 := Lib.hid (R5.out.keep b6)
      have X6 := Lib.hid (X5.out.keep b6)
      have B6 := Lib.hid (below_on B5.out b6)
      have U6 := Lib.hid ((hE6).keep kx)
      have Y6 := Lib.hid (Cells.new w6 #[.int .i64 (k : Nat), .slice P6 (makeL k l).length d6] 35)
      clear hb6 kx b6  hE6
      obtain ⟨w6', hw6⟩ : ∃ u, w6.alloc (.cells #[.int .i64 (k : Nat), .slice P6 (makeL k l).length d6] 35) = u := ⟨_, rfl⟩
      rw [hw6] at B6 R6 X6 U6 Y6
      have x0 := X6.out.at_ 0
      have x1 := X6.out.at_ 1
      have y0 := Y6.out.at_ 0
      have y1 := Y6.out.at_ 1
      simp only [List.getElem?_cons_zero, List.getElem?_cons_succ] at x0 x1 y0 y1
      go_wp2_with fail
      refine (same_eq k P4 P6 (makeL k l).length d4 d6 (cast (makeL k l)) w6' R6.out U6.out hrl).mono ?_
      rintro e w7 ⟨rfl, hb7⟩
      have R7 := Lib.hid (R6.out.keep hb7)
      have X7 := Lib.hid (X6.out.keep hb7)
      have B7 := Lib.hid (below_on B6.out hb7)
      clear hb7 x0 x1 y0 y1 hw6
      have x0 := X7.out.at_ 0
      have x1 := X7.out.at_ 1
      simp only [List.getElem?_cons_zero, List.getElem?_cons_succ] at x0 x1
      have HC := check_any (k : Int) P4 (makeL k l).length d4 (cast (makeL k l)) w7 R7.out (by omega)
      rw [HMc.out] at HC
      have HC := Lib.hid HC
      go_wp2_with fail
      refine (HC.out).mono ?_
      rintro e w8 ⟨rfl, hb8⟩
      have B8 := Lib.hid (below_on B7.out hb8)
      clear hb8 x0 x1 
      go_wp2_with fail
      go_ret
      exact ⟨rfl, B8.out⟩
end Go.Proofs.YthocdmlacfejkaaDoor
