/- Reverse, the program's and the reference's; the reference's Induced. -/
import Derived.Test.YthocdmlacfejkaaDoorRmk
import Derived.Test.YthocdmlacfejkaaDoorSm2
import Derived.Test.YthocdmlacfejkaaDoorTiL
namespace Go.Proofs.YthocdmlacfejkaaDoor
open Go.RowKit
def revE (es : List (Nat × Nat)) : List (Nat × Nat) := es.map fun e => (e.2, e.1)
def rvP (l : List (Int × Int)) (k : Nat) : List (Int × Int) := l.take k ++ List.replicate (l.length - k) (0, 0)
theorem rvP_len {l : List (Int × Int)} {k : Nat} (h : k ≤ l.length) : (rvP l k).length = l.length := by
  unfold rvP
  rw [List.length_append, List.length_take, List.length_replicate]
  omega
theorem rvP_zero (l : List (Int × Int)) : rvP l 0 = List.replicate l.length (0, 0) := by unfold rvP; simp
theorem rvP_full (l : List (Int × Int)) : rvP l l.length = l := by unfold rvP; simp
theorem rvP_at {l : List (Int × Int)} {k : Nat} (h : k < l.length) : (rvP l k)[k]? = some (0, 0) := by
  unfold rvP
  rw [List.getElem?_append_right (by rw [List.length_take]; omega), List.length_take, Nat.min_eq_left (by omega), Nat.sub_self]
  rw [show l.length - k = l.length - k - 1 + 1 by omega, List.replicate_succ]
  rfl
theorem rvP_set {l : List (Int × Int)} {k : Nat} {y : Int × Int} (h : l[k]? = some y) : (rvP l k).set k y = rvP l (k + 1) := by
  have hk : k < l.length := by
    rcases Nat.lt_or_ge k l.length with h1 | h1
    · exact h1
    · rw [List.getElem?_eq_none h1] at h; cases h
  unfold rvP
  rw [List.set_append_right _ _ (by rw [List.length_take]; omega), List.length_take, Nat.min_eq_left (by omega), Nat.sub_self]
  rw [show l.length - k = l.length - (k + 1) + 1 by omega, List.replicate_succ, List.set_cons_zero, List.take_add_one, h]
  simp
theorem revE_at {es : List (Nat × Nat)} {k x y : Nat} (h : es[k]? = some (x, y)) : (cast (revE es))[k]? = some ((y : Int), (x : Int)) := by
  unfold cast revE
  rw [List.getElem?_map, List.getElem?_map, h]
  rfl
theorem revE_len (es : List (Nat × Nat)) : (revE es).length = es.length := by unfold revE; simp
theorem revE_low {n : Nat} {es : List (Nat × Nat)} (h : Low n es) : Low n (revE es) := fun e he => by
  unfold revE at he
  obtain ⟨x, hx, rfl⟩ := List.mem_map.1 he
  exact ⟨(h x hx).2, (h x hx).1⟩
theorem revE_take (es : List (Nat × Nat)) (k : Nat) : (revE es).take k = revE (es.take k) := by unfold revE; rw [List.map_take]
theorem flat_rep (n : Nat) : flat (List.replicate n ((0 : Int), (0 : Int))) = (madeCells #[.int .i64 0, .int .i64 0] (n * 2)).toList := by
  apply List.ext_getElem?
  intro j
  by_cases hj : j / 2 < n
  · obtain ⟨h0, h1⟩ := flat_at (es := List.replicate n ((0 : Int), (0 : Int))) (k := j / 2) (e := (0, 0)) (by rw [List.getElem?_replicate, if_pos hj])
    have e : (madeCells #[Value.int .i64 0, .int .i64 0] (n * 2)).toList[j]? = some (.int .i64 0) := by
      simp [madeCells, show j < n * 2 by omega]
      rcases Nat.mod_two_eq_zero_or_one j with h | h <;> rw [h] <;> rfl
    rw [e]
    rcases (by omega : j = j / 2 * 2 ∨ j = j / 2 * 2 + 1) with h | h
    · rw [← h] at h0; exact h0
    · rw [← h] at h1; exact h1
  · rw [List.getElem?_eq_none (by rw [flat_len, List.length_replicate]; omega), List.getElem?_eq_none (by simp [madeCells]; omega)]
theorem made_edges {w w1 : World} {n : Nat} (hown : w1.ownsRow w.heap.size 32 2 (.slice (some ⟨w.heap.size, 0, none⟩) n n) n (madeCells #[.int .i64 0, .int .i64 0] (n * 2)).toList) : Cells w1 w.heap.size (flat (List.replicate n (0, 0))) := by
  rcases hown.2 with ⟨h1, _⟩ | ⟨g', cap, cur, h1, hg, hh, hnc, hcm, hcs, hx⟩
  · cases h1
  · injection h1 with h1 _ h3
    injection h1 with h1
    injection h1 with h1
    subst h1 h3
    rw [List.take_of_length_le (by rw [Array.length_toList, hcs]; exact Nat.le_refl _)] at hx
    rw [flat_rep, ← hx]
    exact Cells.of_row hh
theorem el_sets2 {w : World} {A : Option Addr} {m q : Nat} {l : List (Nat × Nat)} (h : EL w A m (cast l)) (hq : ∀ b o, A = some ⟨b, o, none⟩ → q + 1 ≤ b ∨ cast l = []) (u v : Value) : EL ((w.setCell ⟨q, 0, none⟩ u).setCell ⟨q, 1, none⟩ v) A m (cast l) := by
  by_cases h0 : cast l = []
  · rw [h0] at h ⊢
    exact ⟨h.1, fun k e hk => by simp at hk⟩
  · have hn : ∀ b o, A = some ⟨b, o, none⟩ → b ≠ q := fun b o hb hh => by
      rcases hq b o hb with h1 | h1
      · omega
      · exact h0 h1
    exact (h.other hn 0 u).other hn 1 v
set_option maxRecDepth 100000 in
set_option maxHeartbeats 8000000 in
theorem reverse_ok (n : Nat) (A : Option Addr) (m c : Nat) (es : List (Nat × Nat)) (w : World) (h : EL w A m (cast es)) (hg : Fine n es) :
    Calls Tryd.prog 25 #[gV n A m c] w (MakPost n (revE es) w) := by
  obtain ⟨i0, hi, hz0, hz1, hz2⟩ := info_parts info_edge
  have hlen := h.len
  have hm : m ≤ 4096 := by have := hg.len; omega
  have kv := ((Below.refl w.heap.size w).alloc (Nat.le_refl _) (.cells #[.int .i64 (n : Nat), .slice A m c] 26)).alloc (by simp) (.cells #[.int .i64 0, .slice none 0 0] 26)
  have HC := check_any (n : Int) A m c (cast es) _ (h.keep kv) (by omega)
  rw [hg.check] at HC
  have HC := Lib.hid HC
  have G0 := Lib.hid ((Cells.new w #[.int .i64 (n : Nat), .slice A m c] 26).keep ((Below.refl _ _).alloc (Nat.le_refl _) (.cells #[.int .i64 0, .slice none 0 0] 26)))
  have X0 := Cells.new (w.alloc (.cells #[.int .i64 (n : Nat), .slice A m c] 26)) #[.int .i64 0, .slice none 0 0] 26
  simp only [World.size_alloc] at X0
  have X0 := Lib.hid X0
  have HM := Lib.hid (fun B cB w' (hE : EL w' B m (cast (revE es))) => make_ok n B m cB (revE es) w' hE (by omega) (revE_low hg.low) hg.n64)
  have E0 := Lib.hid (fun w' (hb : Below w.heap.size w w') => h.keep hb)
  have Kv := Lib.hid kv
  have hrl : (cast (revE es)).length = m := by rw [cast_len, revE_len, hlen]
  have Hrl := Lib.hid hrl
  clear h hg kv hlen
  go_enter Tryd.func25, Tryd.ntmps25
  go_wp2_with fail
  refine HC.out.mono ?_
  rintro e w1 ⟨rfl, hb1⟩
  have G1 := Lib.hid (G0.out.keep hb1)
  have X1 := Lib.hid (X0.out.keep hb1)
  have B1 := Lib.hid (below_on Kv.out hb1)
  have g1 := G1.out.at_ 1
  simp only [List.getElem?_cons_zero, List.getElem?_cons_succ] at g1
  have hx1 := X1.out.lt
  clear hb1
  go_wp2_with (at_make; refine wpList_make_full _ rfl _ _ 22 rfl w1.heap.size 32 i0 (.agg #[.int .i64 0, .int .i64 0]) 2 Tryd.underlying22 hi hz0 hz1 _ _ _ _ m rfl rfl rfl rfl (by rw [hz2]; omega) (by unfold maxLen; omega) (Nat.le_refl _) ?_)
  intro w2 hown hgr
  have b2 := (Below.refl w1.heap.size w1).grown hgr (Nat.le_refl _) (by simp)
  have I2 := made_edges hown
  rw [← Hrl.out, ← rvP_zero] at I2
  have I2 := Lib.hid I2
  have G2 := Lib.hid (G1.out.keep b2)
  have B2 := Lib.hid (below_on B1.out b2)
  have b2 := Lib.hid b2
  clear hown hgr g1 hrl
  have g1 := G2.out.at_ 1
  simp only [List.getElem?_cons_zero, List.getElem?_cons_succ] at g1
  go_wp2_with fail
  go_loopw [6, 7, 21] (fun _ _ iv wr => ∃ k : Nat, iv = .int .i64 (k : Nat) ∧ k ≤ m ∧ Cells wr w1.heap.size (flat (rvP (cast (revE es)) k)) ∧ Below w1.heap.size w1 wr) (fun _ _ iv _ => m - (intOf iv).toNat)
  case atStart => exact ⟨0, rfl, Nat.zero_le _, I2.out, b2.out⟩
  case round =>
    obtain ⟨k, rfl, hk, hcl, hb⟩ := hrel
    have C6 := Lib.hid hcl
    have B6 := Lib.hid hb
    have Bw := Lib.hid (below_on B1.out hb)
    have hgw := hcl.lt
    clear hcl hb
    obtain ⟨wa, rfl⟩ : ∃ wa : World, wa = wr := ⟨_, rfl⟩
    by_cases hlt : k < m
    · obtain ⟨e, b, o, he, rfl, hbl, c0, c1⟩ := (E0.out _ Bw.out).at_ hlt
      obtain ⟨x, y, hxy, rfl⟩ := cast_at he
      simp only at c0 c1
      have Hlt := Lib.hid hlt
      have hkl : k < (cast (revE es)).length := by rw [Hrl.out]; exact hlt
      have bx := (Below.refl wa.heap.size wa).alloc (Nat.le_refl _) (.cells #[.int .i64 (x : Int), .int .i64 (y : Int)] 32)
      have Y6 := Lib.hid (Cells.new wa #[.int .i64 (x : Int), .int .i64 (y : Int)] 32)
      have C7 := C6.out.keep bx
      have B7 := B6.out.alloc B6.out.size (.cells #[.int .i64 (x : Int), .int .i64 (y : Int)] 32)
      obtain ⟨w7, hw7⟩ : ∃ u, wa.alloc (.cells #[.int .i64 (x : Int), .int .i64 (y : Int)] 32) = u := ⟨_, rfl⟩
      obtain ⟨pe, hpe⟩ : ∃ pe, wa.heap.size = pe := ⟨_, rfl⟩
      rw [hw7] at Y6 C7 B7
      rw [hpe] at Y6
      have d0 := Y6.out.at_ 0
      have d1 := Y6.out.at_ 1
      simp only [List.getElem?_cons_zero, List.getElem?_cons_succ] at d0 d1
      have C7' : Cells w7 w1.heap.size (flat (rvP (cast (revE es)) k) ++ []) := by rw [List.append_nil]; exact C7
      obtain ⟨e0, e1⟩ := flat_cell C7' (rvP_at hkl)
      have f0 := C7.fz (k * 2)
      have f1 := C7.fz (k * 2 + 1)
      simp only at e0 e1
      have hls : (flat (rvP (cast (revE es)) k)).length = m * 2 := by rw [flat_len, rvP_len (by omega), Hrl.out]
      have C8 := (C7'.set (k * 2) (.int .i64 (y : Int)) (by rw [List.append_nil, hls]; omega)).set (k * 2 + 1) (.int .i64 (x : Int)) (by rw [List.length_set, List.append_nil, hls]; omega)
      rw [show ((flat (rvP (cast (revE es)) k) ++ ([] : List Value)).set (k * 2) (.int .i64 (y : Int))).set (k * 2 + 1) (.int .i64 (x : Int)) = flat ((rvP (cast (revE es)) k).set k ((y : Int), (x : Int))) ++ [] from flat_set (y := ((y : Int), (x : Int))) (by rw [rvP_len (by omega)]; exact hkl), List.append_nil, rvP_set (revE_at hxy)] at C8
      have C8 := Lib.hid C8
      have B8 := Lib.hid ((B7.setCell (p := ⟨w1.heap.size, k * 2, none⟩) (Nat.le_refl _) (.int .i64 (y : Int))).setCell (p := ⟨w1.heap.size, k * 2 + 1, none⟩) (Nat.le_refl _) (.int .i64 (x : Int)))
      clear he hxy hkl bx C7 B7 C7' hls
      go_wp2_with fail
      go_roundw
      case rel => exact ⟨k + 1, by go_num, Hlt.out, C8.out, B8.out⟩
      case measure => simp [intOf]; have := Hlt.out; omega
    · have hkm : k = m := by omega
      have Cf := C6.out
      rw [hkm, ← Hrl.out, rvP_full] at Cf
      have Ef : EL wa (some ⟨w1.heap.size, 0, none⟩) m (cast (revE es)) := by
        have := el_cells (tl := []) (by rw [List.append_nil]; exact Cf)
        rwa [Hrl.out] at this
      have HMk := Lib.hid (HM.out (some ⟨w1.heap.size, 0, none⟩) m wa Ef)
      have G6 := Lib.hid (G1.out.keepB B6.out (by omega))
      have X6 := Lib.hid (X1.out.keepB B6.out hx1)
      have g0 := G6.out.at_ 0
      simp only [List.getElem?_cons_zero] at g0
      clear hkm Cf Ef
      go_wp2_with fail
      refine HMk.out.mono ?_
      rintro e w3 ⟨⟨B, cB, rfl, hE, hBb⟩, hb3⟩
      have hs3 := Bw.out.size
      have hs4 := B6.out.size
      have X7 := X6.out.keep hb3
      have x0 := X7.at_ 0
      have x1 := X7.at_ 1
      have f0 := X7.fz 0
      have f1 := X7.fz 1
      simp only [List.getElem?_cons_zero, List.getElem?_cons_succ] at x0 x1
      have X8 := Lib.hid ((X7.set 0 (.int .i64 (n : Nat)) (by simp)).set 1 (.slice B (makeL n (revE es)).length cB) (by simp))
      have B8 := Lib.hid (((below_on Bw.out hb3).setCell (p := ⟨w.heap.size + 1, 0, none⟩) (by simp) (.int .i64 (n : Nat))).setCell (p := ⟨w.heap.size + 1, 1, none⟩) (by simp) (.slice B (makeL n (revE es)).length cB))
      have E8 := Lib.hid (el_sets2 (q := w.heap.size + 1) hE (fun b o hb => (hBb b o hb).imp (fun h1 => by omega) (fun h1 => by rw [h1]; rfl)) (.int .i64 (n : Nat)) (.slice B (makeL n (revE es)).length cB))
      have HB8 := Lib.hid (show ∀ b o, B = some ⟨b, o, none⟩ → w.heap.size ≤ b ∨ makeL n (revE es) = [] from fun b o hb => (hBb b o hb).imp (fun h1 => by omega) id)
      clear hE hBb hb3 X7 g0
      go_wp2_with fail
      exact bodyPost_ret (ret_graph rfl _ _ (w.heap.size + 1) _ _ rfl X8.out) rfl ⟨⟨B, cB, rfl, E8.out, HB8.out⟩, B8.out⟩
set_option maxRecDepth 100000 in
set_option maxHeartbeats 8000000 in
theorem refReverse_ok (n : Nat) (A : Option Addr) (m c : Nat) (es : List (Nat × Nat)) (w : World) (h : EL w A m (cast es)) (hm : m ≤ 100000) (hl : Low n es) (hn : n ≤ 64) :
    Calls Tryd.prog 47 #[gV n A m c] w fun e w' => (∃ B cB, e = .returned (gV n B (makeL n (revE es)).length cB) ∧ EL w' B (makeL n (revE es)).length (cast (makeL n (revE es)))) ∧ Below w.heap.size w w' := by
  obtain ⟨i0, hi, hz0, hz1, hz2⟩ := info_parts info_pair
  have hlen := h.len
  have kv := ((Below.refl w.heap.size w).alloc (Nat.le_refl _) (.cells #[.int .i64 (n : Nat), .slice A m c] 35)).alloc (by simp) (.cells #[.int .i64 0, .slice none 0 0] 35)
  have G0 := Lib.hid ((Cells.new w #[.int .i64 (n : Nat), .slice A m c] 35).keep ((Below.refl _ _).alloc (Nat.le_refl _) (.cells #[.int .i64 0, .slice none 0 0] 35)))
  have X0 := Cells.new (w.alloc (.cells #[.int .i64 (n : Nat), .slice A m c] 35)) #[.int .i64 0, .slice none 0 0] 35
  simp only [World.size_alloc] at X0
  have X0 := Lib.hid X0
  have HM := Lib.hid (fun B cB w' (hE : EL w' B m (cast (revE es))) => refMake_ok n B m cB (revE es) w' hE hm (revE_low hl) hn)
  have E0 := Lib.hid (fun w' (hb : Below w.heap.size w w') => h.keep hb)
  have Kv := Lib.hid kv
  have Hlen := Lib.hid hlen
  clear h hl kv hlen
  go_enter Tryd.func47, Tryd.ntmps47
  go_wp2_with fail
  obtain ⟨w1, hw1⟩ : ∃ u, (w.alloc (.cells #[.int .i64 (n : Nat), .slice A m c] 35)).alloc (.cells #[.int .i64 0, .slice none 0 0] 35) = u := ⟨_, rfl⟩
  rw [hw1] at G0 X0 Kv ⊢
  have hx1 := X0.out.lt
  clear hw1
  go_loopw [3, 4] (fun vv iv wr => ∃ k : Nat, iv = .int .i64 (k : Nat) ∧ k ≤ m ∧ wr.ownsRow w1.heap.size 55 2 vv (revE (es.take k)).length (flat (cast (revE (es.take k)))) ∧ Below w1.heap.size w1 wr) (fun _ iv _ => m - (intOf iv).toNat)
  case atStart => exact ⟨0, rfl, Nat.zero_le _, World.ownsRow_nil _ _ _ _, Below.refl _ _⟩
  case round =>
    obtain ⟨k, rfl, hk, hown, hb⟩ := hrel
    have O6 := Lib.hid hown
    have B6 := Lib.hid hb
    have Bw := Lib.hid (below_on Kv.out hb)
    have G6 := Lib.hid (G0.out.keepB hb (by omega))
    have hsz := hb.size
    clear hown hb
    obtain ⟨wa, rfl⟩ : ∃ wa : World, wa = wr := ⟨_, rfl⟩
    have g1 := G6.out.at_ 1
    simp only [List.getElem?_cons_zero, List.getElem?_cons_succ] at g1
    by_cases hlt : k < m
    · obtain ⟨e, b, o, he, rfl, hbl, c0, c1⟩ := (E0.out _ Bw.out).at_ hlt
      obtain ⟨x, y, hxy, rfl⟩ := cast_at he
      simp only at c0 c1
      have Hlt := Lib.hid hlt
      have Hst := Lib.hid (show revE (es.take (k + 1)) = revE (es.take k) ++ [(y, x)] by unfold revE; rw [List.take_add_one, hxy, List.map_append]; rfl)
      have hrk : (revE (es.take k)).length = k := by rw [revE_len, List.length_take, Hlen.out]; omega
      have Hrk := Lib.hid hrk
      clear he hxy hrk
      go_wp2_with fail
      have s0 : wa.drew.cell? ⟨w.heap.size, 1, none⟩ = some (.slice (some ⟨b, o, none⟩) m c) ∧ wa.drew.cell? ⟨b, o + k * 2, none⟩ = some (.int .i64 (x : Nat)) ∧ wa.drew.cell? ⟨b, o + k * 2 + 1, none⟩ = some (.int .i64 (y : Nat)) := ⟨g1, c0, c1⟩
      have B7 := Lib.hid (B6.out.drew)
      have O7 := Lib.hid (World.ownsRow.kept O6.out (w' := wa.drew) (row := none) ⟨rfl, rfl, rfl, Nat.le_refl _, fun k hk _ => rfl⟩ (by cases Value.ownBlock _ <;> simp))
      have hsz7 : w1.heap.size ≤ wa.drew.heap.size := hsz
      refine Till.begin 15 (fun w' => w'.cell? ⟨w.heap.size, 1, none⟩ = some (.slice (some ⟨b, o, none⟩) m c) ∧ w'.cell? ⟨b, o + k * 2, none⟩ = some (.int .i64 (x : Nat)) ∧ w'.cell? ⟨b, o + k * 2 + 1, none⟩ = some (.int .i64 (y : Nat))) (by kernel_rfl) s0 (fun hH => ?_)
      clear hH
      obtain ⟨V0, hV⟩ : ∃ V, wa.drew = V := ⟨_, rfl⟩
      rw [hV] at s0 B7 O7 hsz7 ⊢
      have ki : (k : Int) < (m : Int) := by omega
      clear hV c0 c1 g1
      try simp only [List.setIfInBounds_toArray, List.set_cons_zero, List.set_cons_succ]
      refine Till.tL 0 [15] 14 (u3) s0 ?_
      try simp only [Act.put, List.setIfInBounds_toArray, List.set_cons_zero, List.set_cons_succ]
      refine Till.tL 1 [2, 4, 5, 6, 13, 14, 15] 15 (.pointer (some ⟨w.heap.size, 1, none⟩)) s0 ?_
      try simp only [Act.put, List.setIfInBounds_toArray, List.set_cons_zero, List.set_cons_succ]
      refine Till.tL 2 [4, 5, 6, 13, 14, 15] 16 (.slice (some ⟨b, o, none⟩) m c) s0 ?_
      try simp only [Act.put, List.setIfInBounds_toArray, List.set_cons_zero, List.set_cons_succ]
      refine Till.tL 3 [4, 5, 6, 13, 14, 15] 17 (.int .i64 (k : Nat)) s0 ?_
      try simp only [Act.put, List.setIfInBounds_toArray, List.set_cons_zero, List.set_cons_succ]
      refine Till.tL 4 [5, 6, 13, 14, 15] 18 (.pointer (some ⟨b, o + k * 2, none⟩)) s0 ?_
      try simp only [Act.put, List.setIfInBounds_toArray, List.set_cons_zero, List.set_cons_succ]
      refine Till.tL 5 [6, 13, 14, 15] 19 (.pointer (some ⟨b, o + k * 2 + 1, none⟩)) s0 ?_
      try simp only [Act.put, List.setIfInBounds_toArray, List.set_cons_zero, List.set_cons_succ]
      refine Till.tL 6 [13, 14, 15] 20 (.int .i64 (y : Nat)) s0 ?_
      try simp only [Act.put, List.setIfInBounds_toArray, List.set_cons_zero, List.set_cons_succ]
      refine Till.tL 7 [8, 10, 11, 12, 13, 14, 15] 21 (.pointer (some ⟨w.heap.size, 1, none⟩)) s0 ?_
      try simp only [Act.put, List.setIfInBounds_toArray, List.set_cons_zero, List.set_cons_succ]
      refine Till.tL 8 [10, 11, 12, 13, 14, 15] 22 (.slice (some ⟨b, o, none⟩) m c) s0 ?_
      try simp only [Act.put, List.setIfInBounds_toArray, List.set_cons_zero, List.set_cons_succ]
      refine Till.tL 9 [10, 11, 12, 13, 14, 15] 23 (.int .i64 (k : Nat)) s0 ?_
      try simp only [Act.put, List.setIfInBounds_toArray, List.set_cons_zero, List.set_cons_succ]
      refine Till.tL 10 [11, 12, 13, 14, 15] 24 (.pointer (some ⟨b, o + k * 2, none⟩)) s0 ?_
      try simp only [Act.put, List.setIfInBounds_toArray, List.set_cons_zero, List.set_cons_succ]
      refine Till.tL 11 [12, 13, 14, 15] 25 (.pointer (some ⟨b, o + k * 2, none⟩)) s0 ?_
      try simp only [Act.put, List.setIfInBounds_toArray, List.set_cons_zero, List.set_cons_succ]
      refine Till.tL 12 [13, 14, 15] 26 (.int .i64 (x : Nat)) s0 ?_
      try simp only [Act.put, List.setIfInBounds_toArray, List.set_cons_zero, List.set_cons_succ]
      refine Till.tL 13 [14, 15] 27 (.agg #[.int .i64 (y : Nat), .int .i64 (x : Nat)]) s0 ?_
      try simp only [Act.put, List.setIfInBounds_toArray, List.set_cons_zero, List.set_cons_succ]
      refine Till.one (i := 14) (by kernel_rfl) rfl (fun K hK => ?_)
      go_simp
      have s1 : (V0.alloc (.cells #[.int .i64 (y : Nat), .int .i64 (x : Nat)] 55)).cell? ⟨w.heap.size, 1, none⟩ = some (.slice (some ⟨b, o, none⟩) m c) ∧ (V0.alloc (.cells #[.int .i64 (y : Nat), .int .i64 (x : Nat)] 55)).cell? ⟨b, o + k * 2, none⟩ = some (.int .i64 (x : Nat)) ∧ (V0.alloc (.cells #[.int .i64 (y : Nat), .int .i64 (x : Nat)] 55)).cell? ⟨b, o + k * 2 + 1, none⟩ = some (.int .i64 (y : Nat)) := by
        have kx := (Below.refl V0.heap.size V0).alloc (Nat.le_refl _) (.cells #[.int .i64 (y : Nat), .int .i64 (x : Nat)] 55)
        obtain ⟨h1, h2, h3⟩ := s0
        exact ⟨(kx.cell (World.block_lt_of_cell? _ _ h1)).trans h1, (kx.cell (World.block_lt_of_cell? _ _ h2)).trans h2, (kx.cell (World.block_lt_of_cell? _ _ h3)).trans h3⟩
      refine hK.out _ _ (fun _ => s1) ?_
      clear hK K
      try simp only [Act.put, List.setIfInBounds_toArray, List.set_cons_zero, List.set_cons_succ]
      refine Till.one (i := 15) (by kernel_rfl) rfl (fun K hK => ?_)
      have B9 := Lib.hid (B7.out.alloc hsz7 (.cells #[.int .i64 (y : Int), .int .i64 (x : Int)] 55))
      refine step_append_lies _ rfl (.tmp 14) (.tmp 28) 33 rfl w1.heap.size 55 i0 (.agg #[.int .i64 0, .int .i64 0]) 2 16 Tryd.underlying33 hi hz0 hz1 hz2 rfl (by decide) _ _ _ rfl (O7.out.alloc _) ⟨V0.heap.size, 0, none⟩ 1 1 [.int .i64 (y : Int), .int .i64 (x : Int)] rfl rfl ?c1 ?c2 (by decide) ?c3 ?c4 ?c5 (V0.heap.size + 1) (by simp) ?_
      case c1 =>
        intro k u hu
        match k, hu with
        | 0, hu => simp at hu; subst hu; simp [Addr.add, go_sem]
        | 1, hu => simp at hu; subst hu; simp [Addr.add, go_sem]
      case c2 => intro u hu; simp at hu; rcases hu with rfl | rfl <;> rfl
      case c3 => unfold maxLen; have := Hrk.out; omega
      case c4 => have := Hrk.out; omega
      case c5 => simp; omega
      intro gg cap w8 hown' hgrow _ _
      have B8 := Lib.hid (B9.out.grown hgrow (by simp; omega) (fun k hk => own_ge O7.out hk))
      have O8 := Lib.hid (show w8.ownsRow w1.heap.size 55 2 (.slice (some ⟨gg, 0, none⟩) ((revE (es.take k)).length + 1) cap) (revE (es.take (k + 1))).length (flat (cast (revE (es.take (k + 1))))) by
        rw [Hst.out, List.length_append, cast_snoc, flat_snoc]; exact hown')
      refine hK.out _ _ (fun h => absurd h (by decide)) ?_
      clear hK K
      try simp only [Act.put, List.setIfInBounds_toArray]
      refine Till.one (i := 16) (by kernel_rfl) rfl (fun K hK => ?_)
      go_simp
      refine hK.out _ _ (fun h => absurd h (by decide)) ?_
      clear hK K
      refine Till.done (by kernel_rfl) ?_ _
      try simp only [Exit.then]
      clear hown' hgrow
      go_wp2_with fail
      go_roundw
      case rel => exact ⟨k + 1, by go_num, Hlt.out, O8.out, B8.out⟩
      case measure => simp [intOf]; have := Hlt.out; omega
    · have hkm : es.take k = es := List.take_of_length_le (by rw [Hlen.out]; omega)
      have Of := O6.out
      rw [hkm] at Of
      have hcl : (cast (revE es)).length = m := by rw [cast_len, revE_len, Hlen.out]
      rw [show (revE es).length = (cast (revE es)).length from (cast_len _).symm] at Of
      obtain ⟨B, cB, hv, hE, hBb⟩ := own_pairs Of
      rw [hcl] at hv hE
      subst hv
      have HMk := Lib.hid (HM.out B cB wa hE)
      have X6 := Lib.hid (X0.out.keepB B6.out hx1)
      have g0 := G6.out.at_ 0
      simp only [List.getElem?_cons_zero] at g0
      clear hkm Of hE hBb hcl
      go_wp2_with fail
      refine HMk.out.mono ?_
      rintro e w3 ⟨⟨B3, c3, rfl, hE, hBb⟩, hb3⟩
      have hs3 := hb3.size
      have X7 := X6.out.keep hb3
      have Bw3 := below_on Bw.out hb3
      have b4 := (Below.refl w3.heap.size w3).alloc (Nat.le_refl _) (.cells #[.int .i64 (n : Nat), .slice B3 (makeL n (revE es)).length c3] 35)
      have hE4 := hE.keep b4
      have X4 := X7.keep b4
      have Z4 := Lib.hid (Cells.new w3 #[.int .i64 (n : Nat), .slice B3 (makeL n (revE es)).length c3] 35)
      have Bw4 := below_on Bw3 b4
      obtain ⟨w4, hw4⟩ : ∃ u, w3.alloc (.cells #[.int .i64 (n : Nat), .slice B3 (makeL n (revE es)).length c3] 35) = u := ⟨_, rfl⟩
      rw [hw4] at hE4 X4 Z4 Bw4
      have z0 := Z4.out.at_ 0
      have z1 := Z4.out.at_ 1
      have x0 := X4.at_ 0
      have x1 := X4.at_ 1
      have f0 := X4.fz 0
      have f1 := X4.fz 1
      simp only [List.getElem?_cons_zero, List.getElem?_cons_succ] at x0 x1 z0 z1
      have X8 := Lib.hid ((X4.set 0 (.int .i64 (n : Nat)) (by simp)).set 1 (.slice B3 (makeL n (revE es)).length c3) (by simp))
      have B8 := Lib.hid ((Bw4.setCell (p := ⟨w.heap.size + 1, 0, none⟩) (by simp) (.int .i64 (n : Nat))).setCell (p := ⟨w.heap.size + 1, 1, none⟩) (by simp) (.slice B3 (makeL n (revE es)).length c3))
      have E8 := Lib.hid (el_sets2 (q := w.heap.size + 1) hE4 (fun b o hb => (hBb b o hb).imp (fun h1 => by omega) (fun h1 => by rw [h1]; rfl)) (.int .i64 (n : Nat)) (.slice B3 (makeL n (revE es)).length c3))
      clear hE hBb hb3 X7 g0 b4 hE4 X4 Bw4 Bw3
      go_wp2_with fail
      exact bodyPost_ret (ret_ref1 rfl _ _ (w.heap.size + 1) _ _ rfl X8.out) rfl ⟨⟨B3, c3, rfl, E8.out⟩, B8.out⟩
end Go.Proofs.YthocdmlacfejkaaDoor
