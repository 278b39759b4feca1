/- Induced: the graph of some nodes. -/
import Derived.Test.YthocdmlacfejkaaDoorMFb
import Derived.Test.YthocdmlacfejkaaDoorMH
namespace Go.Proofs.YthocdmlacfejkaaDoor
open Go.RowKit
theorem incL_pair : ∀ {l : List Int}, incL l = true → l.Pairwise (· < ·)
  | [], _ => List.Pairwise.nil
  | [x], _ => List.pairwise_singleton _ _
  | x :: y :: l, h => by
    rw [incL, Bool.and_eq_true, decide_eq_true_eq] at h
    have ih := incL_pair h.2
    rw [List.pairwise_cons]
    refine ⟨fun z hz => ?_, ih⟩
    rcases List.mem_cons.1 hz with h1 | h1
    · rw [h1]; exact h.1
    · have := (List.pairwise_cons.1 ih).1 z h1; omega
theorem errN_inc {n : Nat} {l : List Int} (h : errN n l = 0) : incL l = true := by
  unfold errN at h
  by_cases h1 : l.all (inN n) = false
  · rw [if_pos h1] at h; cases h
  · rw [if_neg h1] at h
    by_cases h2 : incL l = false
    · rw [if_pos h2] at h; cases h
    · simpa using h2
theorem bs_any (A : Option Addr) (d : Nat) (l : List Nat) (x : Nat) (w : World) (h : IL w A (zs l)) (hl : l.length ≤ 1000) (hi : incL (zs l) = true) :
    Calls Tryd.prog 79 #[.slice A l.length d, .int .i64 x] w fun e w' => e = .returned (.tuple #[.int .i64 (l.countP (· < x) : Nat), .bool (l.contains x)]) ∧ Below w.heap.size w w' := by
  have e1 : (zs l).contains (x : Int) = l.contains x := by
    rw [Bool.eq_iff_iff, List.contains_iff_mem, List.contains_iff_mem]
    unfold zs
    rw [List.mem_map]
    constructor
    · rintro ⟨y, hy, e⟩
      have : y = x := Int.ofNat.inj e
      rw [← this]; exact hy
    · intro hx
      exact ⟨x, hx, rfl⟩
  have e2 : (zs l).countP (fun y => decide (y < (x : Int))) = l.countP (fun y => decide (y < x)) := by
    unfold zs
    rw [List.countP_map]
    apply List.countP_congr
    intro y _
    simp
  by_cases h0 : l = []
  · subst h0
    exact (Tryd.slices_BinarySearch_int_empty A d x w).mono fun e w' ⟨h1, h2⟩ => ⟨h1, by rw [h2]; exact Below.refl _ _⟩
  · obtain ⟨b, o, rfl, hc⟩ := h.flat (by rw [zs_len]; exact List.length_pos_iff.2 h0)
    refine (Tryd.slices_BinarySearch_int b o l.length d (zs l) x w (by rw [zs_len]; exact Nat.le_refl _) (by omega) hc ?_).mono fun e w' ⟨h1, q, h2⟩ => ⟨?_, by rw [h2]; exact below_drewN (Below.refl _ _) q⟩
    · rw [List.take_of_length_le (by rw [zs_len]; exact Nat.le_refl _)]
      exact (incL_pair hi).imp fun h => Int.le_of_lt h
    · rw [h1, List.take_of_length_le (by rw [zs_len]; exact Nat.le_refl _), e1, e2]
/-- Whether an edge lies among some nodes; and where. -/
def keepE (l : List Nat) (e : Nat × Nat) : Bool := l.contains e.1 && l.contains e.2
def posE (l : List Nat) (e : Nat × Nat) : Nat × Nat := (l.countP (· < e.1), l.countP (· < e.2))
def indM (es : List (Nat × Nat)) (l : List Nat) : List (Nat × Nat) := (es.filter (keepE l)).map (posE l)
theorem indM_step {es : List (Nat × Nat)} {l : List Nat} {j : Nat} {e : Nat × Nat} (h : es[j]? = some e) : indM (es.take (j + 1)) l = indM (es.take j) l ++ if keepE l e then [posE l e] else [] := by
  unfold indM
  rw [List.take_add_one, h, List.filter_append, List.map_append]
  cases hk : keepE l e <;> simp [hk]
theorem indM_len (es : List (Nat × Nat)) (l : List Nat) : (indM es l).length ≤ es.length := by
  unfold indM
  rw [List.length_map]
  exact List.length_filter_le _ _
theorem cast_snoc (es : List (Nat × Nat)) (e : Nat × Nat) : cast (es ++ [e]) = cast es ++ [((e.1 : Int), (e.2 : Int))] := by unfold cast; simp
def IndPost (_n : Nat) (es : List (Nat × Nat)) (l : List Nat) (w : World) (e : Ending) (w' : World) : Prop :=
  (∃ B c, e = .returned (.tuple #[gV l.length B (indM es l).length c, .int .i64 0]) ∧ EL w' B (indM es l).length (cast (indM es l))) ∧ Below w.heap.size w w'
set_option maxRecDepth 100000 in
set_option maxHeartbeats 8000000 in
theorem induced_any (n : Nat) (A : Option Addr) (m c : Nat) (es : List (Nat × Nat)) (L : Option Addr) (d : Nat) (l : List Nat) (w : World) (h : EL w A m (cast es)) (hg : Fine n es) (hl : IL w L (zs l)) (hll : l.length ≤ 1000) (hok : errN n (zs l) = 0) :
    Calls Tryd.prog 26 #[gV n A m c, .slice L l.length d] w (IndPost n es l w) := by
  obtain ⟨i0, hi, hz0, hz1, hz2⟩ := info_parts info_edge
  have hlen := h.len
  have hm : m ≤ 4096 := by have := hg.len; omega
  have hinc := errN_inc hok
  have kv := ((Below.refl w.heap.size w).alloc (Nat.le_refl _) (.cells #[.int .i64 (n : Nat), .slice A m c] 26)).alloc (by simp) (.cells #[.int .i64 0, .slice none 0 0] 26)
  have HC := checkNodes_any n A m c es L d (zs l) _ (h.keep kv) hg (hl.keep kv) (by rw [zs_len]; omega)
  rw [zs_len] at HC
  have HC := Lib.hid HC
  have G0 := Lib.hid ((Cells.new w #[.int .i64 (n : Nat), .slice A m c] 26).keep ((Below.refl _ _).alloc (Nat.le_refl _) (.cells #[.int .i64 0, .slice none 0 0] 26)))
  have X0 := Cells.new (w.alloc (.cells #[.int .i64 (n : Nat), .slice A m c] 26)) #[.int .i64 0, .slice none 0 0] 26
  simp only [World.size_alloc] at X0
  have X0 := Lib.hid X0
  have HS := Lib.hid (fun w' x (hb : Below w.heap.size w w') => bs_any L d l x w' (hl.keep hb) hll hinc)
  have E0 := Lib.hid (fun w' (hb : Below w.heap.size w w') => h.keep hb)
  have Hok := Lib.hid hok
  have Kv := Lib.hid kv
  have Hlen := Lib.hid hlen
  clear h hg hl hok hinc kv hlen
  go_enter Tryd.func26, Tryd.ntmps26
  go_wp2_with fail
  refine HC.out.mono ?_
  rintro e w1 ⟨hc, hb1⟩
  have G1 := Lib.hid (G0.out.keep hb1)
  have X1 := Lib.hid (X0.out.keep hb1)
  have B1 := Lib.hid (below_on Kv.out hb1)
  have g1 := G1.out.at_ 1
  simp only [List.getElem?_cons_zero, List.getElem?_cons_succ] at g1
  clear hb1
  rcases hc with ⟨hno, _⟩ | ⟨_, rfl⟩
  · exact absurd Hok.out hno
  have hp1 := X1.out.lt
  go_wp2_with fail
  clear g1
  go_loopw [8, 10, 11, 12, 13, 14, 28] (fun lv _ _ _ _ _ iv wr => ∃ j : Nat, iv = .int .i64 (j : Nat) ∧ j ≤ m ∧ wr.ownsRow w1.heap.size 32 2 lv (indM (es.take j) l).length (flat (cast (indM (es.take j) l))) ∧ Below w1.heap.size w1 wr) (fun _ _ _ _ _ _ iv _ => m - (intOf iv).toNat)
  case atStart => exact ⟨0, rfl, Nat.zero_le _, World.ownsRow_nil _ _ _ _, Below.refl _ _⟩
  case round =>
    obtain ⟨j, rfl, hj, hown, hb⟩ := hrel
    have O6 := Lib.hid hown
    have B6 := Lib.hid hb
    have Bw := Lib.hid (below_on B1.out hb)
    have hsz := hb.size
    clear hown hb
    obtain ⟨wa, rfl⟩ : ∃ wa : World, wa = wr := ⟨_, rfl⟩
    by_cases hlt : j < m
    · obtain ⟨e, b, o, he, rfl, hbl, c0, c1⟩ := (E0.out _ Bw.out).at_ hlt
      obtain ⟨x, y, hxy, rfl⟩ := cast_at he
      simp only at c0 c1
      have Hlt := Lib.hid hlt
      have Hst := Lib.hid (indM_step (l := l) hxy)
      have hil := indM_len (es.take j) l
      rw [List.length_take] at hil
      have bx := (Below.refl wa.heap.size wa).alloc (Nat.le_refl _) (.cells #[.int .i64 (x : Int), .int .i64 (y : Int)] 32)
      have Y6 := Lib.hid (Cells.new wa #[.int .i64 (x : Int), .int .i64 (y : Int)] 32)
      have B7 := Lib.hid (B6.out.trans (bx.mono hsz))
      have Bw7 := Lib.hid (below_on Bw.out bx)
      have O7 := Lib.hid (O6.out.alloc (.cells #[.int .i64 (x : Int), .int .i64 (y : Int)] 32))
      obtain ⟨w7, hw7⟩ : ∃ u, wa.alloc (.cells #[.int .i64 (x : Int), .int .i64 (y : Int)] 32) = u := ⟨_, rfl⟩
      obtain ⟨pe, hpe⟩ : ∃ pe, wa.heap.size = pe := ⟨_, rfl⟩
      rw [hw7] at Y6 B7 Bw7 O7
      rw [hpe] at Y6
      have d0 := Y6.out.at_ 0
      have d1 := Y6.out.at_ 1
      simp only [List.getElem?_cons_zero, List.getElem?_cons_succ] at d0 d1
      have H1 := Lib.hid (HS.out w7 x Bw7.out)
      have Hk := Lib.hid (show keepE l (x, y) = (l.contains x && l.contains y) from rfl)
      have Hp := Lib.hid (show posE l (x, y) = (l.countP (· < x), l.countP (· < y)) from rfl)
      have HSy := Lib.hid (fun w' hb => HS.out w' y hb)
      obtain ⟨kx, hkx⟩ : ∃ kx, l.contains x = kx := ⟨_, rfl⟩
      obtain ⟨ky, hky⟩ : ∃ ky, l.contains y = ky := ⟨_, rfl⟩
      obtain ⟨px, hpx⟩ : ∃ px, l.countP (· < x) = px := ⟨_, rfl⟩
      obtain ⟨py, hpy⟩ : ∃ py, l.countP (· < y) = py := ⟨_, rfl⟩
      rw [hkx, hky] at Hk
      rw [hpx, hpy] at Hp
      rw [hkx, hpx] at H1
      rw [hky, hpy] at HSy
      clear he hxy hkx hky hpx hpy bx
      go_wp2_with fail
      refine H1.out.mono ?_
      rintro e w8 ⟨rfl, hb8⟩
      have e1 := (Y6.out.keep hb8).at_ 1
      simp only [List.getElem?_cons_zero, List.getElem?_cons_succ] at e1
      have B8 := Lib.hid (B7.out.trans (hb8.mono B7.out.size))
      have Bw8 := Lib.hid (below_on Bw7.out hb8)
      have O8 := Lib.hid (World.ownsRow.kept O7.out (row := none) ⟨hb8.os, hb8.tape, hb8.output, hb8.size, fun k hk _ => hb8.block k hk⟩ (by cases Value.ownBlock _ <;> simp))
      clear hb8 d0 d1
      go_wp2_with fail
      refine (HSy.out _ Bw8.out).mono ?_
      rintro e w9 ⟨rfl, hb9⟩
      have B9 := Lib.hid (B8.out.trans (hb9.mono B8.out.size))
      have O9 := Lib.hid (World.ownsRow.kept O8.out (row := none) ⟨hb9.os, hb9.tape, hb9.output, hb9.size, fun k hk _ => hb9.block k hk⟩ (by cases Value.ownBlock _ <;> simp))
      have hs9 := B9.out.size
      clear hb9 e1
      by_cases hkk : (kx && ky) = true
      · have hkk2 := hkk
        rw [Bool.and_eq_true] at hkk2
        obtain ⟨rfl, rfl⟩ := hkk2
        rw [Hk.out, if_pos (by rfl), Hp.out] at Hst
        have B10 := Lib.hid (B9.out.alloc hs9 (.cells #[.int .i64 (px : Int), .int .i64 (py : Int)] 32))
        go_wp2_with (at_builtin; refine wpList_append_own_wide _ rfl (.tmp 50) (.tmp 54) 22 rfl w1.heap.size 32 i0 (.agg #[.int .i64 0, .int .i64 0]) 2 16 Tryd.underlying22 hi hz0 hz1 hz2 rfl (by decide) _ _ _ rfl (O9.out.alloc _) ⟨w9.heap.size, 0, none⟩ 1 1 [.int .i64 (px : Int), .int .i64 (py : Int)] rfl rfl ?c1 ?c2 ?c3 ?c4 ?c5 ?_)
        case c1 =>
          intro k u hu
          match k, hu with
          | 0, hu => simp at hu; subst hu; simp [Addr.add, go_sem]
          | 1, hu => simp at hu; subst hu; simp [Addr.add, go_sem]
        case c2 => intro u hu; simp at hu; rcases hu with rfl | rfl <;> rfl
        case c3 => unfold maxLen; omega
        case c4 => omega
        case c5 => simp; omega
        intro v' w10 hown' hgrow _
        have B11 := Lib.hid (B10.out.grown hgrow (by simp; omega) (fun k hk => own_ge O9.out hk))
        have O11 := Lib.hid (show w10.ownsRow w1.heap.size 32 2 v' (indM (es.take (j + 1)) l).length (flat (cast (indM (es.take (j + 1)) l))) by
          rw [Hst.out, List.length_append, cast_snoc, flat_snoc]; exact hown')
        clear hown' hgrow
        go_wp2_with fail
        go_roundw
        case rel => exact ⟨j + 1, by go_num, Hlt.out, O11.out, B11.out⟩
        case measure => simp [intOf]; have := Hlt.out; omega
      · rw [Hk.out, if_neg hkk, List.append_nil] at Hst
        have O11 := Lib.hid (show w9.ownsRow w1.heap.size 32 2 _ (indM (es.take (j + 1)) l).length (flat (cast (indM (es.take (j + 1)) l))) by
          rw [Hst.out]; exact O9.out)
        cases kx with
        | false =>
          clear hkk
          go_wp2_with fail
          go_roundw
          case rel => exact ⟨j + 1, by go_num, Hlt.out, O11.out, B9.out⟩
          case measure => simp [intOf]; have := Hlt.out; omega
        | true =>
          obtain rfl : ky = false := by cases ky <;> simp_all
          clear hkk
          go_wp2_with fail
          go_roundw
          case rel => exact ⟨j + 1, by go_num, Hlt.out, O11.out, B9.out⟩
          case measure => simp [intOf]; have := Hlt.out; omega
    · have hjm : es.take j = es := List.take_of_length_le (by rw [Hlen.out]; omega)
      rw [hjm] at O6
      have hcl : (cast (indM es l)).length = (indM es l).length := cast_len _
      rw [← hcl] at O6
      obtain ⟨B, cB, hv, hE, hBb⟩ := own_pairs O6.out
      rw [hcl] at hv hE
      subst hv
      have X6 := Lib.hid (X1.out.keep B6.out)
      have x0 := X6.out.at_ 0
      have x1 := X6.out.at_ 1
      have f0 := X6.out.fz 0
      have f1 := X6.out.fz 1
      simp only [List.getElem?_cons_zero, List.getElem?_cons_succ] at x0 x1
      have HBn := Lib.hid (fun b o (hb : B = some ⟨b, o, none⟩) => (show b ≠ w.heap.size + 1 from fun hh => by have := hBb b o hb; omega))
      have X7 := Lib.hid ((X6.out.set 0 (.int .i64 (l.length : Nat)) (by simp)).set 1 (.slice B (indM es l).length cB) (by simp))
      have E7 := Lib.hid ((hE.other HBn.out 0 (.int .i64 (l.length : Nat))).other HBn.out 1 (.slice B (indM es l).length cB))
      have B7 := Lib.hid ((Bw.out.setCell (p := ⟨w.heap.size + 1, 0, none⟩) (by simp) (.int .i64 (l.length : Nat))).setCell (p := ⟨w.heap.size + 1, 1, none⟩) (by simp) (.slice B (indM es l).length cB))
      clear hcl hE hBb hjm
      go_wp2_with fail
      exact bodyPost_ret (ret_graph rfl _ _ (w.heap.size + 1) _ _ rfl X7.out) rfl ⟨⟨B, cB, rfl, E7.out⟩, B7.out⟩
end Go.Proofs.YthocdmlacfejkaaDoor
