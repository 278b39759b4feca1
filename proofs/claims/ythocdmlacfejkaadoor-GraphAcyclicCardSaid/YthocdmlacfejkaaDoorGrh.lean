/- The law GraphReaches. -/
import Derived.Test.YthocdmlacfejkaaDoorMH
import Derived.Test.YthocdmlacfejkaaDoorMI
import Derived.Test.YthocdmlacfejkaaDoorMG
import Derived.Test.YthocdmlacfejkaaDoorMFb
namespace Go.Proofs.YthocdmlacfejkaaDoor
open Go.RowKit
theorem fine_split {n : Int} {m : Nat} {es : List (Int × Int)} (h : fineG n m es = true) : ∃ (k : Nat) (l : List (Nat × Nat)), n = k ∧ es = cast l ∧ Fine k l ∧ k ≤ 8 ∧ m ≤ 24 := by
  unfold fineG at h
  rw [Bool.and_eq_true, decide_eq_true_eq] at h
  obtain ⟨h1, h2⟩ := h
  obtain ⟨k, l, rfl, rfl, hf⟩ := fine_of h2
  unfold fewG at h1
  simp only [Bool.and_eq_true, Bool.or_eq_true, decide_eq_true_eq] at h1
  have := hf.n64
  exact ⟨k, l, rfl, rfl, hf, by omega, h1.1⟩
theorem chs_in {n b : Nat} : ∀ a ∈ chs n b, a < n := fun a ha => by
  have := List.mem_range.1 (List.mem_filter.1 ha).1
  omega
theorem inc_filter (p : Nat → Bool) (n : Nat) : incL (zs ((List.range n).filter p)) = true := by
  rw [incL_iff]
  intro i a b ha hb
  obtain ⟨x, hx, rfl⟩ := zs_at ha
  obtain ⟨y, hy, rfl⟩ := zs_at hb
  have hp : ((List.range n).filter p).Pairwise (· < ·) := List.Pairwise.filter _ List.pairwise_lt_range
  have := List.pairwise_iff_getElem.1 hp
  have hi : i < ((List.range n).filter p).length := by
    rcases Nat.lt_or_ge i ((List.range n).filter p).length with h1 | h1
    · exact h1
    · rw [List.getElem?_eq_none h1] at hx; cases hx
  have hj : i + 1 < ((List.range n).filter p).length := by
    rcases Nat.lt_or_ge (i + 1) ((List.range n).filter p).length with h1 | h1
    · exact h1
    · rw [List.getElem?_eq_none h1] at hy; cases hy
  have h1 := this i (i + 1) hi hj (by omega)
  rw [List.getElem?_eq_getElem hi] at hx
  rw [List.getElem?_eq_getElem hj] at hy
  injection hx with hx
  injection hy with hy
  rw [hx, hy] at h1
  omega
theorem chs_ok (n b : Nat) : errN n (zs (chs n b)) = 0 := by
  unfold errN
  have h1 : (zs (chs n b)).all (inN n) = true := by
    rw [List.all_eq_true]
    intro x hx
    unfold zs at hx
    obtain ⟨y, hy, rfl⟩ := List.mem_map.1 hx
    have := chs_in y hy
    unfold inN
    simp
    omega
  rw [h1]
  simp [chs, inc_filter]
set_option maxRecDepth 100000 in
set_option maxHeartbeats 8000000 in
theorem grh_any (n : Int) (A : Option Addr) (m c : Nat) (es : List (Int × Int)) (b : Nat) (w : World) (h : EL w A m es) (hb : b < 256) (hw : Good w) :
    Calls Tryd.prog 6 #[gV n A m c, .int .u8 b] w fun e w' => e = .returned (.bool true) ∧ Below w.heap.size w w' := by
  have kv := (Below.refl w.heap.size w).alloc (Nat.le_refl _) (.cells #[.int .i64 n, .slice A m c] 26)
  have HG := Lib.hid (fun w' (hb : Below w.heap.size w w') => hw.below hb hw.size)
  have HK := Lib.hid (fun w' (hb : Below w.heap.size w w') => known_any w' (hw.below hb hw.size))
  have HE := Lib.hid (fun w' (hb : Below w.heap.size w w') => h.keep hb)
  have G0 := Lib.hid (Cells.new w #[.int .i64 n, .slice A m c] 26)
  have HF := Lib.hid (fun w' (hb : Below w.heap.size w w') => fine_any n A m c es w' (h.keep hb))
  have hml := h.1
  obtain ⟨fb, hfb⟩ : ∃ fb, fineG n m es = fb := ⟨_, rfl⟩
  rw [hfb] at HF
  have kv := Lib.hid kv
  have Hb := Lib.hid hb
  clear h hw hb
  go_enter Tryd.func6, Tryd.ntmps6
  go_wp2_with fail
  refine (HK.out _ kv.out).mono ?_
  rintro e w1 ⟨rfl, hb1⟩
  have G1 := Lib.hid (G0.out.keep hb1)
  have B1 := Lib.hid (below_on kv.out hb1)
  have g0 := G1.out.at_ 0
  have g1 := G1.out.at_ 1
  simp only [List.getElem?_cons_zero, List.getElem?_cons_succ] at g0 g1
  clear hb1
  go_wp2_with fail
  refine (HF.out _ B1.out).mono ?_
  rintro e w2 ⟨rfl, hb2⟩
  have G2 := Lib.hid (G1.out.keep hb2)
  have B2 := Lib.hid (below_on B1.out hb2)
  clear hb2 g0 g1
  cases fb with
  | false =>
    clear hfb
    go_wp2_with fail
    refine (HK.out _ B2.out).mono ?_
    rintro e w3 ⟨rfl, hb3⟩
    have B3 := Lib.hid (below_on B2.out hb3)
    clear hb3
    go_wp2_with fail
    go_ret
    exact ⟨rfl, B3.out⟩
  | true =>
    obtain ⟨k, l, rfl, rfl, hf, hk8, hm24⟩ := fine_split hfb
    have Hf := Lib.hid hf
    have hM2 := Lib.hid (show m ≤ 100000 by omega)
    have Hch := Lib.hid (fun a (ha : a ∈ chs k b) => chs_in a ha)
    have hl8 := chs_len k b
    have Hcl := Lib.hid (closed_len (es := l) hf.low hf.n64 (q := fun v => b.testBit v))
    have Hrl := Lib.hid (reach_list hf.low hf.n64 (l := chs k b) (fun a ha => chs_in a ha))
    have Hll := Lib.hid (clos_list hf.low hf.n64)
    have Hok := Lib.hid (chs_ok k b)
    have Hce := Lib.hid (show chs k b = (List.range k).filter fun v => b.testBit v by unfold chs; rw [Nat.min_eq_left hk8])
    rw [← Hce.out] at Hcl
    clear hfb
    obtain ⟨L, hL⟩ : ∃ L, chs k b = L := ⟨_, rfl⟩
    have HC := chosen_any k b A m c w2 hk8 Hb.out
    rw [hL] at HC Hch hl8 Hcl Hrl Hok
    have HC := Lib.hid HC
    clear hL hf
    have g0 := G2.out.at_ 0
    have g1 := G2.out.at_ 1
    simp only [List.getElem?_cons_zero, List.getElem?_cons_succ] at g0 g1
    go_wp2_with fail
    refine HC.out.mono ?_
    rintro e w3 ⟨v3, rfl, hown3, hb3⟩
    obtain ⟨A3, c3, rfl, hn3, _, _⟩ := own_nats hown3
    have L3 := Lib.hid hn3.il
    have G3 := Lib.hid (G2.out.keep hb3)
    have B3 := Lib.hid (below_on B2.out hb3)
    clear hb3 hown3 hn3 g0 g1
    have g0 := G3.out.at_ 0
    have g1 := G3.out.at_ 1
    simp only [List.getElem?_cons_zero, List.getElem?_cons_succ] at g0 g1
    go_wp2_with fail
    refine (copied_any k A m c (cast l) w3 (HE.out _ B3.out) hM2.out).mono ?_
    rintro e w5 ⟨P5, d5, rfl, hE5, hb5⟩
    have kx := (Below.refl w5.heap.size w5).alloc (Nat.le_refl _) (.cells #[.int .i64 (k : Nat), .slice P5 m d5] 26)
    have E5 := Lib.hid (hE5.keep kx)
    have X5 := Lib.hid (Cells.new w5 #[.int .i64 (k : Nat), .slice P5 m d5] 26)
    have b5 := below_on hb5 kx
    have G5 := Lib.hid (G3.out.keep b5)
    have L5 := Lib.hid (L3.out.keep b5)
    have B5 := Lib.hid (below_on B3.out b5)
    clear hb5 hE5 g0 g1 b5 kx
    have g0 := X5.out.at_ 0
    have g1 := X5.out.at_ 1
    simp only [List.getElem?_cons_zero, List.getElem?_cons_succ] at g0 g1
    have HR := reachG_any k P5 m d5 l A3 c3 (zs L) _ E5.out Hf.out L5.out (by rw [zs_len]; omega) (HG.out _ B5.out)
    rw [zs_len] at HR
    have HR := Lib.hid HR
    go_wp2_with fail
    refine HR.out.mono ?_
    rintro e w6 ⟨hc6, hb6⟩
    rcases hc6 with ⟨hno, _⟩ | ⟨_, v6, rfl, hown6⟩
    · exact absurd Hok.out hno
    rw [Hrl.out] at hown6
    obtain ⟨A6, c6, rfl, hn6, _, _⟩ := own_nats hown6
    have N6 := Lib.hid hn6.il
    have E6 := Lib.hid (E5.out.keep hb6)
    have X6 := Lib.hid (X5.out.keep hb6)
    have G6 := Lib.hid (G5.out.keep hb6)
    have L6 := Lib.hid (L5.out.keep hb6)
    have B6 := Lib.hid (below_on B5.out hb6)
    clear hb6 hown6 hn6 g0 g1
    have g0 := X6.out.at_ 0
    have g1 := X6.out.at_ 1
    simp only [List.getElem?_cons_zero, List.getElem?_cons_succ] at g0 g1
    have HS := Lib.hid (closureG_any k P5 m d5 l w6 E6.out Hf.out (HG.out _ B6.out))
    go_wp2_with fail
    refine HS.out.mono ?_
    rintro e w7 ⟨A7, rfl, hll7, hb7⟩
    rw [Hll.out] at hll7
    have C7 := Lib.hid hll7
    have N7 := Lib.hid (N6.out.keep hb7)
    have E7 := Lib.hid (E6.out.keep hb7)
    have X7 := Lib.hid (X6.out.keep hb7)
    have G7 := Lib.hid (G6.out.keep hb7)
    have L7 := Lib.hid (L6.out.keep hb7)
    have B7 := Lib.hid (below_on B6.out hb7)
    clear hb7 hll7 g0 g1
    have g0 := X7.out.at_ 0
    have g1 := X7.out.at_ 1
    simp only [List.getElem?_cons_zero, List.getElem?_cons_succ] at g0 g1
    have HD := closedG_any k P5 m d5 l A3 c3 (zs L) w7 E7.out Hf.out L7.out (by rw [zs_len]; omega)
    rw [zs_len] at HD
    have HD := Lib.hid HD
    go_wp2_with fail
    refine HD.out.mono ?_
    rintro e w8 ⟨hc8, hb8⟩
    rcases hc8 with ⟨hno, _⟩ | ⟨_, rfl⟩
    · exact absurd Hok.out hno
    obtain ⟨cb, hcb⟩ : ∃ cb, (!l.any (outE (setI (zs L)))) = cb := ⟨_, rfl⟩
    rw [hcb] at Hcl ⊢
    have C8 := Lib.hid (C7.out.keep hb8)
    have N8 := Lib.hid (N7.out.keep hb8)
    have E8 := Lib.hid (E7.out.keep hb8)
    have X8 := Lib.hid (X7.out.keep hb8)
    have G8 := Lib.hid (G7.out.keep hb8)
    have L8 := Lib.hid (L7.out.keep hb8)
    have B8 := Lib.hid (below_on B7.out hb8)
    clear hb8 hcb g0 g1
    have g0 := G8.out.at_ 0
    have g1 := G8.out.at_ 1
    simp only [List.getElem?_cons_zero, List.getElem?_cons_succ] at g0 g1
    go_wp2_with fail
    refine (plain_any k A m c (cast l) w8 (HE.out _ B8.out) hM2.out).mono ?_
    rintro e w9 ⟨P9, d9, rfl, hE9, hb9⟩
    have kx := (Below.refl w9.heap.size w9).alloc (Nat.le_refl _) (.cells #[.int .i64 (k : Nat), .slice P9 m d9] 35)
    have Y9 := Lib.hid (Cells.new w9 #[.int .i64 (k : Nat), .slice P9 m d9] 35)
    have F9 := Lib.hid (hE9.keep kx)
    have b9 := below_on hb9 kx
    have C9 := Lib.hid (C8.out.keep b9)
    have N9 := Lib.hid (N8.out.keep b9)
    have E9 := Lib.hid (E8.out.keep b9)
    have X9 := Lib.hid (X8.out.keep b9)
    have G9 := Lib.hid (G8.out.keep b9)
    have L9 := Lib.hid (L8.out.keep b9)
    have B9 := Lib.hid (below_on B8.out b9)
    clear hb9 hE9 g0 g1 b9 kx
    have y0 := Y9.out.at_ 0
    have y1 := Y9.out.at_ 1
    simp only [List.getElem?_cons_zero, List.getElem?_cons_succ] at y0 y1
    have HR := Lib.hid (refReach_any k P9 m d9 l A3 c3 L _ F9.out Hf.out L9.out (by omega) Hch.out)
    go_wp2_with fail
    refine HR.out.mono ?_
    rintro e w10 ⟨v10, rfl, hown10, hb10⟩
    obtain ⟨A10, c10, rfl, hn10, _, _⟩ := own_nats hown10
    have HQ := equal_any A6 A10 c6 c10 (zs (reachL k l L)) (zs (reachL k l L)) w10 (N9.out.keep hb10) hn10.il (by rw [zs_len]; have := reachL_len k l L; omega) (by rw [zs_len]; have := reachL_len k l L; omega)
    rw [zs_len, beq_self_eq_true] at HQ
    have HQ := Lib.hid HQ
    have C10 := Lib.hid (C9.out.keep hb10)
    have E10 := Lib.hid (E9.out.keep hb10)
    have F10 := Lib.hid (F9.out.keep hb10)
    have X10 := Lib.hid (X9.out.keep hb10)
    have Y10 := Lib.hid (Y9.out.keep hb10)
    have G10 := Lib.hid (G9.out.keep hb10)
    have L10 := Lib.hid (L9.out.keep hb10)
    have B10 := Lib.hid (below_on B9.out hb10)
    clear hb10 hown10 hn10 y0 y1
    go_wp2_with fail
    refine HQ.out.mono ?_
    rintro e w11 ⟨rfl, hb11⟩
    have C11 := Lib.hid (C10.out.keep hb11)
    have E11 := Lib.hid (E10.out.keep hb11)
    have F11 := Lib.hid (F10.out.keep hb11)
    have X11 := Lib.hid (X10.out.keep hb11)
    have Y11 := Lib.hid (Y10.out.keep hb11)
    have G11 := Lib.hid (G10.out.keep hb11)
    have L11 := Lib.hid (L10.out.keep hb11)
    have B11 := Lib.hid (below_on B10.out hb11)
    clear hb11
    have y0 := Y11.out.at_ 0
    have y1 := Y11.out.at_ 1
    simp only [List.getElem?_cons_zero, List.getElem?_cons_succ] at y0 y1
    have HS := Lib.hid (refClosure_any k P9 m d9 l w11 F11.out Hf.out)
    go_wp2_with fail
    refine HS.out.mono ?_
    rintro e w12 ⟨v12, rfl, hout12, hb12⟩
    obtain ⟨A12, c12, rfl, hl12⟩ := hout12.ll
    have HQ := lawLists_any _ 0 A7 A12 k c12 ((List.range k).map fun a => reachL k l [a]) ((List.range k).map fun a => reachL k l [a]) w12 (C11.out.keep hb12) hl12 (by simp; omega) (by simp; omega) (fun x hx => by obtain ⟨a, _, rfl⟩ := List.mem_map.1 hx; have := reachL_len k l [a]; omega) (fun x hx => by obtain ⟨a, _, rfl⟩ := List.mem_map.1 hx; have := reachL_len k l [a]; omega)
    have hlk : ((List.range k).map fun a => reachL k l [a]).length = k := by simp
    rw [hlk, beq_self_eq_true] at HQ
    rw [hlk]
    have HQ := Lib.hid HQ
    have E12 := Lib.hid (E11.out.keep hb12)
    have F12 := Lib.hid (F11.out.keep hb12)
    have X12 := Lib.hid (X11.out.keep hb12)
    have Y12 := Lib.hid (Y11.out.keep hb12)
    have G12 := Lib.hid (G11.out.keep hb12)
    have L12 := Lib.hid (L11.out.keep hb12)
    have B12 := Lib.hid (below_on B11.out hb12)
    clear hb12 hout12 hl12 hlk y0 y1
    go_wp2_with fail
    refine HQ.out.mono ?_
    rintro e w13 ⟨rfl, hb13⟩
    have E13 := Lib.hid (E12.out.keep hb13)
    have F13 := Lib.hid (F12.out.keep hb13)
    have X13 := Lib.hid (X12.out.keep hb13)
    have Y13 := Lib.hid (Y12.out.keep hb13)
    have G13 := Lib.hid (G12.out.keep hb13)
    have L13 := Lib.hid (L12.out.keep hb13)
    have B13 := Lib.hid (below_on B12.out hb13)
    clear hb13
    have y0 := Y13.out.at_ 0
    have y1 := Y13.out.at_ 1
    simp only [List.getElem?_cons_zero, List.getElem?_cons_succ] at y0 y1
    have HD := refClosed_any k P9 m d9 l A3 c3 L w13 F13.out Hf.out L13.out (by omega) Hch.out
    rw [← Hcl.out] at HD
    have HD := Lib.hid HD
    go_wp2_with fail
    refine HD.out.mono ?_
    rintro e w14 ⟨rfl, hb14⟩
    have E14 := Lib.hid (E13.out.keep hb14)
    have X14 := Lib.hid (X13.out.keep hb14)
    have G14 := Lib.hid (G13.out.keep hb14)
    have B14 := Lib.hid (below_on B13.out hb14)
    clear hb14 y0 y1
    have x1 := X14.out.at_ 1
    have g1 := G14.out.at_ 1
    simp only [List.getElem?_cons_zero, List.getElem?_cons_succ] at x1 g1
    have HQ := equalE_any P5 A m d5 m c (cast l) (cast l) w14 E14.out (HE.out _ B14.out) (by omega) (by omega)
    rw [beq_self_eq_true] at HQ
    have HQ := Lib.hid HQ
    have tcb : (cb == cb) = true := by simp
    go_wp2_with fail
    refine HQ.out.mono ?_
    rintro e w15 ⟨rfl, hb15⟩
    have B15 := Lib.hid (below_on B14.out hb15)
    clear hb15 x1 g1
    go_wp2_with fail
    go_ret
    exact ⟨by simp, B15.out⟩
end Go.Proofs.YthocdmlacfejkaaDoor
