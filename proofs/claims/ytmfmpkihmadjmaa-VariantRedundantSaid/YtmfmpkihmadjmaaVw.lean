/- Forced. -/
import Derived.Test.YtmfmpkihmadjmaaVq
namespace Go.Proofs.Ytmfmpkihmadjmaa
open Go.RowKit Go.Shelf Go.Maps Go.WideMaps
section
attribute [local go_sem] Oper.semAt_some
set_option maxRecDepth 100000 in
set_option maxHeartbeats 8000000 in
theorem forced_ok (f : Fm) (os : List ByteArray) (rs : List (ByteArray × List (Nat × Bool))) (gs : List (Nat × List (Nat × Bool))) (vs : List Ov) (ds : List Dm) (A : Option Addr) (m d : Nat) (ch : List (Nat × Bool)) (w : World) (h : FamOK w f os rs gs vs ds) (hl : LitL w A (lc ch)) (hm : ch.length = m) (hm2 : m ≤ 4611686018427387904) (hok : chE f.n none (lc ch) = 0) :
    Calls Try.prog 26 #[f.v, .slice A m d] w fun e w' => ((AL f.n rs ch = [] ∧ e = .returned (.tuple #[.slice none 0 0, .int .i64 21])) ∨ (AL f.n rs ch ≠ [] ∧ ∃ v, e = .returned (.tuple #[v, .int .i64 0]) ∧ w'.ownsRow w.heap.size 68 2 v (frcU ((AL f.n rs ch).map cF) f.n).length (litV (frcU ((AL f.n rs ch).map cF) f.n)))) ∧ Below w.heap.size w w' := by
  have k1 := (Below.refl w.heap.size w).alloc (Nat.le_refl _) (.cells f.cells 40)
  have P1 := Cells.new w f.cells 40
  have s1 : (w.alloc (.cells f.cells 40)).heap.size = w.heap.size + 1 := by simp
  obtain ⟨w1, hw1⟩ : ∃ u, w.alloc (.cells f.cells 40) = u := ⟨_, rfl⟩
  have hw1' : w.alloc (.cells #[.string f.nm, .slice f.PA f.pn f.pc, .slice f.IA f.iN f.ic, .slice f.DA f.dn f.dc, .slice f.KA f.kn f.kc, .slice f.QA f.qn f.qc, .slice f.OA f.n f.oc, .slice f.RA f.rn f.rc, .slice f.GA f.gn f.gc, .slice f.VA f.vn f.vc] 40) = w1 := hw1
  rw [hw1] at k1 P1 s1
  have HK := checkBoth_any f os rs gs vs ds A m d (lc ch) w1 (h.keep k1) (hl.keep k1) (by rw [lc_len, hm]) hm2
  rw [hok] at HK
  have HK := Lib.hid HK
  have PH := Lib.hid (show w1.heap[w.heap.size]? = some (.cells f.cells 40) by rw [← hw1]; exact heap_new w _)
  have P1 := Lib.hid P1
  have K1 := Lib.hid k1
  have c0 := P1.out.at_ 0
  have c1 := P1.out.at_ 1
  have c2 := P1.out.at_ 2
  have c3 := P1.out.at_ 3
  have c4 := P1.out.at_ 4
  have c5 := P1.out.at_ 5
  have c6 := P1.out.at_ 6
  have c7 := P1.out.at_ 7
  have c8 := P1.out.at_ 8
  have c9 := P1.out.at_ 9
  simp only [List.getElem?_cons_zero, List.getElem?_cons_succ] at c0 c1 c2 c3 c4 c5 c6 c7 c8 c9
  refine (callsIn_wide (n := 6)).1 ?_
  refine callsIn_of_wp_marks Try.func26 rfl trivial ?_ rfl
  simp only [Try.ntmps26, List.size_toArray, List.length_cons, List.length_nil, Nat.reduceAdd, Nat.reduceSub, Array.replicate_succ, Array.replicate_zero, List.push_toArray, List.append_toArray, List.nil_append, List.cons_append]
  clear hw1
  gi_wp2_with (first
    | (refine ⟨trivial, ?_⟩; gi_at_call 44; refine (callsIn_wide.2 HK.out).mono ?_; rintro e w2 ⟨rfl, hb2⟩; clear c0 c1 c2 c3 c4 c5 c6 c7 c8 c9 hw1'; have K2 := below_on K1.out hb2; have P2 := P1.out.keep hb2; have kx1 := (Below.refl w2.heap.size w2).alloc (Nat.le_refl _) (.cells #[.bool false] 4); have kx2 := kx1.alloc (by simp) (.cells #[.int .u64 18446744073709551615] 108); have kx := kx2.alloc (by simp; omega) (.cells #[.int .u64 18446744073709551615] 108); have P3 := P2.keep kx; have c0 := P3.at_ 0; have c1 := P3.at_ 1; have c2 := P3.at_ 2; have c3 := P3.at_ 3; have c4 := P3.at_ 4; have c5 := P3.at_ 5; have c6 := P3.at_ 6; have c7 := P3.at_ 7; have c8 := P3.at_ 8; have c9 := P3.at_ 9; simp only [List.getElem?_cons_zero, List.getElem?_cons_succ] at c0 c1 c2 c3 c4 c5 c6 c7 c8 c9)
    | (refine ⟨trivial, ?_⟩; gi_at_call 45; refine (callsIn_wide.2 (allowed_any f A m d _)).mono ?_; rintro e w' ⟨rfl, rfl⟩))
  have PH2 := (hb2.block w.heap.size (by omega)).trans PH.out
  obtain ⟨q, s2⟩ : ∃ q, w2.heap.size = q := ⟨_, rfl⟩
  have hs2 : w.heap.size < q := by have := hb2.size; omega
  have k2 := K2
  rw [s2]
  have k3 := k2.alloc (by omega) (.cells #[.bool false] 4)
  have s3 : (w2.alloc (.cells #[.bool false] 4)).heap.size = q + 1 := by simp [s2]
  have kk := (Below.refl w2.heap.size w2).alloc (Nat.le_refl _) (.cells #[.bool false] 4)
  have D7 := Cells.new w2 #[.bool false] 4
  rw [s2] at D7
  have PH3 := heap_old (o := .cells #[.bool false] 4) PH2
  obtain ⟨w3, hw3⟩ : ∃ u, w2.alloc (.cells #[.bool false] 4) = u := ⟨_, rfl⟩
  rw [hw3] at k3 s3 D7 PH3 ⊢
  have k4 := k3.alloc (by omega) (.cells #[.int .u64 18446744073709551615] 108)
  have s4 : (w3.alloc (.cells #[.int .u64 18446744073709551615] 108)).heap.size = q + 1 + 1 := by simp [s3]
  have kk := (Below.refl w3.heap.size w3).alloc (Nat.le_refl _) (.cells #[.int .u64 18446744073709551615] 108)
  have D7 := D7.keep kk
  have D8 := Cells.new w3 #[.int .u64 18446744073709551615] 108
  rw [s3] at D8
  have PH4 := heap_old (o := .cells #[.int .u64 18446744073709551615] 108) PH3
  obtain ⟨w4, hw4⟩ : ∃ u, w3.alloc (.cells #[.int .u64 18446744073709551615] 108) = u := ⟨_, rfl⟩
  rw [hw4] at k4 s4 D7 D8 PH4 ⊢
  have k5 := k4.alloc (by omega) (.cells #[.int .u64 18446744073709551615] 108)
  have s5 : (w4.alloc (.cells #[.int .u64 18446744073709551615] 108)).heap.size = q + 1 + 1 + 1 := by simp [s4]
  have kk := (Below.refl w4.heap.size w4).alloc (Nat.le_refl _) (.cells #[.int .u64 18446744073709551615] 108)
  have D7 := D7.keep kk
  have D8 := D8.keep kk
  have D9 := Cells.new w4 #[.int .u64 18446744073709551615] 108
  rw [s4] at D9
  have PH5 := heap_old (o := .cells #[.int .u64 18446744073709551615] 108) PH4
  obtain ⟨w5, hw5⟩ : ∃ u, w4.alloc (.cells #[.int .u64 18446744073709551615] 108) = u := ⟨_, rfl⟩
  rw [hw5] at k5 s5 D7 D8 D9 PH5 ⊢
  have k6 := k5.alloc (by omega) (.cells f.cells 40)
  have s6 : (w5.alloc (.cells f.cells 40)).heap.size = q + 1 + 1 + 1 + 1 := by simp [s5]
  have kk := (Below.refl w5.heap.size w5).alloc (Nat.le_refl _) (.cells f.cells 40)
  have D7 := D7.keep kk
  have D8 := D8.keep kk
  have D9 := D9.keep kk
  have hF := heap_new w5 (.cells f.cells 40)
  rw [s5] at hF
  have PH6 := heap_old (o := .cells f.cells 40) PH5
  obtain ⟨w6, hw6⟩ : ∃ u, w5.alloc (.cells f.cells 40) = u := ⟨_, rfl⟩
  rw [hw6] at k6 s6 D7 D8 D9 PH6 hF ⊢
  have k7 := k6.alloc (by omega) (.cells #[.slice A m d] 55)
  have s7 : (w6.alloc (.cells #[.slice A m d] 55)).heap.size = q + 1 + 1 + 1 + 1 + 1 := by simp [s6]
  have kk := (Below.refl w6.heap.size w6).alloc (Nat.le_refl _) (.cells #[.slice A m d] 55)
  have D7 := D7.keep kk
  have D8 := D8.keep kk
  have D9 := D9.keep kk
  have hC := heap_new w6 (.cells #[.slice A m d] 55)
  rw [s6] at hC
  have hF := heap_old (o := .cells #[.slice A m d] 55) hF
  have PH7 := heap_old (o := .cells #[.slice A m d] 55) PH6
  obtain ⟨w7, hw7⟩ : ∃ u, w6.alloc (.cells #[.slice A m d] 55) = u := ⟨_, rfl⟩
  rw [hw7] at k7 s7 D7 D8 D9 PH7 hF hC ⊢
  clear hw3 hw4 hw5 hw6 hw7 kk k3 k4 k5 k6 PH3 PH4 PH5 PH6 P2 P3 c0 c1 c2 c3 c4 c5 c6 c7 c8 c9 kx kx1 kx2
  have hle := Nat.le_of_lt hs2
  have d7 := D7.at_ 0
  have d8 := D8.at_ 0
  have d9 := D9.at_ 0
  simp only [List.getElem?_cons_zero] at d7 d8 d9
  refine wpIn_rangeFunc_ownF rfl (by omega) (gf := 69) (lb := #[.pointer (some ⟨q + 1 + 1 + 1, 0, none⟩), .pointer (some ⟨q + 1 + 1 + 1 + 1, 0, none⟩)]) rfl trivial (enters_of Try.func69 (by kernel_rfl) rfl)
    (allowed_stops w w7 f A m d rs ch (fun k => k = q ∨ k = q + 1 ∨ k = q + 1 + 1) (q + 1 + 1 + 1) (q + 1 + 1 + 1 + 1) _ _ k7 h.n12 hl hm (lowL_of hok h.n12) hm2 h.rsL h.rsl h.low (by have := h.r48; omega) hF hC (fun k h => by rcases h with h | h | h <;> subst h <;> omega) _) kpV_t (kpV_b (by omega)) (Below.refl _ _) (fun _ => rfl)
    (fun pre W => (W.heap[w.heap.size]? = some (.cells f.cells 40) ∧ (W.cell? ⟨q, 0, none⟩ = some (.bool (!pre.isEmpty)) ∧ W.frozen? ⟨q, 0, none⟩ = false) ∧ (W.cell? ⟨q + 1, 0, none⟩ = some (.int .u64 (andF pre : Nat)) ∧ W.frozen? ⟨q + 1, 0, none⟩ = false) ∧ W.cell? ⟨q + 1 + 1, 0, none⟩ = some (.int .u64 (norF pre : Nat)) ∧ W.frozen? ⟨q + 1 + 1, 0, none⟩ = false) ∧ Below w.heap.size w W)
    (fun _ _ _ => False)
    (fun s W W' row hs hg hr => by
      obtain ⟨⟨h2, ⟨h3, h4⟩, ⟨h5, h6⟩, h7, h8⟩, hB⟩ := hs
      have hr' := fun r e => (hr r e).2
      exact ⟨⟨ownFrom_block (β := List Cf) (B := w7.heap.size) (by omega) s W W' row h2 hg hr, ⟨cell_kept h3 hg hr', (frozen_kept h3 hg hr').trans h4⟩, ⟨cell_kept h5 hg hr', (frozen_kept h5 hg hr').trans h6⟩, cell_kept h7 hg hr', (frozen_kept h7 hg hr').trans h8⟩, ownFrom_below (β := List Cf) (Nat.le_refl _) (by omega) s W W' row hB hg hr⟩)
    (fun _ _ _ _ _ hs _ _ => hs)
    ⟨⟨PH7, ⟨d7, D7.fz 0⟩, ⟨d8, D8.fz 0⟩, d9, D9.fz 0⟩, k7⟩
    (fun x : Cf => { tmps := #[f.v, .slice A m d, .pointer (some ⟨w.heap.size, 0, none⟩), undef, .slice none 0 0, .int .i64 0, .int .i64 0, .pointer (some ⟨q, 0, none⟩), .pointer (some ⟨q + 1, 0, none⟩), .pointer (some ⟨q + 1 + 1, 0, none⟩), .int .u64 (x.1 : Nat), undef, undef, f.v, .slice A m d, .int .i64 0, .int .i64 0, .bool false, undef, f.v, .slice A m d, .func (.func 69) #[] #[.pointer (some ⟨q + 1 + 1 + 1, 0, none⟩), .pointer (some ⟨q + 1 + 1 + 1 + 1, 0, none⟩)], .int .u64 (x.1 : Nat), undef, undef, undef, undef, undef, undef, undef, undef, undef, undef, undef, undef, undef, undef, undef, undef, undef, undef, undef, undef, undef, undef, undef, undef, undef, undef, undef, undef, undef, undef, undef, undef], defers := [] }) ?assign ?body ?done ?stop
  case assign =>
    intro l x W K hK
    gi_wp2
    first | exact hK | (simp; exact hK) | simpa using hK
  case body =>
    rintro l pre x W ⟨⟨h2, ⟨h3, h4⟩, ⟨h5, h6⟩, h7, h8⟩, hB⟩ _
    have hmx : Try.prog.follows .mixedOrders = true := by kernel_rfl
    have e1 : bits .and .u64 ((andF pre : Nat) : Int) ((x.1 : Nat) : Int) = ((andF (pre ++ [x]) : Nat) : Int) := by rw [andF_snoc]; exact bits_and_u64_nat _ _ (andF_lt pre) x.2
    have e2 : bits .andNot .u64 ((norF pre : Nat) : Int) ((x.1 : Nat) : Int) = ((norF (pre ++ [x]) : Nat) : Int) := by rw [norF_snoc]; exact bits_nor _ _ (norF_lt pre) x.2
    have Hn := Lib.hid (show (!(pre ++ [x]).isEmpty) = true by simp)
    obtain ⟨a1, ha1⟩ : ∃ a, andF (pre ++ [x]) = a := ⟨_, rfl⟩
    obtain ⟨b1', hb1⟩ : ∃ a, norF (pre ++ [x]) = a := ⟨_, rfl⟩
    obtain ⟨a0, ha0⟩ : ∃ a, andF pre = a := ⟨_, rfl⟩
    obtain ⟨b0, hb0⟩ : ∃ a, norF pre = a := ⟨_, rfl⟩
    rw [ha0] at h5 e1
    rw [hb0] at h7 e2
    rw [ha1] at e1
    rw [hb1] at e2
    have Ha1 := Lib.hid ha1
    have Hb1 := Lib.hid hb1
    clear ha0 hb0 ha1 hb1
    have b1 : q ≠ q + 1 := by omega
    have b2 : q ≠ q + 1 + 1 := by omega
    have b3 : q + 1 ≠ q + 1 + 1 := by omega
    have hko := ((KeepsOthers.setCell W ⟨q, 0, none⟩ (.bool true)).trans ((KeepsOthers.setCell _ ⟨q + 1, 0, none⟩ (.int .u64 (a1 : Nat))).trans (KeepsOthers.setCell _ ⟨q + 1 + 1, 0, none⟩ (.int .u64 (b1' : Nat))))).trans (KeepsOthers.drew _)
    have hkp := kpV_t (X := fun k => k = q ∨ k = q + 1 ∨ k = q + 1 + 1) (kpV_set W q 0 (.bool true) hle (.inl rfl)) (kpV_t (kpV_set _ (q + 1) 0 (.int .u64 (a1 : Nat)) (by omega) (.inr (.inl rfl))) (kpV_t (kpV_set _ (q + 1 + 1) 0 (.int .u64 (b1' : Nat)) (by omega) (.inr (.inr rfl))) (kpV_drew _)))
    have hbb := (((hB.setCell (p := ⟨q, 0, none⟩) hle (.bool true)).setCell (p := ⟨q + 1, 0, none⟩) (by simp; omega) (.int .u64 (a1 : Nat))).setCell (p := ⟨q + 1 + 1, 0, none⟩) (by simp; omega) (.int .u64 (b1' : Nat))).drew
    have g2 := (Below.heap_setCell ((W.setCell ⟨q, 0, none⟩ (.bool true)).setCell ⟨q + 1, 0, none⟩ (.int .u64 (a1 : Nat))) ⟨q + 1 + 1, 0, none⟩ (.int .u64 (b1' : Nat)) w.heap.size (by simp; omega)).trans ((Below.heap_setCell (W.setCell ⟨q, 0, none⟩ (.bool true)) ⟨q + 1, 0, none⟩ (.int .u64 (a1 : Nat)) w.heap.size (by simp; omega)).trans ((Below.heap_setCell W ⟨q, 0, none⟩ (.bool true) w.heap.size (by simp; omega)).trans h2))
    have g3 := (c_other (j := 0) (i := 0) (v := .int .u64 (b1' : Nat)) b2).trans ((c_other (j := 0) (i := 0) (v := .int .u64 (a1 : Nat)) b1).trans (c_same (v := .bool true) h3))
    have g5 := (c_other (j := 0) (i := 0) (v := .int .u64 (b1' : Nat)) b3).trans (c_same (v := .int .u64 (a1 : Nat)) ((c_other (j := 0) (i := 0) (v := .bool true) (Ne.symm b1)).trans h5))
    have g7 := c_same (v := .int .u64 (b1' : Nat)) (((c_other (j := 0) (i := 0) (v := .int .u64 (a1 : Nat)) (Ne.symm b3)).trans (c_other (j := 0) (i := 0) (v := .bool true) (Ne.symm b2))).trans h7)
    have g4 : ∀ p, W.frozen? p = false → (((W.setCell ⟨q, 0, none⟩ (.bool true)).setCell ⟨q + 1, 0, none⟩ (.int .u64 (a1 : Nat))).setCell ⟨q + 1 + 1, 0, none⟩ (.int .u64 (b1' : Nat))).frozen? p = false := fun p hp => by rw [World.frozen?_setCell, World.frozen?_setCell, World.frozen?_setCell]; exact hp
    have HG2 := Lib.hid g2
    have HG3 := Lib.hid g3
    have HG4 := Lib.hid g4
    have HG5 := Lib.hid g5
    have HG7 := Lib.hid g7
    have F4 := Lib.hid h4
    have F6 := Lib.hid h6
    have F8 := Lib.hid h8
    clear g2 g3 g4 g5 g7
    have FIN : ∀ tm, ownPostK (KpV w.heap.size fun k => k = q ∨ k = q + 1 ∨ k = q + 1 + 1) (fun pre W => (W.heap[w.heap.size]? = some (.cells f.cells 40) ∧ (W.cell? ⟨q, 0, none⟩ = some (.bool (!pre.isEmpty)) ∧ W.frozen? ⟨q, 0, none⟩ = false) ∧ (W.cell? ⟨q + 1, 0, none⟩ = some (.int .u64 (andF pre : Nat)) ∧ W.frozen? ⟨q + 1, 0, none⟩ = false) ∧ W.cell? ⟨q + 1 + 1, 0, none⟩ = some (.int .u64 (norF pre : Nat)) ∧ W.frozen? ⟨q + 1 + 1, 0, none⟩ = false) ∧ Below w.heap.size w W) (fun _ _ _ => False) (pre ++ [x]) W .normal { tmps := tm, defers := [] } (((W.setCell ⟨q, 0, none⟩ (.bool true)).setCell ⟨q + 1, 0, none⟩ (.int .u64 (a1 : Nat))).setCell ⟨q + 1 + 1, 0, none⟩ (.int .u64 (b1' : Nat))).drew := fun _ => ⟨hko, hkp, ⟨HG2.out, ⟨by rw [Hn.out]; exact HG3.out, HG4.out _ F4.out⟩, ⟨by rw [Ha1.out]; exact HG5.out, HG4.out _ F6.out⟩, by rw [Hb1.out]; exact HG7.out, HG4.out _ F8.out⟩, hbb⟩
    have FIN := Lib.hid FIN
    clear hko hkp hbb
    gi_wp2
    gi_region_o
    all_goals gi_wp2
    all_goals exact FIN.out _
  case done =>
    rintro D ys W hD hys ⟨⟨h2, ⟨h3, h4⟩, ⟨h5, h6⟩, h7, h8⟩, hB⟩ hK
    have hDW : D < W.heap.size := (Array.getElem?_eq_some_iff.1 hK).1
    cases hA : AL f.n rs ch with
    | nil =>
      have hy : ys = [] := by rw [hys, hA]; rfl
      rw [hy] at h3
      replace h3 : W.cell? ⟨q, 0, none⟩ = some (.bool false) := h3
      have HAL := Lib.hid hA
      clear hA
      gi_wp2
      refine ⟨by simp, .inl ⟨_, _, rfl, run_takeDeferred hK, ?_⟩⟩
      refine ⟨.tuple #[.slice none 0 0, .int .i64 21], ?_, .inl ⟨HAL.out, rfl⟩, hB.trans (belowK_b (w := w) (Nat.le_refl _) W D _ _ (by omega) hK rfl rfl)⟩
      simp [results, Try.f26, go_sem]
    | cons c0 cs =>
      have hy : ys ≠ [] := by rw [hys, hA]; simp
      replace h3 : W.cell? ⟨q, 0, none⟩ = some (.bool true) := by
        rw [h3]
        cases ys with
        | nil => exact absurd rfl hy
        | cons a b => rfl
      have QW := Cells.of_row h2
      have c6 := QW.at_ 6
      simp only [List.getElem?_cons_zero, List.getElem?_cons_succ] at c6
      obtain ⟨i0, hi, hz0, hz1, hz2⟩ := info_parts info_lit
      have HA1 := Lib.hid (fun (j : Nat) (hj : j < 12) w' => (show Calls Try.prog 48 #[.int .u64 (andF ys : Nat), .int .i64 (j : Nat)] w' (fun e w2 => e = .returned (.bool (ys.all fun c => c.1.testBit (11 - j))) ∧ w' = w2) by rw [← andF_bit ys (11 - j) (by omega)]; exact has_any _ j w' hj (andF_lt ys)))
      have HA2 := Lib.hid (fun (j : Nat) (hj : j < 12) w' => (show Calls Try.prog 48 #[.int .u64 (norF ys : Nat), .int .i64 (j : Nat)] w' (fun e w2 => e = .returned (.bool (ys.all fun c => !c.1.testBit (11 - j))) ∧ w' = w2) by rw [← norF_bit ys (11 - j) (by omega)]; exact has_any _ j w' hj (norF_lt ys)))
      have hn12 := h.n12
      have HY := Lib.hid hys
      have HAL := Lib.hid (show AL f.n rs ch ≠ [] by rw [hA]; simp)
      have HW := Lib.hid hB
      have HD := Lib.hid hK
      obtain ⟨a0, ha0⟩ : ∃ a, andF ys = a := ⟨_, rfl⟩
      obtain ⟨b0, hb0⟩ : ∃ a, norF ys = a := ⟨_, rfl⟩
      rw [ha0] at h5 HA1
      rw [hb0] at h7 HA2
      have C5 := Lib.hid (fun wr (hb : Below W.heap.size W wr) => (hb.cell (World.block_lt_of_cell? _ _ h5)).trans h5)
      have C7 := Lib.hid (fun wr (hb : Below W.heap.size W wr) => (hb.cell (World.block_lt_of_cell? _ _ h7)).trans h7)
      clear ha0 hb0 hA hys hB hK QW h h2
      gi_wp2
      refine wpIn_wide.2 ?_
      go_loopw [11, 12, 34] (fun v _ i wr => ∃ j : Nat, i = .int .i64 (j : Nat) ∧ j ≤ f.n ∧ wr.ownsRow W.heap.size 68 2 v (frcU ys j).length (litV (frcU ys j)) ∧ Below W.heap.size W wr) (fun _ _ i _ => f.n - (intOf i).toNat)
      case atStart => exact ⟨0, rfl, Nat.zero_le _, World.ownsRow_nil _ _ _ _, Below.refl _ _⟩
      case round =>
        obtain ⟨j, rfl, hj, hown, hb⟩ := hrel
        have B1 := Lib.hid hb
        have Ow := Lib.hid hown
        have hb0 := hb.size
        have d5 := C5.out _ hb
        have d7 := C7.out _ hb
        clear hb hown h5 h7 c6
        by_cases hlt : j < f.n
        · have Hlt := Lib.hid hlt
          have H1 := HA1.out j (by omega) wr
          have H2 := HA2.out j (by omega) wr
          have Hlen := Lib.hid (frcU_len ys j)
          have HYes := Lib.hid (@frcU_yes ys j)
          have HNo := Lib.hid (@frcU_no ys j)
          obtain ⟨p1, hp1⟩ : ∃ p, (ys.all fun c => c.1.testBit (11 - j)) = p := ⟨_, rfl⟩
          obtain ⟨p2, hp2⟩ : ∃ p, (ys.all fun c => !c.1.testBit (11 - j)) = p := ⟨_, rfl⟩
          rw [hp1] at H1 HYes HNo
          rw [hp2] at H2 HYes HNo
          have H1 := Lib.hid H1
          have H2 := Lib.hid H2
          clear hp1 hp2
          cases p1
          · cases p2
            · go_wp2_with fail
              refine H1.out.mono ?_
              rintro e w1 ⟨rfl, rfl⟩
              go_wp2_with fail
              refine H2.out.mono ?_
              rintro e w1 ⟨rfl, rfl⟩
              go_wp2_with fail
              go_roundw
              case rel => exact ⟨j + 1, by go_num, Hlt.out, by rw [HNo.out rfl]; exact Ow.out, B1.out⟩
              case measure => simp [intOf]; have := Hlt.out; omega
            · go_wp2_with fail
              refine H1.out.mono ?_
              rintro e w1 ⟨rfl, rfl⟩
              go_wp2_with fail
              refine H2.out.mono ?_
              rintro e w1 ⟨rfl, rfl⟩
              go_wp2_with fail
              refine H1.out.mono ?_
              rintro e w1 ⟨rfl, rfl⟩
              go_wp2_with (at_builtin; refine wpList_append_own _ rfl _ _ 55 rfl W.heap.size 68 i0 (.agg #[.int .i64 0, .bool false]) 2 16 Try.underlying55 hi hz0 hz1 hz2 rfl (by decide) _ _ _ rfl (Ow.out.alloc _) ⟨wr.heap.size, 0, none⟩ 1 1 [.int .i64 (j : Nat), .bool false] rfl rfl ?c1 ?c2 ?c3 ?c4 ?c5 ?_)
              case c1 =>
                intro k u hu
                match k, hu with
                  | 0, hu => simp at hu; subst hu; simp [Addr.add]
                  | 1, hu => simp at hu; subst hu; simp [Addr.add]
              case c2 => intro u hu; simp at hu; rcases hu with rfl | rfl <;> rfl
              case c3 => unfold maxLen; have := Hlen.out; omega
              case c4 => have := Hlen.out; omega
              case c5 => simp; omega
              intro v' w3 hown' hgrow _
              have Ow3 := Lib.hid (show w3.ownsRow W.heap.size 68 2 v' (frcU ys (j + 1)).length (litV (frcU ys (j + 1))) by
                rw [HYes.out rfl]
                unfold litV
                rw [List.flatMap_append, List.length_append]
                exact hown')
              have B3 := Lib.hid ((B1.out.alloc B1.out.size (.cells #[.int .i64 (j : Nat), .bool false] 68)).grown hgrow (by simp; have := B1.out.size; omega) (fun k hk => own_ge Ow.out hk))
              clear hown' hgrow
              go_wp2
              go_roundw
              case rel => exact ⟨j + 1, by go_num, Hlt.out, Ow3.out, B3.out⟩
              case measure => simp [intOf]; have := Hlt.out; omega
          · go_wp2_with fail
            refine H1.out.mono ?_
            rintro e w1 ⟨rfl, rfl⟩
            go_wp2_with fail
            refine H1.out.mono ?_
            rintro e w1 ⟨rfl, rfl⟩
            go_wp2_with (at_builtin; refine wpList_append_own _ rfl _ _ 55 rfl W.heap.size 68 i0 (.agg #[.int .i64 0, .bool false]) 2 16 Try.underlying55 hi hz0 hz1 hz2 rfl (by decide) _ _ _ rfl (Ow.out.alloc _) ⟨wr.heap.size, 0, none⟩ 1 1 [.int .i64 (j : Nat), .bool true] rfl rfl ?c1 ?c2 ?c3 ?c4 ?c5 ?_)
            case c1 =>
              intro k u hu
              match k, hu with
                | 0, hu => simp at hu; subst hu; simp [Addr.add]
                | 1, hu => simp at hu; subst hu; simp [Addr.add]
            case c2 => intro u hu; simp at hu; rcases hu with rfl | rfl <;> rfl
            case c3 => unfold maxLen; have := Hlen.out; omega
            case c4 => have := Hlen.out; omega
            case c5 => simp; omega
            intro v' w3 hown' hgrow _
            have Ow3 := Lib.hid (show w3.ownsRow W.heap.size 68 2 v' (frcU ys (j + 1)).length (litV (frcU ys (j + 1))) by
              rw [HYes.out rfl]
              unfold litV
              rw [List.flatMap_append, List.length_append]
              exact hown')
            have B3 := Lib.hid ((B1.out.alloc B1.out.size (.cells #[.int .i64 (j : Nat), .bool true] 68)).grown hgrow (by simp; have := B1.out.size; omega) (fun k hk => own_ge Ow.out hk))
            clear hown' hgrow
            go_wp2
            go_roundw
            case rel => exact ⟨j + 1, by go_num, Hlt.out, Ow3.out, B3.out⟩
            case measure => simp [intOf]; have := Hlt.out; omega
        · have hjn : j = f.n := by omega
          rw [hjn] at Ow
          go_wp2_with fail
          gi_wp2
          have hK' := (B1.out.block D hDW).trans HD.out
          refine ⟨by simp, .inl ⟨_, _, rfl, run_takeDeferred hK', ?_⟩⟩
          have hor := ownsRow_putObj (own_down Ow.out HW.out.size) (.deferred none) hK' rfl
          rw [HY.out] at hor
          refine ⟨.tuple #[u11, .int .i64 0], ?_, .inr ⟨HAL.out, u11, rfl, hor⟩, (HW.out.trans (B1.out.mono HW.out.size)).trans (belowK_b (w := w) (Nat.le_refl _) _ D _ _ (by omega) hK' rfl rfl)⟩
          simp [results, Try.f26, go_sem]
  case stop =>
    rintro D c pre W _ _ hx
    exact hx.elim
end
end Go.Proofs.Ytmfmpkihmadjmaa
