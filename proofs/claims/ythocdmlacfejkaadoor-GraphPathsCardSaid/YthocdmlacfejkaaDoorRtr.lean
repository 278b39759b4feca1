/- The reference's Tree and Back. -/
import Derived.Test.YthocdmlacfejkaaDoorRpt
namespace Go.Proofs.YthocdmlacfejkaaDoor
open Go.RowKit
set_option maxRecDepth 100000 in
set_option maxHeartbeats 8000000 in
theorem refTree_any (n : Nat) (A : Option Addr) (m c : Nat) (es : List (Nat × Nat)) (root : Nat) (w : World) (h : EL w A m (cast es)) (hg : Fine n es) (hr : root < n) :
    Calls Tryd.prog 58 #[gV n A m c, .int .i64 root] w fun e w' => ∃ g, e = .returned (.slice (some ⟨g, 0, none⟩) n n) ∧ IL w' (some ⟨g, 0, none⟩) ((List.range n).map (treeV es root)) ∧ Below w.heap.size w w' := by
  obtain ⟨i0, hi, hz0, hz1, hz2⟩ := info_parts info_int
  have hn64 := hg.n64
  have kv := (Below.refl w.heap.size w).alloc (Nat.le_refl _) (.cells #[.int .i64 (n : Nat), .slice A m c] 35)
  have G0 := Lib.hid (Cells.new w #[.int .i64 (n : Nat), .slice A m c] 35)
  have HP := Lib.hid (fun w' v (hb' : Below w.heap.size w w') (hv : v < n) => (show Calls Tryd.prog 57 _ w' (PthPost n es root v w') from refPath_any n A m c es root v w' (h.keep hb') hg hr hv))
  have Kv := Lib.hid kv
  have hri : (root : Int) < n := by omega
  clear h hg kv
  go_enter Tryd.func58, Tryd.ntmps58
  have g0 := G0.out.at_ 0
  simp only [List.getElem?_cons_zero, List.getElem?_cons_succ] at g0
  obtain ⟨wa, hwa⟩ : ∃ u, w.alloc (.cells #[.int .i64 (n : Nat), .slice A m c] 35) = u := ⟨_, rfl⟩
  rw [hwa] at G0 Kv g0
  go_wp2_with (at_make; refine wpList_make_full _ rfl _ _ 50 rfl wa.heap.size 3 i0 (.int .i64 0) 1 Tryd.underlying50 hi hz0 hz1 _ _ _ _ n rfl rfl rfl rfl (by rw [hz2]; omega) (by unfold maxLen; omega) (Nat.le_refl _) ?_)
  intro w2 hown hgr
  have R2 := Lib.hid (made_row hown)
  have B2 := Lib.hid ((Below.refl wa.heap.size wa).grown hgr (Nat.le_refl _) (by simp))
  clear hown hgr g0
  obtain ⟨p, hp⟩ : ∃ p, wa.heap.size = p := ⟨_, rfl⟩
  rw [hp] at R2 B2 ⊢
  have HG := Lib.hid (fun w' (hb' : Below p wa w') => G0.out.keep (w' := w') (by rw [hp]; exact hb'))
  have HB := Lib.hid (fun w' (hb' : Below p wa w') => below_on Kv.out (w' := w') (by rw [hp]; exact hb'))
  clear hp
  go_wp2_with fail
  go_loopw [6, 7, 8] (fun i _ _ wr => ∃ k : Nat, i = .int .i64 (k : Nat) ∧ k ≤ n ∧ Row wr p 3 (numsN n fun j => if j < k then treeV es root j else 0) ∧ Below p wa wr) (fun i _ _ _ => n - (intOf i).toNat)
  case atStart => exact ⟨0, rfl, Nat.zero_le _, by simpa using R2.out, B2.out⟩
  case round =>
    obtain ⟨k, rfl, hk, hrow, hb⟩ := hrel
    have R6 := Lib.hid hrow
    have B6 := Lib.hid hb
    have g0 := (HG.out _ hb).at_ 0
    have g1 := (HG.out _ hb).at_ 1
    simp only [List.getElem?_cons_zero, List.getElem?_cons_succ] at g0 g1
    clear hrow hb
    obtain ⟨wb, rfl⟩ : ∃ wb : World, wb = wr := ⟨_, rfl⟩
    by_cases hlt : k < n
    · have Hlt := Lib.hid hlt
      have hki : (k : Int) < n := by omega
      have z0 := (R6.out.cells.at_ k).trans (numsN_at _ hlt)
      have f0 := R6.out.cells.fz k
      obtain ⟨x0, hx0⟩ : ∃ x : Int, (if k < k then treeV es root k else 0) = x := ⟨_, rfl⟩
      rw [hx0] at z0
      have R7 := R6.out.set k (.int .i64 (-1))
      rw [numsN_set] at R7
      have B7 := B6.out.setCell (p := ⟨p, k, none⟩) (Nat.le_refl _) (.int .i64 (-1))
      have h0 := (HG.out _ B7).at_ 0
      have h1 := (HG.out _ B7).at_ 1
      simp only [List.getElem?_cons_zero, List.getElem?_cons_succ] at h0 h1
      have HPk := Lib.hid (HP.out _ k (HB.out _ B7) hlt)
      have R7 := Lib.hid R7
      have B7 := Lib.hid B7
      clear hx0
      go_wp2_with fail
      refine HPk.out.mono ?_
      rintro e w8 ⟨hc, hb8⟩
      have R8 := Lib.hid (R7.out.keep hb8)
      have B8 := Lib.hid (B7.out.trans (hb8.mono (Nat.le_of_lt R7.out.cells.lt)))
      have hV : treeV es root k = if dist (adjR es) (sing k) root ≤ 0 then -1 else (((wayM (adj es) (dist (adjR es) (sing k)) (dist (adjR es) (sing k) root).toNat root).getD ((dist (adjR es) (sing k) root).toNat - 1) 0 : Nat) : Int) := rfl
      clear hb8 z0 f0 h0 h1 g0 g1
      rcases hc with ⟨hno, rfl⟩ | ⟨d, v, hd, rfl, hown⟩
      · have R9 := R8.out
        rw [numsN_congr (f' := fun j => if j < k + 1 then treeV es root j else 0) (fun j _ => by
          by_cases h : k = j
          · subst h; rw [if_pos rfl, if_pos (Nat.lt_succ_self _), hV, if_pos (by omega)]
          · rw [if_neg h]
            by_cases h2 : j < k
            · rw [if_pos h2, if_pos (by omega)]
            · rw [if_neg h2, if_neg (by omega)])] at R9
        have R9 := Lib.hid R9
        clear hno hV
        go_wp2_with fail
        go_roundw
        case rel => exact ⟨k + 1, by go_num, Hlt.out, R9.out, B8.out⟩
        case measure => simp [intOf]; have := Hlt.out; omega
      · rw [hd] at hV
        rw [wayM_len] at hown
        by_cases h0 : d = 0
        · subst h0
          obtain ⟨Av, cv, rfl, _⟩ := own_nats (l := wayM (adj es) (dist (adjR es) (sing k)) 0 root) (by rw [wayM_len]; exact hown)
          rw [wayM_len]
          have R9 := R8.out
          rw [numsN_congr (f' := fun j => if j < k + 1 then treeV es root j else 0) (fun j _ => by
            by_cases h : k = j
            · subst h; rw [if_pos rfl, if_pos (Nat.lt_succ_self _), hV, if_pos (by omega)]
            · rw [if_neg h]
              by_cases h2 : j < k
              · rw [if_pos h2, if_pos (by omega)]
              · rw [if_neg h2, if_neg (by omega)])] at R9
          have R9 := Lib.hid R9
          clear hV hd hown
          go_wp2_with fail
          go_roundw
          case rel => exact ⟨k + 1, by go_num, Hlt.out, R9.out, B8.out⟩
          case measure => simp [intOf]; have := Hlt.out; omega
        · obtain ⟨Av, cv, rfl, hnl, _, _⟩ := own_nats (l := wayM (adj es) (dist (adjR es) (sing k)) d root) (by rw [wayM_len]; exact hown)
          obtain ⟨x, b, o, hx, rfl, _, _, hcell⟩ := hnl.at_ (k := d - 1) (by rw [wayM_len]; omega)
          rw [wayM_len]
          have hV2 : treeV es root k = (x : Int) := by
            rw [hV, if_neg (by omega)]
            congr 1
            rw [Int.toNat_natCast, List.getD_eq_getElem?_getD, hx]
            rfl
          obtain ⟨ln, hln⟩ : ∃ ln, d + 1 = ln := ⟨_, rfl⟩
          have tl : decide ((1 : Int) < (ln : Int)) = true := decide_eq_true (by omega)
          have tl2 : (1 : Int) < (ln : Int) := by omega
          have ew : IntKind.i64.wrap ((ln : Int) - 2) = (ln : Int) - 2 := IntWalk.i64_in _ (by have := Hlt.out; have := distTo_bd (adjR es) (sing k) 65 root; unfold dist at hd; omega)
          have i1 : (2 : Int) ≤ (ln : Int) := by omega
          have i2 : (ln : Int) - 2 < ln := by omega
          have i3 : ((ln : Int) - 2).toNat = d - 1 := by omega
          rw [hln]
          have y0 := (R8.out.cells.at_ k).trans (numsN_at _ hlt)
          have f0 := R8.out.cells.fz k
          rw [if_pos rfl] at y0
          have R9 := R8.out.set k (.int .i64 (x : Nat))
          rw [numsN_set, numsN_congr (f' := fun j => if j < k + 1 then treeV es root j else 0) (fun j _ => by
            by_cases h : k = j
            · subst h; rw [if_pos rfl, if_pos (Nat.lt_succ_self _), hV2]
            · rw [if_neg h, if_neg h]
              by_cases h2 : j < k
              · rw [if_pos h2, if_pos (by omega)]
              · rw [if_neg h2, if_neg (by omega)])] at R9
          have R9 := Lib.hid R9
          have B9 := Lib.hid (B8.out.setCell (p := ⟨p, k, none⟩) (Nat.le_refl _) (.int .i64 (x : Nat)))
          clear hV hV2 hd hown hnl hx hln
          go_wp2_with fail
          go_roundw
          case rel => exact ⟨k + 1, by go_num, Hlt.out, R9.out, B9.out⟩
          case measure => simp [intOf]; have := Hlt.out; omega
    · have Cf := R6.out
      rw [numsN_congr (f' := treeV es root) (fun j hj => by rw [if_pos (by omega)])] at Cf
      have Cf := Lib.hid (numsN_il Cf.cells)
      have Bf := Lib.hid (HB.out _ B6.out)
      go_wp2_with fail
      go_ret
      exact ⟨_, rfl, Cf.out, Bf.out⟩
set_option maxRecDepth 100000 in
set_option maxHeartbeats 8000000 in
theorem refBack_any (n : Nat) (A : Option Addr) (m c : Nat) (es : List (Nat × Nat)) (root : Nat) (w : World) (h : EL w A m (cast es)) (hg : Fine n es) (hr : root < n) :
    Calls Tryd.prog 59 #[gV n A m c, .int .i64 root] w fun e w' => ∃ g, e = .returned (.slice (some ⟨g, 0, none⟩) n n) ∧ IL w' (some ⟨g, 0, none⟩) ((List.range n).map (backV es root)) ∧ Below w.heap.size w w' := by
  obtain ⟨i0, hi, hz0, hz1, hz2⟩ := info_parts info_int
  have hn64 := hg.n64
  have kv := (Below.refl w.heap.size w).alloc (Nat.le_refl _) (.cells #[.int .i64 (n : Nat), .slice A m c] 35)
  have G0 := Lib.hid (Cells.new w #[.int .i64 (n : Nat), .slice A m c] 35)
  have HP := Lib.hid (fun w' v (hb' : Below w.heap.size w w') (hv : v < n) => (show Calls Tryd.prog 57 _ w' (PthPost n es v root w') from refPath_any n A m c es v root w' (h.keep hb') hg hv hr))
  have Kv := Lib.hid kv
  have hri : (root : Int) < n := by omega
  clear h hg kv
  go_enter Tryd.func59, Tryd.ntmps59
  have g0 := G0.out.at_ 0
  simp only [List.getElem?_cons_zero, List.getElem?_cons_succ] at g0
  obtain ⟨wa, hwa⟩ : ∃ u, w.alloc (.cells #[.int .i64 (n : Nat), .slice A m c] 35) = u := ⟨_, rfl⟩
  rw [hwa] at G0 Kv g0
  go_wp2_with (at_make; refine wpList_make_full _ rfl _ _ 50 rfl wa.heap.size 3 i0 (.int .i64 0) 1 Tryd.underlying50 hi hz0 hz1 _ _ _ _ n rfl rfl rfl rfl (by rw [hz2]; omega) (by unfold maxLen; omega) (Nat.le_refl _) ?_)
  intro w2 hown hgr
  have R2 := Lib.hid (made_row hown)
  have B2 := Lib.hid ((Below.refl wa.heap.size wa).grown hgr (Nat.le_refl _) (by simp))
  clear hown hgr g0
  obtain ⟨p, hp⟩ : ∃ p, wa.heap.size = p := ⟨_, rfl⟩
  rw [hp] at R2 B2 ⊢
  have HG := Lib.hid (fun w' (hb' : Below p wa w') => G0.out.keep (w' := w') (by rw [hp]; exact hb'))
  have HB := Lib.hid (fun w' (hb' : Below p wa w') => below_on Kv.out (w' := w') (by rw [hp]; exact hb'))
  clear hp
  go_wp2_with fail
  go_loopw [6, 7, 8] (fun i _ _ wr => ∃ k : Nat, i = .int .i64 (k : Nat) ∧ k ≤ n ∧ Row wr p 3 (numsN n fun j => if j < k then backV es root j else 0) ∧ Below p wa wr) (fun i _ _ _ => n - (intOf i).toNat)
  case atStart => exact ⟨0, rfl, Nat.zero_le _, by simpa using R2.out, B2.out⟩
  case round =>
    obtain ⟨k, rfl, hk, hrow, hb⟩ := hrel
    have R6 := Lib.hid hrow
    have B6 := Lib.hid hb
    have g0 := (HG.out _ hb).at_ 0
    have g1 := (HG.out _ hb).at_ 1
    simp only [List.getElem?_cons_zero, List.getElem?_cons_succ] at g0 g1
    clear hrow hb
    obtain ⟨wb, rfl⟩ : ∃ wb : World, wb = wr := ⟨_, rfl⟩
    by_cases hlt : k < n
    · have Hlt := Lib.hid hlt
      have hki : (k : Int) < n := by omega
      have z0 := (R6.out.cells.at_ k).trans (numsN_at _ hlt)
      have f0 := R6.out.cells.fz k
      obtain ⟨x0, hx0⟩ : ∃ x : Int, (if k < k then backV es root k else 0) = x := ⟨_, rfl⟩
      rw [hx0] at z0
      have R7 := R6.out.set k (.int .i64 (-1))
      rw [numsN_set] at R7
      have B7 := B6.out.setCell (p := ⟨p, k, none⟩) (Nat.le_refl _) (.int .i64 (-1))
      have h0 := (HG.out _ B7).at_ 0
      have h1 := (HG.out _ B7).at_ 1
      simp only [List.getElem?_cons_zero, List.getElem?_cons_succ] at h0 h1
      have HPk := Lib.hid (HP.out _ k (HB.out _ B7) hlt)
      have R7 := Lib.hid R7
      have B7 := Lib.hid B7
      clear hx0
      go_wp2_with fail
      refine HPk.out.mono ?_
      rintro e w8 ⟨hc, hb8⟩
      have R8 := Lib.hid (R7.out.keep hb8)
      have B8 := Lib.hid (B7.out.trans (hb8.mono (Nat.le_of_lt R7.out.cells.lt)))
      have hV : backV es root k = if dist (adjR es) (sing root) k ≤ 0 then -1 else (((wayM (adj es) (dist (adjR es) (sing root)) (dist (adjR es) (sing root) k).toNat k).getD 1 0 : Nat) : Int) := rfl
      clear hb8 z0 f0 h0 h1 g0 g1
      rcases hc with ⟨hno, rfl⟩ | ⟨d, v, hd, rfl, hown⟩
      · have R9 := R8.out
        rw [numsN_congr (f' := fun j => if j < k + 1 then backV es root j else 0) (fun j _ => by
          by_cases h : k = j
          · subst h; rw [if_pos rfl, if_pos (Nat.lt_succ_self _), hV, if_pos (by omega)]
          · rw [if_neg h]
            by_cases h2 : j < k
            · rw [if_pos h2, if_pos (by omega)]
            · rw [if_neg h2, if_neg (by omega)])] at R9
        have R9 := Lib.hid R9
        clear hno hV
        go_wp2_with fail
        go_roundw
        case rel => exact ⟨k + 1, by go_num, Hlt.out, R9.out, B8.out⟩
        case measure => simp [intOf]; have := Hlt.out; omega
      · rw [hd] at hV
        rw [wayM_len] at hown
        by_cases h0 : d = 0
        · subst h0
          obtain ⟨Av, cv, rfl, _⟩ := own_nats (l := wayM (adj es) (dist (adjR es) (sing root)) 0 k) (by rw [wayM_len]; exact hown)
          rw [wayM_len]
          have R9 := R8.out
          rw [numsN_congr (f' := fun j => if j < k + 1 then backV es root j else 0) (fun j _ => by
            by_cases h : k = j
            · subst h; rw [if_pos rfl, if_pos (Nat.lt_succ_self _), hV, if_pos (by omega)]
            · rw [if_neg h]
              by_cases h2 : j < k
              · rw [if_pos h2, if_pos (by omega)]
              · rw [if_neg h2, if_neg (by omega)])] at R9
          have R9 := Lib.hid R9
          clear hV hd hown
          go_wp2_with fail
          go_roundw
          case rel => exact ⟨k + 1, by go_num, Hlt.out, R9.out, B8.out⟩
          case measure => simp [intOf]; have := Hlt.out; omega
        · obtain ⟨Av, cv, rfl, hnl, _, _⟩ := own_nats (l := wayM (adj es) (dist (adjR es) (sing root)) d k) (by rw [wayM_len]; exact hown)
          obtain ⟨x, b, o, hx, rfl, _, _, hcell⟩ := hnl.at_ (k := 1) (by rw [wayM_len]; omega)
          rw [wayM_len]
          have hV2 : backV es root k = (x : Int) := by
            rw [hV, if_neg (by omega)]
            congr 1
            rw [Int.toNat_natCast, List.getD_eq_getElem?_getD, hx]
            rfl
          obtain ⟨ln, hln⟩ : ∃ ln, d + 1 = ln := ⟨_, rfl⟩
          have tl : decide ((1 : Int) < (ln : Int)) = true := decide_eq_true (by omega)
          have tl2 : (1 : Int) < (ln : Int) := by omega
          have ew : IntKind.i64.wrap ((ln : Int) - 2) = (ln : Int) - 2 := IntWalk.i64_in _ (by have := Hlt.out; have := distTo_bd (adjR es) (sing root) 65 k; unfold dist at hd; omega)
          have i1 : (2 : Int) ≤ (ln : Int) := by omega
          have i2 : (ln : Int) - 2 < ln := by omega
          have i3 : ((ln : Int) - 2).toNat = d - 1 := by omega
          rw [hln]
          have y0 := (R8.out.cells.at_ k).trans (numsN_at _ hlt)
          have f0 := R8.out.cells.fz k
          rw [if_pos rfl] at y0
          have R9 := R8.out.set k (.int .i64 (x : Nat))
          rw [numsN_set, numsN_congr (f' := fun j => if j < k + 1 then backV es root j else 0) (fun j _ => by
            by_cases h : k = j
            · subst h; rw [if_pos rfl, if_pos (Nat.lt_succ_self _), hV2]
            · rw [if_neg h, if_neg h]
              by_cases h2 : j < k
              · rw [if_pos h2, if_pos (by omega)]
              · rw [if_neg h2, if_neg (by omega)])] at R9
          have R9 := Lib.hid R9
          have B9 := Lib.hid (B8.out.setCell (p := ⟨p, k, none⟩) (Nat.le_refl _) (.int .i64 (x : Nat)))
          clear hV hV2 hd hown hnl hx hln
          go_wp2_with fail
          go_roundw
          case rel => exact ⟨k + 1, by go_num, Hlt.out, R9.out, B9.out⟩
          case measure => simp [intOf]; have := Hlt.out; omega
    · have Cf := R6.out
      rw [numsN_congr (f' := backV es root) (fun j hj => by rw [if_pos (by omega)])] at Cf
      have Cf := Lib.hid (numsN_il Cf.cells)
      have Bf := Lib.hid (HB.out _ B6.out)
      go_wp2_with fail
      go_ret
      exact ⟨_, rfl, Cf.out, Bf.out⟩
end Go.Proofs.YthocdmlacfejkaaDoor
