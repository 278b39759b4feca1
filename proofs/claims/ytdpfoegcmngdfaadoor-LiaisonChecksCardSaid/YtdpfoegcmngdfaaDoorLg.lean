/- Liaisons: connected sets, pieces, neighbours. -/
import Derived.Test.YtdpfoegcmngdfaaDoorLf
namespace Go.Proofs.YtdpfoegcmngdfaaDoor
open Go.RowKit
theorem info_ints : (Tryd.prog.info? 25).map (fun i => (i.zero, i.size, i.bytes)) = some (some (.slice none 0 0), 1, 24) := by kernel_rfl
theorem own_snoc {w : World} {C n : Nat} {v : Value} {l : List Nat} {x : Nat} (h : w.ownsRow C 3 1 v (n + 1) (nats l ++ [.int .i64 (x : Nat)])) (hn : n = l.length := by rfl) : w.ownsRow C 3 1 v (l ++ [x]).length (nats (l ++ [x])) := by
  subst hn
  rw [nats_snoc, List.length_append]; exact h
theorem diff_lt {a b : Nat} (h : a < 4096) : diff a b < 4096 := Nat.lt_of_le_of_lt (diff_le a b) h
theorem pieceM_12 {L : Nat → Nat} {s : Nat} (h : s < 4096) : pieceM L s < 4096 := under_lt (k := 12) fun v hv => lt_under (k := 12) (by omega) v (pieceM_in (by omega) hv)
set_option maxRecDepth 100000 in
set_option maxHeartbeats 8000000 in
theorem connected_bad (gn ge sv : Value) (E : Int) (w : World) (hR : ∀ w', Below w.heap.size w w' → Calls Tryd.prog 47 #[.agg #[gn, ge], sv] w' fun e w1 => e = .returned (.tuple #[lvV fun _ => 0, .int .u64 0, .int .i64 E]) ∧ Below w'.heap.size w' w1) (hE : E ≠ 0) (_hgn : gn.oneCell' = true) (_hge : ge.oneCell' = true) :
    Calls Tryd.prog 14 #[.agg #[gn, ge], sv] w fun e w' => e = .returned (.tuple #[.bool false, .int .i64 E]) ∧ Below w.heap.size w w' := by
  have kv := (Below.refl w.heap.size w).alloc (Nat.le_refl _) (.cells #[gn, ge] 24)
  have P0 := Cells.new w #[gn, ge] 24
  have HR := Lib.hid (hR _ kv)
  have g0 := P0.at_ 0
  have g1 := P0.at_ 1
  simp only [List.getElem?_cons_zero, List.getElem?_cons_succ] at g0 g1
  have kv := Lib.hid kv
  have t0 : (E != 0) = true := by simpa using hE
  clear hR hE P0
  go_enter Tryd.func14, Tryd.ntmps14
  go_wp2_with fail
  refine HR.out.mono ?_
  rintro e w1 ⟨rfl, hb1⟩
  have B1 := Lib.hid (below_on kv.out hb1)
  clear hb1 g0 g1
  go_wp2_with fail
  refine bodyPost_ret (results_tmp2 rfl _ _ _) rfl ⟨rfl, B1.out.alloc B1.out.size _⟩
set_option maxRecDepth 100000 in
set_option maxHeartbeats 8000000 in
theorem pieces_bad (gn ge sv : Value) (E : Int) (w : World) (hR : ∀ w', Below w.heap.size w w' → Calls Tryd.prog 47 #[.agg #[gn, ge], sv] w' fun e w1 => e = .returned (.tuple #[lvV fun _ => 0, .int .u64 0, .int .i64 E]) ∧ Below w'.heap.size w' w1) (hE : E ≠ 0) (_hgn : gn.oneCell' = true) (_hge : ge.oneCell' = true) :
    Calls Tryd.prog 15 #[.agg #[gn, ge], sv] w fun e w' => e = .returned (.tuple #[.slice none 0 0, .int .i64 E]) ∧ Below w.heap.size w w' := by
  have kv := (Below.refl w.heap.size w).alloc (Nat.le_refl _) (.cells #[gn, ge] 24)
  have P0 := Cells.new w #[gn, ge] 24
  have HR := Lib.hid (hR _ kv)
  have g0 := P0.at_ 0
  have g1 := P0.at_ 1
  simp only [List.getElem?_cons_zero, List.getElem?_cons_succ] at g0 g1
  have kv := Lib.hid kv
  have t0 : (E != 0) = true := by simpa using hE
  clear hR hE P0
  go_enter Tryd.func15, Tryd.ntmps15
  go_wp2_with fail
  refine HR.out.mono ?_
  rintro e w1 ⟨rfl, hb1⟩
  have B1 := Lib.hid (below_on kv.out hb1)
  clear hb1 g0 g1
  go_wp2_with fail
  refine bodyPost_ret (results_tmp2 rfl _ _ _) rfl ⟨rfl, B1.out.alloc B1.out.size _⟩
set_option maxRecDepth 100000 in
set_option maxHeartbeats 8000000 in
theorem neighbours_bad (gn ge sv : Value) (E : Int) (w : World) (hR : ∀ w', Below w.heap.size w w' → Calls Tryd.prog 47 #[.agg #[gn, ge], sv] w' fun e w1 => e = .returned (.tuple #[lvV fun _ => 0, .int .u64 0, .int .i64 E]) ∧ Below w'.heap.size w' w1) (hE : E ≠ 0) (_hgn : gn.oneCell' = true) (_hge : ge.oneCell' = true) :
    Calls Tryd.prog 16 #[.agg #[gn, ge], sv] w fun e w' => e = .returned (.tuple #[.slice none 0 0, .int .i64 E]) ∧ Below w.heap.size w w' := by
  have kv := (Below.refl w.heap.size w).alloc (Nat.le_refl _) (.cells #[gn, ge] 24)
  have P0 := Cells.new w #[gn, ge] 24
  have HR := Lib.hid (hR _ kv)
  have g0 := P0.at_ 0
  have g1 := P0.at_ 1
  simp only [List.getElem?_cons_zero, List.getElem?_cons_succ] at g0 g1
  have kv := Lib.hid kv
  have t0 : (E != 0) = true := by simpa using hE
  clear hR hE P0
  go_enter Tryd.func16, Tryd.ntmps16
  go_wp2_with fail
  refine HR.out.mono ?_
  rintro e w1 ⟨rfl, hb1⟩
  have B1 := Lib.hid (below_on kv.out hb1)
  clear hb1 g0 g1
  go_wp2_with fail
  refine bodyPost_ret (results_tmp2 rfl _ _ _) rfl ⟨rfl, B1.out.alloc B1.out.size _⟩
set_option maxRecDepth 100000 in
set_option maxHeartbeats 8000000 in
theorem connected_ok (gn ge sv : Value) (L : Nat → Nat) (s : Nat) (w : World) (hR : ∀ w', Below w.heap.size w w' → Calls Tryd.prog 47 #[.agg #[gn, ge], sv] w' fun e w1 => e = .returned (.tuple #[lvV L, .int .u64 (s : Nat), .int .i64 0]) ∧ Below w'.heap.size w' w1) (_hgn : gn.oneCell' = true) (_hge : ge.oneCell' = true) (hL : ∀ i, Under 64 (L i)) (hs : s < 4096) (hw : Good w) :
    Calls Tryd.prog 14 #[.agg #[gn, ge], sv] w fun e w' => e = .returned (.tuple #[.bool (conM L s), .int .i64 0]) ∧ Below w.heap.size w w' := by
  have kv := (Below.refl w.heap.size w).alloc (Nat.le_refl _) (.cells #[gn, ge] 24)
  have P0 := Cells.new w #[gn, ge] 24
  have HR := Lib.hid (hR _ kv)
  have g0 := P0.at_ 0
  have g1 := P0.at_ 1
  simp only [List.getElem?_cons_zero, List.getElem?_cons_succ] at g0 g1
  have kv := Lib.hid kv
  have HL := Lib.hid hL
  have HW := Lib.hid (fun w' (h : Below w.heap.size w w') => hw.below h hw.size)
  clear hR hL hw P0 
  go_enter Tryd.func14, Tryd.ntmps14
  go_wp2_with fail
  refine HR.out.mono ?_
  rintro e w1 ⟨rfl, hb1⟩
  have B1 := Lib.hid (below_on kv.out hb1)
  have kk := (Below.refl w1.heap.size w1).alloc (Nat.le_refl _) (.cells (lvC L) 80)
  have B2 := Lib.hid (below_on B1.out kk)
  have C2 := Cells.new w1 (lvC L) 80
  rw [lvC_list] at C2
  have C2 := Lib.hid C2
  clear hb1 g0 g1 kk
  have HC := Lib.hid (conn_any L s _ HL.out hs (HW.out _ B2.out))
  go_wp2_with fail
  refine HC.out.mono ?_
  rintro e w2 ⟨rfl, hb2⟩
  have B3 := Lib.hid (below_on B2.out hb2)
  clear hb2
  go_wp2_with fail
  exact bodyPost_ret (results_tmp2 rfl _ _ _) rfl ⟨rfl, B3.out⟩
set_option maxRecDepth 100000 in
set_option maxHeartbeats 8000000 in
theorem neighbours_ok (gn ge sv : Value) (L : Nat → Nat) (s : Nat) (w : World) (hR : ∀ w', Below w.heap.size w w' → Calls Tryd.prog 47 #[.agg #[gn, ge], sv] w' fun e w1 => e = .returned (.tuple #[lvV L, .int .u64 (s : Nat), .int .i64 0]) ∧ Below w'.heap.size w' w1) (_hgn : gn.oneCell' = true) (_hge : ge.oneCell' = true) (hL : ∀ i, Under 64 (L i)) (hs : s < 4096) (hw : Good w) :
    Calls Tryd.prog 16 #[.agg #[gn, ge], sv] w fun e w' => ∃ v, e = .returned (.tuple #[v, .int .i64 0]) ∧ w'.ownsRow w.heap.size 3 1 v (bitsOf (diff (stepM L s) s)).length (nats (bitsOf (diff (stepM L s) s))) ∧ Below w.heap.size w w' := by
  have kv := (Below.refl w.heap.size w).alloc (Nat.le_refl _) (.cells #[gn, ge] 24)
  have P0 := Cells.new w #[gn, ge] 24
  have HR := Lib.hid (hR _ kv)
  have g0 := P0.at_ 0
  have g1 := P0.at_ 1
  simp only [List.getElem?_cons_zero, List.getElem?_cons_succ] at g0 g1
  have kv := Lib.hid kv
  have HL := Lib.hid hL
  have HW := Lib.hid (fun w' (h : Below w.heap.size w w') => hw.below h hw.size)
  clear hR hL hw P0 
  go_enter Tryd.func16, Tryd.ntmps16
  go_wp2_with fail
  refine HR.out.mono ?_
  rintro e w1 ⟨rfl, hb1⟩
  have B1 := Lib.hid (below_on kv.out hb1)
  have kk := (Below.refl w1.heap.size w1).alloc (Nat.le_refl _) (.cells (lvC L) 80)
  have B2 := Lib.hid (below_on B1.out kk)
  have C2 := Cells.new w1 (lvC L) 80
  rw [lvC_list] at C2
  have C2 := Lib.hid C2
  clear hb1 g0 g1 kk
  have HN := Lib.hid (next_any L s _ HL.out hs (HW.out _ B2.out))
  have u0 := under_lt (step_under (k := 64) HL.out s)
  have e1 : bits .andNot .u64 ((stepM L s : Nat) : Int) (s : Int) = ((diff (stepM L s) s : Nat) : Int) := bits_diff _ _ u0 (by omega)
  have u1 : diff (stepM L s) s < 18446744073709551616 := Nat.lt_of_le_of_lt (diff_le _ _) u0
  have hsz := Lib.hid B2.out.size
  clear u0
  go_wp2_with fail
  refine HN.out.mono ?_
  rintro e w2 ⟨rfl, hb2⟩
  have B3 := Lib.hid (below_on B2.out hb2)
  clear hb2
  go_wp2_with fail
  refine (list_any _ w2 u1 (HW.out _ B3.out)).mono ?_
  rintro e w3 ⟨v, rfl, hown, hb3⟩
  have B4 := Lib.hid (below_on B3.out hb3)
  have O4 := Lib.hid (own_down' hown B3.out.size)
  clear hb3 hown
  go_wp2_with fail
  exact bodyPost_ret (results_tmp2 rfl _ _ _) rfl ⟨v, rfl, O4.out, B4.out⟩
set_option maxRecDepth 100000 in
set_option maxHeartbeats 8000000 in
theorem pieces_ok (gn ge sv : Value) (L : Nat → Nat) (s : Nat) (w : World) (hR : ∀ w', Below w.heap.size w w' → Calls Tryd.prog 47 #[.agg #[gn, ge], sv] w' fun e w1 => e = .returned (.tuple #[lvV L, .int .u64 (s : Nat), .int .i64 0]) ∧ Below w'.heap.size w' w1) (_hgn : gn.oneCell' = true) (_hge : ge.oneCell' = true) (hL : ∀ i, Under 64 (L i)) (hs : s < 4096) (hw : Good w) :
    Calls Tryd.prog 15 #[.agg #[gn, ge], sv] w fun e w' => ∃ v, e = .returned (.tuple #[v, .int .i64 0]) ∧ OutN w.heap.size w' v ((pcsM L s).map bitsOf) ∧ Below w.heap.size w w' := by
  obtain ⟨j0, hj, jz0, jz1, jz2⟩ := info_parts info_ints
  have kv := (Below.refl w.heap.size w).alloc (Nat.le_refl _) (.cells #[gn, ge] 24)
  have P0 := Cells.new w #[gn, ge] 24
  have HR := Lib.hid (hR _ kv)
  have g0 := P0.at_ 0
  have g1 := P0.at_ 1
  simp only [List.getElem?_cons_zero, List.getElem?_cons_succ] at g0 g1
  have kv := Lib.hid kv
  have HL := Lib.hid hL
  have HW := Lib.hid (fun w' (h : Below w.heap.size w w') => hw.below h hw.size)
  clear hR hL hw P0 
  go_enter Tryd.func15, Tryd.ntmps15
  go_wp2_with fail
  refine HR.out.mono ?_
  rintro e w1 ⟨rfl, hb1⟩
  have B1 := Lib.hid (below_on kv.out hb1)
  have kk := (Below.refl w1.heap.size w1).alloc (Nat.le_refl _) (.cells (lvC L) 80)
  have B2 := Lib.hid (below_on B1.out kk)
  have C2 := Cells.new w1 (lvC L) 80
  rw [lvC_list] at C2
  have C2 := Lib.hid C2
  clear hb1 g0 g1 kk
  obtain ⟨p, hp⟩ : ∃ p, w1.heap.size = p := ⟨_, rfl⟩
  have hpw : w.heap.size ≤ p := by rw [← hp]; exact B1.out.size
  have hpz : (w1.alloc (.cells (lvC L) 80)).heap.size = p + 1 := by simp [hp]
  go_wp2_with fail
  rw [hp] at C2
  try rw [hp]
  obtain ⟨w2, hw2⟩ : ∃ u, w1.alloc (.cells (lvC L) 80) = u := ⟨_, rfl⟩
  rw [hw2] at hpz B2 C2
  try rw [hw2]
  go_loopw [7, 9] (fun a b wr => ∃ (x : Nat) (ps : List Nat), a = .int .u64 (x : Nat) ∧ x < 4096 ∧ ps ++ pcsM L x = pcsM L s ∧ ps.length + x ≤ 4096 ∧ OutN (p + 1) wr b (ps.map bitsOf) ∧ Cells wr p (sets12 L) ∧ p + 1 ≤ wr.heap.size ∧ Below w.heap.size w wr) (fun a _ _ => (intOf a).toNat)
  case atStart => exact ⟨s, [], rfl, hs, rfl, by simp; omega, OutN.nil _ _, C2.out, Nat.le_of_eq hpz.symm, B2.out⟩
  case round =>
    obtain ⟨x, ps, rfl, hx, hps, hlen, ho, hc, hz, hb⟩ := hrel
    have Hps := Lib.hid hps
    have O1 := Lib.hid ho
    have C1 := Lib.hid hc
    have Z1 := Lib.hid hz
    have Hb := Lib.hid hb
    have Hlen := Lib.hid hlen
    clear hps ho hc hz hb hlen hw2
    by_cases h0 : x = 0
    · subst h0
      have Hf := Lib.hid (show ps = pcsM L s by have := Hps.out; rwa [pcs_zero, List.append_nil] at this)
      go_wp2_with fail
      refine bodyPost_ret (results_tmp2 rfl _ _ _) rfl ⟨_, rfl, ?_, Hb.out⟩
      rw [← Hf.out]
      exact O1.out.down (by omega)
    · have t0 := u64_neq x h0
      have hx64 : x < 18446744073709551616 := by omega
      have HS := Lib.hid (pcs_step (L := L) h0 hx64)
      have HD := Lib.hid (diff_less (L := L) h0 hx64)
      have u1 := pieceM_12 (L := L) hx
      have HP := Lib.hid (piece_any L x wr HL.out hx (HW.out _ Hb.out))
      have u2 : pieceM L x < 18446744073709551616 := by omega
      have e1 : bits .andNot .u64 (x : Int) ((pieceM L x : Nat) : Int) = ((diff x (pieceM L x) : Nat) : Int) := bits_diff _ _ hx64 u2
      have y0 := C1.out.at_ 0
      have y1 := C1.out.at_ 1
      have y2 := C1.out.at_ 2
      have y3 := C1.out.at_ 3
      have y4 := C1.out.at_ 4
      have y5 := C1.out.at_ 5
      have y6 := C1.out.at_ 6
      have y7 := C1.out.at_ 7
      have y8 := C1.out.at_ 8
      have y9 := C1.out.at_ 9
      have y10 := C1.out.at_ 10
      have y11 := C1.out.at_ 11
      simp only [sets12, List.range, List.range.loop, List.map_cons, List.map_nil, List.getElem?_cons_zero, List.getElem?_cons_succ] at y0 y1 y2 y3 y4 y5 y6 y7 y8 y9 y10 y11
      clear h0 u1
      go_wp2_with fail
      refine HP.out.mono ?_
      rintro e w2 ⟨rfl, hb2⟩
      have B2 := Lib.hid (below_on Hb.out hb2)
      have O2 := Lib.hid (O1.out.keep hb2)
      have C2 := Lib.hid (C1.out.keep hb2)
      have Z2 := Lib.hid (Nat.le_trans Z1.out hb2.size)
      clear hb2 y0 y1 y2 y3 y4 y5 y6 y7 y8 y9 y10 y11
      go_wp2_with fail
      refine (list_any _ w2 u2 (HW.out _ B2.out)).mono ?_
      rintro e w3 ⟨v, rfl, hown, hb3⟩
      obtain ⟨A3, c3, rfl, hl3⟩ := RowL.of_own hown
      have B3 := Lib.hid (below_on B2.out hb3)
      have O3 := Lib.hid (O2.out.keep hb3)
      have C3 := Lib.hid (C2.out.keep hb3)
      have Z3C := Lib.hid (Nat.le_trans Z2.out hb3.size)
      have L3 := Lib.hid hl3
      clear hb3 hown hl3
      have Hlen := Lib.hid (show (ps.map bitsOf).length + x ≤ 4096 by rw [List.length_map]; exact Hlen.out)
      obtain ⟨vs1, ho1, hr1⟩ := O3.out
      have O1 := Lib.hid ho1
      have R1 := Lib.hid hr1
      have hbc1 : p + 1 ≤ w3.heap.size := Z3C.out
      clear ho1 hr1
      go_wp2_with (at_builtin; refine wpList_append_own _ rfl _ _ 32 rfl (p + 1) 25 j0 (.slice none 0 0) 1 24 Tryd.underlying32 hj jz0 jz1 jz2 rfl (by decide) _ _ _ rfl (O1.out.alloc _) ⟨w3.heap.size, 0, none⟩ 1 1 [.slice A3 (bitsOf (pieceM L x)).length c3] rfl rfl ?a1 ?b1 ?c1 ?d1 ?e1 ?_)
      case a1 =>
        intro k u hu
        match k, hu with
        | 0, hu => simp at hu; subst hu; simp [Addr.add]
      case b1 => intro u hu; simp at hu; subst hu; rfl
      case c1 => unfold maxLen; have := Hlen.out; omega
      case d1 => have := Hlen.out; omega
      case e1 => simp; omega
      intro v1 w4 hown1 hgrow1 _
      have O4 := Lib.hid (OutN.push O1.out R1.out L3.out (by first | exact hown1 | (rw [List.length_map]; exact hown1)) hgrow1)
      have g1 := Lib.hid (fun (B : Nat) (hB : B ≤ p + 1) => ((Below.refl B w3).alloc (Nat.le_trans hB hbc1) (.cells #[.slice A3 (bitsOf (pieceM L x)).length c3] 25)).grown hgrow1 (by simp; omega) (fun k hk => Nat.le_trans hB (own_ge O1.out hk)))
      clear hown1 hgrow1
      have B4 := Lib.hid (B3.out.trans (g1.out w.heap.size (by omega)))
      have C4 := Lib.hid (C3.out.keepB (g1.out (p + 1) (Nat.le_refl _)) (Nat.lt_succ_self p))
      have Z4 := Lib.hid (Nat.le_trans Z3C.out (g1.out (p + 1) (Nat.le_refl _)).size)
      go_wp2_with fail
      go_roundw
      case rel =>
        refine ⟨diff x (pieceM L x), ps ++ [pieceM L x], rfl, diff_lt hx, ?_, ?_, ?_, C4.out, Z4.out, B4.out⟩
        · rw [List.append_assoc, ← Hps.out, HS.out]; rfl
        · have := Hlen.out; rw [List.length_map] at this; have := HD.out; rw [List.length_append]; simp; omega
        · rw [List.map_append]; exact O4.out
      case measure => simp [intOf]; exact HD.out
end Go.Proofs.YtdpfoegcmngdfaaDoor
