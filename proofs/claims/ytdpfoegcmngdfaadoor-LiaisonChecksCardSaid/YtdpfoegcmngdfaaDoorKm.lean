/- Liaisons: what is known, walked. -/
import Derived.Test.YtdpfoegcmngdfaaDoorKp
namespace Go.Proofs.YtdpfoegcmngdfaaDoor
open Go.RowKit
set_option maxRecDepth 100000 in
set_option maxHeartbeats 16000000 in
theorem known_any (w : World) (hw : Good w) :
    Calls Tryd.prog 10 #[] w fun e w' => e = .returned (.bool true) ∧ Below w.heap.size w w' := by
  have Hw := Lib.hid hw
  have k1 := (Below.refl w.heap.size w).alloc (Nat.le_refl _) (.cells #[.int .i64 0, .int .i64 1, .int .i64 1, .int .i64 0, .int .i64 1, .int .i64 2, .int .i64 2, .int .i64 1, .int .i64 2, .int .i64 3, .int .i64 3, .int .i64 2] 75)
  have e1 : EL (w.alloc (.cells #[.int .i64 0, .int .i64 1, .int .i64 1, .int .i64 0, .int .i64 1, .int .i64 2, .int .i64 2, .int .i64 1, .int .i64 2, .int .i64 3, .int .i64 3, .int .i64 2] 75)) (some ⟨w.heap.size, 0, none⟩) 6 (cast lK) := el_cells (d := cast lK) (tl := []) (Cells.new w _ _)
  have HM := make_ok 4 (some ⟨w.heap.size, 0, none⟩) 6 6 lK _ e1 (by omega) lK_low (by omega)
  unfold MakPost at HM
  simp only [lK_make, show lK.length = 6 from rfl] at HM
  have HM := Lib.hid HM
  have K1 := Lib.hid k1
  clear k1 e1 hw
  go_enter Tryd.func10, Tryd.ntmps10
  go_wp2_with fail
  refine HM.out.mono ?_
  rintro e w2 ⟨⟨B, d, rfl, hel, _⟩, hb2⟩
  have K2 := Lib.hid (below_on K1.out hb2)
  have E2 := Lib.hid hel
  clear hb2 hel HM K1
  obtain ⟨p, hp⟩ : ∃ p, w2.heap.size = p := ⟨_, rfl⟩
  have al := (Below.refl w2.heap.size w2).alloc (Nat.le_refl _) (.cells #[.int .i64 4, .slice B 6 d] 24)
  have C3 := Cells.new w2 #[.int .i64 4, .slice B 6 d] 24
  have E3 := E2.out.keep al
  have K3 := below_on K2.out al
  have ha : (⟨p, 0, none⟩ : Addr) = ⟨w2.heap.size, 0, none⟩ := by rw [hp]
  obtain ⟨w3, hw3⟩ : ∃ u, w2.alloc (.cells #[.int .i64 4, .slice B 6 d] 24) = u := ⟨_, rfl⟩
  have Hw3 := Lib.hid hw3
  have Hp := Lib.hid hp
  rw [hw3, hp] at C3
  rw [hw3] at E3 K3
  have HS := Lib.hid (fun w' (hb : Below w3.heap.size w3 w') => (⟨(C3.keep hb).at_ 0, (C3.keep hb).at_ 1, E3.keep hb, Hw.out.below (below_on K3 hb) Hw.out.size, below_on K3 hb⟩ : w'.cell? ⟨p, 0, none⟩ = some (.int .i64 4) ∧ w'.cell? ⟨p, 1, none⟩ = some (.slice B 6 d) ∧ EL w' B 6 (cast lK) ∧ Good w' ∧ Below w.heap.size w w'))
  clear al C3 E3 K3 ha hw3 hp E2 K2
  go_upto_region 2 with fail
  simp only [Hw3.out, Hp.out]
  -- Pieces
  have t3 := HS.out w3 (Below.refl _ _)
  obtain ⟨g0, g1, _, _, _⟩ := t3
  have b4 := (Below.refl w3.heap.size w3).alloc (Nat.le_refl _) (.cells #[.int .i64 0, .int .i64 1, .int .i64 3] 3)
  have t4 := HS.out _ b4
  have HP := known_pieces (d := d) (q := 3) t4.2.2.1 (il11 w3) t4.2.2.2.1
  have HP := Lib.hid HP
  have B4 := Lib.hid b4
  clear b4 t4
  go_wp2_with fail
  refine HP.out.mono ?_
  rintro e w5 ⟨⟨PA, pc, rfl, hpl⟩, hb5⟩
  have B5 := Lib.hid (below_on B4.out hb5)
  have L5 := Lib.hid (show ∀ w', Below w5.heap.size w5 w' → LL 0 w' PA [[0, 1], [3]] from fun w' hb => hpl.keep hb)
  clear hb5 hpl g0 g1 HP B4
  -- Cuts
  obtain ⟨g0, g1, _, _, _⟩ := HS.out w5 B5.out
  have b6 := below_on B5.out ((Below.refl w5.heap.size w5).alloc (Nat.le_refl _) (.cells #[.int .i64 0, .int .i64 1, .int .i64 2, .int .i64 3] 3))
  have t6 := HS.out _ b6
  have HP := Lib.hid (known_cuts (d := d) (q := 4) t6.2.2.1 (il15 w5) t6.2.2.2.1)
  have B6 := Lib.hid b6
  clear b6 t6
  go_wp2_with fail
  refine HP.out.mono ?_
  rintro e w7 ⟨⟨PC, qc, rfl, hcl⟩, hb7⟩
  have B7 := Lib.hid (below_on B6.out hb7)
  have D7 := Lib.hid (below_on ((Below.refl w5.heap.size w5).alloc (Nat.le_refl _) (.cells #[.int .i64 0, .int .i64 1, .int .i64 2, .int .i64 3] 3)) hb7)
  have L7 := Lib.hid (show ∀ w', Below w7.heap.size w7 w' → CL w' PC [([0], [1, 2, 3]), ([0, 1], [2, 3]), ([0, 1, 2], [3])] from fun w' hb => hcl.keep hb)
  clear hb7 hcl g0 g1 HP B6
  -- Joints
  obtain ⟨g0, g1, _, _, _⟩ := HS.out w7 B7.out
  have b8 := below_on B7.out ((Below.refl w7.heap.size w7).alloc (Nat.le_refl _) (.cells #[.int .i64 0, .int .i64 1, .int .i64 2, .int .i64 3] 3))
  have t8 := HS.out _ b8
  have HP := Lib.hid (known_joints (d := d) (q := 4) t8.2.2.1 (il15 w7) t8.2.2.2.1)
  have B8 := Lib.hid b8
  clear b8 t8
  go_wp2_with fail
  refine HP.out.mono ?_
  rintro e w9 ⟨⟨PJ, qj, rfl, hjl⟩, hb9⟩
  have B9 := Lib.hid (below_on B8.out hb9)
  have D9 := Lib.hid (below_on ((Below.refl w7.heap.size w7).alloc (Nat.le_refl _) (.cells #[.int .i64 0, .int .i64 1, .int .i64 2, .int .i64 3] 3)) hb9)
  have L9 := Lib.hid (show ∀ w', Below w9.heap.size w9 w' → IL w' PJ [1, 2] from fun w' hb => hjl.keep hb)
  clear hb9 hjl g0 g1 HP B8
  -- Parents
  have HP := Lib.hid (known_parents (gl_lit w9))
  go_wp2_with fail
  refine HP.out.mono ?_
  rintro e w11 ⟨⟨gp, rfl, hul⟩, hb11⟩
  have kg := (((((Below.refl w9.heap.size w9).alloc (Nat.le_refl _) (.cells #[.int .i64 0, .int .i64 1] 3)).alloc (by simp <;> omega) (.cells #[.int .i64 0, .int .i64 1, .int .i64 2] 3)).alloc (by simp <;> omega) (.cells #[.int .i64 3, .int .i64 4] 3)).alloc (by simp <;> omega) (.cells #[.string ⟨#[97]⟩, .slice (some ⟨w9.heap.size, 0, none⟩) 2 2, .string ⟨#[98]⟩, .slice (some ⟨w9.heap.size + 1, 0, none⟩) 3 3, .string ⟨#[99]⟩, .slice (some ⟨w9.heap.size + 2, 0, none⟩) 2 2] 68))
  have D11 := below_on kg hb11
  have K11 := Lib.hid (below_on (HS.out w9 B9.out).2.2.2.2 D11)
  have D97 := below_on D9.out D11
  have D75 := below_on D7.out D97
  have M1 := Lib.hid (fun w' (hb : Below w11.heap.size w11 w') => L5.out w' (below_on D75 hb))
  have M2 := Lib.hid (fun w' (hb : Below w11.heap.size w11 w') => L7.out w' (below_on D97 hb))
  have M3 := Lib.hid (fun w' (hb : Below w11.heap.size w11 w') => L9.out w' (below_on D11 hb))
  have M4 := Lib.hid (fun w' (hb : Below w11.heap.size w11 w') => hul.keep hb)
  clear kg D11 D97 D75 L5 L7 L9 hul hb11 B5 B7 B9 D7 D9 HS HP
  have b1 := ((((Below.refl w11.heap.size w11).alloc (Nat.le_refl _) (.cells #[.int .i64 0, .int .i64 1] 3)).alloc (by simp <;> omega) (.cells #[.int .i64 3] 3)).alloc (by simp <;> omega) (.cells #[.slice (some ⟨w11.heap.size, 0, none⟩) 2 2, .slice (some ⟨w11.heap.size + 1, 0, none⟩) 1 1] 25))
  have H1 := Lib.hid (known_lists (c := pc) (d := 2) (M1.out _ b1) (ll_lit w11))
  have N1 := Lib.hid b1
  clear b1 M1
  go_wp2_with fail
  refine H1.out.mono ?_
  rintro e w12 ⟨rfl, hb⟩
  have N12 := Lib.hid (below_on N1.out hb)
  clear hb H1 N1
  obtain ⟨cb, co, P1, c1, Q1, d1, rfl, hcb, f0, f1, hp1, hq1⟩ := M2.out w12 N12.out 1 ([0, 1], [2, 3]) rfl
  have ka := (Below.refl w12.heap.size w12).alloc (Nat.le_refl _) (.cells #[.int .i64 0, .int .i64 1] 3)
  have H2 := Lib.hid (known_same (c := c1) (d := 2) (l := [0, 1]) (hp1.keep ka) (il_lit w12 [0, 1] 3) (by decide))
  have N2 := Lib.hid ka
  have HQ := Lib.hid (show ∀ w', Below w12.heap.size w12 w' → w'.cell? ⟨cb, co + 1 * 2 + 1, none⟩ = some (.slice Q1 2 d1) ∧ IL w' Q1 [2, 3] from fun w' hb => ⟨(hb.cell (p := ⟨cb, co + 1 * 2 + 1, none⟩) hcb).trans f1, hq1.keep hb⟩)
  clear ka hp1 hq1 f1
  have f0' : w12.cell? ⟨cb, co + 2, none⟩ = some (.slice P1 2 c1) := f0
  go_wp2_with fail
  refine H2.out.mono ?_
  rintro e w13 ⟨rfl, hb⟩
  have N13 := Lib.hid (below_on N2.out hb)
  clear hb H2 N2 f0 f0'
  obtain ⟨f1, hq⟩ := HQ.out w13 N13.out
  have f1' : w13.cell? ⟨cb, co + 2 + 1, none⟩ = some (.slice Q1 2 d1) := f1
  have ka := (Below.refl w13.heap.size w13).alloc (Nat.le_refl _) (.cells #[.int .i64 2, .int .i64 3] 3)
  have H3 := Lib.hid (known_same (c := d1) (d := 2) (l := [2, 3]) (hq.keep ka) (il_lit w13 [2, 3] 3) (by decide))
  have N3 := Lib.hid ka
  clear ka hq HQ
  go_wp2_with fail
  refine H3.out.mono ?_
  rintro e w14 ⟨rfl, hb⟩
  have N14 := Lib.hid (below_on N12.out (below_on N13.out (below_on N3.out hb)))
  clear hb H3 N3 f1 f1' N13
  have ka := (Below.refl w14.heap.size w14).alloc (Nat.le_refl _) (.cells #[.int .i64 1, .int .i64 2] 3)
  have H4 := Lib.hid (known_same (c := qj) (d := 2) (l := [1, 2]) (M3.out _ (below_on N14.out ka)) (il_lit w14 [1, 2] 3) (by decide))
  have N4 := Lib.hid ka
  clear ka M3
  go_wp2_with fail
  refine H4.out.mono ?_
  rintro e w15 ⟨rfl, hb⟩
  have N15 := Lib.hid (below_on N14.out (below_on N4.out hb))
  clear hb H4 N4
  have ka := (Below.refl w15.heap.size w15).alloc (Nat.le_refl _) (.cells #[.int .i64 1, .int .i64 (-1), .int .i64 (-1)] 3)
  have H5 := Lib.hid (known_same (c := 3) (d := 3) (l := [1, -1, -1]) (M4.out _ (below_on N15.out ka)) (il_lit w15 [1, -1, -1] 3) (by decide))
  have N5 := Lib.hid ka
  clear ka M4
  go_wp2_with fail
  refine H5.out.mono ?_
  rintro e w16 ⟨rfl, hb⟩
  have K16 := Lib.hid (below_on K11.out (below_on N15.out (below_on N5.out hb)))
  clear hb H5 N5
  go_wp2_with fail
  go_ret
  exact ⟨rfl, K16.out⟩
end Go.Proofs.YtdpfoegcmngdfaaDoor
