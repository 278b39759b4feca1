/- The law GraphReverses. -/
import Derived.Test.YthocdmlacfejkaaDoorMI
import Derived.Test.YthocdmlacfejkaaDoorGrh
import Derived.Test.YthocdmlacfejkaaDoorRin
namespace Go.Proofs.YthocdmlacfejkaaDoor
open Go.RowKit
set_option maxRecDepth 100000 in
set_option maxHeartbeats 8000000 in
theorem grv_any (n : Int) (A : Option Addr) (m c : Nat) (es : List (Int × Int)) (b : Nat) (w : World) (h : EL w A m es) (hb : b < 256) (hw : Good w) :
    Calls Tryd.prog 7 #[gV n A m c, .int .u8 b] w fun e w' => e = .returned (.bool true) ∧ Below w.heap.size w w' := by
  have kv := (Below.refl w.heap.size w).alloc (Nat.le_refl _) (.cells #[.int .i64 n, .slice A m c] 26)
  have HG := Lib.hid (fun w' (hb : Below w.heap.size w w') => hw.below hb hw.size)
  have HK := Lib.hid (fun w' (hb : Below w.heap.size w w') => known_any w' (hw.below hb hw.size))
  have HE := Lib.hid (fun w' (hb : Below w.heap.size w w') => h.keep hb)
  have G0 := Lib.hid (Cells.new w #[.int .i64 n, .slice A m c] 26)
  have HF := Lib.hid (fun w' (hb : Below w.heap.size w w') => fine_any n A m c es w' (h.keep hb))
  have hml := h.1
  obtain ⟨fb, hfb⟩ : ∃ fb, fineG n m es = fb := ⟨_, rfl⟩
  rw [hfb] at HF
  have B0 := Lib.hid kv
  have Hb := Lib.hid hb
  clear h hw kv
  go_enter Tryd.func7, Tryd.ntmps7
  go_wp2_with fail
  refine (HK.out _ B0.out).mono ?_
  rintro e w1 ⟨rfl, hb1⟩
  have G1 := Lib.hid (G0.out.keep hb1)
  have B1 := Lib.hid (below_on B0.out hb1)
  have g0 := G1.out.at_ 0
  have g1 := G1.out.at_ 1
  simp only [List.getElem?_cons_zero, List.getElem?_cons_succ] at g0 g1
  clear hb1
  go_wp2_with fail
  refine (HF.out _ B1.out).mono ?_
  rintro e w2 ⟨rfl, hb2⟩
  have G2 := Lib.hid (G1.out.keep hb2)
  have B2 := Lib.hid (below_on B1.out hb2)
  clear hb2 g0 g1
  cases fb with
  | false =>
    clear hfb
    go_wp2_with fail
    refine (HK.out _ B2.out).mono ?_
    rintro e w3 ⟨rfl, hb3⟩
    have B3 := Lib.hid (below_on B2.out hb3)
    clear hb3
    go_wp2_with fail
    go_ret
    exact ⟨rfl, B3.out⟩
  | true =>
    obtain ⟨k, l, rfl, rfl, hf, hk8, hm24⟩ := fine_split hfb
    have Hf := Lib.hid hf
    have hM2 := Lib.hid (show m ≤ 100000 by omega)
    clear hfb
    have hl8 := chs_len k b
    have Hok := Lib.hid (chs_ok k b)
    have Hin := Lib.hid (errN_inc Hok.out)
    have Hmk := Lib.hid (ind_make Hf.out Hin.out)
    have Hml := Lib.hid (show (makeL (chs k b).length (indM l (chs k b))).length = (indM l (chs k b)).length by rw [← cast_len, Hmk.out, cast_len])
    have hrl : (makeL k (revE l)).length ≤ 100000 := by
      have := make_len (n := k) (es := revE l)
      have : k * k ≤ 64 * 64 := Nat.mul_le_mul (by omega) (by omega)
      omega
    have hil := indM_len l (chs k b)
    have hll := Hf.out.len
    have HC := chosen_any k b A m c w2 hk8 Hb.out
    obtain ⟨L, hL⟩ : ∃ L, chs k b = L := ⟨_, rfl⟩
    rw [hL] at HC hl8 Hok Hmk Hin hil Hml
    have HC := Lib.hid HC
    clear hL
    have g0 := G2.out.at_ 0
    have g1 := G2.out.at_ 1
    simp only [List.getElem?_cons_zero, List.getElem?_cons_succ] at g0 g1
    go_wp2_with fail
    refine (HC.out).mono ?_
    rintro e w3 ⟨v3, rfl, hown3, hb3⟩
    obtain ⟨A3, c3, rfl, hn3, _, _⟩ := own_nats hown3
    have G3 := Lib.hid (G2.out.keep hb3)
    have B3 := Lib.hid (below_on B2.out hb3)
    have L3 := Lib.hid (hn3.il)
    clear hb3 g0 g1 hown3 hn3
    have g0 := G3.out.at_ 0
    have g1 := G3.out.at_ 1
    simp only [List.getElem?_cons_zero, List.getElem?_cons_succ] at g0 g1
    go_wp2_with fail
    refine (copied_any k A m c (cast l) w3 (HE.out _ B3.out) hM2.out).mono ?_
    rintro e w4 ⟨P4, d4, rfl, hE4, hb4⟩
    have G4 := Lib.hid (G3.out.keep hb4)
    have L4 := Lib.hid (L3.out.keep hb4)
    have B4 := Lib.hid (below_on B3.out hb4)
    have E4 := Lib.hid (hE4)
    clear hb4 g0 g1 hE4
    go_wp2_with fail
    refine (reverse_ok k P4 m d4 l w4 E4.out Hf.out).mono ?_
    rintro e w5 ⟨⟨P5, d5, rfl, hE5, _⟩, hb5⟩
    have kx := (Below.refl w5.heap.size w5).alloc (Nat.le_refl _) (.cells #[.int .i64 (k : Nat), .slice P5 (makeL k (revE l)).length d5] 26)
    have b5 := below_on hb5 kx
    have G5 := Lib.hid (G4.out.keep b5)
    have L5 := Lib.hid (L4.out.keep b5)
    have B5 := Lib.hid (below_on B4.out b5)
    have R5 := Lib.hid ((hE5).keep kx)
    have X5 := Lib.hid (Cells.new w5 #[.int .i64 (k : Nat), .slice P5 (makeL k (revE l)).length d5] 26)
    clear hb5 kx b5  hE5
    obtain ⟨w5', hw5⟩ : ∃ u, w5.alloc (.cells #[.int .i64 (k : Nat), .slice P5 (makeL k (revE l)).length d5] 26) = u := ⟨_, rfl⟩
    rw [hw5] at G5 B5 L5 R5 X5
    have g0 := G5.out.at_ 0
    have g1 := G5.out.at_ 1
    simp only [List.getElem?_cons_zero, List.getElem?_cons_succ] at g0 g1
    have HCp := copied_any k A m c (cast l) w5' (HE.out _ B5.out) hM2.out
    have HCp := Lib.hid HCp
    go_wp2_with fail
    refine (HCp.out).mono ?_
    rintro e w6 ⟨P6, d6, rfl, hE6, hb6⟩
    have G6 := Lib.hid (G5.out.keep hb6)
    have L6 := Lib.hid (L5.out.keep hb6)
    have R6 := Lib.hid (R5.out.keep hb6)
    have X6 := Lib.hid (X5.out.keep hb6)
    have B6 := Lib.hid (below_on B5.out hb6)
    have E6 := Lib.hid (hE6)
    clear hb6 g0 g1 hE6 hw5
    have HCl := cloneI_any A3 c3 (zs L) w6 L6.out (by rw [zs_len]; omega)
    rw [zs_len] at HCl
    have HCl := Lib.hid HCl
    go_wp2_with fail
    refine (HCl.out).mono ?_
    rintro e w7 ⟨Q7, q7, rfl, hI7, hb7⟩
    have G7 := Lib.hid (G6.out.keep hb7)
    have L7 := Lib.hid (L6.out.keep hb7)
    have R7 := Lib.hid (R6.out.keep hb7)
    have X7 := Lib.hid (X6.out.keep hb7)
    have E7 := Lib.hid (E6.out.keep hb7)
    have B7 := Lib.hid (below_on B6.out hb7)
    have I7 := Lib.hid (hI7)
    clear hb7  hI7
    go_wp2_with fail
    refine (induced_any k P6 m d6 l Q7 q7 L w7 E7.out Hf.out I7.out (by omega) Hok.out).mono ?_
    rintro e w8 ⟨⟨P8, d8, rfl, hE8⟩, hb8⟩
    have kx := (Below.refl w8.heap.size w8).alloc (Nat.le_refl _) (.cells #[.int .i64 (L.length : Nat), .slice P8 (indM l L).length d8] 26)
    have b8 := below_on hb8 kx
    have G8 := Lib.hid (G7.out.keep b8)
    have L8 := Lib.hid (L7.out.keep b8)
    have R8 := Lib.hid (R7.out.keep b8)
    have X8 := Lib.hid (X7.out.keep b8)
    have B8 := Lib.hid (below_on B7.out b8)
    have U8 := Lib.hid ((hE8).keep kx)
    have Y8 := Lib.hid (Cells.new w8 #[.int .i64 (L.length : Nat), .slice P8 (indM l L).length d8] 26)
    clear hb8 kx b8  hE8
    obtain ⟨wm, hwm⟩ : ∃ u, w8.alloc (.cells #[.int .i64 (L.length : Nat), .slice P8 (indM l L).length d8] 26) = u := ⟨_, rfl⟩
    obtain ⟨gx, hgx⟩ : ∃ q, w5.heap.size = q := ⟨_, rfl⟩
    obtain ⟨gy, hgy⟩ : ∃ q, w8.heap.size = q := ⟨_, rfl⟩
    rw [hwm] at G8 B8 L8 R8 U8 X8 Y8
    rw [hgx] at X8
    rw [hgy] at Y8
    go_upto_region 6 with fail
    try rw [hwm]
    try rw [hgx]
    try rw [hgy]
    try clear g0 g1
    have HS := Lib.hid (fun w' (hb : Below wm.heap.size wm w') => (⟨(G8.out.keep hb).at_ 0, (G8.out.keep hb).at_ 1, (X8.out.keep hb).at_ 0, (X8.out.keep hb).at_ 1, (Y8.out.keep hb).at_ 0, (Y8.out.keep hb).at_ 1⟩ : w'.cell? ⟨w.heap.size, 0, none⟩ = some (.int .i64 (k : Nat)) ∧ w'.cell? ⟨w.heap.size, 1, none⟩ = some (.slice A m c) ∧ w'.cell? ⟨gx, 0, none⟩ = some (.int .i64 (k : Nat)) ∧ w'.cell? ⟨gx, 1, none⟩ = some (.slice P5 (makeL k (revE l)).length d5) ∧ w'.cell? ⟨gy, 0, none⟩ = some (.int .i64 (L.length : Nat)) ∧ w'.cell? ⟨gy, 1, none⟩ = some (.slice P8 (indM l L).length d8)))
    refine Till.begin 21 (fun w' => w'.cell? ⟨w.heap.size, 0, none⟩ = some (.int .i64 (k : Nat)) ∧ w'.cell? ⟨w.heap.size, 1, none⟩ = some (.slice A m c) ∧ w'.cell? ⟨gx, 0, none⟩ = some (.int .i64 (k : Nat)) ∧ w'.cell? ⟨gx, 1, none⟩ = some (.slice P5 (makeL k (revE l)).length d5) ∧ w'.cell? ⟨gy, 0, none⟩ = some (.int .i64 (L.length : Nat)) ∧ w'.cell? ⟨gy, 1, none⟩ = some (.slice P8 (indM l L).length d8)) (by kernel_rfl) (HS.out _ (Below.refl _ _).drew) (fun hH => ?_)
    clear hH
    have HB := Lib.hid (Below.refl wm.heap.size wm).drew
    generalize wm.drew = v0 at HB ⊢
    try simp only [List.setIfInBounds_toArray, List.set_cons_zero, List.set_cons_succ]
    refine Till.one (i := 0) (by kernel_rfl) rfl (fun K hK => ?_)
    go_simp
    refine hK.out _ _ (fun _ => HS.out _ HB.out) ?_
    clear hK K
    try simp only [List.setIfInBounds_toArray, List.set_cons_zero, List.set_cons_succ]
    refine Till.one (i := 1) (by kernel_rfl) rfl (fun K hK => ?_)
    go_simp
    refine hK.out _ _ (fun _ => HS.out _ HB.out) ?_
    clear hK K
    try simp only [List.setIfInBounds_toArray, List.set_cons_zero, List.set_cons_succ]
    refine Till.one (i := 2) (by kernel_rfl) rfl (fun K hK => ?_)
    go_simp
    refine hK.out _ _ (fun _ => HS.out _ HB.out) ?_
    clear hK K
    try simp only [List.setIfInBounds_toArray, List.set_cons_zero, List.set_cons_succ]
    refine Till.one (i := 3) (by kernel_rfl) rfl (fun K hK => ?_)
    go_simp
    refine hK.out _ _ (fun _ => HS.out _ HB.out) ?_
    clear hK K
    try simp only [List.setIfInBounds_toArray, List.set_cons_zero, List.set_cons_succ]
    refine Till.one (i := 4) (by kernel_rfl) rfl (fun K hK => ?_)
    go_simp
    refine hK.out _ _ (fun _ => HS.out _ HB.out) ?_
    clear hK K
    try simp only [List.setIfInBounds_toArray, List.set_cons_zero, List.set_cons_succ]
    refine Till.one (i := 5) (by kernel_rfl) rfl (fun K hK => ?_)
    go_simp
    refine hK.out _ _ (fun _ => HS.out _ HB.out) ?_
    clear hK K
    try simp only [List.setIfInBounds_toArray, List.set_cons_zero, List.set_cons_succ]
    refine Till.one (i := 6) (by kernel_rfl) rfl (fun K hK => ?_)
    go_simp
    refine hK.out _ _ (fun _ => HS.out _ HB.out) ?_
    clear hK K
    try simp only [List.setIfInBounds_toArray, List.set_cons_zero, List.set_cons_succ]
    refine Till.tk 7 11 42 (.agg #[.int .i64 (k : Nat), .slice P5 (makeL k (revE l)).length d5]) (HS.out _ HB.out) ?_
    try simp only [Act.put, List.setIfInBounds_toArray, List.set_cons_zero, List.set_cons_succ]
    refine Till.tk 8 9 43 (.agg #[.int .i64 (k : Nat), .slice A m c]) (HS.out _ HB.out) ?_
    try simp only [Act.put, List.setIfInBounds_toArray, List.set_cons_zero, List.set_cons_succ]
    refine Till.one (i := 9) (by kernel_rfl) rfl (fun K hK => ?_)
    go_simp
    refine (plain_any k A m c (cast l) v0 (HE.out _ (below_on B8.out HB.out)) hM2.out).mono ?_
    rintro e v1 ⟨M1, e1, rfl, hE, g⟩
    replace HB := Lib.hid (below_on HB.out g)
    have E1 := Lib.hid hE
    clear hE
    clear g
    go_wp2_with fail
    refine hK.out _ _ (fun _ => HS.out _ HB.out) ?_
    clear hK K
    try simp only [List.setIfInBounds_toArray, List.set_cons_zero, List.set_cons_succ]
    refine Till.one (i := 10) (by kernel_rfl) rfl (fun K hK => ?_)
    go_simp
    refine (refReverse_ok k M1 m e1 l v1 E1.out hM2.out Hf.out.low Hf.out.n64).mono ?_
    rintro e v2 ⟨⟨M2, e2, rfl, hE⟩, g⟩
    replace HB := Lib.hid (below_on HB.out g)
    have E2 := Lib.hid hE
    clear hE
    clear g
    go_wp2_with fail
    refine hK.out _ _ (fun _ => HS.out _ HB.out) ?_
    clear hK K
    try simp only [List.setIfInBounds_toArray, List.set_cons_zero, List.set_cons_succ]
    refine Till.one (i := 11) (by kernel_rfl) rfl (fun K hK => ?_)
    go_simp
    refine (same_eq k P5 M2 (makeL k (revE l)).length d5 e2 (cast (makeL k (revE l))) v2 (R8.out.keep HB.out) E2.out hrl).mono ?_
    rintro e v3 ⟨rfl, g⟩
    replace HB := Lib.hid (below_on HB.out g)
    clear g
    go_wp2_with fail
    refine hK.out _ _ (fun _ => HS.out _ HB.out) ?_
    clear hK K
    try simp only [List.setIfInBounds_toArray, List.set_cons_zero, List.set_cons_succ]
    refine Till.one (i := 12) (by kernel_rfl) rfl (fun K hK => ?_)
    go_simp
    refine hK.out _ _ (fun _ => HS.out _ HB.out) ?_
    clear hK K
    try simp only [List.setIfInBounds_toArray, List.set_cons_zero, List.set_cons_succ]
    refine Till.one (i := 13) (by kernel_rfl) rfl (fun K hK => ?_)
    go_simp
    refine hK.out _ _ (fun _ => HS.out _ HB.out) ?_
    clear hK K
    try simp only [List.setIfInBounds_toArray, List.set_cons_zero, List.set_cons_succ]
    refine Till.tk 14 19 49 (.agg #[.int .i64 (L.length : Nat), .slice P8 (indM l L).length d8]) (HS.out _ HB.out) ?_
    try simp only [Act.put, List.setIfInBounds_toArray, List.set_cons_zero, List.set_cons_succ]
    refine Till.tk 15 16 50 (.agg #[.int .i64 (k : Nat), .slice A m c]) (HS.out _ HB.out) ?_
    try simp only [Act.put, List.setIfInBounds_toArray, List.set_cons_zero, List.set_cons_succ]
    refine Till.tk 17 18 52 (.slice A3 L.length c3) (HS.out _ HB.out) ?_
    try simp only [Act.put, List.setIfInBounds_toArray, List.set_cons_zero, List.set_cons_succ]
    refine Till.one (i := 16) (by kernel_rfl) rfl (fun K hK => ?_)
    go_simp
    refine (plain_any k A m c (cast l) v3 (HE.out _ (below_on B8.out HB.out)) hM2.out).mono ?_
    rintro e v4 ⟨M4, e4, rfl, hE, g⟩
    replace HB := Lib.hid (below_on HB.out g)
    have E4 := Lib.hid hE
    clear hE
    clear g
    go_wp2_with fail
    refine hK.out _ _ (fun _ => HS.out _ HB.out) ?_
    clear hK K
    try simp only [List.setIfInBounds_toArray, List.set_cons_zero, List.set_cons_succ]
    refine Till.one (i := 18) (by kernel_rfl) rfl (fun K hK => ?_)
    go_simp
    refine (refInduced_ok k M4 m e4 l A3 c3 L v4 E4.out hM2.out (L8.out.keep HB.out) (by omega) Hin.out).mono ?_
    rintro e v5 ⟨⟨M5, e5, rfl, hE⟩, g⟩
    replace HB := Lib.hid (below_on HB.out g)
    have E5 := Lib.hid hE
    clear hE
    clear g
    go_wp2_with fail
    refine hK.out _ _ (fun _ => HS.out _ HB.out) ?_
    clear hK K
    try simp only [List.setIfInBounds_toArray, List.set_cons_zero, List.set_cons_succ]
    refine Till.one (i := 19) (by kernel_rfl) rfl (fun K hK => ?_)
    go_simp
    have E6 := E5.out
    rw [Hmk.out, Hml.out] at E6
    have E6 := Lib.hid E6
    rw [Hml.out]
    refine (same_eq L.length P8 M5 (indM l L).length d8 e5 (cast (indM l L)) v5 (U8.out.keep HB.out) E6.out (by omega)).mono ?_
    rintro e v6 ⟨rfl, g⟩
    replace HB := Lib.hid (below_on HB.out g)
    clear g
    go_wp2_with fail
    refine hK.out _ _ (fun _ => HS.out _ HB.out) ?_
    clear hK K
    try simp only [List.setIfInBounds_toArray, List.set_cons_zero, List.set_cons_succ]
    refine Till.one (i := 20) (by kernel_rfl) rfl (fun K hK => ?_)
    go_simp
    refine hK.out _ _ (fun _ => HS.out _ HB.out) ?_
    clear hK K
    try simp only [List.setIfInBounds_toArray, List.set_cons_zero, List.set_cons_succ]
    refine Till.one (i := 21) (by kernel_rfl) rfl (fun K hK => ?_)
    go_simp
    refine hK.out _ _ (fun h => absurd h (by simp)) ?_
    clear hK K
    try simp only [List.setIfInBounds_toArray, List.set_cons_zero, List.set_cons_succ]
    refine Till.done (by kernel_rfl) ?_ _
    go_wp2_with fail
    go_ret
    exact ⟨by simp, below_on B8.out HB.out⟩
end Go.Proofs.YthocdmlacfejkaaDoor
