/- The law GraphLeaves. -/
import Derived.Test.YthocdmlacfejkaaDoorLvm
import Derived.Test.YthocdmlacfejkaaDoorMI
import Derived.Test.YthocdmlacfejkaaDoorGrh
namespace Go.Proofs.YthocdmlacfejkaaDoor
open Go.RowKit
theorem filt_ok (n : Nat) (p : Nat → Bool) : errN n (zs ((List.range n).filter p)) = 0 := by
  unfold errN
  have h1 : (zs ((List.range n).filter p)).all (inN n) = true := by
    rw [List.all_eq_true]
    intro x hx
    unfold zs at hx
    obtain ⟨y, hy, rfl⟩ := List.mem_map.1 hx
    have := List.mem_range.1 (List.mem_filter.1 hy).1
    unfold inN
    simp
    omega
  rw [h1]
  simp [inc_filter]
set_option maxRecDepth 100000 in
set_option maxHeartbeats 8000000 in
theorem glv_any (n : Int) (A : Option Addr) (m c : Nat) (es : List (Int × Int)) (b : Nat) (w : World) (h : EL w A m es) (hb : b < 256) (hw : Good w) :
    Calls Tryd.prog 12 #[gV n A m c, .int .u8 b] w fun e w' => e = .returned (.bool true) ∧ Below w.heap.size w w' := by
  have kv := (Below.refl w.heap.size w).alloc (Nat.le_refl _) (.cells #[.int .i64 n, .slice A m c] 26)
  have HG := Lib.hid (fun w' (hb : Below w.heap.size w w') => hw.below hb hw.size)
  have HK := Lib.hid (fun w' (hb : Below w.heap.size w w') => known_any w' (hw.below hb hw.size))
  have HE := Lib.hid (fun w' (hb : Below w.heap.size w w') => h.keep hb)
  have G0 := Lib.hid (Cells.new w #[.int .i64 n, .slice A m c] 26)
  have HF := Lib.hid (fun w' (hb : Below w.heap.size w w') => fine_any n A m c es w' (h.keep hb))
  have hml := h.1
  obtain ⟨fb, hfb⟩ : ∃ fb, fineG n m es = fb := ⟨_, rfl⟩
  rw [hfb] at HF
  have B0 := Lib.hid kv
  have Hb := Lib.hid hb
  clear h hw kv
  go_enter Tryd.func12, Tryd.ntmps12
  go_wp2_with fail
  refine (HK.out _ B0.out).mono ?_
  rintro e w1 ⟨rfl, hb1⟩
  have G1 := Lib.hid (G0.out.keep hb1)
  have B1 := Lib.hid (below_on B0.out hb1)
  have g0 := G1.out.at_ 0
  have g1 := G1.out.at_ 1
  simp only [List.getElem?_cons_zero, List.getElem?_cons_succ] at g0 g1
  clear hb1
  go_wp2_with fail
  refine (HF.out _ B1.out).mono ?_
  rintro e w2 ⟨rfl, hb2⟩
  have G2 := Lib.hid (G1.out.keep hb2)
  have B2 := Lib.hid (below_on B1.out hb2)
  clear hb2 g0 g1
  cases fb with
  | false =>
    clear hfb
    go_wp2_with fail
    refine (HK.out _ B2.out).mono ?_
    rintro e w3 ⟨rfl, hb3⟩
    have B3 := Lib.hid (below_on B2.out hb3)
    clear hb3
    go_wp2_with fail
    go_ret
    exact ⟨rfl, B3.out⟩
  | true =>
    obtain ⟨k, l, rfl, rfl, hf, hk8, hm24⟩ := fine_split hfb
    have Hf := Lib.hid hf
    have hM2 := Lib.hid (show m ≤ 100000 by omega)
    clear hfb
    have hl8 := chs_len k b
    have Hok := Lib.hid (chs_ok k b)
    have Hce := show chs k b = (List.range k).filter fun v => b.testBit v by unfold chs; rw [Nat.min_eq_left hk8]
    have Hin := fun a (ha : a ∈ chs k b) => chs_in a ha
    have Hrl := reach_list hf.low hf.n64 Hin
    have Hsh := reach_shut hf.low hf.n64 Hin
    have Hrok := Lib.hid (show errN k (zs (reachL k l (chs k b))) = 0 from filt_ok k _)
    have Hos := own_same (es := l) hf.low hf.n64 (q := fun v => b.testBit v)
    rw [← Hce] at Hos
    obtain ⟨out, hout, ho64, hol, hocl⟩ := comp_ok hf.low hf.n64
    have Hlf := leaf_all hf.low hf.n64 Hin ho64 hocl
    have HS := Lib.hid (fun w' (hb : Below w.heap.size w w') => sinks_any k A m c l out w' (HE.out _ hb) hf hout ho64 hol (HG.out _ hb))
    have hsl : ((sinkM l out).map bitsOf).length = (sinkM l out).length := by simp
    have hsl2 : (sinkM l out).length ≤ 1000 := Nat.le_trans (List.length_filter_le _ _) hol
    have Hs64 := Lib.hid (fun s (hs : s ∈ (sinkM l out).map bitsOf) => (by
      obtain ⟨q, _, rfl⟩ := List.mem_map.1 hs
      exact Nat.le_trans (bitsOf_len q) (by decide) : s.length ≤ 1000000))
    obtain ⟨K, hK⟩ : ∃ K, (sinkM l out).map bitsOf = K := ⟨_, rfl⟩
    rw [hK] at HS Hlf Hs64 hsl
    have hrl := reachL_len k l (chs k b)
    have HC := chosen_any k b A m c w2 hk8 Hb.out
    obtain ⟨L, hL⟩ : ∃ L, chs k b = L := ⟨_, rfl⟩
    rw [hL] at HC hl8 Hok Hrl Hsh Hrok Hos Hlf hrl
    obtain ⟨R, hR⟩ : ∃ R, reachL k l L = R := ⟨_, rfl⟩
    rw [hR] at Hrl Hsh Hrok Hos Hlf hrl
    obtain ⟨ob, hob⟩ : ∃ ob, (!l.any (outE (setI (zs L)))) = ob := ⟨_, rfl⟩
    rw [hob] at Hos
    obtain ⟨db, hdb⟩ : ∃ db, decide (0 < R.length) = db := ⟨_, rfl⟩
    rw [hdb] at Hlf
    have td : decide ((0 : Int) < (R.length : Int)) = db := by rw [← hdb, Bool.eq_iff_iff, decide_eq_true_eq, decide_eq_true_eq]; omega
    have tdd : (db == db) = true := by simp
    have tob : (ob != ob) = false := by simp
    have HC := Lib.hid HC
    have Hrl := Lib.hid Hrl
    have Hsh := Lib.hid Hsh
    have Hos := Lib.hid Hos
    have Hlf := Lib.hid Hlf
    have Hob := Lib.hid hob
    have Hdb := Lib.hid hdb
    have Hsl := Lib.hid hsl
    clear hL hR hob hdb hK hf Hce Hin hout ho64 hocl hsl
    have g0 := G2.out.at_ 0
    have g1 := G2.out.at_ 1
    simp only [List.getElem?_cons_zero, List.getElem?_cons_succ] at g0 g1
    go_wp2_with fail
    refine (HC.out).mono ?_
    rintro e w3 ⟨v3, rfl, hown3, hb3⟩
    obtain ⟨A3, c3, rfl, hn3, _, _⟩ := own_nats hown3
    have G3 := Lib.hid (G2.out.keep hb3)
    have B3 := Lib.hid (below_on B2.out hb3)
    have L3 := Lib.hid (hn3.il)
    clear hb3 g0 g1 hown3 hn3
    have g0 := G3.out.at_ 0
    have g1 := G3.out.at_ 1
    simp only [List.getElem?_cons_zero, List.getElem?_cons_succ] at g0 g1
    have HR := reachG_any k A m c l A3 c3 (zs L) w3 (HE.out _ B3.out) Hf.out L3.out (by rw [zs_len]; omega) (HG.out _ B3.out)
    rw [zs_len] at HR
    have HR := Lib.hid HR
    go_wp2_with fail
    refine (HR.out).mono ?_
    rintro e w4 ⟨hc4, hb4⟩
    rcases hc4 with ⟨hno, _⟩ | ⟨_, v4, rfl, hown4⟩
    · exact absurd Hok.out hno
    rw [Hrl.out] at hown4
    obtain ⟨A4, c4, rfl, hn4, _, _⟩ := own_nats hown4
    have kx := (Below.refl w4.heap.size w4).alloc (Nat.le_refl _) (.cells #[.slice A4 R.length c4] 50)
    have b4 := below_on hb4 kx
    have G4 := Lib.hid (G3.out.keep b4)
    have L4 := Lib.hid (L3.out.keep b4)
    have B4 := Lib.hid (below_on B3.out b4)
    have N4 := Lib.hid ((hn4.il).keep kx)
    have X4 := Lib.hid (Cells.new w4 #[.slice A4 R.length c4] 50)
    clear hb4 kx b4 g0 g1 hown4 hn4
    have g0 := G4.out.at_ 0
    have g1 := G4.out.at_ 1
    have y0 := X4.out.at_ 0
    simp only [List.getElem?_cons_zero, List.getElem?_cons_succ] at g0 g1 y0
    have HD := closedG_any k A m c l A4 c4 (zs R) (w4.alloc (.cells #[.slice A4 R.length c4] 50)) (HE.out _ B4.out) Hf.out N4.out (by rw [zs_len]; omega)
    rw [zs_len] at HD
    have HD := Lib.hid HD
    go_wp2_with fail
    refine (HD.out).mono ?_
    rintro e w5 ⟨hc5, hb5⟩
    rcases hc5 with ⟨hno, _⟩ | ⟨_, rfl⟩
    · exact absurd Hrok.out hno
    rw [Hsh.out]
    have G5 := Lib.hid (G4.out.keep hb5)
    have L5 := Lib.hid (L4.out.keep hb5)
    have N5 := Lib.hid (N4.out.keep hb5)
    have X5 := Lib.hid (X4.out.keep hb5)
    have B5 := Lib.hid (below_on B4.out hb5)
    clear hb5 g0 g1 y0 
    have g0 := G5.out.at_ 0
    have g1 := G5.out.at_ 1
    simp only [List.getElem?_cons_zero, List.getElem?_cons_succ] at g0 g1
    have HD := closedG_any k A m c l A3 c3 (zs L) w5 (HE.out _ B5.out) Hf.out L5.out (by rw [zs_len]; omega)
    rw [zs_len] at HD
    have HD := Lib.hid HD
    go_wp2_with fail
    refine (HD.out).mono ?_
    rintro e w6 ⟨hc6, hb6⟩
    rcases hc6 with ⟨hno, _⟩ | ⟨_, rfl⟩
    · exact absurd Hok.out hno
    rw [Hob.out]
    have G6 := Lib.hid (G5.out.keep hb6)
    have L6 := Lib.hid (L5.out.keep hb6)
    have N6 := Lib.hid (N5.out.keep hb6)
    have X6 := Lib.hid (X5.out.keep hb6)
    have B6 := Lib.hid (below_on B5.out hb6)
    clear hb6 g0 g1 
    have g0 := G6.out.at_ 0
    have g1 := G6.out.at_ 1
    simp only [List.getElem?_cons_zero, List.getElem?_cons_succ] at g0 g1
    go_wp2_with fail
    refine (HS.out _ B6.out).mono ?_
    rintro e w7 ⟨A7, rfl, hll7, hb7⟩
    have G7 := Lib.hid (G6.out.keep hb7)
    have L7 := Lib.hid (L6.out.keep hb7)
    have N7 := Lib.hid (N6.out.keep hb7)
    have X7 := Lib.hid (X6.out.keep hb7)
    have B7 := Lib.hid (below_on B6.out hb7)
    have K7 := Lib.hid (hll7)
    clear hb7 g0 g1 hll7
    have y0 := X7.out.at_ 0
    simp only [List.getElem?_cons_zero] at y0
    have HQ := equal_any A4 A3 c4 c3 (zs R) (zs L) w7 N7.out L7.out (by rw [zs_len]; omega) (by rw [zs_len]; omega)
    rw [zs_len, zs_len, ← Hos.out] at HQ
    have HQ := Lib.hid HQ
    go_wp2_with fail
    refine (HQ.out).mono ?_
    rintro e w8 ⟨rfl, hb8⟩
    have N8 := Lib.hid (N7.out.keep hb8)
    have X8 := Lib.hid (X7.out.keep hb8)
    have K8 := Lib.hid (K7.out.keep hb8)
    have B8 := Lib.hid (below_on B7.out hb8)
    clear hb8 y0 
    have y0 := X8.out.at_ 0
    simp only [List.getElem?_cons_zero] at y0
    have HI := conLst_any _ A7 (sinkM l out).length K (insL R) (.pointer (some ⟨w4.heap.size, 0, none⟩)) w8 K8.out (by have := Hsl.out; omega) (fun w' e Ae ce he hil hb => leaf1_any w4.heap.size A4 c4 R Ae ce e w' (by have := (X8.out.keep hb).at_ 0; simpa using this) (N8.out.keep hb) (by omega) hil (Hs64.out e he))
    rw [Hlf.out, Hsl.out] at HI
    have HI := Lib.hid HI
    go_wp2_with fail
    refine (HI.out).mono ?_
    rintro e w9 ⟨rfl, hb9⟩
    have X9 := Lib.hid (X8.out.keep hb9)
    have B9 := Lib.hid (below_on B8.out hb9)
    clear hb9 y0 
    have y0 := X9.out.at_ 0
    simp only [List.getElem?_cons_zero] at y0
    go_wp2_with fail
    go_ret
    exact ⟨by simp; exact Hdb.out.symm, B9.out⟩
end Go.Proofs.YthocdmlacfejkaaDoor
