/- The law RationalInts: its walk. -/
import Derived.Test.YtjcblcikipmojaaGreatDoorRatQ
namespace Go.Proofs.YtjcblcikipmojaaGreatDoor
open Go.RowKit

theorem right_one (s : ByteArray) (w : World) (hs : s.size ≤ 9223372036854775807) :
    Calls Tryz.prog 25 #[.slice (some ⟨w.heap.size, 0, none⟩) 1 1] (w.alloc (.cells #[.string s] 9)) (RightR [s] (w.alloc (.cells #[.string s] 9))) :=
  rright_any [s] w.heap.size 1 _ rfl (by decide) (by decide) (by simp) (fun k t h => by
    match k, h with
    | 0, h => simp at h; subst h; simp [go_sem]) (fun t h => by rw [List.mem_singleton.1 h]; exact hs)
theorem txt_min : txt (-9223372036854775808) = ⟨#[45, 57, 50, 50, 51, 51, 55, 50, 48, 51, 54, 56, 53, 52, 55, 55, 53, 56, 48, 56]⟩ := by decide +kernel
theorem cells_rat0 (w : World) : RatV w 0 none 0 none 0 := ⟨small_int ⟨by decide, by decide⟩, small_int ⟨by decide, by decide⟩⟩
set_option maxRecDepth 100000 in
set_option maxHeartbeats 8000000 in
theorem rationalInts_walk (n : Int) (s : ByteArray) (w : World) (hn : I64 n) (hs : s.size ≤ 9223372036854775807) (hw : Good w) :
    Calls Tryz.prog 6 #[.int .i64 n, .string s] w fun e w' => e = .returned (.bool true) ∧ Below w.heap.size w w' := by
  have Hw := Lib.hid (fun w' (h : Below w.heap.size w w') => hw.below h)
  have Hk := Lib.hid (known2_true w hw)
  have Hn := Lib.hid hn
  obtain ⟨hn1, hn2⟩ := hn
  clear hw
  go_enter Tryz.func6, Tryz.ntmps6
  go_wp2_with fail
  refine Hk.out.mono ?_
  rintro e w1 ⟨rfl, h1⟩
  have k1 := Lib.hid h1
  have HR := Lib.hid (right_one s w1 hs)
  clear h1
  go_wp2_with fail
  refine HR.out.mono ?_
  rintro e w2 ⟨⟨b0, rfl, hb0⟩, h2⟩
  have k2 := Lib.hid (below_on (below_on k1.out ((Below.refl _ _).alloc (Nat.le_refl _) _)) h2)
  have Hk2 := Lib.hid (known2_true w2 (Hw.out _ k2.out))
  have Hb0 := Lib.hid hb0
  clear h2 hb0
  cases b0 with
  | false =>
    go_wp2_with fail
    refine Hk2.out.mono ?_
    rintro e w3 ⟨rfl, h2⟩
    have k3 := Lib.hid (below_on k2.out h2)
    clear h2
    go_wp2
    go_ret
    exact ⟨rfl, k3.out⟩
  | true =>
    obtain ⟨q, hq⟩ := Hb0.out rfl s (List.mem_singleton.2 rfl)
    have Hq := Lib.hid hq
    clear hq
    have V5 := Lib.hid (VarR.new (cells_rat0 w2))
    have K5 := Lib.hid (below_on k2.out ((Below.refl w2.heap.size w2).alloc (Nat.le_refl _) (.cells #[.int .i64 0, .pointer none, .int .i64 0, .pointer none] 27)))
    have HF := Lib.hid (fun w' => rfrom_any n w' Hn.out)
    have HRd := Lib.hid (fun w' hg => rread_any Hq.out w' hg)
    go_wp2_with fail
    refine (HF.out _).mono ?_
    rintro e w3 ⟨a, P, b, Q, rfl, hv, h3⟩
    have V5 := Lib.hid (V5.out.keep h3)
    have K3 := Lib.hid (below_on K5.out h3)
    have Hv := Lib.hid hv
    clear hv h3
    go_wp2_with fail
    refine (HRd.out _ (Hw.out _ K3.out)).mono ?_
    rintro e w4 ⟨c, U, d, V, rfl, hv, h4⟩
    have kv := (Below.refl w4.heap.size w4).alloc (Nat.le_refl _) (.cells #[.int .i64 a, .pointer P, .int .i64 b, .pointer Q] 27)
    have kv2 := (Below.refl w4.heap.size w4).alloc (Nat.le_refl _) (.cells #[.int .i64 a, .pointer P, .int .i64 b, .pointer Q] 27) |>.alloc (by simp) (.cells #[.int .i64 c, .pointer U, .int .i64 d, .pointer V] 27)
    have V5 := Lib.hid ((V5.out.keep h4).keep kv2)
    have V6 := Lib.hid ((VarR.new (Hv.out.keep h4)).keep ((Below.refl _ _).alloc (Nat.le_refl _) (.cells #[.int .i64 c, .pointer U, .int .i64 d, .pointer V] 27)))
    have V7 := Lib.hid (VarR.new (hv.keep kv))
    have K4 := Lib.hid (below_on (below_on K3.out h4) kv2)
    simp only [World.size_alloc] at V7
    obtain ⟨wm, hwm⟩ : ∃ u, (w4.alloc (.cells #[.int .i64 a, .pointer P, .int .i64 b, .pointer Q] 27)).alloc (.cells #[.int .i64 c, .pointer U, .int .i64 d, .pointer V] 27) = u := ⟨_, rfl⟩
    rw [hwm] at V5 V6 V7 K4
    obtain ⟨p5, hp5⟩ : ∃ p, w2.heap.size = p := ⟨_, rfl⟩
    obtain ⟨p6, hp6⟩ : ∃ p, w4.heap.size = p := ⟨_, rfl⟩
    rw [hp5] at V5
    rw [hp6] at V6 V7
    clear hv h4 kv kv2
    have HI := Lib.hid (rint_any a P b Q ((n : Int) : Rat) wm V6.out.rat)
    have c0 := V6.out.cells.c0
    have c1 := V6.out.cells.c1
    have c2 := V6.out.cells.c2
    have c3 := V6.out.cells.c3
    go_wp2_with fail
    try simp only [hwm, hp5, hp6]
    refine HI.out.mono ?_
    rintro e w5 ⟨⟨m, bm, rfl, hm⟩, h5⟩
    obtain ⟨rfl, rfl⟩ : n = m ∧ bm = true := by
      have := hm.1 ⟨(rat_int n).2, by rw [(rat_int n).1]; exact Hn.out⟩
      rw [(rat_int n).1] at this
      exact ⟨this.1.symm, this.2⟩
    have V5 := Lib.hid (V5.out.keep h5)
    have V6 := Lib.hid (V6.out.keep h5)
    have V7 := Lib.hid (V7.out.keep h5)
    have K5 := Lib.hid (below_on K4.out h5)
    clear hm h5 c0 c1 c2 c3
    have HI := Lib.hid (rint_any c U d V q _ V7.out.rat)
    have c0 := V7.out.cells.c0
    have c1 := V7.out.cells.c1
    have c2 := V7.out.cells.c2
    have c3 := V7.out.cells.c3
    go_wp2_with fail
    refine HI.out.mono ?_
    rintro e w6 ⟨⟨k, bk, rfl, hm⟩, h5⟩
    have V5 := Lib.hid (V5.out.keep h5)
    have V6 := Lib.hid (V6.out.keep h5)
    have V7 := Lib.hid (V7.out.keep h5)
    have K6 := Lib.hid (below_on K5.out h5)
    have Hm := Lib.hid hm
    clear hm h5 c0 c1 c2 c3 hwm hp5 hp6
    generalize w6 = wm at *
    have HS := Lib.hid (fun w' (hb : Below wm.heap.size wm w') => (⟨(V5.out.keep hb).cells.c0, (V5.out.keep hb).cells.c1, (V5.out.keep hb).cells.c2, (V5.out.keep hb).cells.c3, (V6.out.keep hb).cells.c0, (V6.out.keep hb).cells.c1, (V6.out.keep hb).cells.c2, (V6.out.keep hb).cells.c3, (V7.out.keep hb).cells.c0, (V7.out.keep hb).cells.c1, (V7.out.keep hb).cells.c2, (V7.out.keep hb).cells.c3, hb⟩ : w'.cell? ⟨p5, 0, none⟩ = some (.int .i64 0) ∧ w'.cell? ⟨p5, 1, none⟩ = some (.pointer none) ∧ w'.cell? ⟨p5, 2, none⟩ = some (.int .i64 0) ∧ w'.cell? ⟨p5, 3, none⟩ = some (.pointer none) ∧ w'.cell? ⟨p6, 0, none⟩ = some (.int .i64 a) ∧ w'.cell? ⟨p6, 1, none⟩ = some (.pointer P) ∧ w'.cell? ⟨p6, 2, none⟩ = some (.int .i64 b) ∧ w'.cell? ⟨p6, 3, none⟩ = some (.pointer Q) ∧ w'.cell? ⟨p6 + 1, 0, none⟩ = some (.int .i64 c) ∧ w'.cell? ⟨p6 + 1, 1, none⟩ = some (.pointer U) ∧ w'.cell? ⟨p6 + 1, 2, none⟩ = some (.int .i64 d) ∧ w'.cell? ⟨p6 + 1, 3, none⟩ = some (.pointer V) ∧ Below wm.heap.size wm w'))
    have HC := Lib.hid (fun w' wx (h : (fun w' => w'.cell? ⟨p5, 0, none⟩ = some (.int .i64 0) ∧ w'.cell? ⟨p5, 1, none⟩ = some (.pointer none) ∧ w'.cell? ⟨p5, 2, none⟩ = some (.int .i64 0) ∧ w'.cell? ⟨p5, 3, none⟩ = some (.pointer none) ∧ w'.cell? ⟨p6, 0, none⟩ = some (.int .i64 a) ∧ w'.cell? ⟨p6, 1, none⟩ = some (.pointer P) ∧ w'.cell? ⟨p6, 2, none⟩ = some (.int .i64 b) ∧ w'.cell? ⟨p6, 3, none⟩ = some (.pointer Q) ∧ w'.cell? ⟨p6 + 1, 0, none⟩ = some (.int .i64 c) ∧ w'.cell? ⟨p6 + 1, 1, none⟩ = some (.pointer U) ∧ w'.cell? ⟨p6 + 1, 2, none⟩ = some (.int .i64 d) ∧ w'.cell? ⟨p6 + 1, 3, none⟩ = some (.pointer V) ∧ Below wm.heap.size wm w') w') (hb : Below w'.heap.size w' wx) => HS.out _ (below_on h.2.2.2.2.2.2.2.2.2.2.2.2 hb))
    have HFr := Lib.hid (fun w' => refFromR_any n w' Hn.out)
    obtain ⟨T, hT⟩ : ∃ T, txt n = T := ⟨_, rfl⟩
    have hT1 : ratTxt ((n : Int) : Rat) = T := by unfold ratTxt; rw [if_pos (rat_int n).2, (rat_int n).1]; exact hT
    rw [hT] at HFr
    have HI1 := Lib.hid (fun w' (h : (fun w' => w'.cell? ⟨p5, 0, none⟩ = some (.int .i64 0) ∧ w'.cell? ⟨p5, 1, none⟩ = some (.pointer none) ∧ w'.cell? ⟨p5, 2, none⟩ = some (.int .i64 0) ∧ w'.cell? ⟨p5, 3, none⟩ = some (.pointer none) ∧ w'.cell? ⟨p6, 0, none⟩ = some (.int .i64 a) ∧ w'.cell? ⟨p6, 1, none⟩ = some (.pointer P) ∧ w'.cell? ⟨p6, 2, none⟩ = some (.int .i64 b) ∧ w'.cell? ⟨p6, 3, none⟩ = some (.pointer Q) ∧ w'.cell? ⟨p6 + 1, 0, none⟩ = some (.int .i64 c) ∧ w'.cell? ⟨p6 + 1, 1, none⟩ = some (.pointer U) ∧ w'.cell? ⟨p6 + 1, 2, none⟩ = some (.int .i64 d) ∧ w'.cell? ⟨p6 + 1, 3, none⟩ = some (.pointer V) ∧ Below wm.heap.size wm w') w') => is_true a P b Q ((n : Int) : Rat) T w' (V6.out.keep h.2.2.2.2.2.2.2.2.2.2.2.2).rat (by rw [(rat_int n).1]; exact Nat.lt_of_le_of_lt (show n.natAbs ≤ 9223372036854775808 by have := Hn.out; unfold I64 at this; omega) (by decide +kernel)) (by rw [(rat_int n).2]; decide +kernel) hT1 (Hw.out _ (below_on K6.out h.2.2.2.2.2.2.2.2.2.2.2.2)))
    have HI2 := Lib.hid (fun w' (h : (fun w' => w'.cell? ⟨p5, 0, none⟩ = some (.int .i64 0) ∧ w'.cell? ⟨p5, 1, none⟩ = some (.pointer none) ∧ w'.cell? ⟨p5, 2, none⟩ = some (.int .i64 0) ∧ w'.cell? ⟨p5, 3, none⟩ = some (.pointer none) ∧ w'.cell? ⟨p6, 0, none⟩ = some (.int .i64 a) ∧ w'.cell? ⟨p6, 1, none⟩ = some (.pointer P) ∧ w'.cell? ⟨p6, 2, none⟩ = some (.int .i64 b) ∧ w'.cell? ⟨p6, 3, none⟩ = some (.pointer Q) ∧ w'.cell? ⟨p6 + 1, 0, none⟩ = some (.int .i64 c) ∧ w'.cell? ⟨p6 + 1, 1, none⟩ = some (.pointer U) ∧ w'.cell? ⟨p6 + 1, 2, none⟩ = some (.int .i64 d) ∧ w'.cell? ⟨p6 + 1, 3, none⟩ = some (.pointer V) ∧ Below wm.heap.size wm w') w') => is_true 0 none 0 none 0 ⟨#[48]⟩ w' (V5.out.keep h.2.2.2.2.2.2.2.2.2.2.2.2).rat (by decide +kernel) (by decide +kernel) (by decide +kernel) (Hw.out _ (below_on K6.out h.2.2.2.2.2.2.2.2.2.2.2.2)))
    have HZs := Lib.hid (fun w' (h : (fun w' => w'.cell? ⟨p5, 0, none⟩ = some (.int .i64 0) ∧ w'.cell? ⟨p5, 1, none⟩ = some (.pointer none) ∧ w'.cell? ⟨p5, 2, none⟩ = some (.int .i64 0) ∧ w'.cell? ⟨p5, 3, none⟩ = some (.pointer none) ∧ w'.cell? ⟨p6, 0, none⟩ = some (.int .i64 a) ∧ w'.cell? ⟨p6, 1, none⟩ = some (.pointer P) ∧ w'.cell? ⟨p6, 2, none⟩ = some (.int .i64 b) ∧ w'.cell? ⟨p6, 3, none⟩ = some (.pointer Q) ∧ w'.cell? ⟨p6 + 1, 0, none⟩ = some (.int .i64 c) ∧ w'.cell? ⟨p6 + 1, 1, none⟩ = some (.pointer U) ∧ w'.cell? ⟨p6 + 1, 2, none⟩ = some (.int .i64 d) ∧ w'.cell? ⟨p6 + 1, 3, none⟩ = some (.pointer V) ∧ Below wm.heap.size wm w') w') => rsign_any 0 none 0 none 0 w' (V5.out.keep h.2.2.2.2.2.2.2.2.2.2.2.2).rat)
    simp only [show sgn (0 : Rat).num = 0 from rfl] at HZs
    have HDn := Lib.hid (fun w' (h : (fun w' => w'.cell? ⟨p5, 0, none⟩ = some (.int .i64 0) ∧ w'.cell? ⟨p5, 1, none⟩ = some (.pointer none) ∧ w'.cell? ⟨p5, 2, none⟩ = some (.int .i64 0) ∧ w'.cell? ⟨p5, 3, none⟩ = some (.pointer none) ∧ w'.cell? ⟨p6, 0, none⟩ = some (.int .i64 a) ∧ w'.cell? ⟨p6, 1, none⟩ = some (.pointer P) ∧ w'.cell? ⟨p6, 2, none⟩ = some (.int .i64 b) ∧ w'.cell? ⟨p6, 3, none⟩ = some (.pointer Q) ∧ w'.cell? ⟨p6 + 1, 0, none⟩ = some (.int .i64 c) ∧ w'.cell? ⟨p6 + 1, 1, none⟩ = some (.pointer U) ∧ w'.cell? ⟨p6 + 1, 2, none⟩ = some (.int .i64 d) ∧ w'.cell? ⟨p6 + 1, 3, none⟩ = some (.pointer V) ∧ Below wm.heap.size wm w') w') => den_any 0 none 0 none 0 w' (V5.out.keep h.2.2.2.2.2.2.2.2.2.2.2.2).rat)
    have HTx := Lib.hid (fun w' x X (h : (fun w' => w'.cell? ⟨p5, 0, none⟩ = some (.int .i64 0) ∧ w'.cell? ⟨p5, 1, none⟩ = some (.pointer none) ∧ w'.cell? ⟨p5, 2, none⟩ = some (.int .i64 0) ∧ w'.cell? ⟨p5, 3, none⟩ = some (.pointer none) ∧ w'.cell? ⟨p6, 0, none⟩ = some (.int .i64 a) ∧ w'.cell? ⟨p6, 1, none⟩ = some (.pointer P) ∧ w'.cell? ⟨p6, 2, none⟩ = some (.int .i64 b) ∧ w'.cell? ⟨p6, 3, none⟩ = some (.pointer Q) ∧ w'.cell? ⟨p6 + 1, 0, none⟩ = some (.int .i64 c) ∧ w'.cell? ⟨p6 + 1, 1, none⟩ = some (.pointer U) ∧ w'.cell? ⟨p6 + 1, 2, none⟩ = some (.int .i64 d) ∧ w'.cell? ⟨p6 + 1, 3, none⟩ = some (.pointer V) ∧ Below wm.heap.size wm w') w') (hi : IsInt 0 w' (.agg #[.int .i64 x, .pointer X]) (((0 : Rat).den : Nat) : Int)) => show Calls Tryz.prog 32 _ w' (fun e w2 => e = .returned (.string (txt (((0 : Rat).den : Nat) : Int))) ∧ Below w'.heap.size w' w2) from textZ_any _ _ w' hi (Hw.out _ (below_on K6.out h.2.2.2.2.2.2.2.2.2.2.2.2)).1)
    simp only [show txt (((0 : Rat).den : Nat) : Int) = ⟨#[49]⟩ from txt_1] at HTx
    have HSg := Lib.hid (fun w' (h : (fun w' => w'.cell? ⟨p5, 0, none⟩ = some (.int .i64 0) ∧ w'.cell? ⟨p5, 1, none⟩ = some (.pointer none) ∧ w'.cell? ⟨p5, 2, none⟩ = some (.int .i64 0) ∧ w'.cell? ⟨p5, 3, none⟩ = some (.pointer none) ∧ w'.cell? ⟨p6, 0, none⟩ = some (.int .i64 a) ∧ w'.cell? ⟨p6, 1, none⟩ = some (.pointer P) ∧ w'.cell? ⟨p6, 2, none⟩ = some (.int .i64 b) ∧ w'.cell? ⟨p6, 3, none⟩ = some (.pointer Q) ∧ w'.cell? ⟨p6 + 1, 0, none⟩ = some (.int .i64 c) ∧ w'.cell? ⟨p6 + 1, 1, none⟩ = some (.pointer U) ∧ w'.cell? ⟨p6 + 1, 2, none⟩ = some (.int .i64 d) ∧ w'.cell? ⟨p6 + 1, 3, none⟩ = some (.pointer V) ∧ Below wm.heap.size wm w') w') => rsign_any c U d V q w' (V7.out.keep h.2.2.2.2.2.2.2.2.2.2.2.2).rat)
    have HRs := Lib.hid (fun w' => refSignR_any Hq.out w')
    obtain ⟨sg, hsg⟩ : ∃ x, sgn q.num = x := ⟨_, rfl⟩
    simp only [hsg] at HSg HRs
    clear hsg hT hT1
    go_wp2_with fail
    go_region_held3 (fun w' => w'.cell? ⟨p5, 0, none⟩ = some (.int .i64 0) ∧ w'.cell? ⟨p5, 1, none⟩ = some (.pointer none) ∧ w'.cell? ⟨p5, 2, none⟩ = some (.int .i64 0) ∧ w'.cell? ⟨p5, 3, none⟩ = some (.pointer none) ∧ w'.cell? ⟨p6, 0, none⟩ = some (.int .i64 a) ∧ w'.cell? ⟨p6, 1, none⟩ = some (.pointer P) ∧ w'.cell? ⟨p6, 2, none⟩ = some (.int .i64 b) ∧ w'.cell? ⟨p6, 3, none⟩ = some (.pointer Q) ∧ w'.cell? ⟨p6 + 1, 0, none⟩ = some (.int .i64 c) ∧ w'.cell? ⟨p6 + 1, 1, none⟩ = some (.pointer U) ∧ w'.cell? ⟨p6 + 1, 2, none⟩ = some (.int .i64 d) ∧ w'.cell? ⟨p6 + 1, 3, none⟩ = some (.pointer V) ∧ Below wm.heap.size wm w')
      (first
        | assumption
        | exact HS.out _ (Below.refl _ _).drew
        | exact HC.out _ _ (by assumption) (by assumption))
      (first
        | (go_at_call 29; refine (HFr.out _).mono ?_; rintro e w' ⟨rfl, hb⟩)
        | (go_at_call_of 17 P; refine (HI1.out _ (by assumption)).mono ?_; rintro e w' ⟨rfl, hb⟩)
        | (go_at_call 17; refine (HI2.out _ (by assumption)).mono ?_; rintro e w' ⟨rfl, hb⟩)
        | (go_at_call_of 30 U; refine (HSg.out _ (by assumption)).mono ?_; rintro e w' ⟨rfl, hb⟩)
        | (go_at_call 30; refine (HZs.out _ (by assumption)).mono ?_; rintro e w' ⟨rfl, hb⟩)
        | (go_at_call 31; refine (HDn.out _ (by assumption)).mono ?_; rintro e w' ⟨xa, xX, rfl, hx, hb⟩)
        | (go_at_call 32; refine (HTx.out _ _ _ (by assumption) hx).mono ?_; rintro e w' ⟨rfl, hb⟩)
        | (go_at_call 33; refine (HRs.out _).mono ?_; rintro e w' ⟨rfl, hb⟩))
    go_split_ands
    have hw3 : Below wm.heap.size wm w' := by assumption
    have J7 := Lib.hid (below_on K6.out hw3)
    generalize w' = w7 at J7 ⊢
    clear hw3
    obtain ⟨n5, d5⟩ := Hq.out.n5
    have HPa := Lib.hid (fun w => refParts_any q w (by omega) (by omega))
    rw [Hq.out.txt_] at HPa
    have HMn := Lib.hid (fun w => show Calls Tryz.prog 36 #[.int .i64 (-9223372036854775808)] w (fun e w' => e = .returned (.string (txt (-9223372036854775808))) ∧ Below w.heap.size w w') from refFrom_any (-9223372036854775808) w ⟨by decide, by decide⟩)
    have HMx := Lib.hid (fun w => show Calls Tryz.prog 36 #[.int .i64 9223372036854775807] w (fun e w' => e = .returned (.string (txt 9223372036854775807)) ∧ Below w.heap.size w w') from refFrom_any 9223372036854775807 w ⟨by decide, by decide⟩)
    have HCn := Lib.hid (fun w => refCompare_any q.num (-9223372036854775808) w (by omega) (by have := txt_size (-9223372036854775808) (k := 40) (by decide +kernel) (by decide); omega))
    have HCx := Lib.hid (fun w => refCompare_any q.num 9223372036854775807 w (by omega) (by have := txt_size 9223372036854775807 (k := 40) (by decide +kernel) (by decide); omega))
    have hone : q.den ≠ 1 → ((txt (q.den : Int)).toList == [49]) = false := fun h => txt_not1 (by omega) (by omega)
    have hFk : I64 q.num → ∀ w : World, Calls Tryz.prog 36 #[.int .i64 q.num] w (fun e w' => e = .returned (.string (txt q.num)) ∧ Below w.heap.size w w') := fun h w => refFrom_any q.num w h
    have HFk := Lib.hid hFk
    obtain ⟨N, hN⟩ : ∃ T, txt q.num = T := ⟨_, rfl⟩
    obtain ⟨D, hD⟩ : ∃ U, txt (q.den : Int) = U := ⟨_, rfl⟩
    obtain ⟨Mn, hMn⟩ : ∃ T, txt (-9223372036854775808) = T := ⟨_, rfl⟩
    obtain ⟨Mx, hMx⟩ : ∃ T, txt 9223372036854775807 = T := ⟨_, rfl⟩
    rw [hN, hD] at HPa
    rw [hMn] at HMn
    rw [hMx] at HMx
    rw [hN, hMn] at HCn
    rw [hN, hMx] at HCx
    rw [hD] at hone
    rw [hN] at HFk
    have Hone := Lib.hid hone
    have HD := Lib.hid hD
    clear hN hD hMn hMx hone hFk n5 d5
    go_wp2_with fail
    refine (HPa.out _).mono ?_
    rintro e w8 ⟨rfl, h8⟩
    have J8 := Lib.hid (below_on J7.out h8)
    clear h8
    by_cases hd : q.den = 1
    · have hD1 : D = ⟨#[49]⟩ := by rw [← HD.out, hd]; exact txt_1
      have Hd := Lib.hid hd
      subst hD1
      clear hd
      obtain ⟨cv, hcv⟩ : ∃ x, cmpZ q.num (-9223372036854775808) = x := ⟨_, rfl⟩
      rw [hcv] at HCn
      by_cases hlt : q.num < -9223372036854775808
      · obtain rfl : cv = -1 := by rw [← hcv]; unfold cmpZ; rw [if_pos hlt]
        obtain ⟨rfl, rfl⟩ := Hm.out.2 (fun h => by have := h.2.1; omega)
        clear hcv hlt
        go_wp2_with fail
        refine (HMn.out _).mono ?_
        rintro e w9 ⟨rfl, h9⟩
        have J9 := Lib.hid (below_on J8.out h9)
        clear h9
        go_wp2_with fail
        refine (HCn.out _).mono ?_
        rintro e w10 ⟨rfl, h10⟩
        have J10 := Lib.hid (below_on J9.out h10)
        clear h10
        go_wp2
        go_ret
        exact ⟨rfl, J10.out⟩
      · have hcv0 : 0 ≤ cv := by rw [← hcv]; unfold cmpZ; rw [if_neg hlt]; split <;> decide
        have Hlt := Lib.hid hlt
        clear hcv hlt
        obtain ⟨cx, hcx⟩ : ∃ x, cmpZ q.num 9223372036854775807 = x := ⟨_, rfl⟩
        rw [hcx] at HCx
        go_wp2_with fail
        refine (HMn.out _).mono ?_
        rintro e w9 ⟨rfl, h9⟩
        have J9 := Lib.hid (below_on J8.out h9)
        clear h9
        go_wp2_with fail
        refine (HCn.out _).mono ?_
        rintro e w10 ⟨rfl, h10⟩
        have J10 := Lib.hid (below_on J9.out h10)
        clear h10
        by_cases hgt : 9223372036854775807 < q.num
        · obtain rfl : cx = 1 := by rw [← hcx]; unfold cmpZ; rw [if_neg (by omega), if_pos hgt]
          obtain ⟨rfl, rfl⟩ := Hm.out.2 (fun h => by have := h.2.2; omega)
          clear hcx hgt
          go_wp2_with fail
          refine (HMx.out _).mono ?_
          rintro e w11 ⟨rfl, h11⟩
          have J11 := Lib.hid (below_on J10.out h11)
          clear h11
          go_wp2_with fail
          refine (HCx.out _).mono ?_
          rintro e w12 ⟨rfl, h12⟩
          have J12 := Lib.hid (below_on J11.out h12)
          clear h12
          go_wp2
          go_ret
          exact ⟨rfl, J12.out⟩
        · have hcx0 : cx ≤ 0 := by rw [← hcx]; unfold cmpZ; split <;> (try split) <;> omega
          have h64 : I64 q.num := ⟨by have := Hlt.out; omega, by omega⟩
          obtain ⟨rfl, rfl⟩ := Hm.out.1 ⟨Hd.out, h64⟩
          have HFk := Lib.hid (HFk.out h64)
          obtain ⟨hq1, hq2⟩ := h64
          obtain ⟨zz, hzz⟩ : ∃ z, q.num = z := ⟨_, rfl⟩
          rw [hzz] at HFk hq1 hq2 ⊢
          clear hcx hgt hzz
          go_wp2_with fail
          refine (HMx.out _).mono ?_
          rintro e w11 ⟨rfl, h11⟩
          have J11 := Lib.hid (below_on J10.out h11)
          clear h11
          go_wp2_with fail
          refine (HCx.out _).mono ?_
          rintro e w12 ⟨rfl, h12⟩
          have J12 := Lib.hid (below_on J11.out h12)
          clear h12
          go_wp2_with fail
          refine (HFk.out _).mono ?_
          rintro e w13 ⟨rfl, h13⟩
          have J13 := Lib.hid (below_on J12.out h13)
          clear h13
          go_wp2
          go_ret
          exact ⟨by simp, J13.out⟩
    · have tD := Hone.out hd
      obtain ⟨rfl, rfl⟩ := Hm.out.2 (fun h => hd h.1)
      clear hd
      go_wp2
      go_ret
      exact ⟨rfl, J8.out⟩
end Go.Proofs.YtjcblcikipmojaaGreatDoor
