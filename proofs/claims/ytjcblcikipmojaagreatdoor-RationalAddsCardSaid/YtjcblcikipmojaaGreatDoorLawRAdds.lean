/- The law RationalAdds: its walk. -/
import Derived.Test.YtjcblcikipmojaaGreatDoorRatU
namespace Go.Proofs.YtjcblcikipmojaaGreatDoor
open Go.RowKit

set_option maxRecDepth 100000 in
set_option maxHeartbeats 2000000 in
theorem rationalAdds_walk (s t : ByteArray) (w : World) (hs : s.size ≤ 9223372036854775807) (ht : t.size ≤ 9223372036854775807) (hw : Good w) :
    Calls Tryz.prog 7 #[.string s, .string t] w fun e w' => e = .returned (.bool true) ∧ Below w.heap.size w w' := by
  have Hw := Lib.hid (fun w' (h : Below w.heap.size w w') => hw.below h)
  have Hk := Lib.hid (known2_true w hw)
  clear hw
  go_enter Tryz.func7, Tryz.ntmps7
  go_wp2_with fail
  refine Hk.out.mono ?_
  rintro e w1 ⟨rfl, h1⟩
  have k1 := Lib.hid h1
  have HR := Lib.hid (right_two s t w1 hs ht)
  clear h1
  go_wp2_with fail
  refine HR.out.mono ?_
  rintro e w2 ⟨⟨b0, rfl, hb0⟩, h2⟩
  have k2 := Lib.hid (below_on (below_on k1.out ((Below.refl _ _).alloc (Nat.le_refl _) _)) h2)
  have Hk2 := Lib.hid (known2_true w2 (Hw.out _ k2.out))
  have Hb0 := Lib.hid hb0
  clear h2 hb0
  cases b0 with
  | false =>
    go_wp2_with fail
    refine Hk2.out.mono ?_
    rintro e w3 ⟨rfl, h2⟩
    have k3 := Lib.hid (below_on k2.out h2)
    clear h2
    go_wp2
    go_ret
    exact ⟨rfl, k3.out⟩
  | true =>
    obtain ⟨p, hp⟩ := Hb0.out rfl s (List.mem_cons_self ..)
    obtain ⟨q, hq⟩ := Hb0.out rfl t (List.mem_cons_of_mem _ (List.mem_cons_self ..))
    have Hp := Lib.hid hp
    have Hq := Lib.hid hq
    clear hp hq
    have HRp := Lib.hid (fun w' hg => rread_any Hp.out w' hg)
    have HRq := Lib.hid (fun w' hg => rread_any Hq.out w' hg)
    go_wp2_with fail
    refine (HRp.out _ (Hw.out _ k2.out)).mono ?_
    rintro e w3 ⟨a, P, b, Q, rfl, hv, h3⟩
    have K3 := Lib.hid (below_on k2.out h3)
    have Hv := Lib.hid hv
    clear hv h3
    go_wp2_with fail
    refine (HRq.out _ (Hw.out _ K3.out)).mono ?_
    rintro e w4 ⟨c, U, d, V, rfl, hv, h4⟩
    have kv := (Below.refl w4.heap.size w4).alloc (Nat.le_refl _) (.cells #[.int .i64 a, .pointer P, .int .i64 b, .pointer Q] 27)
    have kv2 := (Below.refl w4.heap.size w4).alloc (Nat.le_refl _) (.cells #[.int .i64 a, .pointer P, .int .i64 b, .pointer Q] 27) |>.alloc (by simp) (.cells #[.int .i64 c, .pointer U, .int .i64 d, .pointer V] 27)
    have V6 := Lib.hid ((VarR.new (Hv.out.keep h4)).keep ((Below.refl _ _).alloc (Nat.le_refl _) (.cells #[.int .i64 c, .pointer U, .int .i64 d, .pointer V] 27)))
    have V7 := Lib.hid (VarR.new (hv.keep kv))
    have K4 := Lib.hid (below_on (below_on K3.out h4) kv2)
    simp only [World.size_alloc] at V7
    obtain ⟨wm, hwm⟩ : ∃ u, (w4.alloc (.cells #[.int .i64 a, .pointer P, .int .i64 b, .pointer Q] 27)).alloc (.cells #[.int .i64 c, .pointer U, .int .i64 d, .pointer V] 27) = u := ⟨_, rfl⟩
    rw [hwm] at V6 V7 K4
    obtain ⟨p6, hp6⟩ : ∃ p, w4.heap.size = p := ⟨_, rfl⟩
    rw [hp6] at V6 V7
    clear hv h4 kv kv2
    have fp := Hp.out.few
    have fq := Hq.out.few
    have nP := fp.n47 (by decide)
    have dP := fp.d47 (by decide)
    have nQ := fq.n47 (by decide)
    have dQ := fq.d47 (by decide)
    have HAd := Lib.hid (fun w' (hb : Below wm.heap.size wm w') => radd_any a P b Q c U d V p q w' (V6.out.keep hb).rat (V7.out.keep hb).rat nP dP nQ dQ (Hw.out _ (below_on K4.out hb)))
    have HSb := Lib.hid (fun w' (hb : Below wm.heap.size wm w') => rsub_any a P b Q c U d V p q w' (V6.out.keep hb).rat (V7.out.keep hb).rat nP dP nQ dQ (Hw.out _ (below_on K4.out hb)))
    have HNg := Lib.hid (fun w' (hb : Below wm.heap.size wm w') => rneg_any a P b Q p w' (V6.out.keep hb).rat)
    have HAb := Lib.hid (fun w' (hb : Below wm.heap.size wm w') => rabs_any a P b Q p w' (V6.out.keep hb).rat)
    have R1 := Lib.hid (fun w => refAddR_any fp fq (by decide) (by decide) w)
    have R2 := Lib.hid (fun w => refSubR_any fp fq (by decide) (by decide) w)
    have R3 := Lib.hid (fun w => refNegR_any fp (by decide) w)
    have R4 := Lib.hid (fun w => refAbsR_any fp (by decide) w)
    have I1 := Lib.hid (fun x X y Y w' (hv : RatV w' x X y Y (p + q)) (hg : Good w') => is_few x X y Y (by decide) (fp.add fq) w' hv hg)
    have I2 := Lib.hid (fun x X y Y w' (hv : RatV w' x X y Y (p - q)) (hg : Good w') => is_few x X y Y (by decide) (fp.sub fq) w' hv hg)
    have I3 := Lib.hid (fun x X y Y w' (hv : RatV w' x X y Y (-p)) (hg : Good w') => is_few x X y Y (by decide) fp.neg w' hv hg)
    have I4 := Lib.hid (fun x X y Y w' (hv : RatV w' x X y Y (rabs p)) (hg : Good w') => is_few x X y Y (by decide) fp.abs w' hv hg)
    have I5 := Lib.hid (fun x X y Y w' (hv : RatV w' x X y Y (p)) (hg : Good w') => is_few x X y Y (by decide) fp w' hv hg)
    have I6 := Lib.hid (fun x X y Y w' (hv : RatV w' x X y Y (q)) (hg : Good w') => is_few x X y Y (by decide) fq w' hv hg)
    clear fp fq nP dP nQ dQ
    generalize ratTxt (p + q) = X1 at R1 I1
    generalize ratTxt (p - q) = X2 at R2 I2
    generalize ratTxt (-p) = X3 at R3 I3
    generalize ratTxt (rabs p) = X4 at R4 I4
    rw [Hp.out.txt_] at R1 R2 R3 R4 I5
    rw [Hq.out.txt_] at R1 R2 I6
    have J := Lib.hid (Below.refl wm.heap.size wm)
    have V6c0 := V6.out.cells.c0
    have V6c1 := V6.out.cells.c1
    have V6c2 := V6.out.cells.c2
    have V6c3 := V6.out.cells.c3
    have V7c0 := V7.out.cells.c0
    have V7c1 := V7.out.cells.c1
    have V7c2 := V7.out.cells.c2
    have V7c3 := V7.out.cells.c3
    go_wp2_with fail
    try simp only [hwm, hp6]
    clear hwm hp6
    refine (HAd.out _ J.out).mono ?_
    rintro e u1 ⟨x1, y1, x2, y2, rfl, hm, g⟩
    replace V6 := Lib.hid (V6.out.keep g)
    replace V7 := Lib.hid (V7.out.keep g)
    have Hm := Lib.hid hm
    replace J := Lib.hid (below_on J.out g)
    clear g hm 
    clear V6c0 V6c1 V6c2 V6c3 V7c0 V7c1 V7c2 V7c3
    have V6c0 := V6.out.cells.c0
    have V6c1 := V6.out.cells.c1
    have V6c2 := V6.out.cells.c2
    have V6c3 := V6.out.cells.c3
    have V7c0 := V7.out.cells.c0
    have V7c1 := V7.out.cells.c1
    have V7c2 := V7.out.cells.c2
    have V7c3 := V7.out.cells.c3
    go_wp2_with fail
    refine (R1.out _).mono ?_
    rintro e u2 ⟨rfl, g⟩
    replace V6 := Lib.hid (V6.out.keep g)
    replace V7 := Lib.hid (V7.out.keep g)
    replace Hm := Lib.hid (Hm.out.keep g)
    replace J := Lib.hid (below_on J.out g)
    clear g  
    clear V6c0 V6c1 V6c2 V6c3 V7c0 V7c1 V7c2 V7c3
    have V6c0 := V6.out.cells.c0
    have V6c1 := V6.out.cells.c1
    have V6c2 := V6.out.cells.c2
    have V6c3 := V6.out.cells.c3
    have V7c0 := V7.out.cells.c0
    have V7c1 := V7.out.cells.c1
    have V7c2 := V7.out.cells.c2
    have V7c3 := V7.out.cells.c3
    go_wp2_with fail
    refine (I1.out _ _ _ _ _ Hm.out (Hw.out _ (below_on K4.out J.out))).mono ?_
    rintro e u3 ⟨rfl, g⟩
    replace V6 := Lib.hid (V6.out.keep g)
    replace V7 := Lib.hid (V7.out.keep g)
    replace J := Lib.hid (below_on J.out g)
    clear g  Hm
    clear V6c0 V6c1 V6c2 V6c3 V7c0 V7c1 V7c2 V7c3
    have V6c0 := V6.out.cells.c0
    have V6c1 := V6.out.cells.c1
    have V6c2 := V6.out.cells.c2
    have V6c3 := V6.out.cells.c3
    have V7c0 := V7.out.cells.c0
    have V7c1 := V7.out.cells.c1
    have V7c2 := V7.out.cells.c2
    have V7c3 := V7.out.cells.c3
    go_wp2_with fail
    refine (HSb.out _ J.out).mono ?_
    rintro e u4 ⟨x1, y1, x2, y2, rfl, hm, g⟩
    replace V6 := Lib.hid (V6.out.keep g)
    replace V7 := Lib.hid (V7.out.keep g)
    have Hm := Lib.hid hm
    replace J := Lib.hid (below_on J.out g)
    clear g hm 
    clear V6c0 V6c1 V6c2 V6c3 V7c0 V7c1 V7c2 V7c3
    have V6c0 := V6.out.cells.c0
    have V6c1 := V6.out.cells.c1
    have V6c2 := V6.out.cells.c2
    have V6c3 := V6.out.cells.c3
    have V7c0 := V7.out.cells.c0
    have V7c1 := V7.out.cells.c1
    have V7c2 := V7.out.cells.c2
    have V7c3 := V7.out.cells.c3
    go_wp2_with fail
    refine (R2.out _).mono ?_
    rintro e u5 ⟨rfl, g⟩
    replace V6 := Lib.hid (V6.out.keep g)
    replace V7 := Lib.hid (V7.out.keep g)
    replace Hm := Lib.hid (Hm.out.keep g)
    replace J := Lib.hid (below_on J.out g)
    clear g  
    clear V6c0 V6c1 V6c2 V6c3 V7c0 V7c1 V7c2 V7c3
    have V6c0 := V6.out.cells.c0
    have V6c1 := V6.out.cells.c1
    have V6c2 := V6.out.cells.c2
    have V6c3 := V6.out.cells.c3
    have V7c0 := V7.out.cells.c0
    have V7c1 := V7.out.cells.c1
    have V7c2 := V7.out.cells.c2
    have V7c3 := V7.out.cells.c3
    go_wp2_with fail
    refine (I2.out _ _ _ _ _ Hm.out (Hw.out _ (below_on K4.out J.out))).mono ?_
    rintro e u6 ⟨rfl, g⟩
    replace V6 := Lib.hid (V6.out.keep g)
    replace V7 := Lib.hid (V7.out.keep g)
    replace J := Lib.hid (below_on J.out g)
    clear g  Hm
    clear V6c0 V6c1 V6c2 V6c3 V7c0 V7c1 V7c2 V7c3
    have V6c0 := V6.out.cells.c0
    have V6c1 := V6.out.cells.c1
    have V6c2 := V6.out.cells.c2
    have V6c3 := V6.out.cells.c3
    have V7c0 := V7.out.cells.c0
    have V7c1 := V7.out.cells.c1
    have V7c2 := V7.out.cells.c2
    have V7c3 := V7.out.cells.c3
    go_wp2_with fail
    refine (HNg.out _ J.out).mono ?_
    rintro e u7 ⟨x1, y1, x2, y2, rfl, hm, g⟩
    replace V6 := Lib.hid (V6.out.keep g)
    replace V7 := Lib.hid (V7.out.keep g)
    have Hm := Lib.hid hm
    replace J := Lib.hid (below_on J.out g)
    clear g hm 
    clear V6c0 V6c1 V6c2 V6c3 V7c0 V7c1 V7c2 V7c3
    have V6c0 := V6.out.cells.c0
    have V6c1 := V6.out.cells.c1
    have V6c2 := V6.out.cells.c2
    have V6c3 := V6.out.cells.c3
    have V7c0 := V7.out.cells.c0
    have V7c1 := V7.out.cells.c1
    have V7c2 := V7.out.cells.c2
    have V7c3 := V7.out.cells.c3
    go_wp2_with fail
    refine (R3.out _).mono ?_
    rintro e u8 ⟨rfl, g⟩
    replace V6 := Lib.hid (V6.out.keep g)
    replace V7 := Lib.hid (V7.out.keep g)
    replace Hm := Lib.hid (Hm.out.keep g)
    replace J := Lib.hid (below_on J.out g)
    clear g  
    clear V6c0 V6c1 V6c2 V6c3 V7c0 V7c1 V7c2 V7c3
    have V6c0 := V6.out.cells.c0
    have V6c1 := V6.out.cells.c1
    have V6c2 := V6.out.cells.c2
    have V6c3 := V6.out.cells.c3
    have V7c0 := V7.out.cells.c0
    have V7c1 := V7.out.cells.c1
    have V7c2 := V7.out.cells.c2
    have V7c3 := V7.out.cells.c3
    go_wp2_with fail
    refine (I3.out _ _ _ _ _ Hm.out (Hw.out _ (below_on K4.out J.out))).mono ?_
    rintro e u9 ⟨rfl, g⟩
    replace V6 := Lib.hid (V6.out.keep g)
    replace V7 := Lib.hid (V7.out.keep g)
    replace J := Lib.hid (below_on J.out g)
    clear g  Hm
    clear V6c0 V6c1 V6c2 V6c3 V7c0 V7c1 V7c2 V7c3
    have V6c0 := V6.out.cells.c0
    have V6c1 := V6.out.cells.c1
    have V6c2 := V6.out.cells.c2
    have V6c3 := V6.out.cells.c3
    have V7c0 := V7.out.cells.c0
    have V7c1 := V7.out.cells.c1
    have V7c2 := V7.out.cells.c2
    have V7c3 := V7.out.cells.c3
    go_wp2_with fail
    refine (HAb.out _ J.out).mono ?_
    rintro e u10 ⟨x1, y1, x2, y2, rfl, hm, g⟩
    replace V6 := Lib.hid (V6.out.keep g)
    replace V7 := Lib.hid (V7.out.keep g)
    have Hm := Lib.hid hm
    replace J := Lib.hid (below_on J.out g)
    clear g hm 
    clear V6c0 V6c1 V6c2 V6c3 V7c0 V7c1 V7c2 V7c3
    have V6c0 := V6.out.cells.c0
    have V6c1 := V6.out.cells.c1
    have V6c2 := V6.out.cells.c2
    have V6c3 := V6.out.cells.c3
    have V7c0 := V7.out.cells.c0
    have V7c1 := V7.out.cells.c1
    have V7c2 := V7.out.cells.c2
    have V7c3 := V7.out.cells.c3
    go_wp2_with fail
    refine (R4.out _).mono ?_
    rintro e u11 ⟨rfl, g⟩
    replace V6 := Lib.hid (V6.out.keep g)
    replace V7 := Lib.hid (V7.out.keep g)
    replace Hm := Lib.hid (Hm.out.keep g)
    replace J := Lib.hid (below_on J.out g)
    clear g  
    clear V6c0 V6c1 V6c2 V6c3 V7c0 V7c1 V7c2 V7c3
    have V6c0 := V6.out.cells.c0
    have V6c1 := V6.out.cells.c1
    have V6c2 := V6.out.cells.c2
    have V6c3 := V6.out.cells.c3
    have V7c0 := V7.out.cells.c0
    have V7c1 := V7.out.cells.c1
    have V7c2 := V7.out.cells.c2
    have V7c3 := V7.out.cells.c3
    go_wp2_with fail
    refine (I4.out _ _ _ _ _ Hm.out (Hw.out _ (below_on K4.out J.out))).mono ?_
    rintro e u12 ⟨rfl, g⟩
    replace V6 := Lib.hid (V6.out.keep g)
    replace V7 := Lib.hid (V7.out.keep g)
    replace J := Lib.hid (below_on J.out g)
    clear g  Hm
    clear V6c0 V6c1 V6c2 V6c3 V7c0 V7c1 V7c2 V7c3
    have V6c0 := V6.out.cells.c0
    have V6c1 := V6.out.cells.c1
    have V6c2 := V6.out.cells.c2
    have V6c3 := V6.out.cells.c3
    have V7c0 := V7.out.cells.c0
    have V7c1 := V7.out.cells.c1
    have V7c2 := V7.out.cells.c2
    have V7c3 := V7.out.cells.c3
    go_wp2_with fail
    refine (I5.out _ _ _ _ _ V6.out.rat (Hw.out _ (below_on K4.out J.out))).mono ?_
    rintro e u13 ⟨rfl, g⟩
    replace V6 := Lib.hid (V6.out.keep g)
    replace V7 := Lib.hid (V7.out.keep g)
    replace J := Lib.hid (below_on J.out g)
    clear g  
    clear V6c0 V6c1 V6c2 V6c3 V7c0 V7c1 V7c2 V7c3
    have V6c0 := V6.out.cells.c0
    have V6c1 := V6.out.cells.c1
    have V6c2 := V6.out.cells.c2
    have V6c3 := V6.out.cells.c3
    have V7c0 := V7.out.cells.c0
    have V7c1 := V7.out.cells.c1
    have V7c2 := V7.out.cells.c2
    have V7c3 := V7.out.cells.c3
    go_wp2_with fail
    refine (I6.out _ _ _ _ _ V7.out.rat (Hw.out _ (below_on K4.out J.out))).mono ?_
    rintro e u14 ⟨rfl, g⟩
    replace V6 := Lib.hid (V6.out.keep g)
    replace V7 := Lib.hid (V7.out.keep g)
    replace J := Lib.hid (below_on J.out g)
    clear g  
    clear V6c0 V6c1 V6c2 V6c3 V7c0 V7c1 V7c2 V7c3
    go_wp2
    exact bodyPost_ret (v := .bool true) (by simp [results, Tryz.results7, go_sem]) rfl ⟨rfl, below_on K4.out J.out⟩
end Go.Proofs.YtjcblcikipmojaaGreatDoor
