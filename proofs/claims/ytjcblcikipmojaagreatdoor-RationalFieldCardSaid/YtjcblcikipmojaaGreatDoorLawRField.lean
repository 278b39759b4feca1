/- The law RationalField: its walk. -/
import Derived.Test.YtjcblcikipmojaaGreatDoorRatX
import Derived.Test.YtjcblcikipmojaaGreatDoorRatT
namespace Go.Proofs.YtjcblcikipmojaaGreatDoor
open Go.RowKit

theorem right_three (s t u : ByteArray) (w : World) (hs : s.size ≤ 9223372036854775807) (ht : t.size ≤ 9223372036854775807) (hu : u.size ≤ 9223372036854775807) :
    Calls Tryz.prog 25 #[.slice (some ⟨w.heap.size, 0, none⟩) 3 3] (w.alloc (.cells #[.string s, .string t, .string u] 9)) (RightR [s, t, u] (w.alloc (.cells #[.string s, .string t, .string u] 9))) :=
  rright_any [s, t, u] w.heap.size 3 _ rfl (by decide) (by decide) (by simp) (fun k x h => by
    match k, h with
    | 0, h => simp at h; subst h; simp [go_sem]
    | 1, h => simp at h; subst h; simp [go_sem]
    | 2, h => simp at h; subst h; simp [go_sem]) (fun x h => by
    rcases List.mem_cons.1 h with rfl | h
    · exact hs
    rcases List.mem_cons.1 h with rfl | h
    · exact ht
    · rw [List.mem_singleton.1 h]; exact hu)
set_option maxRecDepth 100000 in
set_option maxHeartbeats 16000000 in
theorem rationalField_walk (s t u : ByteArray) (w : World) (hs : s.size ≤ 9223372036854775807) (ht : t.size ≤ 9223372036854775807) (hu : u.size ≤ 9223372036854775807) (hw : Good w) :
    Calls Tryz.prog 11 #[.string s, .string t, .string u] w fun e w' => e = .returned (.bool true) ∧ Below w.heap.size w w' := by
  have Hw := Lib.hid (fun w' (h : Below w.heap.size w w') => hw.below h)
  have Hk := Lib.hid (known2_true w hw)
  clear hw
  go_enter Tryz.func11, Tryz.ntmps11
  go_wp2_with fail
  refine Hk.out.mono ?_
  rintro e w1 ⟨rfl, h1⟩
  have k1 := Lib.hid h1
  have HR := Lib.hid (right_three s t u w1 hs ht hu)
  clear h1
  go_wp2_with fail
  refine HR.out.mono ?_
  rintro e w2 ⟨⟨b0, rfl, hb0⟩, h2⟩
  have k2 := Lib.hid (below_on (below_on k1.out ((Below.refl _ _).alloc (Nat.le_refl _) _)) h2)
  have Hk2 := Lib.hid (known2_true w2 (Hw.out _ k2.out))
  have Hb0 := Lib.hid hb0
  clear h2 hb0
  cases b0 with
  | false =>
    go_wp2_with fail
    refine Hk2.out.mono ?_
    rintro e w3 ⟨rfl, h2⟩
    have k3 := Lib.hid (below_on k2.out h2)
    clear h2
    go_wp2
    go_ret
    exact ⟨rfl, k3.out⟩
  | true =>
    obtain ⟨p, hp⟩ := Hb0.out rfl s (List.mem_cons_self ..)
    obtain ⟨q, hq⟩ := Hb0.out rfl t (List.mem_cons_of_mem _ (List.mem_cons_self ..))
    obtain ⟨r, hr⟩ := Hb0.out rfl u (List.mem_cons_of_mem _ (List.mem_cons_of_mem _ (List.mem_cons_self ..)))
    have Fp := Lib.hid hp.few
    have Fq := Lib.hid hq.few
    have Fr := Lib.hid hr.few
    have HRp := Lib.hid (fun w' hg => rread_any hp w' hg)
    have HRq := Lib.hid (fun w' hg => rread_any hq w' hg)
    have HRr := Lib.hid (fun w' hg => rread_any hr w' hg)
    clear hp hq hr Hb0
    go_wp2_with fail
    refine (HRp.out _ (Hw.out _ k2.out)).mono ?_
    rintro e w3 ⟨a, P, b, Q, rfl, hv, h3⟩
    have K3 := Lib.hid (below_on k2.out h3)
    have Hv := Lib.hid hv
    clear hv h3
    go_wp2_with fail
    refine (HRq.out _ (Hw.out _ K3.out)).mono ?_
    rintro e w4 ⟨c, U, d, V, rfl, hv, h4⟩
    have K4 := Lib.hid (below_on K3.out h4)
    have Hv := Lib.hid (Hv.out.keep h4)
    have Hu := Lib.hid hv
    clear hv h4
    go_wp2_with fail
    refine (HRr.out _ (Hw.out _ K4.out)).mono ?_
    rintro e w5 ⟨f, M, g, N, rfl, hv, h5⟩
    have kv := (Below.refl w5.heap.size w5).alloc (Nat.le_refl _) (.cells #[.int .i64 a, .pointer P, .int .i64 b, .pointer Q] 27)
    have kv2 := kv.alloc (by simp) (.cells #[.int .i64 c, .pointer U, .int .i64 d, .pointer V] 27)
    have kv3 := kv2.alloc (by simp; omega) (.cells #[.int .i64 f, .pointer M, .int .i64 g, .pointer N] 27)
    have V7 := Lib.hid (((VarR.new (Hv.out.keep h5)).keep ((Below.refl _ _).alloc (Nat.le_refl _) (.cells #[.int .i64 c, .pointer U, .int .i64 d, .pointer V] 27))).keep ((Below.refl _ _).alloc (Nat.le_refl _) (.cells #[.int .i64 f, .pointer M, .int .i64 g, .pointer N] 27)))
    have V8 := Lib.hid ((VarR.new ((Hu.out.keep h5).keep kv)).keep ((Below.refl _ _).alloc (Nat.le_refl _) (.cells #[.int .i64 f, .pointer M, .int .i64 g, .pointer N] 27)))
    have V9 := Lib.hid (VarR.new (hv.keep kv2))
    have K5 := Lib.hid (below_on (below_on K4.out h5) kv3)
    simp only [World.size_alloc] at V8 V9
    obtain ⟨wm, hwm⟩ : ∃ x, ((w5.alloc (.cells #[.int .i64 a, .pointer P, .int .i64 b, .pointer Q] 27)).alloc (.cells #[.int .i64 c, .pointer U, .int .i64 d, .pointer V] 27)).alloc (.cells #[.int .i64 f, .pointer M, .int .i64 g, .pointer N] 27) = x := ⟨_, rfl⟩
    rw [hwm] at V7 V8 V9 K5
    obtain ⟨p7, hp7⟩ : ∃ p, w5.heap.size = p := ⟨_, rfl⟩
    rw [hp7] at V7 V8 V9
    clear hv h5 kv kv2 kv3 Hv Hu K4 K3
    have F1 := Lib.hid (Fp.out.add Fq.out)
    have F2 := Lib.hid (F1.out.add Fr.out)
    have F3 := Lib.hid (Fq.out.add Fr.out)
    have HA1 := Lib.hid (fun w' (hb : Below wm.heap.size wm w') => radd_any a P b Q c U d V (p) (q) w' (V7.out.keep hb).rat (V8.out.keep hb).rat (Fp.out.n47 (by decide)) (Fp.out.d47 (by decide)) (Fq.out.n47 (by decide)) (Fq.out.d47 (by decide)) (Hw.out _ (below_on K5.out hb)))
    have HA2 := Lib.hid (fun x0 X0 y0 Y0 w' (hb : Below wm.heap.size wm w') (h0 : RatV w' x0 X0 y0 Y0 (p + q)) => radd_any x0 X0 y0 Y0 f M g N (p + q) (r) w' h0 (V9.out.keep hb).rat (F1.out.n47 (by decide)) (F1.out.d47 (by decide)) (Fr.out.n47 (by decide)) (Fr.out.d47 (by decide)) (Hw.out _ (below_on K5.out hb)))
    have HA3 := Lib.hid (fun w' (hb : Below wm.heap.size wm w') => radd_any c U d V f M g N (q) (r) w' (V8.out.keep hb).rat (V9.out.keep hb).rat (Fq.out.n47 (by decide)) (Fq.out.d47 (by decide)) (Fr.out.n47 (by decide)) (Fr.out.d47 (by decide)) (Hw.out _ (below_on K5.out hb)))
    have HA4 := Lib.hid (fun x1 X1 y1 Y1 w' (hb : Below wm.heap.size wm w') (h1 : RatV w' x1 X1 y1 Y1 (q + r)) => radd_any a P b Q x1 X1 y1 Y1 (p) (q + r) w' (V7.out.keep hb).rat h1 (Fp.out.n47 (by decide)) (Fp.out.d47 (by decide)) (F3.out.n47 (by decide)) (F3.out.d47 (by decide)) (Hw.out _ (below_on K5.out hb)))
    rw [show p + (q + r) = p + q + r from (Rat.add_assoc p q r).symm] at HA4
    have HS2 := Lib.hid (fun x0 X0 y0 Y0 x1 X1 y1 Y1 w' (hb : Below wm.heap.size wm w') (h0 : RatV w' x0 X0 y0 Y0 (p + q + r)) (h1 : RatV w' x1 X1 y1 Y1 (p + q + r)) => same_any x0 X0 y0 Y0 x1 X1 y1 Y1 w' h0 h1 F2.out (by decide) (Hw.out _ (below_on K5.out hb)))
    have HSa := Lib.hid (fun x0 X0 y0 Y0 w' (hb : Below wm.heap.size wm w') (h0 : RatV w' x0 X0 y0 Y0 (p)) => same_any x0 X0 y0 Y0 a P b Q w' h0 (V7.out.keep hb).rat Fp.out (by decide) (Hw.out _ (below_on K5.out hb)))
    have HS0 := Lib.hid (fun x0 X0 y0 Y0 w' (hb : Below wm.heap.size wm w') (h0 : RatV w' x0 X0 y0 Y0 ((0 : Int) : Rat)) => same_any 0 none 0 none x0 X0 y0 Y0 (q := ((0 : Int) : Rat)) (k := 1) w' (rat_zero0 w') h0 ⟨by decide, by decide⟩ (by decide) (Hw.out _ (below_on K5.out hb)))
    have HM3 := Lib.hid (fun w' (hb : Below wm.heap.size wm (w'.alloc (.cells #[.int .i64 a, .pointer P, .int .i64 b, .pointer Q, .int .i64 c, .pointer U, .int .i64 d, .pointer V, .int .i64 f, .pointer M, .int .i64 g, .pointer N] 27))) => rsum_three a P b Q c U d V f M g N w' (V7.out.keep hb).rat (V8.out.keep hb).rat (V9.out.keep hb).rat Fp.out Fq.out Fr.out (Hw.out _ (below_on K5.out hb)))
    have HM1 := Lib.hid (fun w' (hb : Below wm.heap.size wm (w'.alloc (.cells #[.int .i64 a, .pointer P, .int .i64 b, .pointer Q] 27))) => rsum_one a P b Q w' (V7.out.keep hb).rat Fp.out (Hw.out _ (below_on K5.out hb)))
    have HM0 := Lib.hid (fun w' => rsum_nil w')
    have HF0 := Lib.hid (fun w' => rfrom_any 0 w' ⟨by decide, by decide⟩)
    generalize hq3 : q + r = q3 at *
    generalize hq2 : p + q + r = q2 at *
    generalize hq1 : p + q = q1 at *
    generalize hq0 : ((0 : Int) : Rat) = q0 at HF0 HS0
    have E1 := Lib.hid hq1
    clear hq0 hq2 hq3 hq1
    have HS := Lib.hid (fun w' (hb : Below wm.heap.size wm w') => (⟨⟨(V7.out.keep hb).cells.c0, (V7.out.keep hb).cells.c1, (V7.out.keep hb).cells.c2, (V7.out.keep hb).cells.c3, (V8.out.keep hb).cells.c0, (V8.out.keep hb).cells.c1, (V8.out.keep hb).cells.c2, (V8.out.keep hb).cells.c3, (V9.out.keep hb).cells.c0, (V9.out.keep hb).cells.c1, (V9.out.keep hb).cells.c2, (V9.out.keep hb).cells.c3⟩, hb⟩ : (w'.cell? ⟨p7, 0, none⟩ = some (.int .i64 a) ∧ w'.cell? ⟨p7, 1, none⟩ = some (.pointer P) ∧ w'.cell? ⟨p7, 2, none⟩ = some (.int .i64 b) ∧ w'.cell? ⟨p7, 3, none⟩ = some (.pointer Q) ∧ w'.cell? ⟨p7 + 1, 0, none⟩ = some (.int .i64 c) ∧ w'.cell? ⟨p7 + 1, 1, none⟩ = some (.pointer U) ∧ w'.cell? ⟨p7 + 1, 2, none⟩ = some (.int .i64 d) ∧ w'.cell? ⟨p7 + 1, 3, none⟩ = some (.pointer V) ∧ w'.cell? ⟨p7 + 1 + 1, 0, none⟩ = some (.int .i64 f) ∧ w'.cell? ⟨p7 + 1 + 1, 1, none⟩ = some (.pointer M) ∧ w'.cell? ⟨p7 + 1 + 1, 2, none⟩ = some (.int .i64 g) ∧ w'.cell? ⟨p7 + 1 + 1, 3, none⟩ = some (.pointer N)) ∧ Below wm.heap.size wm w'))
    have HB := Lib.hid (fun w' (h : (w'.cell? ⟨p7, 0, none⟩ = some (.int .i64 a) ∧ w'.cell? ⟨p7, 1, none⟩ = some (.pointer P) ∧ w'.cell? ⟨p7, 2, none⟩ = some (.int .i64 b) ∧ w'.cell? ⟨p7, 3, none⟩ = some (.pointer Q) ∧ w'.cell? ⟨p7 + 1, 0, none⟩ = some (.int .i64 c) ∧ w'.cell? ⟨p7 + 1, 1, none⟩ = some (.pointer U) ∧ w'.cell? ⟨p7 + 1, 2, none⟩ = some (.int .i64 d) ∧ w'.cell? ⟨p7 + 1, 3, none⟩ = some (.pointer V) ∧ w'.cell? ⟨p7 + 1 + 1, 0, none⟩ = some (.int .i64 f) ∧ w'.cell? ⟨p7 + 1 + 1, 1, none⟩ = some (.pointer M) ∧ w'.cell? ⟨p7 + 1 + 1, 2, none⟩ = some (.int .i64 g) ∧ w'.cell? ⟨p7 + 1 + 1, 3, none⟩ = some (.pointer N)) ∧ Below wm.heap.size wm w') => h.2)
    have HK := Lib.hid (fun w' wx (h : (w'.cell? ⟨p7, 0, none⟩ = some (.int .i64 a) ∧ w'.cell? ⟨p7, 1, none⟩ = some (.pointer P) ∧ w'.cell? ⟨p7, 2, none⟩ = some (.int .i64 b) ∧ w'.cell? ⟨p7, 3, none⟩ = some (.pointer Q) ∧ w'.cell? ⟨p7 + 1, 0, none⟩ = some (.int .i64 c) ∧ w'.cell? ⟨p7 + 1, 1, none⟩ = some (.pointer U) ∧ w'.cell? ⟨p7 + 1, 2, none⟩ = some (.int .i64 d) ∧ w'.cell? ⟨p7 + 1, 3, none⟩ = some (.pointer V) ∧ w'.cell? ⟨p7 + 1 + 1, 0, none⟩ = some (.int .i64 f) ∧ w'.cell? ⟨p7 + 1 + 1, 1, none⟩ = some (.pointer M) ∧ w'.cell? ⟨p7 + 1 + 1, 2, none⟩ = some (.int .i64 g) ∧ w'.cell? ⟨p7 + 1 + 1, 3, none⟩ = some (.pointer N)) ∧ Below wm.heap.size wm w') (hb : Below w'.heap.size w' wx) => HS.out _ (below_on h.2 hb))
    go_upto_region 5 with fail
    try simp only [hwm, hp7]
    try clear hwm hp7
    go_cut [73] (fun s wx => s = .bool false ∧ Below wm.heap.size wm wx)
    case first =>
      go_region_held3 (fun w' => (w'.cell? ⟨p7, 0, none⟩ = some (.int .i64 a) ∧ w'.cell? ⟨p7, 1, none⟩ = some (.pointer P) ∧ w'.cell? ⟨p7, 2, none⟩ = some (.int .i64 b) ∧ w'.cell? ⟨p7, 3, none⟩ = some (.pointer Q) ∧ w'.cell? ⟨p7 + 1, 0, none⟩ = some (.int .i64 c) ∧ w'.cell? ⟨p7 + 1, 1, none⟩ = some (.pointer U) ∧ w'.cell? ⟨p7 + 1, 2, none⟩ = some (.int .i64 d) ∧ w'.cell? ⟨p7 + 1, 3, none⟩ = some (.pointer V) ∧ w'.cell? ⟨p7 + 1 + 1, 0, none⟩ = some (.int .i64 f) ∧ w'.cell? ⟨p7 + 1 + 1, 1, none⟩ = some (.pointer M) ∧ w'.cell? ⟨p7 + 1 + 1, 2, none⟩ = some (.int .i64 g) ∧ w'.cell? ⟨p7 + 1 + 1, 3, none⟩ = some (.pointer N)) ∧ Below wm.heap.size wm w')
        (first
          | assumption
          | exact HS.out _ (Below.refl _ _).drew
          | exact HK.out _ _ (by assumption) (by assumption)
          | exact HK.out _ _ (by assumption) ((Below.refl _ _).alloc (Nat.le_refl _) _))
        (first
          | (go_at_call_of 37 X1; refine (HA2.out _ _ _ _ _ (HB.out _ (by assumption)) (by assumption)).mono ?_; rintro e w' ⟨x2, X2, y2, Y2, rfl, hv2, hb⟩; (try have hv9 := hv9.keep hb))
          | (go_at_call_of 37 X3; refine (HA4.out _ _ _ _ _ (HB.out _ (by assumption)) (by assumption)).mono ?_; rintro e w' ⟨x4, X4, y4, Y4, rfl, hv4, hb⟩; (try have hv2 := hv2.keep hb))
          | (go_at_call_of 37 U; go_at_call_of 37 M; refine (HA3.out _ (HB.out _ (by assumption))).mono ?_; rintro e w' ⟨x3, X3, y3, Y3, rfl, hv3, hb⟩; (try have hv2 := hv2.keep hb))
          | (go_at_call_of 37 P; go_at_call_of 37 U; refine (HA1.out _ (HB.out _ (by assumption))).mono ?_; rintro e w' ⟨x1, X1, y1, Y1, rfl, hv1, hb⟩; (try have hv9 := hv9.keep hb))
          | (go_at_call_of 62 X4; refine (HS2.out _ _ _ _ _ _ _ _ _ (HB.out _ (by assumption)) (by assumption) (by assumption)).mono ?_; rintro e w' ⟨rfl, hb⟩)
          | (go_at_call_of 62 P; refine (HSa.out _ _ _ _ _ (HB.out _ (by assumption)) (by assumption)).mono ?_; rintro e w' ⟨rfl, hb⟩)
          | (go_at_call_of 62 X9; go_at_call_of 62 X2; refine (HS2.out _ _ _ _ _ _ _ _ _ (HB.out _ (by assumption)) (by assumption) (by assumption)).mono ?_; rintro e w' ⟨rfl, hb⟩)
          | (go_at_call_of 62 X6; refine (HS0.out _ _ _ _ _ (HB.out _ (by assumption)) (by assumption)).mono ?_; rintro e w' ⟨rfl, hb⟩)
          | (go_at_call_of 64 (none : Option Addr); refine (HM0.out _).mono ?_; rintro e w' ⟨rfl, hb⟩)
          | (go_at_call 64; (with_reducible refine (HM3.out _ (HB.out _ (by assumption))).mono ?_); rintro e w' ⟨x9, X9, y9, Y9, rfl, hv9, hb⟩)
          | (go_at_call 64; (with_reducible refine (HM1.out _ (HB.out _ (by assumption))).mono ?_); rintro e w' ⟨x5, X5, y5, Y5, rfl, hv5, hb⟩)
          | (go_at_call 26; refine (HF0.out _).mono ?_; rintro e w' ⟨x6, X6, y6, Y6, rfl, hv6, hb⟩))
      go_split_ands
      have hw3 : Below wm.heap.size wm w' := by assumption
      have J := Lib.hid hw3
      go_wp2_with fail
      go_meet
      exact ⟨rfl, J.out⟩
    case rest =>
      obtain ⟨rfl, hb⟩ := hcut
      replace V7 := Lib.hid (V7.out.keep hb)
      replace V8 := Lib.hid (V8.out.keep hb)
      replace V9 := Lib.hid (V9.out.keep hb)
      replace K5 := Lib.hid (below_on K5.out hb)
      clear hb HS HB HK HA1 HA2 HA3 HA4 HS2 HSa HS0 HM3 HM1 HM0 HF0 F1 F2 F3 E1
      generalize wc = wn at *
      have F1 := Lib.hid (Fp.out.add Fq.out)
      have G1 := Lib.hid (Fp.out.mul Fq.out)
      have G2 := Lib.hid (G1.out.mul Fr.out)
      have G3 := Lib.hid (Fq.out.mul Fr.out)
      have G6 := Lib.hid (F1.out.mul Fr.out)
      have G7 := Lib.hid (Fp.out.mul Fr.out)
      have HA1 := Lib.hid (fun w' (hb : Below wn.heap.size wn w') => radd_any a P b Q c U d V (p) (q) w' (V7.out.keep hb).rat (V8.out.keep hb).rat (Fp.out.n47 (by decide)) (Fp.out.d47 (by decide)) (Fq.out.n47 (by decide)) (Fq.out.d47 (by decide)) (Hw.out _ (below_on K5.out hb)))
      have HM1 := Lib.hid (fun w' (hb : Below wn.heap.size wn w') => rmul_any a P b Q c U d V (p) (q) w' (V7.out.keep hb).rat (V8.out.keep hb).rat (Fp.out.n47 (by decide)) (Fp.out.d47 (by decide)) (Fq.out.n47 (by decide)) (Fq.out.d47 (by decide)) (Hw.out _ (below_on K5.out hb)))
      have HM2 := Lib.hid (fun x0 X0 y0 Y0 w' (hb : Below wn.heap.size wn w') (h0 : RatV w' x0 X0 y0 Y0 (p * q)) => rmul_any x0 X0 y0 Y0 f M g N (p * q) (r) w' h0 (V9.out.keep hb).rat (G1.out.n47 (by decide)) (G1.out.d47 (by decide)) (Fr.out.n47 (by decide)) (Fr.out.d47 (by decide)) (Hw.out _ (below_on K5.out hb)))
      have HM3 := Lib.hid (fun w' (hb : Below wn.heap.size wn w') => rmul_any c U d V f M g N (q) (r) w' (V8.out.keep hb).rat (V9.out.keep hb).rat (Fq.out.n47 (by decide)) (Fq.out.d47 (by decide)) (Fr.out.n47 (by decide)) (Fr.out.d47 (by decide)) (Hw.out _ (below_on K5.out hb)))
      have HM4 := Lib.hid (fun x1 X1 y1 Y1 w' (hb : Below wn.heap.size wn w') (h1 : RatV w' x1 X1 y1 Y1 (q * r)) => rmul_any a P b Q x1 X1 y1 Y1 (p) (q * r) w' (V7.out.keep hb).rat h1 (Fp.out.n47 (by decide)) (Fp.out.d47 (by decide)) (G3.out.n47 (by decide)) (G3.out.d47 (by decide)) (Hw.out _ (below_on K5.out hb)))
      rw [show p * (q * r) = p * q * r from (Rat.mul_assoc p q r).symm] at HM4
      have HM6 := Lib.hid (fun x0 X0 y0 Y0 w' (hb : Below wn.heap.size wn w') (h0 : RatV w' x0 X0 y0 Y0 (p + q)) => rmul_any x0 X0 y0 Y0 f M g N (p + q) (r) w' h0 (V9.out.keep hb).rat (F1.out.n47 (by decide)) (F1.out.d47 (by decide)) (Fr.out.n47 (by decide)) (Fr.out.d47 (by decide)) (Hw.out _ (below_on K5.out hb)))
      have HM7 := Lib.hid (fun w' (hb : Below wn.heap.size wn w') => rmul_any a P b Q f M g N (p) (r) w' (V7.out.keep hb).rat (V9.out.keep hb).rat (Fp.out.n47 (by decide)) (Fp.out.d47 (by decide)) (Fr.out.n47 (by decide)) (Fr.out.d47 (by decide)) (Hw.out _ (below_on K5.out hb)))
      have HA8 := Lib.hid (fun x0 X0 y0 Y0 x1 X1 y1 Y1 w' (hb : Below wn.heap.size wn w') (h0 : RatV w' x0 X0 y0 Y0 (p * r)) (h1 : RatV w' x1 X1 y1 Y1 (q * r)) => radd_any x0 X0 y0 Y0 x1 X1 y1 Y1 (p * r) (q * r) w' h0 h1 (G7.out.n47 (by decide)) (G7.out.d47 (by decide)) (G3.out.n47 (by decide)) (G3.out.d47 (by decide)) (Hw.out _ (below_on K5.out hb)))
      rw [show p * r + q * r = (p + q) * r from (Rat.add_mul p q r).symm] at HA8
      have HS2 := Lib.hid (fun x0 X0 y0 Y0 x1 X1 y1 Y1 w' (hb : Below wn.heap.size wn w') (h0 : RatV w' x0 X0 y0 Y0 (p * q * r)) (h1 : RatV w' x1 X1 y1 Y1 (p * q * r)) => same_any x0 X0 y0 Y0 x1 X1 y1 Y1 w' h0 h1 G2.out (by decide) (Hw.out _ (below_on K5.out hb)))
      have HS6 := Lib.hid (fun x0 X0 y0 Y0 x1 X1 y1 Y1 w' (hb : Below wn.heap.size wn w') (h0 : RatV w' x0 X0 y0 Y0 ((p + q) * r)) (h1 : RatV w' x1 X1 y1 Y1 ((p + q) * r)) => same_any x0 X0 y0 Y0 x1 X1 y1 Y1 w' h0 h1 G6.out (by decide) (Hw.out _ (below_on K5.out hb)))
      generalize hz1 : (p + q) * r = z1 at *
      generalize hz2 : p * q * r = z2 at *
      generalize hz3 : q * r = z3 at *
      generalize hz4 : p * q = z4 at *
      generalize hz5 : p * r = z5 at *
      generalize hz6 : p + q = z6 at *
      clear hz1 hz2 hz3 hz4 hz5 hz6
      have HS := Lib.hid (fun w' (hb : Below wn.heap.size wn w') => (⟨⟨(V7.out.keep hb).cells.c0, (V7.out.keep hb).cells.c1, (V7.out.keep hb).cells.c2, (V7.out.keep hb).cells.c3, (V8.out.keep hb).cells.c0, (V8.out.keep hb).cells.c1, (V8.out.keep hb).cells.c2, (V8.out.keep hb).cells.c3, (V9.out.keep hb).cells.c0, (V9.out.keep hb).cells.c1, (V9.out.keep hb).cells.c2, (V9.out.keep hb).cells.c3⟩, hb⟩ : (w'.cell? ⟨p7, 0, none⟩ = some (.int .i64 a) ∧ w'.cell? ⟨p7, 1, none⟩ = some (.pointer P) ∧ w'.cell? ⟨p7, 2, none⟩ = some (.int .i64 b) ∧ w'.cell? ⟨p7, 3, none⟩ = some (.pointer Q) ∧ w'.cell? ⟨p7 + 1, 0, none⟩ = some (.int .i64 c) ∧ w'.cell? ⟨p7 + 1, 1, none⟩ = some (.pointer U) ∧ w'.cell? ⟨p7 + 1, 2, none⟩ = some (.int .i64 d) ∧ w'.cell? ⟨p7 + 1, 3, none⟩ = some (.pointer V) ∧ w'.cell? ⟨p7 + 1 + 1, 0, none⟩ = some (.int .i64 f) ∧ w'.cell? ⟨p7 + 1 + 1, 1, none⟩ = some (.pointer M) ∧ w'.cell? ⟨p7 + 1 + 1, 2, none⟩ = some (.int .i64 g) ∧ w'.cell? ⟨p7 + 1 + 1, 3, none⟩ = some (.pointer N)) ∧ Below wn.heap.size wn w'))
      have HB := Lib.hid (fun w' (h : (w'.cell? ⟨p7, 0, none⟩ = some (.int .i64 a) ∧ w'.cell? ⟨p7, 1, none⟩ = some (.pointer P) ∧ w'.cell? ⟨p7, 2, none⟩ = some (.int .i64 b) ∧ w'.cell? ⟨p7, 3, none⟩ = some (.pointer Q) ∧ w'.cell? ⟨p7 + 1, 0, none⟩ = some (.int .i64 c) ∧ w'.cell? ⟨p7 + 1, 1, none⟩ = some (.pointer U) ∧ w'.cell? ⟨p7 + 1, 2, none⟩ = some (.int .i64 d) ∧ w'.cell? ⟨p7 + 1, 3, none⟩ = some (.pointer V) ∧ w'.cell? ⟨p7 + 1 + 1, 0, none⟩ = some (.int .i64 f) ∧ w'.cell? ⟨p7 + 1 + 1, 1, none⟩ = some (.pointer M) ∧ w'.cell? ⟨p7 + 1 + 1, 2, none⟩ = some (.int .i64 g) ∧ w'.cell? ⟨p7 + 1 + 1, 3, none⟩ = some (.pointer N)) ∧ Below wn.heap.size wn w') => h.2)
      have HK := Lib.hid (fun w' wx (h : (w'.cell? ⟨p7, 0, none⟩ = some (.int .i64 a) ∧ w'.cell? ⟨p7, 1, none⟩ = some (.pointer P) ∧ w'.cell? ⟨p7, 2, none⟩ = some (.int .i64 b) ∧ w'.cell? ⟨p7, 3, none⟩ = some (.pointer Q) ∧ w'.cell? ⟨p7 + 1, 0, none⟩ = some (.int .i64 c) ∧ w'.cell? ⟨p7 + 1, 1, none⟩ = some (.pointer U) ∧ w'.cell? ⟨p7 + 1, 2, none⟩ = some (.int .i64 d) ∧ w'.cell? ⟨p7 + 1, 3, none⟩ = some (.pointer V) ∧ w'.cell? ⟨p7 + 1 + 1, 0, none⟩ = some (.int .i64 f) ∧ w'.cell? ⟨p7 + 1 + 1, 1, none⟩ = some (.pointer M) ∧ w'.cell? ⟨p7 + 1 + 1, 2, none⟩ = some (.int .i64 g) ∧ w'.cell? ⟨p7 + 1 + 1, 3, none⟩ = some (.pointer N)) ∧ Below wn.heap.size wn w') (hb : Below w'.heap.size w' wx) => HS.out _ (below_on h.2 hb))
      go_upto_region 7 with fail
      go_cut [103] (fun s wx => s = .bool false ∧ Below wn.heap.size wn wx)
      case first =>
        go_region_held3 (fun w' => (w'.cell? ⟨p7, 0, none⟩ = some (.int .i64 a) ∧ w'.cell? ⟨p7, 1, none⟩ = some (.pointer P) ∧ w'.cell? ⟨p7, 2, none⟩ = some (.int .i64 b) ∧ w'.cell? ⟨p7, 3, none⟩ = some (.pointer Q) ∧ w'.cell? ⟨p7 + 1, 0, none⟩ = some (.int .i64 c) ∧ w'.cell? ⟨p7 + 1, 1, none⟩ = some (.pointer U) ∧ w'.cell? ⟨p7 + 1, 2, none⟩ = some (.int .i64 d) ∧ w'.cell? ⟨p7 + 1, 3, none⟩ = some (.pointer V) ∧ w'.cell? ⟨p7 + 1 + 1, 0, none⟩ = some (.int .i64 f) ∧ w'.cell? ⟨p7 + 1 + 1, 1, none⟩ = some (.pointer M) ∧ w'.cell? ⟨p7 + 1 + 1, 2, none⟩ = some (.int .i64 g) ∧ w'.cell? ⟨p7 + 1 + 1, 3, none⟩ = some (.pointer N)) ∧ Below wn.heap.size wn w')
          (first
            | assumption
            | exact HS.out _ (Below.refl _ _).drew
            | exact HK.out _ _ (by assumption) (by assumption)
            | exact HK.out _ _ (by assumption) ((Below.refl _ _).alloc (Nat.le_refl _) _))
          (first
            | (go_at_call_of 46 X1; refine (HM2.out _ _ _ _ _ (HB.out _ (by assumption)) (by assumption)).mono ?_; rintro e w' ⟨x2, X2, y2, Y2, rfl, hv2, hb⟩)
            | (go_at_call_of 46 P; go_at_call_of 46 X3; refine (HM4.out _ _ _ _ _ (HB.out _ (by assumption)) (by assumption)).mono ?_; rintro e w' ⟨x4, X4, y4, Y4, rfl, hv4, hb⟩; (try have hv2 := hv2.keep hb))
            | (go_at_call_of 46 X5; refine (HM6.out _ _ _ _ _ (HB.out _ (by assumption)) (by assumption)).mono ?_; rintro e w' ⟨x6, X6, y6, Y6, rfl, hv6, hb⟩)
            | (go_at_call_of 46 P; go_at_call_of 46 U; refine (HM1.out _ (HB.out _ (by assumption))).mono ?_; rintro e w' ⟨x1, X1, y1, Y1, rfl, hv1, hb⟩)
            | (go_at_call_of 46 U; go_at_call_of 46 M; refine (HM3.out _ (HB.out _ (by assumption))).mono ?_; rintro e w' ⟨x3, X3, y3, Y3, rfl, hv3, hb⟩; (try have hv2 := hv2.keep hb); (try have hv6 := hv6.keep hb); (try have hv7 := hv7.keep hb))
            | (go_at_call_of 46 P; go_at_call_of 46 M; refine (HM7.out _ (HB.out _ (by assumption))).mono ?_; rintro e w' ⟨x7, X7, y7, Y7, rfl, hv7, hb⟩; (try have hv6 := hv6.keep hb))
            | (go_at_call_of 37 X7; refine (HA8.out _ _ _ _ _ _ _ _ _ (HB.out _ (by assumption)) (by assumption) (by assumption)).mono ?_; rintro e w' ⟨x8, X8, y8, Y8, rfl, hv8, hb⟩; (try have hv6 := hv6.keep hb))
            | (go_at_call_of 37 P; go_at_call_of 37 U; refine (HA1.out _ (HB.out _ (by assumption))).mono ?_; rintro e w' ⟨x5, X5, y5, Y5, rfl, hv5, hb⟩)
            | (go_at_call_of 62 X8; refine (HS6.out _ _ _ _ _ _ _ _ _ (HB.out _ (by assumption)) (by assumption) (by assumption)).mono ?_; rintro e w' ⟨rfl, hb⟩)
            | (go_at_call_of 62 X4; refine (HS2.out _ _ _ _ _ _ _ _ _ (HB.out _ (by assumption)) (by assumption) (by assumption)).mono ?_; rintro e w' ⟨rfl, hb⟩))
        go_split_ands
        have hw3 : Below wn.heap.size wn w' := by assumption
        have J := Lib.hid hw3
        go_wp2_with fail
        go_meet
        exact ⟨rfl, J.out⟩
      case rest =>
        obtain ⟨rfl, hb⟩ := hcut
        replace V7 := Lib.hid (V7.out.keep hb)
        replace V8 := Lib.hid (V8.out.keep hb)
        replace V9 := Lib.hid (V9.out.keep hb)
        replace K5 := Lib.hid (below_on K5.out hb)
        clear hb HS HB HK HA1 HM1 HM2 HM3 HM4 HM6 HM7 HA8 HS2 HS6 F1 G1 G2 G3 G6 G7
        generalize wc = wo at *
        have HDv := Lib.hid (rdiv_any a P b Q c U d V p q wo V7.out.rat V8.out.rat (Fp.out.n47 (by decide)) (Fp.out.d47 (by decide)) (Fq.out.n47 (by decide)) (Fq.out.d47 (by decide)) (Hw.out _ K5.out))
        have HSg := Lib.hid (fun w' (hb : Below wo.heap.size wo w') => rsign_any c U d V q w' (V8.out.keep hb).rat)
        by_cases hz : q.num = 0
        · rw [show sgn q.num = 0 by rw [hz]; rfl] at HSg
          have c0 := V7.out.cells.c0
          have c1 := V7.out.cells.c1
          have c2 := V7.out.cells.c2
          have c3 := V7.out.cells.c3
          have d0 := V8.out.cells.c0
          have d1 := V8.out.cells.c1
          have d2 := V8.out.cells.c2
          have d3 := V8.out.cells.c3
          go_wp2_with fail
          refine HDv.out.mono ?_
          rintro e u1 ⟨_, hh⟩
          obtain ⟨rfl, h5⟩ := hh hz
          have kv := (Below.refl u1.heap.size u1).alloc (Nat.le_refl _) (.cells #[.int .i64 0, .pointer none, .int .i64 0, .pointer none] 27)
          have J1 := Lib.hid (below_on h5 kv)
          have V8 := Lib.hid (V8.out.keep J1.out)
          clear hh h5 kv c0 c1 c2 c3 d0 d1 d2 d3 HDv
          have d0 := V8.out.cells.c0
          have d1 := V8.out.cells.c1
          have d2 := V8.out.cells.c2
          have d3 := V8.out.cells.c3
          go_wp2_with fail
          refine (HSg.out _ J1.out).mono ?_
          rintro e u2 ⟨rfl, h6⟩
          have J2 := Lib.hid (below_on K5.out (below_on J1.out h6))
          clear h6
          go_wp2
          exact bodyPost_ret (v := .bool true) (by simp [results, Tryz.results11, go_sem]) rfl ⟨rfl, J2.out⟩
        · have Hz := Lib.hid hz
          obtain ⟨sg, hsg⟩ : ∃ sg, sgn q.num = sg := ⟨_, rfl⟩
          have hs0 : (sg == 0) = false := by
            rw [beq_eq_false_iff_ne, ← hsg]
            unfold sgn
            split
            · decide
            · rw [if_pos (by omega)]; decide
          rw [hsg] at HSg
          clear hsg
          have Fd := Lib.hid (Fp.out.div Fq.out hz)
          have c0 := V7.out.cells.c0
          have c1 := V7.out.cells.c1
          have c2 := V7.out.cells.c2
          have c3 := V7.out.cells.c3
          have d0 := V8.out.cells.c0
          have d1 := V8.out.cells.c1
          have d2 := V8.out.cells.c2
          have d3 := V8.out.cells.c3
          go_wp2_with fail
          refine HDv.out.mono ?_
          rintro e u1 ⟨hh, _⟩
          obtain ⟨xa, xP, xb, xQ, rfl, hv, h5⟩ := hh hz
          have kv := (Below.refl u1.heap.size u1).alloc (Nat.le_refl _) (.cells #[.int .i64 xa, .pointer xP, .int .i64 xb, .pointer xQ] 27)
          have J1 := Lib.hid (below_on h5 kv)
          have V1 := Lib.hid (VarR.new hv)
          replace V8 := Lib.hid (V8.out.keep J1.out)
          replace V7 := Lib.hid (V7.out.keep J1.out)
          replace HSg := Lib.hid (HSg.out _ J1.out)
          replace K5 := Lib.hid (below_on K5.out J1.out)
          clear hh h5 kv hv c0 c1 c2 c3 d0 d1 d2 d3 HDv J1
          obtain ⟨wt, hwt⟩ : ∃ x, u1.alloc (.cells #[.int .i64 xa, .pointer xP, .int .i64 xb, .pointer xQ] 27) = x := ⟨_, rfl⟩
          rw [hwt] at V1 V7 V8 K5 HSg
          obtain ⟨p9, hp9⟩ : ∃ p, u1.heap.size = p := ⟨_, rfl⟩
          rw [hp9] at V1
          have d0 := V8.out.cells.c0
          have d1 := V8.out.cells.c1
          have d2 := V8.out.cells.c2
          have d3 := V8.out.cells.c3
          go_wp2_with fail
          try simp only [hwt, hp9]
          refine HSg.out.mono ?_
          rintro e wr ⟨rfl, h6⟩
          replace V7 := Lib.hid (V7.out.keep h6)
          replace V8 := Lib.hid (V8.out.keep h6)
          replace V1 := Lib.hid (V1.out.keep h6)
          replace K5 := Lib.hid (below_on K5.out h6)
          clear h6 d0 d1 d2 d3
          have hq0 : q ≠ 0 := fun h => hz (by rw [h]; rfl)
          have HMd := Lib.hid (fun w' (hb : Below wr.heap.size wr w') => rmul_any xa xP xb xQ c U d V (p / q) q w' (V1.out.keep hb).rat (V8.out.keep hb).rat (Fd.out.n47 (by decide)) (Fd.out.d47 (by decide)) (Fq.out.n47 (by decide)) (Fq.out.d47 (by decide)) (Hw.out _ (below_on K5.out hb)))
          rw [show p / q * q = p from Rat.div_mul_cancel hq0] at HMd
          have F1 := Lib.hid (Fp.out.add Fq.out)
          have HA1 := Lib.hid (fun w' (hb : Below wr.heap.size wr w') => radd_any a P b Q c U d V (p) (q) w' (V7.out.keep hb).rat (V8.out.keep hb).rat (Fp.out.n47 (by decide)) (Fp.out.d47 (by decide)) (Fq.out.n47 (by decide)) (Fq.out.d47 (by decide)) (Hw.out _ (below_on K5.out hb)))
          have HSb := Lib.hid (fun x0 X0 y0 Y0 w' (hb : Below wr.heap.size wr w') (h0 : RatV w' x0 X0 y0 Y0 (p + q)) => rsub_any x0 X0 y0 Y0 c U d V (p + q) (q) w' h0 (V8.out.keep hb).rat (F1.out.n47 (by decide)) (F1.out.d47 (by decide)) (Fq.out.n47 (by decide)) (Fq.out.d47 (by decide)) (Hw.out _ (below_on K5.out hb)))
          rw [show p + q - q = p from Rat.add_sub_cancel] at HSb
          have HSa := Lib.hid (fun x0 X0 y0 Y0 w' (hb : Below wr.heap.size wr w') (h0 : RatV w' x0 X0 y0 Y0 (p)) => same_any x0 X0 y0 Y0 a P b Q w' h0 (V7.out.keep hb).rat Fp.out (by decide) (Hw.out _ (below_on K5.out hb)))
          clear hq0
          have HS := Lib.hid (fun w' (hb : Below wr.heap.size wr w') => (⟨⟨(V7.out.keep hb).cells.c0, (V7.out.keep hb).cells.c1, (V7.out.keep hb).cells.c2, (V7.out.keep hb).cells.c3, (V8.out.keep hb).cells.c0, (V8.out.keep hb).cells.c1, (V8.out.keep hb).cells.c2, (V8.out.keep hb).cells.c3, (V1.out.keep hb).cells.c0, (V1.out.keep hb).cells.c1, (V1.out.keep hb).cells.c2, (V1.out.keep hb).cells.c3⟩, hb⟩ : (w'.cell? ⟨p7, 0, none⟩ = some (.int .i64 a) ∧ w'.cell? ⟨p7, 1, none⟩ = some (.pointer P) ∧ w'.cell? ⟨p7, 2, none⟩ = some (.int .i64 b) ∧ w'.cell? ⟨p7, 3, none⟩ = some (.pointer Q) ∧ w'.cell? ⟨p7 + 1, 0, none⟩ = some (.int .i64 c) ∧ w'.cell? ⟨p7 + 1, 1, none⟩ = some (.pointer U) ∧ w'.cell? ⟨p7 + 1, 2, none⟩ = some (.int .i64 d) ∧ w'.cell? ⟨p7 + 1, 3, none⟩ = some (.pointer V) ∧ w'.cell? ⟨p9, 0, none⟩ = some (.int .i64 xa) ∧ w'.cell? ⟨p9, 1, none⟩ = some (.pointer xP) ∧ w'.cell? ⟨p9, 2, none⟩ = some (.int .i64 xb) ∧ w'.cell? ⟨p9, 3, none⟩ = some (.pointer xQ)) ∧ Below wr.heap.size wr w'))
          have HB := Lib.hid (fun w' (h : (w'.cell? ⟨p7, 0, none⟩ = some (.int .i64 a) ∧ w'.cell? ⟨p7, 1, none⟩ = some (.pointer P) ∧ w'.cell? ⟨p7, 2, none⟩ = some (.int .i64 b) ∧ w'.cell? ⟨p7, 3, none⟩ = some (.pointer Q) ∧ w'.cell? ⟨p7 + 1, 0, none⟩ = some (.int .i64 c) ∧ w'.cell? ⟨p7 + 1, 1, none⟩ = some (.pointer U) ∧ w'.cell? ⟨p7 + 1, 2, none⟩ = some (.int .i64 d) ∧ w'.cell? ⟨p7 + 1, 3, none⟩ = some (.pointer V) ∧ w'.cell? ⟨p9, 0, none⟩ = some (.int .i64 xa) ∧ w'.cell? ⟨p9, 1, none⟩ = some (.pointer xP) ∧ w'.cell? ⟨p9, 2, none⟩ = some (.int .i64 xb) ∧ w'.cell? ⟨p9, 3, none⟩ = some (.pointer xQ)) ∧ Below wr.heap.size wr w') => h.2)
          have HK := Lib.hid (fun w' wx (h : (w'.cell? ⟨p7, 0, none⟩ = some (.int .i64 a) ∧ w'.cell? ⟨p7, 1, none⟩ = some (.pointer P) ∧ w'.cell? ⟨p7, 2, none⟩ = some (.int .i64 b) ∧ w'.cell? ⟨p7, 3, none⟩ = some (.pointer Q) ∧ w'.cell? ⟨p7 + 1, 0, none⟩ = some (.int .i64 c) ∧ w'.cell? ⟨p7 + 1, 1, none⟩ = some (.pointer U) ∧ w'.cell? ⟨p7 + 1, 2, none⟩ = some (.int .i64 d) ∧ w'.cell? ⟨p7 + 1, 3, none⟩ = some (.pointer V) ∧ w'.cell? ⟨p9, 0, none⟩ = some (.int .i64 xa) ∧ w'.cell? ⟨p9, 1, none⟩ = some (.pointer xP) ∧ w'.cell? ⟨p9, 2, none⟩ = some (.int .i64 xb) ∧ w'.cell? ⟨p9, 3, none⟩ = some (.pointer xQ)) ∧ Below wr.heap.size wr w') (hb : Below w'.heap.size w' wx) => HS.out _ (below_on h.2 hb))
          go_upto_region 12 with fail
          try simp only [hwt, hp9]
          try clear hwt hp9
          go_region_held3 (fun w' => (w'.cell? ⟨p7, 0, none⟩ = some (.int .i64 a) ∧ w'.cell? ⟨p7, 1, none⟩ = some (.pointer P) ∧ w'.cell? ⟨p7, 2, none⟩ = some (.int .i64 b) ∧ w'.cell? ⟨p7, 3, none⟩ = some (.pointer Q) ∧ w'.cell? ⟨p7 + 1, 0, none⟩ = some (.int .i64 c) ∧ w'.cell? ⟨p7 + 1, 1, none⟩ = some (.pointer U) ∧ w'.cell? ⟨p7 + 1, 2, none⟩ = some (.int .i64 d) ∧ w'.cell? ⟨p7 + 1, 3, none⟩ = some (.pointer V) ∧ w'.cell? ⟨p9, 0, none⟩ = some (.int .i64 xa) ∧ w'.cell? ⟨p9, 1, none⟩ = some (.pointer xP) ∧ w'.cell? ⟨p9, 2, none⟩ = some (.int .i64 xb) ∧ w'.cell? ⟨p9, 3, none⟩ = some (.pointer xQ)) ∧ Below wr.heap.size wr w')
            (first
              | assumption
              | exact HS.out _ (Below.refl _ _).drew
              | exact HK.out _ _ (by assumption) (by assumption)
              | exact HK.out _ _ (by assumption) ((Below.refl _ _).alloc (Nat.le_refl _) _))
            (first
              | (go_at_call 46; refine (HMd.out _ (HB.out _ (by assumption))).mono ?_; rintro e w' ⟨x1, X1, y1, Y1, rfl, hv1, hb⟩)
              | (go_at_call 37; refine (HA1.out _ (HB.out _ (by assumption))).mono ?_; rintro e w' ⟨x3, X3, y3, Y3, rfl, hv3, hb⟩)
              | (go_at_call 39; refine (HSb.out _ _ _ _ _ (HB.out _ (by assumption)) (by assumption)).mono ?_; rintro e w' ⟨x4, X4, y4, Y4, rfl, hv4, hb⟩)
              | (go_at_call 62; refine (HSa.out _ _ _ _ _ (HB.out _ (by assumption)) (by assumption)).mono ?_; rintro e w' ⟨rfl, hb⟩))
          go_split_ands
          have hw3 : Below wr.heap.size wr w' := by assumption
          have J5 := Lib.hid (below_on K5.out hw3)
          go_wp2
          exact bodyPost_ret (v := .bool true) (by simp [results, Tryz.results11, go_sem]) rfl ⟨rfl, J5.out⟩
end Go.Proofs.YtjcblcikipmojaaGreatDoor
