/- The law RationalMuls: its walk. -/
import Derived.Test.YtjcblcikipmojaaGreatDoorRatT
import Derived.Test.YtjcblcikipmojaaGreatDoorFew
namespace Go.Proofs.YtjcblcikipmojaaGreatDoor
open Go.RowKit

theorem ten80 {x y : Int} (hx : x.natAbs < ten 40) (hy : y.natAbs < ten 40) : (x * y).natAbs < ten 80 := by
  rw [Int.natAbs_mul]
  exact Nat.lt_of_lt_of_le (Nat.mul_lt_mul'' hx hy) (by decide +kernel)
theorem txt80 {x y : Int} (hx : x.natAbs < ten 40) (hy : y.natAbs < ten 40) : (txt (x * y)).size ≤ 5000 := by
  have := txt_size (x * y) (ten80 hx hy) (by decide)
  omega
theorem den40 {q : Rat} (h : q.den < ten 40) : ((q.den : Nat) : Int).natAbs < ten 40 := by rw [Int.natAbs_natCast]; exact h
theorem ratTxt_not0 {q : Rat} (h : q.num ≠ 0) : ((ratTxt q).toList == [48]) = false := by
  unfold ratTxt
  split
  · exact txt_not0 h
  · obtain ⟨n, hs, hn, h1, h2⟩ := txt_first h
    have hs1 : 0 < (txt q.num ++ (⟨#[47]⟩ : ByteArray)).size := by rw [ByteArray.size_append]; omega
    have hs2 : 0 < (txt q.num ++ ⟨#[47]⟩ ++ txt (q.den : Int)).size := by rw [ByteArray.size_append]; omega
    have e : (txt q.num ++ ⟨#[47]⟩ ++ txt (q.den : Int))[0] = (txt q.num)[0] := by
      rw [ByteArray.getElem_append_left hs1, ByteArray.getElem_append_left hs]
    have n48 : n ≠ 48 := by
      rcases Int.lt_or_lt_of_ne h with h | h
      · have := h1 h; omega
      · have := h2 h; omega
    exact bytes_ne hs2 (by rw [e]; exact hn) n48
theorem ten47 {m : Nat} (h : m < ten 40) : m < base 47 := Nat.lt_of_lt_of_le h (by decide +kernel)
set_option maxHeartbeats 4000000 in
theorem refMulR_any {s t : ByteArray} {p q : Rat} (h : RS s p) (h' : RS t q) (w : World) : Calls Tryz.prog 47 #[.string s, .string t] w fun e w' => e = .returned (.string (ratTxt (p * q))) ∧ Below w.heap.size w w' := by
  obtain ⟨n1, n2⟩ := h.n5
  obtain ⟨m1, m2⟩ := h'.n5
  have pn := h.nlt
  have pd := den40 h.dlt
  have qn := h'.nlt
  have qd := den40 h'.dlt
  have pp := p.den_pos
  have qp := q.den_pos
  have HP := Lib.hid (fun w => refParts_any p w (by omega) (by omega))
  have HQ := Lib.hid (fun w => refParts_any q w (by omega) (by omega))
  rw [h.txt_] at HP
  rw [h'.txt_] at HQ
  have HA := Lib.hid (fun w => refMul_any p.num q.num w (by omega) (by omega))
  have HB := Lib.hid (fun w => refMul_any (p.den : Int) (q.den : Int) w (by omega) (by omega))
  have HC := Lib.hid (fun w => refRat_any (p.num * q.num) ((p.den : Int) * (q.den : Int)) w (Nat.lt_of_lt_of_le (ten80 (by assumption) (by assumption)) (ten_le (by decide))) (Nat.lt_of_lt_of_le (ten80 (by assumption) (by assumption)) (ten_le (by decide))) (Int.mul_ne_zero (by omega) (by omega)))
  rw [show Rat.divInt (p.num * q.num) ((p.den : Int) * (q.den : Int)) = p * q from by rw [rat_prod, Int.natCast_mul]] at HC
  clear n1 n2 m1 m2 h h' pn pd qn qd pp qp
  generalize ratTxt (p * q) = X at HC ⊢
  generalize txt (p.num * q.num) = A at HA HC
  generalize txt ((p.den : Int) * (q.den : Int)) = B at HB HC
  generalize txt p.num = A1 at HP HA HB
  generalize txt (p.den : Int) = A2 at HP HA HB
  generalize txt q.num = B1 at HQ HA HB
  generalize txt (q.den : Int) = B2 at HQ HA HB
  go_enter Tryz.func47, Tryz.ntmps47
  go_wp2_with fail
  refine (HP.out _).mono ?_
  rintro e w1 ⟨rfl, h1⟩
  have K1 := Lib.hid h1
  clear h1
  go_wp2_with fail
  refine (HQ.out _).mono ?_
  rintro e w2 ⟨rfl, h1⟩
  have K2 := Lib.hid (below_on K1.out h1)
  clear h1
  go_wp2_with fail
  refine (HA.out _).mono ?_
  rintro e w3 ⟨rfl, h1⟩
  have K3 := Lib.hid (below_on K2.out h1)
  clear h1
  go_wp2_with fail
  refine (HB.out _).mono ?_
  rintro e w4 ⟨rfl, h1⟩
  have K4 := Lib.hid (below_on K3.out h1)
  clear h1
  go_wp2_with fail
  refine (HC.out _).mono ?_
  rintro e w5 ⟨rfl, h1⟩
  have K5 := Lib.hid (below_on K4.out h1)
  clear h1
  go_wp2
  go_ret
  exact ⟨rfl, K5.out⟩
set_option maxHeartbeats 4000000 in
theorem refDivR_any {s t : ByteArray} {p q : Rat} (h : RS s p) (h' : RS t q) (hq0 : q.num ≠ 0) (w : World) : Calls Tryz.prog 48 #[.string s, .string t] w fun e w' => e = .returned (.string (ratTxt (p / q))) ∧ Below w.heap.size w w' := by
  obtain ⟨n1, n2⟩ := h.n5
  obtain ⟨m1, m2⟩ := h'.n5
  have pn := h.nlt
  have pd := den40 h.dlt
  have qn := h'.nlt
  have qd := den40 h'.dlt
  have pp := p.den_pos
  have qp := q.den_pos
  have HP := Lib.hid (fun w => refParts_any p w (by omega) (by omega))
  have HQ := Lib.hid (fun w => refParts_any q w (by omega) (by omega))
  rw [h.txt_] at HP
  rw [h'.txt_] at HQ
  have HA := Lib.hid (fun w => refMul_any p.num (q.den : Int) w (by omega) (by omega))
  have HB := Lib.hid (fun w => refMul_any (p.den : Int) q.num w (by omega) (by omega))
  have HC := Lib.hid (fun w => refRat_any (p.num * (q.den : Int)) ((p.den : Int) * q.num) w (Nat.lt_of_lt_of_le (ten80 (by assumption) (by assumption)) (ten_le (by decide))) (Nat.lt_of_lt_of_le (ten80 (by assumption) (by assumption)) (ten_le (by decide))) (Int.mul_ne_zero (by omega) (by omega)))
  rw [show Rat.divInt (p.num * (q.den : Int)) ((p.den : Int) * q.num) = p / q from (rat_quot p q).symm] at HC
  clear n1 n2 m1 m2 h h' pn pd qn qd pp qp
  generalize ratTxt (p / q) = X at HC ⊢
  generalize txt (p.num * (q.den : Int)) = A at HA HC
  generalize txt ((p.den : Int) * q.num) = B at HB HC
  generalize txt p.num = A1 at HP HA HB
  generalize txt (p.den : Int) = A2 at HP HA HB
  generalize txt q.num = B1 at HQ HA HB
  generalize txt (q.den : Int) = B2 at HQ HA HB
  go_enter Tryz.func48, Tryz.ntmps48
  go_wp2_with fail
  refine (HP.out _).mono ?_
  rintro e w1 ⟨rfl, h1⟩
  have K1 := Lib.hid h1
  clear h1
  go_wp2_with fail
  refine (HQ.out _).mono ?_
  rintro e w2 ⟨rfl, h1⟩
  have K2 := Lib.hid (below_on K1.out h1)
  clear h1
  go_wp2_with fail
  refine (HA.out _).mono ?_
  rintro e w3 ⟨rfl, h1⟩
  have K3 := Lib.hid (below_on K2.out h1)
  clear h1
  go_wp2_with fail
  refine (HB.out _).mono ?_
  rintro e w4 ⟨rfl, h1⟩
  have K4 := Lib.hid (below_on K3.out h1)
  clear h1
  go_wp2_with fail
  refine (HC.out _).mono ?_
  rintro e w5 ⟨rfl, h1⟩
  have K5 := Lib.hid (below_on K4.out h1)
  clear h1
  go_wp2
  go_ret
  exact ⟨rfl, K5.out⟩
set_option maxRecDepth 100000 in
set_option maxHeartbeats 2000000 in
theorem rationalMuls_walk (s t : ByteArray) (w : World) (hs : s.size ≤ 9223372036854775807) (ht : t.size ≤ 9223372036854775807) (hw : Good w) :
    Calls Tryz.prog 8 #[.string s, .string t] w fun e w' => e = .returned (.bool true) ∧ Below w.heap.size w w' := by
  have Hw := Lib.hid (fun w' (h : Below w.heap.size w w') => hw.below h)
  have Hk := Lib.hid (known2_true w hw)
  clear hw
  go_enter Tryz.func8, Tryz.ntmps8
  go_wp2_with fail
  refine Hk.out.mono ?_
  rintro e w1 ⟨rfl, h1⟩
  have k1 := Lib.hid h1
  have HR := Lib.hid (right_two s t w1 hs ht)
  clear h1
  go_wp2_with fail
  refine HR.out.mono ?_
  rintro e w2 ⟨⟨b0, rfl, hb0⟩, h2⟩
  have k2 := Lib.hid (below_on (below_on k1.out ((Below.refl _ _).alloc (Nat.le_refl _) _)) h2)
  have Hk2 := Lib.hid (known2_true w2 (Hw.out _ k2.out))
  have Hb0 := Lib.hid hb0
  clear h2 hb0
  cases b0 with
  | false =>
    go_wp2_with fail
    refine Hk2.out.mono ?_
    rintro e w3 ⟨rfl, h2⟩
    have k3 := Lib.hid (below_on k2.out h2)
    clear h2
    go_wp2
    go_ret
    exact ⟨rfl, k3.out⟩
  | true =>
    obtain ⟨p, hp⟩ := Hb0.out rfl s (List.mem_cons_self ..)
    obtain ⟨q, hq⟩ := Hb0.out rfl t (List.mem_cons_of_mem _ (List.mem_cons_self ..))
    have Hp := Lib.hid hp
    have Hq := Lib.hid hq
    clear hp hq
    have HRp := Lib.hid (fun w' hg => rread_any Hp.out w' hg)
    have HRq := Lib.hid (fun w' hg => rread_any Hq.out w' hg)
    go_wp2_with fail
    refine (HRp.out _ (Hw.out _ k2.out)).mono ?_
    rintro e w3 ⟨a, P, b, Q, rfl, hv, h3⟩
    have K3 := Lib.hid (below_on k2.out h3)
    have Hv := Lib.hid hv
    clear hv h3
    go_wp2_with fail
    refine (HRq.out _ (Hw.out _ K3.out)).mono ?_
    rintro e w4 ⟨c, U, d, V, rfl, hv, h4⟩
    have kv := (Below.refl w4.heap.size w4).alloc (Nat.le_refl _) (.cells #[.int .i64 a, .pointer P, .int .i64 b, .pointer Q] 27)
    have kv2 := (Below.refl w4.heap.size w4).alloc (Nat.le_refl _) (.cells #[.int .i64 a, .pointer P, .int .i64 b, .pointer Q] 27) |>.alloc (by simp) (.cells #[.int .i64 c, .pointer U, .int .i64 d, .pointer V] 27)
    have V6 := Lib.hid ((VarR.new (Hv.out.keep h4)).keep ((Below.refl _ _).alloc (Nat.le_refl _) (.cells #[.int .i64 c, .pointer U, .int .i64 d, .pointer V] 27)))
    have V7 := Lib.hid (VarR.new (hv.keep kv))
    have K4 := Lib.hid (below_on (below_on K3.out h4) kv2)
    simp only [World.size_alloc] at V7
    obtain ⟨wm, hwm⟩ : ∃ u, (w4.alloc (.cells #[.int .i64 a, .pointer P, .int .i64 b, .pointer Q] 27)).alloc (.cells #[.int .i64 c, .pointer U, .int .i64 d, .pointer V] 27) = u := ⟨_, rfl⟩
    rw [hwm] at V6 V7 K4
    obtain ⟨p6, hp6⟩ : ∃ p, w4.heap.size = p := ⟨_, rfl⟩
    rw [hp6] at V6 V7
    clear hv h4 kv kv2
    have nP := Lib.hid (ten47 Hp.out.nlt)
    have dP := Lib.hid (ten47 Hp.out.dlt)
    have nQ := Lib.hid (ten47 Hq.out.nlt)
    have dQ := Lib.hid (ten47 Hq.out.dlt)
    have RP := Lib.hid (fun w' (hb : Below wm.heap.size wm w') => (V6.out.keep hb).rat)
    have RQ := Lib.hid (fun w' (hb : Below wm.heap.size wm w') => (V7.out.keep hb).rat)
    have HDv := Lib.hid (rdiv_any a P b Q c U d V p q wm V6.out.rat V7.out.rat nP.out dP.out nQ.out dQ.out (Hw.out _ K4.out))
    have HMl := Lib.hid (fun w' (hb : Below wm.heap.size wm w') => rmul_any a P b Q c U d V p q w' (RP.out w' hb) (RQ.out w' hb) nP.out dP.out nQ.out dQ.out (Hw.out _ (below_on K4.out hb)))
    have HRm := Lib.hid (fun w' => refMulR_any Hp.out Hq.out w')
    have bm : (p * q).num.natAbs < ten 80 ∧ (p * q).den < ten 80 := by
      rw [rat_prod]
      exact rat_bounds_any (ten80 Hp.out.nlt Hq.out.nlt) (by rw [Int.natCast_mul]; exact ten80 (den40 Hp.out.dlt) (den40 Hq.out.dlt)) (by have := Nat.mul_pos p.den_pos q.den_pos; omega)
    have HI := Lib.hid (fun x X y Y w' (hv : RatV w' x X y Y (p * q)) (hg : Good w') => show Calls Tryz.prog 17 #[.agg #[.int .i64 x, .pointer X, .int .i64 y, .pointer Y], .string (ratTxt (p * q))] w' (fun e w2 => e = .returned (.bool true) ∧ Below w'.heap.size w' w2) from is_true x X y Y _ _ w' hv (Nat.lt_of_lt_of_le bm.1 (ten_le (by decide))) (Nat.lt_of_lt_of_le bm.2 (ten_le (by decide))) rfl hg)
    clear bm
    generalize ratTxt (p * q) = X1 at HRm HI
    by_cases hz : q.num = 0
    · have hq0 : q = 0 := Rat.ext (by rw [hz]; rfl) (by
        have h := q.reduced
        rw [hz] at h
        have : q.den = 1 := by simpa [Nat.Coprime] using h
        rw [this]; rfl)
      have ht0 := Lib.hid (show t = ⟨#[48]⟩ by rw [← Hq.out.txt_, hq0]; decide +kernel)
      have Hz := Lib.hid hz
      have c0 := V6.out.cells.c0
      have c1 := V6.out.cells.c1
      have c2 := V6.out.cells.c2
      have c3 := V6.out.cells.c3
      have d0 := V7.out.cells.c0
      have d1 := V7.out.cells.c1
      have d2 := V7.out.cells.c2
      have d3 := V7.out.cells.c3
      go_wp2_with fail
      try simp only [hwm, hp6]
      clear hwm hp6
      refine HDv.out.mono ?_
      rintro e u1 ⟨_, hh⟩
      obtain ⟨rfl, h5⟩ := hh Hz.out
      have kv := (Below.refl u1.heap.size u1).alloc (Nat.le_refl _) (.cells #[.int .i64 0, .pointer none, .int .i64 0, .pointer none] 27)
      have V6 := Lib.hid ((V6.out.keep h5).keep kv)
      have V7 := Lib.hid ((V7.out.keep h5).keep kv)
      have V8 := Lib.hid (VarR.new (rat_zero0 u1))
      have J1 := Lib.hid (below_on h5 kv)
      clear h5 kv
      clear c0 c1 c2 c3
      clear d0 d1 d2 d3
      clear hz hq0
      have c0 := V6.out.cells.c0
      have c1 := V6.out.cells.c1
      have c2 := V6.out.cells.c2
      have c3 := V6.out.cells.c3
      have d0 := V7.out.cells.c0
      have d1 := V7.out.cells.c1
      have d2 := V7.out.cells.c2
      have d3 := V7.out.cells.c3
      go_wp2_with fail
      try simp only [hp7, hwn]
      try clear hp7 hwn
      refine (HMl.out _ J1.out).mono ?_
      rintro e u2 ⟨x1, y1, x2, y2, rfl, hm, h5⟩
      have V6 := Lib.hid (V6.out.keep h5)
      have V7 := Lib.hid (V7.out.keep h5)
      have V8 := Lib.hid (V8.out.keep h5)
      have Hm := Lib.hid hm
      have J2 := Lib.hid (below_on J1.out h5)
      clear h5 hm
      go_wp2_with fail
      refine (HRm.out _).mono ?_
      rintro e u3 ⟨rfl, h5⟩
      have V8 := Lib.hid (V8.out.keep h5)
      have Hm := Lib.hid (Hm.out.keep h5)
      have J3 := Lib.hid (below_on J2.out h5)
      clear h5
      go_wp2_with fail
      refine (HI.out _ _ _ _ _ Hm.out (Hw.out _ (below_on K4.out J3.out))).mono ?_
      rintro e u4 ⟨rfl, h5⟩
      have V8 := Lib.hid (V8.out.keep h5)
      have J4 := Lib.hid (below_on J3.out h5)
      clear h5
      clear c0 c1 c2 c3
      clear d0 d1 d2 d3
      have HI2 := Lib.hid (is_true 0 none 0 none 0 ⟨#[48]⟩ _ V8.out.rat (by decide +kernel) (by decide +kernel) (by decide +kernel) (Hw.out _ (below_on K4.out J4.out)))
      have tt : (t.toList == [48]) = true := by rw [ht0.out]; decide +kernel
      have c0 := V8.out.cells.c0
      have c1 := V8.out.cells.c1
      have c2 := V8.out.cells.c2
      have c3 := V8.out.cells.c3
      go_wp2_with fail
      refine HI2.out.mono ?_
      rintro e u5 ⟨rfl, h5⟩
      have J5 := Lib.hid (below_on J4.out h5)
      clear h5
      go_wp2
      exact bodyPost_ret (v := .bool true) (by simp [results, Tryz.results8, go_sem]) rfl ⟨rfl, below_on K4.out J5.out⟩
    · have Hz := Lib.hid hz
      have hn0 : (t.toList == [48]) = false := by
        rw [← Hq.out.txt_]
        exact ratTxt_not0 hz
      have bq : (p / q).num.natAbs < ten 80 ∧ (p / q).den < ten 80 := by
        rw [rat_quot]
        exact rat_bounds_any (ten80 Hp.out.nlt (den40 Hq.out.dlt)) (ten80 (den40 Hp.out.dlt) Hq.out.nlt) (Int.mul_ne_zero (by have := p.den_pos; omega) hz)
      have HRd := Lib.hid (fun w' => refDivR_any Hp.out Hq.out hz w')
      have HI3 := Lib.hid (fun x X y Y w' (hv : RatV w' x X y Y (p / q)) (hg : Good w') => show Calls Tryz.prog 17 #[.agg #[.int .i64 x, .pointer X, .int .i64 y, .pointer Y], .string (ratTxt (p / q))] w' (fun e w2 => e = .returned (.bool true) ∧ Below w'.heap.size w' w2) from is_true x X y Y _ _ w' hv (Nat.lt_of_lt_of_le bq.1 (ten_le (by decide))) (Nat.lt_of_lt_of_le bq.2 (ten_le (by decide))) rfl hg)
      generalize ratTxt (p / q) = X2 at HRd HI3
      clear bq hz
      have c0 := V6.out.cells.c0
      have c1 := V6.out.cells.c1
      have c2 := V6.out.cells.c2
      have c3 := V6.out.cells.c3
      have d0 := V7.out.cells.c0
      have d1 := V7.out.cells.c1
      have d2 := V7.out.cells.c2
      have d3 := V7.out.cells.c3
      go_wp2_with fail
      try simp only [hwm, hp6]
      clear hwm hp6
      refine HDv.out.mono ?_
      rintro e u1 ⟨hh, _⟩
      obtain ⟨xa, xP, xb, xQ, rfl, hv, h5⟩ := hh Hz.out
      have kv := (Below.refl u1.heap.size u1).alloc (Nat.le_refl _) (.cells #[.int .i64 xa, .pointer xP, .int .i64 xb, .pointer xQ] 27)
      have V6 := Lib.hid ((V6.out.keep h5).keep kv)
      have V7 := Lib.hid ((V7.out.keep h5).keep kv)
      have V8 := Lib.hid (VarR.new hv)
      have J1 := Lib.hid (below_on h5 kv)
      obtain ⟨wn, hwn⟩ : ∃ u, u1.alloc (.cells #[.int .i64 xa, .pointer xP, .int .i64 xb, .pointer xQ] 27) = u := ⟨_, rfl⟩
      rw [hwn] at V6 V7 V8 J1
      obtain ⟨p7, hp7⟩ : ∃ p, u1.heap.size = p := ⟨_, rfl⟩
      rw [hp7] at V8
      clear h5 kv hv hh
      clear c0 c1 c2 c3
      clear d0 d1 d2 d3
      have c0 := V6.out.cells.c0
      have c1 := V6.out.cells.c1
      have c2 := V6.out.cells.c2
      have c3 := V6.out.cells.c3
      have d0 := V7.out.cells.c0
      have d1 := V7.out.cells.c1
      have d2 := V7.out.cells.c2
      have d3 := V7.out.cells.c3
      go_wp2_with fail
      try simp only [hp7, hwn]
      try clear hp7 hwn
      refine (HMl.out _ J1.out).mono ?_
      rintro e u2 ⟨x1, y1, x2, y2, rfl, hm, h5⟩
      have V6 := Lib.hid (V6.out.keep h5)
      have V7 := Lib.hid (V7.out.keep h5)
      have V8 := Lib.hid (V8.out.keep h5)
      have Hm := Lib.hid hm
      have J2 := Lib.hid (below_on J1.out h5)
      clear h5 hm
      go_wp2_with fail
      refine (HRm.out _).mono ?_
      rintro e u3 ⟨rfl, h5⟩
      have V8 := Lib.hid (V8.out.keep h5)
      have Hm := Lib.hid (Hm.out.keep h5)
      have J3 := Lib.hid (below_on J2.out h5)
      clear h5
      go_wp2_with fail
      refine (HI.out _ _ _ _ _ Hm.out (Hw.out _ (below_on K4.out J3.out))).mono ?_
      rintro e u4 ⟨rfl, h5⟩
      have V8 := Lib.hid (V8.out.keep h5)
      have J4 := Lib.hid (below_on J3.out h5)
      clear h5
      clear c0 c1 c2 c3
      clear d0 d1 d2 d3
      generalize u4 = wk at *
      have HS := Lib.hid (fun w' (hb : Below wk.heap.size wk w') => (⟨⟨(V8.out.keep hb).cells.c0, (V8.out.keep hb).cells.c1, (V8.out.keep hb).cells.c2, (V8.out.keep hb).cells.c3⟩, hb⟩ : (w'.cell? ⟨p7, 0, none⟩ = some (.int .i64 xa) ∧ w'.cell? ⟨p7, 1, none⟩ = some (.pointer xP) ∧ w'.cell? ⟨p7, 2, none⟩ = some (.int .i64 xb) ∧ w'.cell? ⟨p7, 3, none⟩ = some (.pointer xQ)) ∧ Below wk.heap.size wk w'))
      have HC := Lib.hid (fun w' wx (h : (fun w' => (w'.cell? ⟨p7, 0, none⟩ = some (.int .i64 xa) ∧ w'.cell? ⟨p7, 1, none⟩ = some (.pointer xP) ∧ w'.cell? ⟨p7, 2, none⟩ = some (.int .i64 xb) ∧ w'.cell? ⟨p7, 3, none⟩ = some (.pointer xQ)) ∧ Below wk.heap.size wk w') w') (hb : Below w'.heap.size w' wx) => HS.out _ (below_on h.2 hb))
      have HI4 := Lib.hid (fun w' (h : (fun w' => (w'.cell? ⟨p7, 0, none⟩ = some (.int .i64 xa) ∧ w'.cell? ⟨p7, 1, none⟩ = some (.pointer xP) ∧ w'.cell? ⟨p7, 2, none⟩ = some (.int .i64 xb) ∧ w'.cell? ⟨p7, 3, none⟩ = some (.pointer xQ)) ∧ Below wk.heap.size wk w') w') => HI3.out xa xP xb xQ w' (V8.out.keep h.2).rat (Hw.out _ (below_on K4.out (below_on J4.out h.2))))
      go_wp2_with fail
      go_region_held3 (fun w' => (w'.cell? ⟨p7, 0, none⟩ = some (.int .i64 xa) ∧ w'.cell? ⟨p7, 1, none⟩ = some (.pointer xP) ∧ w'.cell? ⟨p7, 2, none⟩ = some (.int .i64 xb) ∧ w'.cell? ⟨p7, 3, none⟩ = some (.pointer xQ)) ∧ Below wk.heap.size wk w')
        (first
          | assumption
          | exact HS.out _ (Below.refl _ _).drew
          | exact HC.out _ _ (by assumption) (by assumption))
        (first
          | (go_at_call 48; refine (HRd.out _).mono ?_; rintro e w' ⟨rfl, hb⟩)
          | (go_at_call 17; refine (HI4.out _ (by assumption)).mono ?_; rintro e w' ⟨rfl, hb⟩))
      go_split_ands
      have hw3 : Below wk.heap.size wk w' := by assumption
      have J5 := Lib.hid (below_on J4.out hw3)
      go_wp2
      exact bodyPost_ret (v := .bool true) (by simp [results, Tryz.results8, go_sem]) rfl ⟨rfl, below_on K4.out J5.out⟩
end Go.Proofs.YtjcblcikipmojaaGreatDoor
