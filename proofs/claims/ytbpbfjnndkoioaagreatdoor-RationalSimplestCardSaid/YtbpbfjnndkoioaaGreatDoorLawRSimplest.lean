/- The law RationalSimplest: its walk. -/
import Derived.Test.YtbpbfjnndkoioaaGreatDoorRefS
namespace Go.Proofs.YtbpbfjnndkoioaaGreatDoor
open Go.RowKit

theorem ten47s {m : Nat} (h : m < ten 40) : m < base 47 := Nat.lt_of_lt_of_le h (by decide +kernel)
theorem cmpR_way (p q : Rat) : p ≤ q ∨ 0 < cmpR p q := by
  unfold cmpR cmpZ
  rcases Int.lt_or_le (q.num * (p.den : Int)) (p.num * (q.den : Int)) with h | h
  · refine .inr ?_
    rw [if_neg (by omega), if_pos h]
    decide
  · exact .inl ((Rat.le_iff p q).2 h)
theorem rat_refl (p : Rat) : p ≤ p := (Rat.le_iff p p).2 (Int.le_refl _)
theorem den7 {s : ByteArray} {q : Rat} (h : RS s q) (hs : s.size ≤ 7) : q.den ≤ 10000000 := by
  by_cases hd : q.den = 1
  · omega
  · have e := h.txt_
    unfold ratTxt at e
    rw [if_neg hd] at e
    have h1 := congrArg ByteArray.size e
    rw [size_cat] at h1
    have hl := @digN_sz (q.den : Int)
    have h7 := digN_lt ((q.den : Nat) : Int).natAbs
    rw [Int.natAbs_natCast] at h7 hl
    exact Nat.le_of_lt (Nat.lt_of_lt_of_le h7 (Nat.le_trans (ten_le (show _ ≤ 7 by omega)) (by decide)))
set_option maxRecDepth 100000 in
set_option maxHeartbeats 8000000 in
theorem rationalSimplest_walk (s t : ByteArray) (w : World) (hs : s.size ≤ 9223372036854775807) (ht : t.size ≤ 9223372036854775807) (hw : Good w) :
    Calls Tryz.prog 3 #[.string s, .string t] w fun e w' => e = .returned (.bool true) ∧ Below w.heap.size w w' := by
  have Hw := Lib.hid (fun w' (h : Below w.heap.size w w') => hw.below h)
  have Hk := Lib.hid (known2_true w hw)
  clear hw
  go_enter Tryz.func3, Tryz.ntmps3
  go_wp2_with fail
  refine Hk.out.mono ?_
  rintro e w1 ⟨rfl, h1⟩
  have k1 := Lib.hid h1
  have HR := Lib.hid (right_two s t w1 hs ht)
  clear h1
  go_wp2_with fail
  refine HR.out.mono ?_
  rintro e w2 ⟨⟨b0, rfl, hb0⟩, h2⟩
  have k2 := Lib.hid (below_on (below_on k1.out ((Below.refl _ _).alloc (Nat.le_refl _) _)) h2)
  have Hk2 := Lib.hid (known2_true w2 (Hw.out _ k2.out))
  have Hb0 := Lib.hid hb0
  clear h2 hb0
  cases b0 with
  | false =>
    go_wp2_with fail
    refine Hk2.out.mono ?_
    rintro e w3 ⟨rfl, h2⟩
    have k3 := Lib.hid (below_on k2.out h2)
    clear h2
    go_wp2
    go_ret
    exact ⟨rfl, k3.out⟩
  | true =>
    by_cases hbs : 7 < s.size
    · go_wp2_with fail
      refine Hk2.out.mono ?_
      rintro e w3 ⟨rfl, h2⟩
      have k3 := Lib.hid (below_on k2.out h2)
      clear h2
      go_wp2
      go_ret
      exact ⟨rfl, k3.out⟩
    by_cases hbt : 7 < t.size
    · go_wp2_with fail
      refine Hk2.out.mono ?_
      rintro e w3 ⟨rfl, h2⟩
      have k3 := Lib.hid (below_on k2.out h2)
      clear h2
      go_wp2
      go_ret
      exact ⟨rfl, k3.out⟩
    obtain ⟨p, hp⟩ := Hb0.out rfl s (List.mem_cons_self ..)
    obtain ⟨q, hq⟩ := Hb0.out rfl t (List.mem_cons_of_mem _ (List.mem_cons_self ..))
    have Hp := Lib.hid hp
    have Hq := Lib.hid hq
    have Hpd := Lib.hid (den7 hp (by omega))
    clear hp hq
    have HRp := Lib.hid (fun w' hg => rread_any Hp.out w' hg)
    have HRq := Lib.hid (fun w' hg => rread_any Hq.out w' hg)
    have HC := Lib.hid (fun w' => refCompareR_any Hp.out Hq.out w')
    go_wp2_with fail
    refine (HRp.out _ (Hw.out _ k2.out)).mono ?_
    rintro e w3 ⟨a, P, b, Q, rfl, hv, h3⟩
    have K3 := Lib.hid (below_on k2.out h3)
    have Hv := Lib.hid hv
    clear hv h3
    go_wp2_with fail
    refine (HRq.out _ (Hw.out _ K3.out)).mono ?_
    rintro e w4 ⟨c, U, d, V, rfl, hv, h4⟩
    have K4 := Lib.hid (below_on K3.out h4)
    have Hv := Lib.hid (Hv.out.keep h4)
    have Hu := Lib.hid hv
    clear hv h4
    obtain ⟨cv, hcv⟩ : ∃ cv, cmpR p q = cv := ⟨_, rfl⟩
    rw [hcv] at HC
    by_cases hgt : 0 < cv
    · have HS := Lib.hid (rsimplest_order a P b Q c U d V p q w4 Hv.out Hu.out (ten47s Hp.out.nlt) (ten47s Hp.out.dlt) (ten47s Hq.out.nlt) (ten47s Hq.out.dlt) (by rw [hcv]; exact hgt))
      have HI := Lib.hid (fun x X y Y w hr hg => is_true x X y Y 0 ⟨#[48]⟩ w hr (by decide +kernel) (by decide +kernel) (by decide +kernel) hg)
      have tc : decide (0 < cv) = true := decide_eq_true hgt
      clear hcv hgt
      go_wp2_with fail
      refine HS.out.mono ?_
      rintro e w5 ⟨rfl, h5⟩
      have kv := (Below.refl w5.heap.size w5).alloc (Nat.le_refl _) (.cells #[.int .i64 0, .pointer none, .int .i64 0, .pointer none] 28)
      have V := Lib.hid (VarR.new (rat_zero0 w5))
      have K5 := Lib.hid (below_on (below_on K4.out h5) kv)
      clear h5 kv
      go_wp2_with fail
      refine (HC.out _).mono ?_
      rintro e w6 ⟨rfl, h6⟩
      have V := Lib.hid (V.out.keep h6)
      have K6 := Lib.hid (below_on K5.out h6)
      clear h6
      have c0 := V.out.cells.c0
      have c1 := V.out.cells.c1
      have c2 := V.out.cells.c2
      have c3 := V.out.cells.c3
      go_wp2_with fail
      refine (HI.out _ _ _ _ _ V.out.rat (Hw.out _ K6.out)).mono ?_
      rintro e w7 ⟨rfl, h7⟩
      have K7 := Lib.hid (below_on K6.out h7)
      clear h7 c0 c1 c2 c3
      go_wp2
      go_ret
      exact ⟨rfl, K7.out⟩
    · have hle : p ≤ q := by
        rcases cmpR_way p q with h | h
        · exact h
        · exfalso; rw [hcv] at h; omega
      have HS := Lib.hid (rsimplest_any a P b Q c U d V p q w4 Hv.out Hu.out (ten47s Hp.out.nlt) (ten47s Hp.out.dlt) (ten47s Hq.out.nlt) (ten47s Hq.out.dlt) hle)
      have tc : decide (0 < cv) = false := decide_eq_false hgt
      clear hcv hgt
      go_wp2_with fail
      refine HS.out.mono ?_
      rintro e w5 ⟨m, hm, x, X, y, Y, rfl, hv, h5⟩
      have hmd : m.den ≤ 10000000 := Nat.le_trans (hm.least p (rat_refl p) hle).2 Hpd.out
      have hmn : m.num.natAbs < ten 40 := Nat.lt_of_le_of_lt (hm.least p (rat_refl p) hle).1 Hp.out.nlt
      have HF := Lib.hid (fun w => refSimplest_any Hp.out.few Hq.out.few hm hmd w)
      have HI := Lib.hid (fun x X y Y w hr hg => is_true x X y Y m (ratTxt m) w hr (Nat.lt_of_lt_of_le hmn (ten_le (by decide))) (Nat.lt_of_le_of_lt hmd (Nat.lt_of_lt_of_le (by decide : 10000000 < 10 ^ 40) (ten_le (by decide : 40 ≤ 3000)))) rfl hg)
      rw [Hp.out.txt_, Hq.out.txt_] at HF
      generalize ratTxt m = R at HF HI
      have kv := (Below.refl w5.heap.size w5).alloc (Nat.le_refl _) (.cells #[.int .i64 x, .pointer X, .int .i64 y, .pointer Y] 28)
      have W := Lib.hid (VarR.new hv)
      have K5 := Lib.hid (below_on (below_on K4.out h5) kv)
      obtain ⟨wx, hwx⟩ : ∃ u, w5.alloc (.cells #[.int .i64 x, .pointer X, .int .i64 y, .pointer Y] 28) = u := ⟨_, rfl⟩
      obtain ⟨p5, hp5⟩ : ∃ p, w5.heap.size = p := ⟨_, rfl⟩
      rw [hwx] at W K5
      rw [hp5] at W
      clear hv h5 kv hm hmd hmn
      go_wp2_with fail
      try simp only [hwx, hp5]
      clear hwx hp5
      refine (HC.out _).mono ?_
      rintro e w6 ⟨rfl, h6⟩
      have W := Lib.hid (W.out.keep h6)
      have K6 := Lib.hid (below_on K5.out h6)
      clear h6
      have HS := Lib.hid (fun w' (hb : Below w6.heap.size w6 w') => (⟨(W.out.keep hb).cells.c0, (W.out.keep hb).cells.c1, (W.out.keep hb).cells.c2, (W.out.keep hb).cells.c3, hb⟩ : w'.cell? ⟨p5, 0, none⟩ = some (.int .i64 x) ∧ w'.cell? ⟨p5, 1, none⟩ = some (.pointer X) ∧ w'.cell? ⟨p5, 2, none⟩ = some (.int .i64 y) ∧ w'.cell? ⟨p5, 3, none⟩ = some (.pointer Y) ∧ Below w6.heap.size w6 w'))
      have HK := Lib.hid (fun w' wx (h : (fun w' => w'.cell? ⟨p5, 0, none⟩ = some (.int .i64 x) ∧ w'.cell? ⟨p5, 1, none⟩ = some (.pointer X) ∧ w'.cell? ⟨p5, 2, none⟩ = some (.int .i64 y) ∧ w'.cell? ⟨p5, 3, none⟩ = some (.pointer Y) ∧ Below w6.heap.size w6 w') w') (hb : Below w'.heap.size w' wx) => HS.out _ (below_on h.2.2.2.2 hb))
      have HI1 := Lib.hid (fun w' (h : (fun w' => w'.cell? ⟨p5, 0, none⟩ = some (.int .i64 x) ∧ w'.cell? ⟨p5, 1, none⟩ = some (.pointer X) ∧ w'.cell? ⟨p5, 2, none⟩ = some (.int .i64 y) ∧ w'.cell? ⟨p5, 3, none⟩ = some (.pointer Y) ∧ Below w6.heap.size w6 w') w') => HI.out x X y Y w' (W.out.keep h.2.2.2.2).rat (Hw.out _ (below_on K6.out h.2.2.2.2)))
      go_wp2_with fail
      go_region_held3 (fun w' => w'.cell? ⟨p5, 0, none⟩ = some (.int .i64 x) ∧ w'.cell? ⟨p5, 1, none⟩ = some (.pointer X) ∧ w'.cell? ⟨p5, 2, none⟩ = some (.int .i64 y) ∧ w'.cell? ⟨p5, 3, none⟩ = some (.pointer Y) ∧ Below w6.heap.size w6 w')
        (first
          | assumption
          | exact HS.out _ (Below.refl _ _).drew
          | exact HK.out _ _ (by assumption) (by assumption))
        (first
          | (go_at_call 10; refine (HF.out _).mono ?_; rintro e w' ⟨rfl, hb⟩)
          | (go_at_call 9; refine (HI1.out _ (by assumption)).mono ?_; rintro e w' ⟨rfl, hb⟩))
      go_split_ands
      have hw3 : Below w6.heap.size w6 w' := by assumption
      have J7 := Lib.hid (below_on K6.out hw3)
      generalize w' = w7 at J7 ⊢
      clear hw3
      go_wp2
      go_ret
      exact ⟨rfl, J7.out⟩
end Go.Proofs.YtbpbfjnndkoioaaGreatDoor
