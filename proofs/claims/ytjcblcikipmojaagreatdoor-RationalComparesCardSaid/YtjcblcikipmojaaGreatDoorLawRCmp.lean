/- The law RationalCompares: its walk. -/
import Derived.Test.YtjcblcikipmojaaGreatDoorRatR
namespace Go.Proofs.YtjcblcikipmojaaGreatDoor
open Go.RowKit

set_option maxHeartbeats 8000000 in
theorem rmin_any (a : Int) (P : Option Addr) (b : Int) (Q : Option Addr) (c : Int) (U : Option Addr) (d : Int) (V : Option Addr) (p q : Rat) (w : World) (h : RatV w a P b Q p) (h' : RatV w c U d V q) (hpn : p.num.natAbs < base 47) (hpd : p.den < base 47) (hqn : q.num.natAbs < base 47) (hqd : q.den < base 47) :
    Calls Tryz.prog 51 #[.agg #[.int .i64 a, .pointer P, .int .i64 b, .pointer Q], .agg #[.int .i64 c, .pointer U, .int .i64 d, .pointer V]] w (NewRat (if cmpR p q ≤ 0 then p else q) w) := by
  have kk := (((Below.refl w.heap.size w).alloc (Nat.le_refl _) (.cells #[.int .i64 a, .pointer P, .int .i64 b, .pointer Q] 27)).alloc (by simp) (.cells #[.int .i64 c, .pointer U, .int .i64 d, .pointer V] 27)).alloc (by simp; omega) (.cells #[.int .i64 0, .pointer none, .int .i64 0, .pointer none] 27)
  have V0 := Lib.hid (((box_rat w a P b Q).keep ((Below.refl _ _).alloc (Nat.le_refl _) (.cells #[.int .i64 c, .pointer U, .int .i64 d, .pointer V] 27))).keep ((Below.refl _ _).alloc (Nat.le_refl _) (.cells #[.int .i64 0, .pointer none, .int .i64 0, .pointer none] 27)))
  have V1 := Lib.hid ((box_rat (w.alloc (.cells #[.int .i64 a, .pointer P, .int .i64 b, .pointer Q] 27)) c U d V).keep ((Below.refl _ _).alloc (Nat.le_refl _) (.cells #[.int .i64 0, .pointer none, .int .i64 0, .pointer none] 27)))
  have R := Lib.hid (Cells.new ((w.alloc (.cells #[.int .i64 a, .pointer P, .int .i64 b, .pointer Q] 27)).alloc (.cells #[.int .i64 c, .pointer U, .int .i64 d, .pointer V] 27)) #[.int .i64 0, .pointer none, .int .i64 0, .pointer none] 27)
  simp only [World.size_alloc] at V1 R
  have HC := Lib.hid (rcmp_any a P b Q c U d V p q _ (h.keep kk) (h'.keep kk) hpn hpd hqn hqd)
  have HP := Lib.hid (fun w' (hb : Below w.heap.size w w') => h.keep hb)
  have HQ := Lib.hid (fun w' (hb : Below w.heap.size w w') => h'.keep hb)
  have Kk := Lib.hid kk
  generalize cmpR p q = cv at HC ⊢
  clear h h' kk hpn hpd hqn hqd
  have c0 := V0.out.c0
  have c1 := V0.out.c1
  have c2 := V0.out.c2
  have c3 := V0.out.c3
  have d0 := V1.out.c0
  have d1 := V1.out.c1
  have d2 := V1.out.c2
  have d3 := V1.out.c3
  by_cases hle : cv ≤ 0
  · rw [if_pos hle]
    go_enter Tryz.func51, Tryz.ntmps51
    go_wp2_with fail
    refine HC.out.mono ?_
    rintro e w1 ⟨rfl, h1⟩
    have V0 := Lib.hid (V0.out.keep h1)
    have V1 := Lib.hid (V1.out.keep h1)
    have R := Lib.hid (R.out.keep h1)
    have K1 := Lib.hid (below_on Kk.out h1)
    have Hv := Lib.hid ((HP.out _ K1.out).wrote R.out (by rfl) (put4_heap w1 (w.heap.size + 1 + 1) (.int .i64 a) (.pointer P) (.int .i64 b) (.pointer Q)).1 (put4_heap _ _ _ _ _ _).2)
    have K2 := Lib.hid (below_put4 K1.out (show w.heap.size ≤ w.heap.size + 1 + 1 by omega) (.int .i64 a) (.pointer P) (.int .i64 b) (.pointer Q))
    clear h1 c0 c1 c2 c3 d0 d1 d2 d3
    have c0 := V0.out.c0
    have c1 := V0.out.c1
    have c2 := V0.out.c2
    have c3 := V0.out.c3
    have k0 := R.out.c0
    have k1 := R.out.c1
    have k2 := R.out.c2
    have k3 := R.out.c3
    have f0 := R.out.fz 0
    have f1 := R.out.fz 1
    have f2 := R.out.fz 2
    have f3 := R.out.fz 3
    go_wp2
    exact bodyPost_ret (v := .agg #[.int .i64 a, .pointer P, .int .i64 b, .pointer Q]) (by simp [results, Tryz.results51, go_sem, k0, k1, k2, k3]) rfl ⟨a, P, b, Q, rfl, Hv.out, K2.out⟩
  · rw [if_neg hle]
    go_enter Tryz.func51, Tryz.ntmps51
    go_wp2_with fail
    refine HC.out.mono ?_
    rintro e w1 ⟨rfl, h1⟩
    have V0 := Lib.hid (V0.out.keep h1)
    have V1 := Lib.hid (V1.out.keep h1)
    have R := Lib.hid (R.out.keep h1)
    have K1 := Lib.hid (below_on Kk.out h1)
    have Hv := Lib.hid ((HQ.out _ K1.out).wrote R.out (by rfl) (put4_heap w1 (w.heap.size + 1 + 1) (.int .i64 c) (.pointer U) (.int .i64 d) (.pointer V)).1 (put4_heap _ _ _ _ _ _).2)
    have K2 := Lib.hid (below_put4 K1.out (show w.heap.size ≤ w.heap.size + 1 + 1 by omega) (.int .i64 c) (.pointer U) (.int .i64 d) (.pointer V))
    clear h1 c0 c1 c2 c3 d0 d1 d2 d3
    have c0 := V1.out.c0
    have c1 := V1.out.c1
    have c2 := V1.out.c2
    have c3 := V1.out.c3
    have k0 := R.out.c0
    have k1 := R.out.c1
    have k2 := R.out.c2
    have k3 := R.out.c3
    have f0 := R.out.fz 0
    have f1 := R.out.fz 1
    have f2 := R.out.fz 2
    have f3 := R.out.fz 3
    go_wp2
    exact bodyPost_ret (v := .agg #[.int .i64 c, .pointer U, .int .i64 d, .pointer V]) (by simp [results, Tryz.results51, go_sem, k0, k1, k2, k3]) rfl ⟨c, U, d, V, rfl, Hv.out, K2.out⟩
set_option maxHeartbeats 8000000 in
theorem rmax_any (a : Int) (P : Option Addr) (b : Int) (Q : Option Addr) (c : Int) (U : Option Addr) (d : Int) (V : Option Addr) (p q : Rat) (w : World) (h : RatV w a P b Q p) (h' : RatV w c U d V q) (hpn : p.num.natAbs < base 47) (hpd : p.den < base 47) (hqn : q.num.natAbs < base 47) (hqd : q.den < base 47) :
    Calls Tryz.prog 53 #[.agg #[.int .i64 a, .pointer P, .int .i64 b, .pointer Q], .agg #[.int .i64 c, .pointer U, .int .i64 d, .pointer V]] w (NewRat (if 0 ≤ cmpR p q then p else q) w) := by
  have kk := (((Below.refl w.heap.size w).alloc (Nat.le_refl _) (.cells #[.int .i64 a, .pointer P, .int .i64 b, .pointer Q] 27)).alloc (by simp) (.cells #[.int .i64 c, .pointer U, .int .i64 d, .pointer V] 27)).alloc (by simp; omega) (.cells #[.int .i64 0, .pointer none, .int .i64 0, .pointer none] 27)
  have V0 := Lib.hid (((box_rat w a P b Q).keep ((Below.refl _ _).alloc (Nat.le_refl _) (.cells #[.int .i64 c, .pointer U, .int .i64 d, .pointer V] 27))).keep ((Below.refl _ _).alloc (Nat.le_refl _) (.cells #[.int .i64 0, .pointer none, .int .i64 0, .pointer none] 27)))
  have V1 := Lib.hid ((box_rat (w.alloc (.cells #[.int .i64 a, .pointer P, .int .i64 b, .pointer Q] 27)) c U d V).keep ((Below.refl _ _).alloc (Nat.le_refl _) (.cells #[.int .i64 0, .pointer none, .int .i64 0, .pointer none] 27)))
  have R := Lib.hid (Cells.new ((w.alloc (.cells #[.int .i64 a, .pointer P, .int .i64 b, .pointer Q] 27)).alloc (.cells #[.int .i64 c, .pointer U, .int .i64 d, .pointer V] 27)) #[.int .i64 0, .pointer none, .int .i64 0, .pointer none] 27)
  simp only [World.size_alloc] at V1 R
  have HC := Lib.hid (rcmp_any a P b Q c U d V p q _ (h.keep kk) (h'.keep kk) hpn hpd hqn hqd)
  have HP := Lib.hid (fun w' (hb : Below w.heap.size w w') => h.keep hb)
  have HQ := Lib.hid (fun w' (hb : Below w.heap.size w w') => h'.keep hb)
  have Kk := Lib.hid kk
  generalize cmpR p q = cv at HC ⊢
  clear h h' kk hpn hpd hqn hqd
  have c0 := V0.out.c0
  have c1 := V0.out.c1
  have c2 := V0.out.c2
  have c3 := V0.out.c3
  have d0 := V1.out.c0
  have d1 := V1.out.c1
  have d2 := V1.out.c2
  have d3 := V1.out.c3
  by_cases hle : 0 ≤ cv
  · rw [if_pos hle]
    go_enter Tryz.func53, Tryz.ntmps53
    go_wp2_with fail
    refine HC.out.mono ?_
    rintro e w1 ⟨rfl, h1⟩
    have V0 := Lib.hid (V0.out.keep h1)
    have V1 := Lib.hid (V1.out.keep h1)
    have R := Lib.hid (R.out.keep h1)
    have K1 := Lib.hid (below_on Kk.out h1)
    have Hv := Lib.hid ((HP.out _ K1.out).wrote R.out (by rfl) (put4_heap w1 (w.heap.size + 1 + 1) (.int .i64 a) (.pointer P) (.int .i64 b) (.pointer Q)).1 (put4_heap _ _ _ _ _ _).2)
    have K2 := Lib.hid (below_put4 K1.out (show w.heap.size ≤ w.heap.size + 1 + 1 by omega) (.int .i64 a) (.pointer P) (.int .i64 b) (.pointer Q))
    clear h1 c0 c1 c2 c3 d0 d1 d2 d3
    have c0 := V0.out.c0
    have c1 := V0.out.c1
    have c2 := V0.out.c2
    have c3 := V0.out.c3
    have k0 := R.out.c0
    have k1 := R.out.c1
    have k2 := R.out.c2
    have k3 := R.out.c3
    have f0 := R.out.fz 0
    have f1 := R.out.fz 1
    have f2 := R.out.fz 2
    have f3 := R.out.fz 3
    go_wp2
    exact bodyPost_ret (v := .agg #[.int .i64 a, .pointer P, .int .i64 b, .pointer Q]) (by simp [results, Tryz.results53, go_sem, k0, k1, k2, k3]) rfl ⟨a, P, b, Q, rfl, Hv.out, K2.out⟩
  · rw [if_neg hle]
    go_enter Tryz.func53, Tryz.ntmps53
    go_wp2_with fail
    refine HC.out.mono ?_
    rintro e w1 ⟨rfl, h1⟩
    have V0 := Lib.hid (V0.out.keep h1)
    have V1 := Lib.hid (V1.out.keep h1)
    have R := Lib.hid (R.out.keep h1)
    have K1 := Lib.hid (below_on Kk.out h1)
    have Hv := Lib.hid ((HQ.out _ K1.out).wrote R.out (by rfl) (put4_heap w1 (w.heap.size + 1 + 1) (.int .i64 c) (.pointer U) (.int .i64 d) (.pointer V)).1 (put4_heap _ _ _ _ _ _).2)
    have K2 := Lib.hid (below_put4 K1.out (show w.heap.size ≤ w.heap.size + 1 + 1 by omega) (.int .i64 c) (.pointer U) (.int .i64 d) (.pointer V))
    clear h1 c0 c1 c2 c3 d0 d1 d2 d3
    have c0 := V1.out.c0
    have c1 := V1.out.c1
    have c2 := V1.out.c2
    have c3 := V1.out.c3
    have k0 := R.out.c0
    have k1 := R.out.c1
    have k2 := R.out.c2
    have k3 := R.out.c3
    have f0 := R.out.fz 0
    have f1 := R.out.fz 1
    have f2 := R.out.fz 2
    have f3 := R.out.fz 3
    go_wp2
    exact bodyPost_ret (v := .agg #[.int .i64 c, .pointer U, .int .i64 d, .pointer V]) (by simp [results, Tryz.results53, go_sem, k0, k1, k2, k3]) rfl ⟨c, U, d, V, rfl, Hv.out, K2.out⟩
set_option maxHeartbeats 4000000 in
theorem refCompareR_any {s t : ByteArray} {p q : Rat} (h : RS s p) (h' : RS t q) (w : World) : Calls Tryz.prog 50 #[.string s, .string t] w fun e w' => e = .returned (.int .i64 (cmpR p q)) ∧ Below w.heap.size w w' := by
  obtain ⟨n1, n2⟩ := h.n5
  obtain ⟨m1, m2⟩ := h'.n5
  have hm : ∀ {x y : Int}, x.natAbs < ten 40 → y.natAbs < ten 40 → (txt (x * y)).size ≤ 5000 := fun {x y} hx hy => by
    have h1 : (x * y).natAbs < ten 80 := by
      rw [Int.natAbs_mul]
      exact Nat.lt_of_lt_of_le (Nat.mul_lt_mul'' hx hy) (by decide +kernel)
    have := txt_size (x * y) h1 (by decide)
    omega
  have HP := Lib.hid (fun w => refParts_any p w (by omega) (by omega))
  have HQ := Lib.hid (fun w => refParts_any q w (by omega) (by omega))
  rw [h.txt_] at HP
  rw [h'.txt_] at HQ
  have HA := Lib.hid (fun w => refMul_any p.num (q.den : Int) w (by omega) (by omega))
  have HB := Lib.hid (fun w => refMul_any q.num (p.den : Int) w (by omega) (by omega))
  have HC := Lib.hid (fun w => refCompare_any (p.num * (q.den : Int)) (q.num * (p.den : Int)) w (hm h.nlt (by rw [Int.natAbs_natCast]; exact h'.dlt)) (hm h'.nlt (by rw [Int.natAbs_natCast]; exact h.dlt)))
  have Hv := Lib.hid (show cmpZ (p.num * (q.den : Int)) (q.num * (p.den : Int)) = cmpR p q from rfl)
  rw [Hv.out] at HC
  clear n1 n2 m1 m2 hm Hv h h'
  generalize cmpR p q = cv at HC ⊢
  generalize txt (p.num * (q.den : Int)) = A at HA HC
  generalize txt (q.num * (p.den : Int)) = B at HB HC
  generalize txt p.num = A1 at HP HA
  generalize txt (p.den : Int) = A2 at HP HB
  generalize txt q.num = B1 at HQ HB
  generalize txt (q.den : Int) = B2 at HQ HA
  go_enter Tryz.func50, Tryz.ntmps50
  go_wp2_with fail
  refine (HP.out _).mono ?_
  rintro e w1 ⟨rfl, h1⟩
  have K1 := Lib.hid h1
  clear h1
  go_wp2_with fail
  refine (HQ.out _).mono ?_
  rintro e w2 ⟨rfl, h1⟩
  have K2 := Lib.hid (below_on K1.out h1)
  clear h1
  go_wp2_with fail
  refine (HA.out _).mono ?_
  rintro e w3 ⟨rfl, h1⟩
  have K3 := Lib.hid (below_on K2.out h1)
  clear h1
  go_wp2_with fail
  refine (HB.out _).mono ?_
  rintro e w4 ⟨rfl, h1⟩
  have K4 := Lib.hid (below_on K3.out h1)
  clear h1
  go_wp2_with fail
  refine (HC.out _).mono ?_
  rintro e w5 ⟨rfl, h1⟩
  have K5 := Lib.hid (below_on K4.out h1)
  clear h1
  go_wp2
  go_ret
  exact ⟨rfl, K5.out⟩
set_option maxHeartbeats 4000000 in
theorem refLeast_any {s t : ByteArray} {p q : Rat} (h : RS s p) (h' : RS t q) (w : World) : Calls Tryz.prog 52 #[.string s, .string t] w fun e w' => e = .returned (.string (if cmpR p q ≤ 0 then s else t)) ∧ Below w.heap.size w w' := by
  have HC := Lib.hid (fun w => refCompareR_any h h' w)
  clear h h'
  generalize cmpR p q = cv at HC ⊢
  by_cases hle : cv ≤ 0
  · rw [if_pos hle]
    go_enter Tryz.func52, Tryz.ntmps52
    go_wp2_with fail
    refine (HC.out _).mono ?_
    rintro e w1 ⟨rfl, h1⟩
    have K1 := Lib.hid h1
    clear h1
    go_wp2
    go_ret
    exact ⟨rfl, K1.out⟩
  · rw [if_neg hle]
    go_enter Tryz.func52, Tryz.ntmps52
    go_wp2_with fail
    refine (HC.out _).mono ?_
    rintro e w1 ⟨rfl, h1⟩
    have K1 := Lib.hid h1
    clear h1
    go_wp2
    go_ret
    exact ⟨rfl, K1.out⟩
set_option maxHeartbeats 4000000 in
theorem refMost_any {s t : ByteArray} {p q : Rat} (h : RS s p) (h' : RS t q) (w : World) : Calls Tryz.prog 54 #[.string s, .string t] w fun e w' => e = .returned (.string (if 0 ≤ cmpR p q then s else t)) ∧ Below w.heap.size w w' := by
  have HC := Lib.hid (fun w => refCompareR_any h h' w)
  clear h h'
  generalize cmpR p q = cv at HC ⊢
  by_cases hle : 0 ≤ cv
  · rw [if_pos hle]
    go_enter Tryz.func54, Tryz.ntmps54
    go_wp2_with fail
    refine (HC.out _).mono ?_
    rintro e w1 ⟨rfl, h1⟩
    have K1 := Lib.hid h1
    clear h1
    go_wp2
    go_ret
    exact ⟨rfl, K1.out⟩
  · rw [if_neg hle]
    go_enter Tryz.func54, Tryz.ntmps54
    go_wp2_with fail
    refine (HC.out _).mono ?_
    rintro e w1 ⟨rfl, h1⟩
    have K1 := Lib.hid h1
    clear h1
    go_wp2
    go_ret
    exact ⟨rfl, K1.out⟩
theorem right_two (s t : ByteArray) (w : World) (hs : s.size ≤ 9223372036854775807) (ht : t.size ≤ 9223372036854775807) :
    Calls Tryz.prog 25 #[.slice (some ⟨w.heap.size, 0, none⟩) 2 2] (w.alloc (.cells #[.string s, .string t] 9)) (RightR [s, t] (w.alloc (.cells #[.string s, .string t] 9))) :=
  rright_any [s, t] w.heap.size 2 _ rfl (by decide) (by decide) (by simp) (fun k u h => by
    match k, h with
    | 0, h => simp at h; subst h; simp [go_sem]
    | 1, h => simp at h; subst h; simp [go_sem]) (fun u h => by
    rcases List.mem_cons.1 h with rfl | h
    · exact hs
    · rw [List.mem_singleton.1 h]; exact ht)
theorem ten47 {m : Nat} (h : m < ten 40) : m < base 47 := Nat.lt_of_lt_of_le h (by decide +kernel)
set_option maxRecDepth 100000 in
set_option maxHeartbeats 8000000 in
theorem rationalCompares_walk (s t : ByteArray) (w : World) (hs : s.size ≤ 9223372036854775807) (ht : t.size ≤ 9223372036854775807) (hw : Good w) :
    Calls Tryz.prog 9 #[.string s, .string t] w fun e w' => e = .returned (.bool true) ∧ Below w.heap.size w w' := by
  have Hw := Lib.hid (fun w' (h : Below w.heap.size w w') => hw.below h)
  have Hk := Lib.hid (known2_true w hw)
  clear hw
  go_enter Tryz.func9, Tryz.ntmps9
  go_wp2_with fail
  refine Hk.out.mono ?_
  rintro e w1 ⟨rfl, h1⟩
  have k1 := Lib.hid h1
  have HR := Lib.hid (right_two s t w1 hs ht)
  clear h1
  go_wp2_with fail
  refine HR.out.mono ?_
  rintro e w2 ⟨⟨b0, rfl, hb0⟩, h2⟩
  have k2 := Lib.hid (below_on (below_on k1.out ((Below.refl _ _).alloc (Nat.le_refl _) _)) h2)
  have Hk2 := Lib.hid (known2_true w2 (Hw.out _ k2.out))
  have Hb0 := Lib.hid hb0
  clear h2 hb0
  cases b0 with
  | false =>
    go_wp2_with fail
    refine Hk2.out.mono ?_
    rintro e w3 ⟨rfl, h2⟩
    have k3 := Lib.hid (below_on k2.out h2)
    clear h2
    go_wp2
    go_ret
    exact ⟨rfl, k3.out⟩
  | true =>
    obtain ⟨p, hp⟩ := Hb0.out rfl s (List.mem_cons_self ..)
    obtain ⟨q, hq⟩ := Hb0.out rfl t (List.mem_cons_of_mem _ (List.mem_cons_self ..))
    have Hp := Lib.hid hp
    have Hq := Lib.hid hq
    clear hp hq
    have HRp := Lib.hid (fun w' hg => rread_any Hp.out w' hg)
    have HRq := Lib.hid (fun w' hg => rread_any Hq.out w' hg)
    go_wp2_with fail
    refine (HRp.out _ (Hw.out _ k2.out)).mono ?_
    rintro e w3 ⟨a, P, b, Q, rfl, hv, h3⟩
    have K3 := Lib.hid (below_on k2.out h3)
    have Hv := Lib.hid hv
    clear hv h3
    go_wp2_with fail
    refine (HRq.out _ (Hw.out _ K3.out)).mono ?_
    rintro e w4 ⟨c, U, d, V, rfl, hv, h4⟩
    have kv := (Below.refl w4.heap.size w4).alloc (Nat.le_refl _) (.cells #[.int .i64 a, .pointer P, .int .i64 b, .pointer Q] 27)
    have kv2 := (Below.refl w4.heap.size w4).alloc (Nat.le_refl _) (.cells #[.int .i64 a, .pointer P, .int .i64 b, .pointer Q] 27) |>.alloc (by simp) (.cells #[.int .i64 c, .pointer U, .int .i64 d, .pointer V] 27)
    have V6 := Lib.hid ((VarR.new (Hv.out.keep h4)).keep ((Below.refl _ _).alloc (Nat.le_refl _) (.cells #[.int .i64 c, .pointer U, .int .i64 d, .pointer V] 27)))
    have V7 := Lib.hid (VarR.new (hv.keep kv))
    have K4 := Lib.hid (below_on (below_on K3.out h4) kv2)
    simp only [World.size_alloc] at V7
    obtain ⟨wm, hwm⟩ : ∃ u, (w4.alloc (.cells #[.int .i64 a, .pointer P, .int .i64 b, .pointer Q] 27)).alloc (.cells #[.int .i64 c, .pointer U, .int .i64 d, .pointer V] 27) = u := ⟨_, rfl⟩
    rw [hwm] at V6 V7 K4
    obtain ⟨p6, hp6⟩ : ∃ p, w4.heap.size = p := ⟨_, rfl⟩
    rw [hp6] at V6 V7
    clear hv h4 kv kv2
    have nP := Lib.hid (ten47 Hp.out.nlt)
    have dP := Lib.hid (ten47 Hp.out.dlt)
    have nQ := Lib.hid (ten47 Hq.out.nlt)
    have dQ := Lib.hid (ten47 Hq.out.dlt)
    have RP := Lib.hid (fun w' (hb : Below wm.heap.size wm w') => (V6.out.keep hb).rat)
    have RQ := Lib.hid (fun w' (hb : Below wm.heap.size wm w') => (V7.out.keep hb).rat)
    have HC1 := Lib.hid (fun w' (hb : Below wm.heap.size wm w') => rcmp_any a P b Q c U d V p q w' (RP.out w' hb) (RQ.out w' hb) nP.out dP.out nQ.out dQ.out)
    have HC2 := Lib.hid (fun w' (hb : Below wm.heap.size wm w') => rcmp_any c U d V a P b Q q p w' (RQ.out w' hb) (RP.out w' hb) nQ.out dQ.out nP.out dP.out)
    have HC3 := Lib.hid (fun w' (hb : Below wm.heap.size wm w') => rcmp_any a P b Q a P b Q p p w' (RP.out w' hb) (RP.out w' hb) nP.out dP.out nP.out dP.out)
    rw [cmpR_self] at HC3
    have HR1 := Lib.hid (fun w' => refCompareR_any Hp.out Hq.out w')
    have HR2 := Lib.hid (fun w' => refCompareR_any Hq.out Hp.out w')
    have HMn := Lib.hid (fun w' (hb : Below wm.heap.size wm w') => rmin_any a P b Q c U d V p q w' (RP.out w' hb) (RQ.out w' hb) nP.out dP.out nQ.out dQ.out)
    have HMx := Lib.hid (fun w' (hb : Below wm.heap.size wm w') => rmax_any a P b Q c U d V p q w' (RP.out w' hb) (RQ.out w' hb) nP.out dP.out nQ.out dQ.out)
    have HLs := Lib.hid (fun w' => refLeast_any Hp.out Hq.out w')
    have HMs := Lib.hid (fun w' => refMost_any Hp.out Hq.out w')
    have HI := Lib.hid (fun (C : Prop) [Decidable C] x X y Y w' (hv : RatV w' x X y Y (if C then p else q)) (hg : Good w') => show Calls Tryz.prog 17 #[.agg #[.int .i64 x, .pointer X, .int .i64 y, .pointer Y], .string (if C then s else t)] w' (fun e w2 => e = .returned (.bool true) ∧ Below w'.heap.size w' w2) from is_true x X y Y _ _ w' hv (by split <;> exact Nat.lt_of_lt_of_le (by first | exact Hp.out.nlt | exact Hq.out.nlt) (ten_le (by decide))) (by split <;> exact Nat.lt_of_lt_of_le (by first | exact Hp.out.dlt | exact Hq.out.dlt) (ten_le (by decide))) (by split <;> first | exact Hp.out.txt_ | exact Hq.out.txt_) hg)
    have HI1 := Lib.hid (HI.out (cmpR p q ≤ 0))
    have HI2 := Lib.hid (HI.out (0 ≤ cmpR p q))
    obtain ⟨X1, hX1⟩ : ∃ X, (if cmpR p q ≤ 0 then s else t) = X := ⟨_, rfl⟩
    obtain ⟨X2, hX2⟩ : ∃ X, (if 0 ≤ cmpR p q then s else t) = X := ⟨_, rfl⟩
    obtain ⟨m1, hm1⟩ : ∃ X, (if cmpR p q ≤ 0 then p else q) = X := ⟨_, rfl⟩
    obtain ⟨m2, hm2⟩ : ∃ X, (if 0 ≤ cmpR p q then p else q) = X := ⟨_, rfl⟩
    rw [hX1] at HI1 HLs
    rw [hX2] at HI2 HMs
    rw [hm1] at HI1 HMn
    rw [hm2] at HI2 HMx
    obtain ⟨cv, hcv⟩ : ∃ x, cmpR p q = x := ⟨_, rfl⟩
    obtain ⟨cu, hcu⟩ : ∃ x, cmpR q p = x := ⟨_, rfl⟩
    rw [hcv] at HC1 HR1
    rw [hcu] at HC2 HR2
    clear hX1 hX2 hm1 hm2 hcv hcu HI
    have J0 := Lib.hid (Below.refl wm.heap.size wm)
    have c0 := V6.out.cells.c0
    have c1 := V6.out.cells.c1
    have c2 := V6.out.cells.c2
    have c3 := V6.out.cells.c3
    have d0 := V7.out.cells.c0
    have d1 := V7.out.cells.c1
    have d2 := V7.out.cells.c2
    have d3 := V7.out.cells.c3
    go_wp2_with fail
    try simp only [hwm, hp6]
    clear hwm hp6
    refine (HC1.out _ J0.out).mono ?_
    rintro e u1 ⟨rfl, h5⟩
    have V6 := Lib.hid (V6.out.keep h5)
    have V7 := Lib.hid (V7.out.keep h5)
    have J1 := Lib.hid (below_on J0.out h5)
    clear h5
    clear c0 c1 c2 c3
    clear d0 d1 d2 d3
    have c0 := V6.out.cells.c0
    have c1 := V6.out.cells.c1
    have c2 := V6.out.cells.c2
    have c3 := V6.out.cells.c3
    have d0 := V7.out.cells.c0
    have d1 := V7.out.cells.c1
    have d2 := V7.out.cells.c2
    have d3 := V7.out.cells.c3
    go_wp2_with fail
    refine (HR1.out _).mono ?_
    rintro e u2 ⟨rfl, h5⟩
    have V6 := Lib.hid (V6.out.keep h5)
    have V7 := Lib.hid (V7.out.keep h5)
    have J2 := Lib.hid (below_on J1.out h5)
    clear h5
    clear c0 c1 c2 c3
    clear d0 d1 d2 d3
    have c0 := V6.out.cells.c0
    have c1 := V6.out.cells.c1
    have c2 := V6.out.cells.c2
    have c3 := V6.out.cells.c3
    have d0 := V7.out.cells.c0
    have d1 := V7.out.cells.c1
    have d2 := V7.out.cells.c2
    have d3 := V7.out.cells.c3
    go_wp2_with fail
    refine (HC2.out _ J2.out).mono ?_
    rintro e u3 ⟨rfl, h5⟩
    have V6 := Lib.hid (V6.out.keep h5)
    have V7 := Lib.hid (V7.out.keep h5)
    have J3 := Lib.hid (below_on J2.out h5)
    clear h5
    clear c0 c1 c2 c3
    clear d0 d1 d2 d3
    have c0 := V6.out.cells.c0
    have c1 := V6.out.cells.c1
    have c2 := V6.out.cells.c2
    have c3 := V6.out.cells.c3
    have d0 := V7.out.cells.c0
    have d1 := V7.out.cells.c1
    have d2 := V7.out.cells.c2
    have d3 := V7.out.cells.c3
    go_wp2_with fail
    refine (HR2.out _).mono ?_
    rintro e u4 ⟨rfl, h5⟩
    have V6 := Lib.hid (V6.out.keep h5)
    have V7 := Lib.hid (V7.out.keep h5)
    have J4 := Lib.hid (below_on J3.out h5)
    clear h5
    clear c0 c1 c2 c3
    clear d0 d1 d2 d3
    have c0 := V6.out.cells.c0
    have c1 := V6.out.cells.c1
    have c2 := V6.out.cells.c2
    have c3 := V6.out.cells.c3
    have d0 := V7.out.cells.c0
    have d1 := V7.out.cells.c1
    have d2 := V7.out.cells.c2
    have d3 := V7.out.cells.c3
    go_wp2_with fail
    refine (HC3.out _ J4.out).mono ?_
    rintro e u5 ⟨rfl, h5⟩
    have V6 := Lib.hid (V6.out.keep h5)
    have V7 := Lib.hid (V7.out.keep h5)
    have J5 := Lib.hid (below_on J4.out h5)
    clear h5
    clear c0 c1 c2 c3
    clear d0 d1 d2 d3
    have c0 := V6.out.cells.c0
    have c1 := V6.out.cells.c1
    have c2 := V6.out.cells.c2
    have c3 := V6.out.cells.c3
    have d0 := V7.out.cells.c0
    have d1 := V7.out.cells.c1
    have d2 := V7.out.cells.c2
    have d3 := V7.out.cells.c3
    go_wp2_with fail
    refine (HMn.out _ J5.out).mono ?_
    rintro e u6 ⟨x1, y1, x2, y2, rfl, hm, h5⟩
    have V6 := Lib.hid (V6.out.keep h5)
    have V7 := Lib.hid (V7.out.keep h5)
    have Hm := Lib.hid hm
    clear hm
    have J6 := Lib.hid (below_on J5.out h5)
    clear h5
    clear c0 c1 c2 c3
    clear d0 d1 d2 d3
    have c0 := V6.out.cells.c0
    have c1 := V6.out.cells.c1
    have c2 := V6.out.cells.c2
    have c3 := V6.out.cells.c3
    have d0 := V7.out.cells.c0
    have d1 := V7.out.cells.c1
    have d2 := V7.out.cells.c2
    have d3 := V7.out.cells.c3
    go_wp2_with fail
    refine (HLs.out _).mono ?_
    rintro e u7 ⟨rfl, h5⟩
    have V6 := Lib.hid (V6.out.keep h5)
    have V7 := Lib.hid (V7.out.keep h5)
    have Hm := Lib.hid (Hm.out.keep h5)
    have J7 := Lib.hid (below_on J6.out h5)
    clear h5
    clear c0 c1 c2 c3
    clear d0 d1 d2 d3
    have c0 := V6.out.cells.c0
    have c1 := V6.out.cells.c1
    have c2 := V6.out.cells.c2
    have c3 := V6.out.cells.c3
    have d0 := V7.out.cells.c0
    have d1 := V7.out.cells.c1
    have d2 := V7.out.cells.c2
    have d3 := V7.out.cells.c3
    go_wp2_with fail
    refine (HI1.out _ _ _ _ _ Hm.out (Hw.out _ (below_on K4.out J7.out))).mono ?_
    rintro e u8 ⟨rfl, h5⟩
    have V6 := Lib.hid (V6.out.keep h5)
    have V7 := Lib.hid (V7.out.keep h5)
    have J8 := Lib.hid (below_on J7.out h5)
    clear h5
    clear c0 c1 c2 c3
    clear d0 d1 d2 d3
    have c0 := V6.out.cells.c0
    have c1 := V6.out.cells.c1
    have c2 := V6.out.cells.c2
    have c3 := V6.out.cells.c3
    have d0 := V7.out.cells.c0
    have d1 := V7.out.cells.c1
    have d2 := V7.out.cells.c2
    have d3 := V7.out.cells.c3
    go_wp2_with fail
    refine (HMx.out _ J8.out).mono ?_
    rintro e u9 ⟨x3, y3, x4, y4, rfl, hm, h5⟩
    have V6 := Lib.hid (V6.out.keep h5)
    have V7 := Lib.hid (V7.out.keep h5)
    have Hm := Lib.hid hm
    clear hm
    have J9 := Lib.hid (below_on J8.out h5)
    clear h5
    clear c0 c1 c2 c3
    clear d0 d1 d2 d3
    have c0 := V6.out.cells.c0
    have c1 := V6.out.cells.c1
    have c2 := V6.out.cells.c2
    have c3 := V6.out.cells.c3
    have d0 := V7.out.cells.c0
    have d1 := V7.out.cells.c1
    have d2 := V7.out.cells.c2
    have d3 := V7.out.cells.c3
    go_wp2_with fail
    refine (HMs.out _).mono ?_
    rintro e u10 ⟨rfl, h5⟩
    have V6 := Lib.hid (V6.out.keep h5)
    have V7 := Lib.hid (V7.out.keep h5)
    have Hm := Lib.hid (Hm.out.keep h5)
    have J10 := Lib.hid (below_on J9.out h5)
    clear h5
    clear c0 c1 c2 c3
    clear d0 d1 d2 d3
    have c0 := V6.out.cells.c0
    have c1 := V6.out.cells.c1
    have c2 := V6.out.cells.c2
    have c3 := V6.out.cells.c3
    have d0 := V7.out.cells.c0
    have d1 := V7.out.cells.c1
    have d2 := V7.out.cells.c2
    have d3 := V7.out.cells.c3
    go_wp2_with fail
    refine (HI2.out _ _ _ _ _ Hm.out (Hw.out _ (below_on K4.out J10.out))).mono ?_
    rintro e u11 ⟨rfl, h5⟩
    have V6 := Lib.hid (V6.out.keep h5)
    have V7 := Lib.hid (V7.out.keep h5)
    have J11 := Lib.hid (below_on J10.out h5)
    clear h5
    clear c0 c1 c2 c3
    clear d0 d1 d2 d3
    go_wp2
    exact bodyPost_ret (v := .bool true) (by simp [results, Tryz.results9, go_sem]) rfl ⟨rfl, below_on K4.out J11.out⟩
end Go.Proofs.YtjcblcikipmojaaGreatDoor
