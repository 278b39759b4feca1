/- The lesser and the greater one of two rationals. -/
import Derived.Test.YtjcblcikipmojaaGreatDoorRatR
namespace Go.Proofs.YtjcblcikipmojaaGreatDoor
open Go.RowKit

set_option maxHeartbeats 8000000 in
theorem rmin_any (a : Int) (P : Option Addr) (b : Int) (Q : Option Addr) (c : Int) (U : Option Addr) (d : Int) (V : Option Addr) (p q : Rat) (w : World) (h : RatV w a P b Q p) (h' : RatV w c U d V q) (hpn : p.num.natAbs < base 47) (hpd : p.den < base 47) (hqn : q.num.natAbs < base 47) (hqd : q.den < base 47) :
    Calls Tryz.prog 51 #[.agg #[.int .i64 a, .pointer P, .int .i64 b, .pointer Q], .agg #[.int .i64 c, .pointer U, .int .i64 d, .pointer V]] w (NewRat (if cmpR p q ≤ 0 then p else q) w) := by
  have kk := (((Below.refl w.heap.size w).alloc (Nat.le_refl _) (.cells #[.int .i64 a, .pointer P, .int .i64 b, .pointer Q] 27)).alloc (by simp) (.cells #[.int .i64 c, .pointer U, .int .i64 d, .pointer V] 27)).alloc (by simp; omega) (.cells #[.int .i64 0, .pointer none, .int .i64 0, .pointer none] 27)
  have V0 := Lib.hid (((box_rat w a P b Q).keep ((Below.refl _ _).alloc (Nat.le_refl _) (.cells #[.int .i64 c, .pointer U, .int .i64 d, .pointer V] 27))).keep ((Below.refl _ _).alloc (Nat.le_refl _) (.cells #[.int .i64 0, .pointer none, .int .i64 0, .pointer none] 27)))
  have V1 := Lib.hid ((box_rat (w.alloc (.cells #[.int .i64 a, .pointer P, .int .i64 b, .pointer Q] 27)) c U d V).keep ((Below.refl _ _).alloc (Nat.le_refl _) (.cells #[.int .i64 0, .pointer none, .int .i64 0, .pointer none] 27)))
  have R := Lib.hid (Cells.new ((w.alloc (.cells #[.int .i64 a, .pointer P, .int .i64 b, .pointer Q] 27)).alloc (.cells #[.int .i64 c, .pointer U, .int .i64 d, .pointer V] 27)) #[.int .i64 0, .pointer none, .int .i64 0, .pointer none] 27)
  simp only [World.size_alloc] at V1 R
  have HC := Lib.hid (rcmp_any a P b Q c U d V p q _ (h.keep kk) (h'.keep kk) hpn hpd hqn hqd)
  have HP := Lib.hid (fun w' (hb : Below w.heap.size w w') => h.keep hb)
  have HQ := Lib.hid (fun w' (hb : Below w.heap.size w w') => h'.keep hb)
  have Kk := Lib.hid kk
  generalize cmpR p q = cv at HC ⊢
  clear h h' kk hpn hpd hqn hqd
  have c0 := V0.out.c0
  have c1 := V0.out.c1
  have c2 := V0.out.c2
  have c3 := V0.out.c3
  have d0 := V1.out.c0
  have d1 := V1.out.c1
  have d2 := V1.out.c2
  have d3 := V1.out.c3
  by_cases hle : cv ≤ 0
  · rw [if_pos hle]
    go_enter Tryz.func51, Tryz.ntmps51
    go_wp2_with fail
    refine HC.out.mono ?_
    rintro e w1 ⟨rfl, h1⟩
    have V0 := Lib.hid (V0.out.keep h1)
    have V1 := Lib.hid (V1.out.keep h1)
    have R := Lib.hid (R.out.keep h1)
    have K1 := Lib.hid (below_on Kk.out h1)
    have Hv := Lib.hid ((HP.out _ K1.out).wrote R.out (by rfl) (put4_heap w1 (w.heap.size + 1 + 1) (.int .i64 a) (.pointer P) (.int .i64 b) (.pointer Q)).1 (put4_heap _ _ _ _ _ _).2)
    have K2 := Lib.hid (below_put4 K1.out (show w.heap.size ≤ w.heap.size + 1 + 1 by omega) (.int .i64 a) (.pointer P) (.int .i64 b) (.pointer Q))
    clear h1 c0 c1 c2 c3 d0 d1 d2 d3
    have c0 := V0.out.c0
    have c1 := V0.out.c1
    have c2 := V0.out.c2
    have c3 := V0.out.c3
    have k0 := R.out.c0
    have k1 := R.out.c1
    have k2 := R.out.c2
    have k3 := R.out.c3
    have f0 := R.out.fz 0
    have f1 := R.out.fz 1
    have f2 := R.out.fz 2
    have f3 := R.out.fz 3
    go_wp2
    exact bodyPost_ret (v := .agg #[.int .i64 a, .pointer P, .int .i64 b, .pointer Q]) (by simp [results, Tryz.results51, go_sem, k0, k1, k2, k3]) rfl ⟨a, P, b, Q, rfl, Hv.out, K2.out⟩
  · rw [if_neg hle]
    go_enter Tryz.func51, Tryz.ntmps51
    go_wp2_with fail
    refine HC.out.mono ?_
    rintro e w1 ⟨rfl, h1⟩
    have V0 := Lib.hid (V0.out.keep h1)
    have V1 := Lib.hid (V1.out.keep h1)
    have R := Lib.hid (R.out.keep h1)
    have K1 := Lib.hid (below_on Kk.out h1)
    have Hv := Lib.hid ((HQ.out _ K1.out).wrote R.out (by rfl) (put4_heap w1 (w.heap.size + 1 + 1) (.int .i64 c) (.pointer U) (.int .i64 d) (.pointer V)).1 (put4_heap _ _ _ _ _ _).2)
    have K2 := Lib.hid (below_put4 K1.out (show w.heap.size ≤ w.heap.size + 1 + 1 by omega) (.int .i64 c) (.pointer U) (.int .i64 d) (.pointer V))
    clear h1 c0 c1 c2 c3 d0 d1 d2 d3
    have c0 := V1.out.c0
    have c1 := V1.out.c1
    have c2 := V1.out.c2
    have c3 := V1.out.c3
    have k0 := R.out.c0
    have k1 := R.out.c1
    have k2 := R.out.c2
    have k3 := R.out.c3
    have f0 := R.out.fz 0
    have f1 := R.out.fz 1
    have f2 := R.out.fz 2
    have f3 := R.out.fz 3
    go_wp2
    exact bodyPost_ret (v := .agg #[.int .i64 c, .pointer U, .int .i64 d, .pointer V]) (by simp [results, Tryz.results51, go_sem, k0, k1, k2, k3]) rfl ⟨c, U, d, V, rfl, Hv.out, K2.out⟩
set_option maxHeartbeats 8000000 in
theorem rmax_any (a : Int) (P : Option Addr) (b : Int) (Q : Option Addr) (c : Int) (U : Option Addr) (d : Int) (V : Option Addr) (p q : Rat) (w : World) (h : RatV w a P b Q p) (h' : RatV w c U d V q) (hpn : p.num.natAbs < base 47) (hpd : p.den < base 47) (hqn : q.num.natAbs < base 47) (hqd : q.den < base 47) :
    Calls Tryz.prog 53 #[.agg #[.int .i64 a, .pointer P, .int .i64 b, .pointer Q], .agg #[.int .i64 c, .pointer U, .int .i64 d, .pointer V]] w (NewRat (if 0 ≤ cmpR p q then p else q) w) := by
  have kk := (((Below.refl w.heap.size w).alloc (Nat.le_refl _) (.cells #[.int .i64 a, .pointer P, .int .i64 b, .pointer Q] 27)).alloc (by simp) (.cells #[.int .i64 c, .pointer U, .int .i64 d, .pointer V] 27)).alloc (by simp; omega) (.cells #[.int .i64 0, .pointer none, .int .i64 0, .pointer none] 27)
  have V0 := Lib.hid (((box_rat w a P b Q).keep ((Below.refl _ _).alloc (Nat.le_refl _) (.cells #[.int .i64 c, .pointer U, .int .i64 d, .pointer V] 27))).keep ((Below.refl _ _).alloc (Nat.le_refl _) (.cells #[.int .i64 0, .pointer none, .int .i64 0, .pointer none] 27)))
  have V1 := Lib.hid ((box_rat (w.alloc (.cells #[.int .i64 a, .pointer P, .int .i64 b, .pointer Q] 27)) c U d V).keep ((Below.refl _ _).alloc (Nat.le_refl _) (.cells #[.int .i64 0, .pointer none, .int .i64 0, .pointer none] 27)))
  have R := Lib.hid (Cells.new ((w.alloc (.cells #[.int .i64 a, .pointer P, .int .i64 b, .pointer Q] 27)).alloc (.cells #[.int .i64 c, .pointer U, .int .i64 d, .pointer V] 27)) #[.int .i64 0, .pointer none, .int .i64 0, .pointer none] 27)
  simp only [World.size_alloc] at V1 R
  have HC := Lib.hid (rcmp_any a P b Q c U d V p q _ (h.keep kk) (h'.keep kk) hpn hpd hqn hqd)
  have HP := Lib.hid (fun w' (hb : Below w.heap.size w w') => h.keep hb)
  have HQ := Lib.hid (fun w' (hb : Below w.heap.size w w') => h'.keep hb)
  have Kk := Lib.hid kk
  generalize cmpR p q = cv at HC ⊢
  clear h h' kk hpn hpd hqn hqd
  have c0 := V0.out.c0
  have c1 := V0.out.c1
  have c2 := V0.out.c2
  have c3 := V0.out.c3
  have d0 := V1.out.c0
  have d1 := V1.out.c1
  have d2 := V1.out.c2
  have d3 := V1.out.c3
  by_cases hle : 0 ≤ cv
  · rw [if_pos hle]
    go_enter Tryz.func53, Tryz.ntmps53
    go_wp2_with fail
    refine HC.out.mono ?_
    rintro e w1 ⟨rfl, h1⟩
    have V0 := Lib.hid (V0.out.keep h1)
    have V1 := Lib.hid (V1.out.keep h1)
    have R := Lib.hid (R.out.keep h1)
    have K1 := Lib.hid (below_on Kk.out h1)
    have Hv := Lib.hid ((HP.out _ K1.out).wrote R.out (by rfl) (put4_heap w1 (w.heap.size + 1 + 1) (.int .i64 a) (.pointer P) (.int .i64 b) (.pointer Q)).1 (put4_heap _ _ _ _ _ _).2)
    have K2 := Lib.hid (below_put4 K1.out (show w.heap.size ≤ w.heap.size + 1 + 1 by omega) (.int .i64 a) (.pointer P) (.int .i64 b) (.pointer Q))
    clear h1 c0 c1 c2 c3 d0 d1 d2 d3
    have c0 := V0.out.c0
    have c1 := V0.out.c1
    have c2 := V0.out.c2
    have c3 := V0.out.c3
    have k0 := R.out.c0
    have k1 := R.out.c1
    have k2 := R.out.c2
    have k3 := R.out.c3
    have f0 := R.out.fz 0
    have f1 := R.out.fz 1
    have f2 := R.out.fz 2
    have f3 := R.out.fz 3
    go_wp2
    exact bodyPost_ret (v := .agg #[.int .i64 a, .pointer P, .int .i64 b, .pointer Q]) (by simp [results, Tryz.results53, go_sem, k0, k1, k2, k3]) rfl ⟨a, P, b, Q, rfl, Hv.out, K2.out⟩
  · rw [if_neg hle]
    go_enter Tryz.func53, Tryz.ntmps53
    go_wp2_with fail
    refine HC.out.mono ?_
    rintro e w1 ⟨rfl, h1⟩
    have V0 := Lib.hid (V0.out.keep h1)
    have V1 := Lib.hid (V1.out.keep h1)
    have R := Lib.hid (R.out.keep h1)
    have K1 := Lib.hid (below_on Kk.out h1)
    have Hv := Lib.hid ((HQ.out _ K1.out).wrote R.out (by rfl) (put4_heap w1 (w.heap.size + 1 + 1) (.int .i64 c) (.pointer U) (.int .i64 d) (.pointer V)).1 (put4_heap _ _ _ _ _ _).2)
    have K2 := Lib.hid (below_put4 K1.out (show w.heap.size ≤ w.heap.size + 1 + 1 by omega) (.int .i64 c) (.pointer U) (.int .i64 d) (.pointer V))
    clear h1 c0 c1 c2 c3 d0 d1 d2 d3
    have c0 := V1.out.c0
    have c1 := V1.out.c1
    have c2 := V1.out.c2
    have c3 := V1.out.c3
    have k0 := R.out.c0
    have k1 := R.out.c1
    have k2 := R.out.c2
    have k3 := R.out.c3
    have f0 := R.out.fz 0
    have f1 := R.out.fz 1
    have f2 := R.out.fz 2
    have f3 := R.out.fz 3
    go_wp2
    exact bodyPost_ret (v := .agg #[.int .i64 c, .pointer U, .int .i64 d, .pointer V]) (by simp [results, Tryz.results53, go_sem, k0, k1, k2, k3]) rfl ⟨c, U, d, V, rfl, Hv.out, K2.out⟩
end Go.Proofs.YtjcblcikipmojaaGreatDoor
