/- The examples of layer 2's chapter. -/
import Derived.Test.YtjcblcikipmojaaGreatDoorRatF
import Derived.Test.YtjcblcikipmojaaGreatDoorRatG
namespace Go.Proofs.YtjcblcikipmojaaGreatDoor
open Go.RowKit

/-- A variable that holds a rational. -/
structure VarR (w : World) (p : Nat) (a : Int) (P : Option Addr) (b : Int) (Q : Option Addr) (q : Rat) : Prop where
  cells : Cells w p [.int .i64 a, .pointer P, .int .i64 b, .pointer Q]
  rat : RatV w a P b Q q
theorem VarR.keep {w w' : World} {p : Nat} {a b : Int} {P Q : Option Addr} {q : Rat} (h : VarR w p a P b Q q) (hb : Below w.heap.size w w') : VarR w' p a P b Q q := ⟨h.cells.keep hb, h.rat.keep hb⟩
theorem VarR.new {w : World} {a b : Int} {P Q : Option Addr} {q : Rat} (h : RatV w a P b Q q) : VarR (w.alloc (.cells #[.int .i64 a, .pointer P, .int .i64 b, .pointer Q] 27)) w.heap.size a P b Q q :=
  ⟨box_rat w a P b Q, h.keep ((Below.refl w.heap.size w).alloc (Nat.le_refl _) _)⟩
/-- is, where it is so. -/
theorem is_true (a : Int) (P : Option Addr) (b : Int) (Q : Option Addr) (q : Rat) (s : ByteArray) (w : World) (h : RatV w a P b Q q) (hn : q.num.natAbs < ten 3000) (hd : q.den < ten 3000) (hs : ratTxt q = s) (hg : Good w) :
    Calls Tryz.prog 17 #[.agg #[.int .i64 a, .pointer P, .int .i64 b, .pointer Q], .string s] w fun e w' => e = .returned (.bool true) ∧ Below w.heap.size w w' := by
  have kk := (Below.refl w.heap.size w).alloc (Nat.le_refl _) (.cells #[.int .i64 a, .pointer P, .int .i64 b, .pointer Q] 27)
  have HN := Lib.hid (number_any a P b Q q _ (h.keep kk) hn hd (hg.below kk))
  rw [hs] at HN
  have Kk := Lib.hid kk
  clear h hn hd hs hg kk
  go_enter Tryz.func17, Tryz.ntmps17
  go_wp2_with fail
  refine HN.out.mono ?_
  rintro e w1 ⟨rfl, h1⟩
  have K1 := Lib.hid (below_on Kk.out h1)
  clear h1
  go_wp2
  go_ret
  exact ⟨by simp, K1.out⟩
set_option maxRecDepth 100000 in
set_option maxHeartbeats 8000000 in
theorem known2_true (w : World) (hg : Good w) : Calls Tryz.prog 13 #[] w fun e w' => e = .returned (.bool true) ∧ Below w.heap.size w w' := by
  have Hw := Lib.hid (fun w' (hb : Below w.heap.size w w') => hg.below hb)
  have K0 := Lib.hid (Below.refl w.heap.size w)
  clear hg
  go_enter Tryz.func13, Tryz.ntmps13
  go_wp2_with fail
  refine (from_any _ _).mono ?_
  rintro e x1 ⟨rfl, h1⟩
  have k1 := Lib.hid (below_on K0.out h1)
  clear h1
  go_wp2_with fail
  refine (from_any _ _).mono ?_
  rintro e y1 ⟨rfl, h1⟩
  have k2 := Lib.hid (below_on k1.out h1)
  clear h1
  go_wp2_with fail
  refine (make_any (6) none (-4) none (6) (-4) _ (small_int ⟨by decide, by decide⟩) (small_int ⟨by decide, by decide⟩) (by decide) (by decide +kernel) (by decide +kernel) (Hw.out _ k2.out)).mono ?_
  rintro e z1 ⟨a1, P1, b1, Q1, rfl, hv, h1⟩
  have kv := (Below.refl z1.heap.size z1).alloc (Nat.le_refl _) (.cells #[.int .i64 a1, .pointer P1, .int .i64 b1, .pointer Q1] 27)
  have V1 := Lib.hid (VarR.new hv)
  have K1 := Lib.hid (below_on (below_on k2.out h1) kv)
  obtain ⟨p1, hp1⟩ : ∃ p, z1.heap.size = p := ⟨_, rfl⟩
  obtain ⟨w1, hw1⟩ : ∃ u, z1.alloc (.cells #[.int .i64 a1, .pointer P1, .int .i64 b1, .pointer Q1] 27) = u := ⟨_, rfl⟩
  rw [hw1] at K1 V1
  rw [hp1] at V1
  clear h1 hv kv k1 k2
  go_wp2_with fail
  refine (from_any _ _).mono ?_
  rintro e x2 ⟨rfl, h1⟩
  have k1 := Lib.hid (below_on K1.out h1)
  have V1 := Lib.hid (V1.out.keep h1)
  clear h1
  go_wp2_with fail
  refine (from_any _ _).mono ?_
  rintro e y2 ⟨rfl, h1⟩
  have k2 := Lib.hid (below_on k1.out h1)
  have V1 := Lib.hid (V1.out.keep h1)
  clear h1
  go_wp2_with fail
  refine (make_any (1) none (2) none (1) (2) _ (small_int ⟨by decide, by decide⟩) (small_int ⟨by decide, by decide⟩) (by decide) (by decide +kernel) (by decide +kernel) (Hw.out _ k2.out)).mono ?_
  rintro e z2 ⟨a2, P2, b2, Q2, rfl, hv, h1⟩
  have kv := (Below.refl z2.heap.size z2).alloc (Nat.le_refl _) (.cells #[.int .i64 a2, .pointer P2, .int .i64 b2, .pointer Q2] 27)
  have V2 := Lib.hid (VarR.new hv)
  have K2 := Lib.hid (below_on (below_on k2.out h1) kv)
  have V1 := Lib.hid ((V1.out.keep h1).keep kv)
  obtain ⟨p2, hp2⟩ : ∃ p, z2.heap.size = p := ⟨_, rfl⟩
  obtain ⟨w2, hw2⟩ : ∃ u, z2.alloc (.cells #[.int .i64 a2, .pointer P2, .int .i64 b2, .pointer Q2] 27) = u := ⟨_, rfl⟩
  rw [hw2] at K2 V1 V2
  rw [hp2] at V2
  clear h1 hv kv k1 k2
  go_wp2_with fail
  refine (from_any _ _).mono ?_
  rintro e x3 ⟨rfl, h1⟩
  have k1 := Lib.hid (below_on K2.out h1)
  have V1 := Lib.hid (V1.out.keep h1)
  have V2 := Lib.hid (V2.out.keep h1)
  clear h1
  go_wp2_with fail
  refine (from_any _ _).mono ?_
  rintro e y3 ⟨rfl, h1⟩
  have k2 := Lib.hid (below_on k1.out h1)
  have V1 := Lib.hid (V1.out.keep h1)
  have V2 := Lib.hid (V2.out.keep h1)
  clear h1
  go_wp2_with fail
  refine (make_any (1) none (3) none (1) (3) _ (small_int ⟨by decide, by decide⟩) (small_int ⟨by decide, by decide⟩) (by decide) (by decide +kernel) (by decide +kernel) (Hw.out _ k2.out)).mono ?_
  rintro e z3 ⟨a3, P3, b3, Q3, rfl, hv, h1⟩
  have kv := (Below.refl z3.heap.size z3).alloc (Nat.le_refl _) (.cells #[.int .i64 a3, .pointer P3, .int .i64 b3, .pointer Q3] 27)
  have V3 := Lib.hid (VarR.new hv)
  have K3 := Lib.hid (below_on (below_on k2.out h1) kv)
  have V1 := Lib.hid ((V1.out.keep h1).keep kv)
  have V2 := Lib.hid ((V2.out.keep h1).keep kv)
  obtain ⟨p3, hp3⟩ : ∃ p, z3.heap.size = p := ⟨_, rfl⟩
  obtain ⟨w3, hw3⟩ : ∃ u, z3.alloc (.cells #[.int .i64 a3, .pointer P3, .int .i64 b3, .pointer Q3] 27) = u := ⟨_, rfl⟩
  rw [hw3] at K3 V1 V2 V3
  rw [hp3] at V3
  clear h1 hv kv k1 k2
  have c10 := V1.out.cells.c0
  have c11 := V1.out.cells.c1
  have c12 := V1.out.cells.c2
  have c13 := V1.out.cells.c3
  go_wp2_with fail
  try simp only [hw1, hw2, hw3, hp1, hp2, hp3]
  clear hw1 hw2 hw3 hp1 hp2 hp3
  refine (number_any a1 P1 b1 Q1 (Rat.divInt 6 (-4)) _ V1.out.rat (by decide +kernel) (by decide +kernel) (Hw.out _ K3.out)).mono ?_
  rintro e w4 ⟨rfl, h4⟩
  rw [show ratTxt (Rat.divInt 6 (-4)) = ⟨#[45, 51, 47, 50]⟩ by decide +kernel]
  have V1 := Lib.hid (V1.out.keep h4)
  have V2 := Lib.hid (V2.out.keep h4)
  have V3 := Lib.hid (V3.out.keep h4)
  have K4 := Lib.hid (below_on K3.out h4)
  clear h4 c10 c11 c12 c13
  have c10 := V1.out.cells.c0
  have c11 := V1.out.cells.c1
  have c12 := V1.out.cells.c2
  have c13 := V1.out.cells.c3
  go_wp2_with fail
  refine (floor_any a1 P1 b1 Q1 (Rat.divInt 6 (-4)) _ V1.out.rat (by decide +kernel) (by decide +kernel)).mono ?_
  rintro e w5 ⟨xa, xP, rfl, hx, h5⟩
  rw [show (Rat.divInt 6 (-4)).num / ((Rat.divInt 6 (-4)).den : Int) = -2 by decide +kernel] at hx
  have V1 := Lib.hid (V1.out.keep h5)
  have V2 := Lib.hid (V2.out.keep h5)
  have V3 := Lib.hid (V3.out.keep h5)
  have K5 := Lib.hid (below_on K4.out h5)
  have HT := Lib.hid (show Calls Tryz.prog 32 _ w5 (fun e w2 => e = .returned (.string (txt (-2))) ∧ Below w5.heap.size w5 w2) from textZ_any _ (-2) w5 hx (Hw.out _ K5.out).1)
  rw [show txt (-2) = ⟨#[45, 50]⟩ by decide +kernel] at HT
  clear h5 hx c10 c11 c12 c13
  go_wp2_with fail
  refine HT.out.mono ?_
  rintro e w6 ⟨rfl, h6⟩
  have V1 := Lib.hid (V1.out.keep h6)
  have V2 := Lib.hid (V2.out.keep h6)
  have V3 := Lib.hid (V3.out.keep h6)
  have K6 := Lib.hid (below_on K5.out h6)
  clear h6
  have c10 := V1.out.cells.c0
  have c11 := V1.out.cells.c1
  have c12 := V1.out.cells.c2
  have c13 := V1.out.cells.c3
  go_wp2_with fail
  refine (ceil_any a1 P1 b1 Q1 (Rat.divInt 6 (-4)) _ V1.out.rat (by decide +kernel) (by decide +kernel)).mono ?_
  rintro e w7 ⟨xa, xP, rfl, hx, h7⟩
  rw [show -(-(Rat.divInt 6 (-4)).num / ((Rat.divInt 6 (-4)).den : Int)) = -1 by decide +kernel] at hx
  have V2 := Lib.hid (V2.out.keep h7)
  have V3 := Lib.hid (V3.out.keep h7)
  have K7 := Lib.hid (below_on K6.out h7)
  have HT := Lib.hid (show Calls Tryz.prog 32 _ w7 (fun e w2 => e = .returned (.string (txt (-1))) ∧ Below w7.heap.size w7 w2) from textZ_any _ (-1) w7 hx (Hw.out _ K7.out).1)
  rw [show txt (-1) = ⟨#[45, 49]⟩ by decide +kernel] at HT
  clear h7 hx c10 c11 c12 c13
  go_wp2_with fail
  refine HT.out.mono ?_
  rintro e w8 ⟨rfl, h8⟩
  have V2 := Lib.hid (V2.out.keep h8)
  have V3 := Lib.hid (V3.out.keep h8)
  have K8 := Lib.hid (below_on K7.out h8)
  clear h8
  have c20 := V2.out.cells.c0
  have c21 := V2.out.cells.c1
  have c22 := V2.out.cells.c2
  have c23 := V2.out.cells.c3
  have c30 := V3.out.cells.c0
  have c31 := V3.out.cells.c1
  have c32 := V3.out.cells.c2
  have c33 := V3.out.cells.c3
  go_wp2_with fail
  refine (add_short a2 P2 b2 Q2 a3 P3 b3 Q3 (Rat.divInt 1 2) (Rat.divInt 1 3) _ V2.out.rat V3.out.rat (by decide +kernel) (by decide +kernel)).mono ?_
  rintro e w9 ⟨ya, yP, yb, yQ, rfl, hy, h9⟩
  have K9 := Lib.hid (below_on K8.out h9)
  have HN := Lib.hid (number_any ya yP yb yQ _ w9 hy (by decide +kernel) (by decide +kernel) (Hw.out _ K9.out))
  rw [show ratTxt (Rat.divInt 1 2 + Rat.divInt 1 3) = ⟨#[53, 47, 54]⟩ by decide +kernel] at HN
  clear h9 hy c20 c21 c22 c23 c30 c31 c32 c33
  go_wp2_with fail
  refine HN.out.mono ?_
  rintro e w10 ⟨rfl, h10⟩
  have K10 := Lib.hid (below_on K9.out h10)
  clear h10
  go_wp2
  go_ret
  exact ⟨rfl, K10.out⟩
end Go.Proofs.YtjcblcikipmojaaGreatDoor
