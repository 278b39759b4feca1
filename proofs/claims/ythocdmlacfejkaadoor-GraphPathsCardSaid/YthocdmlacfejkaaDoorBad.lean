/- What the functions answer for a graph that is refused. -/
import Derived.Test.YthocdmlacfejkaaDoorChk2
import Derived.Laws.ResultCell
namespace Go.Proofs.YthocdmlacfejkaaDoor
open Go.RowKit
set_option maxRecDepth 100000 in
set_option maxHeartbeats 8000000 in
theorem closure_bad (n : Int) (A : Option Addr) (m c : Nat) (es : List (Int × Int)) (w : World) (h : EL w A m es) (hm : m ≤ 4611686018427387904) (hd : checkG n es ≠ 0) :
    Calls Tryd.prog 27 #[gV n A m c] w fun e w' => e = .returned (.tuple #[.slice none 0 0, .int .i64 (checkG n es)]) ∧ Below w.heap.size w w' := by
  have kv := ((Below.refl w.heap.size w).alloc (Nat.le_refl _) (.cells #[.int .i64 n, .slice A m c] 26))
  have HC := Lib.hid (check_any n A m c es _ (h.keep kv) hm)
  have G0 := Lib.hid (Cells.new w #[.int .i64 n, .slice A m c] 26)
  have kv := Lib.hid kv
  obtain ⟨d, hd0⟩ : ∃ d, checkG n es = d := ⟨_, rfl⟩
  rw [hd0] at HC hd ⊢
  have t0 : (d != 0) = true := by simpa using hd
  have t1 : ¬ d = 0 := hd
  clear h hm hd hd0
  go_enter Tryd.func27, Tryd.ntmps27
  go_wp2_with fail
  refine HC.out.mono ?_
  rintro e w1 ⟨rfl, hb1⟩
  have G1 := Lib.hid (G0.out.keep hb1)
  have B1 := Lib.hid (below_on kv.out hb1)
  have g0 := G1.out.at_ 0
  have g1 := G1.out.at_ 1
  simp only [List.getElem?_cons_zero, List.getElem?_cons_succ] at g0 g1
  clear hb1
  go_wp2_with fail
  go_ret2
  exact ⟨rfl, B1.out⟩
set_option maxRecDepth 100000 in
set_option maxHeartbeats 8000000 in
theorem comps_bad (n : Int) (A : Option Addr) (m c : Nat) (es : List (Int × Int)) (w : World) (h : EL w A m es) (hm : m ≤ 4611686018427387904) (hd : checkG n es ≠ 0) :
    Calls Tryd.prog 28 #[gV n A m c] w fun e w' => e = .returned (.tuple #[.slice none 0 0, .int .i64 (checkG n es)]) ∧ Below w.heap.size w w' := by
  have kv := ((Below.refl w.heap.size w).alloc (Nat.le_refl _) (.cells #[.int .i64 n, .slice A m c] 26))
  have HC := Lib.hid (check_any n A m c es _ (h.keep kv) hm)
  have G0 := Lib.hid (Cells.new w #[.int .i64 n, .slice A m c] 26)
  have kv := Lib.hid kv
  obtain ⟨d, hd0⟩ : ∃ d, checkG n es = d := ⟨_, rfl⟩
  rw [hd0] at HC hd ⊢
  have t0 : (d != 0) = true := by simpa using hd
  have t1 : ¬ d = 0 := hd
  clear h hm hd hd0
  go_enter Tryd.func28, Tryd.ntmps28
  go_wp2_with fail
  refine HC.out.mono ?_
  rintro e w1 ⟨rfl, hb1⟩
  have G1 := Lib.hid (G0.out.keep hb1)
  have B1 := Lib.hid (below_on kv.out hb1)
  have g0 := G1.out.at_ 0
  have g1 := G1.out.at_ 1
  simp only [List.getElem?_cons_zero, List.getElem?_cons_succ] at g0 g1
  clear hb1
  go_wp2_with fail
  go_ret2
  exact ⟨rfl, B1.out⟩
set_option maxRecDepth 100000 in
set_option maxHeartbeats 8000000 in
theorem order_bad (n : Int) (A : Option Addr) (m c : Nat) (es : List (Int × Int)) (w : World) (h : EL w A m es) (hm : m ≤ 4611686018427387904) (hd : checkG n es ≠ 0) :
    Calls Tryd.prog 30 #[gV n A m c] w fun e w' => e = .returned (.tuple #[.slice none 0 0, .int .i64 (checkG n es)]) ∧ Below w.heap.size w w' := by
  have kv := ((Below.refl w.heap.size w).alloc (Nat.le_refl _) (.cells #[.int .i64 n, .slice A m c] 26))
  have HC := Lib.hid (check_any n A m c es _ (h.keep kv) hm)
  have G0 := Lib.hid (Cells.new w #[.int .i64 n, .slice A m c] 26)
  have kv := Lib.hid kv
  obtain ⟨d, hd0⟩ : ∃ d, checkG n es = d := ⟨_, rfl⟩
  rw [hd0] at HC hd ⊢
  have t0 : (d != 0) = true := by simpa using hd
  have t1 : ¬ d = 0 := hd
  clear h hm hd hd0
  go_enter Tryd.func30, Tryd.ntmps30
  go_wp2_with fail
  refine HC.out.mono ?_
  rintro e w1 ⟨rfl, hb1⟩
  have G1 := Lib.hid (G0.out.keep hb1)
  have B1 := Lib.hid (below_on kv.out hb1)
  have g0 := G1.out.at_ 0
  have g1 := G1.out.at_ 1
  simp only [List.getElem?_cons_zero, List.getElem?_cons_succ] at g0 g1
  clear hb1
  go_wp2_with fail
  go_ret2
  exact ⟨rfl, B1.out⟩
set_option maxRecDepth 100000 in
set_option maxHeartbeats 8000000 in
theorem cycle_bad (n : Int) (A : Option Addr) (m c : Nat) (es : List (Int × Int)) (w : World) (h : EL w A m es) (hm : m ≤ 4611686018427387904) (hd : checkG n es ≠ 0) :
    Calls Tryd.prog 31 #[gV n A m c] w fun e w' => e = .returned (.tuple #[.slice none 0 0, .int .i64 (checkG n es)]) ∧ Below w.heap.size w w' := by
  have kv := ((Below.refl w.heap.size w).alloc (Nat.le_refl _) (.cells #[.int .i64 n, .slice A m c] 26))
  have HC := Lib.hid (check_any n A m c es _ (h.keep kv) hm)
  have G0 := Lib.hid (Cells.new w #[.int .i64 n, .slice A m c] 26)
  have kv := Lib.hid kv
  obtain ⟨d, hd0⟩ : ∃ d, checkG n es = d := ⟨_, rfl⟩
  rw [hd0] at HC hd ⊢
  have t0 : (d != 0) = true := by simpa using hd
  have t1 : ¬ d = 0 := hd
  clear h hm hd hd0
  go_enter Tryd.func31, Tryd.ntmps31
  go_wp2_with fail
  refine HC.out.mono ?_
  rintro e w1 ⟨rfl, hb1⟩
  have G1 := Lib.hid (G0.out.keep hb1)
  have B1 := Lib.hid (below_on kv.out hb1)
  have g0 := G1.out.at_ 0
  have g1 := G1.out.at_ 1
  simp only [List.getElem?_cons_zero, List.getElem?_cons_succ] at g0 g1
  clear hb1
  go_wp2_with fail
  go_ret2
  exact ⟨rfl, B1.out⟩
set_option maxRecDepth 100000 in
set_option maxHeartbeats 8000000 in
theorem nodes_bad (n : Int) (A : Option Addr) (m c : Nat) (es : List (Int × Int)) (v : Value) (w : World) (h : EL w A m es) (hm : m ≤ 4611686018427387904) (hd : checkG n es ≠ 0) :
    Calls Tryd.prog 78 #[gV n A m c, v] w fun e w' => e = .returned (.tuple #[.int .u64 0, .int .i64 (checkG n es)]) ∧ Below w.heap.size w w' := by
  have kv := ((Below.refl w.heap.size w).alloc (Nat.le_refl _) (.cells #[.int .i64 n, .slice A m c] 26))
  have HC := Lib.hid (check_any n A m c es _ (h.keep kv) hm)
  have G0 := Lib.hid (Cells.new w #[.int .i64 n, .slice A m c] 26)
  have kv := Lib.hid kv
  obtain ⟨d, hd0⟩ : ∃ d, checkG n es = d := ⟨_, rfl⟩
  rw [hd0] at HC hd ⊢
  have t0 : (d != 0) = true := by simpa using hd
  have t1 : ¬ d = 0 := hd
  clear h hm hd hd0
  go_enter Tryd.func78, Tryd.ntmps78
  go_wp2_with fail
  refine HC.out.mono ?_
  rintro e w1 ⟨rfl, hb1⟩
  have G1 := Lib.hid (G0.out.keep hb1)
  have B1 := Lib.hid (below_on kv.out hb1)
  have g0 := G1.out.at_ 0
  have g1 := G1.out.at_ 1
  simp only [List.getElem?_cons_zero, List.getElem?_cons_succ] at g0 g1
  clear hb1
  go_wp2_with fail
  go_ret2
  exact ⟨rfl, B1.out⟩
end Go.Proofs.YthocdmlacfejkaaDoor
