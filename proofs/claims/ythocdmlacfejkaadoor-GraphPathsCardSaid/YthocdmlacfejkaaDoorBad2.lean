/- What the functions that give a graph answer for a graph that is refused. -/
import Derived.Test.YthocdmlacfejkaaDoorBad
import Derived.Laws.ResultCell
namespace Go.Proofs.YthocdmlacfejkaaDoor
open Go.RowKit
theorem load_graph (w : World) (p : Nat) (x y : Value) (h : Cells w p [x, y]) : (loadVar 26 ⟨p, 0, none⟩).run Tryd.prog w = .ok (.agg #[x, y]) w := by
  have h0 := h.at_ 0
  have h1 := h.at_ 1
  simp only [List.getElem?_cons_zero, List.getElem?_cons_succ] at h0 h1
  go_simp
theorem ret_graph {fn : Func} {p u : Tmp} (hf : fn.results = #[.cell p 26, .tmp u]) (tmps : Array Value) (w : World) (g : Nat) (x y : Value) (hp : tmps.getD p undef = .pointer (some ⟨g, 0, none⟩)) (h : Cells w g [x, y]) :
    (results fn tmps).run Tryd.prog w = .ok (.tuple #[.agg #[x, y], tmps.getD u undef]) w := by
  rw [results_cell_tmp hf, hp]
  simp [asAddr, load_graph w g x y h]
theorem ret_graph3 {fn : Func} {p u v : Tmp} (hf : fn.results = #[.cell p 26, .tmp u, .tmp v]) (tmps : Array Value) (w : World) (g : Nat) (x y : Value) (hp : tmps.getD p undef = .pointer (some ⟨g, 0, none⟩)) (h : Cells w g [x, y]) :
    (results fn tmps).run Tryd.prog w = .ok (.tuple #[.agg #[x, y], tmps.getD u undef, tmps.getD v undef]) w := by
  have hp' : tmps[p]?.getD undef = .pointer (some ⟨g, 0, none⟩) := by simpa using hp
  simp [results, hf, hp', asAddr, load_graph w g x y h]
set_option maxRecDepth 100000 in
set_option maxHeartbeats 8000000 in
theorem reverse_bad (n : Int) (A : Option Addr) (m c : Nat) (es : List (Int × Int)) (w : World) (h : EL w A m es) (hm : m ≤ 4611686018427387904) (hd : checkG n es ≠ 0) :
    Calls Tryd.prog 25 #[gV n A m c] w fun e w' => e = .returned (.tuple #[gV 0 none 0 0, .int .i64 (checkG n es)]) ∧ Below w.heap.size w w' := by
  have kv := ((Below.refl w.heap.size w).alloc (Nat.le_refl _) (.cells #[.int .i64 n, .slice A m c] 26)).alloc (by simp) (.cells #[.int .i64 0, .slice none 0 0] 26)
  have HC := Lib.hid (check_any n A m c es _ (h.keep kv) hm)
  have G0 := Lib.hid ((Cells.new w #[.int .i64 n, .slice A m c] 26).keep ((Below.refl _ _).alloc (Nat.le_refl _) (.cells #[.int .i64 0, .slice none 0 0] 26)))
  have X0 := Cells.new (w.alloc (.cells #[.int .i64 n, .slice A m c] 26)) #[.int .i64 0, .slice none 0 0] 26
  simp only [World.size_alloc] at X0
  have X0 := Lib.hid X0
  have kv := Lib.hid kv
  obtain ⟨d, hd0⟩ : ∃ d, checkG n es = d := ⟨_, rfl⟩
  rw [hd0] at HC hd ⊢
  have t0 : (d != 0) = true := by simpa using hd
  have t1 : ¬ d = 0 := hd
  clear h hm hd hd0
  go_enter Tryd.func25, Tryd.ntmps25
  go_wp2_with fail
  refine HC.out.mono ?_
  rintro e w1 ⟨rfl, hb1⟩
  have G1 := Lib.hid (G0.out.keep hb1)
  have X1 := Lib.hid (X0.out.keep hb1)
  have B1 := Lib.hid (below_on kv.out hb1)
  have g0 := G1.out.at_ 0
  have g1 := G1.out.at_ 1
  have x0 := X1.out.at_ 0
  have x1 := X1.out.at_ 1
  have f0 := X1.out.fz 0
  have f1 := X1.out.fz 1
  simp only [List.getElem?_cons_zero, List.getElem?_cons_succ] at g0 g1 x0 x1
  have X2 := Lib.hid ((X1.out.set 0 (.int .i64 0) (by simp)).set 1 (.slice none 0 0) (by simp))
  have B2 := Lib.hid ((B1.out.setCell (p := ⟨w.heap.size + 1, 0, none⟩) (by simp) (.int .i64 0)).setCell (p := ⟨w.heap.size + 1, 1, none⟩) (by simp) (.slice none 0 0))
  clear hb1
  go_wp2_with fail
  exact bodyPost_ret (ret_graph rfl _ _ (w.heap.size + 1) _ _ rfl X2.out) rfl ⟨rfl, B2.out⟩
set_option maxRecDepth 100000 in
set_option maxHeartbeats 8000000 in
theorem condense_bad (n : Int) (A : Option Addr) (m c : Nat) (es : List (Int × Int)) (w : World) (h : EL w A m es) (hm : m ≤ 4611686018427387904) (hd : checkG n es ≠ 0) :
    Calls Tryd.prog 29 #[gV n A m c] w fun e w' => e = .returned (.tuple #[gV 0 none 0 0, .slice none 0 0, .int .i64 (checkG n es)]) ∧ Below w.heap.size w w' := by
  have kv := ((Below.refl w.heap.size w).alloc (Nat.le_refl _) (.cells #[.int .i64 n, .slice A m c] 26)).alloc (by simp) (.cells #[.int .i64 0, .slice none 0 0] 26)
  have HC := Lib.hid (check_any n A m c es _ (h.keep kv) hm)
  have G0 := Lib.hid ((Cells.new w #[.int .i64 n, .slice A m c] 26).keep ((Below.refl _ _).alloc (Nat.le_refl _) (.cells #[.int .i64 0, .slice none 0 0] 26)))
  have X0 := Cells.new (w.alloc (.cells #[.int .i64 n, .slice A m c] 26)) #[.int .i64 0, .slice none 0 0] 26
  simp only [World.size_alloc] at X0
  have X0 := Lib.hid X0
  have kv := Lib.hid kv
  obtain ⟨d, hd0⟩ : ∃ d, checkG n es = d := ⟨_, rfl⟩
  rw [hd0] at HC hd ⊢
  have t0 : (d != 0) = true := by simpa using hd
  have t1 : ¬ d = 0 := hd
  clear h hm hd hd0
  go_enter Tryd.func29, Tryd.ntmps29
  go_wp2_with fail
  refine HC.out.mono ?_
  rintro e w1 ⟨rfl, hb1⟩
  have G1 := Lib.hid (G0.out.keep hb1)
  have X1 := Lib.hid (X0.out.keep hb1)
  have B1 := Lib.hid (below_on kv.out hb1)
  have g0 := G1.out.at_ 0
  have g1 := G1.out.at_ 1
  have x0 := X1.out.at_ 0
  have x1 := X1.out.at_ 1
  have f0 := X1.out.fz 0
  have f1 := X1.out.fz 1
  simp only [List.getElem?_cons_zero, List.getElem?_cons_succ] at g0 g1 x0 x1
  have X2 := Lib.hid ((X1.out.set 0 (.int .i64 0) (by simp)).set 1 (.slice none 0 0) (by simp))
  have B2 := Lib.hid ((B1.out.setCell (p := ⟨w.heap.size + 1, 0, none⟩) (by simp) (.int .i64 0)).setCell (p := ⟨w.heap.size + 1, 1, none⟩) (by simp) (.slice none 0 0))
  clear hb1
  go_wp2_with fail
  exact bodyPost_ret (ret_graph3 rfl _ _ (w.heap.size + 1) _ _ rfl X2.out) rfl ⟨rfl, B2.out⟩
set_option maxRecDepth 100000 in
set_option maxHeartbeats 8000000 in
theorem induced_bad (n : Int) (A : Option Addr) (m c : Nat) (es : List (Int × Int)) (v : Value) (w : World) (h : EL w A m es) (hm : m ≤ 4611686018427387904) (hd : checkG n es ≠ 0) :
    Calls Tryd.prog 26 #[gV n A m c, v] w fun e w' => e = .returned (.tuple #[gV 0 none 0 0, .int .i64 (checkG n es)]) ∧ Below w.heap.size w w' := by
  have kv := ((Below.refl w.heap.size w).alloc (Nat.le_refl _) (.cells #[.int .i64 n, .slice A m c] 26)).alloc (by simp) (.cells #[.int .i64 0, .slice none 0 0] 26)
  have HC := Lib.hid (nodes_bad n A m c es v _ (h.keep kv) hm hd)
  have G0 := Lib.hid ((Cells.new w #[.int .i64 n, .slice A m c] 26).keep ((Below.refl _ _).alloc (Nat.le_refl _) (.cells #[.int .i64 0, .slice none 0 0] 26)))
  have X0 := Cells.new (w.alloc (.cells #[.int .i64 n, .slice A m c] 26)) #[.int .i64 0, .slice none 0 0] 26
  simp only [World.size_alloc] at X0
  have X0 := Lib.hid X0
  have kv := Lib.hid kv
  obtain ⟨d, hd0⟩ : ∃ d, checkG n es = d := ⟨_, rfl⟩
  rw [hd0] at HC hd ⊢
  have t0 : (d != 0) = true := by simpa using hd
  have t1 : ¬ d = 0 := hd
  clear h hm hd hd0
  go_enter Tryd.func26, Tryd.ntmps26
  go_wp2_with fail
  refine HC.out.mono ?_
  rintro e w1 ⟨rfl, hb1⟩
  have G1 := Lib.hid (G0.out.keep hb1)
  have X1 := Lib.hid (X0.out.keep hb1)
  have B1 := Lib.hid (below_on kv.out hb1)
  have g0 := G1.out.at_ 0
  have g1 := G1.out.at_ 1
  have x0 := X1.out.at_ 0
  have x1 := X1.out.at_ 1
  have f0 := X1.out.fz 0
  have f1 := X1.out.fz 1
  simp only [List.getElem?_cons_zero, List.getElem?_cons_succ] at g0 g1 x0 x1
  have X2 := Lib.hid ((X1.out.set 0 (.int .i64 0) (by simp)).set 1 (.slice none 0 0) (by simp))
  have B2 := Lib.hid ((B1.out.setCell (p := ⟨w.heap.size + 1, 0, none⟩) (by simp) (.int .i64 0)).setCell (p := ⟨w.heap.size + 1, 1, none⟩) (by simp) (.slice none 0 0))
  clear hb1
  go_wp2_with fail
  exact bodyPost_ret (ret_graph rfl _ _ (w.heap.size + 1) _ _ rfl X2.out) rfl ⟨rfl, B2.out⟩
end Go.Proofs.YthocdmlacfejkaaDoor
