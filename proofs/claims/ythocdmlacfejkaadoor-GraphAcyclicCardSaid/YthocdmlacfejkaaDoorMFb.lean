/- Graph: Bad, Bad2, Few, Prs, Pln, Cpy, Sam. -/
import Derived.Test.YthocdmlacfejkaaDoorMB
import Derived.Laws.ResultCell
import Derived.Deep.DeepAppendWide
import Derived.Test.YthocdmlacfejkaaDoorMC
import Derived.Lib.SliceRun
namespace Go.Proofs.YthocdmlacfejkaaDoor
open Go.RowKit
set_option maxRecDepth 100000 in
set_option maxHeartbeats 8000000 in
theorem closure_bad (n : Int) (A : Option Addr) (m c : Nat) (es : List (Int × Int)) (w : World) (h : EL w A m es) (hm : m ≤ 4611686018427387904) (hd : checkG n es ≠ 0) :
    Calls Tryd.prog 27 #[gV n A m c] w fun e w' => e = .returned (.tuple #[.slice none 0 0, .int .i64 (checkG n es)]) ∧ Below w.heap.size w w' := by
  have kv := ((Below.refl w.heap.size w).alloc (Nat.le_refl _) (.cells #[.int .i64 n, .slice A m c] 26))
  have HC := Lib.hid (check_any n A m c es _ (h.keep kv) hm)
  have G0 := Lib.hid (Cells.new w #[.int .i64 n, .slice A m c] 26)
  have kv := Lib.hid kv
  obtain ⟨d, hd0⟩ : ∃ d, checkG n es = d := ⟨_, rfl⟩
  rw [hd0] at HC hd ⊢
  have t0 : (d != 0) = true := by simpa using hd
  have t1 : ¬ d = 0 := hd
  clear h hm hd hd0
  go_enter Tryd.func27, Tryd.ntmps27
  go_wp2_with fail
  refine HC.out.mono ?_
  rintro e w1 ⟨rfl, hb1⟩
  have G1 := Lib.hid (G0.out.keep hb1)
  have B1 := Lib.hid (below_on kv.out hb1)
  have g0 := G1.out.at_ 0
  have g1 := G1.out.at_ 1
  simp only [List.getElem?_cons_zero, List.getElem?_cons_succ] at g0 g1
  clear hb1
  go_wp2_with fail
  go_ret2
  exact ⟨rfl, B1.out⟩
set_option maxRecDepth 100000 in
set_option maxHeartbeats 8000000 in
theorem comps_bad (n : Int) (A : Option Addr) (m c : Nat) (es : List (Int × Int)) (w : World) (h : EL w A m es) (hm : m ≤ 4611686018427387904) (hd : checkG n es ≠ 0) :
    Calls Tryd.prog 28 #[gV n A m c] w fun e w' => e = .returned (.tuple #[.slice none 0 0, .int .i64 (checkG n es)]) ∧ Below w.heap.size w w' := by
  have kv := ((Below.refl w.heap.size w).alloc (Nat.le_refl _) (.cells #[.int .i64 n, .slice A m c] 26))
  have HC := Lib.hid (check_any n A m c es _ (h.keep kv) hm)
  have G0 := Lib.hid (Cells.new w #[.int .i64 n, .slice A m c] 26)
  have kv := Lib.hid kv
  obtain ⟨d, hd0⟩ : ∃ d, checkG n es = d := ⟨_, rfl⟩
  rw [hd0] at HC hd ⊢
  have t0 : (d != 0) = true := by simpa using hd
  have t1 : ¬ d = 0 := hd
  clear h hm hd hd0
  go_enter Tryd.func28, Tryd.ntmps28
  go_wp2_with fail
  refine HC.out.mono ?_
  rintro e w1 ⟨rfl, hb1⟩
  have G1 := Lib.hid (G0.out.keep hb1)
  have B1 := Lib.hid (below_on kv.out hb1)
  have g0 := G1.out.at_ 0
  have g1 := G1.out.at_ 1
  simp only [List.getElem?_cons_zero, List.getElem?_cons_succ] at g0 g1
  clear hb1
  go_wp2_with fail
  go_ret2
  exact ⟨rfl, B1.out⟩
set_option maxRecDepth 100000 in
set_option maxHeartbeats 8000000 in
theorem order_bad (n : Int) (A : Option Addr) (m c : Nat) (es : List (Int × Int)) (w : World) (h : EL w A m es) (hm : m ≤ 4611686018427387904) (hd : checkG n es ≠ 0) :
    Calls Tryd.prog 30 #[gV n A m c] w fun e w' => e = .returned (.tuple #[.slice none 0 0, .int .i64 (checkG n es)]) ∧ Below w.heap.size w w' := by
  have kv := ((Below.refl w.heap.size w).alloc (Nat.le_refl _) (.cells #[.int .i64 n, .slice A m c] 26))
  have HC := Lib.hid (check_any n A m c es _ (h.keep kv) hm)
  have G0 := Lib.hid (Cells.new w #[.int .i64 n, .slice A m c] 26)
  have kv := Lib.hid kv
  obtain ⟨d, hd0⟩ : ∃ d, checkG n es = d := ⟨_, rfl⟩
  rw [hd0] at HC hd ⊢
  have t0 : (d != 0) = true := by simpa using hd
  have t1 : ¬ d = 0 := hd
  clear h hm hd hd0
  go_enter Tryd.func30, Tryd.ntmps30
  go_wp2_with fail
  refine HC.out.mono ?_
  rintro e w1 ⟨rfl, hb1⟩
  have G1 := Lib.hid (G0.out.keep hb1)
  have B1 := Lib.hid (below_on kv.out hb1)
  have g0 := G1.out.at_ 0
  have g1 := G1.out.at_ 1
  simp only [List.getElem?_cons_zero, List.getElem?_cons_succ] at g0 g1
  clear hb1
  go_wp2_with fail
  go_ret2
  exact ⟨rfl, B1.out⟩
set_option maxRecDepth 100000 in
set_option maxHeartbeats 8000000 in
theorem cycle_bad (n : Int) (A : Option Addr) (m c : Nat) (es : List (Int × Int)) (w : World) (h : EL w A m es) (hm : m ≤ 4611686018427387904) (hd : checkG n es ≠ 0) :
    Calls Tryd.prog 31 #[gV n A m c] w fun e w' => e = .returned (.tuple #[.slice none 0 0, .int .i64 (checkG n es)]) ∧ Below w.heap.size w w' := by
  have kv := ((Below.refl w.heap.size w).alloc (Nat.le_refl _) (.cells #[.int .i64 n, .slice A m c] 26))
  have HC := Lib.hid (check_any n A m c es _ (h.keep kv) hm)
  have G0 := Lib.hid (Cells.new w #[.int .i64 n, .slice A m c] 26)
  have kv := Lib.hid kv
  obtain ⟨d, hd0⟩ : ∃ d, checkG n es = d := ⟨_, rfl⟩
  rw [hd0] at HC hd ⊢
  have t0 : (d != 0) = true := by simpa using hd
  have t1 : ¬ d = 0 := hd
  clear h hm hd hd0
  go_enter Tryd.func31, Tryd.ntmps31
  go_wp2_with fail
  refine HC.out.mono ?_
  rintro e w1 ⟨rfl, hb1⟩
  have G1 := Lib.hid (G0.out.keep hb1)
  have B1 := Lib.hid (below_on kv.out hb1)
  have g0 := G1.out.at_ 0
  have g1 := G1.out.at_ 1
  simp only [List.getElem?_cons_zero, List.getElem?_cons_succ] at g0 g1
  clear hb1
  go_wp2_with fail
  go_ret2
  exact ⟨rfl, B1.out⟩
set_option maxRecDepth 100000 in
set_option maxHeartbeats 8000000 in
theorem nodes_bad (n : Int) (A : Option Addr) (m c : Nat) (es : List (Int × Int)) (v : Value) (w : World) (h : EL w A m es) (hm : m ≤ 4611686018427387904) (hd : checkG n es ≠ 0) :
    Calls Tryd.prog 78 #[gV n A m c, v] w fun e w' => e = .returned (.tuple #[.int .u64 0, .int .i64 (checkG n es)]) ∧ Below w.heap.size w w' := by
  have kv := ((Below.refl w.heap.size w).alloc (Nat.le_refl _) (.cells #[.int .i64 n, .slice A m c] 26))
  have HC := Lib.hid (check_any n A m c es _ (h.keep kv) hm)
  have G0 := Lib.hid (Cells.new w #[.int .i64 n, .slice A m c] 26)
  have kv := Lib.hid kv
  obtain ⟨d, hd0⟩ : ∃ d, checkG n es = d := ⟨_, rfl⟩
  rw [hd0] at HC hd ⊢
  have t0 : (d != 0) = true := by simpa using hd
  have t1 : ¬ d = 0 := hd
  clear h hm hd hd0
  go_enter Tryd.func78, Tryd.ntmps78
  go_wp2_with fail
  refine HC.out.mono ?_
  rintro e w1 ⟨rfl, hb1⟩
  have G1 := Lib.hid (G0.out.keep hb1)
  have B1 := Lib.hid (below_on kv.out hb1)
  have g0 := G1.out.at_ 0
  have g1 := G1.out.at_ 1
  simp only [List.getElem?_cons_zero, List.getElem?_cons_succ] at g0 g1
  clear hb1
  go_wp2_with fail
  go_ret2
  exact ⟨rfl, B1.out⟩
end Go.Proofs.YthocdmlacfejkaaDoor
namespace Go.Proofs.YthocdmlacfejkaaDoor
open Go.RowKit
theorem load_graph (w : World) (p : Nat) (x y : Value) (h : Cells w p [x, y]) : (loadVar 26 ⟨p, 0, none⟩).run Tryd.prog w = .ok (.agg #[x, y]) w := by
  have h0 := h.at_ 0
  have h1 := h.at_ 1
  simp only [List.getElem?_cons_zero, List.getElem?_cons_succ] at h0 h1
  go_simp
theorem ret_graph {fn : Func} {p u : Tmp} (hf : fn.results = #[.cell p 26, .tmp u]) (tmps : Array Value) (w : World) (g : Nat) (x y : Value) (hp : tmps.getD p undef = .pointer (some ⟨g, 0, none⟩)) (h : Cells w g [x, y]) :
    (results fn tmps).run Tryd.prog w = .ok (.tuple #[.agg #[x, y], tmps.getD u undef]) w := by
  rw [results_cell_tmp hf, hp]
  simp [asAddr, load_graph w g x y h]
theorem ret_graph3 {fn : Func} {p u v : Tmp} (hf : fn.results = #[.cell p 26, .tmp u, .tmp v]) (tmps : Array Value) (w : World) (g : Nat) (x y : Value) (hp : tmps.getD p undef = .pointer (some ⟨g, 0, none⟩)) (h : Cells w g [x, y]) :
    (results fn tmps).run Tryd.prog w = .ok (.tuple #[.agg #[x, y], tmps.getD u undef, tmps.getD v undef]) w := by
  have hp' : tmps[p]?.getD undef = .pointer (some ⟨g, 0, none⟩) := by simpa using hp
  simp [results, hf, hp', asAddr, load_graph w g x y h]
set_option maxRecDepth 100000 in
set_option maxHeartbeats 8000000 in
theorem reverse_bad (n : Int) (A : Option Addr) (m c : Nat) (es : List (Int × Int)) (w : World) (h : EL w A m es) (hm : m ≤ 4611686018427387904) (hd : checkG n es ≠ 0) :
    Calls Tryd.prog 25 #[gV n A m c] w fun e w' => e = .returned (.tuple #[gV 0 none 0 0, .int .i64 (checkG n es)]) ∧ Below w.heap.size w w' := by
  have kv := ((Below.refl w.heap.size w).alloc (Nat.le_refl _) (.cells #[.int .i64 n, .slice A m c] 26)).alloc (by simp) (.cells #[.int .i64 0, .slice none 0 0] 26)
  have HC := Lib.hid (check_any n A m c es _ (h.keep kv) hm)
  have G0 := Lib.hid ((Cells.new w #[.int .i64 n, .slice A m c] 26).keep ((Below.refl _ _).alloc (Nat.le_refl _) (.cells #[.int .i64 0, .slice none 0 0] 26)))
  have X0 := Cells.new (w.alloc (.cells #[.int .i64 n, .slice A m c] 26)) #[.int .i64 0, .slice none 0 0] 26
  simp only [World.size_alloc] at X0
  have X0 := Lib.hid X0
  have kv := Lib.hid kv
  obtain ⟨d, hd0⟩ : ∃ d, checkG n es = d := ⟨_, rfl⟩
  rw [hd0] at HC hd ⊢
  have t0 : (d != 0) = true := by simpa using hd
  have t1 : ¬ d = 0 := hd
  clear h hm hd hd0
  go_enter Tryd.func25, Tryd.ntmps25
  go_wp2_with fail
  refine HC.out.mono ?_
  rintro e w1 ⟨rfl, hb1⟩
  have G1 := Lib.hid (G0.out.keep hb1)
  have X1 := Lib.hid (X0.out.keep hb1)
  have B1 := Lib.hid (below_on kv.out hb1)
  have g0 := G1.out.at_ 0
  have g1 := G1.out.at_ 1
  have x0 := X1.out.at_ 0
  have x1 := X1.out.at_ 1
  have f0 := X1.out.fz 0
  have f1 := X1.out.fz 1
  simp only [List.getElem?_cons_zero, List.getElem?_cons_succ] at g0 g1 x0 x1
  have X2 := Lib.hid ((X1.out.set 0 (.int .i64 0) (by simp)).set 1 (.slice none 0 0) (by simp))
  have B2 := Lib.hid ((B1.out.setCell (p := ⟨w.heap.size + 1, 0, none⟩) (by simp) (.int .i64 0)).setCell (p := ⟨w.heap.size + 1, 1, none⟩) (by simp) (.slice none 0 0))
  clear hb1
  go_wp2_with fail
  exact bodyPost_ret (ret_graph rfl _ _ (w.heap.size + 1) _ _ rfl X2.out) rfl ⟨rfl, B2.out⟩
set_option maxRecDepth 100000 in
set_option maxHeartbeats 8000000 in
theorem condense_bad (n : Int) (A : Option Addr) (m c : Nat) (es : List (Int × Int)) (w : World) (h : EL w A m es) (hm : m ≤ 4611686018427387904) (hd : checkG n es ≠ 0) :
    Calls Tryd.prog 29 #[gV n A m c] w fun e w' => e = .returned (.tuple #[gV 0 none 0 0, .slice none 0 0, .int .i64 (checkG n es)]) ∧ Below w.heap.size w w' := by
  have kv := ((Below.refl w.heap.size w).alloc (Nat.le_refl _) (.cells #[.int .i64 n, .slice A m c] 26)).alloc (by simp) (.cells #[.int .i64 0, .slice none 0 0] 26)
  have HC := Lib.hid (check_any n A m c es _ (h.keep kv) hm)
  have G0 := Lib.hid ((Cells.new w #[.int .i64 n, .slice A m c] 26).keep ((Below.refl _ _).alloc (Nat.le_refl _) (.cells #[.int .i64 0, .slice none 0 0] 26)))
  have X0 := Cells.new (w.alloc (.cells #[.int .i64 n, .slice A m c] 26)) #[.int .i64 0, .slice none 0 0] 26
  simp only [World.size_alloc] at X0
  have X0 := Lib.hid X0
  have kv := Lib.hid kv
  obtain ⟨d, hd0⟩ : ∃ d, checkG n es = d := ⟨_, rfl⟩
  rw [hd0] at HC hd ⊢
  have t0 : (d != 0) = true := by simpa using hd
  have t1 : ¬ d = 0 := hd
  clear h hm hd hd0
  go_enter Tryd.func29, Tryd.ntmps29
  go_wp2_with fail
  refine HC.out.mono ?_
  rintro e w1 ⟨rfl, hb1⟩
  have G1 := Lib.hid (G0.out.keep hb1)
  have X1 := Lib.hid (X0.out.keep hb1)
  have B1 := Lib.hid (below_on kv.out hb1)
  have g0 := G1.out.at_ 0
  have g1 := G1.out.at_ 1
  have x0 := X1.out.at_ 0
  have x1 := X1.out.at_ 1
  have f0 := X1.out.fz 0
  have f1 := X1.out.fz 1
  simp only [List.getElem?_cons_zero, List.getElem?_cons_succ] at g0 g1 x0 x1
  have X2 := Lib.hid ((X1.out.set 0 (.int .i64 0) (by simp)).set 1 (.slice none 0 0) (by simp))
  have B2 := Lib.hid ((B1.out.setCell (p := ⟨w.heap.size + 1, 0, none⟩) (by simp) (.int .i64 0)).setCell (p := ⟨w.heap.size + 1, 1, none⟩) (by simp) (.slice none 0 0))
  clear hb1
  go_wp2_with fail
  exact bodyPost_ret (ret_graph3 rfl _ _ (w.heap.size + 1) _ _ rfl X2.out) rfl ⟨rfl, B2.out⟩
set_option maxRecDepth 100000 in
set_option maxHeartbeats 8000000 in
theorem induced_bad (n : Int) (A : Option Addr) (m c : Nat) (es : List (Int × Int)) (v : Value) (w : World) (h : EL w A m es) (hm : m ≤ 4611686018427387904) (hd : checkG n es ≠ 0) :
    Calls Tryd.prog 26 #[gV n A m c, v] w fun e w' => e = .returned (.tuple #[gV 0 none 0 0, .int .i64 (checkG n es)]) ∧ Below w.heap.size w w' := by
  have kv := ((Below.refl w.heap.size w).alloc (Nat.le_refl _) (.cells #[.int .i64 n, .slice A m c] 26)).alloc (by simp) (.cells #[.int .i64 0, .slice none 0 0] 26)
  have HC := Lib.hid (nodes_bad n A m c es v _ (h.keep kv) hm hd)
  have G0 := Lib.hid ((Cells.new w #[.int .i64 n, .slice A m c] 26).keep ((Below.refl _ _).alloc (Nat.le_refl _) (.cells #[.int .i64 0, .slice none 0 0] 26)))
  have X0 := Cells.new (w.alloc (.cells #[.int .i64 n, .slice A m c] 26)) #[.int .i64 0, .slice none 0 0] 26
  simp only [World.size_alloc] at X0
  have X0 := Lib.hid X0
  have kv := Lib.hid kv
  obtain ⟨d, hd0⟩ : ∃ d, checkG n es = d := ⟨_, rfl⟩
  rw [hd0] at HC hd ⊢
  have t0 : (d != 0) = true := by simpa using hd
  have t1 : ¬ d = 0 := hd
  clear h hm hd hd0
  go_enter Tryd.func26, Tryd.ntmps26
  go_wp2_with fail
  refine HC.out.mono ?_
  rintro e w1 ⟨rfl, hb1⟩
  have G1 := Lib.hid (G0.out.keep hb1)
  have X1 := Lib.hid (X0.out.keep hb1)
  have B1 := Lib.hid (below_on kv.out hb1)
  have g0 := G1.out.at_ 0
  have g1 := G1.out.at_ 1
  have x0 := X1.out.at_ 0
  have x1 := X1.out.at_ 1
  have f0 := X1.out.fz 0
  have f1 := X1.out.fz 1
  simp only [List.getElem?_cons_zero, List.getElem?_cons_succ] at g0 g1 x0 x1
  have X2 := Lib.hid ((X1.out.set 0 (.int .i64 0) (by simp)).set 1 (.slice none 0 0) (by simp))
  have B2 := Lib.hid ((B1.out.setCell (p := ⟨w.heap.size + 1, 0, none⟩) (by simp) (.int .i64 0)).setCell (p := ⟨w.heap.size + 1, 1, none⟩) (by simp) (.slice none 0 0))
  clear hb1
  go_wp2_with fail
  exact bodyPost_ret (ret_graph rfl _ _ (w.heap.size + 1) _ _ rfl X2.out) rfl ⟨rfl, B2.out⟩
end Go.Proofs.YthocdmlacfejkaaDoor
namespace Go.Proofs.YthocdmlacfejkaaDoor
open Go.RowKit
def fewG (n : Int) (m : Nat) : Bool := decide (m ≤ 24) && (decide (n ≤ 8) || decide (64 < n))
set_option maxRecDepth 100000 in
set_option maxHeartbeats 8000000 in
theorem few_any (n : Int) (A : Option Addr) (m c : Nat) (w : World) :
    Calls Tryd.prog 15 #[gV n A m c] w fun e w' => e = .returned (.bool (fewG n m)) ∧ Below w.heap.size w w' := by
  have kv := Lib.hid ((Below.refl w.heap.size w).alloc (Nat.le_refl _) (.cells #[.int .i64 n, .slice A m c] 26))
  go_enter Tryd.func15, Tryd.ntmps15
  unfold fewG
  by_cases h1 : m ≤ 24
  · have t1 : decide ((m : Int) ≤ 24) = true := decide_eq_true (by omega)
    have t1' : (m : Int) ≤ 24 := by omega
    by_cases h2 : n ≤ 8
    · have t2 : decide (n ≤ 8) = true := decide_eq_true h2
      go_wp2_with fail
      go_ret
      exact ⟨by simp [h1, h2], kv.out⟩
    · have t2 : decide (n ≤ 8) = false := decide_eq_false h2
      by_cases h3 : 64 < n
      · have t3 : decide (64 < n) = true := decide_eq_true h3
        go_wp2_with fail
        go_ret
        exact ⟨by simp, kv.out⟩
      · have t3 : decide (64 < n) = false := decide_eq_false h3
        go_wp2_with fail
        go_ret
        exact ⟨by simp, kv.out⟩
  · have t1 : decide ((m : Int) ≤ 24) = false := decide_eq_false (by omega)
    go_wp2_with fail
    go_ret
    exact ⟨by simp [h1], kv.out⟩
end Go.Proofs.YthocdmlacfejkaaDoor
namespace Go.Proofs.YthocdmlacfejkaaDoor
open Go.RowKit
def flat (es : List (Int × Int)) : List Value := es.flatMap fun e => [.int .i64 e.1, .int .i64 e.2]
theorem flat_snoc (es : List (Int × Int)) (e : Int × Int) : flat (es ++ [e]) = flat es ++ [.int .i64 e.1, .int .i64 e.2] := by unfold flat; simp
theorem flat_at : ∀ {es : List (Int × Int)} {k : Nat} {e : Int × Int}, es[k]? = some e → (flat es)[k * 2]? = some (.int .i64 e.1) ∧ (flat es)[k * 2 + 1]? = some (.int .i64 e.2)
  | [], k, e, h => by simp at h
  | x :: l, 0, e, h => by simp at h; subst h; simp [flat]
  | x :: l, k + 1, e, h => by
    have h' : l[k]? = some e := by simpa using h
    obtain ⟨h1, h2⟩ := flat_at h'
    have e1 : flat (x :: l) = .int .i64 x.1 :: .int .i64 x.2 :: flat l := rfl
    rw [e1, show (k + 1) * 2 = k * 2 + 1 + 1 by omega]
    exact ⟨by simpa using h1, by simpa using h2⟩
theorem own_pairs {w : World} {base : Nat} {T : TypeId} {v : Value} {es : List (Int × Int)} (h : w.ownsRow base T 2 v es.length (flat es)) : ∃ A c, v = .slice A es.length c ∧ EL w A es.length es ∧ ∀ b o, A = some ⟨b, o, none⟩ → base ≤ b := by
  rcases h.2 with ⟨rfl, h0⟩ | ⟨g, cap, cur, rfl, hg, hh, hnc, hcm, hcs, hx⟩
  · have hl : es = [] := List.eq_nil_of_length_eq_zero h0
    subst hl
    exact ⟨none, 0, rfl, ⟨rfl, fun k n hk => by simp at hk⟩, fun b o h => by cases h⟩
  · refine ⟨_, cap, rfl, ⟨rfl, fun k e hk => ?_⟩, fun b o h => by cases h; exact hg⟩
    have hk2 : k < es.length := by
      rcases Nat.lt_or_ge k es.length with h1 | h1
      · exact h1
      · rw [List.getElem?_eq_none h1] at hk; cases hk
    obtain ⟨f1, f2⟩ := flat_at hk
    have e1 : ∀ j, j < es.length * 2 → cur.toList[j]? = (flat es)[j]? := fun j hj => by
      rw [← hx, List.getElem?_take_of_lt hj]
    refine ⟨g, 0, rfl, ?_, ?_, ?_⟩
    · rcases Nat.lt_or_ge g w.heap.size with h1 | h1
      · exact h1
      · rw [Array.getElem?_eq_none h1] at hh; cases hh
    · rw [cell_of_row _ _ _ _ _ _ hh, Nat.zero_add, ← f1, ← e1 _ (by omega)]; simp
    · rw [cell_of_row _ _ _ _ _ _ hh, Nat.zero_add, ← f2, ← e1 _ (by omega)]; simp
theorem EL.other {w : World} {A : Option Addr} {n : Nat} {es : List (Int × Int)} (h : EL w A n es) {q : Nat} (hq : ∀ b o, A = some ⟨b, o, none⟩ → b ≠ q) (i : Nat) (u : Value) : EL (w.setCell ⟨q, i, none⟩ u) A n es :=
  ⟨h.1, fun k e hk => by
    obtain ⟨b, o, e1, hb, c0, c1⟩ := h.2 k e hk
    have hne := hq b o e1
    refine ⟨b, o, e1, by simpa using hb, ?_, ?_⟩
    · rw [World.cell?_of_block (Below.heap_setCell w ⟨q, i, none⟩ u b hne)]; exact c0
    · rw [World.cell?_of_block (Below.heap_setCell w ⟨q, i, none⟩ u b hne)]; exact c1⟩
theorem info_pair : (Tryd.prog.info? 55).map (fun i => (i.zero, i.size, i.bytes)) = some (some (.agg #[.int .i64 0, .int .i64 0]), 2, 16) := by kernel_rfl
set_option maxRecDepth 100000 in
set_option maxHeartbeats 8000000 in
theorem pairs_any (A : Option Addr) (m c : Nat) (es : List (Int × Int)) (w : World) (h : EL w A m es) (hm : m ≤ 100000) :
    Calls Tryd.prog 19 #[.slice A m c] w fun e w' => ∃ v, e = .returned v ∧ w'.ownsRow w.heap.size 55 2 v es.length (flat es) ∧ Below w.heap.size w w' := by
  obtain ⟨i0, hi, hz0, hz1, hz2⟩ := info_parts info_pair
  have hl := h.1
  have E0 := Lib.hid h
  clear h
  go_enter Tryd.func19, Tryd.ntmps19
  go_wp2_with fail
  go_loopw [8, 3] (fun i v wr => ∃ j : Nat, i = .int .i64 (j : Nat) ∧ j ≤ m ∧ wr.ownsRow w.heap.size 55 2 v (es.take j).length (flat (es.take j)) ∧ Below w.heap.size w wr) (fun i _ _ => m - (intOf i).toNat)
  case atStart => exact ⟨0, rfl, Nat.zero_le _, ⟨by simp [flat], .inl ⟨rfl, by simp⟩⟩, Below.refl _ _⟩
  case round =>
    obtain ⟨j, rfl, hj, hown, hb⟩ := hrel
    have O6 := Lib.hid hown
    have B6 := Lib.hid hb
    have E6 := Lib.hid (E0.out.keep hb)
    have hsz := hb.size
    clear hown hb
    obtain ⟨wa, rfl⟩ : ∃ wa : World, wa = wr := ⟨_, rfl⟩
    by_cases hlt : j < m
    · obtain ⟨e, b, o, he, rfl, hbl, c0, c1⟩ := E6.out.at_ hlt
      obtain ⟨x, y⟩ := e
      simp only at c0 c1
      have Hlt := Lib.hid hlt
      have hlen : (es.take j).length = j := by rw [List.length_take]; omega
      have Hs := Lib.hid (show es.take (j + 1) = es.take j ++ [(x, y)] by rw [List.take_add_one, he]; rfl)
      have B7 := Lib.hid (B6.out.alloc B6.out.size (.cells #[.int .i64 x, .int .i64 y] 32))
      have hlen := Lib.hid hlen
      clear he
      go_wp2_with (at_builtin; refine wpList_append_own_wide _ rfl (.tmp 12) (.tmp 18) 33 rfl w.heap.size 55 i0 (.agg #[.int .i64 0, .int .i64 0]) 2 16 Tryd.underlying33 hi hz0 hz1 hz2 rfl (by decide) _ _ _ rfl ((O6.out.alloc _).alloc _) ⟨wa.heap.size + 1, 0, none⟩ 1 1 [.int .i64 x, .int .i64 y] rfl rfl ?c1 ?c2 ?c3 ?c4 ?c5 ?_)
      case c1 =>
        intro k u hu
        match k, hu with
        | 0, hu => simp at hu; subst hu; simp [Addr.add, go_sem]
        | 1, hu => simp at hu; subst hu; simp [Addr.add, go_sem]
      case c2 => intro u hu; simp at hu; rcases hu with rfl | rfl <;> rfl
      case c3 => unfold maxLen; have := hlen.out; omega
      case c4 => have := hlen.out; omega
      case c5 => simp; omega
      intro v' w3 hown' hgrow _
      have B8 := Lib.hid ((B7.out.alloc (by simp; omega) (.cells #[.int .i64 x, .int .i64 y] 55)).grown hgrow (by simp; omega) (fun k hk => own_ge O6.out hk))
      have O8 := Lib.hid (show w3.ownsRow w.heap.size 55 2 v' (es.take (j + 1)).length (flat (es.take (j + 1))) by
        rw [Hs.out, List.length_append, flat_snoc, hlen.out]; exact hown')
      clear hown' hgrow
      go_wp2_with fail
      go_roundw
      case rel => exact ⟨j + 1, by go_num, Hlt.out, O8.out, B8.out⟩
      case measure => simp [intOf]; have := Hlt.out; omega
    · have hjm : es.take j = es := List.take_of_length_le (by omega)
      rw [hjm] at O6
      clear hjm
      go_wp2_with fail
      go_ret
      exact ⟨_, rfl, O6.out, B6.out⟩
end Go.Proofs.YthocdmlacfejkaaDoor
namespace Go.Proofs.YthocdmlacfejkaaDoor
open Go.RowKit
theorem load_ref (w : World) (p : Nat) (x y : Value) (h : Cells w p [x, y]) : (loadVar 35 ⟨p, 0, none⟩).run Tryd.prog w = .ok (.agg #[x, y]) w := by
  have h0 := h.at_ 0
  have h1 := h.at_ 1
  simp only [List.getElem?_cons_zero, List.getElem?_cons_succ] at h0 h1
  go_simp
theorem ret_ref1 {fn : Func} {p : Tmp} (hf : fn.results = #[.cell p 35]) (tmps : Array Value) (w : World) (g : Nat) (x y : Value) (hp : tmps.getD p undef = .pointer (some ⟨g, 0, none⟩)) (h : Cells w g [x, y]) :
    (results fn tmps).run Tryd.prog w = .ok (.agg #[x, y]) w := by
  have hp' : tmps[p]?.getD undef = .pointer (some ⟨g, 0, none⟩) := by simpa using hp
  simp [results, hf, hp', asAddr, load_ref w g x y h]
theorem ret_graph1 {fn : Func} {p : Tmp} (hf : fn.results = #[.cell p 26]) (tmps : Array Value) (w : World) (g : Nat) (x y : Value) (hp : tmps.getD p undef = .pointer (some ⟨g, 0, none⟩)) (h : Cells w g [x, y]) :
    (results fn tmps).run Tryd.prog w = .ok (.agg #[x, y]) w := by
  have hp' : tmps[p]?.getD undef = .pointer (some ⟨g, 0, none⟩) := by simpa using hp
  simp [results, hf, hp', asAddr, load_graph w g x y h]
set_option maxRecDepth 100000 in
set_option maxHeartbeats 8000000 in
theorem plain_any (n : Int) (A : Option Addr) (m c : Nat) (es : List (Int × Int)) (w : World) (h : EL w A m es) (hm : m ≤ 100000) :
    Calls Tryd.prog 23 #[gV n A m c] w fun e w' => ∃ B d, e = .returned (gV n B m d) ∧ EL w' B m es ∧ Below w.heap.size w w' := by
  have kv := (((Below.refl w.heap.size w).alloc (Nat.le_refl _) (.cells #[.int .i64 n, .slice A m c] 26)).alloc (by simp) (.cells #[.int .i64 0, .slice none 0 0] 35)).drew
  have HP := Lib.hid (pairs_any A m c es _ (h.keep kv) hm)
  have hel := h.1
  have G0 := ((Cells.new w #[.int .i64 n, .slice A m c] 26).keep ((Below.refl _ _).alloc (Nat.le_refl _) (.cells #[.int .i64 0, .slice none 0 0] 35))).drew
  have X0 := (Cells.new (w.alloc (.cells #[.int .i64 n, .slice A m c] 26)) #[.int .i64 0, .slice none 0 0] 35).drew
  simp only [World.size_alloc] at X0
  have X0 := Lib.hid X0
  have G0 := Lib.hid G0
  have kv := Lib.hid kv
  clear h hm
  go_enter Tryd.func23, Tryd.ntmps23
  go_wp2_with fail
  have hS : ∀ w', Below (w.heap.size + 1) ((w.alloc (.cells #[.int .i64 n, .slice A m c] 26)).alloc (.cells #[.int .i64 0, .slice none 0 0] 35)).drew w' → w'.cell? ⟨w.heap.size, 0, none⟩ = some (.int .i64 n) ∧ w'.cell? ⟨w.heap.size, 1, none⟩ = some (.slice A m c) := fun w' hb => ⟨(hb.cell (by simp)).trans (G0.out.at_ 0), (hb.cell (by simp)).trans (G0.out.at_ 1)⟩
  have s0 := hS _ (Below.refl _ _)
  have hS := Lib.hid hS
  refine Till.begin 6 (fun w' => w'.cell? ⟨w.heap.size, 0, none⟩ = some (.int .i64 n) ∧ w'.cell? ⟨w.heap.size, 1, none⟩ = some (.slice A m c)) (by kernel_rfl) s0 (fun hH => ?_)
  clear hH
  obtain ⟨V0, hV⟩ : ∃ V, ((w.alloc (.cells #[.int .i64 n, .slice A m c] 26)).alloc (.cells #[.int .i64 0, .slice none 0 0] 35)).drew = V := ⟨_, rfl⟩
  rw [hV] at HP X0 G0 kv s0 hS ⊢
  clear hV
  try simp only [List.setIfInBounds_toArray, List.set_cons_zero, List.set_cons_succ]
  refine Till.tk 0 6 3 (.pointer (some ⟨w.heap.size, 0, none⟩)) s0 ?_
  try simp only [Act.put, List.setIfInBounds_toArray, List.set_cons_zero, List.set_cons_succ]
  refine Till.tk 1 6 4 (.int .i64 n) s0 ?_
  try simp only [Act.put, List.setIfInBounds_toArray, List.set_cons_zero, List.set_cons_succ]
  refine Till.tk 2 6 5 (.pointer (some ⟨w.heap.size, 1, none⟩)) s0 ?_
  try simp only [Act.put, List.setIfInBounds_toArray, List.set_cons_zero, List.set_cons_succ]
  refine Till.tk 3 6 6 (.slice A m c) s0 ?_
  try simp only [Act.put, List.setIfInBounds_toArray, List.set_cons_zero, List.set_cons_succ]
  refine Till.one (i := 4) (by kernel_rfl) rfl (fun K hK => ?_)
  go_simp
  refine HP.out.mono ?_
  rintro e w1 ⟨v, rfl, hown, hb1⟩
  obtain ⟨B, d, rfl, hE, hBb⟩ := own_pairs hown
  have s1 := hS.out w1 (hb1.mono (by have := G0.out.lt; have := X0.out.lt; omega))
  have X1 := Lib.hid (X0.out.keep hb1)
  have B1 := Lib.hid (kv.out.trans (hb1.mono kv.out.size))
  have E1 := Lib.hid hE
  rw [hel] at E1
  have HB := Lib.hid (fun b o (hb : B = some ⟨b, o, none⟩) => (show b ≠ w.heap.size + 1 from fun hh => by have := hBb b o hb; have := X0.out.lt; omega))
  clear hown hb1 hE hBb
  go_simp
  refine hK.out _ _ (fun _ => s1) ?_
  clear hK K
  try simp only [Act.put, List.setIfInBounds_toArray, List.set_cons_zero, List.set_cons_succ]
  refine Till.one (i := 5) (by kernel_rfl) rfl (fun K hK => ?_)
  go_simp
  refine hK.out _ _ (fun _ => s1) ?_
  clear hK K
  try simp only [Act.put, List.setIfInBounds_toArray, List.set_cons_zero, List.set_cons_succ]
  refine Till.one (i := 6) (by kernel_rfl) rfl (fun K hK => ?_)
  have x0 := X1.out.at_ 0
  have x1 := X1.out.at_ 1
  have f0 := X1.out.fz 0
  have f1 := X1.out.fz 1
  simp only [List.getElem?_cons_zero, List.getElem?_cons_succ] at x0 x1
  have X2 := Lib.hid ((X1.out.set 0 (.int .i64 n) (by simp)).set 1 (.slice B m d) (by simp))
  have B2 := Lib.hid ((B1.out.setCell (p := ⟨w.heap.size + 1, 0, none⟩) (by simp) (.int .i64 n)).setCell (p := ⟨w.heap.size + 1, 1, none⟩) (by simp) (.slice B m d))
  have E2 := Lib.hid ((E1.out.other HB.out 0 (.int .i64 n)).other HB.out 1 (.slice B m d))
  go_simp
  refine hK.out _ _ (fun h => absurd h (by decide)) ?_
  clear hK K
  refine Till.done (by kernel_rfl) ?_ _
  try simp only [Exit.then]
  go_wp2_with fail
  exact bodyPost_ret (ret_ref1 rfl _ _ (w.heap.size + 1) _ _ rfl X2.out) rfl ⟨B, d, rfl, E2.out, B2.out⟩
end Go.Proofs.YthocdmlacfejkaaDoor
namespace Go.Proofs.YthocdmlacfejkaaDoor
open Go.RowKit
theorem eql_edges_nil (w : World) (a : Option Addr) (n c : Nat) : (binOp .eql 22 (.slice a n c) (.slice none 0 0)).run Tryd.prog w = .ok (.bool a.isNone) w := Lib.run_eql_slice_nil w 22 32 a n c 0 0 Tryd.underlying22
theorem info_edge : (Tryd.prog.info? 32).map (fun i => (i.zero, i.size, i.bytes)) = some (some (.agg #[.int .i64 0, .int .i64 0]), 2, 16) := by kernel_rfl
theorem add_at (b o j : Nat) : (⟨b, o, none⟩ : Addr).add j = ⟨b, o + j, none⟩ := by
  unfold Addr.add
  split
  · rename_i h; subst h; rfl
  · rfl
theorem flat_len : ∀ l : List (Int × Int), (flat l).length = l.length * 2
  | [] => rfl
  | x :: l => by rw [show flat (x :: l) = .int .i64 x.1 :: .int .i64 x.2 :: flat l from rfl]; simp [flat_len l]; omega
theorem EL.flat {w : World} {ad : Addr} {n : Nat} {es : List (Int × Int)} (h : EL w (some ad) n es) : ∀ j u, (flat es)[j]? = some u → w.cell? (ad.add j) = some u := by
  intro j u hu
  obtain ⟨hl, hc⟩ := h
  have hjl : j < es.length * 2 := by
    rcases Nat.lt_or_ge j (es.length * 2) with h1 | h1
    · exact h1
    · rw [List.getElem?_eq_none (by rw [flat_len]; omega)] at hu; cases hu
  obtain ⟨q, hq⟩ : ∃ q, j = q * 2 ∨ j = q * 2 + 1 := ⟨j / 2, by omega⟩
  have hj : q < es.length := by omega
  obtain ⟨e, he⟩ : ∃ e, es[q]? = some e := ⟨_, List.getElem?_eq_getElem hj⟩
  obtain ⟨b, o, e1, _, c0, c1⟩ := hc q e he
  obtain ⟨f0, f1⟩ := flat_at he
  injection e1 with e1
  subst e1
  rcases hq with rfl | rfl
  · rw [f0] at hu
    injection hu with hu
    subst hu
    rw [add_at]; exact c0
  · rw [f1] at hu
    injection hu with hu
    subst hu
    rw [add_at]; exact c1
set_option maxRecDepth 100000 in
set_option maxHeartbeats 8000000 in
theorem clone_any (A : Option Addr) (m c : Nat) (es : List (Int × Int)) (w : World) (h : EL w A m es) (hm : m ≤ 100000) :
    Calls Tryd.prog 17 #[.slice A m c] w fun e w' => ∃ B d, e = .returned (.slice B m d) ∧ EL w' B m es ∧ (∀ b o, B = some ⟨b, o, none⟩ → w.heap.size ≤ b) ∧ Below w.heap.size w w' := by
  obtain ⟨i0, hi, hz0, hz1, hz2⟩ := info_parts info_edge
  have hel := h.1
  cases A with
  | none =>
    have hes : es = [] := by
      cases es with
      | nil => rfl
      | cons x l => obtain ⟨b, o, e1, _⟩ := h.2 0 x rfl; cases e1
    subst hes
    have hm0 : m = 0 := hel.symm
    subst hm0
    have t0 := fun w' => eql_edges_nil w' none 0 c
    simp only [Option.isNone_none] at t0
    clear h hm hel
    go_enter Tryd.func17, Tryd.ntmps17
    go_wp2_with fail
    go_ret
    exact ⟨none, 0, rfl, ⟨rfl, fun k e hk => by simp at hk⟩, (fun b o hb => by cases hb), Below.refl _ _⟩
  | some ad =>
    have hF := Lib.hid ((h.keep ((Below.refl w.heap.size w).alloc (Nat.le_refl _) (.cells #[] 32))).flat)
    have hfl := Lib.hid (show (Go.Proofs.YthocdmlacfejkaaDoor.flat es).length = m * 2 from by
      rw [← hel]; exact flat_len es)
    have hone := Lib.hid (show ∀ u ∈ Go.Proofs.YthocdmlacfejkaaDoor.flat es, u.oneCell' = true from fun u hu => by
      unfold Go.Proofs.YthocdmlacfejkaaDoor.flat at hu
      obtain ⟨e, _, he⟩ := List.mem_flatMap.1 hu
      simp at he
      rcases he with rfl | rfl <;> rfl)
    have t0 := fun w' => eql_edges_nil w' (some ad) m c
    simp only [Option.isNone_some] at t0
    have O0 := Lib.hid (show (w.alloc (.cells #[] 32)).ownsRow w.heap.size 32 2 (.slice (some ⟨w.heap.size, 0, none⟩) 0 0) 0 [] from ⟨rfl, .inr ⟨w.heap.size, 0, #[], rfl, Nat.le_refl _, heap_new w _, Nat.le_refl _, by unfold maxLen; omega, rfl, rfl⟩⟩)
    have hel := Lib.hid hel
    clear h
    go_enter Tryd.func17, Tryd.ntmps17
    go_wp2_with (at_builtin; refine wpList_append_own_wide _ rfl (.tmp 5) (.tmp 6) 22 rfl w.heap.size 32 i0 (.agg #[.int .i64 0, .int .i64 0]) 2 16 Tryd.underlying22 hi hz0 hz1 hz2 rfl (by decide) _ 0 [] rfl O0.out ad m c (Go.Proofs.YthocdmlacfejkaaDoor.flat es) rfl hfl.out hF.out hone.out (by unfold maxLen; omega) (by omega) (by simp) ?_)
    intro v' w3 hown' hgrow _
    have B8 := Lib.hid (((Below.refl w.heap.size w).alloc (Nat.le_refl _) (.cells #[] 32)).grown hgrow (by simp) (fun k hk => own_ge O0.out hk))
    (try simp only [List.nil_append, Nat.zero_add] at hown')
    rw [← hel.out] at hown'
    obtain ⟨B, d, rfl, hE, hBb⟩ := own_pairs hown'
    rw [hel.out] at hE
    have E8 := Lib.hid hE
    have HB := Lib.hid hBb
    have hel' := hel.out
    clear hown' hgrow hE hBb
    go_wp2_with fail
    go_ret
    exact ⟨B, d, by rw [hel.out]; rfl, E8.out, HB.out, B8.out⟩
set_option maxRecDepth 100000 in
set_option maxHeartbeats 8000000 in
theorem copied_any (n : Int) (A : Option Addr) (m c : Nat) (es : List (Int × Int)) (w : World) (h : EL w A m es) (hm : m ≤ 100000) :
    Calls Tryd.prog 24 #[gV n A m c] w fun e w' => ∃ B d, e = .returned (gV n B m d) ∧ EL w' B m es ∧ Below w.heap.size w w' := by
  have kv := (((Below.refl w.heap.size w).alloc (Nat.le_refl _) (.cells #[.int .i64 n, .slice A m c] 26)).alloc (by simp) (.cells #[.int .i64 0, .slice none 0 0] 26)).drew
  have HP := Lib.hid (clone_any A m c es _ (h.keep kv) hm)
  have G0 := ((Cells.new w #[.int .i64 n, .slice A m c] 26).keep ((Below.refl _ _).alloc (Nat.le_refl _) (.cells #[.int .i64 0, .slice none 0 0] 26))).drew
  have X0 := (Cells.new (w.alloc (.cells #[.int .i64 n, .slice A m c] 26)) #[.int .i64 0, .slice none 0 0] 26).drew
  simp only [World.size_alloc] at X0
  have X0 := Lib.hid X0
  have G0 := Lib.hid G0
  have kv := Lib.hid kv
  clear h hm
  go_enter Tryd.func24, Tryd.ntmps24
  go_wp2_with fail
  have hS : ∀ w', Below (w.heap.size + 1) ((w.alloc (.cells #[.int .i64 n, .slice A m c] 26)).alloc (.cells #[.int .i64 0, .slice none 0 0] 26)).drew w' → w'.cell? ⟨w.heap.size, 0, none⟩ = some (.int .i64 n) ∧ w'.cell? ⟨w.heap.size, 1, none⟩ = some (.slice A m c) := fun w' hb => ⟨(hb.cell (by simp)).trans (G0.out.at_ 0), (hb.cell (by simp)).trans (G0.out.at_ 1)⟩
  have s0 := hS _ (Below.refl _ _)
  have hS := Lib.hid hS
  refine Till.begin 6 (fun w' => w'.cell? ⟨w.heap.size, 0, none⟩ = some (.int .i64 n) ∧ w'.cell? ⟨w.heap.size, 1, none⟩ = some (.slice A m c)) (by kernel_rfl) s0 (fun hH => ?_)
  clear hH
  obtain ⟨V0, hV⟩ : ∃ V, ((w.alloc (.cells #[.int .i64 n, .slice A m c] 26)).alloc (.cells #[.int .i64 0, .slice none 0 0] 26)).drew = V := ⟨_, rfl⟩
  rw [hV] at HP X0 G0 kv s0 hS ⊢
  clear hV
  try simp only [List.setIfInBounds_toArray, List.set_cons_zero, List.set_cons_succ]
  refine Till.tk 0 6 3 (.pointer (some ⟨w.heap.size, 0, none⟩)) s0 ?_
  try simp only [Act.put, List.setIfInBounds_toArray, List.set_cons_zero, List.set_cons_succ]
  refine Till.tk 1 6 4 (.int .i64 n) s0 ?_
  try simp only [Act.put, List.setIfInBounds_toArray, List.set_cons_zero, List.set_cons_succ]
  refine Till.tk 2 6 5 (.pointer (some ⟨w.heap.size, 1, none⟩)) s0 ?_
  try simp only [Act.put, List.setIfInBounds_toArray, List.set_cons_zero, List.set_cons_succ]
  refine Till.tk 3 6 6 (.slice A m c) s0 ?_
  try simp only [Act.put, List.setIfInBounds_toArray, List.set_cons_zero, List.set_cons_succ]
  refine Till.one (i := 4) (by kernel_rfl) rfl (fun K hK => ?_)
  go_simp
  refine HP.out.mono ?_
  rintro e w1 ⟨B, d, rfl, hE, hBb, hb1⟩
  have s1 := hS.out w1 (hb1.mono (by have := G0.out.lt; have := X0.out.lt; omega))
  have X1 := Lib.hid (X0.out.keep hb1)
  have B1 := Lib.hid (kv.out.trans (hb1.mono kv.out.size))
  have E1 := Lib.hid hE
  have HB := Lib.hid (fun b o (hb : B = some ⟨b, o, none⟩) => (show b ≠ w.heap.size + 1 from fun hh => by have := hBb b o hb; have := X0.out.lt; omega))
  clear hb1 hE hBb
  go_simp
  refine hK.out _ _ (fun _ => s1) ?_
  clear hK K
  try simp only [Act.put, List.setIfInBounds_toArray, List.set_cons_zero, List.set_cons_succ]
  refine Till.one (i := 5) (by kernel_rfl) rfl (fun K hK => ?_)
  go_simp
  refine hK.out _ _ (fun _ => s1) ?_
  clear hK K
  try simp only [Act.put, List.setIfInBounds_toArray, List.set_cons_zero, List.set_cons_succ]
  refine Till.one (i := 6) (by kernel_rfl) rfl (fun K hK => ?_)
  have x0 := X1.out.at_ 0
  have x1 := X1.out.at_ 1
  have f0 := X1.out.fz 0
  have f1 := X1.out.fz 1
  simp only [List.getElem?_cons_zero, List.getElem?_cons_succ] at x0 x1
  have X2 := Lib.hid ((X1.out.set 0 (.int .i64 n) (by simp)).set 1 (.slice B m d) (by simp))
  have B2 := Lib.hid ((B1.out.setCell (p := ⟨w.heap.size + 1, 0, none⟩) (by simp) (.int .i64 n)).setCell (p := ⟨w.heap.size + 1, 1, none⟩) (by simp) (.slice B m d))
  have E2 := Lib.hid ((E1.out.other HB.out 0 (.int .i64 n)).other HB.out 1 (.slice B m d))
  go_simp
  refine hK.out _ _ (fun h => absurd h (by decide)) ?_
  clear hK K
  refine Till.done (by kernel_rfl) ?_ _
  try simp only [Exit.then]
  go_wp2_with fail
  exact bodyPost_ret (ret_graph1 rfl _ _ (w.heap.size + 1) _ _ rfl X2.out) rfl ⟨B, d, rfl, E2.out, B2.out⟩
end Go.Proofs.YthocdmlacfejkaaDoor
namespace Go.Proofs.YthocdmlacfejkaaDoor
open Go.RowKit
set_option maxRecDepth 100000 in
set_option maxHeartbeats 8000000 in
theorem equal0_any (A B : Option Addr) (c d : Nat) (w : World) : Calls Tryd.prog 76 #[.slice A 0 c, .slice B 0 d] w fun e w' => e = .returned (.bool true) ∧ w = w' := by
  go_enter Tryd.func76, Tryd.ntmps76
  go_wp2_with fail
  go_loopw [13] (fun i wr => i = .int .i64 0 ∧ w = wr) (fun i _ => 0)
  case atStart => exact ⟨rfl, rfl⟩
  case round =>
    obtain ⟨rfl, rfl⟩ := hrel
    go_wp2_with fail
    go_ret
    exact ⟨rfl, rfl⟩
set_option maxRecDepth 100000 in
set_option maxHeartbeats 8000000 in
theorem same_zero (w : World) : Calls Tryd.prog 20 #[gV 0 none 0 0, gV 0 none 0 0] w fun e w' => e = .returned (.bool true) ∧ Below w.heap.size w w' := by
  have kv := (((Below.refl w.heap.size w).alloc (Nat.le_refl _) (.cells #[.int .i64 0, .slice none 0 0] 26)).alloc (by simp) (.cells #[.int .i64 0, .slice none 0 0] 35)).drew
  have HP := Lib.hid (fun w' => pairs_any none 0 0 [] w' ⟨rfl, fun k e hk => by simp at hk⟩ (by omega))
  have G0 := ((Cells.new w #[.int .i64 0, .slice none 0 0] 26).keep ((Below.refl _ _).alloc (Nat.le_refl _) (.cells #[.int .i64 0, .slice none 0 0] 35))).drew
  have X0 := (Cells.new (w.alloc (.cells #[.int .i64 0, .slice none 0 0] 26)) #[.int .i64 0, .slice none 0 0] 35).drew
  simp only [World.size_alloc] at X0
  have X0 := Lib.hid X0
  have G0 := Lib.hid G0
  have kv := Lib.hid kv
  go_enter Tryd.func20, Tryd.ntmps20
  go_wp2_with fail
  have hS : ∀ w', Below (w.heap.size + 2) ((w.alloc (.cells #[.int .i64 0, .slice none 0 0] 26)).alloc (.cells #[.int .i64 0, .slice none 0 0] 35)).drew w' → w'.cell? ⟨w.heap.size, 0, none⟩ = some (.int .i64 0) ∧ w'.cell? ⟨w.heap.size, 1, none⟩ = some (.slice none 0 0) ∧ w'.cell? ⟨w.heap.size + 1, 0, none⟩ = some (.int .i64 0) ∧ w'.cell? ⟨w.heap.size + 1, 1, none⟩ = some (.slice none 0 0) := fun w' hb => ⟨(hb.cell (by simp)).trans (G0.out.at_ 0), (hb.cell (by simp)).trans (G0.out.at_ 1), (hb.cell (by simp)).trans (X0.out.at_ 0), (hb.cell (by simp)).trans (X0.out.at_ 1)⟩
  have s0 := hS _ (Below.refl _ _)
  have hS := Lib.hid hS
  refine Till.begin 13 (fun w' => w'.cell? ⟨w.heap.size, 0, none⟩ = some (.int .i64 0) ∧ w'.cell? ⟨w.heap.size, 1, none⟩ = some (.slice none 0 0) ∧ w'.cell? ⟨w.heap.size + 1, 0, none⟩ = some (.int .i64 0) ∧ w'.cell? ⟨w.heap.size + 1, 1, none⟩ = some (.slice none 0 0)) (by kernel_rfl) s0 (fun hH => ?_)
  clear hH
  have V1 : w.heap.size + 2 ≤ ((w.alloc (.cells #[.int .i64 0, .slice none 0 0] 26)).alloc (.cells #[.int .i64 0, .slice none 0 0] 35)).drew.heap.size := by simp [World.drew]
  obtain ⟨V0, hV⟩ : ∃ V, ((w.alloc (.cells #[.int .i64 0, .slice none 0 0] 26)).alloc (.cells #[.int .i64 0, .slice none 0 0] 35)).drew = V := ⟨_, rfl⟩
  rw [hV] at X0 G0 kv s0 hS V1 ⊢
  clear hV
  try simp only [Act.put, List.setIfInBounds_toArray, List.set_cons_zero, List.set_cons_succ]
  refine Till.tk 0 13 5 (.pointer (some ⟨w.heap.size, 0, none⟩)) s0 ?_
  try simp only [Act.put, List.setIfInBounds_toArray, List.set_cons_zero, List.set_cons_succ]
  refine Till.tk 1 13 6 (.int .i64 0) s0 ?_
  try simp only [Act.put, List.setIfInBounds_toArray, List.set_cons_zero, List.set_cons_succ]
  refine Till.tk 2 13 7 (.pointer (some ⟨w.heap.size + 1, 0, none⟩)) s0 ?_
  try simp only [Act.put, List.setIfInBounds_toArray, List.set_cons_zero, List.set_cons_succ]
  refine Till.tk 3 13 8 (.int .i64 0) s0 ?_
  try simp only [Act.put, List.setIfInBounds_toArray, List.set_cons_zero, List.set_cons_succ]
  refine Till.tk 4 13 9 (.bool true) s0 ?_
  try simp only [Act.put, List.setIfInBounds_toArray, List.set_cons_zero, List.set_cons_succ]
  refine Till.tk 5 13 10 (.bool true) s0 ?_
  try simp only [Act.put, List.setIfInBounds_toArray, List.set_cons_zero, List.set_cons_succ]
  refine Till.tk 6 13 11 (.pointer (some ⟨w.heap.size, 1, none⟩)) s0 ?_
  try simp only [Act.put, List.setIfInBounds_toArray, List.set_cons_zero, List.set_cons_succ]
  refine Till.tk 7 13 12 (.slice none 0 0) s0 ?_
  try simp only [Act.put, List.setIfInBounds_toArray, List.set_cons_zero, List.set_cons_succ]
  refine Till.tk 9 13 14 (.pointer (some ⟨w.heap.size + 1, 1, none⟩)) s0 ?_
  try simp only [Act.put, List.setIfInBounds_toArray, List.set_cons_zero, List.set_cons_succ]
  refine Till.tk 10 13 15 (.slice none 0 0) s0 ?_
  try simp only [Act.put, List.setIfInBounds_toArray, List.set_cons_zero, List.set_cons_succ]
  refine Till.one (i := 8) (by kernel_rfl) rfl (fun K hK => ?_)
  go_simp
  refine (HP.out V0).mono ?_
  rintro e w1 ⟨v, rfl, hown, hb1⟩
  obtain ⟨B, d, rfl, _, _⟩ := own_pairs hown
  have s1 := hS.out w1 (hb1.mono V1)
  have B1 := Lib.hid (kv.out.trans (hb1.mono kv.out.size))
  clear hown hb1
  go_simp
  refine hK.out _ _ (fun _ => s1) ?_
  clear hK K
  try simp only [Act.put, List.setIfInBounds_toArray, List.set_cons_zero, List.set_cons_succ]
  refine Till.one (i := 11) (by kernel_rfl) rfl (fun K hK => ?_)
  go_simp
  refine (equal0_any B none d 0 w1).mono ?_
  rintro e w2 ⟨rfl, rfl⟩
  go_simp
  refine hK.out _ _ (fun _ => s1) ?_
  clear hK K
  try simp only [Act.put, List.setIfInBounds_toArray, List.set_cons_zero, List.set_cons_succ]
  refine Till.one (i := 12) (by kernel_rfl) rfl (fun K hK => ?_)
  go_simp
  refine hK.out _ _ (fun _ => s1) ?_
  clear hK K
  try simp only [Act.put, List.setIfInBounds_toArray, List.set_cons_zero, List.set_cons_succ]
  refine Till.one (i := 13) (by kernel_rfl) rfl (fun K hK => ?_)
  go_simp
  refine hK.out _ _ (fun h => absurd h (by decide)) ?_
  clear hK K
  refine Till.done (by kernel_rfl) ?_ _
  try simp only [Exit.then]
  go_wp2_with fail
  go_ret
  exact ⟨rfl, B1.out⟩
end Go.Proofs.YthocdmlacfejkaaDoor
