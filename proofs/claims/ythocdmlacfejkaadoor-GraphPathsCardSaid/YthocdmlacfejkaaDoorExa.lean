/- The components, and the graph of the document's example. -/
import Derived.Test.YthocdmlacfejkaaDoorSnk
namespace Go.Proofs.YthocdmlacfejkaaDoor
open Go.RowKit
set_option maxRecDepth 100000 in
set_option maxHeartbeats 8000000 in
theorem comps_any (n : Nat) (A : Option Addr) (m c : Nat) (es : List (Nat × Nat)) (out : List Nat) (w : World) (h : EL w A m (cast es)) (hg : Fine n es) (hout : compM es n = some out) (ho64 : ∀ x ∈ out, x < 18446744073709551616) (hol : out.length ≤ 1000) (hw : Good w) :
    Calls Tryd.prog 28 #[gV n A m c] w fun e w' => ∃ A', e = .returned (.tuple #[.slice A' out.length out.length, .int .i64 0]) ∧ LL w.heap.size w' A' (out.map bitsOf) ∧ Below w.heap.size w w' := by
  have hlen := h.len
  have hm : m ≤ 4096 := by have := hg.len; omega
  have hn64 := hg.n64
  have kv := (Below.refl w.heap.size w).alloc (Nat.le_refl _) (.cells #[.int .i64 (n : Nat), .slice A m c] 26)
  have G0 := Lib.hid (Cells.new w #[.int .i64 (n : Nat), .slice A m c] 26)
  have HC := check_any (n : Int) A m c (cast es) (w.alloc (.cells #[.int .i64 (n : Nat), .slice A m c] 26)) (h.keep kv) (by omega)
  rw [hg.check] at HC
  have HC := Lib.hid HC
  have HG := Lib.hid (fun w' (hb' : Below w.heap.size w w') => hw.below hb' hw.size)
  have HM := Lib.hid (fun w' (hb' : Below w.heap.size w w') => components_any n A m c es out w' (h.keep hb') hg.low64 hm hn64 hout (hw.below hb' hw.size))
  have kv := Lib.hid kv
  have Ho := Lib.hid ho64
  have Hol := Lib.hid hol
  clear h hg hw hout hlen ho64 hol
  go_enter Tryd.func28, Tryd.ntmps28
  go_wp2_with fail
  refine HC.out.mono ?_
  rintro e w1 ⟨rfl, hb1⟩
  have G1 := Lib.hid (G0.out.keep hb1)
  have B1 := Lib.hid (below_on kv.out hb1)
  have g0 := G1.out.at_ 0
  have g1 := G1.out.at_ 1
  simp only [List.getElem?_cons_zero, List.getElem?_cons_succ] at g0 g1
  clear hb1
  go_wp2_with fail
  refine (HM.out _ B1.out).mono ?_
  rintro e w4 ⟨v, rfl, hown, hb4⟩
  obtain ⟨A5, c5, rfl, hU, _, _⟩ := own_sets hown
  have B4 := Lib.hid (below_on B1.out hb4)
  have HLs := Lib.hid (lists_any _ A5 c5 out w4 hU Ho.out Hol.out (HG.out _ B4.out))
  clear hown hU hb4 g0 g1
  go_wp2_with fail
  refine HLs.out.mono ?_
  rintro e w6 ⟨A6, rfl, hLL, hb6⟩
  have B6 := Lib.hid (below_on B4.out hb6)
  have L6 := Lib.hid (hLL.down B4.out.size)
  clear hLL hb6
  go_wp2_with fail
  go_ret2
  exact ⟨A6, rfl, L6.out, B6.out⟩
theorem info_graph : (Tryd.prog.info? 26).map (·.size) = some 2 := by kernel_rfl
def exEs : List (Nat × Nat) := [(0, 1), (1, 0), (1, 2), (3, 2)]
set_option maxRecDepth 100000 in
set_option maxHeartbeats 8000000 in
theorem example_any (w : World) : Calls Tryd.prog 69 #[] w fun e w' => ∃ A, e = .returned (gV 4 A 4 4) ∧ EL w' A 4 (cast exEs) ∧ Below w.heap.size w w' := by
  go_enter Tryd.func69, Tryd.ntmps69
  go_wp2_with fail
  refine bodyPost_ret (v := gV 4 (some ⟨w.heap.size + 1, 0, none⟩) 4 4) (results_cell_row rfl _ _ w.heap.size 26 #[.int .i64 4, .slice (some ⟨w.heap.size + 1, 0, none⟩) 4 4] (0, 0) _ rfl ((heap_alloc_old _ _ (by simp)).trans (heap_new _ _)) Tryd.underlying26 rfl (by rw [info_graph]; rfl)) rfl ?_
  refine ⟨some ⟨w.heap.size + 1, 0, none⟩, ?_, ⟨rfl, ?_⟩, ?_⟩
  · rfl
  · intro k e hk
    refine ⟨w.heap.size + 1, 0, rfl, by simp, ?_⟩
    have hk4 : k < 4 := by
      rcases Nat.lt_or_ge k 4 with h1 | h1
      · exact h1
      · rw [List.getElem?_eq_none (by simpa [cast, exEs] using h1)] at hk; cases hk
    match k, hk4, hk with
    | 0, _, hk => simp [cast, exEs] at hk; subst hk; simp [go_sem]
    | 1, _, hk => simp [cast, exEs] at hk; subst hk; simp [go_sem]
    | 2, _, hk => simp [cast, exEs] at hk; subst hk; simp [go_sem]
    | 3, _, hk => simp [cast, exEs] at hk; subst hk; simp [go_sem]
  · exact ((Below.refl w.heap.size w).alloc (Nat.le_refl _) _).alloc (by simp) _
end Go.Proofs.YthocdmlacfejkaaDoor
