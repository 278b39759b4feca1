/- The graph in the reference's words, and a copy of it. -/
import Derived.Test.YthocdmlacfejkaaDoorPrs
import Derived.Test.YthocdmlacfejkaaDoorTill
namespace Go.Proofs.YthocdmlacfejkaaDoor
open Go.RowKit
theorem load_ref (w : World) (p : Nat) (x y : Value) (h : Cells w p [x, y]) : (loadVar 35 ⟨p, 0, none⟩).run Tryd.prog w = .ok (.agg #[x, y]) w := by
  have h0 := h.at_ 0
  have h1 := h.at_ 1
  simp only [List.getElem?_cons_zero, List.getElem?_cons_succ] at h0 h1
  go_simp
theorem ret_ref1 {fn : Func} {p : Tmp} (hf : fn.results = #[.cell p 35]) (tmps : Array Value) (w : World) (g : Nat) (x y : Value) (hp : tmps.getD p undef = .pointer (some ⟨g, 0, none⟩)) (h : Cells w g [x, y]) :
    (results fn tmps).run Tryd.prog w = .ok (.agg #[x, y]) w := by
  have hp' : tmps[p]?.getD undef = .pointer (some ⟨g, 0, none⟩) := by simpa using hp
  simp [results, hf, hp', asAddr, load_ref w g x y h]
theorem ret_graph1 {fn : Func} {p : Tmp} (hf : fn.results = #[.cell p 26]) (tmps : Array Value) (w : World) (g : Nat) (x y : Value) (hp : tmps.getD p undef = .pointer (some ⟨g, 0, none⟩)) (h : Cells w g [x, y]) :
    (results fn tmps).run Tryd.prog w = .ok (.agg #[x, y]) w := by
  have hp' : tmps[p]?.getD undef = .pointer (some ⟨g, 0, none⟩) := by simpa using hp
  simp [results, hf, hp', asAddr, load_graph w g x y h]
set_option maxRecDepth 100000 in
set_option maxHeartbeats 8000000 in
theorem plain_any (n : Int) (A : Option Addr) (m c : Nat) (es : List (Int × Int)) (w : World) (h : EL w A m es) (hm : m ≤ 100000) :
    Calls Tryd.prog 23 #[gV n A m c] w fun e w' => ∃ B d, e = .returned (gV n B m d) ∧ EL w' B m es ∧ Below w.heap.size w w' := by
  have kv := (((Below.refl w.heap.size w).alloc (Nat.le_refl _) (.cells #[.int .i64 n, .slice A m c] 26)).alloc (by simp) (.cells #[.int .i64 0, .slice none 0 0] 35)).drew
  have HP := Lib.hid (pairs_any A m c es _ (h.keep kv) hm)
  have hel := h.1
  have G0 := ((Cells.new w #[.int .i64 n, .slice A m c] 26).keep ((Below.refl _ _).alloc (Nat.le_refl _) (.cells #[.int .i64 0, .slice none 0 0] 35))).drew
  have X0 := (Cells.new (w.alloc (.cells #[.int .i64 n, .slice A m c] 26)) #[.int .i64 0, .slice none 0 0] 35).drew
  simp only [World.size_alloc] at X0
  have X0 := Lib.hid X0
  have G0 := Lib.hid G0
  have kv := Lib.hid kv
  clear h hm
  go_enter Tryd.func23, Tryd.ntmps23
  go_wp2_with fail
  have hS : ∀ w', Below (w.heap.size + 1) ((w.alloc (.cells #[.int .i64 n, .slice A m c] 26)).alloc (.cells #[.int .i64 0, .slice none 0 0] 35)).drew w' → w'.cell? ⟨w.heap.size, 0, none⟩ = some (.int .i64 n) ∧ w'.cell? ⟨w.heap.size, 1, none⟩ = some (.slice A m c) := fun w' hb => ⟨(hb.cell (by simp)).trans (G0.out.at_ 0), (hb.cell (by simp)).trans (G0.out.at_ 1)⟩
  have s0 := hS _ (Below.refl _ _)
  have hS := Lib.hid hS
  refine Till.begin 6 (fun w' => w'.cell? ⟨w.heap.size, 0, none⟩ = some (.int .i64 n) ∧ w'.cell? ⟨w.heap.size, 1, none⟩ = some (.slice A m c)) (by kernel_rfl) s0 (fun hH => ?_)
  clear hH
  obtain ⟨V0, hV⟩ : ∃ V, ((w.alloc (.cells #[.int .i64 n, .slice A m c] 26)).alloc (.cells #[.int .i64 0, .slice none 0 0] 35)).drew = V := ⟨_, rfl⟩
  rw [hV] at HP X0 G0 kv s0 hS ⊢
  clear hV
  try simp only [List.setIfInBounds_toArray, List.set_cons_zero, List.set_cons_succ]
  refine Till.tk 0 6 3 (.pointer (some ⟨w.heap.size, 0, none⟩)) s0 ?_
  try simp only [Act.put, List.setIfInBounds_toArray, List.set_cons_zero, List.set_cons_succ]
  refine Till.tk 1 6 4 (.int .i64 n) s0 ?_
  try simp only [Act.put, List.setIfInBounds_toArray, List.set_cons_zero, List.set_cons_succ]
  refine Till.tk 2 6 5 (.pointer (some ⟨w.heap.size, 1, none⟩)) s0 ?_
  try simp only [Act.put, List.setIfInBounds_toArray, List.set_cons_zero, List.set_cons_succ]
  refine Till.tk 3 6 6 (.slice A m c) s0 ?_
  try simp only [Act.put, List.setIfInBounds_toArray, List.set_cons_zero, List.set_cons_succ]
  refine Till.one (i := 4) (by kernel_rfl) rfl (fun K hK => ?_)
  go_simp
  refine HP.out.mono ?_
  rintro e w1 ⟨v, rfl, hown, hb1⟩
  obtain ⟨B, d, rfl, hE, hBb⟩ := own_pairs hown
  have s1 := hS.out w1 (hb1.mono (by have := G0.out.lt; have := X0.out.lt; omega))
  have X1 := Lib.hid (X0.out.keep hb1)
  have B1 := Lib.hid (kv.out.trans (hb1.mono kv.out.size))
  have E1 := Lib.hid hE
  rw [hel] at E1
  have HB := Lib.hid (fun b o (hb : B = some ⟨b, o, none⟩) => (show b ≠ w.heap.size + 1 from fun hh => by have := hBb b o hb; have := X0.out.lt; omega))
  clear hown hb1 hE hBb
  go_simp
  refine hK.out _ _ (fun _ => s1) ?_
  clear hK K
  try simp only [Act.put, List.setIfInBounds_toArray, List.set_cons_zero, List.set_cons_succ]
  refine Till.one (i := 5) (by kernel_rfl) rfl (fun K hK => ?_)
  go_simp
  refine hK.out _ _ (fun _ => s1) ?_
  clear hK K
  try simp only [Act.put, List.setIfInBounds_toArray, List.set_cons_zero, List.set_cons_succ]
  refine Till.one (i := 6) (by kernel_rfl) rfl (fun K hK => ?_)
  have x0 := X1.out.at_ 0
  have x1 := X1.out.at_ 1
  have f0 := X1.out.fz 0
  have f1 := X1.out.fz 1
  simp only [List.getElem?_cons_zero, List.getElem?_cons_succ] at x0 x1
  have X2 := Lib.hid ((X1.out.set 0 (.int .i64 n) (by simp)).set 1 (.slice B m d) (by simp))
  have B2 := Lib.hid ((B1.out.setCell (p := ⟨w.heap.size + 1, 0, none⟩) (by simp) (.int .i64 n)).setCell (p := ⟨w.heap.size + 1, 1, none⟩) (by simp) (.slice B m d))
  have E2 := Lib.hid ((E1.out.other HB.out 0 (.int .i64 n)).other HB.out 1 (.slice B m d))
  go_simp
  refine hK.out _ _ (fun h => absurd h (by decide)) ?_
  clear hK K
  refine Till.done (by kernel_rfl) ?_ _
  try simp only [Exit.then]
  go_wp2_with fail
  exact bodyPost_ret (ret_ref1 rfl _ _ (w.heap.size + 1) _ _ rfl X2.out) rfl ⟨B, d, rfl, E2.out, B2.out⟩
end Go.Proofs.YthocdmlacfejkaaDoor
