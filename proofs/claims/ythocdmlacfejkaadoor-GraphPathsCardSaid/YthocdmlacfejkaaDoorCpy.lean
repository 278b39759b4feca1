/- A copy of the graph. -/
import Derived.Test.YthocdmlacfejkaaDoorPln
import Derived.Lib.SliceRun
namespace Go.Proofs.YthocdmlacfejkaaDoor
open Go.RowKit
theorem eql_edges_nil (w : World) (a : Option Addr) (n c : Nat) : (binOp .eql 22 (.slice a n c) (.slice none 0 0)).run Tryd.prog w = .ok (.bool a.isNone) w := Lib.run_eql_slice_nil w 22 32 a n c 0 0 Tryd.underlying22
theorem info_edge : (Tryd.prog.info? 32).map (fun i => (i.zero, i.size, i.bytes)) = some (some (.agg #[.int .i64 0, .int .i64 0]), 2, 16) := by kernel_rfl
theorem add_at (b o j : Nat) : (⟨b, o, none⟩ : Addr).add j = ⟨b, o + j, none⟩ := by
  unfold Addr.add
  split
  · rename_i h; subst h; rfl
  · rfl
theorem flat_len : ∀ l : List (Int × Int), (flat l).length = l.length * 2
  | [] => rfl
  | x :: l => by rw [show flat (x :: l) = .int .i64 x.1 :: .int .i64 x.2 :: flat l from rfl]; simp [flat_len l]; omega
theorem EL.flat {w : World} {ad : Addr} {n : Nat} {es : List (Int × Int)} (h : EL w (some ad) n es) : ∀ j u, (flat es)[j]? = some u → w.cell? (ad.add j) = some u := by
  intro j u hu
  obtain ⟨hl, hc⟩ := h
  have hjl : j < es.length * 2 := by
    rcases Nat.lt_or_ge j (es.length * 2) with h1 | h1
    · exact h1
    · rw [List.getElem?_eq_none (by rw [flat_len]; omega)] at hu; cases hu
  obtain ⟨q, hq⟩ : ∃ q, j = q * 2 ∨ j = q * 2 + 1 := ⟨j / 2, by omega⟩
  have hj : q < es.length := by omega
  obtain ⟨e, he⟩ : ∃ e, es[q]? = some e := ⟨_, List.getElem?_eq_getElem hj⟩
  obtain ⟨b, o, e1, _, c0, c1⟩ := hc q e he
  obtain ⟨f0, f1⟩ := flat_at he
  injection e1 with e1
  subst e1
  rcases hq with rfl | rfl
  · rw [f0] at hu
    injection hu with hu
    subst hu
    rw [add_at]; exact c0
  · rw [f1] at hu
    injection hu with hu
    subst hu
    rw [add_at]; exact c1
set_option maxRecDepth 100000 in
set_option maxHeartbeats 8000000 in
theorem clone_any (A : Option Addr) (m c : Nat) (es : List (Int × Int)) (w : World) (h : EL w A m es) (hm : m ≤ 100000) :
    Calls Tryd.prog 17 #[.slice A m c] w fun e w' => ∃ B d, e = .returned (.slice B m d) ∧ EL w' B m es ∧ (∀ b o, B = some ⟨b, o, none⟩ → w.heap.size ≤ b) ∧ Below w.heap.size w w' := by
  obtain ⟨i0, hi, hz0, hz1, hz2⟩ := info_parts info_edge
  have hel := h.1
  cases A with
  | none =>
    have hes : es = [] := by
      cases es with
      | nil => rfl
      | cons x l => obtain ⟨b, o, e1, _⟩ := h.2 0 x rfl; cases e1
    subst hes
    have hm0 : m = 0 := hel.symm
    subst hm0
    have t0 := fun w' => eql_edges_nil w' none 0 c
    simp only [Option.isNone_none] at t0
    clear h hm hel
    go_enter Tryd.func17, Tryd.ntmps17
    go_wp2_with fail
    go_ret
    exact ⟨none, 0, rfl, ⟨rfl, fun k e hk => by simp at hk⟩, (fun b o hb => by cases hb), Below.refl _ _⟩
  | some ad =>
    have hF := Lib.hid ((h.keep ((Below.refl w.heap.size w).alloc (Nat.le_refl _) (.cells #[] 32))).flat)
    have hfl := Lib.hid (show (Go.Proofs.YthocdmlacfejkaaDoor.flat es).length = m * 2 from by
      rw [← hel]; exact flat_len es)
    have hone := Lib.hid (show ∀ u ∈ Go.Proofs.YthocdmlacfejkaaDoor.flat es, u.oneCell' = true from fun u hu => by
      unfold Go.Proofs.YthocdmlacfejkaaDoor.flat at hu
      obtain ⟨e, _, he⟩ := List.mem_flatMap.1 hu
      simp at he
      rcases he with rfl | rfl <;> rfl)
    have t0 := fun w' => eql_edges_nil w' (some ad) m c
    simp only [Option.isNone_some] at t0
    have O0 := Lib.hid (show (w.alloc (.cells #[] 32)).ownsRow w.heap.size 32 2 (.slice (some ⟨w.heap.size, 0, none⟩) 0 0) 0 [] from ⟨rfl, .inr ⟨w.heap.size, 0, #[], rfl, Nat.le_refl _, heap_new w _, Nat.le_refl _, by unfold maxLen; omega, rfl, rfl⟩⟩)
    have hel := Lib.hid hel
    clear h
    go_enter Tryd.func17, Tryd.ntmps17
    go_wp2_with (at_builtin; refine wpList_append_own_wide _ rfl (.tmp 5) (.tmp 6) 22 rfl w.heap.size 32 i0 (.agg #[.int .i64 0, .int .i64 0]) 2 16 Tryd.underlying22 hi hz0 hz1 hz2 rfl (by decide) _ 0 [] rfl O0.out ad m c (Go.Proofs.YthocdmlacfejkaaDoor.flat es) rfl hfl.out hF.out hone.out (by unfold maxLen; omega) (by omega) (by simp) ?_)
    intro v' w3 hown' hgrow _
    have B8 := Lib.hid (((Below.refl w.heap.size w).alloc (Nat.le_refl _) (.cells #[] 32)).grown hgrow (by simp) (fun k hk => own_ge O0.out hk))
    (try simp only [List.nil_append, Nat.zero_add] at hown')
    rw [← hel.out] at hown'
    obtain ⟨B, d, rfl, hE, hBb⟩ := own_pairs hown'
    rw [hel.out] at hE
    have E8 := Lib.hid hE
    have HB := Lib.hid hBb
    have hel' := hel.out
    clear hown' hgrow hE hBb
    go_wp2_with fail
    go_ret
    exact ⟨B, d, by rw [hel.out]; rfl, E8.out, HB.out, B8.out⟩
set_option maxRecDepth 100000 in
set_option maxHeartbeats 8000000 in
theorem copied_any (n : Int) (A : Option Addr) (m c : Nat) (es : List (Int × Int)) (w : World) (h : EL w A m es) (hm : m ≤ 100000) :
    Calls Tryd.prog 24 #[gV n A m c] w fun e w' => ∃ B d, e = .returned (gV n B m d) ∧ EL w' B m es ∧ Below w.heap.size w w' := by
  have kv := (((Below.refl w.heap.size w).alloc (Nat.le_refl _) (.cells #[.int .i64 n, .slice A m c] 26)).alloc (by simp) (.cells #[.int .i64 0, .slice none 0 0] 26)).drew
  have HP := Lib.hid (clone_any A m c es _ (h.keep kv) hm)
  have G0 := ((Cells.new w #[.int .i64 n, .slice A m c] 26).keep ((Below.refl _ _).alloc (Nat.le_refl _) (.cells #[.int .i64 0, .slice none 0 0] 26))).drew
  have X0 := (Cells.new (w.alloc (.cells #[.int .i64 n, .slice A m c] 26)) #[.int .i64 0, .slice none 0 0] 26).drew
  simp only [World.size_alloc] at X0
  have X0 := Lib.hid X0
  have G0 := Lib.hid G0
  have kv := Lib.hid kv
  clear h hm
  go_enter Tryd.func24, Tryd.ntmps24
  go_wp2_with fail
  have hS : ∀ w', Below (w.heap.size + 1) ((w.alloc (.cells #[.int .i64 n, .slice A m c] 26)).alloc (.cells #[.int .i64 0, .slice none 0 0] 26)).drew w' → w'.cell? ⟨w.heap.size, 0, none⟩ = some (.int .i64 n) ∧ w'.cell? ⟨w.heap.size, 1, none⟩ = some (.slice A m c) := fun w' hb => ⟨(hb.cell (by simp)).trans (G0.out.at_ 0), (hb.cell (by simp)).trans (G0.out.at_ 1)⟩
  have s0 := hS _ (Below.refl _ _)
  have hS := Lib.hid hS
  refine Till.begin 6 (fun w' => w'.cell? ⟨w.heap.size, 0, none⟩ = some (.int .i64 n) ∧ w'.cell? ⟨w.heap.size, 1, none⟩ = some (.slice A m c)) (by kernel_rfl) s0 (fun hH => ?_)
  clear hH
  obtain ⟨V0, hV⟩ : ∃ V, ((w.alloc (.cells #[.int .i64 n, .slice A m c] 26)).alloc (.cells #[.int .i64 0, .slice none 0 0] 26)).drew = V := ⟨_, rfl⟩
  rw [hV] at HP X0 G0 kv s0 hS ⊢
  clear hV
  try simp only [List.setIfInBounds_toArray, List.set_cons_zero, List.set_cons_succ]
  refine Till.tk 0 6 3 (.pointer (some ⟨w.heap.size, 0, none⟩)) s0 ?_
  try simp only [Act.put, List.setIfInBounds_toArray, List.set_cons_zero, List.set_cons_succ]
  refine Till.tk 1 6 4 (.int .i64 n) s0 ?_
  try simp only [Act.put, List.setIfInBounds_toArray, List.set_cons_zero, List.set_cons_succ]
  refine Till.tk 2 6 5 (.pointer (some ⟨w.heap.size, 1, none⟩)) s0 ?_
  try simp only [Act.put, List.setIfInBounds_toArray, List.set_cons_zero, List.set_cons_succ]
  refine Till.tk 3 6 6 (.slice A m c) s0 ?_
  try simp only [Act.put, List.setIfInBounds_toArray, List.set_cons_zero, List.set_cons_succ]
  refine Till.one (i := 4) (by kernel_rfl) rfl (fun K hK => ?_)
  go_simp
  refine HP.out.mono ?_
  rintro e w1 ⟨B, d, rfl, hE, hBb, hb1⟩
  have s1 := hS.out w1 (hb1.mono (by have := G0.out.lt; have := X0.out.lt; omega))
  have X1 := Lib.hid (X0.out.keep hb1)
  have B1 := Lib.hid (kv.out.trans (hb1.mono kv.out.size))
  have E1 := Lib.hid hE
  have HB := Lib.hid (fun b o (hb : B = some ⟨b, o, none⟩) => (show b ≠ w.heap.size + 1 from fun hh => by have := hBb b o hb; have := X0.out.lt; omega))
  clear hb1 hE hBb
  go_simp
  refine hK.out _ _ (fun _ => s1) ?_
  clear hK K
  try simp only [Act.put, List.setIfInBounds_toArray, List.set_cons_zero, List.set_cons_succ]
  refine Till.one (i := 5) (by kernel_rfl) rfl (fun K hK => ?_)
  go_simp
  refine hK.out _ _ (fun _ => s1) ?_
  clear hK K
  try simp only [Act.put, List.setIfInBounds_toArray, List.set_cons_zero, List.set_cons_succ]
  refine Till.one (i := 6) (by kernel_rfl) rfl (fun K hK => ?_)
  have x0 := X1.out.at_ 0
  have x1 := X1.out.at_ 1
  have f0 := X1.out.fz 0
  have f1 := X1.out.fz 1
  simp only [List.getElem?_cons_zero, List.getElem?_cons_succ] at x0 x1
  have X2 := Lib.hid ((X1.out.set 0 (.int .i64 n) (by simp)).set 1 (.slice B m d) (by simp))
  have B2 := Lib.hid ((B1.out.setCell (p := ⟨w.heap.size + 1, 0, none⟩) (by simp) (.int .i64 n)).setCell (p := ⟨w.heap.size + 1, 1, none⟩) (by simp) (.slice B m d))
  have E2 := Lib.hid ((E1.out.other HB.out 0 (.int .i64 n)).other HB.out 1 (.slice B m d))
  go_simp
  refine hK.out _ _ (fun h => absurd h (by decide)) ?_
  clear hK K
  refine Till.done (by kernel_rfl) ?_ _
  try simp only [Exit.then]
  go_wp2_with fail
  exact bodyPost_ret (ret_graph1 rfl _ _ (w.heap.size + 1) _ _ rfl X2.out) rfl ⟨B, d, rfl, E2.out, B2.out⟩
end Go.Proofs.YthocdmlacfejkaaDoor
