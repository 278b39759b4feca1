/- Two graphs of no node are the same. -/
import Derived.Test.YthocdmlacfejkaaDoorCpy
namespace Go.Proofs.YthocdmlacfejkaaDoor
open Go.RowKit
set_option maxRecDepth 100000 in
set_option maxHeartbeats 8000000 in
theorem equal0_any (A B : Option Addr) (c d : Nat) (w : World) : Calls Tryd.prog 76 #[.slice A 0 c, .slice B 0 d] w fun e w' => e = .returned (.bool true) ∧ w = w' := by
  go_enter Tryd.func76, Tryd.ntmps76
  go_wp2_with fail
  go_loopw [13] (fun i wr => i = .int .i64 0 ∧ w = wr) (fun i _ => 0)
  case atStart => exact ⟨rfl, rfl⟩
  case round =>
    obtain ⟨rfl, rfl⟩ := hrel
    go_wp2_with fail
    go_ret
    exact ⟨rfl, rfl⟩
set_option maxRecDepth 100000 in
set_option maxHeartbeats 8000000 in
theorem same_zero (w : World) : Calls Tryd.prog 20 #[gV 0 none 0 0, gV 0 none 0 0] w fun e w' => e = .returned (.bool true) ∧ Below w.heap.size w w' := by
  have kv := (((Below.refl w.heap.size w).alloc (Nat.le_refl _) (.cells #[.int .i64 0, .slice none 0 0] 26)).alloc (by simp) (.cells #[.int .i64 0, .slice none 0 0] 35)).drew
  have HP := Lib.hid (fun w' => pairs_any none 0 0 [] w' ⟨rfl, fun k e hk => by simp at hk⟩ (by omega))
  have G0 := ((Cells.new w #[.int .i64 0, .slice none 0 0] 26).keep ((Below.refl _ _).alloc (Nat.le_refl _) (.cells #[.int .i64 0, .slice none 0 0] 35))).drew
  have X0 := (Cells.new (w.alloc (.cells #[.int .i64 0, .slice none 0 0] 26)) #[.int .i64 0, .slice none 0 0] 35).drew
  simp only [World.size_alloc] at X0
  have X0 := Lib.hid X0
  have G0 := Lib.hid G0
  have kv := Lib.hid kv
  go_enter Tryd.func20, Tryd.ntmps20
  go_wp2_with fail
  have hS : ∀ w', Below (w.heap.size + 2) ((w.alloc (.cells #[.int .i64 0, .slice none 0 0] 26)).alloc (.cells #[.int .i64 0, .slice none 0 0] 35)).drew w' → w'.cell? ⟨w.heap.size, 0, none⟩ = some (.int .i64 0) ∧ w'.cell? ⟨w.heap.size, 1, none⟩ = some (.slice none 0 0) ∧ w'.cell? ⟨w.heap.size + 1, 0, none⟩ = some (.int .i64 0) ∧ w'.cell? ⟨w.heap.size + 1, 1, none⟩ = some (.slice none 0 0) := fun w' hb => ⟨(hb.cell (by simp)).trans (G0.out.at_ 0), (hb.cell (by simp)).trans (G0.out.at_ 1), (hb.cell (by simp)).trans (X0.out.at_ 0), (hb.cell (by simp)).trans (X0.out.at_ 1)⟩
  have s0 := hS _ (Below.refl _ _)
  have hS := Lib.hid hS
  refine Till.begin 13 (fun w' => w'.cell? ⟨w.heap.size, 0, none⟩ = some (.int .i64 0) ∧ w'.cell? ⟨w.heap.size, 1, none⟩ = some (.slice none 0 0) ∧ w'.cell? ⟨w.heap.size + 1, 0, none⟩ = some (.int .i64 0) ∧ w'.cell? ⟨w.heap.size + 1, 1, none⟩ = some (.slice none 0 0)) (by kernel_rfl) s0 (fun hH => ?_)
  clear hH
  have V1 : w.heap.size + 2 ≤ ((w.alloc (.cells #[.int .i64 0, .slice none 0 0] 26)).alloc (.cells #[.int .i64 0, .slice none 0 0] 35)).drew.heap.size := by simp [World.drew]
  obtain ⟨V0, hV⟩ : ∃ V, ((w.alloc (.cells #[.int .i64 0, .slice none 0 0] 26)).alloc (.cells #[.int .i64 0, .slice none 0 0] 35)).drew = V := ⟨_, rfl⟩
  rw [hV] at X0 G0 kv s0 hS V1 ⊢
  clear hV
  try simp only [Act.put, List.setIfInBounds_toArray, List.set_cons_zero, List.set_cons_succ]
  refine Till.tk 0 13 5 (.pointer (some ⟨w.heap.size, 0, none⟩)) s0 ?_
  try simp only [Act.put, List.setIfInBounds_toArray, List.set_cons_zero, List.set_cons_succ]
  refine Till.tk 1 13 6 (.int .i64 0) s0 ?_
  try simp only [Act.put, List.setIfInBounds_toArray, List.set_cons_zero, List.set_cons_succ]
  refine Till.tk 2 13 7 (.pointer (some ⟨w.heap.size + 1, 0, none⟩)) s0 ?_
  try simp only [Act.put, List.setIfInBounds_toArray, List.set_cons_zero, List.set_cons_succ]
  refine Till.tk 3 13 8 (.int .i64 0) s0 ?_
  try simp only [Act.put, List.setIfInBounds_toArray, List.set_cons_zero, List.set_cons_succ]
  refine Till.tk 4 13 9 (.bool true) s0 ?_
  try simp only [Act.put, List.setIfInBounds_toArray, List.set_cons_zero, List.set_cons_succ]
  refine Till.tk 5 13 10 (.bool true) s0 ?_
  try simp only [Act.put, List.setIfInBounds_toArray, List.set_cons_zero, List.set_cons_succ]
  refine Till.tk 6 13 11 (.pointer (some ⟨w.heap.size, 1, none⟩)) s0 ?_
  try simp only [Act.put, List.setIfInBounds_toArray, List.set_cons_zero, List.set_cons_succ]
  refine Till.tk 7 13 12 (.slice none 0 0) s0 ?_
  try simp only [Act.put, List.setIfInBounds_toArray, List.set_cons_zero, List.set_cons_succ]
  refine Till.tk 9 13 14 (.pointer (some ⟨w.heap.size + 1, 1, none⟩)) s0 ?_
  try simp only [Act.put, List.setIfInBounds_toArray, List.set_cons_zero, List.set_cons_succ]
  refine Till.tk 10 13 15 (.slice none 0 0) s0 ?_
  try simp only [Act.put, List.setIfInBounds_toArray, List.set_cons_zero, List.set_cons_succ]
  refine Till.one (i := 8) (by kernel_rfl) rfl (fun K hK => ?_)
  go_simp
  refine (HP.out V0).mono ?_
  rintro e w1 ⟨v, rfl, hown, hb1⟩
  obtain ⟨B, d, rfl, _, _⟩ := own_pairs hown
  have s1 := hS.out w1 (hb1.mono V1)
  have B1 := Lib.hid (kv.out.trans (hb1.mono kv.out.size))
  clear hown hb1
  go_simp
  refine hK.out _ _ (fun _ => s1) ?_
  clear hK K
  try simp only [Act.put, List.setIfInBounds_toArray, List.set_cons_zero, List.set_cons_succ]
  refine Till.one (i := 11) (by kernel_rfl) rfl (fun K hK => ?_)
  go_simp
  refine (equal0_any B none d 0 w1).mono ?_
  rintro e w2 ⟨rfl, rfl⟩
  go_simp
  refine hK.out _ _ (fun _ => s1) ?_
  clear hK K
  try simp only [Act.put, List.setIfInBounds_toArray, List.set_cons_zero, List.set_cons_succ]
  refine Till.one (i := 12) (by kernel_rfl) rfl (fun K hK => ?_)
  go_simp
  refine hK.out _ _ (fun _ => s1) ?_
  clear hK K
  try simp only [Act.put, List.setIfInBounds_toArray, List.set_cons_zero, List.set_cons_succ]
  refine Till.one (i := 13) (by kernel_rfl) rfl (fun K hK => ?_)
  go_simp
  refine hK.out _ _ (fun h => absurd h (by decide)) ?_
  clear hK K
  refine Till.done (by kernel_rfl) ?_ _
  try simp only [Exit.then]
  go_wp2_with fail
  go_ret
  exact ⟨rfl, B1.out⟩
end Go.Proofs.YthocdmlacfejkaaDoor
