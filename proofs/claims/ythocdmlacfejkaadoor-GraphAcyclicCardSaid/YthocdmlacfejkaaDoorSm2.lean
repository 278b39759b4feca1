/- Lists of pairs are equal; graphs are the same. -/
import Derived.Test.YthocdmlacfejkaaDoorInd
import Derived.ChangeKeysEq
namespace Go.Proofs.YthocdmlacfejkaaDoor
open Go.RowKit
theorem pair_cells : Tryd.prog.cellsOf 3 = 1 := by kernel_rfl
theorem neq_pair (x0 x1 y0 y1 : Int) (w : World) : (binOp .neq 55 (.agg #[.int .i64 x0, .int .i64 x1]) (.agg #[.int .i64 y0, .int .i64 y1])).run Tryd.prog w = .ok (.bool (!(x0 == y0 && x1 == y1))) w := by
  obtain ⟨i0, hi, _, hz1, _⟩ := info_parts info_int
  have h0 : (part 3 #[Value.int .i64 x0, .int .i64 x1] 0).run Tryd.prog w = .ok (.int .i64 x0) w := by go_simp
  have h1 : (part 3 #[Value.int .i64 x0, .int .i64 x1] 1).run Tryd.prog w = .ok (.int .i64 x1) w := by go_simp
  have g0 : (part 3 #[Value.int .i64 y0, .int .i64 y1] 0).run Tryd.prog w = .ok (.int .i64 y0) w := by go_simp
  have g1 : (part 3 #[Value.int .i64 y0, .int .i64 y1] 1).run Tryd.prog w = .ok (.int .i64 y1) w := by go_simp
  have e0 : (Op.equalIn 9999 3 (.int .i64 x0) (.int .i64 y0)).run Tryd.prog w = .ok (x0 == y0) w := run_equalIn_int w 9998 3 .i64 .i64 x0 y0 Tryd.underlying3
  have e1 : (Op.equalIn 9999 3 (.int .i64 x1) (.int .i64 y1)).run Tryd.prog w = .ok (x1 == y1) w := run_equalIn_int w 9998 3 .i64 .i64 x1 y1 Tryd.underlying3
  rw [run_neq_struct, run_equalIn_array w 9999 _ _ Tryd.underlying55 hi, pair_cells, show List.range 2 = [0, 1] from rfl]
  simp only [Op.eqItems, Sem.run_bind, Nat.zero_mul, Nat.one_mul, h0, g0, e0, Result.andThen_ok]
  cases h : (x0 == y0)
  · simp [Result.andThen]
  · simp only [Bool.not_true, Bool.false_eq_true, if_false, Sem.run_bind, h1, g1, e1, Result.andThen_ok]
    cases h' : (x1 == y1) <;> simp [Result.andThen]
attribute [local irreducible] wpStill
set_option maxRecDepth 100000 in
set_option maxHeartbeats 8000000 in
theorem equalP_any (A B : Option Addr) (n c m d : Nat) (xs ys : List (Int × Int)) (w : World) (hx : EL w A n xs) (hy : EL w B m ys) (hn : n ≤ 1000000) (hm : m ≤ 1000000) :
    Calls Tryd.prog 76 #[.slice A n c, .slice B m d] w fun e w' => e = .returned (.bool (xs == ys)) ∧ Below w.heap.size w w' := by
  have hxl := hx.1
  have hyl := hy.1
  have q0 := neq_pair
  have Hx := Lib.hid hx
  have Hy := Lib.hid hy
  clear hx hy
  by_cases hl : n = m
  · subst hl
    have Hxl := Lib.hid hxl
    have Hyl := Lib.hid hyl
    obtain ⟨r, hr⟩ : ∃ r, (xs == ys) = r := ⟨_, rfl⟩
    have Hr := Lib.hid hr
    have t0 : ((n : Int) != (n : Int)) = false := by simp
    rw [hr]
    clear hxl hyl hr
    go_enter Tryd.func76, Tryd.ntmps76
    go_wp2_with fail
    go_loopw [5, 13] (fun _ i wr => ∃ k : Nat, i = .int .i64 (k : Nat) ∧ k ≤ n ∧ xs.take k = ys.take k ∧ Below w.heap.size w wr) (fun _ i _ => n - (intOf i).toNat)
    case atStart => exact ⟨0, rfl, Nat.zero_le _, by simp, Below.refl _ _⟩
    case round =>
      obtain ⟨k, rfl, hk, he, hb⟩ := hrel
      have He := Lib.hid he
      have B6 := Lib.hid hb
      clear he hb
      obtain ⟨wa, rfl⟩ : ∃ wa : World, wa = wr := ⟨_, rfl⟩
      by_cases hlt : k < n
      · obtain ⟨⟨x0, x1⟩, b, o, hxk, rfl, _, c0, c1⟩ := (Hx.out.keep B6.out).at_ hlt
        obtain ⟨⟨y0, y1⟩, b2, o2, hyk, rfl, _, d0, d1⟩ := (Hy.out.keep B6.out).at_ hlt
        simp only at c0 c1 d0 d1
        have Hlt := Lib.hid hlt
        have Hxk := Lib.hid hxk
        have Hyk := Lib.hid hyk
        clear hxk hyk
        by_cases h0 : x0 = y0 ∧ x1 = y1
        · obtain ⟨rfl, rfl⟩ := h0
          go_wp2_with fail
          go_still_tail 8, (by kernel_rfl)
          change wpList _ _ _ _ _ wa.drew
          go_wp2_with fail
          go_roundw
          case rel => exact ⟨k + 1, by go_num, Hlt.out, by rw [List.take_add_one, List.take_add_one, He.out, Hxk.out, Hyk.out], B6.out.drew⟩
          case measure => simp [intOf]; have := Hlt.out; omega
        · have hne : (xs == ys) = false := by
            rw [beq_eq_false_iff_ne]
            intro e
            have h1 := Hxk.out
            rw [e, Hyk.out] at h1
            injection h1 with h1
            injection h1 with h1 h2
            exact h0 ⟨h1.symm, h2.symm⟩
          have Hf := Lib.hid (Hr.out.symm.trans hne)
          clear hne
          by_cases h1 : x0 = y0
          · subst h1
            have h2 : ¬ x1 = y1 := fun e => h0 ⟨rfl, e⟩
            have t2 : (x1 == y1) = false := by rw [beq_eq_false_iff_ne]; exact h2
            clear h0
            go_wp2_with fail
            go_still_tail 8, (by kernel_rfl)
            change wpList _ _ _ _ _ wa.drew
            go_wp2_with fail
            go_ret
            exact ⟨ret_bool Hf.out.symm, B6.out.drew⟩
          · have t2 : (x0 == y0) = false := by rw [beq_eq_false_iff_ne]; exact h1
            clear h0
            go_wp2_with fail
            go_still_tail 8, (by kernel_rfl)
            change wpList _ _ _ _ _ wa.drew
            go_wp2_with fail
            go_ret
            exact ⟨ret_bool Hf.out.symm, B6.out.drew⟩
      · have Hf := Lib.hid (show r = true by
          have h1 := He.out
          rw [List.take_of_length_le (by rw [Hxl.out]; omega), List.take_of_length_le (by rw [Hyl.out]; omega)] at h1
          rw [← Hr.out, h1]; simp)
        go_wp2_with fail
        go_ret
        exact ⟨ret_bool Hf.out.symm, B6.out⟩
  · have t0 : ((n : Int) != (m : Int)) = true := by simp; omega
    have hz : (xs == ys) = false := by
      rw [beq_eq_false_iff_ne]
      intro e
      exact hl (by rw [← hxl, ← hyl, e])
    rw [hz]
    clear hz hl hxl hyl
    go_enter Tryd.func76, Tryd.ntmps76
    go_wp2_with fail
    go_ret
    exact ⟨rfl, Below.refl _ _⟩
set_option maxRecDepth 100000 in
set_option maxHeartbeats 8000000 in
theorem same_eq (n : Int) (A B : Option Addr) (m c d : Nat) (es : List (Int × Int)) (w : World) (hA : EL w A m es) (hB : EL w B m es) (hm : m ≤ 100000) :
    Calls Tryd.prog 20 #[gV n A m c, gV n B m d] w fun e w' => e = .returned (.bool true) ∧ Below w.heap.size w w' := by
  have kv := (((Below.refl w.heap.size w).alloc (Nat.le_refl _) (.cells #[.int .i64 n, .slice A m c] 26)).alloc (by simp) (.cells #[.int .i64 n, .slice B m d] 35)).drew
  have HP := Lib.hid (pairs_any A m c es _ (hA.keep kv) hm)
  have HE := Lib.hid (hB.keep kv)
  have hel := hA.1
  have G0 := ((Cells.new w #[.int .i64 n, .slice A m c] 26).keep ((Below.refl _ _).alloc (Nat.le_refl _) (.cells #[.int .i64 n, .slice B m d] 35))).drew
  have X0 := (Cells.new (w.alloc (.cells #[.int .i64 n, .slice A m c] 26)) #[.int .i64 n, .slice B m d] 35).drew
  simp only [World.size_alloc] at X0
  have X0 := Lib.hid X0
  have G0 := Lib.hid G0
  have Kv := Lib.hid kv
  have tn : (n == n) = true := by simp
  clear hA hB kv
  go_enter Tryd.func20, Tryd.ntmps20
  go_wp2_with fail
  have hS : ∀ w', Below (w.heap.size + 2) ((w.alloc (.cells #[.int .i64 n, .slice A m c] 26)).alloc (.cells #[.int .i64 n, .slice B m d] 35)).drew w' → w'.cell? ⟨w.heap.size, 0, none⟩ = some (.int .i64 n) ∧ w'.cell? ⟨w.heap.size, 1, none⟩ = some (.slice A m c) ∧ w'.cell? ⟨w.heap.size + 1, 0, none⟩ = some (.int .i64 n) ∧ w'.cell? ⟨w.heap.size + 1, 1, none⟩ = some (.slice B m d) := fun w' hb => ⟨(hb.cell (by simp)).trans (G0.out.at_ 0), (hb.cell (by simp)).trans (G0.out.at_ 1), (hb.cell (by simp)).trans (X0.out.at_ 0), (hb.cell (by simp)).trans (X0.out.at_ 1)⟩
  have s0 := hS _ (Below.refl _ _)
  have hS := Lib.hid hS
  refine Till.begin 13 (fun w' => w'.cell? ⟨w.heap.size, 0, none⟩ = some (.int .i64 n) ∧ w'.cell? ⟨w.heap.size, 1, none⟩ = some (.slice A m c) ∧ w'.cell? ⟨w.heap.size + 1, 0, none⟩ = some (.int .i64 n) ∧ w'.cell? ⟨w.heap.size + 1, 1, none⟩ = some (.slice B m d)) (by kernel_rfl) s0 (fun hH => ?_)
  clear hH
  have V1 : w.heap.size + 2 ≤ ((w.alloc (.cells #[.int .i64 n, .slice A m c] 26)).alloc (.cells #[.int .i64 n, .slice B m d] 35)).drew.heap.size := by simp [World.drew]
  obtain ⟨V0, hV⟩ : ∃ V, ((w.alloc (.cells #[.int .i64 n, .slice A m c] 26)).alloc (.cells #[.int .i64 n, .slice B m d] 35)).drew = V := ⟨_, rfl⟩
  rw [hV] at HP HE X0 G0 Kv s0 hS V1 ⊢
  clear hV
  try simp only [Act.put, List.setIfInBounds_toArray, List.set_cons_zero, List.set_cons_succ]
  refine Till.tk 0 13 5 (.pointer (some ⟨w.heap.size, 0, none⟩)) s0 ?_
  try simp only [Act.put, List.setIfInBounds_toArray, List.set_cons_zero, List.set_cons_succ]
  refine Till.tk 1 13 6 (.int .i64 n) s0 ?_
  try simp only [Act.put, List.setIfInBounds_toArray, List.set_cons_zero, List.set_cons_succ]
  refine Till.tk 2 13 7 (.pointer (some ⟨w.heap.size + 1, 0, none⟩)) s0 ?_
  try simp only [Act.put, List.setIfInBounds_toArray, List.set_cons_zero, List.set_cons_succ]
  refine Till.tk 3 13 8 (.int .i64 n) s0 ?_
  try simp only [Act.put, List.setIfInBounds_toArray, List.set_cons_zero, List.set_cons_succ]
  refine Till.tk 4 13 9 (.bool true) s0 ?_
  try simp only [Act.put, List.setIfInBounds_toArray, List.set_cons_zero, List.set_cons_succ]
  refine Till.tk 5 13 10 (.bool true) s0 ?_
  try simp only [Act.put, List.setIfInBounds_toArray, List.set_cons_zero, List.set_cons_succ]
  refine Till.tk 6 13 11 (.pointer (some ⟨w.heap.size, 1, none⟩)) s0 ?_
  try simp only [Act.put, List.setIfInBounds_toArray, List.set_cons_zero, List.set_cons_succ]
  refine Till.tk 7 13 12 (.slice A m c) s0 ?_
  try simp only [Act.put, List.setIfInBounds_toArray, List.set_cons_zero, List.set_cons_succ]
  refine Till.tk 9 13 14 (.pointer (some ⟨w.heap.size + 1, 1, none⟩)) s0 ?_
  try simp only [Act.put, List.setIfInBounds_toArray, List.set_cons_zero, List.set_cons_succ]
  refine Till.tk 10 13 15 (.slice B m d) s0 ?_
  try simp only [Act.put, List.setIfInBounds_toArray, List.set_cons_zero, List.set_cons_succ]
  refine Till.one (i := 8) (by kernel_rfl) rfl (fun K hK => ?_)
  go_simp
  refine HP.out.mono ?_
  rintro e w1 ⟨v, rfl, hown, hb1⟩
  obtain ⟨P, dd, rfl, hE1, _⟩ := own_pairs hown
  rw [hel] at hE1 ⊢
  have s1 := hS.out w1 (hb1.mono V1)
  have B1 := Lib.hid (Kv.out.trans (hb1.mono Kv.out.size))
  have HQ := equalP_any P B m dd m d es es w1 hE1 (HE.out.keep hb1) (by omega) (by omega)
  rw [beq_self_eq_true] at HQ
  have HQ := Lib.hid HQ
  have hb1 := Lib.hid hb1
  clear hown hE1
  go_simp
  refine hK.out _ _ (fun _ => s1) ?_
  clear hK K
  try simp only [Act.put, List.setIfInBounds_toArray, List.set_cons_zero, List.set_cons_succ]
  refine Till.one (i := 11) (by kernel_rfl) rfl (fun K hK => ?_)
  go_simp
  refine HQ.out.mono ?_
  rintro e w2 ⟨rfl, hb2⟩
  have s2 := hS.out w2 ((below_on hb1.out hb2).mono V1)
  have B2 := Lib.hid (below_on B1.out hb2)
  clear hb2
  go_simp
  refine hK.out _ _ (fun _ => s2) ?_
  clear hK K
  try simp only [Act.put, List.setIfInBounds_toArray, List.set_cons_zero, List.set_cons_succ]
  refine Till.one (i := 12) (by kernel_rfl) rfl (fun K hK => ?_)
  go_simp
  refine hK.out _ _ (fun _ => s2) ?_
  clear hK K
  try simp only [Act.put, List.setIfInBounds_toArray, List.set_cons_zero, List.set_cons_succ]
  refine Till.one (i := 13) (by kernel_rfl) rfl (fun K hK => ?_)
  go_simp
  refine hK.out _ _ (fun h => absurd h (by decide)) ?_
  clear hK K
  refine Till.done (by kernel_rfl) ?_ _
  try simp only [Exit.then]
  go_wp2_with fail
  go_ret
  exact ⟨rfl, B2.out⟩
end Go.Proofs.YthocdmlacfejkaaDoor
