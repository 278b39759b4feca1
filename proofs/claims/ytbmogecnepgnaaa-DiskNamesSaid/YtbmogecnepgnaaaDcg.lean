/- The model: apply. -/
import Derived.Test.YtbmogecnepgnaaaDcf
namespace Go.Proofs.Ytbmogecnepgnaaa
open Go.RowKit Go.Maps Go.Shelf
theorem gb_of {w w' : World} (h : Below w.heap.size w w') (q : Option Nat) : w.grownBy w' q := ⟨h.os, h.tape, h.output, h.size, fun k hk _ => h.block k hk⟩
theorem own_fresh (w : World) (B : Nat) (T : TypeId) (k n : Nat) (us : Array Value) (h : us.size = n * k) (hn : n ≤ maxLen) (hB : B ≤ w.heap.size) : (w.alloc (.cells us T)).ownsRow B T k (.slice (some ⟨w.heap.size, 0, none⟩) n n) n us.toList :=
  ⟨by rw [Array.length_toList, h], .inr ⟨w.heap.size, n, us, rfl, hB, heap_new w _, Nat.le_refl _, hn, h, by rw [← h, ← Array.length_toList, List.take_length]⟩⟩
theorem RowAt.blk {w w' : World} {T : TypeId} {k n c g o : Nat} {xs : List Value} (h : RowAt w T k (.slice (some ⟨g, o, none⟩) n c) n xs) (hg : w'.heap[g]? = w.heap[g]?) : RowAt w' T k (.slice (some ⟨g, o, none⟩) n c) n xs := by
  refine ⟨h.1, .inr ?_⟩
  rcases h.2 with ⟨e, _⟩ | ⟨g', o', c', us, fz, e, h1, h2, h3, h4⟩
  · cases e
  · injection e with e1 e2 e3
    injection e1 with e1
    injection e1 with e4 e5
    subst e3 e4 e5
    exact ⟨g, o, c, us, fz, rfl, h1, h2, hg.trans h3, h4⟩
theorem exec_append {o : Oper} {a : Act} {w w' : World} {sl x : Operand} {t : TypeId} {v y v' : Value} (ho : o.op = .call { callee := .builtin .append, args := #[sl, x], argTypes := #[t, t] }) (hs : a.eval sl = v) (hy : a.eval x = y)
    (hr : (Builtin.append_ #[t, t] o.type #[v, y]).run Try.prog w = .ok v' w') : (execOp a.eval o).run Try.prog w = .ok (.value v') w' := by
  unfold execOp
  simp only [ho, resolve, invoke, builtin, Sem.run_bind, Sem.run_pure, Result.andThen_ok, List.map_toArray, List.map_cons, List.map_nil, hs, hy, hr]
theorem wanted_run {o : Oper} {a : Act} {w w' : World} {K : Act → World → Prop} {Q : Exit → Act → World → Prop} {y : Nat → Option Bool} {v : Value} (hg : o.guard = none) (hr : (execOp a.eval o).run Try.prog w = .ok (.value v) w') (h : K (a.put o.dst v) w') :
    if Region.wanted o y = true then Oper.wp Try.prog o a w K Q else K (a.put o.dst undef) w := by
  have : Region.wanted o y = true := by unfold Region.wanted; rw [hg]
  rw [if_pos this]
  unfold Oper.wp
  rw [hr]
  exact h
def apM (md : Md) (c : Chg) : Md := { md with names := changedM md.names c, pend := md.pend ++ [c] }
set_option maxRecDepth 100000 in
set_option maxHeartbeats 16000000 in
theorem apply_any {w : World} {pm : Nat} {md : Md} (hM : MdAt w pm md) (hn : md.names.length ≤ 1000) (hp : md.pend.length ≤ 1000) (c : Chg) :
    Calls Try.prog 48 #[ptrV pm, .agg #[.string c.1, .string c.2.1, .int .i64 (c.2.2 : Nat)]] w fun e w' => (∃ v, e = .returned v) ∧ MdAt w' pm (apM md c) ∧ w.grownBy w' (some pm) := by
  obtain ⟨i0, hi, hz0, hz1, hz2⟩ := info_parts info_chg
  obtain ⟨vf, vn, vd, vp, h⟩ := hM
  have k1 := (Below.refl w.heap.size w).alloc (Nat.le_refl _) (.cells #[.string c.1, .string c.2.1, .int .i64 (c.2.2 : Nat)] 87)
  have C1 := Cells.new w #[.string c.1, .string c.2.1, .int .i64 (c.2.2 : Nat)] 87
  obtain ⟨bx, hbx⟩ : ∃ q, w.heap.size = q := ⟨_, rfl⟩
  obtain ⟨w1, hw1⟩ : ∃ u, w.alloc (.cells #[.string c.1, .string c.2.1, .int .i64 (c.2.2 : Nat)] 87) = u := ⟨_, rfl⟩
  rw [hw1] at k1 C1
  have HG1 := Lib.hid (gb_of k1 (some pm))
  have HM1 := Lib.hid (h.keep k1)
  have hplt := row_lt h.obj
  rw [hbx] at C1 hplt
  have HC1 := Lib.hid C1
  have hne : bx ≠ pm := by omega
  clear h k1 C1
  go_enter Try.func48, Try.ntmps48
  go_upto_region 1 with fail

  have HS := Lib.hid (fun w' (hb : Below w1.heap.size w1 w') => (show w'.cell? ⟨pm, 4, none⟩ = some vn ∧ w'.cell? ⟨bx, 0, none⟩ = some (.string c.1) ∧ w'.cell? ⟨bx, 1, none⟩ = some (.string c.2.1) ∧ w'.cell? ⟨bx, 2, none⟩ = some (.int .i64 (c.2.2 : Nat)) from ⟨(HM1.out.keep hb).at7.2.2.2.2.1, (HC1.out.keep hb).at_ 0, (HC1.out.keep hb).at_ 1, (HC1.out.keep hb).at_ 2⟩))
  obtain ⟨An, cn, en, _, _, _, _⟩ := HM1.out.n.slice
  subst en
  refine Till.begin 7 (fun w' => w'.cell? ⟨pm, 4, none⟩ = some (.slice An md.names.length cn) ∧ w'.cell? ⟨bx, 0, none⟩ = some (.string c.1) ∧ w'.cell? ⟨bx, 1, none⟩ = some (.string c.2.1) ∧ w'.cell? ⟨bx, 2, none⟩ = some (.int .i64 (c.2.2 : Nat))) (by kernel_rfl) (HS.out _ (Below.refl _ _).drew) (fun hH => ?_)
  clear hH
  have HB0 := Lib.hid (Below.refl w1.heap.size w1).drew
  generalize w1.drew = V0 at HB0 ⊢
  try simp only [List.setIfInBounds_toArray, List.set_cons_zero, List.set_cons_succ]
  refine Till.tL 0 [7] 4 (ptrV pm) (HS.out _ HB0.out) ?_
  try simp only [Act.put, List.setIfInBounds_toArray, List.set_cons_zero, List.set_cons_succ]
  refine Till.tL 1 [2, 3, 4, 6, 7] 5 (ptrV pm) (HS.out _ HB0.out) ?_
  try simp only [Act.put, List.setIfInBounds_toArray, List.set_cons_zero, List.set_cons_succ]
  refine Till.tL 2 [3, 4, 6, 7] 6 (ptrV pm) (HS.out _ HB0.out) ?_
  try simp only [Act.put, List.setIfInBounds_toArray, List.set_cons_zero, List.set_cons_succ]
  refine Till.tL 3 [4, 6, 7] 7 (.pointer (some ⟨pm, 4, none⟩)) (HS.out _ HB0.out) ?_
  try simp only [Act.put, List.setIfInBounds_toArray, List.set_cons_zero, List.set_cons_succ]
  refine Till.tL 4 [6, 7] 8 (.slice An md.names.length cn) (HS.out _ HB0.out) ?_
  try simp only [Act.put, List.setIfInBounds_toArray, List.set_cons_zero, List.set_cons_succ]
  refine Till.tL 5 [6, 7] 9 (.agg #[.string c.1, .string c.2.1, .int .i64 (c.2.2 : Nat)]) (HS.out _ HB0.out) ?_
  try simp only [Act.put, List.setIfInBounds_toArray, List.set_cons_zero, List.set_cons_succ]
  refine Till.one (i := 6) (by kernel_rfl) rfl (fun K hK => ?_)
  go_simp
  refine (changed_any (HM1.out.keep HB0.out).n rfl hn c).mono ?_
  rintro e V1 ⟨vr, rfl, hr, hb⟩
  have HB1 := Lib.hid (below_on HB0.out hb)
  have HR1 := Lib.hid hr
  clear hb hr
  obtain ⟨Ar, cr, er, _, _, _, _⟩ := HR1.out.slice
  subst er
  refine hK.out _ _ (fun _ => HS.out _ HB1.out) ?_
  clear hK K
  try simp only [List.setIfInBounds_toArray, List.set_cons_zero, List.set_cons_succ]
  refine Till.one (i := 7) (by kernel_rfl) rfl (fun K hK => ?_)
  go_simp
  refine hK.out _ _ (fun h => absurd h (by simp)) ?_
  clear hK K
  try simp only [List.setIfInBounds_toArray, List.set_cons_zero, List.set_cons_succ]
  refine Till.one (i := 8) (by kernel_rfl) rfl (fun K hK => ?_)
  go_simp
  refine hK.out _ _ (fun h => absurd h (by simp)) ?_
  clear hK K
  try simp only [List.setIfInBounds_toArray, List.set_cons_zero, List.set_cons_succ]
  have h1 := HM1.out.keep HB1.out
  have y4 := h1.fz 4
  have x4 := h1.at7.2.2.2.2.1
  have hS := h1.set (md' := { md with names := changedM md.names c }) 4 (.slice Ar (changedM md.names c).length cr) rfl h1.f HR1.out h1.d h1.p
  have HM2 := Lib.hid hS.1
  have HG2 := Lib.hid (grown_trans (grown_trans HG1.out (gb_of HB1.out _)) hS.2)
  have hC2 : Cells (V1.setCell ⟨pm, 4, none⟩ (.slice Ar (changedM md.names c).length cr)) bx [.string c.1, .string c.2.1, .int .i64 (c.2.2 : Nat)] := (HC1.out.keep HB1.out).grown hS.2 hne
  have HC2 := Lib.hid hC2
  clear h1 hS hC2
  refine Till.one (i := 9) (by kernel_rfl) rfl (fun K hK => ?_)
  go_simp
  refine hK.out _ _ (fun h => absurd h (by simp)) ?_
  clear hK K
  try simp only [List.setIfInBounds_toArray, List.set_cons_zero, List.set_cons_succ]
  clear x4 y4
  refine Till.done (by kernel_rfl) ?_ _
  generalize (V1.setCell ⟨pm, 4, none⟩ (.slice Ar (changedM md.names c).length cr)) = W2 at HM2 HG2 HC2 ⊢
  go_upto_region 2 with fail
  obtain ⟨Ap, cp, ep, _, _, _, _⟩ := HM2.out.p.slice
  subst ep
  have HS2 := Lib.hid (fun w' (hb : Below W2.heap.size W2 w') => (show w'.cell? ⟨pm, 6, none⟩ = some (.slice Ap md.pend.length cp) ∧ w'.cell? ⟨bx, 0, none⟩ = some (.string c.1) ∧ w'.cell? ⟨bx, 1, none⟩ = some (.string c.2.1) ∧ w'.cell? ⟨bx, 2, none⟩ = some (.int .i64 (c.2.2 : Nat)) from ⟨(HM2.out.keep hb).at7.2.2.2.2.2.2, (HC2.out.keep hb).at_ 0, (HC2.out.keep hb).at_ 1, (HC2.out.keep hb).at_ 2⟩))
  have HS := HS2
  refine Till.begin 10 (fun w' => w'.cell? ⟨pm, 6, none⟩ = some (.slice Ap md.pend.length cp) ∧ w'.cell? ⟨bx, 0, none⟩ = some (.string c.1) ∧ w'.cell? ⟨bx, 1, none⟩ = some (.string c.2.1) ∧ w'.cell? ⟨bx, 2, none⟩ = some (.int .i64 (c.2.2 : Nat))) (by kernel_rfl) (HS.out _ (Below.refl _ _).drew) (fun hH => ?_)
  clear hH
  have HB0' := Lib.hid (Below.refl W2.heap.size W2).drew
  generalize W2.drew = X0 at HB0' ⊢
  try simp only [List.setIfInBounds_toArray, List.set_cons_zero, List.set_cons_succ]
  refine Till.tL 0 [10] 13 (ptrV pm) (HS.out _ HB0'.out) ?_
  try simp only [Act.put, List.setIfInBounds_toArray, List.set_cons_zero, List.set_cons_succ]
  refine Till.tL 2 [3, 4, 5, 6, 9, 10] 15 (ptrV pm) (HS.out _ HB0'.out) ?_
  try simp only [Act.put, List.setIfInBounds_toArray, List.set_cons_zero, List.set_cons_succ]
  refine Till.tL 3 [4, 5, 6, 9, 10] 16 (ptrV pm) (HS.out _ HB0'.out) ?_
  try simp only [Act.put, List.setIfInBounds_toArray, List.set_cons_zero, List.set_cons_succ]
  refine Till.tL 4 [5, 6, 9, 10] 17 (.pointer (some ⟨pm, 6, none⟩)) (HS.out _ HB0'.out) ?_
  try simp only [Act.put, List.setIfInBounds_toArray, List.set_cons_zero, List.set_cons_succ]
  refine Till.tL 5 [6, 9, 10] 18 (.slice Ap md.pend.length cp) (HS.out _ HB0'.out) ?_
  try simp only [Act.put, List.setIfInBounds_toArray, List.set_cons_zero, List.set_cons_succ]
  refine Till.tL 7 [8, 9, 10] 20 (.agg #[.string c.1, .string c.2.1, .int .i64 (c.2.2 : Nat)]) (HS.out _ HB0'.out) ?_
  try simp only [Act.put, List.setIfInBounds_toArray, List.set_cons_zero, List.set_cons_succ]
  refine Till.two (i := 1) (j := 8) (by kernel_rfl) rfl rfl ?_ ?_
  · intro K hK
    go_simp
    have hxX1 := (Below.refl X0.heap.size X0).alloc (Nat.le_refl _) (.cells #[] 87)
    have HO0 := Lib.hid (own_fresh X0 X0.heap.size 87 3 0 #[] rfl (Nat.zero_le _) (Nat.le_refl _))
    have HX1 := Lib.hid (HB0'.out.trans (hxX1.mono HB0'.out.size))
    have hxlX1 := HB0'.out.size
    refine hK.out _ _ (fun _ => HS.out _ HX1.out) ?_
    clear hK K
    try simp only [List.setIfInBounds_toArray, List.set_cons_zero, List.set_cons_succ]
    obtain ⟨X1, hnX1⟩ : ∃ u, X0.alloc (.cells #[] 87) = u := ⟨_, rfl⟩
    rw [hnX1] at hxX1 HO0 HX1 ⊢
    have HZX1 := Lib.hid (show X1.heap.size = X0.heap.size + 1 by rw [← hnX1]; simp)
    obtain ⟨b0, hb0⟩ : ∃ q, X0.heap.size = q := ⟨_, rfl⟩
    rw [hb0] at HO0 ⊢
    have hb0' : W2.heap.size ≤ b0 := by rw [← hb0]; exact hxlX1
    refine Till.two (i := 6) (j := 8) (by kernel_rfl) rfl rfl ?_ ?_
    · obtain ⟨v6, X2, hr6, ho6, hg6⟩ := run_append_row W2.heap.size 32 32 87 i0 _ 3 40 Try.underlying32 hi hz0 hz1 hz2 rfl (by decide) (own_down HO0.out (by omega)) (HM2.out.keep HX1.out).p (chC_one _) (by show 0 + md.pend.length ≤ _; omega) (by decide) HX1.out.size
      rw [Nat.zero_add] at ho6
      have hb6 : Below W2.heap.size X1 X2 := below_row hg6 (fun k hk => own_ge (own_down HO0.out (by omega)) hk) HX1.out.size
      intro K hK
      refine wanted_run rfl (exec_append rfl rfl rfl hr6) ?_
      have HX2 := Lib.hid (HX1.out.trans hb6)
      have HO6 := Lib.hid ho6
      refine hK.out _ _ (fun _ => HS.out _ HX2.out) ?_
      clear hK K hr6 ho6 hg6 hb6
      try simp only [List.setIfInBounds_toArray, List.set_cons_zero, List.set_cons_succ]
      refine Till.one (i := 8) (by kernel_rfl) rfl (fun K hK => ?_)
      go_simp
      have hxX3 := (Below.refl X2.heap.size X2).alloc (Nat.le_refl _) (.cells #[.string c.1, .string c.2.1, .int .i64 (c.2.2 : Nat)] 87)
      have HF8 := Lib.hid (RowAt.fresh X2 87 3 1 #[.string c.1, .string c.2.1, .int .i64 (c.2.2 : Nat)] rfl (by decide))
      have HX3 := Lib.hid (HX2.out.trans (hxX3.mono HX2.out.size))
      refine hK.out _ _ (fun _ => HS.out _ HX3.out) ?_
      clear hK K
      try simp only [List.setIfInBounds_toArray, List.set_cons_zero, List.set_cons_succ]
      obtain ⟨X3, hnX3⟩ : ∃ u, X2.alloc (.cells #[.string c.1, .string c.2.1, .int .i64 (c.2.2 : Nat)] 87) = u := ⟨_, rfl⟩
      rw [hnX3] at hxX3 HF8 HX3 ⊢
      have HZX3 := Lib.hid (show X3.heap.size = X2.heap.size + 1 by rw [← hnX3]; simp)
      obtain ⟨b8, hb8⟩ : ∃ q, X2.heap.size = q := ⟨_, rfl⟩
      rw [hb8] at HF8 ⊢
      have HO6b := Lib.hid (own_keep HO6.out hxX3)
      obtain ⟨v9, Z, hr9, ho9, hg9⟩ := run_append_row W2.heap.size 32 32 87 i0 _ 3 40 Try.underlying32 hi hz0 hz1 hz2 rfl (by decide) HO6b.out HF8.out (chC_one [c]) (by show md.pend.length + 1 ≤ _; omega) (by decide) HX3.out.size
      have hb9 : Below W2.heap.size X3 Z := below_row hg9 (fun k hk => own_ge HO6b.out hk) HX3.out.size
      have HBZ := Lib.hid (HX3.out.trans hb9)
      have HO9 := Lib.hid (RowAt.of_own ho9)
      obtain ⟨A9, c9, e9, _, _, _, _⟩ := HO9.out.slice
      subst e9
      refine Till.one (i := 9) (by kernel_rfl) rfl (fun K hK => ?_)
      refine wanted_run rfl (exec_append rfl rfl rfl hr9) ?_
      refine hK.out _ _ (fun _ => HS.out _ HBZ.out) ?_
      clear hK K hr9 ho9 hg9 hb9
      try simp only
      refine Till.one (i := 10) (by kernel_rfl) rfl (fun K hK => ?_)
      go_simp
      refine hK.out _ _ (fun h => absurd h (by simp)) ?_
      clear hK K
      try simp only [List.setIfInBounds_toArray, List.set_cons_zero, List.set_cons_succ]
      refine Till.one (i := 11) (by kernel_rfl) rfl (fun K hK => ?_)
      go_simp
      refine hK.out _ _ (fun h => absurd h (by simp)) ?_
      clear hK K
      try simp only [List.setIfInBounds_toArray, List.set_cons_zero, List.set_cons_succ]
      have h1 := HM2.out.keep HBZ.out
      have y6 := h1.fz 6
      have x6 := h1.at7.2.2.2.2.2.2
      have hrow : RowAt Z 87 3 (.slice A9 (md.pend.length + 1) c9) (md.pend ++ [c]).length (chC (md.pend ++ [c])) := by
        rw [chC_app, List.length_append]
        have h9 := HO9.out
        exact h9
      have hS := h1.set (md' := apM md c) 6 (.slice A9 (md.pend.length + 1) c9) rfl h1.f h1.n h1.d hrow
      have HF := Lib.hid hS.1
      have HGF := Lib.hid (grown_trans (grown_trans HG2.out (gb_of HBZ.out _)) hS.2)
      clear h1 hS hrow
      refine Till.one (i := 12) (by kernel_rfl) rfl (fun K hK => ?_)
      go_simp
      refine hK.out _ _ (fun h => absurd h (by simp)) ?_
      clear hK K
      try simp only [List.setIfInBounds_toArray, List.set_cons_zero, List.set_cons_succ]
      refine Till.done (by kernel_rfl) ?_ _
      go_wp2_with fail
      go_end0
      exact ⟨⟨_, rfl⟩, ⟨_, _, _, _, HF.out⟩, HGF.out⟩

    · intro K hK
      go_simp
      have hxX2 := (Below.refl X1.heap.size X1).alloc (Nat.le_refl _) (.cells #[.string c.1, .string c.2.1, .int .i64 (c.2.2 : Nat)] 87)
      have HF8 := Lib.hid (RowAt.fresh X1 87 3 1 #[.string c.1, .string c.2.1, .int .i64 (c.2.2 : Nat)] rfl (by decide))
      have HX2 := Lib.hid (HX1.out.trans (hxX2.mono HX1.out.size))
      refine hK.out _ _ (fun _ => HS.out _ HX2.out) ?_
      clear hK K
      try simp only [List.setIfInBounds_toArray, List.set_cons_zero, List.set_cons_succ]
      obtain ⟨X2, hnX2⟩ : ∃ u, X1.alloc (.cells #[.string c.1, .string c.2.1, .int .i64 (c.2.2 : Nat)] 87) = u := ⟨_, rfl⟩
      rw [hnX2] at hxX2 HF8 HX2 ⊢
      have HZX2 := Lib.hid (show X2.heap.size = X1.heap.size + 1 by rw [← hnX2]; simp)
      obtain ⟨b8, hb8⟩ : ∃ q, X1.heap.size = q := ⟨_, rfl⟩
      rw [hb8] at HF8 ⊢
      have HO0b := Lib.hid (own_keep HO0.out hxX2)
      obtain ⟨v6, X3, hr6, ho6, hg6⟩ := run_append_row W2.heap.size 32 32 87 i0 _ 3 40 Try.underlying32 hi hz0 hz1 hz2 rfl (by decide) (own_down HO0b.out (by omega)) (HM2.out.keep HX2.out).p (chC_one _) (by show 0 + md.pend.length ≤ _; omega) (by decide) HX2.out.size
      rw [Nat.zero_add] at ho6
      have hb6 : Below W2.heap.size X2 X3 := below_row hg6 (fun k hk => own_ge (own_down HO0b.out (by omega)) hk) HX2.out.size
      refine Till.one (i := 6) (by kernel_rfl) rfl (fun K hK => ?_)
      refine wanted_run rfl (exec_append rfl rfl rfl hr6) ?_
      have HX3 := Lib.hid (HX2.out.trans hb6)
      have HO6 := Lib.hid ho6
      have HF8b := Lib.hid (HF8.out.blk (hg6.block b8 (by have := HZX2.out; omega) (fun e => by have := HZX1.out; injection e with e; have e : b8 = b0 := e; omega)))
      refine hK.out _ _ (fun _ => HS.out _ HX3.out) ?_
      clear hK K hr6 ho6 hg6 hb6
      try simp only [List.setIfInBounds_toArray, List.set_cons_zero, List.set_cons_succ]
      obtain ⟨v9, Z, hr9, ho9, hg9⟩ := run_append_row W2.heap.size 32 32 87 i0 _ 3 40 Try.underlying32 hi hz0 hz1 hz2 rfl (by decide) HO6.out HF8b.out (chC_one [c]) (by show md.pend.length + 1 ≤ _; omega) (by decide) HX3.out.size
      have hb9 : Below W2.heap.size X3 Z := below_row hg9 (fun k hk => own_ge HO6.out hk) HX3.out.size
      have HBZ := Lib.hid (HX3.out.trans hb9)
      have HO9 := Lib.hid (RowAt.of_own ho9)
      obtain ⟨A9, c9, e9, _, _, _, _⟩ := HO9.out.slice
      subst e9
      refine Till.one (i := 9) (by kernel_rfl) rfl (fun K hK => ?_)
      refine wanted_run rfl (exec_append rfl rfl rfl hr9) ?_
      refine hK.out _ _ (fun _ => HS.out _ HBZ.out) ?_
      clear hK K hr9 ho9 hg9 hb9
      try simp only
      refine Till.one (i := 10) (by kernel_rfl) rfl (fun K hK => ?_)
      go_simp
      refine hK.out _ _ (fun h => absurd h (by simp)) ?_
      clear hK K
      try simp only [List.setIfInBounds_toArray, List.set_cons_zero, List.set_cons_succ]
      refine Till.one (i := 11) (by kernel_rfl) rfl (fun K hK => ?_)
      go_simp
      refine hK.out _ _ (fun h => absurd h (by simp)) ?_
      clear hK K
      try simp only [List.setIfInBounds_toArray, List.set_cons_zero, List.set_cons_succ]
      have h1 := HM2.out.keep HBZ.out
      have y6 := h1.fz 6
      have x6 := h1.at7.2.2.2.2.2.2
      have hrow : RowAt Z 87 3 (.slice A9 (md.pend.length + 1) c9) (md.pend ++ [c]).length (chC (md.pend ++ [c])) := by
        rw [chC_app, List.length_append]
        have h9 := HO9.out
        exact h9
      have hS := h1.set (md' := apM md c) 6 (.slice A9 (md.pend.length + 1) c9) rfl h1.f h1.n h1.d hrow
      have HF := Lib.hid hS.1
      have HGF := Lib.hid (grown_trans (grown_trans HG2.out (gb_of HBZ.out _)) hS.2)
      clear h1 hS hrow
      refine Till.one (i := 12) (by kernel_rfl) rfl (fun K hK => ?_)
      go_simp
      refine hK.out _ _ (fun h => absurd h (by simp)) ?_
      clear hK K
      try simp only [List.setIfInBounds_toArray, List.set_cons_zero, List.set_cons_succ]
      refine Till.done (by kernel_rfl) ?_ _
      go_wp2_with fail
      go_end0
      exact ⟨⟨_, rfl⟩, ⟨_, _, _, _, HF.out⟩, HGF.out⟩
  · intro K hK
    go_simp
    have hxX1 := (Below.refl X0.heap.size X0).alloc (Nat.le_refl _) (.cells #[.string c.1, .string c.2.1, .int .i64 (c.2.2 : Nat)] 87)
    have HF8 := Lib.hid (RowAt.fresh X0 87 3 1 #[.string c.1, .string c.2.1, .int .i64 (c.2.2 : Nat)] rfl (by decide))
    have HX1 := Lib.hid (HB0'.out.trans (hxX1.mono HB0'.out.size))
    refine hK.out _ _ (fun _ => HS.out _ HX1.out) ?_
    clear hK K
    try simp only [List.setIfInBounds_toArray, List.set_cons_zero, List.set_cons_succ]
    obtain ⟨X1, hnX1⟩ : ∃ u, X0.alloc (.cells #[.string c.1, .string c.2.1, .int .i64 (c.2.2 : Nat)] 87) = u := ⟨_, rfl⟩
    rw [hnX1] at hxX1 HF8 HX1 ⊢
    have HZX1 := Lib.hid (show X1.heap.size = X0.heap.size + 1 by rw [← hnX1]; simp)
    obtain ⟨b8, hb8⟩ : ∃ q, X0.heap.size = q := ⟨_, rfl⟩
    rw [hb8] at HF8 ⊢
    refine Till.one (i := 1) (by kernel_rfl) rfl (fun K hK => ?_)
    go_simp
    have hxX2 := (Below.refl X1.heap.size X1).alloc (Nat.le_refl _) (.cells #[] 87)
    have HO0 := Lib.hid (own_fresh X1 X1.heap.size 87 3 0 #[] rfl (Nat.zero_le _) (Nat.le_refl _))
    have HX2 := Lib.hid (HX1.out.trans (hxX2.mono HX1.out.size))
    have hxlX2 := HX1.out.size
    refine hK.out _ _ (fun _ => HS.out _ HX2.out) ?_
    clear hK K
    try simp only [List.setIfInBounds_toArray, List.set_cons_zero, List.set_cons_succ]
    obtain ⟨X2, hnX2⟩ : ∃ u, X1.alloc (.cells #[] 87) = u := ⟨_, rfl⟩
    rw [hnX2] at hxX2 HO0 HX2 ⊢
    have HZX2 := Lib.hid (show X2.heap.size = X1.heap.size + 1 by rw [← hnX2]; simp)
    obtain ⟨b0, hb0⟩ : ∃ q, X1.heap.size = q := ⟨_, rfl⟩
    rw [hb0] at HO0 ⊢
    have hb0' : W2.heap.size ≤ b0 := by rw [← hb0]; exact hxlX2
    have HF8c := Lib.hid (HF8.out.keep hxX2)
    obtain ⟨v6, X3, hr6, ho6, hg6⟩ := run_append_row W2.heap.size 32 32 87 i0 _ 3 40 Try.underlying32 hi hz0 hz1 hz2 rfl (by decide) (own_down HO0.out (by omega)) (HM2.out.keep HX2.out).p (chC_one _) (by show 0 + md.pend.length ≤ _; omega) (by decide) HX2.out.size
    rw [Nat.zero_add] at ho6
    have hb6 : Below W2.heap.size X2 X3 := below_row hg6 (fun k hk => own_ge (own_down HO0.out (by omega)) hk) HX2.out.size
    refine Till.one (i := 6) (by kernel_rfl) rfl (fun K hK => ?_)
    refine wanted_run rfl (exec_append rfl rfl rfl hr6) ?_
    have HX3 := Lib.hid (HX2.out.trans hb6)
    have HO6 := Lib.hid ho6
    have HF8b := Lib.hid (HF8c.out.blk (hg6.block b8 (by have := HZX1.out; have := HZX2.out; omega) (fun e => by have := HZX1.out; injection e with e; have e : b8 = b0 := e; omega)))
    refine hK.out _ _ (fun _ => HS.out _ HX3.out) ?_
    clear hK K hr6 ho6 hg6 hb6
    try simp only [List.setIfInBounds_toArray, List.set_cons_zero, List.set_cons_succ]
    obtain ⟨v9, Z, hr9, ho9, hg9⟩ := run_append_row W2.heap.size 32 32 87 i0 _ 3 40 Try.underlying32 hi hz0 hz1 hz2 rfl (by decide) HO6.out HF8b.out (chC_one [c]) (by show md.pend.length + 1 ≤ _; omega) (by decide) HX3.out.size
    have hb9 : Below W2.heap.size X3 Z := below_row hg9 (fun k hk => own_ge HO6.out hk) HX3.out.size
    have HBZ := Lib.hid (HX3.out.trans hb9)
    have HO9 := Lib.hid (RowAt.of_own ho9)
    obtain ⟨A9, c9, e9, _, _, _, _⟩ := HO9.out.slice
    subst e9
    refine Till.one (i := 9) (by kernel_rfl) rfl (fun K hK => ?_)
    refine wanted_run rfl (exec_append rfl rfl rfl hr9) ?_
    refine hK.out _ _ (fun _ => HS.out _ HBZ.out) ?_
    clear hK K hr9 ho9 hg9 hb9
    try simp only
    refine Till.one (i := 10) (by kernel_rfl) rfl (fun K hK => ?_)
    go_simp
    refine hK.out _ _ (fun h => absurd h (by simp)) ?_
    clear hK K
    try simp only [List.setIfInBounds_toArray, List.set_cons_zero, List.set_cons_succ]
    refine Till.one (i := 11) (by kernel_rfl) rfl (fun K hK => ?_)
    go_simp
    refine hK.out _ _ (fun h => absurd h (by simp)) ?_
    clear hK K
    try simp only [List.setIfInBounds_toArray, List.set_cons_zero, List.set_cons_succ]
    have h1 := HM2.out.keep HBZ.out
    have y6 := h1.fz 6
    have x6 := h1.at7.2.2.2.2.2.2
    have hrow : RowAt Z 87 3 (.slice A9 (md.pend.length + 1) c9) (md.pend ++ [c]).length (chC (md.pend ++ [c])) := by
      rw [chC_app, List.length_append]
      have h9 := HO9.out
      exact h9
    have hS := h1.set (md' := apM md c) 6 (.slice A9 (md.pend.length + 1) c9) rfl h1.f h1.n h1.d hrow
    have HF := Lib.hid hS.1
    have HGF := Lib.hid (grown_trans (grown_trans HG2.out (gb_of HBZ.out _)) hS.2)
    clear h1 hS hrow
    refine Till.one (i := 12) (by kernel_rfl) rfl (fun K hK => ?_)
    go_simp
    refine hK.out _ _ (fun h => absurd h (by simp)) ?_
    clear hK K
    try simp only [List.setIfInBounds_toArray, List.set_cons_zero, List.set_cons_succ]
    refine Till.done (by kernel_rfl) ?_ _
    go_wp2_with fail
    go_end0
    exact ⟨⟨_, rfl⟩, ⟨_, _, _, _, HF.out⟩, HGF.out⟩
end Go.Proofs.Ytbmogecnepgnaaa
