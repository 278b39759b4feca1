/- The reference's Parts. -/
import Derived.Test.YthocdmlacfejkaaDoorRcs
import Derived.Test.YthocdmlacfejkaaDoorCls
import Derived.Test.YthocdmlacfejkaaDoorTiL
import Derived.Test.YthocdmlacfejkaaDoorCnd
namespace Go.Proofs.YthocdmlacfejkaaDoor
open Go.RowKit
theorem row_grownG {w w1 : World} {C k p size : Nat} {T e : TypeId} {v : Value} {xs vs : List Value} (hT : T ≠ e) (hr : Row w p T vs) (hown : w.ownsRow C e size v k xs) (hg : w.grownBy w1 v.ownBlock) : Row w1 p T vs := by
  have hp := hr.cells.lt
  unfold Row at hr ⊢
  rw [hg.block p hp ?_, hr]
  intro he
  rcases hown.2 with ⟨rfl, _⟩ | ⟨g, cap, cur, rfl, _, hh, _⟩
  · cases he
  · simp only [Value.ownBlock] at he
    injection he with he
    subst he
    rw [hr] at hh
    injection hh with hh
    injection hh with _ h2 _
    exact hT h2
theorem el_sets3 {w : World} {A : Option Addr} {m q : Nat} {l : List (Nat × Nat)} (h : EL w A m (cast l)) (hq : ∀ b o, A = some ⟨b, o, none⟩ → b ≠ q ∨ cast l = []) (u v : Value) : EL ((w.setCell ⟨q, 0, none⟩ u).setCell ⟨q, 1, none⟩ v) A m (cast l) := by
  by_cases h0 : cast l = []
  · rw [h0] at h ⊢
    exact ⟨h.1, fun k e hk => by simp at hk⟩
  · have hn : ∀ b o, A = some ⟨b, o, none⟩ → b ≠ q := fun b o hb => (hq b o hb).resolve_right h0
    exact (h.other hn 0 u).other hn 1 v
theorem el_news {w : World} {b o m : Nat} {es : List (Int × Int)} (h : EL w (some ⟨b, o, none⟩) m es) : ∀ j u, (flat es)[j]? = some u → w.cell? ((⟨b, o, none⟩ : Addr).add j) = some u := by
  intro j u hu
  rw [add_at]
  have hj : j / 2 < es.length := by
    rcases Nat.lt_or_ge (j / 2) es.length with h1 | h1
    · exact h1
    · rw [List.getElem?_eq_none (by rw [flat_len]; omega)] at hu; cases hu
  obtain ⟨b', o', he, _, c0, c1⟩ := h.2 (j / 2) _ (List.getElem?_eq_getElem hj)
  injection he with he
  injection he with e1 e2
  subst e1 e2
  obtain ⟨h0, h1⟩ := flat_at (List.getElem?_eq_getElem hj)
  rcases (by omega : j = j / 2 * 2 ∨ j = j / 2 * 2 + 1) with hj2 | hj2
  · rw [← hj2] at h0 c0
    rw [h0] at hu
    injection hu with hu
    rw [← hu]; exact c0
  · rw [← hj2] at h1
    rw [h1] at hu
    injection hu with hu
    rw [show o + j = o + j / 2 * 2 + 1 by omega, ← hu]; exact c1
theorem flat_app (a b : List (Int × Int)) : flat (a ++ b) = flat a ++ flat b := by
  induction a with
  | nil => rfl
  | cons x a ih => simp [flat]
theorem flat_one (l : List (Int × Int)) : ∀ u ∈ flat l, u.oneCell' = true := by
  intro u hu
  unfold flat at hu
  rw [List.mem_flatMap] at hu
  obtain ⟨x, _, hu⟩ := hu
  simp at hu
  rcases hu with rfl | rfl <;> rfl
/-- Edges are appended to a row of the call's own. -/
theorem app_edges {w : World} {base : Nat} {ty : TypeId} {v : Value} {xs es : List (Int × Int)} {A : Option Addr} {m c : Nat} (hown : w.ownsRow base 55 2 v xs.length (flat xs)) (h : EL w A m es) (hl : xs.length + m ≤ 100000) (hb : base ≤ w.heap.size) :
    ∃ v' w', (Builtin.append_ #[33, 33] ty #[v, .slice A m c]).run Tryd.prog w = .ok v' w' ∧ w'.ownsRow base 55 2 v' (xs ++ es).length (flat (xs ++ es)) ∧ w.grownBy w' v.ownBlock := by
  obtain ⟨i0, hi, hz0, hz1, hz2⟩ := info_parts info_pair
  have hel := h.1
  cases A with
  | none =>
    have h0 : es = [] := by
      match es, h with
      | [], _ => rfl
      | x :: _, h =>
        obtain ⟨b, o, he, _⟩ := h.2 0 x rfl
        cases he
    subst h0
    obtain rfl : m = 0 := hel.symm
    rw [List.append_nil]
    refine ⟨v, w, ?_, hown, ⟨rfl, rfl, rfl, Nat.le_refl _, fun _ _ _ => rfl⟩⟩
    rcases hown.2 with ⟨rfl, h0⟩ | ⟨g, cap, cur, rfl, _, _, hnc, _⟩
    · simp [Builtin.append_, run_underlying Tryd.underlying33, sizeOf, typeInfo, hi, Builtin.lenOf, Builtin.firstCells]
    · simp [Builtin.append_, run_underlying Tryd.underlying33, sizeOf, typeInfo, hi, Builtin.lenOf, Builtin.firstCells, loadCells, hnc, storeCells]
  | some a =>
    have hspot : m = 0 ∨ a.spot = none := by
      match es, h with
      | [], _ => exact .inl hel.symm
      | x :: _, h =>
        obtain ⟨b, o, he, _⟩ := h.2 0 x rfl
        injection he with he
        rw [he]; exact .inr rfl
    have hnews : ∀ j u, (flat es)[j]? = some u → w.cell? (a.add j) = some u := by
      rcases hspot with h0 | h0
      · have : es = [] := List.eq_nil_of_length_eq_zero (by omega)
        subst this
        intro j u hu; simp [flat] at hu
      · obtain ⟨b, o, s⟩ := a
        simp only at h0
        subst h0
        exact el_news h
    obtain ⟨v', w', h1, h2, h3, _⟩ := run_append_own_wide (P := Tryd.prog) w base 33 ty 55 i0 (.agg #[.int .i64 0, .int .i64 0]) 2 16 Tryd.underlying33 hi hz0 hz1 hz2 rfl (by decide) v xs.length (flat xs) hown a m c (flat es) (by rw [flat_len, hel]) hnews (flat_one es) (by unfold maxLen; omega) (by omega) hb
    exact ⟨v', w', h1, by rw [List.length_append, hel, flat_app]; exact h2, h3⟩
theorem el_lt {w : World} {A : Option Addr} {m q : Nat} {l : List (Nat × Nat)} (h : EL w A m (cast l)) (hq : w.heap.size = q) : ∀ b o, A = some ⟨b, o, none⟩ → b ≠ q ∨ cast l = [] := fun b o hb => by
  by_cases h0 : cast l = []
  · exact .inr h0
  · left
    have hp : 0 < (cast l).length := List.length_pos_iff.2 h0
    obtain ⟨b', o', he, hlt, _⟩ := h.2 0 _ (List.getElem?_eq_getElem hp)
    rw [hb] at he
    injection he with he
    injection he with e1
    omega
theorem step_app_edges {ops : Array Oper} {o : Oper} {a : Act} {w : World} {K : Act → World → Prop} {Q : Exit → Act → World → Prop} {E : Prop} {base : Nat} {v : Value} {xs es : List (Int × Int)} {A : Option Addr} {m c : Nat} (hgd : o.guard = none) (s x : Operand)
    (ho : o.op = .call { callee := .builtin .append, args := #[s, x], argTypes := #[33, 33] }) (hs : a.eval s = v) (hx : a.eval x = .slice A m c)
    (hown : w.ownsRow base 55 2 v xs.length (flat xs)) (h : EL w A m es) (hl : xs.length + m ≤ 100000) (hb : base ≤ w.heap.size)
    (hK : ∀ v' w', w'.ownsRow base 55 2 v' (xs ++ es).length (flat (xs ++ es)) → w.grownBy w' v.ownBlock → K (a.put o.dst v') w') : if Region.wanted o (yielded ops a.tmps) = true then Oper.wp Tryd.prog o a w K Q else E := by
  have hw : Region.wanted o (yielded ops a.tmps) = true := by simp [Region.wanted, hgd]
  rw [if_pos hw]
  obtain ⟨v', w', hr, h2, h3⟩ := app_edges (ty := o.type) (c := c) hown h hl hb
  unfold Oper.wp execOp
  simp only [ho, resolve, invoke, builtin, Sem.run_bind, Sem.run_pure, Result.andThen_ok, List.map_toArray, List.map_cons, List.map_nil, hs, hx, hr]
  exact hK v' w' h2 h3
theorem own_none {w : World} {base : Nat} (hb : base ≤ w.heap.size) : (w.alloc (.cells #[] 55)).ownsRow base 55 2 (.slice (some ⟨w.heap.size, 0, none⟩) 0 0) ([] : List (Int × Int)).length (flat []) :=
  ⟨by simp [flat], .inr ⟨w.heap.size, 0, #[], rfl, hb, heap_new w _, Nat.le_refl _, by unfold maxLen; omega, by simp, by simp [flat]⟩⟩
theorem own_keep2 {w w' : World} {C n : Nat} {e : TypeId} {v : Value} {xs : List Value} (h : w.ownsRow C e 2 v n xs) (hb : Below w.heap.size w w') : w'.ownsRow C e 2 v n xs :=
  World.ownsRow.kept h (row := none) ⟨hb.os, hb.tape, hb.output, hb.size, fun k hk _ => hb.block k hk⟩ (by cases Value.ownBlock _ <;> simp)
theorem cast_app (a b : List (Nat × Nat)) : cast (a ++ b) = cast a ++ cast b := by unfold cast; simp
theorem rparts_adj {n : Nat} {es : List (Nat × Nat)} (hl : Low n es) : adj (makeL n (es ++ makeL n (revE es))) = adj (bothE es) := by
  have hl2 : Low n (es ++ makeL n (revE es)) := fun e he => by
    rcases List.mem_append.1 he with h | h
    · exact hl e h
    · exact revE_low hl e ((mem_make (revE_low hl)).1 h)
  rw [adj_make hl2]
  refine adj_ext fun e => ?_
  unfold bothE
  rw [List.mem_append, List.mem_append, mem_make (revE_low hl)]
def JoinP (w : World) (n : Nat) (ml : List (Nat × Nat)) (s : Value) (wx : World) : Prop :=
  ∃ p B c, s = .pointer (some ⟨p, 0, none⟩) ∧ Cells wx p [.int .i64 (n : Nat), .slice B ml.length c] ∧ EL wx B ml.length (cast ml) ∧ Below w.heap.size w wx
set_option maxRecDepth 100000 in
set_option maxHeartbeats 16000000 in
theorem refParts_any (n : Nat) (A : Option Addr) (m c : Nat) (es : List (Nat × Nat)) (w : World) (h : EL w A m (cast es)) (hg : Fine n es) :
    Calls Tryd.prog 54 #[gV n A m c] w fun e w' => ∃ v, e = .returned v ∧ OutN w.heap.size w' v (clsM n (bothE es)) ∧ Below w.heap.size w w' := by
  have hn64 := hg.n64
  have hlen := h.len
  have hm : m ≤ 4096 := by have := hg.len; omega
  have kv := (Below.refl w.heap.size w).alloc (Nat.le_refl _) (.cells #[.int .i64 (n : Nat), .slice A m c] 35)
  have G0 := Lib.hid (Cells.new w #[.int .i64 (n : Nat), .slice A m c] 35)
  have E0 := Lib.hid (fun w' (hb : Below w.heap.size w w') => h.keep hb)
  have hl2 : Low n (es ++ makeL n (revE es)) := fun e he => by
    rcases List.mem_append.1 he with h | h
    · exact hg.low e h
    · exact revE_low hg.low e ((mem_make (revE_low hg.low)).1 h)
  have hrl : (makeL n (revE es)).length ≤ 4096 := by
    have := make_len (n := n) (es := revE es)
    have : n * n ≤ 64 * 64 := Nat.mul_le_mul hn64 hn64
    omega
  have HRv := fun w' (hb : Below w.heap.size w w') => refReverse_ok n A m c es w' (h.keep hb) (by omega) hg.low hn64
  unfold gV at HRv
  have HRv := Lib.hid HRv
  have HMk := fun B d w' (hE : EL w' B (es ++ makeL n (revE es)).length (cast (es ++ makeL n (revE es)))) => refMake_ok n B (es ++ makeL n (revE es)).length d (es ++ makeL n (revE es)) w' hE (by rw [List.length_append]; omega) hl2 hn64
  have HCp := fun P d w' (hE : EL w' P (makeL n (es ++ makeL n (revE es))).length (cast (makeL n (es ++ makeL n (revE es))))) => refComps_any n P _ d (makeL n (es ++ makeL n (revE es))) w' hE (made_fine hl2 hn64)
  rw [cls_adj (rparts_adj hg.low)] at HCp
  unfold MakPost gV at HMk
  have HCp := Lib.hid HCp
  have q0 : ∀ (x : Int) (y : Value) (w : World), (Instr.field 35 (.agg #[.int .i64 x, y]) 1).run Tryd.prog w = .ok y w := fun _ _ _ => by kernel_rfl
  obtain ⟨r, hr⟩ : ∃ r, makeL n (revE es) = r := ⟨_, rfl⟩
  rw [hr] at HRv HMk HCp hrl
  obtain ⟨ml, hml⟩ : ∃ ml, makeL n (es ++ r) = ml := ⟨_, rfl⟩
  rw [hml] at HMk HCp
  have Kv := Lib.hid kv
  have hcl : (cast es).length = m := by rw [cast_len, hlen]
  have hrc : (cast r).length = r.length := cast_len r
  have hap := cast_app es r
  obtain ⟨el, hel⟩ : ∃ el, es ++ r = el := ⟨_, rfl⟩
  rw [hel] at HMk hap
  have HMk := Lib.hid HMk
  have Hap := Lib.hid hap
  have Hcl := Lib.hid (show el.length = (cast el).length from (cast_len _).symm)
  clear h hg kv hl2 hr hml hlen hel hap
  go_enter Tryd.func54, Tryd.ntmps54
  obtain ⟨w1, hw1⟩ : ∃ u, w.alloc (.cells #[.int .i64 (n : Nat), .slice A m c] 35) = u := ⟨_, rfl⟩
  rw [hw1] at G0 Kv
  go_upto_region 1 with fail
  try rw [hw1]
  clear hw1
  have hws := G0.out.lt
  go_cut [3] (fun s wx => JoinP w n ml s wx)
  case first =>
    have HS := Lib.hid (fun w' (hb : Below w1.heap.size w1 w') => (⟨(G0.out.keep hb).at_ 0, (G0.out.keep hb).at_ 1⟩ : w'.cell? ⟨w.heap.size, 0, none⟩ = some (.int .i64 (n : Nat)) ∧ w'.cell? ⟨w.heap.size, 1, none⟩ = some (.slice A m c)))
    refine Till.begin 16 (fun w' => w'.cell? ⟨w.heap.size, 0, none⟩ = some (.int .i64 (n : Nat)) ∧ w'.cell? ⟨w.heap.size, 1, none⟩ = some (.slice A m c)) (by kernel_rfl) (HS.out _ (Below.refl _ _).drew) (fun hH => ?_)
    clear hH
    have HB0 := Lib.hid (Below.refl w1.heap.size w1).drew
    generalize w1.drew = V0 at HB0 ⊢
    try simp only [List.setIfInBounds_toArray, List.set_cons_zero, List.set_cons_succ]
    refine Till.tL 0 [1, 10, 11, 12, 13, 15, 16] 6 (.pointer (some ⟨w.heap.size, 0, none⟩)) (HS.out _ HB0.out) ?_
    try simp only [Act.put, List.setIfInBounds_toArray, List.set_cons_zero, List.set_cons_succ]
    refine Till.tL 1 [10, 11, 12, 13, 15, 16] 7 (.int .i64 (n : Nat)) (HS.out _ HB0.out) ?_
    try simp only [Act.put, List.setIfInBounds_toArray, List.set_cons_zero, List.set_cons_succ]
    refine Till.tL 3 [4, 5, 7, 8, 9, 10, 11, 12, 13, 15, 16] 9 (.pointer (some ⟨w.heap.size, 1, none⟩)) (HS.out _ HB0.out) ?_
    try simp only [Act.put, List.setIfInBounds_toArray, List.set_cons_zero, List.set_cons_succ]
    refine Till.tL 4 [5, 7, 8, 9, 10, 11, 12, 13, 15, 16] 10 (.slice A m c) (HS.out _ HB0.out) ?_
    try simp only [Act.put, List.setIfInBounds_toArray, List.set_cons_zero, List.set_cons_succ]
    refine Till.tL 6 [7, 8, 9, 10, 11, 12, 13, 15, 16] 12 (.agg #[.int .i64 (n : Nat), .slice A m c]) (HS.out _ HB0.out) ?_
    try simp only [Act.put, List.setIfInBounds_toArray, List.set_cons_zero, List.set_cons_succ]
    refine Till.two (i := 2) (j := 14) (by kernel_rfl) rfl rfl ?_ ?_
    · intro K hK
      go_simp
      have kx := (Below.refl V0.heap.size V0).alloc (Nat.le_refl _) (.cells #[] 55)
      have HB1 := Lib.hid (below_on HB0.out kx)
      have O1 := Lib.hid (own_none (w := V0) (base := w1.heap.size) HB0.out.size)
      refine hK.out _ _ (fun _ => HS.out _ HB1.out) ?_
      clear hK K kx
      obtain ⟨V1, hV⟩ : ∃ u, V0.alloc (.cells #[] 55) = u := ⟨_, rfl⟩
      rw [hV] at HB1 O1 ⊢
      clear hV
      obtain ⟨ve1, hve⟩ : ∃ v : Value, .slice (some ⟨V0.heap.size, 0, none⟩) 0 0 = v := ⟨_, rfl⟩
      rw [hve] at O1 ⊢
      clear hve
      try simp only [List.setIfInBounds_toArray, List.set_cons_zero, List.set_cons_succ]
      refine Till.two (i := 5) (j := 14) (by kernel_rfl) rfl rfl ?_ ?_
      · intro K hK
        refine step_app_edges rfl (.tmp 8) (.tmp 10) rfl rfl rfl O1.out (E0.out _ (below_on Kv.out HB1.out)) (by simp; omega) HB1.out.size ?_
        intro va2 V2 hown hgr
        have HB2 := Lib.hid (HB1.out.grown hgr HB1.out.size (fun k hk => own_ge O1.out hk))
        rw [List.nil_append] at hown
        have O2 := Lib.hid hown
        refine hK.out _ _ (fun _ => HS.out _ HB2.out) ?_
        clear hK K hown hgr
        try simp only [Act.put, List.setIfInBounds_toArray]
        refine Till.two (i := 7) (j := 14) (by kernel_rfl) rfl rfl ?_ ?_
        · intro K hK
          go_simp
          refine (HRv.out V2 (below_on Kv.out HB2.out)).mono ?_
          rintro e V3 ⟨⟨B3, d3, rfl, hE⟩, hb⟩
          have HB3 := Lib.hid (below_on HB2.out hb)
          have O3 := Lib.hid (own_keep2 O2.out hb)
          have E3 := Lib.hid hE
          clear hb hE
          go_wp2_with fail
          refine hK.out _ _ (fun _ => HS.out _ HB3.out) ?_
          clear hK K
          try simp only [List.setIfInBounds_toArray, List.set_cons_zero, List.set_cons_succ]
          refine Till.tL 8 [9, 10, 11, 12, 13, 15, 16] 14 (.slice B3 r.length d3) (HS.out _ HB3.out) ?_
          try simp only [Act.put, List.setIfInBounds_toArray, List.set_cons_zero, List.set_cons_succ]
          refine Till.two (i := 9) (j := 14) (by kernel_rfl) rfl rfl ?_ ?_
          · intro K hK
            refine step_app_edges rfl (.tmp 11) (.tmp 14) rfl rfl rfl O3.out E3.out (by rw [hcl]; omega) HB3.out.size ?_
            intro va4 V4 hown hgr
            have HB4 := Lib.hid (HB3.out.grown hgr HB3.out.size (fun k hk => own_ge O3.out hk))
            have O4 := Lib.hid hown
            refine hK.out _ _ (fun _ => HS.out _ HB4.out) ?_
            clear hK K hown hgr
            try simp only [Act.put, List.setIfInBounds_toArray]
            refine Till.two (i := 10) (j := 14) (by kernel_rfl) rfl rfl ?_ ?_
            · intro K hK
              have Of := O4.out
              rw [← Hap.out] at Of
              obtain ⟨Bq, dq, hv, hE, _⟩ := own_pairs Of
              rw [← Hcl.out] at hv hE
              subst hv
              go_simp
              refine (HMk.out Bq dq V4 hE).mono ?_
              rintro e V5 ⟨⟨B5, d5, rfl, hE2, hfr⟩, hb⟩
              have HB5 := Lib.hid (below_on HB4.out hb)
              have E5 := Lib.hid hE2
              have F5 := Lib.hid hfr
              have Sz5 := Lib.hid hb.size
              clear hb hE hE2 hfr Of
              go_wp2_with fail
              refine hK.out _ _ (fun _ => HS.out _ HB5.out) ?_
              clear hK K
              try simp only [List.setIfInBounds_toArray, List.set_cons_zero, List.set_cons_succ]
              refine Till.tL 11 [12, 13, 15, 16] 5 (.tuple #[.agg #[.int .i64 (n : Nat), .slice B5 ml.length d5], .int .i64 0]) (HS.out _ HB5.out) ?_
              try simp only [Act.put, List.setIfInBounds_toArray, List.set_cons_zero, List.set_cons_succ]
              refine Till.tL 12 [15, 16] 17 (.agg #[.int .i64 (n : Nat), .slice B5 ml.length d5]) (HS.out _ HB5.out) ?_
              try simp only [Act.put, List.setIfInBounds_toArray, List.set_cons_zero, List.set_cons_succ]
              refine Till.tL 13 [16] 18 (.int .i64 0) (HS.out _ HB5.out) ?_
              try simp only [Act.put, List.setIfInBounds_toArray, List.set_cons_zero, List.set_cons_succ]
              refine Till.one (i := 14) (by kernel_rfl) rfl (fun K hK => ?_)
              go_simp
              have kx := (Below.refl V5.heap.size V5).alloc (Nat.le_refl _) (.cells #[.int .i64 0, .slice none 0 0] 35)
              have HB6 := Lib.hid (below_on HB5.out kx)
              have Z6 := Lib.hid (show Row (V5.alloc (.cells #[.int .i64 0, .slice none 0 0] 35)) V5.heap.size 35 [.int .i64 0, .slice none 0 0] from heap_new V5 _)
              have Ez := Lib.hid (E5.out.keep kx)
              refine hK.out _ _ (fun _ => HS.out _ HB6.out) ?_
              clear hK K kx
              obtain ⟨V6, hV⟩ : ∃ u, V5.alloc (.cells #[.int .i64 0, .slice none 0 0] 35) = u := ⟨_, rfl⟩
              rw [hV] at Ez HB6 Z6 ⊢
              clear hV
              obtain ⟨p6, hp⟩ : ∃ p, V5.heap.size = p := ⟨_, rfl⟩
              have P6 := Lib.hid (hp ▸ Nat.le_refl _ : V5.heap.size ≤ p6)
              rw [hp] at Z6 ⊢
              have Q6 := Lib.hid hp
              clear hp
              try simp only [List.setIfInBounds_toArray, List.set_cons_zero, List.set_cons_succ]
              refine Till.one (i := 15) (by kernel_rfl) rfl (fun K hK => ?_)
              have X := Z6.out.cells
              have x0 := X.at_ 0
              have x1 := X.at_ 1
              have f0 := X.fz 0
              have f1 := X.fz 1
              simp only [List.getElem?_cons_zero, List.getElem?_cons_succ] at x0 x1
              have hpw : w1.heap.size ≤ p6 := by have := Q6.out; have := HB5.out.size; omega
              have X2 := Lib.hid ((X.set 0 (.int .i64 (n : Nat)) (by simp)).set 1 (.slice B5 ml.length d5) (by simp))
              have HBz := Lib.hid ((HB6.out.setCell (p := ⟨p6, 0, none⟩) hpw (.int .i64 (n : Nat))).setCell (p := ⟨p6, 1, none⟩) hpw (.slice B5 ml.length d5))
              have E2 := Lib.hid (el_sets3 (q := p6) Ez.out (fun b o hb => el_lt E5.out Q6.out b o hb) (.int .i64 (n : Nat)) (.slice B5 ml.length d5))
              clear X hpw
              go_simp
              refine hK.out _ _ (fun _ => HS.out _ HBz.out) ?_
              clear hK K
              refine Till.one (i := 16) (by kernel_rfl) rfl (fun K hK => ?_)
              go_simp
              refine hK.out _ _ (fun h => absurd h (by decide)) ?_
              clear hK K
              refine Till.done (by kernel_rfl) ?_ _
              go_wp2_with fail
              go_meet
              exact ⟨p6, B5, d5, rfl, X2.out, E2.out, below_on Kv.out HBz.out⟩
            · intro K hK
              go_simp
              have kx := (Below.refl V4.heap.size V4).alloc (Nat.le_refl _) (.cells #[.int .i64 0, .slice none 0 0] 35)
              have HB7 := Lib.hid (below_on HB4.out kx)
              have O7 := Lib.hid (own_keep2 O4.out kx)
              have Z7 := Lib.hid (show Row (V4.alloc (.cells #[.int .i64 0, .slice none 0 0] 35)) V4.heap.size 35 [.int .i64 0, .slice none 0 0] from heap_new V4 _)
              refine hK.out _ _ (fun _ => HS.out _ HB7.out) ?_
              clear hK K kx
              obtain ⟨V7, hV⟩ : ∃ u, V4.alloc (.cells #[.int .i64 0, .slice none 0 0] 35) = u := ⟨_, rfl⟩
              rw [hV] at HB7 O7 Z7 ⊢
              clear hV
              obtain ⟨p7, hp⟩ : ∃ p, V4.heap.size = p := ⟨_, rfl⟩
              have P7 := Lib.hid (hp ▸ Nat.le_refl _ : V4.heap.size ≤ p7)
              rw [hp] at Z7 ⊢
              have Q7 := Lib.hid hp
              clear hp
              try simp only [List.setIfInBounds_toArray, List.set_cons_zero, List.set_cons_succ]
              refine Till.one (i := 10) (by kernel_rfl) rfl (fun K hK => ?_)
              have Of := O7.out
              rw [← Hap.out] at Of
              obtain ⟨Bq, dq, hv, hE, _⟩ := own_pairs Of
              rw [← Hcl.out] at hv hE
              subst hv
              go_simp
              refine (HMk.out Bq dq V7 hE).mono ?_
              rintro e V8 ⟨⟨B8, d8, rfl, hE2, hfr⟩, hb⟩
              have HB8 := Lib.hid (below_on HB7.out hb)
              have Z8 := Lib.hid (Z7.out.keep hb)
              have E8 := Lib.hid hE2
              have F8 := Lib.hid hfr
              have Sz8 := Lib.hid hb.size
              have Lp8 := Lib.hid (show p7 < V7.heap.size from Z7.out.cells.lt)
              clear hb hE hE2 hfr Of
              go_wp2_with fail
              refine hK.out _ _ (fun _ => HS.out _ HB8.out) ?_
              clear hK K
              try simp only [List.setIfInBounds_toArray, List.set_cons_zero, List.set_cons_succ]
              refine Till.tL 11 [12, 13, 15, 16] 5 (.tuple #[.agg #[.int .i64 (n : Nat), .slice B8 ml.length d8], .int .i64 0]) (HS.out _ HB8.out) ?_
              try simp only [Act.put, List.setIfInBounds_toArray, List.set_cons_zero, List.set_cons_succ]
              refine Till.tL 12 [15, 16] 17 (.agg #[.int .i64 (n : Nat), .slice B8 ml.length d8]) (HS.out _ HB8.out) ?_
              try simp only [Act.put, List.setIfInBounds_toArray, List.set_cons_zero, List.set_cons_succ]
              refine Till.tL 13 [16] 18 (.int .i64 0) (HS.out _ HB8.out) ?_
              try simp only [Act.put, List.setIfInBounds_toArray, List.set_cons_zero, List.set_cons_succ]
              refine Till.one (i := 15) (by kernel_rfl) rfl (fun K hK => ?_)
              have X := Z8.out.cells
              have x0 := X.at_ 0
              have x1 := X.at_ 1
              have f0 := X.fz 0
              have f1 := X.fz 1
              simp only [List.getElem?_cons_zero, List.getElem?_cons_succ] at x0 x1
              have hpw : w1.heap.size ≤ p7 := by have := Q7.out; have := HB4.out.size; omega
              have X2 := Lib.hid ((X.set 0 (.int .i64 (n : Nat)) (by simp)).set 1 (.slice B8 ml.length d8) (by simp))
              have HBz := Lib.hid ((HB8.out.setCell (p := ⟨p7, 0, none⟩) hpw (.int .i64 (n : Nat))).setCell (p := ⟨p7, 1, none⟩) hpw (.slice B8 ml.length d8))
              have E2 := Lib.hid (el_sets3 (q := p7) E8.out (fun b o hb => (F8.out b o hb).imp (fun h1 => by have := Lp8.out; omega) (fun h1 => by rw [h1]; rfl)) (.int .i64 (n : Nat)) (.slice B8 ml.length d8))
              clear X hpw
              go_simp
              refine hK.out _ _ (fun _ => HS.out _ HBz.out) ?_
              clear hK K
              refine Till.one (i := 16) (by kernel_rfl) rfl (fun K hK => ?_)
              go_simp
              refine hK.out _ _ (fun h => absurd h (by decide)) ?_
              clear hK K
              refine Till.done (by kernel_rfl) ?_ _
              go_wp2_with fail
              go_meet
              exact ⟨p7, B8, d8, rfl, X2.out, E2.out, below_on Kv.out HBz.out⟩
          · intro K hK
            go_simp
            have kx := (Below.refl V3.heap.size V3).alloc (Nat.le_refl _) (.cells #[.int .i64 0, .slice none 0 0] 35)
            have HB9 := Lib.hid (below_on HB3.out kx)
            have O9 := Lib.hid (own_keep2 O3.out kx)
            have Z9 := Lib.hid (show Row (V3.alloc (.cells #[.int .i64 0, .slice none 0 0] 35)) V3.heap.size 35 [.int .i64 0, .slice none 0 0] from heap_new V3 _)
            have E9 := Lib.hid (E3.out.keep kx)
            refine hK.out _ _ (fun _ => HS.out _ HB9.out) ?_
            clear hK K kx
            obtain ⟨V9, hV⟩ : ∃ u, V3.alloc (.cells #[.int .i64 0, .slice none 0 0] 35) = u := ⟨_, rfl⟩
            rw [hV] at E9 HB9 O9 Z9 ⊢
            clear hV
            obtain ⟨p9, hp⟩ : ∃ p, V3.heap.size = p := ⟨_, rfl⟩
            have P9 := Lib.hid (hp ▸ Nat.le_refl _ : V3.heap.size ≤ p9)
            rw [hp] at Z9 ⊢
            have Q9 := Lib.hid hp
            clear hp
            try simp only [List.setIfInBounds_toArray, List.set_cons_zero, List.set_cons_succ]
            refine Till.one (i := 9) (by kernel_rfl) rfl (fun K hK => ?_)
            refine step_app_edges rfl (.tmp 11) (.tmp 14) rfl rfl rfl O9.out E9.out (by rw [hcl]; omega) HB9.out.size ?_
            intro va10 V10 hown hgr
            have HB10 := Lib.hid (HB9.out.grown hgr HB9.out.size (fun k hk => own_ge O9.out hk))
            have O10 := Lib.hid hown
            have Z10 := Lib.hid (row_grownG (by decide) Z9.out O9.out hgr)
            refine hK.out _ _ (fun _ => HS.out _ HB10.out) ?_
            clear hK K hown hgr
            try simp only [Act.put, List.setIfInBounds_toArray]
            refine Till.one (i := 10) (by kernel_rfl) rfl (fun K hK => ?_)
            have Of := O10.out
            rw [← Hap.out] at Of
            obtain ⟨Bq, dq, hv, hE, _⟩ := own_pairs Of
            rw [← Hcl.out] at hv hE
            subst hv
            go_simp
            refine (HMk.out Bq dq V10 hE).mono ?_
            rintro e V11 ⟨⟨B11, d11, rfl, hE2, hfr⟩, hb⟩
            have HB11 := Lib.hid (below_on HB10.out hb)
            have Z11 := Lib.hid (Z10.out.keep hb)
            have E11 := Lib.hid hE2
            have F11 := Lib.hid hfr
            have Sz11 := Lib.hid hb.size
            have Lp11 := Lib.hid (show p9 < V10.heap.size from Z10.out.cells.lt)
            clear hb hE hE2 hfr Of
            go_wp2_with fail
            refine hK.out _ _ (fun _ => HS.out _ HB11.out) ?_
            clear hK K
            try simp only [List.setIfInBounds_toArray, List.set_cons_zero, List.set_cons_succ]
            refine Till.tL 11 [12, 13, 15, 16] 5 (.tuple #[.agg #[.int .i64 (n : Nat), .slice B11 ml.length d11], .int .i64 0]) (HS.out _ HB11.out) ?_
            try simp only [Act.put, List.setIfInBounds_toArray, List.set_cons_zero, List.set_cons_succ]
            refine Till.tL 12 [15, 16] 17 (.agg #[.int .i64 (n : Nat), .slice B11 ml.length d11]) (HS.out _ HB11.out) ?_
            try simp only [Act.put, List.setIfInBounds_toArray, List.set_cons_zero, List.set_cons_succ]
            refine Till.tL 13 [16] 18 (.int .i64 0) (HS.out _ HB11.out) ?_
            try simp only [Act.put, List.setIfInBounds_toArray, List.set_cons_zero, List.set_cons_succ]
            refine Till.one (i := 15) (by kernel_rfl) rfl (fun K hK => ?_)
            have X := Z11.out.cells
            have x0 := X.at_ 0
            have x1 := X.at_ 1
            have f0 := X.fz 0
            have f1 := X.fz 1
            simp only [List.getElem?_cons_zero, List.getElem?_cons_succ] at x0 x1
            have hpw : w1.heap.size ≤ p9 := by have := Q9.out; have := HB3.out.size; omega
            have X2 := Lib.hid ((X.set 0 (.int .i64 (n : Nat)) (by simp)).set 1 (.slice B11 ml.length d11) (by simp))
            have HBz := Lib.hid ((HB11.out.setCell (p := ⟨p9, 0, none⟩) hpw (.int .i64 (n : Nat))).setCell (p := ⟨p9, 1, none⟩) hpw (.slice B11 ml.length d11))
            have E2 := Lib.hid (el_sets3 (q := p9) E11.out (fun b o hb => (F11.out b o hb).imp (fun h1 => by have := Lp11.out; omega) (fun h1 => by rw [h1]; rfl)) (.int .i64 (n : Nat)) (.slice B11 ml.length d11))
            clear X hpw
            go_simp
            refine hK.out _ _ (fun _ => HS.out _ HBz.out) ?_
            clear hK K
            refine Till.one (i := 16) (by kernel_rfl) rfl (fun K hK => ?_)
            go_simp
            refine hK.out _ _ (fun h => absurd h (by decide)) ?_
            clear hK K
            refine Till.done (by kernel_rfl) ?_ _
            go_wp2_with fail
            go_meet
            exact ⟨p9, B11, d11, rfl, X2.out, E2.out, below_on Kv.out HBz.out⟩
        · intro K hK
          go_simp
          have kx := (Below.refl V2.heap.size V2).alloc (Nat.le_refl _) (.cells #[.int .i64 0, .slice none 0 0] 35)
          have HB12 := Lib.hid (below_on HB2.out kx)
          have O12 := Lib.hid (own_keep2 O2.out kx)
          have Z12 := Lib.hid (show Row (V2.alloc (.cells #[.int .i64 0, .slice none 0 0] 35)) V2.heap.size 35 [.int .i64 0, .slice none 0 0] from heap_new V2 _)
          refine hK.out _ _ (fun _ => HS.out _ HB12.out) ?_
          clear hK K kx
          obtain ⟨V12, hV⟩ : ∃ u, V2.alloc (.cells #[.int .i64 0, .slice none 0 0] 35) = u := ⟨_, rfl⟩
          rw [hV] at HB12 O12 Z12 ⊢
          clear hV
          obtain ⟨p12, hp⟩ : ∃ p, V2.heap.size = p := ⟨_, rfl⟩
          have P12 := Lib.hid (hp ▸ Nat.le_refl _ : V2.heap.size ≤ p12)
          rw [hp] at Z12 ⊢
          have Q12 := Lib.hid hp
          clear hp
          try simp only [List.setIfInBounds_toArray, List.set_cons_zero, List.set_cons_succ]
          refine Till.one (i := 7) (by kernel_rfl) rfl (fun K hK => ?_)
          go_simp
          refine (HRv.out V12 (below_on Kv.out HB12.out)).mono ?_
          rintro e V13 ⟨⟨B13, d13, rfl, hE⟩, hb⟩
          have HB13 := Lib.hid (below_on HB12.out hb)
          have O13 := Lib.hid (own_keep2 O12.out hb)
          have Z13 := Lib.hid (Z12.out.keep hb)
          have E13 := Lib.hid hE
          clear hb hE
          go_wp2_with fail
          refine hK.out _ _ (fun _ => HS.out _ HB13.out) ?_
          clear hK K
          try simp only [List.setIfInBounds_toArray, List.set_cons_zero, List.set_cons_succ]
          refine Till.tL 8 [9, 10, 11, 12, 13, 15, 16] 14 (.slice B13 r.length d13) (HS.out _ HB13.out) ?_
          try simp only [Act.put, List.setIfInBounds_toArray, List.set_cons_zero, List.set_cons_succ]
          refine Till.one (i := 9) (by kernel_rfl) rfl (fun K hK => ?_)
          refine step_app_edges rfl (.tmp 11) (.tmp 14) rfl rfl rfl O13.out E13.out (by rw [hcl]; omega) HB13.out.size ?_
          intro va14 V14 hown hgr
          have HB14 := Lib.hid (HB13.out.grown hgr HB13.out.size (fun k hk => own_ge O13.out hk))
          have O14 := Lib.hid hown
          have Z14 := Lib.hid (row_grownG (by decide) Z13.out O13.out hgr)
          refine hK.out _ _ (fun _ => HS.out _ HB14.out) ?_
          clear hK K hown hgr
          try simp only [Act.put, List.setIfInBounds_toArray]
          refine Till.one (i := 10) (by kernel_rfl) rfl (fun K hK => ?_)
          have Of := O14.out
          rw [← Hap.out] at Of
          obtain ⟨Bq, dq, hv, hE, _⟩ := own_pairs Of
          rw [← Hcl.out] at hv hE
          subst hv
          go_simp
          refine (HMk.out Bq dq V14 hE).mono ?_
          rintro e V15 ⟨⟨B15, d15, rfl, hE2, hfr⟩, hb⟩
          have HB15 := Lib.hid (below_on HB14.out hb)
          have Z15 := Lib.hid (Z14.out.keep hb)
          have E15 := Lib.hid hE2
          have F15 := Lib.hid hfr
          have Sz15 := Lib.hid hb.size
          have Lp15 := Lib.hid (show p12 < V14.heap.size from Z14.out.cells.lt)
          clear hb hE hE2 hfr Of
          go_wp2_with fail
          refine hK.out _ _ (fun _ => HS.out _ HB15.out) ?_
          clear hK K
          try simp only [List.setIfInBounds_toArray, List.set_cons_zero, List.set_cons_succ]
          refine Till.tL 11 [12, 13, 15, 16] 5 (.tuple #[.agg #[.int .i64 (n : Nat), .slice B15 ml.length d15], .int .i64 0]) (HS.out _ HB15.out) ?_
          try simp only [Act.put, List.setIfInBounds_toArray, List.set_cons_zero, List.set_cons_succ]
          refine Till.tL 12 [15, 16] 17 (.agg #[.int .i64 (n : Nat), .slice B15 ml.length d15]) (HS.out _ HB15.out) ?_
          try simp only [Act.put, List.setIfInBounds_toArray, List.set_cons_zero, List.set_cons_succ]
          refine Till.tL 13 [16] 18 (.int .i64 0) (HS.out _ HB15.out) ?_
          try simp only [Act.put, List.setIfInBounds_toArray, List.set_cons_zero, List.set_cons_succ]
          refine Till.one (i := 15) (by kernel_rfl) rfl (fun K hK => ?_)
          have X := Z15.out.cells
          have x0 := X.at_ 0
          have x1 := X.at_ 1
          have f0 := X.fz 0
          have f1 := X.fz 1
          simp only [List.getElem?_cons_zero, List.getElem?_cons_succ] at x0 x1
          have hpw : w1.heap.size ≤ p12 := by have := Q12.out; have := HB2.out.size; omega
          have X2 := Lib.hid ((X.set 0 (.int .i64 (n : Nat)) (by simp)).set 1 (.slice B15 ml.length d15) (by simp))
          have HBz := Lib.hid ((HB15.out.setCell (p := ⟨p12, 0, none⟩) hpw (.int .i64 (n : Nat))).setCell (p := ⟨p12, 1, none⟩) hpw (.slice B15 ml.length d15))
          have E2 := Lib.hid (el_sets3 (q := p12) E15.out (fun b o hb => (F15.out b o hb).imp (fun h1 => by have := Lp15.out; omega) (fun h1 => by rw [h1]; rfl)) (.int .i64 (n : Nat)) (.slice B15 ml.length d15))
          clear X hpw
          go_simp
          refine hK.out _ _ (fun _ => HS.out _ HBz.out) ?_
          clear hK K
          refine Till.one (i := 16) (by kernel_rfl) rfl (fun K hK => ?_)
          go_simp
          refine hK.out _ _ (fun h => absurd h (by decide)) ?_
          clear hK K
          refine Till.done (by kernel_rfl) ?_ _
          go_wp2_with fail
          go_meet
          exact ⟨p12, B15, d15, rfl, X2.out, E2.out, below_on Kv.out HBz.out⟩
      · intro K hK
        go_simp
        have kx := (Below.refl V1.heap.size V1).alloc (Nat.le_refl _) (.cells #[.int .i64 0, .slice none 0 0] 35)
        have HB16 := Lib.hid (below_on HB1.out kx)
        have O16 := Lib.hid (own_keep2 O1.out kx)
        have Z16 := Lib.hid (show Row (V1.alloc (.cells #[.int .i64 0, .slice none 0 0] 35)) V1.heap.size 35 [.int .i64 0, .slice none 0 0] from heap_new V1 _)
        refine hK.out _ _ (fun _ => HS.out _ HB16.out) ?_
        clear hK K kx
        obtain ⟨V16, hV⟩ : ∃ u, V1.alloc (.cells #[.int .i64 0, .slice none 0 0] 35) = u := ⟨_, rfl⟩
        rw [hV] at HB16 O16 Z16 ⊢
        clear hV
        obtain ⟨p16, hp⟩ : ∃ p, V1.heap.size = p := ⟨_, rfl⟩
        have P16 := Lib.hid (hp ▸ Nat.le_refl _ : V1.heap.size ≤ p16)
        rw [hp] at Z16 ⊢
        have Q16 := Lib.hid hp
        clear hp
        try simp only [List.setIfInBounds_toArray, List.set_cons_zero, List.set_cons_succ]
        refine Till.one (i := 5) (by kernel_rfl) rfl (fun K hK => ?_)
        refine step_app_edges rfl (.tmp 8) (.tmp 10) rfl rfl rfl O16.out (E0.out _ (below_on Kv.out HB16.out)) (by simp; omega) HB16.out.size ?_
        intro va17 V17 hown hgr
        have HB17 := Lib.hid (HB16.out.grown hgr HB16.out.size (fun k hk => own_ge O16.out hk))
        rw [List.nil_append] at hown
        have O17 := Lib.hid hown
        have Z17 := Lib.hid (row_grownG (by decide) Z16.out O16.out hgr)
        refine hK.out _ _ (fun _ => HS.out _ HB17.out) ?_
        clear hK K hown hgr
        try simp only [Act.put, List.setIfInBounds_toArray]
        refine Till.one (i := 7) (by kernel_rfl) rfl (fun K hK => ?_)
        go_simp
        refine (HRv.out V17 (below_on Kv.out HB17.out)).mono ?_
        rintro e V18 ⟨⟨B18, d18, rfl, hE⟩, hb⟩
        have HB18 := Lib.hid (below_on HB17.out hb)
        have O18 := Lib.hid (own_keep2 O17.out hb)
        have Z18 := Lib.hid (Z17.out.keep hb)
        have E18 := Lib.hid hE
        clear hb hE
        go_wp2_with fail
        refine hK.out _ _ (fun _ => HS.out _ HB18.out) ?_
        clear hK K
        try simp only [List.setIfInBounds_toArray, List.set_cons_zero, List.set_cons_succ]
        refine Till.tL 8 [9, 10, 11, 12, 13, 15, 16] 14 (.slice B18 r.length d18) (HS.out _ HB18.out) ?_
        try simp only [Act.put, List.setIfInBounds_toArray, List.set_cons_zero, List.set_cons_succ]
        refine Till.one (i := 9) (by kernel_rfl) rfl (fun K hK => ?_)
        refine step_app_edges rfl (.tmp 11) (.tmp 14) rfl rfl rfl O18.out E18.out (by rw [hcl]; omega) HB18.out.size ?_
        intro va19 V19 hown hgr
        have HB19 := Lib.hid (HB18.out.grown hgr HB18.out.size (fun k hk => own_ge O18.out hk))
        have O19 := Lib.hid hown
        have Z19 := Lib.hid (row_grownG (by decide) Z18.out O18.out hgr)
        refine hK.out _ _ (fun _ => HS.out _ HB19.out) ?_
        clear hK K hown hgr
        try simp only [Act.put, List.setIfInBounds_toArray]
        refine Till.one (i := 10) (by kernel_rfl) rfl (fun K hK => ?_)
        have Of := O19.out
        rw [← Hap.out] at Of
        obtain ⟨Bq, dq, hv, hE, _⟩ := own_pairs Of
        rw [← Hcl.out] at hv hE
        subst hv
        go_simp
        refine (HMk.out Bq dq V19 hE).mono ?_
        rintro e V20 ⟨⟨B20, d20, rfl, hE2, hfr⟩, hb⟩
        have HB20 := Lib.hid (below_on HB19.out hb)
        have Z20 := Lib.hid (Z19.out.keep hb)
        have E20 := Lib.hid hE2
        have F20 := Lib.hid hfr
        have Sz20 := Lib.hid hb.size
        have Lp20 := Lib.hid (show p16 < V19.heap.size from Z19.out.cells.lt)
        clear hb hE hE2 hfr Of
        go_wp2_with fail
        refine hK.out _ _ (fun _ => HS.out _ HB20.out) ?_
        clear hK K
        try simp only [List.setIfInBounds_toArray, List.set_cons_zero, List.set_cons_succ]
        refine Till.tL 11 [12, 13, 15, 16] 5 (.tuple #[.agg #[.int .i64 (n : Nat), .slice B20 ml.length d20], .int .i64 0]) (HS.out _ HB20.out) ?_
        try simp only [Act.put, List.setIfInBounds_toArray, List.set_cons_zero, List.set_cons_succ]
        refine Till.tL 12 [15, 16] 17 (.agg #[.int .i64 (n : Nat), .slice B20 ml.length d20]) (HS.out _ HB20.out) ?_
        try simp only [Act.put, List.setIfInBounds_toArray, List.set_cons_zero, List.set_cons_succ]
        refine Till.tL 13 [16] 18 (.int .i64 0) (HS.out _ HB20.out) ?_
        try simp only [Act.put, List.setIfInBounds_toArray, List.set_cons_zero, List.set_cons_succ]
        refine Till.one (i := 15) (by kernel_rfl) rfl (fun K hK => ?_)
        have X := Z20.out.cells
        have x0 := X.at_ 0
        have x1 := X.at_ 1
        have f0 := X.fz 0
        have f1 := X.fz 1
        simp only [List.getElem?_cons_zero, List.getElem?_cons_succ] at x0 x1
        have hpw : w1.heap.size ≤ p16 := by have := Q16.out; have := HB1.out.size; omega
        have X2 := Lib.hid ((X.set 0 (.int .i64 (n : Nat)) (by simp)).set 1 (.slice B20 ml.length d20) (by simp))
        have HBz := Lib.hid ((HB20.out.setCell (p := ⟨p16, 0, none⟩) hpw (.int .i64 (n : Nat))).setCell (p := ⟨p16, 1, none⟩) hpw (.slice B20 ml.length d20))
        have E2 := Lib.hid (el_sets3 (q := p16) E20.out (fun b o hb => (F20.out b o hb).imp (fun h1 => by have := Lp20.out; omega) (fun h1 => by rw [h1]; rfl)) (.int .i64 (n : Nat)) (.slice B20 ml.length d20))
        clear X hpw
        go_simp
        refine hK.out _ _ (fun _ => HS.out _ HBz.out) ?_
        clear hK K
        refine Till.one (i := 16) (by kernel_rfl) rfl (fun K hK => ?_)
        go_simp
        refine hK.out _ _ (fun h => absurd h (by decide)) ?_
        clear hK K
        refine Till.done (by kernel_rfl) ?_ _
        go_wp2_with fail
        go_meet
        exact ⟨p16, B20, d20, rfl, X2.out, E2.out, below_on Kv.out HBz.out⟩
    · intro K hK
      go_simp
      have kx := (Below.refl V0.heap.size V0).alloc (Nat.le_refl _) (.cells #[.int .i64 0, .slice none 0 0] 35)
      have HB21 := Lib.hid (below_on HB0.out kx)
      have Z21 := Lib.hid (show Row (V0.alloc (.cells #[.int .i64 0, .slice none 0 0] 35)) V0.heap.size 35 [.int .i64 0, .slice none 0 0] from heap_new V0 _)
      refine hK.out _ _ (fun _ => HS.out _ HB21.out) ?_
      clear hK K kx
      obtain ⟨V21, hV⟩ : ∃ u, V0.alloc (.cells #[.int .i64 0, .slice none 0 0] 35) = u := ⟨_, rfl⟩
      rw [hV] at HB21 Z21 ⊢
      clear hV
      obtain ⟨p21, hp⟩ : ∃ p, V0.heap.size = p := ⟨_, rfl⟩
      have P21 := Lib.hid (hp ▸ Nat.le_refl _ : V0.heap.size ≤ p21)
      rw [hp] at Z21 ⊢
      have Q21 := Lib.hid hp
      clear hp
      try simp only [List.setIfInBounds_toArray, List.set_cons_zero, List.set_cons_succ]
      refine Till.one (i := 2) (by kernel_rfl) rfl (fun K hK => ?_)
      go_simp
      have kx := (Below.refl V21.heap.size V21).alloc (Nat.le_refl _) (.cells #[] 55)
      have HB22 := Lib.hid (below_on HB21.out kx)
      have Z22 := Lib.hid (Z21.out.keep kx)
      have O22 := Lib.hid (own_none (w := V21) (base := w1.heap.size) HB21.out.size)
      refine hK.out _ _ (fun _ => HS.out _ HB22.out) ?_
      clear hK K kx
      obtain ⟨V22, hV⟩ : ∃ u, V21.alloc (.cells #[] 55) = u := ⟨_, rfl⟩
      rw [hV] at HB22 O22 Z22 ⊢
      clear hV
      obtain ⟨ve22, hve⟩ : ∃ v : Value, .slice (some ⟨V21.heap.size, 0, none⟩) 0 0 = v := ⟨_, rfl⟩
      rw [hve] at O22 ⊢
      clear hve
      try simp only [List.setIfInBounds_toArray, List.set_cons_zero, List.set_cons_succ]
      refine Till.one (i := 5) (by kernel_rfl) rfl (fun K hK => ?_)
      refine step_app_edges rfl (.tmp 8) (.tmp 10) rfl rfl rfl O22.out (E0.out _ (below_on Kv.out HB22.out)) (by simp; omega) HB22.out.size ?_
      intro va23 V23 hown hgr
      have HB23 := Lib.hid (HB22.out.grown hgr HB22.out.size (fun k hk => own_ge O22.out hk))
      rw [List.nil_append] at hown
      have O23 := Lib.hid hown
      have Z23 := Lib.hid (row_grownG (by decide) Z22.out O22.out hgr)
      refine hK.out _ _ (fun _ => HS.out _ HB23.out) ?_
      clear hK K hown hgr
      try simp only [Act.put, List.setIfInBounds_toArray]
      refine Till.one (i := 7) (by kernel_rfl) rfl (fun K hK => ?_)
      go_simp
      refine (HRv.out V23 (below_on Kv.out HB23.out)).mono ?_
      rintro e V24 ⟨⟨B24, d24, rfl, hE⟩, hb⟩
      have HB24 := Lib.hid (below_on HB23.out hb)
      have O24 := Lib.hid (own_keep2 O23.out hb)
      have Z24 := Lib.hid (Z23.out.keep hb)
      have E24 := Lib.hid hE
      clear hb hE
      go_wp2_with fail
      refine hK.out _ _ (fun _ => HS.out _ HB24.out) ?_
      clear hK K
      try simp only [List.setIfInBounds_toArray, List.set_cons_zero, List.set_cons_succ]
      refine Till.tL 8 [9, 10, 11, 12, 13, 15, 16] 14 (.slice B24 r.length d24) (HS.out _ HB24.out) ?_
      try simp only [Act.put, List.setIfInBounds_toArray, List.set_cons_zero, List.set_cons_succ]
      refine Till.one (i := 9) (by kernel_rfl) rfl (fun K hK => ?_)
      refine step_app_edges rfl (.tmp 11) (.tmp 14) rfl rfl rfl O24.out E24.out (by rw [hcl]; omega) HB24.out.size ?_
      intro va25 V25 hown hgr
      have HB25 := Lib.hid (HB24.out.grown hgr HB24.out.size (fun k hk => own_ge O24.out hk))
      have O25 := Lib.hid hown
      have Z25 := Lib.hid (row_grownG (by decide) Z24.out O24.out hgr)
      refine hK.out _ _ (fun _ => HS.out _ HB25.out) ?_
      clear hK K hown hgr
      try simp only [Act.put, List.setIfInBounds_toArray]
      refine Till.one (i := 10) (by kernel_rfl) rfl (fun K hK => ?_)
      have Of := O25.out
      rw [← Hap.out] at Of
      obtain ⟨Bq, dq, hv, hE, _⟩ := own_pairs Of
      rw [← Hcl.out] at hv hE
      subst hv
      go_simp
      refine (HMk.out Bq dq V25 hE).mono ?_
      rintro e V26 ⟨⟨B26, d26, rfl, hE2, hfr⟩, hb⟩
      have HB26 := Lib.hid (below_on HB25.out hb)
      have Z26 := Lib.hid (Z25.out.keep hb)
      have E26 := Lib.hid hE2
      have F26 := Lib.hid hfr
      have Sz26 := Lib.hid hb.size
      have Lp26 := Lib.hid (show p21 < V25.heap.size from Z25.out.cells.lt)
      clear hb hE hE2 hfr Of
      go_wp2_with fail
      refine hK.out _ _ (fun _ => HS.out _ HB26.out) ?_
      clear hK K
      try simp only [List.setIfInBounds_toArray, List.set_cons_zero, List.set_cons_succ]
      refine Till.tL 11 [12, 13, 15, 16] 5 (.tuple #[.agg #[.int .i64 (n : Nat), .slice B26 ml.length d26], .int .i64 0]) (HS.out _ HB26.out) ?_
      try simp only [Act.put, List.setIfInBounds_toArray, List.set_cons_zero, List.set_cons_succ]
      refine Till.tL 12 [15, 16] 17 (.agg #[.int .i64 (n : Nat), .slice B26 ml.length d26]) (HS.out _ HB26.out) ?_
      try simp only [Act.put, List.setIfInBounds_toArray, List.set_cons_zero, List.set_cons_succ]
      refine Till.tL 13 [16] 18 (.int .i64 0) (HS.out _ HB26.out) ?_
      try simp only [Act.put, List.setIfInBounds_toArray, List.set_cons_zero, List.set_cons_succ]
      refine Till.one (i := 15) (by kernel_rfl) rfl (fun K hK => ?_)
      have X := Z26.out.cells
      have x0 := X.at_ 0
      have x1 := X.at_ 1
      have f0 := X.fz 0
      have f1 := X.fz 1
      simp only [List.getElem?_cons_zero, List.getElem?_cons_succ] at x0 x1
      have hpw : w1.heap.size ≤ p21 := by have := Q21.out; have := HB0.out.size; omega
      have X2 := Lib.hid ((X.set 0 (.int .i64 (n : Nat)) (by simp)).set 1 (.slice B26 ml.length d26) (by simp))
      have HBz := Lib.hid ((HB26.out.setCell (p := ⟨p21, 0, none⟩) hpw (.int .i64 (n : Nat))).setCell (p := ⟨p21, 1, none⟩) hpw (.slice B26 ml.length d26))
      have E2 := Lib.hid (el_sets3 (q := p21) E26.out (fun b o hb => (F26.out b o hb).imp (fun h1 => by have := Lp26.out; omega) (fun h1 => by rw [h1]; rfl)) (.int .i64 (n : Nat)) (.slice B26 ml.length d26))
      clear X hpw
      go_simp
      refine hK.out _ _ (fun _ => HS.out _ HBz.out) ?_
      clear hK K
      refine Till.one (i := 16) (by kernel_rfl) rfl (fun K hK => ?_)
      go_simp
      refine hK.out _ _ (fun h => absurd h (by decide)) ?_
      clear hK K
      refine Till.done (by kernel_rfl) ?_ _
      go_wp2_with fail
      go_meet
      exact ⟨p21, B26, d26, rfl, X2.out, E2.out, below_on Kv.out HBz.out⟩
  case rest =>
    obtain ⟨p, B, cB, rfl, hz, hE, hb⟩ := hcut
    have z0 := hz.at_ 0
    have z1 := hz.at_ 1
    simp only [List.getElem?_cons_zero, List.getElem?_cons_succ] at z0 z1
    have HCb := Lib.hid (HCp.out B cB _ hE)
    have Bx := Lib.hid hb
    clear hz hE hb
    go_wp2_with fail
    refine HCb.out.mono ?_
    rintro e w3 ⟨v, rfl, hout, hb3⟩
    have O3 := Lib.hid (hout.down Bx.out.size)
    have B3 := Lib.hid (below_on Bx.out hb3)
    clear hout hb3
    go_wp2_with fail
    go_ret
    exact ⟨_, rfl, O3.out, B3.out⟩
end Go.Proofs.YthocdmlacfejkaaDoor
