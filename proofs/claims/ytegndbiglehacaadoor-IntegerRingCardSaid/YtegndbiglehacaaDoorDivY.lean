/- DivMod of any integers: the other ways. -/
import Derived.Test.YtegndbiglehacaaDoorDivZ
namespace Go.Proofs.YtegndbiglehacaaDoor
open Go.RowKit

set_option maxRecDepth 100000 in
set_option maxHeartbeats 8000000 in
theorem divmod_least (b : Int) (z k : Int) (w : World) (h : IsInt 0 w (.agg #[.int .i64 (-9223372036854775808), .pointer none]) z) (h' : IsInt 0 w (.agg #[.int .i64 b, .pointer none]) k) (hk0 : k ≠ 0) (hlz : z.natAbs < base 390) (hlk : k.natAbs < base 390) :
    Calls Tryd.prog 38 #[.agg #[.int .i64 (-9223372036854775808), .pointer none], .agg #[.int .i64 b, .pointer none]] w (DivPost z k w) := by
  obtain ⟨bz, hbz⟩ : ∃ bz, decide (z < 0) = bz := ⟨_, rfl⟩
  obtain ⟨bk, hbk⟩ : ∃ bk, decide (k < 0) = bk := ⟨_, rfl⟩
  obtain ⟨w0, hw0⟩ : ∃ w0, w0 = (((w.alloc (.cells #[.int .i64 (-9223372036854775808), .pointer none] 25)).alloc (.cells #[.int .i64 b, .pointer none] 25)).alloc (.cells #[.int .i64 0, .pointer none] 25)).alloc (.cells #[.int .i64 0, .pointer none] 25) := ⟨_, rfl⟩
  obtain ⟨va, vb, hq, hr, kk⟩ := div_boxes h h' hw0
  have VA := Lib.hid va
  have VB := Lib.hid vb
  have HQ := Lib.hid hq
  have HR := Lib.hid hr
  have KK := Lib.hid kk
  have hsgn : sgn k ≠ 0 := by unfold sgn; split <;> (try split) <;> omega
  obtain ⟨x, hx⟩ : ∃ x, sgn k = x := ⟨_, rfl⟩
  have Hs := Lib.hid (signZ_any _ k w0 vb.int)
  rw [hx] at Hs hsgn
  have t0 : (x == 0) = false := by rw [beq_eq_false_iff_ne]; exact hsgn
  have Hbz := Lib.hid hbz
  have Hbk := Lib.hid hbk
  have Hlz := Lib.hid hlz
  have Hlk := Lib.hid hlk
  have Hk0 := Lib.hid hk0
  have hm0 : 0 < k.natAbs := by omega
  have Hm0 := Lib.hid hm0
  rw [hw0] at Hs
  have Hw0 := Lib.hid hw0
  clear h h' hbz hbk va vb hq hr kk hw0 hx hsgn hlz hlk hk0 hm0
  go_enter Tryd.func38, Tryd.ntmps38
  go_wp2_with fail
  refine Hs.out.mono ?_
  rintro e w1 ⟨rfl, h1⟩
  rw [← Hw0.out] at h1
  have VA1 := Lib.hid (VA.out.keep h1)
  have VB1 := Lib.hid (VB.out.keep h1)
  have HQ1 := Lib.hid (HQ.out.keep h1)
  have HR1 := Lib.hid (HR.out.keep h1)
  have K1 := Lib.hid (below_on KK.out h1)
  have va0 := VA1.out.c0
  have va1 := VA1.out.c1
  have vb0 := VB1.out.c0
  have vb1 := VB1.out.c1
  have Hpa := Lib.hid (parts_at _ z w1 bz Hbz.out VA1.out.int)
  clear h1
  go_wp2_with fail
  refine Hpa.out.mono ?_
  rintro e w2 ⟨A, n, c, xs, rfl, hx, h2⟩
  have VB2 := Lib.hid (VB1.out.keep h2)
  have HQ2 := Lib.hid (HQ1.out.keep h2)
  have HR2 := Lib.hid (HR1.out.keep h2)
  have K2 := Lib.hid (below_on K1.out h2)
  have Hx := Lib.hid hx
  have Hpb := Lib.hid (parts_at _ k w2 bk Hbk.out VB2.out.int)
  clear va0 va1 vb0 vb1 h2 hx t0
  have vb0 := VB2.out.c0
  have vb1 := VB2.out.c1
  go_wp2_with fail
  refine Hpb.out.mono ?_
  rintro e w3 ⟨A', n', c', ys, rfl, hy, h3⟩
  have VB3 := Lib.hid (VB2.out.keep h3)
  have HQ3 := Lib.hid (HQ2.out.keep h3)
  have HR3 := Lib.hid (HR2.out.keep h3)
  have K3 := Lib.hid (below_on K2.out h3)
  have Hdn := Lib.hid (divNat_any w3 (Hx.out.keep h3) hy Hm0.out (by have := Hx.out.len_le Hlz.out; omega))
  clear vb0 vb1 h3 hy
  go_wp2_with fail
  refine Hdn.out.mono ?_
  rintro e w4 ⟨A1, n1, c1, zs, A2, n2, c2, us, rfl, hq, hr, h4⟩
  have VB4 := Lib.hid (VB3.out.keep h4)
  have HQ4 := Lib.hid (HQ3.out.keep h4)
  have HR4 := Lib.hid (HR3.out.keep h4)
  have K4 := Lib.hid (below_on K3.out h4)
  have Hr4 := Lib.hid hr
  obtain ⟨sb, hsb⟩ : ∃ sb, (!(bz == bk)) = sb := ⟨_, rfl⟩
  have Hsb := Lib.hid (show (bz != bk) = sb from hsb)
  have hn2 := hr.len
  have Hn2 := Lib.hid hr.zero_iff
  have Hs1 := Lib.hid (signed_new sb (signZ sb (z.natAbs / k.natAbs)) w4 hq rfl)
  clear h4 hq hr
  go_wp2_with fail
  refine Hs1.out.mono ?_
  rintro e w5 ⟨qa, qP, rfl, hi5, h5⟩
  have VB5 := Lib.hid (VB4.out.keep h5)
  have HQ5 := Lib.hid (HQ4.out.keep h5)
  have HR5 := Lib.hid (HR4.out.keep h5)
  have K5 := Lib.hid (below_on K4.out h5)
  have Hi5 := Lib.hid hi5
  have Hs2 := Lib.hid (signed_new bz (signZ bz (z.natAbs % k.natAbs)) w5 (Hr4.out.keep h5) rfl)
  clear h5 hi5
  go_wp2_with fail
  refine Hs2.out.mono ?_
  rintro e w6 ⟨ra, rP, rfl, hi6, h6⟩
  have VB6 := Lib.hid (VB5.out.keep h6)
  have HQ6 := Lib.hid (HQ5.out.keep h6)
  have HR6 := Lib.hid (HR5.out.keep h6)
  have K6 := Lib.hid (below_on K5.out h6)
  obtain ⟨w7, hw7⟩ : ∃ w7, ((((w6.setCell ⟨w.heap.size + 2, 0, none⟩ (.int .i64 qa)).setCell ⟨w.heap.size + 2, 1, none⟩ (.pointer qP)).setCell ⟨w.heap.size + 3, 0, none⟩ (.int .i64 ra)).setCell ⟨w.heap.size + 3, 1, none⟩ (.pointer rP)) = w7 := ⟨_, rfl⟩
  have hr6 := HR6.out.other (p := w.heap.size + 2) (by omega) (.int .i64 qa) (.pointer qP)
  have hq6 := HQ6.out.store qa qP
  have HQ7 := Lib.hid (show Hold w7 (w.heap.size + 2) qa qP by rw [← hw7]; exact hq6.other (by omega) _ _)
  have HR7 := Lib.hid (show Hold w7 (w.heap.size + 3) ra rP by rw [← hw7]; exact hr6.store ra rP)
  have VB7 := Lib.hid (show Var w7 (w.heap.size + 1) b none k by rw [← hw7]; exact (VB6.out.held HQ6.out (by omega) _ _).held hr6 (by omega) _ _)
  have I1 := Lib.hid (show IsInt 0 w7 (.agg #[.int .i64 qa, .pointer qP]) (signZ sb (z.natAbs / k.natAbs)) by rw [← hw7]; exact ((Hi5.out.keep h6).held HQ6.out _ _).held hr6 _ _)
  have I2 := Lib.hid (show IsInt 0 w7 (.agg #[.int .i64 ra, .pointer rP]) (signZ bz (z.natAbs % k.natAbs)) by rw [← hw7]; exact (hi6.held HQ6.out _ _).held hr6 _ _)
  have K7 := Lib.hid (show Below w.heap.size w w7 by rw [← hw7]; exact below_stored (below_stored K6.out (by omega) _ _) (by omega) _ _)
  have f0 := HQ6.out.f0
  have f1 := HQ6.out.f1
  have g0 := HR6.out.f0
  have g1 := HR6.out.f1
  have i0 := HQ6.out.c0
  have i1 := HQ6.out.c1
  have j0 := HR6.out.c0
  have j1 := HR6.out.c1
  clear h6 hi6 hr6 hq6
  by_cases hkeep : n2 = 0 ∨ sb = false
  · have Hdm := Lib.hid (show DM z k (signZ sb (z.natAbs / k.natAbs)) (signZ bz (z.natAbs % k.natAbs)) by
      have := dm_keep (z := z) (k := k) rfl rfl Hk0.out (by
        rcases hkeep with h | h
        · exact .inl (Hn2.out.1 h)
        · rw [← Hsb.out, ← Hbz.out, ← Hbk.out] at h; exact .inr h)
      rw [Hbz.out, Hbk.out, Hsb.out] at this
      exact this)
    by_cases hn0 : n2 = 0
    · subst hn0
      clear hkeep
      go_wp2_with fail
      clear f0 f1 g0 g1 i0 i1 j0 j1 hw7
      have f0 := HQ7.out.f0
      have f1 := HQ7.out.f1
      have g0 := HR7.out.f0
      have g1 := HR7.out.f1
      have i0 := HQ7.out.c0
      have i1 := HQ7.out.c1
      have j0 := HR7.out.c0
      have j1 := HR7.out.c1
      have hr8 := HR7.out.other (p := w.heap.size + 2) (by omega) (.int .i64 qa) (.pointer qP)
      have J1 := Lib.hid (((I1.out.held HQ7.out (.int .i64 qa) (.pointer qP)).held hr8 (.int .i64 ra) (.pointer rP)).keep (below_drewN (Below.refl _ _) 1))
      have J2 := Lib.hid (((I2.out.held HQ7.out (.int .i64 qa) (.pointer qP)).held hr8 (.int .i64 ra) (.pointer rP)).keep (below_drewN (Below.refl _ _) 1))
      have K8 := Lib.hid (below_drewN (below_stored (below_stored K7.out (show w.heap.size ≤ w.heap.size + 2 by omega) (.int .i64 qa) (.pointer qP)) (show w.heap.size ≤ w.heap.size + 3 by omega) (.int .i64 ra) (.pointer rP)) 1)
      clear hr8
      go_region
      all_goals
        go_wp2_with fail
        exact bodyPost_ret (v := .tuple #[.agg #[.int .i64 qa, .pointer qP], .agg #[.int .i64 ra, .pointer rP], .int .i64 0]) (by simp [results, Tryd.results38, go_sem, i0, i1, j0, j1]) rfl ⟨qa, qP, ra, rP, _, _, rfl, J1.out, J2.out, Hdm.out, K8.out⟩
    · have hn20 : 0 < n2 := by omega
      obtain rfl : sb = false := by rcases hkeep with h | h; · exact absurd h hn0
                                    · exact h
      clear hkeep hn0
      go_wp2_with fail
      clear f0 f1 g0 g1 i0 i1 j0 j1 hw7
      have f0 := HQ7.out.f0
      have f1 := HQ7.out.f1
      have g0 := HR7.out.f0
      have g1 := HR7.out.f1
      have i0 := HQ7.out.c0
      have i1 := HQ7.out.c1
      have j0 := HR7.out.c0
      have j1 := HR7.out.c1
      have hr8 := HR7.out.other (p := w.heap.size + 2) (by omega) (.int .i64 qa) (.pointer qP)
      have J1 := Lib.hid (((I1.out.held HQ7.out (.int .i64 qa) (.pointer qP)).held hr8 (.int .i64 ra) (.pointer rP)).keep (below_drewN (Below.refl _ _) 1))
      have J2 := Lib.hid (((I2.out.held HQ7.out (.int .i64 qa) (.pointer qP)).held hr8 (.int .i64 ra) (.pointer rP)).keep (below_drewN (Below.refl _ _) 1))
      have K8 := Lib.hid (below_drewN (below_stored (below_stored K7.out (show w.heap.size ≤ w.heap.size + 2 by omega) (.int .i64 qa) (.pointer qP)) (show w.heap.size ≤ w.heap.size + 3 by omega) (.int .i64 ra) (.pointer rP)) 1)
      clear hr8
      go_region
      all_goals
        go_wp2_with fail
        exact bodyPost_ret (v := .tuple #[.agg #[.int .i64 qa, .pointer qP], .agg #[.int .i64 ra, .pointer rP], .int .i64 0]) (by simp [results, Tryd.results38, go_sem, i0, i1, j0, j1]) rfl ⟨qa, qP, ra, rP, _, _, rfl, J1.out, J2.out, Hdm.out, K8.out⟩
  · have hn20 : 0 < n2 := by omega
    obtain rfl : sb = true := by cases sb <;> simp_all
    clear hkeep
    have Hdm := Lib.hid (show DM z k (signZ true (z.natAbs / k.natAbs) - 1) (signZ bz (z.natAbs % k.natAbs) + k) by
      have hb : (decide (z < 0) != decide (k < 0)) = true := by rw [Hbz.out, Hbk.out]; exact Hsb.out
      have := dm_turn (z := z) (k := k) rfl rfl Hk0.out (fun h0 => by have := Hn2.out.2 h0; omega) hb
      rw [hb, Hbz.out] at this
      exact this)
    have Lq := Lib.hid (show (signZ true (z.natAbs / k.natAbs)).natAbs < base 400 by
      rw [signZ_abs]; exact Nat.lt_of_le_of_lt (Nat.div_le_self _ _) (base_up Hlz.out (by decide)))
    have Lr := Lib.hid (show (signZ bz (z.natAbs % k.natAbs)).natAbs < base 400 by
      rw [signZ_abs]; exact Nat.lt_of_le_of_lt (Nat.mod_le _ _) (base_up Hlz.out (by decide)))
    have Hsub := Lib.hid (fun v (hb : Below w7.heap.size w7 v) => sub_any qa 1 qP none _ 1 v (I1.out.keep hb) (.inl ⟨⟨by decide, by decide⟩, rfl⟩) Lq.out (by decide +kernel))
    have Hadd := Lib.hid (fun v (hb : Below w7.heap.size w7 v) => add_any ra b rP none _ k v (I2.out.keep hb) (VB7.out.int.keep hb) Lr.out (base_up Hlk.out (by decide)))
    have HS := Lib.hid (fun v (hb : Below w7.heap.size w7 v) => div_held HQ7.out HR7.out VB7.out hb)
    obtain ⟨zq, hzq⟩ : ∃ zq, signZ true (z.natAbs / k.natAbs) = zq := ⟨_, rfl⟩
    obtain ⟨zr, hzr⟩ : ∃ zr, signZ bz (z.natAbs % k.natAbs) = zr := ⟨_, rfl⟩
    rw [hzq] at Hdm Hsub
    rw [hzr] at Hdm Hadd
    clear hzq hzr
    go_wp2_with fail
    clear f0 f1 g0 g1 i0 i1 j0 j1 hw7
    refine Till.begin 6 (fun v => v.cell? ⟨w.heap.size + 2, 0, none⟩ = some (.int .i64 qa) ∧ v.cell? ⟨w.heap.size + 2, 1, none⟩ = some (.pointer qP) ∧ v.cell? ⟨w.heap.size + 3, 0, none⟩ = some (.int .i64 ra) ∧ v.cell? ⟨w.heap.size + 3, 1, none⟩ = some (.pointer rP) ∧ v.cell? ⟨w.heap.size + 1, 0, none⟩ = some (.int .i64 b) ∧ v.cell? ⟨w.heap.size + 1, 1, none⟩ = some (.pointer none)) (by kernel_rfl) (HS.out _ (below_drewN (Below.refl _ _) 1)) (fun hH => ?_)
    refine Till.take (i := 0) (m := 2) (d := some 95) (u := .agg #[.int .i64 qa, .pointer qP]) rfl rfl (by kernel_rfl) (by kernel_rfl) (by kernel_rfl) (by kernel_rfl) (by kernel_rfl) (by kernel_rfl) (by kernel_rfl) (fun _ _ _ h => h) (by kernel_rfl) (by (intro w hSw; (try dsimp only at hSw); go_split_ands; go_simp)) hH ?_
    try simp only [Act.put, List.setIfInBounds_toArray, List.set_cons_zero, List.set_cons_succ]
    refine Till.take (i := 3) (m := 5) (d := some 98) (u := .agg #[.int .i64 ra, .pointer rP]) rfl rfl (by kernel_rfl) (by kernel_rfl) (by kernel_rfl) (by kernel_rfl) (by kernel_rfl) (by kernel_rfl) (by kernel_rfl) (fun _ _ _ h => h) (by kernel_rfl) (by (intro w hSw; (try dsimp only at hSw); go_split_ands; go_simp)) hH ?_
    try simp only [Act.put, List.setIfInBounds_toArray, List.set_cons_zero, List.set_cons_succ]
    refine Till.take (i := 4) (m := 5) (d := some 99) (u := .agg #[.int .i64 b, .pointer none]) rfl rfl (by kernel_rfl) (by kernel_rfl) (by kernel_rfl) (by kernel_rfl) (by kernel_rfl) (by kernel_rfl) (by kernel_rfl) (fun _ _ _ h => h) (by kernel_rfl) (by (intro w hSw; (try dsimp only at hSw); go_split_ands; go_simp)) hH ?_
    try simp only [Act.put, List.setIfInBounds_toArray, List.set_cons_zero, List.set_cons_succ]
    clear hH
    refine Till.one (i := 1) (by kernel_rfl) rfl (fun K hK => ?_)
    go_simp
    refine (from_any 1 _).mono ?_
    rintro e v1 ⟨rfl, g1⟩
    have B1 := Lib.hid (below_on (below_drewN (Below.refl w7.heap.size w7) 1) g1)
    clear g1
    go_wp2_with fail
    refine hK.out _ _ (fun _ => HS.out _ B1.out) ?_
    clear hK K
    try simp only [Act.put, List.setIfInBounds_toArray, List.set_cons_zero, List.set_cons_succ]
    refine Till.one (i := 2) (by kernel_rfl) rfl (fun K hK => ?_)
    go_simp
    refine (Hsub.out _ B1.out).mono ?_
    rintro e v2 ⟨sa, sP, rfl, hs, g2⟩
    have B2 := Lib.hid (below_on B1.out g2)
    have Hs2' := Lib.hid hs
    clear g2 hs
    go_wp2_with fail
    refine hK.out _ _ (fun _ => HS.out _ B2.out) ?_
    clear hK K
    try simp only [Act.put, List.setIfInBounds_toArray, List.set_cons_zero, List.set_cons_succ]
    refine Till.one (i := 5) (by kernel_rfl) rfl (fun K hK => ?_)
    go_simp
    refine (Hadd.out _ B2.out).mono ?_
    rintro e v3 ⟨ta, tP, rfl, ht, g3⟩
    have B3 := Lib.hid (below_on B2.out g3)
    have Hs3 := Lib.hid (Hs2'.out.keep g3)
    have Ht3 := Lib.hid ht
    clear g3 ht
    go_wp2_with fail
    refine hK.out _ _ (fun _ => HS.out _ B3.out) ?_
    clear hK K
    try simp only [Act.put, List.setIfInBounds_toArray, List.set_cons_zero, List.set_cons_succ]
    have HQ8 := Lib.hid (HQ7.out.keep B3.out)
    have HR8 := Lib.hid (HR7.out.keep B3.out)
    have f0 := HQ8.out.f0
    have f1 := HQ8.out.f1
    have g0 := HR8.out.f0
    have g1 := HR8.out.f1
    have i0 := HQ8.out.c0
    have i1 := HQ8.out.c1
    have j0 := HR8.out.c0
    have j1 := HR8.out.c1
    refine Till.one (i := 6) (by kernel_rfl) rfl (fun K hK => ?_)
    go_simp
    refine hK.out _ _ (fun h => absurd h (by simp)) ?_
    clear hK K
    try simp only [Act.put, List.setIfInBounds_toArray, List.set_cons_zero, List.set_cons_succ]
    refine Till.one (i := 7) (by kernel_rfl) rfl (fun K hK => ?_)
    go_simp
    refine hK.out _ _ (fun h => absurd h (by simp)) ?_
    clear hK K
    try simp only [Act.put, List.setIfInBounds_toArray, List.set_cons_zero, List.set_cons_succ]
    refine Till.done (by kernel_rfl) ?_ _
    have hr9 := HR8.out.other (p := w.heap.size + 2) (by omega) (.int .i64 sa) (.pointer sP)
    have hq9 := HQ8.out.store sa sP
    obtain ⟨w9, hw9⟩ : ∃ w9, ((((v3.setCell ⟨w.heap.size + 1 + 1, 0, none⟩ (.int .i64 sa)).setCell ⟨w.heap.size + 1 + 1, 1, none⟩ (.pointer sP)).setCell ⟨w.heap.size + 1 + 1 + 1, 0, none⟩ (.int .i64 ta)).setCell ⟨w.heap.size + 1 + 1 + 1, 1, none⟩ (.pointer tP)) = w9 := ⟨_, rfl⟩
    rw [hw9]
    have HQ9 := Lib.hid (show Hold w9 (w.heap.size + 2) sa sP by rw [← hw9]; exact hq9.other (by omega) _ _)
    have HR9 := Lib.hid (show Hold w9 (w.heap.size + 3) ta tP by rw [← hw9]; exact hr9.store ta tP)
    have I3 := Lib.hid (show IsInt 0 w9 (.agg #[.int .i64 sa, .pointer sP]) (zq - 1) by rw [← hw9]; exact (Hs3.out.held HQ8.out _ _).held hr9 _ _)
    have I4 := Lib.hid (show IsInt 0 w9 (.agg #[.int .i64 ta, .pointer tP]) (zr + k) by rw [← hw9]; exact (Ht3.out.held HQ8.out _ _).held hr9 _ _)
    have K9 := Lib.hid (show Below w.heap.size w w9 by rw [← hw9]; exact below_stored (below_stored (below_on K7.out B3.out) (by omega) _ _) (by omega) _ _)
    clear hr9 hq9 f0 f1 g0 g1 i0 i1 j0 j1
    go_wp2_with fail
    clear hw9
    have f0 := HQ9.out.f0
    have f1 := HQ9.out.f1
    have g0 := HR9.out.f0
    have g1 := HR9.out.f1
    have i0 := HQ9.out.c0
    have i1 := HQ9.out.c1
    have j0 := HR9.out.c0
    have j1 := HR9.out.c1
    have hr8 := HR9.out.other (p := w.heap.size + 2) (by omega) (.int .i64 sa) (.pointer sP)
    have J1 := Lib.hid (((I3.out.held HQ9.out (.int .i64 sa) (.pointer sP)).held hr8 (.int .i64 ta) (.pointer tP)).keep (below_drewN (Below.refl _ _) 1))
    have J2 := Lib.hid (((I4.out.held HQ9.out (.int .i64 sa) (.pointer sP)).held hr8 (.int .i64 ta) (.pointer tP)).keep (below_drewN (Below.refl _ _) 1))
    have K8 := Lib.hid (below_drewN (below_stored (below_stored K9.out (show w.heap.size ≤ w.heap.size + 2 by omega) (.int .i64 sa) (.pointer sP)) (show w.heap.size ≤ w.heap.size + 3 by omega) (.int .i64 ta) (.pointer tP)) 1)
    clear hr8
    go_region
    all_goals
      go_wp2_with fail
      exact bodyPost_ret (v := .tuple #[.agg #[.int .i64 sa, .pointer sP], .agg #[.int .i64 ta, .pointer tP], .int .i64 0]) (by simp [results, Tryd.results38, go_sem, i0, i1, j0, j1]) rfl ⟨sa, sP, ta, tP, _, _, rfl, J1.out, J2.out, Hdm.out, K8.out⟩
set_option maxRecDepth 100000 in
set_option maxHeartbeats 8000000 in
theorem divmod_mixed (a b : Int) (p : Nat) (z k : Int) (w : World) (h : IsInt 0 w (.agg #[.int .i64 a, .pointer none]) z) (h' : IsInt 0 w (.agg #[.int .i64 b, .pointer (some ⟨p, 0, none⟩)]) k) (hk0 : k ≠ 0) (hlz : z.natAbs < base 390) (hlk : k.natAbs < base 390) :
    Calls Tryd.prog 38 #[.agg #[.int .i64 a, .pointer none], .agg #[.int .i64 b, .pointer (some ⟨p, 0, none⟩)]] w (DivPost z k w) := by
  obtain ⟨bz, hbz⟩ : ∃ bz, decide (z < 0) = bz := ⟨_, rfl⟩
  obtain ⟨bk, hbk⟩ : ∃ bk, decide (k < 0) = bk := ⟨_, rfl⟩
  obtain ⟨w0, hw0⟩ : ∃ w0, w0 = (((w.alloc (.cells #[.int .i64 a, .pointer none] 25)).alloc (.cells #[.int .i64 b, .pointer (some ⟨p, 0, none⟩)] 25)).alloc (.cells #[.int .i64 0, .pointer none] 25)).alloc (.cells #[.int .i64 0, .pointer none] 25) := ⟨_, rfl⟩
  obtain ⟨va, vb, hq, hr, kk⟩ := div_boxes h h' hw0
  have VA := Lib.hid va
  have VB := Lib.hid vb
  have HQ := Lib.hid hq
  have HR := Lib.hid hr
  have KK := Lib.hid kk
  have hsgn : sgn k ≠ 0 := by unfold sgn; split <;> (try split) <;> omega
  obtain ⟨x, hx⟩ : ∃ x, sgn k = x := ⟨_, rfl⟩
  have Hs := Lib.hid (signZ_any _ k w0 vb.int)
  rw [hx] at Hs hsgn
  have t0 : (x == 0) = false := by rw [beq_eq_false_iff_ne]; exact hsgn
  have Hbz := Lib.hid hbz
  have Hbk := Lib.hid hbk
  have Hlz := Lib.hid hlz
  have Hlk := Lib.hid hlk
  have Hk0 := Lib.hid hk0
  have hm0 : 0 < k.natAbs := by omega
  have Hm0 := Lib.hid hm0
  rw [hw0] at Hs
  have Hw0 := Lib.hid hw0
  clear h h' hbz hbk va vb hq hr kk hw0 hx hsgn hlz hlk hk0 hm0
  go_enter Tryd.func38, Tryd.ntmps38
  go_wp2_with fail
  refine Hs.out.mono ?_
  rintro e w1 ⟨rfl, h1⟩
  rw [← Hw0.out] at h1
  have VA1 := Lib.hid (VA.out.keep h1)
  have VB1 := Lib.hid (VB.out.keep h1)
  have HQ1 := Lib.hid (HQ.out.keep h1)
  have HR1 := Lib.hid (HR.out.keep h1)
  have K1 := Lib.hid (below_on KK.out h1)
  have va0 := VA1.out.c0
  have va1 := VA1.out.c1
  have vb0 := VB1.out.c0
  have vb1 := VB1.out.c1
  have Hpa := Lib.hid (parts_at _ z w1 bz Hbz.out VA1.out.int)
  clear h1
  go_wp2_with fail
  refine Hpa.out.mono ?_
  rintro e w2 ⟨A, n, c, xs, rfl, hx, h2⟩
  have VB2 := Lib.hid (VB1.out.keep h2)
  have HQ2 := Lib.hid (HQ1.out.keep h2)
  have HR2 := Lib.hid (HR1.out.keep h2)
  have K2 := Lib.hid (below_on K1.out h2)
  have Hx := Lib.hid hx
  have Hpb := Lib.hid (parts_at _ k w2 bk Hbk.out VB2.out.int)
  clear va0 va1 vb0 vb1 h2 hx t0
  have vb0 := VB2.out.c0
  have vb1 := VB2.out.c1
  go_wp2_with fail
  refine Hpb.out.mono ?_
  rintro e w3 ⟨A', n', c', ys, rfl, hy, h3⟩
  have VB3 := Lib.hid (VB2.out.keep h3)
  have HQ3 := Lib.hid (HQ2.out.keep h3)
  have HR3 := Lib.hid (HR2.out.keep h3)
  have K3 := Lib.hid (below_on K2.out h3)
  have Hdn := Lib.hid (divNat_any w3 (Hx.out.keep h3) hy Hm0.out (by have := Hx.out.len_le Hlz.out; omega))
  clear vb0 vb1 h3 hy
  go_wp2_with fail
  refine Hdn.out.mono ?_
  rintro e w4 ⟨A1, n1, c1, zs, A2, n2, c2, us, rfl, hq, hr, h4⟩
  have VB4 := Lib.hid (VB3.out.keep h4)
  have HQ4 := Lib.hid (HQ3.out.keep h4)
  have HR4 := Lib.hid (HR3.out.keep h4)
  have K4 := Lib.hid (below_on K3.out h4)
  have Hr4 := Lib.hid hr
  obtain ⟨sb, hsb⟩ : ∃ sb, (!(bz == bk)) = sb := ⟨_, rfl⟩
  have Hsb := Lib.hid (show (bz != bk) = sb from hsb)
  have hn2 := hr.len
  have Hn2 := Lib.hid hr.zero_iff
  have Hs1 := Lib.hid (signed_new sb (signZ sb (z.natAbs / k.natAbs)) w4 hq rfl)
  clear h4 hq hr
  go_wp2_with fail
  refine Hs1.out.mono ?_
  rintro e w5 ⟨qa, qP, rfl, hi5, h5⟩
  have VB5 := Lib.hid (VB4.out.keep h5)
  have HQ5 := Lib.hid (HQ4.out.keep h5)
  have HR5 := Lib.hid (HR4.out.keep h5)
  have K5 := Lib.hid (below_on K4.out h5)
  have Hi5 := Lib.hid hi5
  have Hs2 := Lib.hid (signed_new bz (signZ bz (z.natAbs % k.natAbs)) w5 (Hr4.out.keep h5) rfl)
  clear h5 hi5
  go_wp2_with fail
  refine Hs2.out.mono ?_
  rintro e w6 ⟨ra, rP, rfl, hi6, h6⟩
  have VB6 := Lib.hid (VB5.out.keep h6)
  have HQ6 := Lib.hid (HQ5.out.keep h6)
  have HR6 := Lib.hid (HR5.out.keep h6)
  have K6 := Lib.hid (below_on K5.out h6)
  obtain ⟨w7, hw7⟩ : ∃ w7, ((((w6.setCell ⟨w.heap.size + 2, 0, none⟩ (.int .i64 qa)).setCell ⟨w.heap.size + 2, 1, none⟩ (.pointer qP)).setCell ⟨w.heap.size + 3, 0, none⟩ (.int .i64 ra)).setCell ⟨w.heap.size + 3, 1, none⟩ (.pointer rP)) = w7 := ⟨_, rfl⟩
  have hr6 := HR6.out.other (p := w.heap.size + 2) (by omega) (.int .i64 qa) (.pointer qP)
  have hq6 := HQ6.out.store qa qP
  have HQ7 := Lib.hid (show Hold w7 (w.heap.size + 2) qa qP by rw [← hw7]; exact hq6.other (by omega) _ _)
  have HR7 := Lib.hid (show Hold w7 (w.heap.size + 3) ra rP by rw [← hw7]; exact hr6.store ra rP)
  have VB7 := Lib.hid (show Var w7 (w.heap.size + 1) b (some ⟨p, 0, none⟩) k by rw [← hw7]; exact (VB6.out.held HQ6.out (by omega) _ _).held hr6 (by omega) _ _)
  have I1 := Lib.hid (show IsInt 0 w7 (.agg #[.int .i64 qa, .pointer qP]) (signZ sb (z.natAbs / k.natAbs)) by rw [← hw7]; exact ((Hi5.out.keep h6).held HQ6.out _ _).held hr6 _ _)
  have I2 := Lib.hid (show IsInt 0 w7 (.agg #[.int .i64 ra, .pointer rP]) (signZ bz (z.natAbs % k.natAbs)) by rw [← hw7]; exact (hi6.held HQ6.out _ _).held hr6 _ _)
  have K7 := Lib.hid (show Below w.heap.size w w7 by rw [← hw7]; exact below_stored (below_stored K6.out (by omega) _ _) (by omega) _ _)
  have f0 := HQ6.out.f0
  have f1 := HQ6.out.f1
  have g0 := HR6.out.f0
  have g1 := HR6.out.f1
  have i0 := HQ6.out.c0
  have i1 := HQ6.out.c1
  have j0 := HR6.out.c0
  have j1 := HR6.out.c1
  clear h6 hi6 hr6 hq6
  by_cases hkeep : n2 = 0 ∨ sb = false
  · have Hdm := Lib.hid (show DM z k (signZ sb (z.natAbs / k.natAbs)) (signZ bz (z.natAbs % k.natAbs)) by
      have := dm_keep (z := z) (k := k) rfl rfl Hk0.out (by
        rcases hkeep with h | h
        · exact .inl (Hn2.out.1 h)
        · rw [← Hsb.out, ← Hbz.out, ← Hbk.out] at h; exact .inr h)
      rw [Hbz.out, Hbk.out, Hsb.out] at this
      exact this)
    by_cases hn0 : n2 = 0
    · subst hn0
      clear hkeep
      go_wp2_with fail
      clear f0 f1 g0 g1 i0 i1 j0 j1 hw7
      have f0 := HQ7.out.f0
      have f1 := HQ7.out.f1
      have g0 := HR7.out.f0
      have g1 := HR7.out.f1
      have i0 := HQ7.out.c0
      have i1 := HQ7.out.c1
      have j0 := HR7.out.c0
      have j1 := HR7.out.c1
      have hr8 := HR7.out.other (p := w.heap.size + 2) (by omega) (.int .i64 qa) (.pointer qP)
      have J1 := Lib.hid (((I1.out.held HQ7.out (.int .i64 qa) (.pointer qP)).held hr8 (.int .i64 ra) (.pointer rP)).keep (below_drewN (Below.refl _ _) 1))
      have J2 := Lib.hid (((I2.out.held HQ7.out (.int .i64 qa) (.pointer qP)).held hr8 (.int .i64 ra) (.pointer rP)).keep (below_drewN (Below.refl _ _) 1))
      have K8 := Lib.hid (below_drewN (below_stored (below_stored K7.out (show w.heap.size ≤ w.heap.size + 2 by omega) (.int .i64 qa) (.pointer qP)) (show w.heap.size ≤ w.heap.size + 3 by omega) (.int .i64 ra) (.pointer rP)) 1)
      clear hr8
      go_region
      all_goals
        go_wp2_with fail
        exact bodyPost_ret (v := .tuple #[.agg #[.int .i64 qa, .pointer qP], .agg #[.int .i64 ra, .pointer rP], .int .i64 0]) (by simp [results, Tryd.results38, go_sem, i0, i1, j0, j1]) rfl ⟨qa, qP, ra, rP, _, _, rfl, J1.out, J2.out, Hdm.out, K8.out⟩
    · have hn20 : 0 < n2 := by omega
      obtain rfl : sb = false := by rcases hkeep with h | h; · exact absurd h hn0
                                    · exact h
      clear hkeep hn0
      go_wp2_with fail
      clear f0 f1 g0 g1 i0 i1 j0 j1 hw7
      have f0 := HQ7.out.f0
      have f1 := HQ7.out.f1
      have g0 := HR7.out.f0
      have g1 := HR7.out.f1
      have i0 := HQ7.out.c0
      have i1 := HQ7.out.c1
      have j0 := HR7.out.c0
      have j1 := HR7.out.c1
      have hr8 := HR7.out.other (p := w.heap.size + 2) (by omega) (.int .i64 qa) (.pointer qP)
      have J1 := Lib.hid (((I1.out.held HQ7.out (.int .i64 qa) (.pointer qP)).held hr8 (.int .i64 ra) (.pointer rP)).keep (below_drewN (Below.refl _ _) 1))
      have J2 := Lib.hid (((I2.out.held HQ7.out (.int .i64 qa) (.pointer qP)).held hr8 (.int .i64 ra) (.pointer rP)).keep (below_drewN (Below.refl _ _) 1))
      have K8 := Lib.hid (below_drewN (below_stored (below_stored K7.out (show w.heap.size ≤ w.heap.size + 2 by omega) (.int .i64 qa) (.pointer qP)) (show w.heap.size ≤ w.heap.size + 3 by omega) (.int .i64 ra) (.pointer rP)) 1)
      clear hr8
      go_region
      all_goals
        go_wp2_with fail
        exact bodyPost_ret (v := .tuple #[.agg #[.int .i64 qa, .pointer qP], .agg #[.int .i64 ra, .pointer rP], .int .i64 0]) (by simp [results, Tryd.results38, go_sem, i0, i1, j0, j1]) rfl ⟨qa, qP, ra, rP, _, _, rfl, J1.out, J2.out, Hdm.out, K8.out⟩
  · have hn20 : 0 < n2 := by omega
    obtain rfl : sb = true := by cases sb <;> simp_all
    clear hkeep
    have Hdm := Lib.hid (show DM z k (signZ true (z.natAbs / k.natAbs) - 1) (signZ bz (z.natAbs % k.natAbs) + k) by
      have hb : (decide (z < 0) != decide (k < 0)) = true := by rw [Hbz.out, Hbk.out]; exact Hsb.out
      have := dm_turn (z := z) (k := k) rfl rfl Hk0.out (fun h0 => by have := Hn2.out.2 h0; omega) hb
      rw [hb, Hbz.out] at this
      exact this)
    have Lq := Lib.hid (show (signZ true (z.natAbs / k.natAbs)).natAbs < base 400 by
      rw [signZ_abs]; exact Nat.lt_of_le_of_lt (Nat.div_le_self _ _) (base_up Hlz.out (by decide)))
    have Lr := Lib.hid (show (signZ bz (z.natAbs % k.natAbs)).natAbs < base 400 by
      rw [signZ_abs]; exact Nat.lt_of_le_of_lt (Nat.mod_le _ _) (base_up Hlz.out (by decide)))
    have Hsub := Lib.hid (fun v (hb : Below w7.heap.size w7 v) => sub_any qa 1 qP none _ 1 v (I1.out.keep hb) (.inl ⟨⟨by decide, by decide⟩, rfl⟩) Lq.out (by decide +kernel))
    have Hadd := Lib.hid (fun v (hb : Below w7.heap.size w7 v) => add_any ra b rP (some ⟨p, 0, none⟩) _ k v (I2.out.keep hb) (VB7.out.int.keep hb) Lr.out (base_up Hlk.out (by decide)))
    have HS := Lib.hid (fun v (hb : Below w7.heap.size w7 v) => div_held HQ7.out HR7.out VB7.out hb)
    obtain ⟨zq, hzq⟩ : ∃ zq, signZ true (z.natAbs / k.natAbs) = zq := ⟨_, rfl⟩
    obtain ⟨zr, hzr⟩ : ∃ zr, signZ bz (z.natAbs % k.natAbs) = zr := ⟨_, rfl⟩
    rw [hzq] at Hdm Hsub
    rw [hzr] at Hdm Hadd
    clear hzq hzr
    go_wp2_with fail
    clear f0 f1 g0 g1 i0 i1 j0 j1 hw7
    refine Till.begin 6 (fun v => v.cell? ⟨w.heap.size + 2, 0, none⟩ = some (.int .i64 qa) ∧ v.cell? ⟨w.heap.size + 2, 1, none⟩ = some (.pointer qP) ∧ v.cell? ⟨w.heap.size + 3, 0, none⟩ = some (.int .i64 ra) ∧ v.cell? ⟨w.heap.size + 3, 1, none⟩ = some (.pointer rP) ∧ v.cell? ⟨w.heap.size + 1, 0, none⟩ = some (.int .i64 b) ∧ v.cell? ⟨w.heap.size + 1, 1, none⟩ = some (.pointer (some ⟨p, 0, none⟩))) (by kernel_rfl) (HS.out _ (below_drewN (Below.refl _ _) 1)) (fun hH => ?_)
    refine Till.take (i := 0) (m := 2) (d := some 95) (u := .agg #[.int .i64 qa, .pointer qP]) rfl rfl (by kernel_rfl) (by kernel_rfl) (by kernel_rfl) (by kernel_rfl) (by kernel_rfl) (by kernel_rfl) (by kernel_rfl) (fun _ _ _ h => h) (by kernel_rfl) (by (intro w hSw; (try dsimp only at hSw); go_split_ands; go_simp)) hH ?_
    try simp only [Act.put, List.setIfInBounds_toArray, List.set_cons_zero, List.set_cons_succ]
    refine Till.take (i := 3) (m := 5) (d := some 98) (u := .agg #[.int .i64 ra, .pointer rP]) rfl rfl (by kernel_rfl) (by kernel_rfl) (by kernel_rfl) (by kernel_rfl) (by kernel_rfl) (by kernel_rfl) (by kernel_rfl) (fun _ _ _ h => h) (by kernel_rfl) (by (intro w hSw; (try dsimp only at hSw); go_split_ands; go_simp)) hH ?_
    try simp only [Act.put, List.setIfInBounds_toArray, List.set_cons_zero, List.set_cons_succ]
    refine Till.take (i := 4) (m := 5) (d := some 99) (u := .agg #[.int .i64 b, .pointer (some ⟨p, 0, none⟩)]) rfl rfl (by kernel_rfl) (by kernel_rfl) (by kernel_rfl) (by kernel_rfl) (by kernel_rfl) (by kernel_rfl) (by kernel_rfl) (fun _ _ _ h => h) (by kernel_rfl) (by (intro w hSw; (try dsimp only at hSw); go_split_ands; go_simp)) hH ?_
    try simp only [Act.put, List.setIfInBounds_toArray, List.set_cons_zero, List.set_cons_succ]
    clear hH
    refine Till.one (i := 1) (by kernel_rfl) rfl (fun K hK => ?_)
    go_simp
    refine (from_any 1 _).mono ?_
    rintro e v1 ⟨rfl, g1⟩
    have B1 := Lib.hid (below_on (below_drewN (Below.refl w7.heap.size w7) 1) g1)
    clear g1
    go_wp2_with fail
    refine hK.out _ _ (fun _ => HS.out _ B1.out) ?_
    clear hK K
    try simp only [Act.put, List.setIfInBounds_toArray, List.set_cons_zero, List.set_cons_succ]
    refine Till.one (i := 2) (by kernel_rfl) rfl (fun K hK => ?_)
    go_simp
    refine (Hsub.out _ B1.out).mono ?_
    rintro e v2 ⟨sa, sP, rfl, hs, g2⟩
    have B2 := Lib.hid (below_on B1.out g2)
    have Hs2' := Lib.hid hs
    clear g2 hs
    go_wp2_with fail
    refine hK.out _ _ (fun _ => HS.out _ B2.out) ?_
    clear hK K
    try simp only [Act.put, List.setIfInBounds_toArray, List.set_cons_zero, List.set_cons_succ]
    refine Till.one (i := 5) (by kernel_rfl) rfl (fun K hK => ?_)
    go_simp
    refine (Hadd.out _ B2.out).mono ?_
    rintro e v3 ⟨ta, tP, rfl, ht, g3⟩
    have B3 := Lib.hid (below_on B2.out g3)
    have Hs3 := Lib.hid (Hs2'.out.keep g3)
    have Ht3 := Lib.hid ht
    clear g3 ht
    go_wp2_with fail
    refine hK.out _ _ (fun _ => HS.out _ B3.out) ?_
    clear hK K
    try simp only [Act.put, List.setIfInBounds_toArray, List.set_cons_zero, List.set_cons_succ]
    have HQ8 := Lib.hid (HQ7.out.keep B3.out)
    have HR8 := Lib.hid (HR7.out.keep B3.out)
    have f0 := HQ8.out.f0
    have f1 := HQ8.out.f1
    have g0 := HR8.out.f0
    have g1 := HR8.out.f1
    have i0 := HQ8.out.c0
    have i1 := HQ8.out.c1
    have j0 := HR8.out.c0
    have j1 := HR8.out.c1
    refine Till.one (i := 6) (by kernel_rfl) rfl (fun K hK => ?_)
    go_simp
    refine hK.out _ _ (fun h => absurd h (by simp)) ?_
    clear hK K
    try simp only [Act.put, List.setIfInBounds_toArray, List.set_cons_zero, List.set_cons_succ]
    refine Till.one (i := 7) (by kernel_rfl) rfl (fun K hK => ?_)
    go_simp
    refine hK.out _ _ (fun h => absurd h (by simp)) ?_
    clear hK K
    try simp only [Act.put, List.setIfInBounds_toArray, List.set_cons_zero, List.set_cons_succ]
    refine Till.done (by kernel_rfl) ?_ _
    have hr9 := HR8.out.other (p := w.heap.size + 2) (by omega) (.int .i64 sa) (.pointer sP)
    have hq9 := HQ8.out.store sa sP
    obtain ⟨w9, hw9⟩ : ∃ w9, ((((v3.setCell ⟨w.heap.size + 1 + 1, 0, none⟩ (.int .i64 sa)).setCell ⟨w.heap.size + 1 + 1, 1, none⟩ (.pointer sP)).setCell ⟨w.heap.size + 1 + 1 + 1, 0, none⟩ (.int .i64 ta)).setCell ⟨w.heap.size + 1 + 1 + 1, 1, none⟩ (.pointer tP)) = w9 := ⟨_, rfl⟩
    rw [hw9]
    have HQ9 := Lib.hid (show Hold w9 (w.heap.size + 2) sa sP by rw [← hw9]; exact hq9.other (by omega) _ _)
    have HR9 := Lib.hid (show Hold w9 (w.heap.size + 3) ta tP by rw [← hw9]; exact hr9.store ta tP)
    have I3 := Lib.hid (show IsInt 0 w9 (.agg #[.int .i64 sa, .pointer sP]) (zq - 1) by rw [← hw9]; exact (Hs3.out.held HQ8.out _ _).held hr9 _ _)
    have I4 := Lib.hid (show IsInt 0 w9 (.agg #[.int .i64 ta, .pointer tP]) (zr + k) by rw [← hw9]; exact (Ht3.out.held HQ8.out _ _).held hr9 _ _)
    have K9 := Lib.hid (show Below w.heap.size w w9 by rw [← hw9]; exact below_stored (below_stored (below_on K7.out B3.out) (by omega) _ _) (by omega) _ _)
    clear hr9 hq9 f0 f1 g0 g1 i0 i1 j0 j1
    go_wp2_with fail
    clear hw9
    have f0 := HQ9.out.f0
    have f1 := HQ9.out.f1
    have g0 := HR9.out.f0
    have g1 := HR9.out.f1
    have i0 := HQ9.out.c0
    have i1 := HQ9.out.c1
    have j0 := HR9.out.c0
    have j1 := HR9.out.c1
    have hr8 := HR9.out.other (p := w.heap.size + 2) (by omega) (.int .i64 sa) (.pointer sP)
    have J1 := Lib.hid (((I3.out.held HQ9.out (.int .i64 sa) (.pointer sP)).held hr8 (.int .i64 ta) (.pointer tP)).keep (below_drewN (Below.refl _ _) 1))
    have J2 := Lib.hid (((I4.out.held HQ9.out (.int .i64 sa) (.pointer sP)).held hr8 (.int .i64 ta) (.pointer tP)).keep (below_drewN (Below.refl _ _) 1))
    have K8 := Lib.hid (below_drewN (below_stored (below_stored K9.out (show w.heap.size ≤ w.heap.size + 2 by omega) (.int .i64 sa) (.pointer sP)) (show w.heap.size ≤ w.heap.size + 3 by omega) (.int .i64 ta) (.pointer tP)) 1)
    clear hr8
    go_region
    all_goals
      go_wp2_with fail
      exact bodyPost_ret (v := .tuple #[.agg #[.int .i64 sa, .pointer sP], .agg #[.int .i64 ta, .pointer tP], .int .i64 0]) (by simp [results, Tryd.results38, go_sem, i0, i1, j0, j1]) rfl ⟨sa, sP, ta, tP, _, _, rfl, J1.out, J2.out, Hdm.out, K8.out⟩
end Go.Proofs.YtegndbiglehacaaDoor
