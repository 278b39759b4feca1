/- Rationals: quotients. -/
import Derived.Test.YtjcblcikipmojaaGreatDoorRatS
namespace Go.Proofs.YtjcblcikipmojaaGreatDoor
open Go.RowKit

theorem rinv_pos {q : Rat} (h : 0 < q.num) : (q⁻¹).num = (q.den : Int) ∧ (((q⁻¹).den : Nat) : Int) = q.num := by
  have e : q⁻¹ = Rat.inv q := rfl
  rw [e]; unfold Rat.inv
  rw [dif_neg (show ¬ q.num < 0 by omega), dif_pos (show q.num > 0 by omega)]
  exact ⟨rfl, by show ((q.num.natAbs : Nat) : Int) = q.num; omega⟩
theorem rinv_neg {q : Rat} (h : q.num < 0) : (q⁻¹).num = -(q.den : Int) ∧ (((q⁻¹).den : Nat) : Int) = -q.num := by
  have e : q⁻¹ = Rat.inv q := rfl
  rw [e]; unfold Rat.inv
  rw [dif_pos h]
  exact ⟨rfl, by show ((q.num.natAbs : Nat) : Int) = -q.num; omega⟩
/-- What Div returns. -/
def DivRPost (p q : Rat) (w : World) (e : Ending) (w' : World) : Prop := (q.num ≠ 0 → Made (p / q) w e w') ∧ (q.num = 0 → e = .returned (.tuple #[.agg #[.int .i64 0, .pointer none, .int .i64 0, .pointer none], .int .i64 19]) ∧ Below w.heap.size w w')
set_option maxRecDepth 100000 in
set_option maxHeartbeats 16000000 in
theorem rdiv_any (a : Int) (P : Option Addr) (b : Int) (Q : Option Addr) (c : Int) (U : Option Addr) (d : Int) (V : Option Addr) (p q : Rat) (w : World) (h : RatV w a P b Q p) (h' : RatV w c U d V q) (hpn : p.num.natAbs < base 47) (hpd : p.den < base 47) (hqn : q.num.natAbs < base 47) (hqd : q.den < base 47) (hg : Good w) :
    Calls Tryz.prog 45 #[.agg #[.int .i64 a, .pointer P, .int .i64 b, .pointer Q], .agg #[.int .i64 c, .pointer U, .int .i64 d, .pointer V]] w (DivRPost p q w) := by
  have kk := (((Below.refl w.heap.size w).alloc (Nat.le_refl _) (.cells #[.int .i64 a, .pointer P, .int .i64 b, .pointer Q] 27)).alloc (by simp) (.cells #[.int .i64 c, .pointer U, .int .i64 d, .pointer V] 27)).alloc (by simp; omega) (.cells #[.int .i64 0, .pointer none, .int .i64 0, .pointer none] 27)
  have V0 := Lib.hid (((box_rat w a P b Q).keep ((Below.refl _ _).alloc (Nat.le_refl _) (.cells #[.int .i64 c, .pointer U, .int .i64 d, .pointer V] 27))).keep ((Below.refl _ _).alloc (Nat.le_refl _) (.cells #[.int .i64 0, .pointer none, .int .i64 0, .pointer none] 27)))
  have V1 := Lib.hid ((box_rat (w.alloc (.cells #[.int .i64 a, .pointer P, .int .i64 b, .pointer Q] 27)) c U d V).keep ((Below.refl _ _).alloc (Nat.le_refl _) (.cells #[.int .i64 0, .pointer none, .int .i64 0, .pointer none] 27)))
  have R := Lib.hid (Cells.new ((w.alloc (.cells #[.int .i64 a, .pointer P, .int .i64 b, .pointer Q] 27)).alloc (.cells #[.int .i64 c, .pointer U, .int .i64 d, .pointer V] 27)) #[.int .i64 0, .pointer none, .int .i64 0, .pointer none] 27)
  simp only [World.size_alloc] at V1 R
  have HP := Lib.hid (fun w' (hb : Below w.heap.size w w') => h.keep hb)
  have HQ := Lib.hid (fun w' (hb : Below w.heap.size w w') => h'.keep hb)
  have Hw := Lib.hid (fun w' (hb : Below w.heap.size w w') => hg.below hb)
  have Kk := Lib.hid kk
  have Bd := Lib.hid (And.intro hpn (And.intro hpd (And.intro hqn hqd)))
  obtain ⟨wm, hwm⟩ : ∃ u, ((w.alloc (.cells #[.int .i64 a, .pointer P, .int .i64 b, .pointer Q] 27)).alloc (.cells #[.int .i64 c, .pointer U, .int .i64 d, .pointer V] 27)).alloc (.cells #[.int .i64 0, .pointer none, .int .i64 0, .pointer none] 27) = u := ⟨_, rfl⟩
  rw [hwm] at V0 V1 R Kk
  clear h h' kk hpn hpd hqn hqd hg
  have HS := Lib.hid (fun w' (hb : Below wm.heap.size wm w') => (⟨(V1.out.keep hb).c0, (V1.out.keep hb).c1, (V1.out.keep hb).c2, (V1.out.keep hb).c3⟩ : w'.cell? ⟨w.heap.size + 1, 0, none⟩ = some (.int .i64 c) ∧ w'.cell? ⟨w.heap.size + 1, 1, none⟩ = some (.pointer U) ∧ w'.cell? ⟨w.heap.size + 1, 2, none⟩ = some (.int .i64 d) ∧ w'.cell? ⟨w.heap.size + 1, 3, none⟩ = some (.pointer V)))
  have HD := Lib.hid (fun v (hb : Below wm.heap.size wm v) => den_any c U d V q v (HQ.out v (below_on Kk.out hb)))
  go_enter Tryz.func45, Tryz.ntmps45
  go_upto_region 1 with fail
  try simp only [hwm]
  clear hwm
  go_cut [6, 7] (fun s s' wx => ∃ (p6 : Nat) (x : Int) (X : Option Addr) (p7 : Nat), s = .pointer (some ⟨p6, 0, none⟩) ∧ s' = .pointer (some ⟨p7, 0, none⟩) ∧ Var wx p6 x X (q.den : Int) ∧ Var wx p7 c U q.num ∧ Hold wx p6 x X ∧ Hold wx p7 c U ∧ p6 ≠ p7 ∧ wm.heap.size ≤ p6 ∧ wm.heap.size ≤ p7 ∧ Below wm.heap.size wm wx)
  case first =>
    refine Till.begin 7 (fun w' => w'.cell? ⟨w.heap.size + 1, 0, none⟩ = some (.int .i64 c) ∧ w'.cell? ⟨w.heap.size + 1, 1, none⟩ = some (.pointer U) ∧ w'.cell? ⟨w.heap.size + 1, 2, none⟩ = some (.int .i64 d) ∧ w'.cell? ⟨w.heap.size + 1, 3, none⟩ = some (.pointer V)) (by kernel_rfl) (HS.out _ (Below.refl _ _).drew) (fun hH => ?_)
    refine Till.take (i := 0) (m := 1) (d := some 8) (u := .agg #[.int .i64 c, .pointer U, .int .i64 d, .pointer V]) rfl rfl (by kernel_rfl) (by kernel_rfl) (by kernel_rfl) (by kernel_rfl) (by kernel_rfl) (by kernel_rfl) (by kernel_rfl) (fun _ _ _ h => h) (by kernel_rfl) (by (intro w hSw; (try dsimp only at hSw); go_split_ands; go_simp)) hH ?_
    try simp only [Act.put, List.setIfInBounds_toArray, List.set_cons_zero, List.set_cons_succ]
    refine Till.take (i := 2) (m := 3) (d := some 10) (u := .pointer (some ⟨w.heap.size + 1, 0, none⟩)) rfl rfl (by kernel_rfl) (by kernel_rfl) (by kernel_rfl) (by kernel_rfl) (by kernel_rfl) (by kernel_rfl) (by kernel_rfl) (fun _ _ _ h => h) (by kernel_rfl) (by (intro w hSw; (try dsimp only at hSw); go_split_ands; go_simp)) hH ?_
    try simp only [Act.put, List.setIfInBounds_toArray, List.set_cons_zero, List.set_cons_succ]
    refine Till.take (i := 3) (m := 7) (d := some 11) (u := .agg #[.int .i64 c, .pointer U]) rfl rfl (by kernel_rfl) (by kernel_rfl) (by kernel_rfl) (by kernel_rfl) (by kernel_rfl) (by kernel_rfl) (by kernel_rfl) (fun _ _ _ h => h) (by kernel_rfl) (by (intro w hSw; (try dsimp only at hSw); go_split_ands; go_simp)) hH ?_
    try simp only [Act.put, List.setIfInBounds_toArray, List.set_cons_zero, List.set_cons_succ]
    clear hH
    have B0 := Lib.hid (Below.refl wm.heap.size wm).drew
    have Iq := Lib.hid (HQ.out _ (below_on Kk.out B0.out)).num
    generalize wm.drew = v0 at B0 Iq ⊢
    refine Till.three (i := 1) (j := 4) (g := 5) (by kernel_rfl) rfl rfl rfl (fun K hK => ?_) (fun K hK => ?_) (fun K hK => ?_)
    · go_simp
      refine (HD.out _ B0.out).mono ?_
      rintro e v1 ⟨x1, X1, rfl, hx1, g1⟩
      have B1 := Lib.hid (below_on B0.out g1)
      have I1x1 := Lib.hid hx1
      have I3x1 := Lib.hid (Iq.out.keep g1)
      clear g1 hx1
      go_wp2_with fail
      refine hK.out _ _ (fun _ => HS.out _ B1.out) ?_
      clear hK K
      try simp only [Act.put, List.setIfInBounds_toArray, List.set_cons_zero, List.set_cons_succ]
      refine Till.two (i := 4) (j := 5) (by kernel_rfl) rfl rfl (fun K hK => ?_) (fun K hK => ?_)
      · go_simp
        refine hK.out _ _ (fun _ => HS.out _ (below_on B1.out ((Below.refl _ _).alloc (Nat.le_refl _) _))) ?_
        clear hK K
        try simp only [Act.put, List.setIfInBounds_toArray, List.set_cons_zero, List.set_cons_succ]
        have g2 := (Below.refl v1.heap.size v1).alloc (Nat.le_refl _) (.cells #[.int .i64 0, .pointer none] 25)
        have B2 := Lib.hid (below_on B1.out g2)
        have NAx2 := Lib.hid (Hold.new v1 0 none)
        have le2 : wm.heap.size ≤ v1.heap.size := B1.out.size
        have I3x2 := Lib.hid (I3x1.out.keep g2)
        have I1x2 := Lib.hid (I1x1.out.keep g2)
        obtain ⟨p2, hp2⟩ : ∃ p, v1.heap.size = p := ⟨_, rfl⟩
        obtain ⟨v2, hv2⟩ : ∃ u, v1.alloc (.cells #[.int .i64 0, .pointer none] 25) = u := ⟨_, rfl⟩
        rw [hv2] at B2 I3x2 I1x2 NAx2
        rw [hp2] at NAx2 le2
        try simp only [hp2, hv2]
        clear g2 hp2 hv2
        refine Till.one (i := 5) (by kernel_rfl) rfl (fun K hK => ?_)
        go_simp
        refine hK.out _ _ (fun _ => HS.out _ (below_on B2.out ((Below.refl _ _).alloc (Nat.le_refl _) _))) ?_
        clear hK K
        try simp only [Act.put, List.setIfInBounds_toArray, List.set_cons_zero, List.set_cons_succ]
        have g3 := (Below.refl v2.heap.size v2).alloc (Nat.le_refl _) (.cells #[.int .i64 0, .pointer none] 25)
        have B3 := Lib.hid (below_on B2.out g3)
        have NBx3 := Lib.hid (Hold.new v2 0 none)
        have le3 : wm.heap.size ≤ v2.heap.size := B2.out.size
        have lt3 : p2 < v2.heap.size := NAx2.out.lt
        have I3x3 := Lib.hid (I3x2.out.keep g3)
        have I1x3 := Lib.hid (I1x2.out.keep g3)
        have NAx3 := Lib.hid (NAx2.out.keep g3)
        obtain ⟨p3, hp3⟩ : ∃ p, v2.heap.size = p := ⟨_, rfl⟩
        obtain ⟨v3, hv3⟩ : ∃ u, v2.alloc (.cells #[.int .i64 0, .pointer none] 25) = u := ⟨_, rfl⟩
        rw [hv3] at B3 I3x3 I1x3 NAx3 NBx3
        rw [hp3] at NBx3 le3 lt3
        try simp only [hp3, hv3]
        clear g3 hp3 hv3
        have kA0 := NAx3.out.c0
        have kA1 := NAx3.out.c1
        have fA0 := NAx3.out.f0
        have fA1 := NAx3.out.f1
        have kB0 := NBx3.out.c0
        have kB1 := NBx3.out.c1
        have fB0 := NBx3.out.f0
        have fB1 := NBx3.out.f1
        have nelt3 : p2 ≠ p3 := Nat.ne_of_lt lt3
        have nelt3s : p3 ≠ p2 := Ne.symm nelt3
        refine Till.one (i := 6) (by kernel_rfl) rfl (fun K hK => ?_)
        go_simp
        refine hK.out _ _ (fun _ => HS.out _ (below_stored B3.out le2 (.int .i64 x1) (.pointer X1))) ?_
        clear hK K
        try simp only [Act.put, List.setIfInBounds_toArray, List.set_cons_zero, List.set_cons_succ]
        refine Till.one (i := 7) (by kernel_rfl) rfl (fun K hK => ?_)
        go_simp
        refine hK.out _ _ (fun h => absurd h (by simp)) ?_
        clear hK K
        try simp only [Act.put, List.setIfInBounds_toArray, List.set_cons_zero, List.set_cons_succ]
        refine Till.done (by kernel_rfl) ?_ _
        go_wp2_with fail
        go_meet
        exact ⟨p2, x1, X1, p3, rfl, rfl, (var_put NAx3.out I1x3.out).held (NBx3.out.other nelt3s (.int .i64 x1) (.pointer X1)) nelt3 (.int .i64 c) (.pointer U), var_put (NBx3.out.other nelt3s (.int .i64 x1) (.pointer X1)) (I3x3.out.held NAx3.out _ _), (NAx3.out.store x1 X1).other nelt3 (.int .i64 c) (.pointer U), (NBx3.out.other nelt3s (.int .i64 x1) (.pointer X1)).store c U, nelt3, le2, le3, below_stored (below_stored B3.out le2 (.int .i64 x1) (.pointer X1)) le3 (.int .i64 c) (.pointer U)⟩
      · go_simp
        refine hK.out _ _ (fun _ => HS.out _ (below_on B1.out ((Below.refl _ _).alloc (Nat.le_refl _) _))) ?_
        clear hK K
        try simp only [Act.put, List.setIfInBounds_toArray, List.set_cons_zero, List.set_cons_succ]
        have g4 := (Below.refl v1.heap.size v1).alloc (Nat.le_refl _) (.cells #[.int .i64 0, .pointer none] 25)
        have B4 := Lib.hid (below_on B1.out g4)
        have NBx4 := Lib.hid (Hold.new v1 0 none)
        have le4 : wm.heap.size ≤ v1.heap.size := B1.out.size
        have I3x4 := Lib.hid (I3x1.out.keep g4)
        have I1x4 := Lib.hid (I1x1.out.keep g4)
        obtain ⟨p4, hp4⟩ : ∃ p, v1.heap.size = p := ⟨_, rfl⟩
        obtain ⟨v4, hv4⟩ : ∃ u, v1.alloc (.cells #[.int .i64 0, .pointer none] 25) = u := ⟨_, rfl⟩
        rw [hv4] at B4 I3x4 I1x4 NBx4
        rw [hp4] at NBx4 le4
        try simp only [hp4, hv4]
        clear g4 hp4 hv4
        refine Till.one (i := 4) (by kernel_rfl) rfl (fun K hK => ?_)
        go_simp
        refine hK.out _ _ (fun _ => HS.out _ (below_on B4.out ((Below.refl _ _).alloc (Nat.le_refl _) _))) ?_
        clear hK K
        try simp only [Act.put, List.setIfInBounds_toArray, List.set_cons_zero, List.set_cons_succ]
        have g5 := (Below.refl v4.heap.size v4).alloc (Nat.le_refl _) (.cells #[.int .i64 0, .pointer none] 25)
        have B5 := Lib.hid (below_on B4.out g5)
        have NAx5 := Lib.hid (Hold.new v4 0 none)
        have le5 : wm.heap.size ≤ v4.heap.size := B4.out.size
        have lt5 : p4 < v4.heap.size := NBx4.out.lt
        have I3x5 := Lib.hid (I3x4.out.keep g5)
        have I1x5 := Lib.hid (I1x4.out.keep g5)
        have NBx5 := Lib.hid (NBx4.out.keep g5)
        obtain ⟨p5, hp5⟩ : ∃ p, v4.heap.size = p := ⟨_, rfl⟩
        obtain ⟨v5, hv5⟩ : ∃ u, v4.alloc (.cells #[.int .i64 0, .pointer none] 25) = u := ⟨_, rfl⟩
        rw [hv5] at B5 I3x5 I1x5 NBx5 NAx5
        rw [hp5] at NAx5 le5 lt5
        try simp only [hp5, hv5]
        clear g5 hp5 hv5
        have kA0 := NAx5.out.c0
        have kA1 := NAx5.out.c1
        have fA0 := NAx5.out.f0
        have fA1 := NAx5.out.f1
        have kB0 := NBx5.out.c0
        have kB1 := NBx5.out.c1
        have fB0 := NBx5.out.f0
        have fB1 := NBx5.out.f1
        have nelt5 : p4 ≠ p5 := Nat.ne_of_lt lt5
        have nelt5s : p5 ≠ p4 := Ne.symm nelt5
        refine Till.one (i := 6) (by kernel_rfl) rfl (fun K hK => ?_)
        go_simp
        refine hK.out _ _ (fun _ => HS.out _ (below_stored B5.out le5 (.int .i64 x1) (.pointer X1))) ?_
        clear hK K
        try simp only [Act.put, List.setIfInBounds_toArray, List.set_cons_zero, List.set_cons_succ]
        refine Till.one (i := 7) (by kernel_rfl) rfl (fun K hK => ?_)
        go_simp
        refine hK.out _ _ (fun h => absurd h (by simp)) ?_
        clear hK K
        try simp only [Act.put, List.setIfInBounds_toArray, List.set_cons_zero, List.set_cons_succ]
        refine Till.done (by kernel_rfl) ?_ _
        go_wp2_with fail
        go_meet
        exact ⟨p5, x1, X1, p4, rfl, rfl, (var_put NAx5.out I1x5.out).held (NBx5.out.other nelt5 (.int .i64 x1) (.pointer X1)) nelt5s (.int .i64 c) (.pointer U), var_put (NBx5.out.other nelt5 (.int .i64 x1) (.pointer X1)) (I3x5.out.held NAx5.out _ _), (NAx5.out.store x1 X1).other nelt5s (.int .i64 c) (.pointer U), (NBx5.out.other nelt5 (.int .i64 x1) (.pointer X1)).store c U, nelt5s, le5, le4, below_stored (below_stored B5.out le5 (.int .i64 x1) (.pointer X1)) le4 (.int .i64 c) (.pointer U)⟩
    · go_simp
      refine hK.out _ _ (fun _ => HS.out _ (below_on B0.out ((Below.refl _ _).alloc (Nat.le_refl _) _))) ?_
      clear hK K
      try simp only [Act.put, List.setIfInBounds_toArray, List.set_cons_zero, List.set_cons_succ]
      have g6 := (Below.refl v0.heap.size v0).alloc (Nat.le_refl _) (.cells #[.int .i64 0, .pointer none] 25)
      have B6 := Lib.hid (below_on B0.out g6)
      have NAx6 := Lib.hid (Hold.new v0 0 none)
      have le6 : wm.heap.size ≤ v0.heap.size := B0.out.size
      have I3x6 := Lib.hid (Iq.out.keep g6)
      obtain ⟨p6, hp6⟩ : ∃ p, v0.heap.size = p := ⟨_, rfl⟩
      obtain ⟨v6, hv6⟩ : ∃ u, v0.alloc (.cells #[.int .i64 0, .pointer none] 25) = u := ⟨_, rfl⟩
      rw [hv6] at B6 I3x6 NAx6
      rw [hp6] at NAx6 le6
      try simp only [hp6, hv6]
      clear g6 hp6 hv6
      refine Till.two (i := 1) (j := 5) (by kernel_rfl) rfl rfl (fun K hK => ?_) (fun K hK => ?_)
      · go_simp
        refine (HD.out _ B6.out).mono ?_
        rintro e v7 ⟨x7, X7, rfl, hx7, g7⟩
        have B7 := Lib.hid (below_on B6.out g7)
        have I1x7 := Lib.hid hx7
        have I3x7 := Lib.hid (I3x6.out.keep g7)
        have NAx7 := Lib.hid (NAx6.out.keep g7)
        clear g7 hx7
        go_wp2_with fail
        refine hK.out _ _ (fun _ => HS.out _ B7.out) ?_
        clear hK K
        try simp only [Act.put, List.setIfInBounds_toArray, List.set_cons_zero, List.set_cons_succ]
        refine Till.one (i := 5) (by kernel_rfl) rfl (fun K hK => ?_)
        go_simp
        refine hK.out _ _ (fun _ => HS.out _ (below_on B7.out ((Below.refl _ _).alloc (Nat.le_refl _) _))) ?_
        clear hK K
        try simp only [Act.put, List.setIfInBounds_toArray, List.set_cons_zero, List.set_cons_succ]
        have g8 := (Below.refl v7.heap.size v7).alloc (Nat.le_refl _) (.cells #[.int .i64 0, .pointer none] 25)
        have B8 := Lib.hid (below_on B7.out g8)
        have NBx8 := Lib.hid (Hold.new v7 0 none)
        have le8 : wm.heap.size ≤ v7.heap.size := B7.out.size
        have lt8 : p6 < v7.heap.size := NAx7.out.lt
        have I3x8 := Lib.hid (I3x7.out.keep g8)
        have I1x8 := Lib.hid (I1x7.out.keep g8)
        have NAx8 := Lib.hid (NAx7.out.keep g8)
        obtain ⟨p8, hp8⟩ : ∃ p, v7.heap.size = p := ⟨_, rfl⟩
        obtain ⟨v8, hv8⟩ : ∃ u, v7.alloc (.cells #[.int .i64 0, .pointer none] 25) = u := ⟨_, rfl⟩
        rw [hv8] at B8 I3x8 I1x8 NAx8 NBx8
        rw [hp8] at NBx8 le8 lt8
        try simp only [hp8, hv8]
        clear g8 hp8 hv8
        have kA0 := NAx8.out.c0
        have kA1 := NAx8.out.c1
        have fA0 := NAx8.out.f0
        have fA1 := NAx8.out.f1
        have kB0 := NBx8.out.c0
        have kB1 := NBx8.out.c1
        have fB0 := NBx8.out.f0
        have fB1 := NBx8.out.f1
        have nelt8 : p6 ≠ p8 := Nat.ne_of_lt lt8
        have nelt8s : p8 ≠ p6 := Ne.symm nelt8
        refine Till.one (i := 6) (by kernel_rfl) rfl (fun K hK => ?_)
        go_simp
        refine hK.out _ _ (fun _ => HS.out _ (below_stored B8.out le6 (.int .i64 x7) (.pointer X7))) ?_
        clear hK K
        try simp only [Act.put, List.setIfInBounds_toArray, List.set_cons_zero, List.set_cons_succ]
        refine Till.one (i := 7) (by kernel_rfl) rfl (fun K hK => ?_)
        go_simp
        refine hK.out _ _ (fun h => absurd h (by simp)) ?_
        clear hK K
        try simp only [Act.put, List.setIfInBounds_toArray, List.set_cons_zero, List.set_cons_succ]
        refine Till.done (by kernel_rfl) ?_ _
        go_wp2_with fail
        go_meet
        exact ⟨p6, x7, X7, p8, rfl, rfl, (var_put NAx8.out I1x8.out).held (NBx8.out.other nelt8s (.int .i64 x7) (.pointer X7)) nelt8 (.int .i64 c) (.pointer U), var_put (NBx8.out.other nelt8s (.int .i64 x7) (.pointer X7)) (I3x8.out.held NAx8.out _ _), (NAx8.out.store x7 X7).other nelt8 (.int .i64 c) (.pointer U), (NBx8.out.other nelt8s (.int .i64 x7) (.pointer X7)).store c U, nelt8, le6, le8, below_stored (below_stored B8.out le6 (.int .i64 x7) (.pointer X7)) le8 (.int .i64 c) (.pointer U)⟩
      · go_simp
        refine hK.out _ _ (fun _ => HS.out _ (below_on B6.out ((Below.refl _ _).alloc (Nat.le_refl _) _))) ?_
        clear hK K
        try simp only [Act.put, List.setIfInBounds_toArray, List.set_cons_zero, List.set_cons_succ]
        have g9 := (Below.refl v6.heap.size v6).alloc (Nat.le_refl _) (.cells #[.int .i64 0, .pointer none] 25)
        have B9 := Lib.hid (below_on B6.out g9)
        have NBx9 := Lib.hid (Hold.new v6 0 none)
        have le9 : wm.heap.size ≤ v6.heap.size := B6.out.size
        have lt9 : p6 < v6.heap.size := NAx6.out.lt
        have I3x9 := Lib.hid (I3x6.out.keep g9)
        have NAx9 := Lib.hid (NAx6.out.keep g9)
        obtain ⟨p9, hp9⟩ : ∃ p, v6.heap.size = p := ⟨_, rfl⟩
        obtain ⟨v9, hv9⟩ : ∃ u, v6.alloc (.cells #[.int .i64 0, .pointer none] 25) = u := ⟨_, rfl⟩
        rw [hv9] at B9 I3x9 NAx9 NBx9
        rw [hp9] at NBx9 le9 lt9
        try simp only [hp9, hv9]
        clear g9 hp9 hv9
        refine Till.one (i := 1) (by kernel_rfl) rfl (fun K hK => ?_)
        go_simp
        refine (HD.out _ B9.out).mono ?_
        rintro e v10 ⟨x10, X10, rfl, hx10, g10⟩
        have B10 := Lib.hid (below_on B9.out g10)
        have I1x10 := Lib.hid hx10
        have I3x10 := Lib.hid (I3x9.out.keep g10)
        have NAx10 := Lib.hid (NAx9.out.keep g10)
        have NBx10 := Lib.hid (NBx9.out.keep g10)
        clear g10 hx10
        go_wp2_with fail
        refine hK.out _ _ (fun _ => HS.out _ B10.out) ?_
        clear hK K
        try simp only [Act.put, List.setIfInBounds_toArray, List.set_cons_zero, List.set_cons_succ]
        have kA0 := NAx10.out.c0
        have kA1 := NAx10.out.c1
        have fA0 := NAx10.out.f0
        have fA1 := NAx10.out.f1
        have kB0 := NBx10.out.c0
        have kB1 := NBx10.out.c1
        have fB0 := NBx10.out.f0
        have fB1 := NBx10.out.f1
        have nelt9 : p6 ≠ p9 := Nat.ne_of_lt lt9
        have nelt9s : p9 ≠ p6 := Ne.symm nelt9
        refine Till.one (i := 6) (by kernel_rfl) rfl (fun K hK => ?_)
        go_simp
        refine hK.out _ _ (fun _ => HS.out _ (below_stored B10.out le6 (.int .i64 x10) (.pointer X10))) ?_
        clear hK K
        try simp only [Act.put, List.setIfInBounds_toArray, List.set_cons_zero, List.set_cons_succ]
        refine Till.one (i := 7) (by kernel_rfl) rfl (fun K hK => ?_)
        go_simp
        refine hK.out _ _ (fun h => absurd h (by simp)) ?_
        clear hK K
        try simp only [Act.put, List.setIfInBounds_toArray, List.set_cons_zero, List.set_cons_succ]
        refine Till.done (by kernel_rfl) ?_ _
        go_wp2_with fail
        go_meet
        exact ⟨p6, x10, X10, p9, rfl, rfl, (var_put NAx10.out I1x10.out).held (NBx10.out.other nelt9s (.int .i64 x10) (.pointer X10)) nelt9 (.int .i64 c) (.pointer U), var_put (NBx10.out.other nelt9s (.int .i64 x10) (.pointer X10)) (I3x10.out.held NAx10.out _ _), (NAx10.out.store x10 X10).other nelt9 (.int .i64 c) (.pointer U), (NBx10.out.other nelt9s (.int .i64 x10) (.pointer X10)).store c U, nelt9, le6, le9, below_stored (below_stored B10.out le6 (.int .i64 x10) (.pointer X10)) le9 (.int .i64 c) (.pointer U)⟩
    · go_simp
      refine hK.out _ _ (fun _ => HS.out _ (below_on B0.out ((Below.refl _ _).alloc (Nat.le_refl _) _))) ?_
      clear hK K
      try simp only [Act.put, List.setIfInBounds_toArray, List.set_cons_zero, List.set_cons_succ]
      have g11 := (Below.refl v0.heap.size v0).alloc (Nat.le_refl _) (.cells #[.int .i64 0, .pointer none] 25)
      have B11 := Lib.hid (below_on B0.out g11)
      have NBx11 := Lib.hid (Hold.new v0 0 none)
      have le11 : wm.heap.size ≤ v0.heap.size := B0.out.size
      have I3x11 := Lib.hid (Iq.out.keep g11)
      obtain ⟨p11, hp11⟩ : ∃ p, v0.heap.size = p := ⟨_, rfl⟩
      obtain ⟨v11, hv11⟩ : ∃ u, v0.alloc (.cells #[.int .i64 0, .pointer none] 25) = u := ⟨_, rfl⟩
      rw [hv11] at B11 I3x11 NBx11
      rw [hp11] at NBx11 le11
      try simp only [hp11, hv11]
      clear g11 hp11 hv11
      refine Till.two (i := 1) (j := 4) (by kernel_rfl) rfl rfl (fun K hK => ?_) (fun K hK => ?_)
      · go_simp
        refine (HD.out _ B11.out).mono ?_
        rintro e v12 ⟨x12, X12, rfl, hx12, g12⟩
        have B12 := Lib.hid (below_on B11.out g12)
        have I1x12 := Lib.hid hx12
        have I3x12 := Lib.hid (I3x11.out.keep g12)
        have NBx12 := Lib.hid (NBx11.out.keep g12)
        clear g12 hx12
        go_wp2_with fail
        refine hK.out _ _ (fun _ => HS.out _ B12.out) ?_
        clear hK K
        try simp only [Act.put, List.setIfInBounds_toArray, List.set_cons_zero, List.set_cons_succ]
        refine Till.one (i := 4) (by kernel_rfl) rfl (fun K hK => ?_)
        go_simp
        refine hK.out _ _ (fun _ => HS.out _ (below_on B12.out ((Below.refl _ _).alloc (Nat.le_refl _) _))) ?_
        clear hK K
        try simp only [Act.put, List.setIfInBounds_toArray, List.set_cons_zero, List.set_cons_succ]
        have g13 := (Below.refl v12.heap.size v12).alloc (Nat.le_refl _) (.cells #[.int .i64 0, .pointer none] 25)
        have B13 := Lib.hid (below_on B12.out g13)
        have NAx13 := Lib.hid (Hold.new v12 0 none)
        have le13 : wm.heap.size ≤ v12.heap.size := B12.out.size
        have lt13 : p11 < v12.heap.size := NBx12.out.lt
        have I3x13 := Lib.hid (I3x12.out.keep g13)
        have I1x13 := Lib.hid (I1x12.out.keep g13)
        have NBx13 := Lib.hid (NBx12.out.keep g13)
        obtain ⟨p13, hp13⟩ : ∃ p, v12.heap.size = p := ⟨_, rfl⟩
        obtain ⟨v13, hv13⟩ : ∃ u, v12.alloc (.cells #[.int .i64 0, .pointer none] 25) = u := ⟨_, rfl⟩
        rw [hv13] at B13 I3x13 I1x13 NBx13 NAx13
        rw [hp13] at NAx13 le13 lt13
        try simp only [hp13, hv13]
        clear g13 hp13 hv13
        have kA0 := NAx13.out.c0
        have kA1 := NAx13.out.c1
        have fA0 := NAx13.out.f0
        have fA1 := NAx13.out.f1
        have kB0 := NBx13.out.c0
        have kB1 := NBx13.out.c1
        have fB0 := NBx13.out.f0
        have fB1 := NBx13.out.f1
        have nelt13 : p11 ≠ p13 := Nat.ne_of_lt lt13
        have nelt13s : p13 ≠ p11 := Ne.symm nelt13
        refine Till.one (i := 6) (by kernel_rfl) rfl (fun K hK => ?_)
        go_simp
        refine hK.out _ _ (fun _ => HS.out _ (below_stored B13.out le13 (.int .i64 x12) (.pointer X12))) ?_
        clear hK K
        try simp only [Act.put, List.setIfInBounds_toArray, List.set_cons_zero, List.set_cons_succ]
        refine Till.one (i := 7) (by kernel_rfl) rfl (fun K hK => ?_)
        go_simp
        refine hK.out _ _ (fun h => absurd h (by simp)) ?_
        clear hK K
        try simp only [Act.put, List.setIfInBounds_toArray, List.set_cons_zero, List.set_cons_succ]
        refine Till.done (by kernel_rfl) ?_ _
        go_wp2_with fail
        go_meet
        exact ⟨p13, x12, X12, p11, rfl, rfl, (var_put NAx13.out I1x13.out).held (NBx13.out.other nelt13 (.int .i64 x12) (.pointer X12)) nelt13s (.int .i64 c) (.pointer U), var_put (NBx13.out.other nelt13 (.int .i64 x12) (.pointer X12)) (I3x13.out.held NAx13.out _ _), (NAx13.out.store x12 X12).other nelt13s (.int .i64 c) (.pointer U), (NBx13.out.other nelt13 (.int .i64 x12) (.pointer X12)).store c U, nelt13s, le13, le11, below_stored (below_stored B13.out le13 (.int .i64 x12) (.pointer X12)) le11 (.int .i64 c) (.pointer U)⟩
      · go_simp
        refine hK.out _ _ (fun _ => HS.out _ (below_on B11.out ((Below.refl _ _).alloc (Nat.le_refl _) _))) ?_
        clear hK K
        try simp only [Act.put, List.setIfInBounds_toArray, List.set_cons_zero, List.set_cons_succ]
        have g14 := (Below.refl v11.heap.size v11).alloc (Nat.le_refl _) (.cells #[.int .i64 0, .pointer none] 25)
        have B14 := Lib.hid (below_on B11.out g14)
        have NAx14 := Lib.hid (Hold.new v11 0 none)
        have le14 : wm.heap.size ≤ v11.heap.size := B11.out.size
        have lt14 : p11 < v11.heap.size := NBx11.out.lt
        have I3x14 := Lib.hid (I3x11.out.keep g14)
        have NBx14 := Lib.hid (NBx11.out.keep g14)
        obtain ⟨p14, hp14⟩ : ∃ p, v11.heap.size = p := ⟨_, rfl⟩
        obtain ⟨v14, hv14⟩ : ∃ u, v11.alloc (.cells #[.int .i64 0, .pointer none] 25) = u := ⟨_, rfl⟩
        rw [hv14] at B14 I3x14 NBx14 NAx14
        rw [hp14] at NAx14 le14 lt14
        try simp only [hp14, hv14]
        clear g14 hp14 hv14
        refine Till.one (i := 1) (by kernel_rfl) rfl (fun K hK => ?_)
        go_simp
        refine (HD.out _ B14.out).mono ?_
        rintro e v15 ⟨x15, X15, rfl, hx15, g15⟩
        have B15 := Lib.hid (below_on B14.out g15)
        have I1x15 := Lib.hid hx15
        have I3x15 := Lib.hid (I3x14.out.keep g15)
        have NBx15 := Lib.hid (NBx14.out.keep g15)
        have NAx15 := Lib.hid (NAx14.out.keep g15)
        clear g15 hx15
        go_wp2_with fail
        refine hK.out _ _ (fun _ => HS.out _ B15.out) ?_
        clear hK K
        try simp only [Act.put, List.setIfInBounds_toArray, List.set_cons_zero, List.set_cons_succ]
        have kA0 := NAx15.out.c0
        have kA1 := NAx15.out.c1
        have fA0 := NAx15.out.f0
        have fA1 := NAx15.out.f1
        have kB0 := NBx15.out.c0
        have kB1 := NBx15.out.c1
        have fB0 := NBx15.out.f0
        have fB1 := NBx15.out.f1
        have nelt14 : p11 ≠ p14 := Nat.ne_of_lt lt14
        have nelt14s : p14 ≠ p11 := Ne.symm nelt14
        refine Till.one (i := 6) (by kernel_rfl) rfl (fun K hK => ?_)
        go_simp
        refine hK.out _ _ (fun _ => HS.out _ (below_stored B15.out le14 (.int .i64 x15) (.pointer X15))) ?_
        clear hK K
        try simp only [Act.put, List.setIfInBounds_toArray, List.set_cons_zero, List.set_cons_succ]
        refine Till.one (i := 7) (by kernel_rfl) rfl (fun K hK => ?_)
        go_simp
        refine hK.out _ _ (fun h => absurd h (by simp)) ?_
        clear hK K
        try simp only [Act.put, List.setIfInBounds_toArray, List.set_cons_zero, List.set_cons_succ]
        refine Till.done (by kernel_rfl) ?_ _
        go_wp2_with fail
        go_meet
        exact ⟨p14, x15, X15, p11, rfl, rfl, (var_put NAx15.out I1x15.out).held (NBx15.out.other nelt14 (.int .i64 x15) (.pointer X15)) nelt14s (.int .i64 c) (.pointer U), var_put (NBx15.out.other nelt14 (.int .i64 x15) (.pointer X15)) (I3x15.out.held NAx15.out _ _), (NAx15.out.store x15 X15).other nelt14s (.int .i64 c) (.pointer U), (NBx15.out.other nelt14 (.int .i64 x15) (.pointer X15)).store c U, nelt14s, le14, le11, below_stored (below_stored B15.out le14 (.int .i64 x15) (.pointer X15)) le11 (.int .i64 c) (.pointer U)⟩
  case rest =>
    obtain ⟨p6, x, X, p7, rfl, rfl, hv1, hv2, hn1, hn2, hne, le6, le7, hb⟩ := hcut
    have Bw := Lib.hid hb
    have A6 := Lib.hid hv1
    have A7 := Lib.hid hv2
    have N6 := Lib.hid hn1
    have N7 := Lib.hid hn2
    have Le := Lib.hid (And.intro hne (And.intro le6 le7))
    have Hs := Lib.hid (signZ_any _ q.num _ A7.out.int)
    clear hv1 hv2 hn1 hn2 hne le6 le7 hb HS HD
    generalize wc = wn at *
    have d0 := A7.out.c0
    have d1 := A7.out.c1
    rcases Int.lt_trichotomy q.num 0 with hz | hz | hz
    · rw [show sgn q.num = -1 by unfold sgn; rw [if_pos hz]] at Hs
      obtain ⟨i1, i2⟩ := rinv_neg hz
      have Hi1 := Lib.hid i1
      have Hi2 := Lib.hid i2
      have Hz := Lib.hid (show q.num ≠ 0 by omega)
      obtain ⟨_, _, hqn, hqd⟩ := Bd.out
      have Nb := Lib.hid (show (q⁻¹).num.natAbs < base 47 by rw [i1, Int.natAbs_neg, Int.natAbs_natCast]; exact hqd)
      have Db := Lib.hid (show (q⁻¹).den < base 47 by rw [show (q⁻¹).den = q.num.natAbs by omega]; exact hqn)
      clear hz i1 i2 hqn hqd
      go_wp2_with fail
      refine Hs.out.mono ?_
      rintro e wo ⟨rfl, g1⟩
      have A6 := Lib.hid (A6.out.keep g1)
      have A7 := Lib.hid (A7.out.keep g1)
      have N6 := Lib.hid (N6.out.keep g1)
      have N7 := Lib.hid (N7.out.keep g1)
      have Bo := Lib.hid (below_on Bw.out g1)
      clear g1 d0 d1 Hs
      have HS := Lib.hid (fun w' (hb : Below wo.heap.size wo w') => (⟨(A6.out.keep hb).c0, (A6.out.keep hb).c1, (A7.out.keep hb).c0, (A7.out.keep hb).c1⟩ : w'.cell? ⟨p6, 0, none⟩ = some (.int .i64 x) ∧ w'.cell? ⟨p6, 1, none⟩ = some (.pointer X) ∧ w'.cell? ⟨p7, 0, none⟩ = some (.int .i64 c) ∧ w'.cell? ⟨p7, 1, none⟩ = some (.pointer U)))
      have HA := Lib.hid (fun v (hb : Below wo.heap.size wo v) => neg_any x X (q.den : Int) v (A6.out.keep hb).int)
      have HB := Lib.hid (fun v (hb : Below wo.heap.size wo v) => neg_any c U q.num v (A7.out.keep hb).int)
      rw [← Hi1.out] at HA
      rw [← Hi2.out] at HB
      go_wp2_with fail
      refine Till.begin 4 (fun w' => w'.cell? ⟨p6, 0, none⟩ = some (.int .i64 x) ∧ w'.cell? ⟨p6, 1, none⟩ = some (.pointer X) ∧ w'.cell? ⟨p7, 0, none⟩ = some (.int .i64 c) ∧ w'.cell? ⟨p7, 1, none⟩ = some (.pointer U)) (by kernel_rfl) (HS.out _ (Below.refl _ _).drew) (fun hH => ?_)
      refine Till.take (i := 0) (m := 1) (d := some 19) (u := .agg #[.int .i64 x, .pointer X]) rfl rfl (by kernel_rfl) (by kernel_rfl) (by kernel_rfl) (by kernel_rfl) (by kernel_rfl) (by kernel_rfl) (by kernel_rfl) (fun _ _ _ h => h) (by kernel_rfl) (by (intro w hSw; (try dsimp only at hSw); go_split_ands; go_simp)) hH ?_
      try simp only [Act.put, List.setIfInBounds_toArray, List.set_cons_zero, List.set_cons_succ]
      refine Till.take (i := 2) (m := 3) (d := some 21) (u := .agg #[.int .i64 c, .pointer U]) rfl rfl (by kernel_rfl) (by kernel_rfl) (by kernel_rfl) (by kernel_rfl) (by kernel_rfl) (by kernel_rfl) (by kernel_rfl) (fun _ _ _ h => h) (by kernel_rfl) (by (intro w hSw; (try dsimp only at hSw); go_split_ands; go_simp)) hH ?_
      try simp only [Act.put, List.setIfInBounds_toArray, List.set_cons_zero, List.set_cons_succ]
      clear hH
      refine Till.one (i := 1) (by kernel_rfl) rfl (fun K hK => ?_)
      go_simp
      refine (HA.out _ (Below.refl _ _).drew).mono ?_
      rintro e v1 ⟨x2, X2, rfl, hx, g1⟩
      have B1 := Lib.hid (below_on (Below.refl wo.heap.size wo).drew g1)
      have I1 := Lib.hid hx
      clear g1 hx
      go_wp2_with fail
      refine hK.out _ _ (fun _ => HS.out _ B1.out) ?_
      clear hK K
      try simp only [Act.put, List.setIfInBounds_toArray, List.set_cons_zero, List.set_cons_succ]
      refine Till.one (i := 3) (by kernel_rfl) rfl (fun K hK => ?_)
      go_simp
      refine (HB.out _ B1.out).mono ?_
      rintro e v2 ⟨y2, Y2, rfl, hy, g1⟩
      have B2 := Lib.hid (below_on B1.out g1)
      have I1 := Lib.hid (I1.out.keep g1)
      have I2 := Lib.hid hy
      clear g1 hy
      go_wp2_with fail
      refine hK.out _ _ (fun _ => HS.out _ B2.out) ?_
      clear hK K
      try simp only [Act.put, List.setIfInBounds_toArray, List.set_cons_zero, List.set_cons_succ]
      have N6 := Lib.hid (N6.out.keep B2.out)
      have N7 := Lib.hid (N7.out.keep B2.out)
      obtain ⟨ne, le6, le7⟩ := Le.out
      have nes : p7 ≠ p6 := Ne.symm ne
      have i0 := N6.out.c0
      have i1 := N6.out.c1
      have j0 := N7.out.c0
      have j1 := N7.out.c1
      have f0 := N6.out.f0
      have f1 := N6.out.f1
      have g0 := N7.out.f0
      have g1 := N7.out.f1
      refine Till.one (i := 4) (by kernel_rfl) rfl (fun K hK => ?_)
      go_simp
      refine hK.out _ _ (fun h => absurd h (by simp)) ?_
      clear hK K
      try simp only [Act.put, List.setIfInBounds_toArray, List.set_cons_zero, List.set_cons_succ]
      refine Till.one (i := 5) (by kernel_rfl) rfl (fun K hK => ?_)
      go_simp
      refine hK.out _ _ (fun h => absurd h (by simp)) ?_
      clear hK K
      try simp only [Act.put, List.setIfInBounds_toArray, List.set_cons_zero, List.set_cons_succ]
      refine Till.done (by kernel_rfl) ?_ _
      clear i0 i1 j0 j1 f0 f1 g0 g1
      have A6 := Lib.hid ((var_put N6.out I1.out).held (N7.out.other nes (.int .i64 x2) (.pointer X2)) ne (.int .i64 y2) (.pointer Y2))
      have A7 := Lib.hid (var_put (N7.out.other nes (.int .i64 x2) (.pointer X2)) (I2.out.held N6.out (.int .i64 x2) (.pointer X2)))
      have Bt := Lib.hid (below_stored (below_stored (below_on Bo.out B2.out) le6 (.int .i64 x2) (.pointer X2)) le7 (.int .i64 y2) (.pointer Y2))
      obtain ⟨wt, hwt⟩ : ∃ u, (((v2.setCell ⟨p6, 0, none⟩ (.int .i64 x2)).setCell ⟨p6, 1, none⟩ (.pointer X2)).setCell ⟨p7, 0, none⟩ (.int .i64 y2)).setCell ⟨p7, 1, none⟩ (.pointer Y2) = u := ⟨_, rfl⟩
      rw [hwt] at A6 A7 Bt
      try rw [hwt]
      clear hwt ne nes le6 le7 HS HA HB N6 N7
      obtain ⟨hpn, hpd, hqn, hqd⟩ := Bd.out
      have HS := Lib.hid (fun w' (hb : Below wt.heap.size wt w') => (⟨(V0.out.keep (below_on Bt.out hb)).c0, (V0.out.keep (below_on Bt.out hb)).c1, (V0.out.keep (below_on Bt.out hb)).c2, (V0.out.keep (below_on Bt.out hb)).c3, (A6.out.keep hb).c0, (A6.out.keep hb).c1, (A7.out.keep hb).c0, (A7.out.keep hb).c1⟩ : w'.cell? ⟨w.heap.size, 0, none⟩ = some (.int .i64 a) ∧ w'.cell? ⟨w.heap.size, 1, none⟩ = some (.pointer P) ∧ w'.cell? ⟨w.heap.size, 2, none⟩ = some (.int .i64 b) ∧ w'.cell? ⟨w.heap.size, 3, none⟩ = some (.pointer Q) ∧ w'.cell? ⟨p6, 0, none⟩ = some (.int .i64 x2) ∧ w'.cell? ⟨p6, 1, none⟩ = some (.pointer X2) ∧ w'.cell? ⟨p7, 0, none⟩ = some (.int .i64 y2) ∧ w'.cell? ⟨p7, 1, none⟩ = some (.pointer Y2)))
      have HO := Lib.hid (fun v (hb : Below wt.heap.size wt v) => of_any x2 X2 y2 Y2 q⁻¹ v (A6.out.keep hb).int (A7.out.keep hb).int)
      have HM := Lib.hid (fun xa xP xb xQ v (hb : Below wt.heap.size wt v) (hv : RatV v xa xP xb xQ q⁻¹) => rmul_any a P b Q xa xP xb xQ p q⁻¹ v (HP.out v (below_on Kk.out (below_on Bt.out hb))) hv hpn hpd Nb.out Db.out (Hw.out v (below_on Kk.out (below_on Bt.out hb))))
      have Hq := Lib.hid (show p * q⁻¹ = p / q from (Rat.div_def p q).symm)
      rw [Hq.out] at HM
      have Kt := Lib.hid (below_on Kk.out Bt.out)
      have R := Lib.hid (R.out.keep Bt.out)
      clear hpn hpd hqn hqd
      go_wp2_with fail
      refine Till.begin 5 (fun w' => w'.cell? ⟨w.heap.size, 0, none⟩ = some (.int .i64 a) ∧ w'.cell? ⟨w.heap.size, 1, none⟩ = some (.pointer P) ∧ w'.cell? ⟨w.heap.size, 2, none⟩ = some (.int .i64 b) ∧ w'.cell? ⟨w.heap.size, 3, none⟩ = some (.pointer Q) ∧ w'.cell? ⟨p6, 0, none⟩ = some (.int .i64 x2) ∧ w'.cell? ⟨p6, 1, none⟩ = some (.pointer X2) ∧ w'.cell? ⟨p7, 0, none⟩ = some (.int .i64 y2) ∧ w'.cell? ⟨p7, 1, none⟩ = some (.pointer Y2)) (by kernel_rfl) (HS.out _ (Below.refl _ _).drew) (fun hH => ?_)
      refine Till.take (i := 0) (m := 4) (d := some 23) (u := .agg #[.int .i64 a, .pointer P, .int .i64 b, .pointer Q]) rfl rfl (by kernel_rfl) (by kernel_rfl) (by kernel_rfl) (by kernel_rfl) (by kernel_rfl) (by kernel_rfl) (by kernel_rfl) (fun _ _ _ h => h) (by kernel_rfl) (by (intro w hSw; (try dsimp only at hSw); go_split_ands; go_simp)) hH ?_
      try simp only [Act.put, List.setIfInBounds_toArray, List.set_cons_zero, List.set_cons_succ]
      refine Till.take (i := 1) (m := 3) (d := some 24) (u := .agg #[.int .i64 x2, .pointer X2]) rfl rfl (by kernel_rfl) (by kernel_rfl) (by kernel_rfl) (by kernel_rfl) (by kernel_rfl) (by kernel_rfl) (by kernel_rfl) (fun _ _ _ h => h) (by kernel_rfl) (by (intro w hSw; (try dsimp only at hSw); go_split_ands; go_simp)) hH ?_
      try simp only [Act.put, List.setIfInBounds_toArray, List.set_cons_zero, List.set_cons_succ]
      refine Till.take (i := 2) (m := 3) (d := some 25) (u := .agg #[.int .i64 y2, .pointer Y2]) rfl rfl (by kernel_rfl) (by kernel_rfl) (by kernel_rfl) (by kernel_rfl) (by kernel_rfl) (by kernel_rfl) (by kernel_rfl) (fun _ _ _ h => h) (by kernel_rfl) (by (intro w hSw; (try dsimp only at hSw); go_split_ands; go_simp)) hH ?_
      try simp only [Act.put, List.setIfInBounds_toArray, List.set_cons_zero, List.set_cons_succ]
      clear hH
      refine Till.one (i := 3) (by kernel_rfl) rfl (fun K hK => ?_)
      go_simp
      refine (HO.out _ (Below.refl _ _).drew).mono ?_
      rintro e v1 ⟨xa, xP, xb, xQ, rfl, hv, g1⟩
      have B1 := Lib.hid (below_on (Below.refl wt.heap.size wt).drew g1)
      have J1 := Lib.hid hv
      clear g1 hv
      go_wp2_with fail
      refine hK.out _ _ (fun _ => HS.out _ B1.out) ?_
      clear hK K
      try simp only [Act.put, List.setIfInBounds_toArray, List.set_cons_zero, List.set_cons_succ]
      refine Till.one (i := 4) (by kernel_rfl) rfl (fun K hK => ?_)
      go_simp
      refine (HM.out _ _ _ _ _ B1.out J1.out).mono ?_
      rintro e v2 ⟨oa, oP, ob, oQ, rfl, hv, g1⟩
      have B2 := Lib.hid (below_on B1.out g1)
      have Ho := Lib.hid hv
      clear g1 hv J1
      go_wp2_with fail
      refine hK.out _ _ (fun _ => HS.out _ B2.out) ?_
      clear hK K
      try simp only [Act.put, List.setIfInBounds_toArray, List.set_cons_zero, List.set_cons_succ]
      have R := Lib.hid (R.out.keep B2.out)
      have k0 := R.out.c0
      have k1 := R.out.c1
      have k2 := R.out.c2
      have k3 := R.out.c3
      have f0 := R.out.fz 0
      have f1 := R.out.fz 1
      have f2 := R.out.fz 2
      have f3 := R.out.fz 3
      refine Till.one (i := 5) (by kernel_rfl) rfl (fun K hK => ?_)
      go_simp
      refine hK.out _ _ (fun h => absurd h (by simp)) ?_
      clear hK K
      try simp only [Act.put, List.setIfInBounds_toArray, List.set_cons_zero, List.set_cons_succ]
      refine Till.one (i := 6) (by kernel_rfl) rfl (fun K hK => ?_)
      go_simp
      refine hK.out _ _ (fun h => absurd h (by simp)) ?_
      clear hK K
      try simp only [Act.put, List.setIfInBounds_toArray, List.set_cons_zero, List.set_cons_succ]
      refine Till.done (by kernel_rfl) ?_ _
      have Hv := Lib.hid (Ho.out.wrote R.out (by rfl) (put4_heap v2 (w.heap.size + 1 + 1) (.int .i64 oa) (.pointer oP) (.int .i64 ob) (.pointer oQ)).1 (put4_heap _ _ _ _ _ _).2)
      have Kf := Lib.hid (below_put4 (below_on Kt.out B2.out) (show w.heap.size ≤ w.heap.size + 1 + 1 by omega) (.int .i64 oa) (.pointer oP) (.int .i64 ob) (.pointer oQ))
      go_wp2
      exact bodyPost_ret (v := .tuple #[.agg #[.int .i64 oa, .pointer oP, .int .i64 ob, .pointer oQ], .int .i64 0]) (by simp [results, Tryz.results45, go_sem, k0, k1, k2, k3]) rfl ⟨fun _ => ⟨oa, oP, ob, oQ, rfl, Hv.out, Kf.out⟩, fun h => absurd h Hz.out⟩
    · rw [show sgn q.num = 0 by rw [hz]; rfl] at Hs
      have Hz := Lib.hid hz
      clear hz
      go_wp2_with fail
      refine Hs.out.mono ?_
      rintro e wt ⟨rfl, g1⟩
      have Bt := Lib.hid (below_on Bw.out g1)
      clear g1 d0 d1 Hs
      have R := Lib.hid (R.out.keep Bt.out)
      have Kf := Lib.hid (below_put4 (below_on Kk.out Bt.out) (show w.heap.size ≤ w.heap.size + 1 + 1 by omega) (.int .i64 0) (.pointer none) (.int .i64 0) (.pointer none))
      have k0 := R.out.c0
      have k1 := R.out.c1
      have k2 := R.out.c2
      have k3 := R.out.c3
      have f0 := R.out.fz 0
      have f1 := R.out.fz 1
      have f2 := R.out.fz 2
      have f3 := R.out.fz 3
      go_wp2
      exact bodyPost_ret (v := .tuple #[.agg #[.int .i64 0, .pointer none, .int .i64 0, .pointer none], .int .i64 19]) (by simp [results, Tryz.results45, go_sem, k0, k1, k2, k3]) rfl ⟨fun h => absurd Hz.out h, fun _ => ⟨rfl, Kf.out⟩⟩
    · rw [show sgn q.num = 1 by unfold sgn; rw [if_neg (by omega), if_pos hz]] at Hs
      obtain ⟨i1, i2⟩ := rinv_pos hz
      have Hi1 := Lib.hid i1
      have Hi2 := Lib.hid i2
      have Hz := Lib.hid (show q.num ≠ 0 by omega)
      obtain ⟨_, _, hqn, hqd⟩ := Bd.out
      have Nb := Lib.hid (show (q⁻¹).num.natAbs < base 47 by rw [i1, Int.natAbs_natCast]; exact hqd)
      have Db := Lib.hid (show (q⁻¹).den < base 47 by rw [show (q⁻¹).den = q.num.natAbs by omega]; exact hqn)
      clear hz i1 i2 hqn hqd
      go_wp2_with fail
      refine Hs.out.mono ?_
      rintro e wt ⟨rfl, g1⟩
      have A6 := Lib.hid (A6.out.keep g1)
      have A7 := Lib.hid (A7.out.keep g1)
      rw [← Hi1.out] at A6
      rw [← Hi2.out] at A7
      have Bt := Lib.hid (below_on Bw.out g1)
      clear g1 d0 d1 Hs N6 N7
      obtain ⟨hpn, hpd, hqn, hqd⟩ := Bd.out
      have HS := Lib.hid (fun w' (hb : Below wt.heap.size wt w') => (⟨(V0.out.keep (below_on Bt.out hb)).c0, (V0.out.keep (below_on Bt.out hb)).c1, (V0.out.keep (below_on Bt.out hb)).c2, (V0.out.keep (below_on Bt.out hb)).c3, (A6.out.keep hb).c0, (A6.out.keep hb).c1, (A7.out.keep hb).c0, (A7.out.keep hb).c1⟩ : w'.cell? ⟨w.heap.size, 0, none⟩ = some (.int .i64 a) ∧ w'.cell? ⟨w.heap.size, 1, none⟩ = some (.pointer P) ∧ w'.cell? ⟨w.heap.size, 2, none⟩ = some (.int .i64 b) ∧ w'.cell? ⟨w.heap.size, 3, none⟩ = some (.pointer Q) ∧ w'.cell? ⟨p6, 0, none⟩ = some (.int .i64 x) ∧ w'.cell? ⟨p6, 1, none⟩ = some (.pointer X) ∧ w'.cell? ⟨p7, 0, none⟩ = some (.int .i64 c) ∧ w'.cell? ⟨p7, 1, none⟩ = some (.pointer U)))
      have HO := Lib.hid (fun v (hb : Below wt.heap.size wt v) => of_any x X c U q⁻¹ v (A6.out.keep hb).int (A7.out.keep hb).int)
      have HM := Lib.hid (fun xa xP xb xQ v (hb : Below wt.heap.size wt v) (hv : RatV v xa xP xb xQ q⁻¹) => rmul_any a P b Q xa xP xb xQ p q⁻¹ v (HP.out v (below_on Kk.out (below_on Bt.out hb))) hv hpn hpd Nb.out Db.out (Hw.out v (below_on Kk.out (below_on Bt.out hb))))
      have Hq := Lib.hid (show p * q⁻¹ = p / q from (Rat.div_def p q).symm)
      rw [Hq.out] at HM
      have Kt := Lib.hid (below_on Kk.out Bt.out)
      have R := Lib.hid (R.out.keep Bt.out)
      clear hpn hpd hqn hqd
      go_wp2_with fail
      refine Till.begin 5 (fun w' => w'.cell? ⟨w.heap.size, 0, none⟩ = some (.int .i64 a) ∧ w'.cell? ⟨w.heap.size, 1, none⟩ = some (.pointer P) ∧ w'.cell? ⟨w.heap.size, 2, none⟩ = some (.int .i64 b) ∧ w'.cell? ⟨w.heap.size, 3, none⟩ = some (.pointer Q) ∧ w'.cell? ⟨p6, 0, none⟩ = some (.int .i64 x) ∧ w'.cell? ⟨p6, 1, none⟩ = some (.pointer X) ∧ w'.cell? ⟨p7, 0, none⟩ = some (.int .i64 c) ∧ w'.cell? ⟨p7, 1, none⟩ = some (.pointer U)) (by kernel_rfl) (HS.out _ (Below.refl _ _).drew) (fun hH => ?_)
      refine Till.take (i := 0) (m := 4) (d := some 23) (u := .agg #[.int .i64 a, .pointer P, .int .i64 b, .pointer Q]) rfl rfl (by kernel_rfl) (by kernel_rfl) (by kernel_rfl) (by kernel_rfl) (by kernel_rfl) (by kernel_rfl) (by kernel_rfl) (fun _ _ _ h => h) (by kernel_rfl) (by (intro w hSw; (try dsimp only at hSw); go_split_ands; go_simp)) hH ?_
      try simp only [Act.put, List.setIfInBounds_toArray, List.set_cons_zero, List.set_cons_succ]
      refine Till.take (i := 1) (m := 3) (d := some 24) (u := .agg #[.int .i64 x, .pointer X]) rfl rfl (by kernel_rfl) (by kernel_rfl) (by kernel_rfl) (by kernel_rfl) (by kernel_rfl) (by kernel_rfl) (by kernel_rfl) (fun _ _ _ h => h) (by kernel_rfl) (by (intro w hSw; (try dsimp only at hSw); go_split_ands; go_simp)) hH ?_
      try simp only [Act.put, List.setIfInBounds_toArray, List.set_cons_zero, List.set_cons_succ]
      refine Till.take (i := 2) (m := 3) (d := some 25) (u := .agg #[.int .i64 c, .pointer U]) rfl rfl (by kernel_rfl) (by kernel_rfl) (by kernel_rfl) (by kernel_rfl) (by kernel_rfl) (by kernel_rfl) (by kernel_rfl) (fun _ _ _ h => h) (by kernel_rfl) (by (intro w hSw; (try dsimp only at hSw); go_split_ands; go_simp)) hH ?_
      try simp only [Act.put, List.setIfInBounds_toArray, List.set_cons_zero, List.set_cons_succ]
      clear hH
      refine Till.one (i := 3) (by kernel_rfl) rfl (fun K hK => ?_)
      go_simp
      refine (HO.out _ (Below.refl _ _).drew).mono ?_
      rintro e v1 ⟨xa, xP, xb, xQ, rfl, hv, g1⟩
      have B1 := Lib.hid (below_on (Below.refl wt.heap.size wt).drew g1)
      have J1 := Lib.hid hv
      clear g1 hv
      go_wp2_with fail
      refine hK.out _ _ (fun _ => HS.out _ B1.out) ?_
      clear hK K
      try simp only [Act.put, List.setIfInBounds_toArray, List.set_cons_zero, List.set_cons_succ]
      refine Till.one (i := 4) (by kernel_rfl) rfl (fun K hK => ?_)
      go_simp
      refine (HM.out _ _ _ _ _ B1.out J1.out).mono ?_
      rintro e v2 ⟨oa, oP, ob, oQ, rfl, hv, g1⟩
      have B2 := Lib.hid (below_on B1.out g1)
      have Ho := Lib.hid hv
      clear g1 hv J1
      go_wp2_with fail
      refine hK.out _ _ (fun _ => HS.out _ B2.out) ?_
      clear hK K
      try simp only [Act.put, List.setIfInBounds_toArray, List.set_cons_zero, List.set_cons_succ]
      have R := Lib.hid (R.out.keep B2.out)
      have k0 := R.out.c0
      have k1 := R.out.c1
      have k2 := R.out.c2
      have k3 := R.out.c3
      have f0 := R.out.fz 0
      have f1 := R.out.fz 1
      have f2 := R.out.fz 2
      have f3 := R.out.fz 3
      refine Till.one (i := 5) (by kernel_rfl) rfl (fun K hK => ?_)
      go_simp
      refine hK.out _ _ (fun h => absurd h (by simp)) ?_
      clear hK K
      try simp only [Act.put, List.setIfInBounds_toArray, List.set_cons_zero, List.set_cons_succ]
      refine Till.one (i := 6) (by kernel_rfl) rfl (fun K hK => ?_)
      go_simp
      refine hK.out _ _ (fun h => absurd h (by simp)) ?_
      clear hK K
      try simp only [Act.put, List.setIfInBounds_toArray, List.set_cons_zero, List.set_cons_succ]
      refine Till.done (by kernel_rfl) ?_ _
      have Hv := Lib.hid (Ho.out.wrote R.out (by rfl) (put4_heap v2 (w.heap.size + 1 + 1) (.int .i64 oa) (.pointer oP) (.int .i64 ob) (.pointer oQ)).1 (put4_heap _ _ _ _ _ _).2)
      have Kf := Lib.hid (below_put4 (below_on Kt.out B2.out) (show w.heap.size ≤ w.heap.size + 1 + 1 by omega) (.int .i64 oa) (.pointer oP) (.int .i64 ob) (.pointer oQ))
      go_wp2
      exact bodyPost_ret (v := .tuple #[.agg #[.int .i64 oa, .pointer oP, .int .i64 ob, .pointer oQ], .int .i64 0]) (by simp [results, Tryz.results45, go_sem, k0, k1, k2, k3]) rfl ⟨fun _ => ⟨oa, oP, ob, oQ, rfl, Hv.out, Kf.out⟩, fun h => absurd h Hz.out⟩
end Go.Proofs.YtjcblcikipmojaaGreatDoor
