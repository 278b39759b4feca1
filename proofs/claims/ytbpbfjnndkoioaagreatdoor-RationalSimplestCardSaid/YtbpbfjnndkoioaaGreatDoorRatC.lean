/- Rationals: Make. -/
import Derived.Test.YtbpbfjnndkoioaaGreatDoorRatB
namespace Go.Proofs.YtbpbfjnndkoioaaGreatDoor
open Go.RowKit

set_option maxRecDepth 100000 in
set_option maxHeartbeats 8000000 in
theorem make_neg (a : Int) (P : Option Addr) (b : Int) (Q : Option Addr) (z : Int) (kn : Nat) (w : World) (h : IsInt 0 w (.agg #[.int .i64 a, .pointer P]) z) (h' : IsInt 0 w (.agg #[.int .i64 b, .pointer Q]) (-(kn : Int))) (hkp : 0 < kn) (hlz : (-z).natAbs < base 390) (hlk : ((kn : Nat) : Int).natAbs < base 390) (hg : Good w) :
    Calls Tryz.prog 11 #[.agg #[.int .i64 a, .pointer P], .agg #[.int .i64 b, .pointer Q]] w (Made (Rat.divInt (-z) kn) w) := by
  have kk := (((Below.refl w.heap.size w).alloc (Nat.le_refl _) (.cells #[.int .i64 a, .pointer P] 26)).alloc (by simp) (.cells #[.int .i64 b, .pointer Q] 26)).alloc (by simp; omega) (.cells #[.int .i64 0, .pointer none, .int .i64 0, .pointer none] 28)
  have V0 := Lib.hid (((Cells.new w #[.int .i64 a, .pointer P] 26).keep ((Below.refl _ _).alloc (Nat.le_refl _) (.cells #[.int .i64 b, .pointer Q] 26))).keep ((Below.refl _ _).alloc (Nat.le_refl _) (.cells #[.int .i64 0, .pointer none, .int .i64 0, .pointer none] 28)))
  have V1 := Lib.hid ((Cells.new (w.alloc (.cells #[.int .i64 a, .pointer P] 26)) #[.int .i64 b, .pointer Q] 26).keep ((Below.refl _ _).alloc (Nat.le_refl _) (.cells #[.int .i64 0, .pointer none, .int .i64 0, .pointer none] 28)))
  have R := Lib.hid (Cells.new ((w.alloc (.cells #[.int .i64 a, .pointer P] 26)).alloc (.cells #[.int .i64 b, .pointer Q] 26)) #[.int .i64 0, .pointer none, .int .i64 0, .pointer none] 28)
  simp only [World.size_alloc] at V1 R
  have Hz := Lib.hid (h.keep kk)
  have Hk := Lib.hid (h'.keep kk)
  have Hs := Lib.hid (signZ_any _ (-(kn : Int)) _ (h'.keep kk))
  rw [show sgn (-(kn : Int)) = -1 by unfold sgn; rw [if_pos (by omega)]] at Hs
  have Kk := Lib.hid kk
  have Lz := Lib.hid hlz
  have Lk := Lib.hid hlk
  have Hkp := Lib.hid hkp
  have Hw := Lib.hid (fun w' (hb : Below w.heap.size w w') => hg.below hb)
  obtain ⟨qt, hqt⟩ : ∃ q, Rat.divInt (-z) kn = q := ⟨_, rfl⟩
  rw [hqt]
  have Hqt := Lib.hid hqt.symm
  have d0 := V1.out.c0
  have d1 := V1.out.c1
  clear h h' kk hkp hlz hlk hg hqt
  go_enter Tryz.func11, Tryz.ntmps11
  go_wp2_with fail
  refine Hs.out.mono ?_
  rintro e ws ⟨rfl, h1⟩
  have V0 := Lib.hid (V0.out.keep h1)
  have V1 := Lib.hid (V1.out.keep h1)
  have R := Lib.hid (R.out.keep h1)
  have Hz := Lib.hid (Hz.out.keep h1)
  have Hk := Lib.hid (Hk.out.keep h1)
  have Ks := Lib.hid (below_on Kk.out h1)
  clear h1 d0 d1
  have HS := Lib.hid (fun v (hb : Below ws.heap.size ws v) => (⟨(V0.out.keep hb).c0, (V0.out.keep hb).c1, (V1.out.keep hb).c0, (V1.out.keep hb).c1⟩ : v.cell? ⟨w.heap.size, 0, none⟩ = some (.int .i64 a) ∧ v.cell? ⟨w.heap.size, 1, none⟩ = some (.pointer P) ∧ v.cell? ⟨w.heap.size + 1, 0, none⟩ = some (.int .i64 b) ∧ v.cell? ⟨w.heap.size + 1, 1, none⟩ = some (.pointer Q)))
  have HA := Lib.hid (fun v (hb : Below ws.heap.size ws v) => neg_any a P z v (Hz.out.keep hb))
  have HB := Lib.hid (fun v (hb : Below ws.heap.size ws v) => neg_any b Q (-(kn : Int)) v (Hk.out.keep hb))
  rw [Int.neg_neg] at HB
  go_wp2_with fail
  refine Till.begin 4 (fun v => v.cell? ⟨w.heap.size, 0, none⟩ = some (.int .i64 a) ∧ v.cell? ⟨w.heap.size, 1, none⟩ = some (.pointer P) ∧ v.cell? ⟨w.heap.size + 1, 0, none⟩ = some (.int .i64 b) ∧ v.cell? ⟨w.heap.size + 1, 1, none⟩ = some (.pointer Q)) (by kernel_rfl) (HS.out _ (Below.refl _ _).drew) (fun hH => ?_)
  refine Till.tk 0 1 14 (.agg #[.int .i64 a, .pointer P]) hH ?_
  try simp only [Act.put, List.setIfInBounds_toArray, List.set_cons_zero, List.set_cons_succ]
  refine Till.tk 2 3 16 (.agg #[.int .i64 b, .pointer Q]) hH ?_
  try simp only [Act.put, List.setIfInBounds_toArray, List.set_cons_zero, List.set_cons_succ]
  clear hH
  refine Till.one (i := 1) (by kernel_rfl) rfl (fun K hK => ?_)
  go_simp
  refine (HA.out _ (Below.refl _ _).drew).mono ?_
  rintro e v1 ⟨a2, P2, rfl, hx, g1⟩
  have B1 := Lib.hid (below_on (Below.refl ws.heap.size ws).drew g1)
  have Hx1 := Lib.hid hx
  clear g1 hx
  go_wp2_with fail
  refine hK.out _ _ (fun _ => HS.out _ B1.out) ?_
  clear hK K
  try simp only [Act.put, List.setIfInBounds_toArray, List.set_cons_zero, List.set_cons_succ]
  refine Till.one (i := 3) (by kernel_rfl) rfl (fun K hK => ?_)
  go_simp
  refine (HB.out _ B1.out).mono ?_
  rintro e v2 ⟨b2, Q2, rfl, hy, g2⟩
  have B2 := Lib.hid (below_on B1.out g2)
  have Hx2 := Lib.hid (Hx1.out.keep g2)
  have Hy2 := Lib.hid hy
  clear g2 hy
  go_wp2_with fail
  refine hK.out _ _ (fun _ => HS.out _ B2.out) ?_
  clear hK K
  try simp only [Act.put, List.setIfInBounds_toArray, List.set_cons_zero, List.set_cons_succ]
  have V0 := Lib.hid (V0.out.keep B2.out)
  have V1 := Lib.hid (V1.out.keep B2.out)
  have R := Lib.hid (R.out.keep B2.out)
  have i0 := V0.out.c0
  have i1 := V0.out.c1
  have j0 := V1.out.c0
  have j1 := V1.out.c1
  have f0 := V0.out.fz 0
  have f1 := V0.out.fz 1
  have g0 := V1.out.fz 0
  have g1 := V1.out.fz 1
  refine Till.one (i := 4) (by kernel_rfl) rfl (fun K hK => ?_)
  go_simp
  refine hK.out _ _ (fun h => absurd h (by simp)) ?_
  clear hK K
  try simp only [Act.put, List.setIfInBounds_toArray, List.set_cons_zero, List.set_cons_succ]
  refine Till.one (i := 5) (by kernel_rfl) rfl (fun K hK => ?_)
  go_simp
  refine hK.out _ _ (fun h => absurd h (by simp)) ?_
  clear hK K
  try simp only [Act.put, List.setIfInBounds_toArray, List.set_cons_zero, List.set_cons_succ]
  refine Till.done (by kernel_rfl) ?_ _
  clear i0 i1 j0 j1 f0 f1 g0 g1
  have V0' := V0
  have V1' := V1.out.put2_other (show w.heap.size + 1 ≠ w.heap.size by omega) (.int .i64 a2) (.pointer P2)
  have V0 := Lib.hid ((V0.out.put2 (.int .i64 a2) (.pointer P2)).put2_other (show w.heap.size ≠ w.heap.size + 1 by omega) (.int .i64 b2) (.pointer Q2))
  have R := Lib.hid ((R.out.put2_other (show w.heap.size + 1 + 1 ≠ w.heap.size by omega) (.int .i64 a2) (.pointer P2)).put2_other (show w.heap.size + 1 + 1 ≠ w.heap.size + 1 by omega) (.int .i64 b2) (.pointer Q2))
  have Hz := Lib.hid ((Hx2.out.wrote V0'.out (by rfl) (put2_heap v2 (w.heap.size) (.int .i64 a2) (.pointer P2)).1 (put2_heap _ _ _ _).2).wrote V1' (by rfl) (put2_heap _ (w.heap.size + 1) (.int .i64 b2) (.pointer Q2)).1 (put2_heap _ _ _ _).2)
  have Hk := Lib.hid ((Hy2.out.wrote V0'.out (by rfl) (put2_heap v2 (w.heap.size) (.int .i64 a2) (.pointer P2)).1 (put2_heap _ _ _ _).2).wrote V1' (by rfl) (put2_heap _ (w.heap.size + 1) (.int .i64 b2) (.pointer Q2)).1 (put2_heap _ _ _ _).2)
  have V1 := Lib.hid (V1'.put2 (.int .i64 b2) (.pointer Q2))
  have Kt := Lib.hid (below_put2 (below_put2 (below_on Ks.out B2.out) (Nat.le_refl w.heap.size) (.int .i64 a2) (.pointer P2)) (show w.heap.size ≤ w.heap.size + 1 by omega) (.int .i64 b2) (.pointer Q2))
  obtain ⟨wt, hwt⟩ : ∃ wt, put2 (put2 v2 (w.heap.size) (.int .i64 a2) (.pointer P2)) (w.heap.size + 1) (.int .i64 b2) (.pointer Q2) = wt := ⟨_, rfl⟩
  rw [hwt] at V0 V1 R Hz Hk Kt
  unfold put2 at hwt
  try rw [hwt]
  clear hwt V1'
  have HG := Lib.hid (gcd_any a2 b2 P2 Q2 (-z) (kn : Int) wt Hz.out Hk.out (base_up Lz.out (by decide)) (base_up Lk.out (by decide)) (Hw.out _ Kt.out).2 (Nat.lt_of_le_of_lt (Nat.zero_le _) V0.out.lt))
  rw [Int.natAbs_natCast] at HG
  obtain ⟨g, hge⟩ : ∃ g, Nat.gcd ((-z)).natAbs kn = g := ⟨_, rfl⟩
  rw [hge] at HG
  obtain ⟨hqn, hqd⟩ := rat_make (n := (-z)) (k := kn) Hkp.out
  rw [hge] at hqn hqd
  have hgp : 0 < g := by rw [← hge]; exact Nat.gcd_pos_of_pos_right _ Hkp.out
  have hgl : g < base 390 := by rw [← hge]; exact Nat.lt_of_le_of_lt (Nat.gcd_le_right _ Hkp.out) (by have := Lk.out; rwa [Int.natAbs_natCast] at this)
  have Hqn := Lib.hid hqn
  have Hqd := Lib.hid (show (((Rat.divInt (-z) kn).den : Nat) : Int) = (kn : Int) / (g : Int) by rw [hqd]; exact Int.natCast_ediv _ _)
  have Hgp := Lib.hid hgp
  have Hgl := Lib.hid (show ((g : Nat) : Int).natAbs < base 390 by rw [Int.natAbs_natCast]; exact hgl)
  obtain ⟨q, hqq⟩ : ∃ q, Rat.divInt (-z) kn = q := ⟨_, rfl⟩
  rw [hqq] at Hqn Hqd Hqt
  clear hge hqn hqd hgp hgl hqq
  have c0 := V0.out.c0
  have c1 := V0.out.c1
  have d0 := V1.out.c0
  have d1 := V1.out.c1
  go_wp2_with fail
  refine HG.out.mono ?_
  rintro e n1 ⟨ga, gP, rfl, hig, g1⟩
  have k3 := (Below.refl n1.heap.size n1).alloc (Nat.le_refl _) (.cells #[.int .i64 ga, .pointer gP] 26)
  have G0 := Lib.hid (Cells.new n1 #[.int .i64 ga, .pointer gP] 26)
  have V0 := Lib.hid ((V0.out.keep g1).keep k3)
  have V1 := Lib.hid ((V1.out.keep g1).keep k3)
  have R := Lib.hid ((R.out.keep g1).keep k3)
  have Hz := Lib.hid ((Hz.out.keep g1).keep k3)
  have Hk := Lib.hid ((Hk.out.keep g1).keep k3)
  have Hig := Lib.hid (hig.keep k3)
  have Ku := Lib.hid (below_on (below_on Kt.out g1) k3)
  obtain ⟨pg, hpg⟩ : ∃ p, n1.heap.size = p := ⟨_, rfl⟩
  obtain ⟨wu, hwu⟩ : ∃ wu, n1.alloc (.cells #[.int .i64 ga, .pointer gP] 26) = wu := ⟨_, rfl⟩
  rw [hwu] at G0 V0 V1 R Hz Hk Hig Ku
  rw [hpg] at G0
  clear g1 hig k3 c0 c1 d0 d1
  have HS := Lib.hid (fun v (hb : Below wu.heap.size wu v) => (⟨(V0.out.keep hb).c0, (V0.out.keep hb).c1, (V1.out.keep hb).c0, (V1.out.keep hb).c1, (G0.out.keep hb).c0, (G0.out.keep hb).c1⟩ : v.cell? ⟨w.heap.size, 0, none⟩ = some (.int .i64 a2) ∧ v.cell? ⟨w.heap.size, 1, none⟩ = some (.pointer P2) ∧ v.cell? ⟨w.heap.size + 1, 0, none⟩ = some (.int .i64 b2) ∧ v.cell? ⟨w.heap.size + 1, 1, none⟩ = some (.pointer Q2) ∧ v.cell? ⟨pg, 0, none⟩ = some (.int .i64 ga) ∧ v.cell? ⟨pg, 1, none⟩ = some (.pointer gP)))
  have HA := Lib.hid (fun v (hb : Below wu.heap.size wu v) => quotient_any a2 P2 ga gP (-z) (g : Int) v (Hz.out.keep hb) (Hig.out.keep hb) (by have := Hgp.out; omega) Lz.out Hgl.out)
  have HB := Lib.hid (fun v (hb : Below wu.heap.size wu v) => quotient_any b2 Q2 ga gP (kn : Int) (g : Int) v (Hk.out.keep hb) (Hig.out.keep hb) (by have := Hgp.out; omega) Lk.out Hgl.out)
  go_wp2_with fail
  try simp only [hpg, hwu]
  clear hpg hwu
  refine Till.begin 7 (fun v => v.cell? ⟨w.heap.size, 0, none⟩ = some (.int .i64 a2) ∧ v.cell? ⟨w.heap.size, 1, none⟩ = some (.pointer P2) ∧ v.cell? ⟨w.heap.size + 1, 0, none⟩ = some (.int .i64 b2) ∧ v.cell? ⟨w.heap.size + 1, 1, none⟩ = some (.pointer Q2) ∧ v.cell? ⟨pg, 0, none⟩ = some (.int .i64 ga) ∧ v.cell? ⟨pg, 1, none⟩ = some (.pointer gP)) (by kernel_rfl) (HS.out _ (Below.refl _ _).drew) (fun hH => ?_)
  refine Till.tk 0 2 21 (.agg #[.int .i64 a2, .pointer P2]) hH ?_
  try simp only [Act.put, List.setIfInBounds_toArray, List.set_cons_zero, List.set_cons_succ]
  refine Till.tk 1 2 22 (.agg #[.int .i64 ga, .pointer gP]) hH ?_
  try simp only [Act.put, List.setIfInBounds_toArray, List.set_cons_zero, List.set_cons_succ]
  refine Till.tk 3 5 24 (.agg #[.int .i64 b2, .pointer Q2]) hH ?_
  try simp only [Act.put, List.setIfInBounds_toArray, List.set_cons_zero, List.set_cons_succ]
  refine Till.tk 4 5 25 (.agg #[.int .i64 ga, .pointer gP]) hH ?_
  try simp only [Act.put, List.setIfInBounds_toArray, List.set_cons_zero, List.set_cons_succ]
  clear hH
  refine Till.one (i := 2) (by kernel_rfl) rfl (fun K hK => ?_)
  go_simp
  refine (HA.out _ (Below.refl _ _).drew).mono ?_
  rintro e v1 ⟨xa, xP, rfl, hx, g1⟩
  have B1 := Lib.hid (below_on (Below.refl wu.heap.size wu).drew g1)
  have Hx1 := Lib.hid hx
  clear g1 hx
  go_wp2_with fail
  refine hK.out _ _ (fun _ => HS.out _ B1.out) ?_
  clear hK K
  try simp only [Act.put, List.setIfInBounds_toArray, List.set_cons_zero, List.set_cons_succ]
  refine Till.one (i := 5) (by kernel_rfl) rfl (fun K hK => ?_)
  go_simp
  refine (HB.out _ B1.out).mono ?_
  rintro e v2 ⟨ya, yP, rfl, hy, g2⟩
  have B2 := Lib.hid (below_on B1.out g2)
  have Hx2 := Lib.hid (Hx1.out.keep g2)
  have Hy2 := Lib.hid hy
  rw [← Hqn.out] at Hx2
  rw [← Hqd.out] at Hy2
  clear g2 hy
  have HO := Lib.hid (of_any xa xP ya yP q v2 Hx2.out Hy2.out)
  go_wp2_with fail
  refine hK.out _ _ (fun _ => HS.out _ B2.out) ?_
  clear hK K
  try simp only [Act.put, List.setIfInBounds_toArray, List.set_cons_zero, List.set_cons_succ]
  refine Till.one (i := 6) (by kernel_rfl) rfl (fun K hK => ?_)
  go_simp
  refine (HO.out).mono ?_
  rintro e v3 ⟨oa, oP, ob, oQ, rfl, ho, g3⟩
  have B3 := Lib.hid (below_on B2.out g3)
  have Ho := Lib.hid ho
  clear g3 ho
  go_wp2_with fail
  refine hK.out _ _ (fun _ => HS.out _ B3.out) ?_
  clear hK K
  try simp only [Act.put, List.setIfInBounds_toArray, List.set_cons_zero, List.set_cons_succ]
  have R := Lib.hid (R.out.keep B3.out)
  have k0 := R.out.c0
  have k1 := R.out.c1
  have k2 := R.out.c2
  have k3 := R.out.c3
  have f0 := R.out.fz 0
  have f1 := R.out.fz 1
  have f2 := R.out.fz 2
  have f3 := R.out.fz 3
  refine Till.one (i := 7) (by kernel_rfl) rfl (fun K hK => ?_)
  go_simp
  refine hK.out _ _ (fun h => absurd h (by simp)) ?_
  clear hK K
  try simp only [Act.put, List.setIfInBounds_toArray, List.set_cons_zero, List.set_cons_succ]
  refine Till.one (i := 8) (by kernel_rfl) rfl (fun K hK => ?_)
  go_simp
  refine hK.out _ _ (fun h => absurd h (by simp)) ?_
  clear hK K
  try simp only [Act.put, List.setIfInBounds_toArray, List.set_cons_zero, List.set_cons_succ]
  refine Till.done (by kernel_rfl) ?_ _
  have Hfin := Lib.hid (Ho.out.wrote R.out (by rfl) (put4_heap v3 (w.heap.size + 1 + 1) (.int .i64 oa) (.pointer oP) (.int .i64 ob) (.pointer oQ)).1 (put4_heap _ _ _ _ _ _).2)
  have Kf := Lib.hid (below_put4 (below_on Ku.out B3.out) (show w.heap.size ≤ w.heap.size + 1 + 1 by omega) (.int .i64 oa) (.pointer oP) (.int .i64 ob) (.pointer oQ))
  go_wp2
  exact bodyPost_ret (v := .tuple #[.agg #[.int .i64 oa, .pointer oP, .int .i64 ob, .pointer oQ], .int .i64 0]) (by simp [results, Tryz.results11, go_sem, k0, k1, k2, k3]) rfl ⟨oa, oP, ob, oQ, rfl, by rw [Hqt.out]; exact Hfin.out, Kf.out⟩
set_option maxHeartbeats 4000000 in
theorem make_zero (a : Int) (P : Option Addr) (b : Int) (Q : Option Addr) (w : World) (h' : IsInt 0 w (.agg #[.int .i64 b, .pointer Q]) 0) :
    Calls Tryz.prog 11 #[.agg #[.int .i64 a, .pointer P], .agg #[.int .i64 b, .pointer Q]] w fun e w' => e = .returned (.tuple #[.agg #[.int .i64 0, .pointer none, .int .i64 0, .pointer none], .int .i64 19]) ∧ Below w.heap.size w w' := by
  have kk := (((Below.refl w.heap.size w).alloc (Nat.le_refl _) (.cells #[.int .i64 a, .pointer P] 26)).alloc (by simp) (.cells #[.int .i64 b, .pointer Q] 26)).alloc (by simp; omega) (.cells #[.int .i64 0, .pointer none, .int .i64 0, .pointer none] 28)
  have V0 := Lib.hid (((Cells.new w #[.int .i64 a, .pointer P] 26).keep ((Below.refl _ _).alloc (Nat.le_refl _) (.cells #[.int .i64 b, .pointer Q] 26))).keep ((Below.refl _ _).alloc (Nat.le_refl _) (.cells #[.int .i64 0, .pointer none, .int .i64 0, .pointer none] 28)))
  have V1 := Lib.hid ((Cells.new (w.alloc (.cells #[.int .i64 a, .pointer P] 26)) #[.int .i64 b, .pointer Q] 26).keep ((Below.refl _ _).alloc (Nat.le_refl _) (.cells #[.int .i64 0, .pointer none, .int .i64 0, .pointer none] 28)))
  have R := Lib.hid (Cells.new ((w.alloc (.cells #[.int .i64 a, .pointer P] 26)).alloc (.cells #[.int .i64 b, .pointer Q] 26)) #[.int .i64 0, .pointer none, .int .i64 0, .pointer none] 28)
  simp only [World.size_alloc] at V1 R
  have Hs := Lib.hid (signZ_any _ 0 _ (h'.keep kk))
  rw [show sgn 0 = 0 from rfl] at Hs
  have Kk := Lib.hid kk
  have d0 := V1.out.c0
  have d1 := V1.out.c1
  clear h' kk
  go_enter Tryz.func11, Tryz.ntmps11
  go_wp2_with fail
  refine Hs.out.mono ?_
  rintro e wt ⟨rfl, h1⟩
  have R := Lib.hid (R.out.keep h1)
  have Kf := Lib.hid (below_put4 (below_on Kk.out h1) (show w.heap.size ≤ w.heap.size + 1 + 1 by omega) (.int .i64 0) (.pointer none) (.int .i64 0) (.pointer none))
  clear h1 d0 d1
  have k0 := R.out.c0
  have k1 := R.out.c1
  have k2 := R.out.c2
  have k3 := R.out.c3
  have f0 := R.out.fz 0
  have f1 := R.out.fz 1
  have f2 := R.out.fz 2
  have f3 := R.out.fz 3
  go_wp2
  exact bodyPost_ret (v := .tuple #[.agg #[.int .i64 0, .pointer none, .int .i64 0, .pointer none], .int .i64 19]) (by simp [results, Tryz.results11, go_sem, k0, k1, k2, k3]) rfl ⟨rfl, Kf.out⟩
/-- Make of any two integers. -/
theorem make_any (a : Int) (P : Option Addr) (b : Int) (Q : Option Addr) (z k : Int) (w : World) (h : IsInt 0 w (.agg #[.int .i64 a, .pointer P]) z) (h' : IsInt 0 w (.agg #[.int .i64 b, .pointer Q]) k) (hk0 : k ≠ 0) (hlz : z.natAbs < base 390) (hlk : k.natAbs < base 390) (hg : Good w) :
    Calls Tryz.prog 11 #[.agg #[.int .i64 a, .pointer P], .agg #[.int .i64 b, .pointer Q]] w (Made (Rat.divInt z k) w) := by
  rcases Int.lt_or_gt_of_ne hk0 with hn | hp
  · have e : k = -((k.natAbs : Nat) : Int) := by omega
    have e2 : Rat.divInt z k = Rat.divInt (-z) (k.natAbs : Nat) := by rw [← rat_neg]; congr 1; omega
    rw [e2]
    rw [e] at h'
    exact make_neg a P b Q z k.natAbs w h h' (by omega) (by rw [Int.natAbs_neg]; exact hlz) (by rw [Int.natAbs_natCast]; exact hlk) hg
  · have e : k = ((k.natAbs : Nat) : Int) := by omega
    rw [e]
    rw [e] at h'
    exact make_pos a P b Q z k.natAbs w h h' (by omega) hlz (by rw [Int.natAbs_natCast]; exact hlk) hg
end Go.Proofs.YtbpbfjnndkoioaaGreatDoor
