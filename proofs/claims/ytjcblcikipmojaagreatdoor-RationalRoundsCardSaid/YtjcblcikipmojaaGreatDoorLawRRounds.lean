/- The law RationalRounds: its walk. -/
import Derived.Test.YtjcblcikipmojaaGreatDoorRatU
import Derived.Test.YtjcblcikipmojaaGreatDoorReg
namespace Go.Proofs.YtjcblcikipmojaaGreatDoor
open Go.RowKit

/-- Rounded down, and up. -/
def floorZ (p : Rat) : Int := p.num / (p.den : Int)
def ceilZ (p : Rat) : Int := -(-p.num / (p.den : Int))
theorem cmpZ_le0 {a b : Int} (h : a ≤ b) : decide (cmpZ a b ≤ 0) = true := by
  unfold cmpZ
  split
  · decide
  · rw [if_neg (by omega)]; decide
theorem cmpZ_lt0 {a b : Int} (h : a < b) : decide (cmpZ a b < 0) = true := by
  unfold cmpZ
  rw [if_pos h]
  decide
theorem floor_mul (p : Rat) : floorZ p * (p.den : Int) ≤ p.num := Int.ediv_mul_le _ (by have := p.den_pos; omega)
theorem floor_next (p : Rat) : p.num < (floorZ p + 1) * (p.den : Int) := Int.lt_ediv_add_one_mul_self _ (by have := p.den_pos; omega)
theorem ceil_mul (p : Rat) : p.num ≤ ceilZ p * (p.den : Int) := by
  have h := Int.ediv_mul_le (-p.num) (b := (p.den : Int)) (by have := p.den_pos; omega)
  unfold ceilZ
  rw [Int.neg_mul]
  omega
theorem ceil_next (p : Rat) : (ceilZ p - 1) * (p.den : Int) < p.num := by
  have h := Int.lt_ediv_add_one_mul_self (-p.num) (b := (p.den : Int)) (by have := p.den_pos; omega)
  unfold ceilZ
  have e : (-(-p.num / (p.den : Int)) - 1) * (p.den : Int) = -((-p.num / (p.den : Int) + 1) * (p.den : Int)) := by
    rw [← Int.neg_mul]
    congr 1
    omega
  rw [e]
  omega
theorem cmp_floor (p : Rat) : decide (cmpR ((floorZ p : Int) : Rat) p ≤ 0) = true := by
  unfold cmpR
  rw [(rat_int (floorZ p)).1, (rat_int (floorZ p)).2]
  exact cmpZ_le0 (by have := floor_mul p; omega)
theorem cmp_floor1 (p : Rat) : decide (cmpR p (((floorZ p : Int) : Rat) + ((1 : Int) : Rat)) < 0) = true := by
  rw [← Rat.intCast_add]
  unfold cmpR
  rw [(rat_int (floorZ p + 1)).1, (rat_int (floorZ p + 1)).2]
  exact cmpZ_lt0 (by have := floor_next p; omega)
theorem cmp_ceil (p : Rat) : decide (cmpR p ((ceilZ p : Int) : Rat) ≤ 0) = true := by
  unfold cmpR
  rw [(rat_int (ceilZ p)).1, (rat_int (ceilZ p)).2]
  exact cmpZ_le0 (by have := ceil_mul p; omega)
theorem cmp_ceil1 (p : Rat) : decide (cmpR (((ceilZ p : Int) : Rat) - ((1 : Int) : Rat)) p < 0) = true := by
  rw [← Rat.intCast_sub]
  unfold cmpR
  rw [(rat_int (ceilZ p - 1)).1, (rat_int (ceilZ p - 1)).2]
  exact cmpZ_lt0 (by have := ceil_next p; omega)
theorem floor_ceil (p : Rat) : (cmpZ (floorZ p) (ceilZ p) == 0) = ((txt (p.den : Int)).toList == [49]) := by
  by_cases hd : p.den = 1
  · have e : floorZ p = ceilZ p := by
      unfold floorZ ceilZ
      rw [hd]
      simp
    rw [e, cmpZ_eq rfl, hd]
    decide +kernel
  · rw [txt_not1 (by omega) (by omega)]
    have hp := p.den_pos
    have hne : floorZ p ≠ ceilZ p := by
      intro e
      have h1 := floor_mul p
      have h2 := ceil_mul p
      rw [← e] at h2
      have h3 : p.num = floorZ p * (p.den : Int) := by omega
      have h4 : p.den ∣ p.num.natAbs := Int.ofNat_dvd_left.1 ⟨floorZ p, by rw [h3, Int.mul_comm]⟩
      have h5 := p.reduced
      unfold Nat.Coprime at h5
      rw [Nat.gcd_eq_right h4] at h5
      exact hd h5
    rw [beq_eq_false_iff_ne]
    unfold cmpZ
    split
    · omega
    · rw [if_pos (by omega)]; omega
theorem floor_few {p : Rat} {k : Nat} (h : Few p k) : (floorZ p).natAbs < ten k := Nat.lt_of_le_of_lt (Int.natAbs_ediv_le_natAbs _ _) h.n
theorem ceil_few {p : Rat} {k : Nat} (h : Few p k) : (ceilZ p).natAbs < ten k := by
  unfold ceilZ
  rw [Int.natAbs_neg]
  have := Int.natAbs_ediv_le_natAbs (-p.num) (p.den : Int)
  rw [Int.natAbs_neg] at this
  exact Nat.lt_of_le_of_lt this h.n
theorem Few.int {z : Int} {k : Nat} (h : z.natAbs < ten k) (hk : 0 < k) : Few (z : Rat) k := ⟨by rw [(rat_int z).1]; exact h, by rw [(rat_int z).2]; exact Nat.lt_of_lt_of_le (by decide : 1 < ten 1) (ten_le hk)⟩
theorem floor_neg (p : Rat) : floorZ (-p) = -p.num / (p.den : Int) := by
  unfold floorZ
  rw [Rat.neg_num, Rat.neg_den]
set_option maxHeartbeats 4000000 in
theorem refFloorR_any {p : Rat} {k : Nat} (hp : Few p k) (hk : k ≤ 900) (w : World) : Calls Tryz.prog 59 #[.string (ratTxt p)] w fun e w' => e = .returned (.string (txt (floorZ p))) ∧ Below w.heap.size w w' := by
  have n1 := hp.ns hk
  have n2 := hp.ds hk
  have pp := p.den_pos
  have HP := Lib.hid (fun w => refParts_any p w (by omega) (by omega))
  have HD := Lib.hid (fun w => (refDivMod_any p.num (p.den : Int) w (by omega) (by omega) (by omega)).mono (R' := fun e w' => (∃ r : Int, e = .returned (.tuple #[.string (txt (floorZ p)), .string (txt r)])) ∧ Below w.heap.size w w') (fun e w' h => by
    obtain ⟨⟨q, r, rfl, hdm⟩, hb⟩ := h
    have hq := dm_ediv (by omega) hdm
    subst hq
    exact ⟨⟨r, rfl⟩, hb⟩))
  clear n1 n2 hp pp hk
  generalize txt (floorZ p) = X at HD ⊢
  generalize txt p.num = A1 at HP HD
  generalize txt (p.den : Int) = A2 at HP HD
  generalize ratTxt p = T1 at HP ⊢
  go_enter Tryz.func59, Tryz.ntmps59
  go_wp2_with fail
  refine (HP.out _).mono ?_
  rintro e w1 ⟨rfl, h1⟩
  have K := Lib.hid h1
  clear h1
  go_wp2_with fail
  refine (HD.out _).mono ?_
  rintro e w2 ⟨⟨r, rfl⟩, h1⟩
  replace K := Lib.hid (below_on K.out h1)
  clear h1
  go_wp2
  go_ret
  exact ⟨rfl, K.out⟩
set_option maxHeartbeats 4000000 in
theorem refCeilR_any {p : Rat} {k : Nat} (hp : Few p k) (hk : k ≤ 900) (w : World) : Calls Tryz.prog 60 #[.string (ratTxt p)] w fun e w' => e = .returned (.string (txt (ceilZ p))) ∧ Below w.heap.size w w' := by
  have HN := Lib.hid (fun w => refNegR_any hp hk w)
  have HF := Lib.hid (fun w => refFloorR_any hp.neg hk w)
  have s1 := ten_txt (floor_few hp.neg) (by omega)
  have HM := Lib.hid (fun w => refNeg_any (floorZ (-p)) w (by omega))
  rw [show -floorZ (-p) = ceilZ p from by rw [floor_neg]; rfl] at HM
  clear hp hk s1
  generalize txt (ceilZ p) = X at HM ⊢
  generalize txt (floorZ (-p)) = Y at HF HM
  generalize ratTxt (-p) = T2 at HN HF
  generalize ratTxt p = T1 at HN ⊢
  go_enter Tryz.func60, Tryz.ntmps60
  go_wp2_with fail
  refine (HN.out _).mono ?_
  rintro e w1 ⟨rfl, h1⟩
  have K := Lib.hid h1
  clear h1
  go_wp2_with fail
  refine (HF.out _).mono ?_
  rintro e w2 ⟨rfl, h1⟩
  replace K := Lib.hid (below_on K.out h1)
  clear h1
  go_wp2_with fail
  refine (HM.out _).mono ?_
  rintro e w3 ⟨rfl, h1⟩
  replace K := Lib.hid (below_on K.out h1)
  clear h1
  go_wp2
  go_ret
  exact ⟨rfl, K.out⟩
set_option maxHeartbeats 4000000 in
theorem right_one (s : ByteArray) (w : World) (hs : s.size ≤ 9223372036854775807) :
    Calls Tryz.prog 25 #[.slice (some ⟨w.heap.size, 0, none⟩) 1 1] (w.alloc (.cells #[.string s] 9)) (RightR [s] (w.alloc (.cells #[.string s] 9))) :=
  rright_any [s] w.heap.size 1 _ rfl (by decide) (by decide) (by simp) (fun k u h => by
    match k, h with
    | 0, h => simp at h; subst h; simp [go_sem]) (fun u h => by rw [List.mem_singleton.1 h]; exact hs)
set_option maxRecDepth 100000 in
set_option maxHeartbeats 16000000 in
theorem rationalRounds_walk (s : ByteArray) (w : World) (hs : s.size ≤ 9223372036854775807) (hw : Good w) :
    Calls Tryz.prog 10 #[.string s] w fun e w' => e = .returned (.bool true) ∧ Below w.heap.size w w' := by
  have Hw := Lib.hid (fun w' (h : Below w.heap.size w w') => hw.below h)
  have Hk := Lib.hid (known2_true w hw)
  clear hw
  go_enter Tryz.func10, Tryz.ntmps10
  go_wp2_with fail
  refine Hk.out.mono ?_
  rintro e w1 ⟨rfl, h1⟩
  have k1 := Lib.hid h1
  have HR := Lib.hid (right_one s w1 hs)
  clear h1
  go_wp2_with fail
  refine HR.out.mono ?_
  rintro e w2 ⟨⟨b0, rfl, hb0⟩, h2⟩
  have k2 := Lib.hid (below_on (below_on k1.out ((Below.refl _ _).alloc (Nat.le_refl _) _)) h2)
  have Hk2 := Lib.hid (known2_true w2 (Hw.out _ k2.out))
  have Hb0 := Lib.hid hb0
  clear h2 hb0
  cases b0 with
  | false =>
    go_wp2_with fail
    refine Hk2.out.mono ?_
    rintro e w3 ⟨rfl, h2⟩
    have k3 := Lib.hid (below_on k2.out h2)
    clear h2
    go_wp2
    go_ret
    exact ⟨rfl, k3.out⟩
  | true =>
    obtain ⟨p, hp⟩ := Hb0.out rfl s (List.mem_cons_self ..)
    have Hp := Lib.hid hp
    clear hp
    have HRp := Lib.hid (fun w' hg => rread_any Hp.out w' hg)
    go_wp2_with fail
    refine (HRp.out _ (Hw.out _ k2.out)).mono ?_
    rintro e w3 ⟨a, P, b, Q, rfl, hv, h3⟩
    have kv := (Below.refl w3.heap.size w3).alloc (Nat.le_refl _) (.cells #[.int .i64 a, .pointer P, .int .i64 b, .pointer Q] 27)
    have V6 := Lib.hid (VarR.new hv)
    have K4 := Lib.hid (below_on (below_on k2.out h3) kv)
    obtain ⟨wm, hwm⟩ : ∃ u, w3.alloc (.cells #[.int .i64 a, .pointer P, .int .i64 b, .pointer Q] 27) = u := ⟨_, rfl⟩
    rw [hwm] at V6 K4
    obtain ⟨p6, hp6⟩ : ∃ p, w3.heap.size = p := ⟨_, rfl⟩
    rw [hp6] at V6
    have C6 := Lib.hid V6.out.cells
    clear hv h3 kv
    have fp := Hp.out.few
    have Ff := Lib.hid (Few.int (floor_few fp) (by decide))
    have Fc := Lib.hid (Few.int (ceil_few fp) (by decide))
    have Fp := Lib.hid fp
    have HFl := Lib.hid (fun w' (hb : Below wm.heap.size wm w') => floor_any a P b Q p w' (V6.out.keep hb).rat (fp.n390 (by decide)) (fp.d390 (by decide)))
    have HCl := Lib.hid (fun w' (hb : Below wm.heap.size wm w') => ceil_any a P b Q p w' (V6.out.keep hb).rat (fp.n390 (by decide)) (fp.d390 (by decide)))
    have e1 : p.num / (p.den : Int) = floorZ p := rfl
    have e2 : -(-p.num / (p.den : Int)) = ceilZ p := rfl
    rw [e1] at HFl
    rw [e2] at HCl
    clear fp e1 e2
    have HS := Lib.hid (fun w' (hb : Below wm.heap.size wm w') => (⟨(C6.out.keep hb).c0, (C6.out.keep hb).c1, (C6.out.keep hb).c2, (C6.out.keep hb).c3⟩ : w'.cell? ⟨p6, 0, none⟩ = some (.int .i64 a) ∧ w'.cell? ⟨p6, 1, none⟩ = some (.pointer P) ∧ w'.cell? ⟨p6, 2, none⟩ = some (.int .i64 b) ∧ w'.cell? ⟨p6, 3, none⟩ = some (.pointer Q)))
    go_upto_region 4 with fail
    try simp only [hwm, hp6]
    try clear hwm hp6
    go_cut [4, 5] (fun s s' wx => ∃ (p1 : Nat) (x : Int) (X : Option Addr) (p2 : Nat) (y : Int) (Y : Option Addr), s = .pointer (some ⟨p1, 0, none⟩) ∧ s' = .pointer (some ⟨p2, 0, none⟩) ∧ Var wx p1 x X (floorZ p) ∧ Var wx p2 y Y (ceilZ p) ∧ p1 ≠ p2 ∧ wm.heap.size ≤ p1 ∧ wm.heap.size ≤ p2 ∧ Below wm.heap.size wm wx)
    case first =>
      refine Till.begin 7 (fun w' => w'.cell? ⟨p6, 0, none⟩ = some (.int .i64 a) ∧ w'.cell? ⟨p6, 1, none⟩ = some (.pointer P) ∧ w'.cell? ⟨p6, 2, none⟩ = some (.int .i64 b) ∧ w'.cell? ⟨p6, 3, none⟩ = some (.pointer Q)) (by kernel_rfl) (HS.out _ (Below.refl _ _).drew) (fun hH => ?_)
      refine Till.take (i := 0) (m := 1) (d := some 24) (u := .agg #[.int .i64 a, .pointer P, .int .i64 b, .pointer Q]) rfl rfl (by kernel_rfl) (by kernel_rfl) (by kernel_rfl) (by kernel_rfl) (by kernel_rfl) (by kernel_rfl) (by kernel_rfl) (fun _ _ _ h => h) (by kernel_rfl) (by (intro w hSw; (try dsimp only at hSw); go_split_ands; go_simp)) hH ?_
      try simp only [Act.put, List.setIfInBounds_toArray, List.set_cons_zero, List.set_cons_succ]
      refine Till.take (i := 2) (m := 3) (d := some 26) (u := .agg #[.int .i64 a, .pointer P, .int .i64 b, .pointer Q]) rfl rfl (by kernel_rfl) (by kernel_rfl) (by kernel_rfl) (by kernel_rfl) (by kernel_rfl) (by kernel_rfl) (by kernel_rfl) (fun _ _ _ h => h) (by kernel_rfl) (by (intro w hSw; (try dsimp only at hSw); go_split_ands; go_simp)) hH ?_
      try simp only [Act.put, List.setIfInBounds_toArray, List.set_cons_zero, List.set_cons_succ]
      clear hH
      have B0 := Lib.hid (Below.refl wm.heap.size wm).drew
      generalize wm.drew = v0 at B0 ⊢
      refine Till.phaseP [1, 3, 4, 5] #[true, true, true, true, true, true, false, false] 2 (fun a0 d a v => ∃ t1 t3 t4 t5 : Value, a = puts a0 [(25, t1), (27, t3), (4, t4), (5, t5)] ∧ Below wm.heap.size wm v ∧ (d 1 = true → IntAt v t1 (floorZ p)) ∧ (d 3 = true → IntAt v t3 (ceilZ p)) ∧ (d 4 = true → PtrI wm.heap.size v t4) ∧ (d 5 = true → PtrI wm.heap.size v t5) ∧ (d 4 = true → d 5 = true → t4 ≠ t5)) rfl (by kernel_rfl) (by rintro d a v ⟨_, _, _, _, rfl, hB, _⟩; exact HS.out _ hB) ⟨_, _, _, _, rfl, B0.out, (fun h => absurd h (by decide)), (fun h => absurd h (by decide)), (fun h => absurd h (by decide)), (fun h => absurd h (by decide)), (fun h => absurd h (by decide))⟩ ⟨⟨_, rfl, ?_⟩, ⟨_, rfl, ?_⟩, ⟨_, rfl, ?_⟩, ⟨_, rfl, ?_⟩, trivial⟩ ?_
      · rintro d a v ⟨t1, t3, t4, t5, rfl, hB, F1, F3, F4, F5, D4_5⟩ hi ha K hK
        replace hB := Lib.hid hB
        replace F1 := Lib.hid F1
        replace F3 := Lib.hid F3
        replace F4 := Lib.hid F4
        replace F5 := Lib.hid F5
        replace D4_5 := Lib.hid D4_5
        clear ha
        refine Pent.mk ?_
        try simp only [puts, Act.put, List.setIfInBounds_toArray, List.set_cons_zero, List.set_cons_succ]
        go_simp
        refine (HFl.out _ hB.out).mono ?_
        rintro e v1 ⟨x1, X1, rfl, hx, g⟩
        replace hx := Lib.hid hx
        replace g := Lib.hid g
        go_wp2_with fail
        exact hK.out _ _ ⟨.agg #[.int .i64 x1, .pointer X1], t3, t4, t5, (by kernel_rfl), below_on hB.out g.out, fun _ => ⟨x1, X1, rfl, hx.out⟩, fun h => (F3.out h).keep g.out, fun h => (F4.out h).keep g.out, fun h => (F5.out h).keep g.out, fun h h2 => D4_5.out h h2⟩
      · rintro d a v ⟨t1, t3, t4, t5, rfl, hB, F1, F3, F4, F5, D4_5⟩ hi ha K hK
        obtain ⟨x1, X1, rfl, I1⟩ := F1 (ha 1 (by kernel_rfl))
        replace hB := Lib.hid hB
        replace F1 := Lib.hid F1
        replace F3 := Lib.hid F3
        replace F4 := Lib.hid F4
        replace F5 := Lib.hid F5
        replace I1 := Lib.hid I1
        replace D4_5 := Lib.hid D4_5
        clear ha
        refine Pent.mk ?_
        try simp only [puts, Act.put, List.setIfInBounds_toArray, List.set_cons_zero, List.set_cons_succ]
        go_simp
        refine (HCl.out _ hB.out).mono ?_
        rintro e v1 ⟨x3, X3, rfl, hx, g⟩
        replace hx := Lib.hid hx
        replace g := Lib.hid g
        go_wp2_with fail
        exact hK.out _ _ ⟨.agg #[.int .i64 x1, .pointer X1], .agg #[.int .i64 x3, .pointer X3], t4, t5, (by kernel_rfl), below_on hB.out g.out, fun h => (F1.out h).keep g.out, fun _ => ⟨x3, X3, rfl, hx.out⟩, fun h => (F4.out h).keep g.out, fun h => (F5.out h).keep g.out, fun h h2 => D4_5.out h h2⟩
      · rintro d a v ⟨t1, t3, t4, t5, rfl, hB, F1, F3, F4, F5, D4_5⟩ hi ha K hK
        replace hB := Lib.hid hB
        replace F1 := Lib.hid F1
        replace F3 := Lib.hid F3
        replace F4 := Lib.hid F4
        replace F5 := Lib.hid F5
        replace D4_5 := Lib.hid D4_5
        clear ha
        refine Pent.mk ?_
        try simp only [puts, Act.put, List.setIfInBounds_toArray, List.set_cons_zero, List.set_cons_succ]
        have g := Lib.hid ((Below.refl v.heap.size v).alloc (Nat.le_refl _) (.cells #[.int .i64 0, .pointer none] 25))
        go_simp
        exact hK.out _ _ ⟨t1, t3, .pointer (some ⟨v.heap.size, 0, none⟩), t5, (by kernel_rfl), below_on hB.out g.out, fun h => (F1.out h).keep g.out, fun h => (F3.out h).keep g.out, fun _ => ⟨v.heap.size, rfl, hB.out.size, Hold.new v 0 none⟩, fun h => (F5.out h).keep g.out, fun _ h => ((F5.out h).ne).symm⟩
      · rintro d a v ⟨t1, t3, t4, t5, rfl, hB, F1, F3, F4, F5, D4_5⟩ hi ha K hK
        replace hB := Lib.hid hB
        replace F1 := Lib.hid F1
        replace F3 := Lib.hid F3
        replace F4 := Lib.hid F4
        replace F5 := Lib.hid F5
        replace D4_5 := Lib.hid D4_5
        clear ha
        refine Pent.mk ?_
        try simp only [puts, Act.put, List.setIfInBounds_toArray, List.set_cons_zero, List.set_cons_succ]
        have g := Lib.hid ((Below.refl v.heap.size v).alloc (Nat.le_refl _) (.cells #[.int .i64 0, .pointer none] 25))
        go_simp
        exact hK.out _ _ ⟨t1, t3, t4, .pointer (some ⟨v.heap.size, 0, none⟩), (by kernel_rfl), below_on hB.out g.out, fun h => (F1.out h).keep g.out, fun h => (F3.out h).keep g.out, fun h => (F4.out h).keep g.out, fun _ => ⟨v.heap.size, rfl, hB.out.size, Hold.new v 0 none⟩, fun h _ => (F4.out h).ne⟩
      · rintro d a v ⟨t1, t3, t4, t5, rfl, hB, F1, F3, F4, F5, D4_5⟩ hE
        obtain ⟨x1, X1, rfl, I1⟩ := F1 (hE 1 (by decide))
        obtain ⟨x3, X3, rfl, I3⟩ := F3 (hE 3 (by decide))
        obtain ⟨p4, rfl, le4, N4⟩ := F4 (hE 4 (by decide))
        obtain ⟨p5, rfl, le5, N5⟩ := F5 (hE 5 (by decide))
        have ne4_5 : p4 ≠ p5 := fun h => D4_5 (hE 4 (by decide)) (hE 5 (by decide)) (by rw [h])
        have ne5_4 : p5 ≠ p4 := Ne.symm ne4_5
        clear hE F1 F3 F4 F5 D4_5
        replace hB := Lib.hid hB
        replace I1 := Lib.hid I1
        replace I3 := Lib.hid I3
        replace N4 := Lib.hid N4
        replace N5 := Lib.hid N5
        refine Pent.mk ?_
        try simp only [puts, Act.put, List.setIfInBounds_toArray, List.set_cons_zero, List.set_cons_succ]
        have k40 := N4.out.c0
        have k41 := N4.out.c1
        have f40 := N4.out.f0
        have f41 := N4.out.f1
        have k50 := N5.out.c0
        have k51 := N5.out.c1
        have f50 := N5.out.f0
        have f51 := N5.out.f1
        refine Till.one (i := 6) (by kernel_rfl) rfl (fun K hK => ?_)
        go_simp
        refine hK.out _ _ (fun _ => HS.out _ (below_stored hB.out le4 (.int .i64 x1) (.pointer X1))) ?_
        clear hK K
        try simp only [List.setIfInBounds_toArray, List.set_cons_zero, List.set_cons_succ]
        refine Till.one (i := 7) (by kernel_rfl) rfl (fun K hK => ?_)
        go_simp
        refine hK.out _ _ (fun h => absurd h (by simp)) ?_
        clear hK K
        try simp only [List.setIfInBounds_toArray, List.set_cons_zero, List.set_cons_succ]
        refine Till.done (by kernel_rfl) ?_ _
        go_wp2_with fail
        go_meet
        exact ⟨p4, x1, X1, p5, x3, X3, rfl, rfl, (var_put N4.out I1.out).held (N5.out.other ne5_4 (.int .i64 x1) (.pointer X1)) ne4_5 (.int .i64 x3) (.pointer X3), var_put (N5.out.other ne5_4 (.int .i64 x1) (.pointer X1)) (I3.out.held N4.out _ _), ne4_5, le4, le5, below_stored (below_stored hB.out le4 (.int .i64 x1) (.pointer X1)) le5 (.int .i64 x3) (.pointer X3)⟩
    case rest =>
      obtain ⟨p4, x1, X1, p5, x2, X2, rfl, rfl, hv1, hv2, hne, le1, le2, hb⟩ := hcut
      replace V6 := Lib.hid (V6.out.keep hb)
      replace C6 := Lib.hid (C6.out.keep hb)
      replace K4 := Lib.hid (below_on K4.out hb)
      have A1 := Lib.hid hv1
      have A2 := Lib.hid hv2
      clear hv1 hv2 hne le1 le2 hb HS HFl HCl
      generalize wc = wn at *
      have HM1 := Lib.hid (fun w' (hb : Below wn.heap.size wn w') => make_any x1 X1 1 none (floorZ p) 1 w' (A1.out.keep hb).int (small_int ⟨by decide, by decide⟩) (by decide) (by have := Ff.out.n390 (by decide); rwa [(rat_int (floorZ p)).1] at this) (by decide +kernel) (Hw.out _ (below_on K4.out hb)))
      rw [show Rat.divInt (floorZ p) 1 = ((floorZ p : Int) : Rat) from divInt_self_one _] at HM1
      have HS := Lib.hid (fun w' (hb : Below wn.heap.size wn w') => (⟨(A1.out.keep hb).c0, (A1.out.keep hb).c1⟩ : w'.cell? ⟨p4, 0, none⟩ = some (.int .i64 x1) ∧ w'.cell? ⟨p4, 1, none⟩ = some (.pointer X1)))
      go_upto_region 5 with fail
      go_cut [6, 7] (fun s s' wx => ∃ (p1 : Nat) (x : Int) (X : Option Addr) (y : Int) (Y : Option Addr), s = .pointer (some ⟨p1, 0, none⟩) ∧ s' = .int .i64 0 ∧ VarR wx p1 x X y Y (((floorZ p : Int) : Rat)) ∧ wn.heap.size ≤ p1 ∧ Below wn.heap.size wn wx)
      case first =>
        refine Till.begin 7 (fun w' => w'.cell? ⟨p4, 0, none⟩ = some (.int .i64 x1) ∧ w'.cell? ⟨p4, 1, none⟩ = some (.pointer X1)) (by kernel_rfl) (HS.out _ (Below.refl _ _).drew) (fun hH => ?_)
        refine Till.take (i := 0) (m := 2) (d := some 29) (u := .agg #[.int .i64 x1, .pointer X1]) rfl rfl (by kernel_rfl) (by kernel_rfl) (by kernel_rfl) (by kernel_rfl) (by kernel_rfl) (by kernel_rfl) (by kernel_rfl) (fun _ _ _ h => h) (by kernel_rfl) (by (intro w hSw; (try dsimp only at hSw); go_split_ands; go_simp)) hH ?_
        try simp only [Act.put, List.setIfInBounds_toArray, List.set_cons_zero, List.set_cons_succ]
        clear hH
        have B0 := Lib.hid (Below.refl wn.heap.size wn).drew
        generalize wn.drew = v0 at B0 ⊢
        refine Till.phaseP [1, 2, 3, 4, 5, 6, 7] #[true, true, true, true, true, true, true, true, false] 1 (fun a0 d a v => ∃ t1 t2 t3 t4 t5 t6 : Value, a = puts a0 [(30, t1), (31, t2), (28, t3), (32, t4), (33, t5), (6, t6)] ∧ Below wn.heap.size wn v ∧ (d 1 = true → t1 = .agg #[.int .i64 1, .pointer none]) ∧ (d 2 = true → MadeAt v t2 (((floorZ p : Int) : Rat))) ∧ (d 3 = true → MadeAt v t3 (((floorZ p : Int) : Rat))) ∧ (d 4 = true → RatAt v t4 (((floorZ p : Int) : Rat))) ∧ (d 5 = true → t5 = .int .i64 0) ∧ (d 6 = true → d 7 = false → PtrR wn.heap.size v t6) ∧ (d 7 = true → VarRAt wn.heap.size v t6 (((floorZ p : Int) : Rat))) ∧ (d 7 = true → d 6 = true)) rfl (by kernel_rfl) (by rintro d a v ⟨_, _, _, _, _, _, rfl, hB, _⟩; exact HS.out _ hB) ⟨_, _, _, _, _, _, rfl, B0.out, (fun h => absurd h (by decide)), (fun h => absurd h (by decide)), (fun h => absurd h (by decide)), (fun h => absurd h (by decide)), (fun h => absurd h (by decide)), (fun h => absurd h (by decide)), (fun h => absurd h (by decide)), (fun h => absurd h (by decide))⟩ ⟨⟨_, rfl, ?_⟩, ⟨_, rfl, ?_⟩, ⟨_, rfl, ?_⟩, ⟨_, rfl, ?_⟩, ⟨_, rfl, ?_⟩, ⟨_, rfl, ?_⟩, ⟨_, rfl, ?_⟩, trivial⟩ ?_
        · rintro d a v ⟨t1, t2, t3, t4, t5, t6, rfl, hB, F1, F2, F3, F4, F5, F6, F7, G7⟩ hi ha K hK
          replace hB := Lib.hid hB
          replace F1 := Lib.hid F1
          replace F2 := Lib.hid F2
          replace F3 := Lib.hid F3
          replace F4 := Lib.hid F4
          replace F5 := Lib.hid F5
          replace F6 := Lib.hid F6
          replace F7 := Lib.hid F7
          replace G7 := Lib.hid G7
          clear ha
          refine Pent.mk ?_
          try simp only [puts, Act.put, List.setIfInBounds_toArray, List.set_cons_zero, List.set_cons_succ]
          go_simp
          refine (from_any _ _).mono ?_
          rintro e v1 ⟨rfl, g⟩
          replace g := Lib.hid g
          go_wp2_with fail
          exact hK.out _ _ ⟨.agg #[.int .i64 1, .pointer none], t2, t3, t4, t5, t6, (by kernel_rfl), below_on hB.out g.out, fun _ => rfl, fun h => (F2.out h).keep g.out, fun h => (F3.out h).keep g.out, fun h => (F4.out h).keep g.out, fun h => F5.out h, fun h h2 => (F6.out h h2).keep g.out, fun h => (F7.out h).keep g.out, fun h => G7.out h⟩
        · rintro d a v ⟨t1, t2, t3, t4, t5, t6, rfl, hB, F1, F2, F3, F4, F5, F6, F7, G7⟩ hi ha K hK
          have e1 := F1 (ha 1 (by kernel_rfl))
          subst e1
          replace hB := Lib.hid hB
          replace F1 := Lib.hid F1
          replace F2 := Lib.hid F2
          replace F3 := Lib.hid F3
          replace F4 := Lib.hid F4
          replace F5 := Lib.hid F5
          replace F6 := Lib.hid F6
          replace F7 := Lib.hid F7
          replace G7 := Lib.hid G7
          clear ha
          refine Pent.mk ?_
          try simp only [puts, Act.put, List.setIfInBounds_toArray, List.set_cons_zero, List.set_cons_succ]
          go_simp
          refine (HM1.out _ hB.out).mono ?_
          rintro e v1 ⟨x2, X2, y2, Y2, rfl, hx, g⟩
          replace hx := Lib.hid hx
          replace g := Lib.hid g
          go_wp2_with fail
          exact hK.out _ _ ⟨.agg #[.int .i64 1, .pointer none], .tuple #[.agg #[.int .i64 x2, .pointer X2, .int .i64 y2, .pointer Y2], .int .i64 0], t3, t4, t5, t6, (by kernel_rfl), below_on hB.out g.out, fun _ => rfl, fun _ => ⟨x2, X2, y2, Y2, rfl, hx.out⟩, fun h => (F3.out h).keep g.out, fun h => (F4.out h).keep g.out, fun h => F5.out h, fun h h2 => (F6.out h h2).keep g.out, fun h => (F7.out h).keep g.out, fun h => G7.out h⟩
        · rintro d a v ⟨t1, t2, t3, t4, t5, t6, rfl, hB, F1, F2, F3, F4, F5, F6, F7, G7⟩ hi ha K hK
          obtain ⟨x2, X2, y2, Y2, rfl, I2⟩ := F2 (ha 2 (by kernel_rfl))
          replace hB := Lib.hid hB
          replace F1 := Lib.hid F1
          replace F2 := Lib.hid F2
          replace F3 := Lib.hid F3
          replace F4 := Lib.hid F4
          replace F5 := Lib.hid F5
          replace F6 := Lib.hid F6
          replace F7 := Lib.hid F7
          replace G7 := Lib.hid G7
          replace I2 := Lib.hid I2
          clear ha
          refine Pent.mk ?_
          try simp only [puts, Act.put, List.setIfInBounds_toArray, List.set_cons_zero, List.set_cons_succ]
          have g := Lib.hid (Below.refl v.heap.size v)
          go_simp
          exact hK.out _ _ ⟨t1, .tuple #[.agg #[.int .i64 x2, .pointer X2, .int .i64 y2, .pointer Y2], .int .i64 0], .tuple #[.agg #[.int .i64 x2, .pointer X2, .int .i64 y2, .pointer Y2], .int .i64 0], t4, t5, t6, (by kernel_rfl), below_on hB.out g.out, fun h => F1.out h, fun h => (F2.out h).keep g.out, fun _ => ⟨x2, X2, y2, Y2, rfl, I2.out.keep g.out⟩, fun h => (F4.out h).keep g.out, fun h => F5.out h, fun h h2 => (F6.out h h2).keep g.out, fun h => (F7.out h).keep g.out, fun h => G7.out h⟩
        · rintro d a v ⟨t1, t2, t3, t4, t5, t6, rfl, hB, F1, F2, F3, F4, F5, F6, F7, G7⟩ hi ha K hK
          obtain ⟨x3, X3, y3, Y3, rfl, I3⟩ := F3 (ha 3 (by kernel_rfl))
          replace hB := Lib.hid hB
          replace F1 := Lib.hid F1
          replace F2 := Lib.hid F2
          replace F3 := Lib.hid F3
          replace F4 := Lib.hid F4
          replace F5 := Lib.hid F5
          replace F6 := Lib.hid F6
          replace F7 := Lib.hid F7
          replace G7 := Lib.hid G7
          replace I3 := Lib.hid I3
          clear ha
          refine Pent.mk ?_
          try simp only [puts, Act.put, List.setIfInBounds_toArray, List.set_cons_zero, List.set_cons_succ]
          have g := Lib.hid (Below.refl v.heap.size v)
          go_simp
          exact hK.out _ _ ⟨t1, t2, .tuple #[.agg #[.int .i64 x3, .pointer X3, .int .i64 y3, .pointer Y3], .int .i64 0], .agg #[.int .i64 x3, .pointer X3, .int .i64 y3, .pointer Y3], t5, t6, (by kernel_rfl), below_on hB.out g.out, fun h => F1.out h, fun h => (F2.out h).keep g.out, fun h => (F3.out h).keep g.out, fun _ => ⟨x3, X3, y3, Y3, rfl, I3.out.keep g.out⟩, fun h => F5.out h, fun h h2 => (F6.out h h2).keep g.out, fun h => (F7.out h).keep g.out, fun h => G7.out h⟩
        · rintro d a v ⟨t1, t2, t3, t4, t5, t6, rfl, hB, F1, F2, F3, F4, F5, F6, F7, G7⟩ hi ha K hK
          obtain ⟨x3, X3, y3, Y3, rfl, I3⟩ := F3 (ha 3 (by kernel_rfl))
          replace hB := Lib.hid hB
          replace F1 := Lib.hid F1
          replace F2 := Lib.hid F2
          replace F3 := Lib.hid F3
          replace F4 := Lib.hid F4
          replace F5 := Lib.hid F5
          replace F6 := Lib.hid F6
          replace F7 := Lib.hid F7
          replace G7 := Lib.hid G7
          replace I3 := Lib.hid I3
          clear ha
          refine Pent.mk ?_
          try simp only [puts, Act.put, List.setIfInBounds_toArray, List.set_cons_zero, List.set_cons_succ]
          have g := Lib.hid (Below.refl v.heap.size v)
          go_simp
          exact hK.out _ _ ⟨t1, t2, .tuple #[.agg #[.int .i64 x3, .pointer X3, .int .i64 y3, .pointer Y3], .int .i64 0], t4, .int .i64 0, t6, (by kernel_rfl), below_on hB.out g.out, fun h => F1.out h, fun h => (F2.out h).keep g.out, fun h => (F3.out h).keep g.out, fun h => (F4.out h).keep g.out, fun _ => rfl, fun h h2 => (F6.out h h2).keep g.out, fun h => (F7.out h).keep g.out, fun h => G7.out h⟩
        · rintro d a v ⟨t1, t2, t3, t4, t5, t6, rfl, hB, F1, F2, F3, F4, F5, F6, F7, G7⟩ hi ha K hK
          replace hB := Lib.hid hB
          replace F1 := Lib.hid F1
          replace F2 := Lib.hid F2
          replace F3 := Lib.hid F3
          replace F4 := Lib.hid F4
          replace F5 := Lib.hid F5
          replace F6 := Lib.hid F6
          replace F7 := Lib.hid F7
          replace G7 := Lib.hid G7
          have hi0 : ¬ d 6 = true := by rw [hi]; decide
          clear ha
          refine Pent.mk ?_
          try simp only [puts, Act.put, List.setIfInBounds_toArray, List.set_cons_zero, List.set_cons_succ]
          have g := Lib.hid ((Below.refl v.heap.size v).alloc (Nat.le_refl _) (.cells #[.int .i64 0, .pointer none, .int .i64 0, .pointer none] 27))
          go_simp
          exact hK.out _ _ ⟨t1, t2, t3, t4, t5, .pointer (some ⟨v.heap.size, 0, none⟩), (by kernel_rfl), below_on hB.out g.out, fun h => F1.out h, fun h => (F2.out h).keep g.out, fun h => (F3.out h).keep g.out, fun h => (F4.out h).keep g.out, fun h => F5.out h, fun _ _ => ⟨v.heap.size, rfl, hB.out.size, Cells.new v _ _⟩, fun h => absurd (G7.out h) hi0, fun _ => rfl⟩
        · rintro d a v ⟨t1, t2, t3, t4, t5, t6, rfl, hB, F1, F2, F3, F4, F5, F6, F7, G7⟩ hi ha K hK
          have e1 := F1 (ha 1 (by kernel_rfl))
          subst e1
          obtain ⟨x4, X4, y4, Y4, rfl, I4⟩ := F4 (ha 4 (by kernel_rfl))
          obtain ⟨p6, rfl, le6, N6⟩ := F6 (ha 6 (by kernel_rfl)) hi
          replace hB := Lib.hid hB
          replace F1 := Lib.hid F1
          replace F2 := Lib.hid F2
          replace F3 := Lib.hid F3
          replace F4 := Lib.hid F4
          replace F5 := Lib.hid F5
          replace F6 := Lib.hid F6
          replace F7 := Lib.hid F7
          replace G7 := Lib.hid G7
          replace I4 := Lib.hid I4
          replace N6 := Lib.hid N6
          have ha0 := ha 6 (by kernel_rfl)
          clear ha
          refine Pent.mk ?_
          try simp only [puts, Act.put, List.setIfInBounds_toArray, List.set_cons_zero, List.set_cons_succ]
          have k0 := N6.out.c0
          have f0 := N6.out.fz 0
          have k1 := N6.out.c1
          have f1 := N6.out.fz 1
          have k2 := N6.out.c2
          have f2 := N6.out.fz 2
          have k3 := N6.out.c3
          have f3 := N6.out.fz 3
          go_simp
          exact hK.out _ _ ⟨.agg #[.int .i64 1, .pointer none], t2, t3, .agg #[.int .i64 x4, .pointer X4, .int .i64 y4, .pointer Y4], t5, .pointer (some ⟨p6, 0, none⟩), (by kernel_rfl), below_put4 hB.out le6 (.int .i64 x4) (.pointer X4) (.int .i64 y4) (.pointer Y4), fun _ => rfl, fun h => (F2.out h).wrote N6.out (by rfl), fun h => (F3.out h).wrote N6.out (by rfl), fun h => (F4.out h).wrote N6.out (by rfl), fun h => F5.out h, fun _ h => absurd (show true = false from h) (by decide), fun _ => ⟨p6, x4, X4, y4, Y4, rfl, le6, varR_put N6.out (by rfl) I4.out⟩, fun _ => ha0⟩
        · rintro d a v ⟨t1, t2, t3, t4, t5, t6, rfl, hB, F1, F2, F3, F4, F5, F6, F7, G7⟩ hE
          have e1 := F1 (hE 1 (by decide))
          subst e1
          obtain ⟨x2, X2, y2, Y2, rfl, I2⟩ := F2 (hE 2 (by decide))
          obtain ⟨x3, X3, y3, Y3, rfl, I3⟩ := F3 (hE 3 (by decide))
          obtain ⟨x4, X4, y4, Y4, rfl, I4⟩ := F4 (hE 4 (by decide))
          have e5 := F5 (hE 5 (by decide))
          subst e5
          obtain ⟨p6, x7, X7, y7, Y7, rfl, le6, W7⟩ := F7 (hE 7 (by decide))
          clear hE F1 F2 F3 F4 F5 F6 F7 G7
          replace hB := Lib.hid hB
          replace I2 := Lib.hid I2
          replace I3 := Lib.hid I3
          replace I4 := Lib.hid I4
          replace W7 := Lib.hid W7
          refine Pent.mk ?_
          try simp only [puts, Act.put, List.setIfInBounds_toArray, List.set_cons_zero, List.set_cons_succ]
          refine Till.one (i := 8) (by kernel_rfl) rfl (fun K hK => ?_)
          go_simp
          refine hK.out _ _ (fun h => absurd h (by simp)) ?_
          clear hK K
          try simp only [List.setIfInBounds_toArray, List.set_cons_zero, List.set_cons_succ]
          refine Till.done (by kernel_rfl) ?_ _
          go_wp2_with fail
          go_meet
          exact ⟨p6, x7, X7, y7, Y7, rfl, rfl, W7.out, le6, hB.out⟩
      case rest =>
        obtain ⟨p8, x3, X3, x4, X4, rfl, rfl, hv1, le1, hb⟩ := hcut
        replace V6 := Lib.hid (V6.out.keep hb)
        replace C6 := Lib.hid (C6.out.keep hb)
        replace K4 := Lib.hid (below_on K4.out hb)
        replace A1 := Lib.hid (A1.out.keep hb)
        replace A2 := Lib.hid (A2.out.keep hb)
        have V8 := Lib.hid hv1
        clear hv1 le1 hb HS HM1
        generalize wc = wo at *
        have HM1 := Lib.hid (fun w' (hb : Below wo.heap.size wo w') => make_any x2 X2 1 none (ceilZ p) 1 w' (A2.out.keep hb).int (small_int ⟨by decide, by decide⟩) (by decide) (by have := Fc.out.n390 (by decide); rwa [(rat_int (ceilZ p)).1] at this) (by decide +kernel) (Hw.out _ (below_on K4.out hb)))
        rw [show Rat.divInt (ceilZ p) 1 = ((ceilZ p : Int) : Rat) from divInt_self_one _] at HM1
        have HS := Lib.hid (fun w' (hb : Below wo.heap.size wo w') => (⟨(A2.out.keep hb).c0, (A2.out.keep hb).c1⟩ : w'.cell? ⟨p5, 0, none⟩ = some (.int .i64 x2) ∧ w'.cell? ⟨p5, 1, none⟩ = some (.pointer X2)))
        go_upto_region 6 with fail
        go_cut [8, 9] (fun s s' wx => ∃ (p1 : Nat) (x : Int) (X : Option Addr) (y : Int) (Y : Option Addr), s = .pointer (some ⟨p1, 0, none⟩) ∧ s' = .int .i64 0 ∧ VarR wx p1 x X y Y (((ceilZ p : Int) : Rat)) ∧ wo.heap.size ≤ p1 ∧ Below wo.heap.size wo wx)
        case first =>
          refine Till.begin 7 (fun w' => w'.cell? ⟨p5, 0, none⟩ = some (.int .i64 x2) ∧ w'.cell? ⟨p5, 1, none⟩ = some (.pointer X2)) (by kernel_rfl) (HS.out _ (Below.refl _ _).drew) (fun hH => ?_)
          refine Till.take (i := 0) (m := 2) (d := some 35) (u := .agg #[.int .i64 x2, .pointer X2]) rfl rfl (by kernel_rfl) (by kernel_rfl) (by kernel_rfl) (by kernel_rfl) (by kernel_rfl) (by kernel_rfl) (by kernel_rfl) (fun _ _ _ h => h) (by kernel_rfl) (by (intro w hSw; (try dsimp only at hSw); go_split_ands; go_simp)) hH ?_
          try simp only [Act.put, List.setIfInBounds_toArray, List.set_cons_zero, List.set_cons_succ]
          clear hH
          have B0 := Lib.hid (Below.refl wo.heap.size wo).drew
          generalize wo.drew = v0 at B0 ⊢
          refine Till.phaseP [1, 2, 3, 4, 5, 6, 7] #[true, true, true, true, true, true, true, true, false] 1 (fun a0 d a v => ∃ t1 t2 t3 t4 t5 t6 : Value, a = puts a0 [(36, t1), (37, t2), (34, t3), (38, t4), (39, t5), (8, t6)] ∧ Below wo.heap.size wo v ∧ (d 1 = true → t1 = .agg #[.int .i64 1, .pointer none]) ∧ (d 2 = true → MadeAt v t2 (((ceilZ p : Int) : Rat))) ∧ (d 3 = true → MadeAt v t3 (((ceilZ p : Int) : Rat))) ∧ (d 4 = true → RatAt v t4 (((ceilZ p : Int) : Rat))) ∧ (d 5 = true → t5 = .int .i64 0) ∧ (d 6 = true → d 7 = false → PtrR wo.heap.size v t6) ∧ (d 7 = true → VarRAt wo.heap.size v t6 (((ceilZ p : Int) : Rat))) ∧ (d 7 = true → d 6 = true)) rfl (by kernel_rfl) (by rintro d a v ⟨_, _, _, _, _, _, rfl, hB, _⟩; exact HS.out _ hB) ⟨_, _, _, _, _, _, rfl, B0.out, (fun h => absurd h (by decide)), (fun h => absurd h (by decide)), (fun h => absurd h (by decide)), (fun h => absurd h (by decide)), (fun h => absurd h (by decide)), (fun h => absurd h (by decide)), (fun h => absurd h (by decide)), (fun h => absurd h (by decide))⟩ ⟨⟨_, rfl, ?_⟩, ⟨_, rfl, ?_⟩, ⟨_, rfl, ?_⟩, ⟨_, rfl, ?_⟩, ⟨_, rfl, ?_⟩, ⟨_, rfl, ?_⟩, ⟨_, rfl, ?_⟩, trivial⟩ ?_
          · rintro d a v ⟨t1, t2, t3, t4, t5, t6, rfl, hB, F1, F2, F3, F4, F5, F6, F7, G7⟩ hi ha K hK
            replace hB := Lib.hid hB
            replace F1 := Lib.hid F1
            replace F2 := Lib.hid F2
            replace F3 := Lib.hid F3
            replace F4 := Lib.hid F4
            replace F5 := Lib.hid F5
            replace F6 := Lib.hid F6
            replace F7 := Lib.hid F7
            replace G7 := Lib.hid G7
            clear ha
            refine Pent.mk ?_
            try simp only [puts, Act.put, List.setIfInBounds_toArray, List.set_cons_zero, List.set_cons_succ]
            go_simp
            refine (from_any _ _).mono ?_
            rintro e v1 ⟨rfl, g⟩
            replace g := Lib.hid g
            go_wp2_with fail
            exact hK.out _ _ ⟨.agg #[.int .i64 1, .pointer none], t2, t3, t4, t5, t6, (by kernel_rfl), below_on hB.out g.out, fun _ => rfl, fun h => (F2.out h).keep g.out, fun h => (F3.out h).keep g.out, fun h => (F4.out h).keep g.out, fun h => F5.out h, fun h h2 => (F6.out h h2).keep g.out, fun h => (F7.out h).keep g.out, fun h => G7.out h⟩
          · rintro d a v ⟨t1, t2, t3, t4, t5, t6, rfl, hB, F1, F2, F3, F4, F5, F6, F7, G7⟩ hi ha K hK
            have e1 := F1 (ha 1 (by kernel_rfl))
            subst e1
            replace hB := Lib.hid hB
            replace F1 := Lib.hid F1
            replace F2 := Lib.hid F2
            replace F3 := Lib.hid F3
            replace F4 := Lib.hid F4
            replace F5 := Lib.hid F5
            replace F6 := Lib.hid F6
            replace F7 := Lib.hid F7
            replace G7 := Lib.hid G7
            clear ha
            refine Pent.mk ?_
            try simp only [puts, Act.put, List.setIfInBounds_toArray, List.set_cons_zero, List.set_cons_succ]
            go_simp
            refine (HM1.out _ hB.out).mono ?_
            rintro e v1 ⟨x2, X2, y2, Y2, rfl, hx, g⟩
            replace hx := Lib.hid hx
            replace g := Lib.hid g
            go_wp2_with fail
            exact hK.out _ _ ⟨.agg #[.int .i64 1, .pointer none], .tuple #[.agg #[.int .i64 x2, .pointer X2, .int .i64 y2, .pointer Y2], .int .i64 0], t3, t4, t5, t6, (by kernel_rfl), below_on hB.out g.out, fun _ => rfl, fun _ => ⟨x2, X2, y2, Y2, rfl, hx.out⟩, fun h => (F3.out h).keep g.out, fun h => (F4.out h).keep g.out, fun h => F5.out h, fun h h2 => (F6.out h h2).keep g.out, fun h => (F7.out h).keep g.out, fun h => G7.out h⟩
          · rintro d a v ⟨t1, t2, t3, t4, t5, t6, rfl, hB, F1, F2, F3, F4, F5, F6, F7, G7⟩ hi ha K hK
            obtain ⟨x2, X2, y2, Y2, rfl, I2⟩ := F2 (ha 2 (by kernel_rfl))
            replace hB := Lib.hid hB
            replace F1 := Lib.hid F1
            replace F2 := Lib.hid F2
            replace F3 := Lib.hid F3
            replace F4 := Lib.hid F4
            replace F5 := Lib.hid F5
            replace F6 := Lib.hid F6
            replace F7 := Lib.hid F7
            replace G7 := Lib.hid G7
            replace I2 := Lib.hid I2
            clear ha
            refine Pent.mk ?_
            try simp only [puts, Act.put, List.setIfInBounds_toArray, List.set_cons_zero, List.set_cons_succ]
            have g := Lib.hid (Below.refl v.heap.size v)
            go_simp
            exact hK.out _ _ ⟨t1, .tuple #[.agg #[.int .i64 x2, .pointer X2, .int .i64 y2, .pointer Y2], .int .i64 0], .tuple #[.agg #[.int .i64 x2, .pointer X2, .int .i64 y2, .pointer Y2], .int .i64 0], t4, t5, t6, (by kernel_rfl), below_on hB.out g.out, fun h => F1.out h, fun h => (F2.out h).keep g.out, fun _ => ⟨x2, X2, y2, Y2, rfl, I2.out.keep g.out⟩, fun h => (F4.out h).keep g.out, fun h => F5.out h, fun h h2 => (F6.out h h2).keep g.out, fun h => (F7.out h).keep g.out, fun h => G7.out h⟩
          · rintro d a v ⟨t1, t2, t3, t4, t5, t6, rfl, hB, F1, F2, F3, F4, F5, F6, F7, G7⟩ hi ha K hK
            obtain ⟨x3, X3, y3, Y3, rfl, I3⟩ := F3 (ha 3 (by kernel_rfl))
            replace hB := Lib.hid hB
            replace F1 := Lib.hid F1
            replace F2 := Lib.hid F2
            replace F3 := Lib.hid F3
            replace F4 := Lib.hid F4
            replace F5 := Lib.hid F5
            replace F6 := Lib.hid F6
            replace F7 := Lib.hid F7
            replace G7 := Lib.hid G7
            replace I3 := Lib.hid I3
            clear ha
            refine Pent.mk ?_
            try simp only [puts, Act.put, List.setIfInBounds_toArray, List.set_cons_zero, List.set_cons_succ]
            have g := Lib.hid (Below.refl v.heap.size v)
            go_simp
            exact hK.out _ _ ⟨t1, t2, .tuple #[.agg #[.int .i64 x3, .pointer X3, .int .i64 y3, .pointer Y3], .int .i64 0], .agg #[.int .i64 x3, .pointer X3, .int .i64 y3, .pointer Y3], t5, t6, (by kernel_rfl), below_on hB.out g.out, fun h => F1.out h, fun h => (F2.out h).keep g.out, fun h => (F3.out h).keep g.out, fun _ => ⟨x3, X3, y3, Y3, rfl, I3.out.keep g.out⟩, fun h => F5.out h, fun h h2 => (F6.out h h2).keep g.out, fun h => (F7.out h).keep g.out, fun h => G7.out h⟩
          · rintro d a v ⟨t1, t2, t3, t4, t5, t6, rfl, hB, F1, F2, F3, F4, F5, F6, F7, G7⟩ hi ha K hK
            obtain ⟨x3, X3, y3, Y3, rfl, I3⟩ := F3 (ha 3 (by kernel_rfl))
            replace hB := Lib.hid hB
            replace F1 := Lib.hid F1
            replace F2 := Lib.hid F2
            replace F3 := Lib.hid F3
            replace F4 := Lib.hid F4
            replace F5 := Lib.hid F5
            replace F6 := Lib.hid F6
            replace F7 := Lib.hid F7
            replace G7 := Lib.hid G7
            replace I3 := Lib.hid I3
            clear ha
            refine Pent.mk ?_
            try simp only [puts, Act.put, List.setIfInBounds_toArray, List.set_cons_zero, List.set_cons_succ]
            have g := Lib.hid (Below.refl v.heap.size v)
            go_simp
            exact hK.out _ _ ⟨t1, t2, .tuple #[.agg #[.int .i64 x3, .pointer X3, .int .i64 y3, .pointer Y3], .int .i64 0], t4, .int .i64 0, t6, (by kernel_rfl), below_on hB.out g.out, fun h => F1.out h, fun h => (F2.out h).keep g.out, fun h => (F3.out h).keep g.out, fun h => (F4.out h).keep g.out, fun _ => rfl, fun h h2 => (F6.out h h2).keep g.out, fun h => (F7.out h).keep g.out, fun h => G7.out h⟩
          · rintro d a v ⟨t1, t2, t3, t4, t5, t6, rfl, hB, F1, F2, F3, F4, F5, F6, F7, G7⟩ hi ha K hK
            replace hB := Lib.hid hB
            replace F1 := Lib.hid F1
            replace F2 := Lib.hid F2
            replace F3 := Lib.hid F3
            replace F4 := Lib.hid F4
            replace F5 := Lib.hid F5
            replace F6 := Lib.hid F6
            replace F7 := Lib.hid F7
            replace G7 := Lib.hid G7
            have hi0 : ¬ d 6 = true := by rw [hi]; decide
            clear ha
            refine Pent.mk ?_
            try simp only [puts, Act.put, List.setIfInBounds_toArray, List.set_cons_zero, List.set_cons_succ]
            have g := Lib.hid ((Below.refl v.heap.size v).alloc (Nat.le_refl _) (.cells #[.int .i64 0, .pointer none, .int .i64 0, .pointer none] 27))
            go_simp
            exact hK.out _ _ ⟨t1, t2, t3, t4, t5, .pointer (some ⟨v.heap.size, 0, none⟩), (by kernel_rfl), below_on hB.out g.out, fun h => F1.out h, fun h => (F2.out h).keep g.out, fun h => (F3.out h).keep g.out, fun h => (F4.out h).keep g.out, fun h => F5.out h, fun _ _ => ⟨v.heap.size, rfl, hB.out.size, Cells.new v _ _⟩, fun h => absurd (G7.out h) hi0, fun _ => rfl⟩
          · rintro d a v ⟨t1, t2, t3, t4, t5, t6, rfl, hB, F1, F2, F3, F4, F5, F6, F7, G7⟩ hi ha K hK
            have e1 := F1 (ha 1 (by kernel_rfl))
            subst e1
            obtain ⟨x4, X4, y4, Y4, rfl, I4⟩ := F4 (ha 4 (by kernel_rfl))
            obtain ⟨p6, rfl, le6, N6⟩ := F6 (ha 6 (by kernel_rfl)) hi
            replace hB := Lib.hid hB
            replace F1 := Lib.hid F1
            replace F2 := Lib.hid F2
            replace F3 := Lib.hid F3
            replace F4 := Lib.hid F4
            replace F5 := Lib.hid F5
            replace F6 := Lib.hid F6
            replace F7 := Lib.hid F7
            replace G7 := Lib.hid G7
            replace I4 := Lib.hid I4
            replace N6 := Lib.hid N6
            have ha0 := ha 6 (by kernel_rfl)
            clear ha
            refine Pent.mk ?_
            try simp only [puts, Act.put, List.setIfInBounds_toArray, List.set_cons_zero, List.set_cons_succ]
            have k0 := N6.out.c0
            have f0 := N6.out.fz 0
            have k1 := N6.out.c1
            have f1 := N6.out.fz 1
            have k2 := N6.out.c2
            have f2 := N6.out.fz 2
            have k3 := N6.out.c3
            have f3 := N6.out.fz 3
            go_simp
            exact hK.out _ _ ⟨.agg #[.int .i64 1, .pointer none], t2, t3, .agg #[.int .i64 x4, .pointer X4, .int .i64 y4, .pointer Y4], t5, .pointer (some ⟨p6, 0, none⟩), (by kernel_rfl), below_put4 hB.out le6 (.int .i64 x4) (.pointer X4) (.int .i64 y4) (.pointer Y4), fun _ => rfl, fun h => (F2.out h).wrote N6.out (by rfl), fun h => (F3.out h).wrote N6.out (by rfl), fun h => (F4.out h).wrote N6.out (by rfl), fun h => F5.out h, fun _ h => absurd (show true = false from h) (by decide), fun _ => ⟨p6, x4, X4, y4, Y4, rfl, le6, varR_put N6.out (by rfl) I4.out⟩, fun _ => ha0⟩
          · rintro d a v ⟨t1, t2, t3, t4, t5, t6, rfl, hB, F1, F2, F3, F4, F5, F6, F7, G7⟩ hE
            have e1 := F1 (hE 1 (by decide))
            subst e1
            obtain ⟨x2, X2, y2, Y2, rfl, I2⟩ := F2 (hE 2 (by decide))
            obtain ⟨x3, X3, y3, Y3, rfl, I3⟩ := F3 (hE 3 (by decide))
            obtain ⟨x4, X4, y4, Y4, rfl, I4⟩ := F4 (hE 4 (by decide))
            have e5 := F5 (hE 5 (by decide))
            subst e5
            obtain ⟨p6, x7, X7, y7, Y7, rfl, le6, W7⟩ := F7 (hE 7 (by decide))
            clear hE F1 F2 F3 F4 F5 F6 F7 G7
            replace hB := Lib.hid hB
            replace I2 := Lib.hid I2
            replace I3 := Lib.hid I3
            replace I4 := Lib.hid I4
            replace W7 := Lib.hid W7
            refine Pent.mk ?_
            try simp only [puts, Act.put, List.setIfInBounds_toArray, List.set_cons_zero, List.set_cons_succ]
            refine Till.one (i := 8) (by kernel_rfl) rfl (fun K hK => ?_)
            go_simp
            refine hK.out _ _ (fun h => absurd h (by simp)) ?_
            clear hK K
            try simp only [List.setIfInBounds_toArray, List.set_cons_zero, List.set_cons_succ]
            refine Till.done (by kernel_rfl) ?_ _
            go_wp2_with fail
            go_meet
            exact ⟨p6, x7, X7, y7, Y7, rfl, rfl, W7.out, le6, hB.out⟩
        case rest =>
          obtain ⟨p9, x5, X5, x6, X6, rfl, rfl, hv1, le1, hb⟩ := hcut
          replace V6 := Lib.hid (V6.out.keep hb)
          replace C6 := Lib.hid (C6.out.keep hb)
          replace K4 := Lib.hid (below_on K4.out hb)
          replace A1 := Lib.hid (A1.out.keep hb)
          replace A2 := Lib.hid (A2.out.keep hb)
          replace V8 := Lib.hid (V8.out.keep hb)
          have V9 := Lib.hid hv1
          clear hv1 le1 hb HS HM1
          generalize wc = wq at *
          have RP := Lib.hid (fun w => refParts_any p w (by have := Fp.out.ns (by decide); omega) (by have := Fp.out.ds (by decide); omega))
          have RF := Lib.hid (fun w => refFloorR_any Fp.out (by decide) w)
          have RC := Lib.hid (fun w => refCeilR_any Fp.out (by decide) w)
          rw [Hp.out.txt_] at RP RF RC
          have HO := Lib.hid (fun w => rfrom_any 1 w ⟨by decide, by decide⟩)
          have hfc := floor_ceil p
          obtain ⟨bb, hbb⟩ : ∃ bb, ((txt (p.den : Int)).toList == [49]) = bb := ⟨_, rfl⟩
          rw [hbb] at hfc
          have t1 := cmp_floor p
          have t2 := cmp_floor1 p
          have t3 := cmp_ceil p
          have t4 := cmp_ceil1 p
          obtain ⟨D, hD⟩ : ∃ D, txt (p.den : Int) = D := ⟨_, rfl⟩
          rw [hD] at RP hbb
          clear hD
          go_wp2_with fail
          refine (RP.out _).mono ?_
          rintro e u1 ⟨rfl, g⟩
          replace V6 := Lib.hid (V6.out.keep g)
          replace A1 := Lib.hid (A1.out.keep g)
          replace A2 := Lib.hid (A2.out.keep g)
          replace V8 := Lib.hid (V8.out.keep g)
          replace V9 := Lib.hid (V9.out.keep g)
          replace K4 := Lib.hid (below_on K4.out g)
          clear g  
          go_wp2_with fail
          refine (HO.out _).mono ?_
          rintro e u2 ⟨x7, X7, x8, X8, rfl, hv, g⟩
          replace V6 := Lib.hid (V6.out.keep g)
          replace A1 := Lib.hid (A1.out.keep g)
          replace A2 := Lib.hid (A2.out.keep g)
          replace V8 := Lib.hid (V8.out.keep g)
          replace V9 := Lib.hid (V9.out.keep g)
          replace K4 := Lib.hid (below_on K4.out g)
          clear g  
          have kv := (Below.refl u2.heap.size u2).alloc (Nat.le_refl _) (.cells #[.int .i64 x7, .pointer X7, .int .i64 x8, .pointer X8] 27)
          have V12 := Lib.hid (VarR.new hv)
          replace V6 := Lib.hid (V6.out.keep kv)
          replace A1 := Lib.hid (A1.out.keep kv)
          replace A2 := Lib.hid (A2.out.keep kv)
          replace V8 := Lib.hid (V8.out.keep kv)
          replace V9 := Lib.hid (V9.out.keep kv)
          replace K4 := Lib.hid (below_on K4.out kv)
          obtain ⟨wr, hwr⟩ : ∃ u, u2.alloc (.cells #[.int .i64 x7, .pointer X7, .int .i64 x8, .pointer X8] 27) = u := ⟨_, rfl⟩
          obtain ⟨p12, hp12⟩ : ∃ p, u2.heap.size = p := ⟨_, rfl⟩
          rw [hwr] at V6 A1 A2 V8 V9 V12 K4
          rw [hp12] at V12
          clear hv kv C6
          have f1 := Few.int (z := 1) (k := 1) (by decide) (by decide)
          have HT1 := Lib.hid (fun w' (hb : Below wr.heap.size wr w') => show Calls Tryz.prog 32 _ w' (fun e w2 => e = .returned (.string (txt (floorZ p))) ∧ Below w'.heap.size w' w2) from textZ_any _ (floorZ p) w' (A1.out.keep hb).int (Hw.out _ (below_on K4.out hb)).1)
          have HT2 := Lib.hid (fun w' (hb : Below wr.heap.size wr w') => show Calls Tryz.prog 32 _ w' (fun e w2 => e = .returned (.string (txt (ceilZ p))) ∧ Below w'.heap.size w' w2) from textZ_any _ (ceilZ p) w' (A2.out.keep hb).int (Hw.out _ (below_on K4.out hb)).1)
          have HI := Lib.hid (fun w' (hb : Below wr.heap.size wr w') => compare_any _ _ (floorZ p) (ceilZ p) w' (A1.out.keep hb).int (A2.out.keep hb).int)
          obtain ⟨qf, hqf⟩ : ∃ q, ((floorZ p : Int) : Rat) = q := ⟨_, rfl⟩
          obtain ⟨qc, hqc⟩ : ∃ q, ((ceilZ p : Int) : Rat) = q := ⟨_, rfl⟩
          obtain ⟨q1, hq1⟩ : ∃ q, ((1 : Int) : Rat) = q := ⟨_, rfl⟩
          rw [hqf] at t1 t2 V8 Ff
          rw [hqc] at t3 t4 V9 Fc
          rw [hq1] at t2 t4 V12 f1
          have F1 := Lib.hid f1
          clear hqf hqc hq1 f1
          have Fs := Lib.hid (Ff.out.add F1.out)
          have Ft := Lib.hid (Fc.out.sub F1.out)
          have HAd := Lib.hid (fun w' (hb : Below wr.heap.size wr w') => radd_any x3 X3 x4 X4 x7 X7 x8 X8 qf q1 w' (V8.out.keep hb).rat (V12.out.keep hb).rat (Ff.out.n47 (by decide)) (Ff.out.d47 (by decide)) (F1.out.n47 (by decide)) (F1.out.d47 (by decide)) (Hw.out _ (below_on K4.out hb)))
          have HSb := Lib.hid (fun w' (hb : Below wr.heap.size wr w') => rsub_any x5 X5 x6 X6 x7 X7 x8 X8 qc q1 w' (V9.out.keep hb).rat (V12.out.keep hb).rat (Fc.out.n47 (by decide)) (Fc.out.d47 (by decide)) (F1.out.n47 (by decide)) (F1.out.d47 (by decide)) (Hw.out _ (below_on K4.out hb)))
          have HC1 := Lib.hid (fun w' (hb : Below wr.heap.size wr w') => rcmp_any x3 X3 x4 X4 a P b Q qf p w' (V8.out.keep hb).rat (V6.out.keep hb).rat (Ff.out.n47 (by decide)) (Ff.out.d47 (by decide)) (Fp.out.n47 (by decide)) (Fp.out.d47 (by decide)))
          have HC2 := Lib.hid (fun y Y z Z w' (hb : Below wr.heap.size wr w') (hv : RatV w' y Y z Z (qf + q1)) => rcmp_any a P b Q y Y z Z p (qf + q1) w' (V6.out.keep hb).rat hv (Fp.out.n47 (by decide)) (Fp.out.d47 (by decide)) (Fs.out.n47 (by decide)) (Fs.out.d47 (by decide)))
          have HC3 := Lib.hid (fun w' (hb : Below wr.heap.size wr w') => rcmp_any a P b Q x5 X5 x6 X6 p qc w' (V6.out.keep hb).rat (V9.out.keep hb).rat (Fp.out.n47 (by decide)) (Fp.out.d47 (by decide)) (Fc.out.n47 (by decide)) (Fc.out.d47 (by decide)))
          have HC4 := Lib.hid (fun y Y z Z w' (hb : Below wr.heap.size wr w') (hv : RatV w' y Y z Z (qc - q1)) => rcmp_any y Y z Z a P b Q (qc - q1) p w' hv (V6.out.keep hb).rat (Ft.out.n47 (by decide)) (Ft.out.d47 (by decide)) (Fp.out.n47 (by decide)) (Fp.out.d47 (by decide)))
          generalize cmpR qf p = c1 at HC1 t1
          generalize cmpR p (qf + q1) = c2 at HC2 t2
          generalize cmpR p qc = c3 at HC3 t3
          generalize cmpR (qc - q1) p = c4 at HC4 t4
          generalize cmpZ (floorZ p) (ceilZ p) = c5 at HI hfc
          generalize txt (floorZ p) = T1 at HT1 RF
          generalize txt (ceilZ p) = T2 at HT2 RC
          generalize qf + q1 = qs at HAd HC2
          generalize qc - q1 = qt at HSb HC4
          clear Fs Ft F1 Ff Fc Fp Hp HO RP
          have HS := Lib.hid (fun w' (hb : Below wr.heap.size wr w') => (⟨⟨(V6.out.keep hb).cells.c0, (V6.out.keep hb).cells.c1, (V6.out.keep hb).cells.c2, (V6.out.keep hb).cells.c3, (A1.out.keep hb).c0, (A1.out.keep hb).c1, (A2.out.keep hb).c0, (A2.out.keep hb).c1, (V8.out.keep hb).cells.c0, (V8.out.keep hb).cells.c1, (V8.out.keep hb).cells.c2, (V8.out.keep hb).cells.c3, (V9.out.keep hb).cells.c0, (V9.out.keep hb).cells.c1, (V9.out.keep hb).cells.c2, (V9.out.keep hb).cells.c3, (V12.out.keep hb).cells.c0, (V12.out.keep hb).cells.c1, (V12.out.keep hb).cells.c2, (V12.out.keep hb).cells.c3⟩, hb⟩ : (w'.cell? ⟨p6, 0, none⟩ = some (.int .i64 a) ∧ w'.cell? ⟨p6, 1, none⟩ = some (.pointer P) ∧ w'.cell? ⟨p6, 2, none⟩ = some (.int .i64 b) ∧ w'.cell? ⟨p6, 3, none⟩ = some (.pointer Q) ∧ w'.cell? ⟨p4, 0, none⟩ = some (.int .i64 x1) ∧ w'.cell? ⟨p4, 1, none⟩ = some (.pointer X1) ∧ w'.cell? ⟨p5, 0, none⟩ = some (.int .i64 x2) ∧ w'.cell? ⟨p5, 1, none⟩ = some (.pointer X2) ∧ w'.cell? ⟨p8, 0, none⟩ = some (.int .i64 x3) ∧ w'.cell? ⟨p8, 1, none⟩ = some (.pointer X3) ∧ w'.cell? ⟨p8, 2, none⟩ = some (.int .i64 x4) ∧ w'.cell? ⟨p8, 3, none⟩ = some (.pointer X4) ∧ w'.cell? ⟨p9, 0, none⟩ = some (.int .i64 x5) ∧ w'.cell? ⟨p9, 1, none⟩ = some (.pointer X5) ∧ w'.cell? ⟨p9, 2, none⟩ = some (.int .i64 x6) ∧ w'.cell? ⟨p9, 3, none⟩ = some (.pointer X6) ∧ w'.cell? ⟨p12, 0, none⟩ = some (.int .i64 x7) ∧ w'.cell? ⟨p12, 1, none⟩ = some (.pointer X7) ∧ w'.cell? ⟨p12, 2, none⟩ = some (.int .i64 x8) ∧ w'.cell? ⟨p12, 3, none⟩ = some (.pointer X8)) ∧ Below wr.heap.size wr w'))
          have HB := Lib.hid (fun w' (h : (w'.cell? ⟨p6, 0, none⟩ = some (.int .i64 a) ∧ w'.cell? ⟨p6, 1, none⟩ = some (.pointer P) ∧ w'.cell? ⟨p6, 2, none⟩ = some (.int .i64 b) ∧ w'.cell? ⟨p6, 3, none⟩ = some (.pointer Q) ∧ w'.cell? ⟨p4, 0, none⟩ = some (.int .i64 x1) ∧ w'.cell? ⟨p4, 1, none⟩ = some (.pointer X1) ∧ w'.cell? ⟨p5, 0, none⟩ = some (.int .i64 x2) ∧ w'.cell? ⟨p5, 1, none⟩ = some (.pointer X2) ∧ w'.cell? ⟨p8, 0, none⟩ = some (.int .i64 x3) ∧ w'.cell? ⟨p8, 1, none⟩ = some (.pointer X3) ∧ w'.cell? ⟨p8, 2, none⟩ = some (.int .i64 x4) ∧ w'.cell? ⟨p8, 3, none⟩ = some (.pointer X4) ∧ w'.cell? ⟨p9, 0, none⟩ = some (.int .i64 x5) ∧ w'.cell? ⟨p9, 1, none⟩ = some (.pointer X5) ∧ w'.cell? ⟨p9, 2, none⟩ = some (.int .i64 x6) ∧ w'.cell? ⟨p9, 3, none⟩ = some (.pointer X6) ∧ w'.cell? ⟨p12, 0, none⟩ = some (.int .i64 x7) ∧ w'.cell? ⟨p12, 1, none⟩ = some (.pointer X7) ∧ w'.cell? ⟨p12, 2, none⟩ = some (.int .i64 x8) ∧ w'.cell? ⟨p12, 3, none⟩ = some (.pointer X8)) ∧ Below wr.heap.size wr w') => h.2)
          have HK := Lib.hid (fun w' wx (h : (w'.cell? ⟨p6, 0, none⟩ = some (.int .i64 a) ∧ w'.cell? ⟨p6, 1, none⟩ = some (.pointer P) ∧ w'.cell? ⟨p6, 2, none⟩ = some (.int .i64 b) ∧ w'.cell? ⟨p6, 3, none⟩ = some (.pointer Q) ∧ w'.cell? ⟨p4, 0, none⟩ = some (.int .i64 x1) ∧ w'.cell? ⟨p4, 1, none⟩ = some (.pointer X1) ∧ w'.cell? ⟨p5, 0, none⟩ = some (.int .i64 x2) ∧ w'.cell? ⟨p5, 1, none⟩ = some (.pointer X2) ∧ w'.cell? ⟨p8, 0, none⟩ = some (.int .i64 x3) ∧ w'.cell? ⟨p8, 1, none⟩ = some (.pointer X3) ∧ w'.cell? ⟨p8, 2, none⟩ = some (.int .i64 x4) ∧ w'.cell? ⟨p8, 3, none⟩ = some (.pointer X4) ∧ w'.cell? ⟨p9, 0, none⟩ = some (.int .i64 x5) ∧ w'.cell? ⟨p9, 1, none⟩ = some (.pointer X5) ∧ w'.cell? ⟨p9, 2, none⟩ = some (.int .i64 x6) ∧ w'.cell? ⟨p9, 3, none⟩ = some (.pointer X6) ∧ w'.cell? ⟨p12, 0, none⟩ = some (.int .i64 x7) ∧ w'.cell? ⟨p12, 1, none⟩ = some (.pointer X7) ∧ w'.cell? ⟨p12, 2, none⟩ = some (.int .i64 x8) ∧ w'.cell? ⟨p12, 3, none⟩ = some (.pointer X8)) ∧ Below wr.heap.size wr w') (hb : Below w'.heap.size w' wx) => HS.out _ (below_on h.2 hb))
          go_upto_region 9 with fail
          try simp only [hwr, hp12]
          try clear hwr hp12
          go_region_held3 (fun w' => (w'.cell? ⟨p6, 0, none⟩ = some (.int .i64 a) ∧ w'.cell? ⟨p6, 1, none⟩ = some (.pointer P) ∧ w'.cell? ⟨p6, 2, none⟩ = some (.int .i64 b) ∧ w'.cell? ⟨p6, 3, none⟩ = some (.pointer Q) ∧ w'.cell? ⟨p4, 0, none⟩ = some (.int .i64 x1) ∧ w'.cell? ⟨p4, 1, none⟩ = some (.pointer X1) ∧ w'.cell? ⟨p5, 0, none⟩ = some (.int .i64 x2) ∧ w'.cell? ⟨p5, 1, none⟩ = some (.pointer X2) ∧ w'.cell? ⟨p8, 0, none⟩ = some (.int .i64 x3) ∧ w'.cell? ⟨p8, 1, none⟩ = some (.pointer X3) ∧ w'.cell? ⟨p8, 2, none⟩ = some (.int .i64 x4) ∧ w'.cell? ⟨p8, 3, none⟩ = some (.pointer X4) ∧ w'.cell? ⟨p9, 0, none⟩ = some (.int .i64 x5) ∧ w'.cell? ⟨p9, 1, none⟩ = some (.pointer X5) ∧ w'.cell? ⟨p9, 2, none⟩ = some (.int .i64 x6) ∧ w'.cell? ⟨p9, 3, none⟩ = some (.pointer X6) ∧ w'.cell? ⟨p12, 0, none⟩ = some (.int .i64 x7) ∧ w'.cell? ⟨p12, 1, none⟩ = some (.pointer X7) ∧ w'.cell? ⟨p12, 2, none⟩ = some (.int .i64 x8) ∧ w'.cell? ⟨p12, 3, none⟩ = some (.pointer X8)) ∧ Below wr.heap.size wr w')
            (first
              | assumption
              | exact HS.out _ (Below.refl _ _).drew
              | exact HK.out _ _ (by assumption) (by assumption))
            (first
              | (go_at_call_of 32 X1; refine (HT1.out _ (HB.out _ (by assumption))).mono ?_; rintro e w' ⟨rfl, hb⟩)
              | (go_at_call_of 32 X2; refine (HT2.out _ (HB.out _ (by assumption))).mono ?_; rintro e w' ⟨rfl, hb⟩)
              | (go_at_call 59; refine (RF.out _).mono ?_; rintro e w' ⟨rfl, hb⟩)
              | (go_at_call 60; refine (RC.out _).mono ?_; rintro e w' ⟨rfl, hb⟩)
              | (go_at_call 37; refine (HAd.out _ (HB.out _ (by assumption))).mono ?_; rintro e w' ⟨y1, Y1, z1, Z1, rfl, hv1, hb⟩)
              | (go_at_call 39; refine (HSb.out _ (HB.out _ (by assumption))).mono ?_; rintro e w' ⟨y2, Y2, z2, Z2, rfl, hv2, hb⟩)
              | (go_at_call_of 49 X3; refine (HC1.out _ (HB.out _ (by assumption))).mono ?_; rintro e w' ⟨rfl, hb⟩)
              | (go_at_call_of 49 X5; refine (HC3.out _ (HB.out _ (by assumption))).mono ?_; rintro e w' ⟨rfl, hb⟩)
              | (go_at_call_of 49 Y2; refine (HC4.out _ _ _ _ _ (HB.out _ (by assumption)) (by assumption)).mono ?_; rintro e w' ⟨rfl, hb⟩)
              | (go_at_call_of 49 Y1; refine (HC2.out _ _ _ _ _ (HB.out _ (by assumption)) (by assumption)).mono ?_; rintro e w' ⟨rfl, hb⟩)
              | (go_at_call 61; refine (HI.out _ (HB.out _ (by assumption))).mono ?_; rintro e w' ⟨rfl, hb⟩))
          go_split_ands
          have hw3 : Below wr.heap.size wr w' := by assumption
          have J5 := Lib.hid (below_on K4.out hw3)
          go_wp2
          exact bodyPost_ret (v := .bool true) (by simp [results, Tryz.results10, go_sem]) rfl ⟨rfl, J5.out⟩
end Go.Proofs.YtjcblcikipmojaaGreatDoor
