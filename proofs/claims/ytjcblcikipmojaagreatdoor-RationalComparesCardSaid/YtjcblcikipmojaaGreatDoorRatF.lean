/- Rationals: sums of short ones. -/
import Derived.Test.YtjcblcikipmojaaGreatDoorRatE
namespace Go.Proofs.YtjcblcikipmojaaGreatDoor
open Go.RowKit

theorem tdiv_exact {n : Int} {g : Nat} (hg : 0 < g) (h : g ∣ n.natAbs) : Int.tdiv n g = n / g := by
  obtain ⟨c, hc⟩ := nat_dvd_int h
  have h0 : (g : Int) ≠ 0 := by omega
  rw [hc, Int.mul_tdiv_cancel_left _ h0, Int.mul_ediv_cancel_left _ h0]
theorem div_64 {n : Int} {g : Nat} (_hg : 0 < g) (h : n.natAbs ≤ 9223372036854775807) : (n / g).natAbs ≤ 9223372036854775807 := by
  have h1 := Int.natAbs_ediv_le_natAbs n g
  omega
theorem divInt_self_one (n : Int) : Rat.divInt n ((1 : Nat) : Int) = (n : Rat) := by
  obtain ⟨h1, h2⟩ := rat_make (n := n) (k := 1) (by decide)
  rw [Nat.gcd_one_right] at h1 h2
  exact Rat.ext (by rw [h1, Rat.num_intCast]; exact Int.ediv_one n) (by rw [h2, Rat.den_intCast])
theorem divInt_whole {n : Int} {k : Nat} (hk : 0 < k) (h : Nat.gcd n.natAbs k = k) : Rat.divInt n k = ((n / k : Int) : Rat) := by
  obtain ⟨h1, h2⟩ := rat_make (n := n) (k := k) hk
  rw [h] at h1 h2
  exact Rat.ext (by rw [h1, Rat.num_intCast]) (by rw [h2, Rat.den_intCast, Nat.div_self hk])
set_option maxHeartbeats 8000000 in
theorem ofInts_any (n : Int) (k : Nat) (w : World) (hn : n.natAbs ≤ 9223372036854775807) (hk : 0 < k) (hk2 : k ≤ 9223372036854775807) :
    Calls Tryz.prog 83 #[.int .i64 n, .int .i64 (k : Nat)] w (NewRat (Rat.divInt n k) w) := by
  have R := Lib.hid (Cells.new w #[.int .i64 0, .pointer none, .int .i64 0, .pointer none] 27)
  have kk := (Below.refl w.heap.size w).alloc (Nat.le_refl _) (.cells #[.int .i64 0, .pointer none, .int .i64 0, .pointer none] 27)
  have Kk := Lib.hid kk
  have n1 : -9223372036854775807 ≤ n := by omega
  have n2 : n ≤ 9223372036854775807 := by omega
  have m2 : (k : Int) ≤ 9223372036854775807 := by omega
  clear kk
  by_cases hk1 : k = 1
  · subst hk1
    rw [divInt_self_one]
    have HF := Lib.hid (fun w' => rfrom_any n w' ⟨by omega, n2⟩)
    clear hn hk hk2
    go_enter Tryz.func83, Tryz.ntmps83
    go_wp2_with fail
    refine (HF.out _).mono ?_
    rintro e w1 ⟨a, P, b, Q, rfl, hv, h1⟩
    have R := Lib.hid (R.out.keep h1)
    have Hv := Lib.hid (hv.wrote R.out (by rfl) (put4_heap w1 w.heap.size (.int .i64 a) (.pointer P) (.int .i64 b) (.pointer Q)).1 (put4_heap _ _ _ _ _ _).2)
    have K1 := Lib.hid (below_put4 (below_on Kk.out h1) (Nat.le_refl w.heap.size) (.int .i64 a) (.pointer P) (.int .i64 b) (.pointer Q))
    clear h1 hv
    have k0 := R.out.c0
    have k1 := R.out.c1
    have k2 := R.out.c2
    have k3 := R.out.c3
    have f0 := R.out.fz 0
    have f1 := R.out.fz 1
    have f2 := R.out.fz 2
    have f3 := R.out.fz 3
    go_wp2
    exact bodyPost_ret (v := .agg #[.int .i64 a, .pointer P, .int .i64 b, .pointer Q]) (by simp [results, Tryz.results83, go_sem, k0, k1, k2, k3]) rfl ⟨a, P, b, Q, rfl, Hv.out, K1.out⟩
  · have t1 : ((k : Int) == 1) = false := by rw [beq_eq_false_iff_ne]; omega
    have HG := Lib.hid (fun w' => gcdI_any n k w' hn hk2)
    obtain ⟨g, hg⟩ : ∃ g, Nat.gcd n.natAbs k = g := ⟨_, rfl⟩
    rw [hg] at HG
    have hgp : 0 < g := by rw [← hg]; exact Nat.gcd_pos_of_pos_right _ hk
    have hgk : g ≤ k := by rw [← hg]; exact Nat.gcd_le_right _ hk
    have hd1 : g ∣ n.natAbs := hg ▸ Nat.gcd_dvd_left _ _
    have hd2 : g ∣ ((k : Nat) : Int).natAbs := by rw [Int.natAbs_natCast]; exact hg ▸ Nat.gcd_dvd_right _ _
    have t2 : ((g : Int) == 0) = false := by rw [beq_eq_false_iff_ne]; omega
    by_cases hgk2 : g = k
    · subst hgk2
      rw [divInt_whole hk hg]
      obtain ⟨x, hx⟩ : ∃ x, n / (g : Int) = x := ⟨_, rfl⟩
      have e1 : Int.tdiv n (g : Int) = x := by rw [tdiv_exact hgp hd1, hx]
      have hx64 := div_64 hgp hn
      rw [hx] at hx64 ⊢
      have x1 : -9223372036854775807 ≤ x := by omega
      have x2 : x ≤ 9223372036854775807 := by omega
      have HF := Lib.hid (fun w' => rfrom_any x w' ⟨by omega, x2⟩)
      clear hn hk hk2 hk1 hg hd1 hd2 hx hx64 hgk
      go_enter Tryz.func83, Tryz.ntmps83
      go_wp2_with fail
      refine (HG.out _).mono ?_
      rintro e w0 ⟨rfl, rfl⟩
      go_wp2_with fail
      refine (HF.out _).mono ?_
      rintro e w1 ⟨a, P, b, Q, rfl, hv, h1⟩
      have R := Lib.hid (R.out.keep h1)
      have Hv := Lib.hid (hv.wrote R.out (by rfl) (put4_heap w1 w.heap.size (.int .i64 a) (.pointer P) (.int .i64 b) (.pointer Q)).1 (put4_heap _ _ _ _ _ _).2)
      have K1 := Lib.hid (below_put4 (below_on Kk.out h1) (Nat.le_refl w.heap.size) (.int .i64 a) (.pointer P) (.int .i64 b) (.pointer Q))
      clear h1 hv
      have k0 := R.out.c0
      have k1 := R.out.c1
      have k2 := R.out.c2
      have k3 := R.out.c3
      have f0 := R.out.fz 0
      have f1 := R.out.fz 1
      have f2 := R.out.fz 2
      have f3 := R.out.fz 3
      go_wp2
      exact bodyPost_ret (v := .agg #[.int .i64 a, .pointer P, .int .i64 b, .pointer Q]) (by simp [results, Tryz.results83, go_sem, k0, k1, k2, k3]) rfl ⟨a, P, b, Q, rfl, Hv.out, K1.out⟩
    · obtain ⟨q, hq⟩ : ∃ q, Rat.divInt n k = q := ⟨_, rfl⟩
      obtain ⟨h1, h2⟩ := rat_make (n := n) hk
      rw [hg, hq] at h1 h2
      rw [hq]
      obtain ⟨x, hx⟩ : ∃ x, n / (g : Int) = x := ⟨_, rfl⟩
      obtain ⟨y, hy⟩ : ∃ y, k / g = y := ⟨_, rfl⟩
      rw [hx] at h1
      rw [hy] at h2
      have e1 : Int.tdiv n (g : Int) = x := by rw [tdiv_exact hgp hd1, hx]
      have e2 : Int.tdiv (k : Int) (g : Int) = (y : Int) := by rw [tdiv_exact hgp hd2, ← hy]; simp
      have e2' : (k : Int) / (g : Int) = (y : Int) := by rw [← hy]; simp
      have hx64 := div_64 hgp hn
      rw [hx] at hx64
      have hy1 : y ≠ 1 := by
        intro h
        have h3 := Nat.div_mul_cancel (hg ▸ Nat.gcd_dvd_right n.natAbs k : g ∣ k)
        rw [hy, h] at h3
        omega
      have hyk : y ≤ k := by rw [← hy]; exact Nat.div_le_self _ _
      have x1 : -9223372036854775807 ≤ x := by omega
      have x2 : x ≤ 9223372036854775807 := by omega
      have y2 : (y : Int) ≤ 9223372036854775807 := by omega
      have t3 : ((g : Int) == (k : Int)) = false := by rw [beq_eq_false_iff_ne]; omega
      have w1' : IntKind.i64.wrap x = x := IntWalk.i64_in _ (by omega)
      have w2' : IntKind.i64.wrap (y : Int) = (y : Int) := IntWalk.i64_in _ (by omega)
      have Hq1 := Lib.hid h1
      have Hq2 := Lib.hid (show denZ q.den = (y : Int) by rw [h2, denZ_ne hy1])
      have Kf := Lib.hid (fun v (hb : Below w.heap.size w v) => hb)
      clear hn hk hk2 hk1 hg hd1 hd2 hx hy hx64 hgk h1 h2 hq hgk2 hy1 hyk
      go_enter Tryz.func83, Tryz.ntmps83
      go_wp2_with fail
      refine (HG.out _).mono ?_
      rintro e w0 ⟨rfl, rfl⟩
      obtain ⟨ws, hws⟩ : ∃ ws, w.alloc (.cells #[.int .i64 0, .pointer none, .int .i64 0, .pointer none] 27) = ws := ⟨_, rfl⟩
      rw [hws] at R Kk
      go_wp2_with fail
      try simp only [hws]
      clear hws
      refine Till.begin 9 (fun _ => True) (by kernel_rfl) trivial (fun hH => ?_)
      refine Till.take (i := 0) (m := 2) (d := some 20) (u := .int .i64 n) rfl rfl (by kernel_rfl) (by kernel_rfl) (by kernel_rfl) (by kernel_rfl) (by kernel_rfl) (by kernel_rfl) (by kernel_rfl) (fun _ _ _ h => h) (by kernel_rfl) (by (intro w hSw; (try dsimp only at hSw); go_split_ands; go_simp; try omega)) trivial ?_
      try simp only [Act.put, List.setIfInBounds_toArray, List.set_cons_zero, List.set_cons_succ]
      refine Till.take (i := 1) (m := 2) (d := some 21) (u := .int .i64 (g : Int)) rfl rfl (by kernel_rfl) (by kernel_rfl) (by kernel_rfl) (by kernel_rfl) (by kernel_rfl) (by kernel_rfl) (by kernel_rfl) (fun _ _ _ h => h) (by kernel_rfl) (by (intro w hSw; (try dsimp only at hSw); go_split_ands; go_simp; try omega)) trivial ?_
      try simp only [Act.put, List.setIfInBounds_toArray, List.set_cons_zero, List.set_cons_succ]
      refine Till.take (i := 2) (m := 3) (d := some 22) (u := .int .i64 x) rfl rfl (by kernel_rfl) (by kernel_rfl) (by kernel_rfl) (by kernel_rfl) (by kernel_rfl) (by kernel_rfl) (by kernel_rfl) (fun _ _ _ h => h) (by kernel_rfl) (by (intro w hSw; (try dsimp only at hSw); go_split_ands; go_simp; try omega)) trivial ?_
      try simp only [Act.put, List.setIfInBounds_toArray, List.set_cons_zero, List.set_cons_succ]
      refine Till.take (i := 4) (m := 6) (d := some 24) (u := .int .i64 (k : Int)) rfl rfl (by kernel_rfl) (by kernel_rfl) (by kernel_rfl) (by kernel_rfl) (by kernel_rfl) (by kernel_rfl) (by kernel_rfl) (fun _ _ _ h => h) (by kernel_rfl) (by (intro w hSw; (try dsimp only at hSw); go_split_ands; go_simp; try omega)) trivial ?_
      try simp only [Act.put, List.setIfInBounds_toArray, List.set_cons_zero, List.set_cons_succ]
      refine Till.take (i := 5) (m := 6) (d := some 25) (u := .int .i64 (g : Int)) rfl rfl (by kernel_rfl) (by kernel_rfl) (by kernel_rfl) (by kernel_rfl) (by kernel_rfl) (by kernel_rfl) (by kernel_rfl) (fun _ _ _ h => h) (by kernel_rfl) (by (intro w hSw; (try dsimp only at hSw); go_split_ands; go_simp; try omega)) trivial ?_
      try simp only [Act.put, List.setIfInBounds_toArray, List.set_cons_zero, List.set_cons_succ]
      refine Till.take (i := 6) (m := 7) (d := some 26) (u := .int .i64 (y : Int)) rfl rfl (by kernel_rfl) (by kernel_rfl) (by kernel_rfl) (by kernel_rfl) (by kernel_rfl) (by kernel_rfl) (by kernel_rfl) (fun _ _ _ h => h) (by kernel_rfl) (by (intro w hSw; (try dsimp only at hSw); go_split_ands; go_simp; try omega)) trivial ?_
      try simp only [Act.put, List.setIfInBounds_toArray, List.set_cons_zero, List.set_cons_succ]
      clear hH
      refine Till.one (i := 3) (by kernel_rfl) rfl (fun K hK => ?_)
      go_simp
      refine (from_any _ _).mono ?_
      rintro e v1 ⟨rfl, g1⟩
      have B1 := Lib.hid (below_on (Below.refl ws.heap.size ws).drew g1)
      clear g1
      go_wp2_with fail
      refine hK.out _ _ (fun _ => trivial) ?_
      clear hK K
      try simp only [Act.put, List.setIfInBounds_toArray, List.set_cons_zero, List.set_cons_succ]
      refine Till.one (i := 7) (by kernel_rfl) rfl (fun K hK => ?_)
      go_simp
      refine (from_any _ _).mono ?_
      rintro e v2 ⟨rfl, g2⟩
      have B2 := Lib.hid (below_on B1.out g2)
      clear g2
      go_wp2_with fail
      refine hK.out _ _ (fun _ => trivial) ?_
      clear hK K
      try simp only [Act.put, List.setIfInBounds_toArray, List.set_cons_zero, List.set_cons_succ]
      refine Till.one (i := 8) (by kernel_rfl) rfl (fun K hK => ?_)
      go_simp
      refine hK.out _ _ (fun _ => trivial) ?_
      clear hK K
      try simp only [Act.put, List.setIfInBounds_toArray, List.set_cons_zero, List.set_cons_succ]
      have R := Lib.hid (R.out.keep B2.out)
      have k0 := R.out.c0
      have k1 := R.out.c1
      have k2 := R.out.c2
      have k3 := R.out.c3
      have f0 := R.out.fz 0
      have f1 := R.out.fz 1
      have f2 := R.out.fz 2
      have f3 := R.out.fz 3
      refine Till.one (i := 9) (by kernel_rfl) rfl (fun K hK => ?_)
      go_simp
      refine hK.out _ _ (fun h => absurd h (by simp)) ?_
      clear hK K
      try simp only [Act.put, List.setIfInBounds_toArray, List.set_cons_zero, List.set_cons_succ]
      refine Till.done (by kernel_rfl) ?_ _
      have Kf := Lib.hid (below_put4 (below_on Kk.out B2.out) (Nat.le_refl w.heap.size) (.int .i64 x) (.pointer none) (.int .i64 (y : Int)) (.pointer none))
      go_wp2
      exact bodyPost_ret (v := .agg #[.int .i64 x, .pointer none, .int .i64 (y : Int), .pointer none]) (by simp [results, Tryz.results83, go_sem, k0, k1, k2, k3]) rfl ⟨x, none, y, none, rfl, ⟨by rw [Hq1.out]; exact small_int ⟨by omega, x2⟩, by rw [Hq2.out]; exact small_int ⟨by omega, y2⟩⟩, Kf.out⟩
theorem rat_sum (p q : Rat) : p + q = Rat.divInt (p.num * q.den + q.num * p.den) ((p.den * q.den : Nat) : Int) := by
  have hp := p.den_pos
  have hq := q.den_pos
  have e0 := Rat.divInt_add_divInt p.num q.num (d₁ := p.den) (d₂ := q.den) (by omega) (by omega)
  rw [rat_self, rat_self] at e0
  rw [e0, Int.natCast_mul]
theorem rat_sum_same (p q : Rat) (h : p.den = q.den) : p + q = Rat.divInt (p.num + q.num) (p.den : Int) := by
  have hp := p.den_pos
  have hq := q.den_pos
  rw [rat_sum, ← h, Rat.divInt_eq_divInt_iff (Int.ofNat_ne_zero.2 (Nat.ne_of_gt (Nat.mul_pos hp hp))) (by omega)]
  push_cast
  simp only [Int.add_mul, Int.mul_assoc]
theorem short_mul {x y : Int} (hx1 : -2147483648 < x) (hx2 : x < 2147483648) (hy0 : 0 ≤ y) (hy : y < 2147483648) : -4611686014132420609 ≤ x * y ∧ x * y ≤ 4611686014132420609 := by
  have h1 : x * y ≤ 2147483647 * y := Int.mul_le_mul_of_nonneg_right (by omega) hy0
  have h2 : -2147483647 * y ≤ x * y := Int.mul_le_mul_of_nonneg_right (by omega) hy0
  omega
set_option maxHeartbeats 8000000 in
theorem add_short (a : Int) (P : Option Addr) (b : Int) (Q : Option Addr) (c : Int) (U : Option Addr) (d : Int) (V : Option Addr) (p q : Rat) (w : World) (h : RatV w a P b Q p) (h' : RatV w c U d V q) (hp : shortB p.num p.den = true) (hq : shortB q.num q.den = true) :
    Calls Tryz.prog 37 #[.agg #[.int .i64 a, .pointer P, .int .i64 b, .pointer Q], .agg #[.int .i64 c, .pointer U, .int .i64 d, .pointer V]] w (NewRat (p + q) w) := by
  have kk := (((Below.refl w.heap.size w).alloc (Nat.le_refl _) (.cells #[.int .i64 a, .pointer P, .int .i64 b, .pointer Q] 27)).alloc (by simp) (.cells #[.int .i64 c, .pointer U, .int .i64 d, .pointer V] 27)).alloc (by simp; omega) (.cells #[.int .i64 0, .pointer none, .int .i64 0, .pointer none] 27)
  have V0 := Lib.hid (((box_rat w a P b Q).keep ((Below.refl _ _).alloc (Nat.le_refl _) (.cells #[.int .i64 c, .pointer U, .int .i64 d, .pointer V] 27))).keep ((Below.refl _ _).alloc (Nat.le_refl _) (.cells #[.int .i64 0, .pointer none, .int .i64 0, .pointer none] 27)))
  have V1 := Lib.hid ((box_rat (w.alloc (.cells #[.int .i64 a, .pointer P, .int .i64 b, .pointer Q] 27)) c U d V).keep ((Below.refl _ _).alloc (Nat.le_refl _) (.cells #[.int .i64 0, .pointer none, .int .i64 0, .pointer none] 27)))
  have R := Lib.hid (Cells.new ((w.alloc (.cells #[.int .i64 a, .pointer P, .int .i64 b, .pointer Q] 27)).alloc (.cells #[.int .i64 c, .pointer U, .int .i64 d, .pointer V] 27)) #[.int .i64 0, .pointer none, .int .i64 0, .pointer none] 27)
  simp only [World.size_alloc] at V1 R
  have HA := Lib.hid (ints_any a P b Q p _ (h.keep kk))
  have HB := Lib.hid (fun w' (hb : Below w.heap.size w w') => ints_any c U d V q w' (h'.keep hb))
  have Kk := Lib.hid kk
  have Hp := Lib.hid hp
  have Hq := Lib.hid hq
  clear h h' kk hp hq
  have c0 := V0.out.c0
  have c1 := V0.out.c1
  have c2 := V0.out.c2
  have c3 := V0.out.c3
  go_enter Tryz.func37, Tryz.ntmps37
  go_wp2_with fail
  refine HA.out.mono ?_
  rintro e w1 ⟨n1, d1, b1, rfl, h1, h2, _, _, h3⟩
  obtain ⟨s1, s2, s3⟩ := shortB_true Hp.out
  have pp := p.den_pos
  obtain rfl : b1 = true := h2 ⟨by omega, by omega⟩ ⟨by omega, by omega⟩
  obtain ⟨en1, ed1⟩ := h1 rfl
  have V1 := Lib.hid (V1.out.keep h3)
  have V0 := Lib.hid (V0.out.keep h3)
  have R := Lib.hid (R.out.keep h3)
  have K1 := Lib.hid (below_on Kk.out h3)
  have En1 := Lib.hid en1
  have Ed1 := Lib.hid ed1
  rw [← en1] at s1 s2
  have sd1 : d1 < 2147483648 := by omega
  have sp1 : 0 < d1 := by omega
  clear h1 h2 h3 c0 c1 c2 c3 en1 ed1 s3 pp
  have c0 := V1.out.c0
  have c1 := V1.out.c1
  have c2 := V1.out.c2
  have c3 := V1.out.c3
  go_wp2_with fail
  refine (HB.out _ K1.out).mono ?_
  rintro e w2 ⟨n2, d2, b2, rfl, h1, h2, _, _, h3⟩
  obtain ⟨r1, r2, r3⟩ := shortB_true Hq.out
  have pp := q.den_pos
  obtain rfl : b2 = true := h2 ⟨by omega, by omega⟩ ⟨by omega, by omega⟩
  obtain ⟨en2, ed2⟩ := h1 rfl
  have R := Lib.hid (R.out.keep h3)
  have K2 := Lib.hid (below_on K1.out h3)
  have En2 := Lib.hid en2
  have Ed2 := Lib.hid ed2
  rw [← en2] at r1 r2
  have sd2 : d2 < 2147483648 := by omega
  have sp2 : 0 < d2 := by omega
  clear h1 h2 h3 c0 c1 c2 c3 en2 ed2 r3 pp
  have HP := Lib.hid (show shortB n1 d1 = true by rw [En1.out, Ed1.out]; exact Hp.out)
  have HQ := Lib.hid (show shortB n2 d2 = true by rw [En2.out, Ed2.out]; exact Hq.out)
  have HC := Lib.hid (fun w' => isShort_any n1 d1 w')
  have HD := Lib.hid (fun w' => isShort_any n2 d2 w')
  rw [HP.out] at HC
  rw [HQ.out] at HD
  by_cases hd : d1 = d2
  · have Hsum := Lib.hid (show p + q = Rat.divInt (n1 + n2) ((d2.toNat : Nat) : Int) by
      have e := Ed1.out; have e' := Ed2.out
      rw [rat_sum_same p q (by omega), En1.out, En2.out]
      congr 1
      omega)
    have e9 : d2 = ((d2.toNat : Nat) : Int) := by omega
    have HO := Lib.hid (fun w' => ofInts_any (n1 + n2) d2.toNat w' (by omega) (by omega) (by omega))
    rw [← e9] at HO Hsum
    clear e9
    subst hd
    go_wp2_with fail
    refine (HC.out _).mono ?_
    rintro e w3 ⟨rfl, rfl⟩
    go_wp2_with fail
    refine (HD.out _).mono ?_
    rintro e w3 ⟨rfl, rfl⟩
    go_wp2_with fail
    refine (HO.out _).mono ?_
    rintro e w5 ⟨xa, xP, xb, xQ, rfl, hv, h5⟩
    have R := Lib.hid (R.out.keep h5)
    have Hv := Lib.hid (hv.wrote R.out (by rfl) (put4_heap w5 (w.heap.size + 1 + 1) (.int .i64 xa) (.pointer xP) (.int .i64 xb) (.pointer xQ)).1 (put4_heap _ _ _ _ _ _).2)
    have K5 := Lib.hid (below_put4 (below_on K2.out h5) (show w.heap.size ≤ w.heap.size + 1 + 1 by omega) (.int .i64 xa) (.pointer xP) (.int .i64 xb) (.pointer xQ))
    clear h5 hv
    have k0 := R.out.c0
    have k1 := R.out.c1
    have k2 := R.out.c2
    have k3 := R.out.c3
    have f0 := R.out.fz 0
    have f1 := R.out.fz 1
    have f2 := R.out.fz 2
    have f3 := R.out.fz 3
    go_wp2
    exact bodyPost_ret (v := .agg #[.int .i64 xa, .pointer xP, .int .i64 xb, .pointer xQ]) (by simp [results, Tryz.results37, go_sem, k0, k1, k2, k3]) rfl ⟨xa, xP, xb, xQ, rfl, by rw [Hsum.out]; exact Hv.out, K5.out⟩
  · have t0 : (d1 == d2) = false := by rw [beq_eq_false_iff_ne]; exact hd
    obtain ⟨m1, m2⟩ := short_mul s1 s2 (Int.le_of_lt sp2) sd2
    obtain ⟨m3, m4⟩ := short_mul r1 r2 (Int.le_of_lt sp1) sd1
    obtain ⟨m5, m6⟩ := short_mul (x := d1) (y := d2) (by omega) sd1 (Int.le_of_lt sp2) sd2
    have m7 : 0 < d1 * d2 := Int.mul_pos sp1 sp2
    have Hsum := Lib.hid (show p + q = Rat.divInt (n1 * d2 + n2 * d1) (((d1 * d2).toNat : Nat) : Int) by
      have e := Ed1.out; have e' := Ed2.out
      rw [rat_sum p q, En1.out, En2.out, Int.toNat_of_nonneg (by omega), e, e', Int.natCast_mul])
    have e9 : d1 * d2 = (((d1 * d2).toNat : Nat) : Int) := by rw [Int.toNat_of_nonneg (by omega)]
    obtain ⟨x1, hx1⟩ : ∃ x, n1 * d2 = x := ⟨_, rfl⟩
    obtain ⟨x2, hx2⟩ : ∃ x, n2 * d1 = x := ⟨_, rfl⟩
    obtain ⟨x3, hx3⟩ : ∃ x, d1 * d2 = x := ⟨_, rfl⟩
    rw [hx1] at m1 m2
    rw [hx2] at m3 m4
    rw [hx3] at m5 m6 m7
    rw [hx1, hx2, hx3] at Hsum
    rw [hx3] at e9
    have HO := Lib.hid (fun w' => ofInts_any (x1 + x2) x3.toNat w' (by omega) (by omega) (by omega))
    rw [← e9] at HO Hsum
    clear e9 hd
    go_wp2_with fail
    refine (HC.out _).mono ?_
    rintro e w3 ⟨rfl, rfl⟩
    go_wp2_with fail
    refine (HD.out _).mono ?_
    rintro e w3 ⟨rfl, rfl⟩
    go_wp2_with fail
    refine (HO.out _).mono ?_
    rintro e w5 ⟨xa, xP, xb, xQ, rfl, hv, h5⟩
    have R := Lib.hid (R.out.keep h5)
    have Hv := Lib.hid (hv.wrote R.out (by rfl) (put4_heap w5 (w.heap.size + 1 + 1) (.int .i64 xa) (.pointer xP) (.int .i64 xb) (.pointer xQ)).1 (put4_heap _ _ _ _ _ _).2)
    have K5 := Lib.hid (below_put4 (below_on K2.out h5) (show w.heap.size ≤ w.heap.size + 1 + 1 by omega) (.int .i64 xa) (.pointer xP) (.int .i64 xb) (.pointer xQ))
    clear h5 hv
    have k0 := R.out.c0
    have k1 := R.out.c1
    have k2 := R.out.c2
    have k3 := R.out.c3
    have f0 := R.out.fz 0
    have f1 := R.out.fz 1
    have f2 := R.out.fz 2
    have f3 := R.out.fz 3
    go_wp2
    exact bodyPost_ret (v := .agg #[.int .i64 xa, .pointer xP, .int .i64 xb, .pointer xQ]) (by simp [results, Tryz.results37, go_sem, k0, k1, k2, k3]) rfl ⟨xa, xP, xb, xQ, rfl, by rw [Hsum.out]; exact Hv.out, K5.out⟩
end Go.Proofs.YtjcblcikipmojaaGreatDoor
