/- Mul of any integers. -/
import Derived.Test.YtbpbfjnndkoioaaGreatDoorAddZ
namespace Go.Proofs.YtbpbfjnndkoioaaGreatDoor
open Go.RowKit

set_option maxRecDepth 100000 in
set_option maxHeartbeats 8000000 in
theorem mul_large (a b : Int) (p : Nat) (Q : Option Addr) (z k : Int) (w : World) (h : IsInt 0 w (.agg #[.int .i64 a, .pointer (some ⟨p, 0, none⟩)]) z) (h' : IsInt 0 w (.agg #[.int .i64 b, .pointer Q]) k) (hlz : z.natAbs < base 400) (hlk : k.natAbs < base 400) (hsm : z.natAbs < base 47 ∨ k.natAbs < base 47)  :
    Calls Tryz.prog 50 #[.agg #[.int .i64 a, .pointer (some ⟨p, 0, none⟩)], .agg #[.int .i64 b, .pointer Q]] w (NewInt (z * k) w) := by
  obtain ⟨bz, hbz⟩ : ∃ bz, decide (z < 0) = bz := ⟨_, rfl⟩
  obtain ⟨bk, hbk⟩ : ∃ bk, decide (k < 0) = bk := ⟨_, rfl⟩
  have kk := (((Below.refl w.heap.size w).alloc (Nat.le_refl _) (.cells #[.int .i64 a, .pointer (some ⟨p, 0, none⟩)] 26)).alloc (by simp) (.cells #[.int .i64 b, .pointer Q] 26)).alloc (by simp; omega) (.cells #[.int .i64 0, .pointer none] 26)
  have Hr := Lib.hid (Res.new ((w.alloc (.cells #[.int .i64 a, .pointer (some ⟨p, 0, none⟩)] 26)).alloc (.cells #[.int .i64 b, .pointer Q] 26)))
  simp only [World.size_alloc] at Hr
  have Hx := Lib.hid (parts_at _ z _ bz hbz (h.keep kk))
  have Hy := Lib.hid (fun w' (hb : Below w.heap.size w w') => parts_at _ k w' bk hbk (h'.keep hb))
  have Kk := Lib.hid kk
  have Hlz := Lib.hid hlz
  have Hlk := Lib.hid hlk
  have Hsm := Lib.hid hsm
  have hs := sign_mul z k
  rw [hbz, hbk] at hs
  have Hs := Lib.hid hs
  clear h h' kk hbz hbk hlz hlk hsm hs
  go_enter Tryz.func50, Tryz.ntmps50
  go_wp2_with fail
  refine Hx.out.mono ?_
  rintro e w1 ⟨A, n, c, xs, rfl, hx, h1⟩
  have e1 : w1.cell? ⟨w.heap.size + 1, 0, none⟩ = some (.int .i64 b) := (h1.cell (p := ⟨w.heap.size + 1, 0, none⟩) (by simp)).trans (by simp [go_sem])
  have e2 : w1.cell? ⟨w.heap.size + 1, 1, none⟩ = some (.pointer Q) := (h1.cell (p := ⟨w.heap.size + 1, 1, none⟩) (by simp)).trans (by simp [go_sem])
  have K1 := Lib.hid (below_on Kk.out h1)
  have R1 := Lib.hid (Hr.out.keep h1)
  have Hnx := Lib.hid hx
  clear h1 hx
  go_wp2_with fail
  refine (Hy.out _ K1.out).mono ?_
  rintro e w2 ⟨A', n', c', ys, rfl, hy, h2⟩
  have Hnx2 := Lib.hid (Hnx.out.keep h2)
  have Hny := Lib.hid hy
  have K2 := Lib.hid (below_on K1.out h2)
  have R2 := Lib.hid (R1.out.keep h2)
  have hn := Hnx2.out.len_le Hlz.out
  have hn' := Hny.out.len_le Hlk.out
  have h48 : n < 48 ∨ n' < 48 := by
    rcases Hsm.out with h0 | h0
    · left; have := Hnx2.out.len_le h0; omega
    · right; have := Hny.out.len_le h0; omega
  clear h2 hy e1 e2
  have Hmul := Lib.hid (mulNat_any w2 Hnx2.out Hny.out h48 (by omega) (by omega))
  go_wp2_with fail
  refine Hmul.out.mono ?_
  rintro e w3 ⟨A3, n3, c3, zs, rfl, h3n, h3⟩
  have K4 := Lib.hid (below_on K2.out h3)
  have R4 := Lib.hid (R2.out.keep h3)
  have Hsg := Lib.hid (signed_new (bz != bk) (z * k) w3 h3n Hs.out)
  clear h3n h3
  go_wp2_with fail
  refine Hsg.out.mono ?_
  rintro e w5 ⟨a', P', rfl, hi5, h5⟩
  have R5 := Lib.hid (R4.out.keep h5)
  have Hi5 := Lib.hid (hi5.stored R5.out (.int .i64 a') (.pointer P'))
  have K5 := Lib.hid (below_stored (below_on K4.out h5) (show w.heap.size ≤ w.heap.size + 2 by omega) (.int .i64 a') (.pointer P'))
  have k0 := R5.out.k0
  have k1 := R5.out.k1
  have f0 := R5.out.f0
  have f1 := R5.out.f1
  clear hi5 h5
  go_wp2
  exact bodyPost_ret (v := .agg #[.int .i64 a', .pointer P']) (by simp [results, Tryz.results50, go_sem, k0, k1]) rfl ⟨a', P', rfl, Hi5.out, K5.out⟩
set_option maxRecDepth 100000 in
set_option maxHeartbeats 8000000 in
theorem mul_mixed (a b : Int) (p : Nat) (z k : Int) (w : World) (h : IsInt 0 w (.agg #[.int .i64 a, .pointer none]) z) (h' : IsInt 0 w (.agg #[.int .i64 b, .pointer (some ⟨p, 0, none⟩)]) k) (hlz : z.natAbs < base 400) (hlk : k.natAbs < base 400) (hsm : z.natAbs < base 47 ∨ k.natAbs < base 47)  :
    Calls Tryz.prog 50 #[.agg #[.int .i64 a, .pointer none], .agg #[.int .i64 b, .pointer (some ⟨p, 0, none⟩)]] w (NewInt (z * k) w) := by
  obtain ⟨bz, hbz⟩ : ∃ bz, decide (z < 0) = bz := ⟨_, rfl⟩
  obtain ⟨bk, hbk⟩ : ∃ bk, decide (k < 0) = bk := ⟨_, rfl⟩
  have kk := (((Below.refl w.heap.size w).alloc (Nat.le_refl _) (.cells #[.int .i64 a, .pointer none] 26)).alloc (by simp) (.cells #[.int .i64 b, .pointer (some ⟨p, 0, none⟩)] 26)).alloc (by simp; omega) (.cells #[.int .i64 0, .pointer none] 26)
  have Hr := Lib.hid (Res.new ((w.alloc (.cells #[.int .i64 a, .pointer none] 26)).alloc (.cells #[.int .i64 b, .pointer (some ⟨p, 0, none⟩)] 26)))
  simp only [World.size_alloc] at Hr
  have Hx := Lib.hid (parts_at _ z _ bz hbz (h.keep kk))
  have Hy := Lib.hid (fun w' (hb : Below w.heap.size w w') => parts_at _ k w' bk hbk (h'.keep hb))
  have Kk := Lib.hid kk
  have Hlz := Lib.hid hlz
  have Hlk := Lib.hid hlk
  have Hsm := Lib.hid hsm
  have hs := sign_mul z k
  rw [hbz, hbk] at hs
  have Hs := Lib.hid hs
  clear h h' kk hbz hbk hlz hlk hsm hs
  go_enter Tryz.func50, Tryz.ntmps50
  go_wp2_with fail
  refine Hx.out.mono ?_
  rintro e w1 ⟨A, n, c, xs, rfl, hx, h1⟩
  have e1 : w1.cell? ⟨w.heap.size + 1, 0, none⟩ = some (.int .i64 b) := (h1.cell (p := ⟨w.heap.size + 1, 0, none⟩) (by simp)).trans (by simp [go_sem])
  have e2 : w1.cell? ⟨w.heap.size + 1, 1, none⟩ = some (.pointer (some ⟨p, 0, none⟩)) := (h1.cell (p := ⟨w.heap.size + 1, 1, none⟩) (by simp)).trans (by simp [go_sem])
  have K1 := Lib.hid (below_on Kk.out h1)
  have R1 := Lib.hid (Hr.out.keep h1)
  have Hnx := Lib.hid hx
  clear h1 hx
  go_wp2_with fail
  refine (Hy.out _ K1.out).mono ?_
  rintro e w2 ⟨A', n', c', ys, rfl, hy, h2⟩
  have Hnx2 := Lib.hid (Hnx.out.keep h2)
  have Hny := Lib.hid hy
  have K2 := Lib.hid (below_on K1.out h2)
  have R2 := Lib.hid (R1.out.keep h2)
  have hn := Hnx2.out.len_le Hlz.out
  have hn' := Hny.out.len_le Hlk.out
  have h48 : n < 48 ∨ n' < 48 := by
    rcases Hsm.out with h0 | h0
    · left; have := Hnx2.out.len_le h0; omega
    · right; have := Hny.out.len_le h0; omega
  clear h2 hy e1 e2
  have Hmul := Lib.hid (mulNat_any w2 Hnx2.out Hny.out h48 (by omega) (by omega))
  go_wp2_with fail
  refine Hmul.out.mono ?_
  rintro e w3 ⟨A3, n3, c3, zs, rfl, h3n, h3⟩
  have K4 := Lib.hid (below_on K2.out h3)
  have R4 := Lib.hid (R2.out.keep h3)
  have Hsg := Lib.hid (signed_new (bz != bk) (z * k) w3 h3n Hs.out)
  clear h3n h3
  go_wp2_with fail
  refine Hsg.out.mono ?_
  rintro e w5 ⟨a', P', rfl, hi5, h5⟩
  have R5 := Lib.hid (R4.out.keep h5)
  have Hi5 := Lib.hid (hi5.stored R5.out (.int .i64 a') (.pointer P'))
  have K5 := Lib.hid (below_stored (below_on K4.out h5) (show w.heap.size ≤ w.heap.size + 2 by omega) (.int .i64 a') (.pointer P'))
  have k0 := R5.out.k0
  have k1 := R5.out.k1
  have f0 := R5.out.f0
  have f1 := R5.out.f1
  clear hi5 h5
  go_wp2
  exact bodyPost_ret (v := .agg #[.int .i64 a', .pointer P']) (by simp [results, Tryz.results50, go_sem, k0, k1]) rfl ⟨a', P', rfl, Hi5.out, K5.out⟩
theorem over_high {m : Nat} (h : 9223372036854775807 < m) : ∀ H L : Nat, m / 18446744073709551616 = H → m % 18446744073709551616 = L → ¬ (H = 0 ∧ L ≤ 9223372036854775807) := by
  intro H L hh hl
  omega
theorem mul64_q (x y H L : Nat) (hx : x < 18446744073709551616) (hy : y < 18446744073709551616) (hh : x * y / 18446744073709551616 = H) (hl : x * y % 18446744073709551616 = L) (w : World) :
    Calls Tryz.prog 77 #[.int .u64 x, .int .u64 y] w fun e w' => e = .returned (.tuple #[.int .u64 (H : Int), .int .u64 (L : Int)]) ∧ w' = w := by
  rw [← hh, ← hl]; exact Tryz.bits_Mul64 x y hx hy w
set_option maxRecDepth 100000 in
set_option maxHeartbeats 8000000 in
theorem mul_over1 (z k : Int) (w : World) (h : IsInt 0 w (.agg #[.int .i64 z, .pointer none]) z) (h' : IsInt 0 w (.agg #[.int .i64 k, .pointer none]) k) (hlz : z.natAbs < base 400) (hlk : k.natAbs < base 400) (hsm : z.natAbs < base 47 ∨ k.natAbs < base 47) (ha : I64 z) (hb : I64 k) (hbig : 9223372036854775807 < z.natAbs * k.natAbs) (h0 : z.natAbs * k.natAbs / 18446744073709551616 = 0) :
    Calls Tryz.prog 50 #[.agg #[.int .i64 z, .pointer none], .agg #[.int .i64 k, .pointer none]] w (NewInt (z * k) w) := by
  obtain ⟨bz, hbz⟩ : ∃ bz, decide (z < 0) = bz := ⟨_, rfl⟩
  obtain ⟨bk, hbk⟩ : ∃ bk, decide (k < 0) = bk := ⟨_, rfl⟩
  have kk := (((Below.refl w.heap.size w).alloc (Nat.le_refl _) (.cells #[.int .i64 z, .pointer none] 26)).alloc (by simp) (.cells #[.int .i64 k, .pointer none] 26)).alloc (by simp; omega) (.cells #[.int .i64 0, .pointer none] 26)
  have Hr := Lib.hid (Res.new ((w.alloc (.cells #[.int .i64 z, .pointer none] 26)).alloc (.cells #[.int .i64 k, .pointer none] 26)))
  simp only [World.size_alloc] at Hr
  have Hx := Lib.hid (fun w' (hb : Below w.heap.size w w') => parts_at _ z w' bz hbz (h.keep hb))
  have Hy := Lib.hid (fun w' (hb : Below w.heap.size w w') => parts_at _ k w' bk hbk (h'.keep hb))
  have Kk := Lib.hid kk
  have Hlz := Lib.hid hlz
  have Hlk := Lib.hid hlk
  have Hsm := Lib.hid hsm
  have hs := sign_mul z k
  rw [hbz, hbk] at hs
  have Hs := Lib.hid hs
  clear h h' kk hbz hbk hlz hlk hsm hs
  obtain ⟨H, hh⟩ : ∃ H, z.natAbs * k.natAbs / 18446744073709551616 = H := ⟨_, rfl⟩
  obtain ⟨L, hl⟩ : ∃ L, z.natAbs * k.natAbs % 18446744073709551616 = L := ⟨_, rfl⟩
  have hnot := over_high hbig H L hh hl
  have Hh := Lib.hid hh
  have Hl := Lib.hid hl
  have Ha := Lib.hid ha
  have Hb := Lib.hid hb
  clear hh hl hbig
  obtain rfl : H = 0 := by rw [← Hh.out]; exact h0
  have hL : ¬ L ≤ 9223372036854775807 := fun e => hnot ⟨rfl, e⟩
  clear hnot h0
  go_enter Tryz.func50, Tryz.ntmps50
  go_wp2_with fail
  go_quiet ((first | (go_at_call 63; first | exact Calls.quiet_of_same (magnitude_any _ _ Ha.out) | exact Calls.quiet_of_same (magnitude_any _ _ Hb.out)) | (go_at_call 77; exact Calls.quiet_of_same (mul64_q _ _ _ _ (abs_lt Ha.out) (abs_lt Hb.out) Hh.out Hl.out _))))
  go_wp2_with fail
  refine (Hx.out _ (below_drewN Kk.out _)).mono ?_
  rintro e w1 ⟨A, n, c, xs, rfl, hx, h1⟩
  have e1 : w1.cell? ⟨w.heap.size + 1, 0, none⟩ = some (.int .i64 k) := (h1.cell (p := ⟨w.heap.size + 1, 0, none⟩) (by simp)).trans (by simp [go_sem])
  have e2 : w1.cell? ⟨w.heap.size + 1, 1, none⟩ = some (.pointer none) := (h1.cell (p := ⟨w.heap.size + 1, 1, none⟩) (by simp)).trans (by simp [go_sem])
  have K1 := Lib.hid (below_on (below_drewN Kk.out _) h1)
  have R1 := Lib.hid ((Hr.out.keep (below_drewN (Below.refl _ _) _)).keep h1)
  have Hnx := Lib.hid hx
  clear h1 hx
  go_wp2_with fail
  refine (Hy.out _ K1.out).mono ?_
  rintro e w2 ⟨A', n', c', ys, rfl, hy, h2⟩
  have Hnx2 := Lib.hid (Hnx.out.keep h2)
  have Hny := Lib.hid hy
  have K2 := Lib.hid (below_on K1.out h2)
  have R2 := Lib.hid (R1.out.keep h2)
  have hn := Hnx2.out.len_le Hlz.out
  have hn' := Hny.out.len_le Hlk.out
  have h48 : n < 48 ∨ n' < 48 := by
    rcases Hsm.out with h0 | h0
    · left; have := Hnx2.out.len_le h0; omega
    · right; have := Hny.out.len_le h0; omega
  clear h2 hy e1 e2
  have Hmul := Lib.hid (mulNat_any w2 Hnx2.out Hny.out h48 (by omega) (by omega))
  go_wp2_with fail
  refine Hmul.out.mono ?_
  rintro e w3 ⟨A3, n3, c3, zs, rfl, h3n, h3⟩
  have K4 := Lib.hid (below_on K2.out h3)
  have R4 := Lib.hid (R2.out.keep h3)
  have Hsg := Lib.hid (signed_new (bz != bk) (z * k) w3 h3n Hs.out)
  clear h3n h3
  go_wp2_with fail
  refine Hsg.out.mono ?_
  rintro e w5 ⟨a', P', rfl, hi5, h5⟩
  have R5 := Lib.hid (R4.out.keep h5)
  have Hi5 := Lib.hid (hi5.stored R5.out (.int .i64 a') (.pointer P'))
  have K5 := Lib.hid (below_stored (below_on K4.out h5) (show w.heap.size ≤ w.heap.size + 2 by omega) (.int .i64 a') (.pointer P'))
  have k0 := R5.out.k0
  have k1 := R5.out.k1
  have f0 := R5.out.f0
  have f1 := R5.out.f1
  clear hi5 h5
  go_wp2
  exact bodyPost_ret (v := .agg #[.int .i64 a', .pointer P']) (by simp [results, Tryz.results50, go_sem, k0, k1]) rfl ⟨a', P', rfl, Hi5.out, K5.out⟩
set_option maxRecDepth 100000 in
set_option maxHeartbeats 8000000 in
theorem mul_over2 (z k : Int) (w : World) (h : IsInt 0 w (.agg #[.int .i64 z, .pointer none]) z) (h' : IsInt 0 w (.agg #[.int .i64 k, .pointer none]) k) (hlz : z.natAbs < base 400) (hlk : k.natAbs < base 400) (hsm : z.natAbs < base 47 ∨ k.natAbs < base 47) (ha : I64 z) (hb : I64 k) (hbig : 9223372036854775807 < z.natAbs * k.natAbs) (h0 : z.natAbs * k.natAbs / 18446744073709551616 ≠ 0) :
    Calls Tryz.prog 50 #[.agg #[.int .i64 z, .pointer none], .agg #[.int .i64 k, .pointer none]] w (NewInt (z * k) w) := by
  obtain ⟨bz, hbz⟩ : ∃ bz, decide (z < 0) = bz := ⟨_, rfl⟩
  obtain ⟨bk, hbk⟩ : ∃ bk, decide (k < 0) = bk := ⟨_, rfl⟩
  have kk := (((Below.refl w.heap.size w).alloc (Nat.le_refl _) (.cells #[.int .i64 z, .pointer none] 26)).alloc (by simp) (.cells #[.int .i64 k, .pointer none] 26)).alloc (by simp; omega) (.cells #[.int .i64 0, .pointer none] 26)
  have Hr := Lib.hid (Res.new ((w.alloc (.cells #[.int .i64 z, .pointer none] 26)).alloc (.cells #[.int .i64 k, .pointer none] 26)))
  simp only [World.size_alloc] at Hr
  have Hx := Lib.hid (fun w' (hb : Below w.heap.size w w') => parts_at _ z w' bz hbz (h.keep hb))
  have Hy := Lib.hid (fun w' (hb : Below w.heap.size w w') => parts_at _ k w' bk hbk (h'.keep hb))
  have Kk := Lib.hid kk
  have Hlz := Lib.hid hlz
  have Hlk := Lib.hid hlk
  have Hsm := Lib.hid hsm
  have hs := sign_mul z k
  rw [hbz, hbk] at hs
  have Hs := Lib.hid hs
  clear h h' kk hbz hbk hlz hlk hsm hs
  obtain ⟨H, hh⟩ : ∃ H, z.natAbs * k.natAbs / 18446744073709551616 = H := ⟨_, rfl⟩
  obtain ⟨L, hl⟩ : ∃ L, z.natAbs * k.natAbs % 18446744073709551616 = L := ⟨_, rfl⟩
  have hnot := over_high hbig H L hh hl
  have Hh := Lib.hid hh
  have Hl := Lib.hid hl
  have Ha := Lib.hid ha
  have Hb := Lib.hid hb
  clear hh hl hbig
  have hH : ((H : Int) == 0) = false := by rw [beq_eq_false_iff_ne]; intro e; exact h0 (by rw [Hh.out]; omega)
  clear hnot h0
  go_enter Tryz.func50, Tryz.ntmps50
  go_wp2_with fail
  go_quiet ((first | (go_at_call 63; first | exact Calls.quiet_of_same (magnitude_any _ _ Ha.out) | exact Calls.quiet_of_same (magnitude_any _ _ Hb.out)) | (go_at_call 77; exact Calls.quiet_of_same (mul64_q _ _ _ _ (abs_lt Ha.out) (abs_lt Hb.out) Hh.out Hl.out _))))
  go_wp2_with fail
  refine (Hx.out _ (below_drewN Kk.out _)).mono ?_
  rintro e w1 ⟨A, n, c, xs, rfl, hx, h1⟩
  have e1 : w1.cell? ⟨w.heap.size + 1, 0, none⟩ = some (.int .i64 k) := (h1.cell (p := ⟨w.heap.size + 1, 0, none⟩) (by simp)).trans (by simp [go_sem])
  have e2 : w1.cell? ⟨w.heap.size + 1, 1, none⟩ = some (.pointer none) := (h1.cell (p := ⟨w.heap.size + 1, 1, none⟩) (by simp)).trans (by simp [go_sem])
  have K1 := Lib.hid (below_on (below_drewN Kk.out _) h1)
  have R1 := Lib.hid ((Hr.out.keep (below_drewN (Below.refl _ _) _)).keep h1)
  have Hnx := Lib.hid hx
  clear h1 hx
  go_wp2_with fail
  refine (Hy.out _ K1.out).mono ?_
  rintro e w2 ⟨A', n', c', ys, rfl, hy, h2⟩
  have Hnx2 := Lib.hid (Hnx.out.keep h2)
  have Hny := Lib.hid hy
  have K2 := Lib.hid (below_on K1.out h2)
  have R2 := Lib.hid (R1.out.keep h2)
  have hn := Hnx2.out.len_le Hlz.out
  have hn' := Hny.out.len_le Hlk.out
  have h48 : n < 48 ∨ n' < 48 := by
    rcases Hsm.out with h0 | h0
    · left; have := Hnx2.out.len_le h0; omega
    · right; have := Hny.out.len_le h0; omega
  clear h2 hy e1 e2
  have Hmul := Lib.hid (mulNat_any w2 Hnx2.out Hny.out h48 (by omega) (by omega))
  go_wp2_with fail
  refine Hmul.out.mono ?_
  rintro e w3 ⟨A3, n3, c3, zs, rfl, h3n, h3⟩
  have K4 := Lib.hid (below_on K2.out h3)
  have R4 := Lib.hid (R2.out.keep h3)
  have Hsg := Lib.hid (signed_new (bz != bk) (z * k) w3 h3n Hs.out)
  clear h3n h3
  go_wp2_with fail
  refine Hsg.out.mono ?_
  rintro e w5 ⟨a', P', rfl, hi5, h5⟩
  have R5 := Lib.hid (R4.out.keep h5)
  have Hi5 := Lib.hid (hi5.stored R5.out (.int .i64 a') (.pointer P'))
  have K5 := Lib.hid (below_stored (below_on K4.out h5) (show w.heap.size ≤ w.heap.size + 2 by omega) (.int .i64 a') (.pointer P'))
  have k0 := R5.out.k0
  have k1 := R5.out.k1
  have f0 := R5.out.f0
  have f1 := R5.out.f1
  clear hi5 h5
  go_wp2
  exact bodyPost_ret (v := .agg #[.int .i64 a', .pointer P']) (by simp [results, Tryz.results50, go_sem, k0, k1]) rfl ⟨a', P', rfl, Hi5.out, K5.out⟩
/-- Mul of any integers. -/
theorem mul_any (a b : Int) (P Q : Option Addr) (z k : Int) (w : World) (h : IsInt 0 w (.agg #[.int .i64 a, .pointer P]) z) (h' : IsInt 0 w (.agg #[.int .i64 b, .pointer Q]) k) (hlz : z.natAbs < base 400) (hlk : k.natAbs < base 400) (hsm : z.natAbs < base 47 ∨ k.natAbs < base 47) :
    Calls Tryz.prog 50 #[.agg #[.int .i64 a, .pointer P], .agg #[.int .i64 b, .pointer Q]] w (NewInt (z * k) w) := by
  rcases h.ways with ⟨hz, e⟩ | ⟨hz, p, e, _, _⟩
  · obtain ⟨rfl, rfl⟩ := small_eq e
    rcases h'.ways with ⟨hk, e'⟩ | ⟨hk, q, e', _, _⟩
    · obtain ⟨rfl, rfl⟩ := small_eq e'
      by_cases hs : a.natAbs * b.natAbs ≤ 9223372036854775807
      · refine (mul_small a b w hz hk hs).mono ?_
        rintro e w' ⟨rfl, hb⟩
        have hc : (a * b).natAbs = a.natAbs * b.natAbs := Int.natAbs_mul a b
        exact ⟨a * b, none, rfl, .inl ⟨⟨by omega, by omega⟩, rfl⟩, hb⟩
      · by_cases h0 : a.natAbs * b.natAbs / 18446744073709551616 = 0
        · exact mul_over1 a b w h h' hlz hlk hsm hz hk (by omega) h0
        · exact mul_over2 a b w h h' hlz hlk hsm hz hk (by omega) h0
    · obtain ⟨rfl, rfl⟩ : b = 0 ∧ Q = some ⟨q, 0, none⟩ := by simpa using e'
      exact mul_mixed a 0 q a k w h h' hlz hlk hsm
  · obtain ⟨rfl, rfl⟩ : a = 0 ∧ P = some ⟨p, 0, none⟩ := by simpa using e
    exact mul_large 0 b p Q z k w h h' hlz hlk hsm
end Go.Proofs.YtbpbfjnndkoioaaGreatDoor
