/- The magnitude of any integer. -/
import Derived.Test.YtjcblcikipmojaaGreatDoorArith
import Derived.Test.YtjcblcikipmojaaGreatDoorHold
import Derived.Deep.DeepCutAuto
namespace Go.Proofs.YtjcblcikipmojaaGreatDoor
open Go.RowKit

set_option maxRecDepth 100000 in
set_option maxHeartbeats 4000000 in
theorem abs_any (a : Int) (P : Option Addr) (z : Int) (w : World) (h : IsInt 0 w (.agg #[.int .i64 a, .pointer P]) z) :
    Calls Tryz.prog 90 #[.agg #[.int .i64 a, .pointer P]] w (NewInt (z.natAbs : Int) w) := by
  have kk := ((Below.refl w.heap.size w).alloc (Nat.le_refl _) (.cells #[.int .i64 a, .pointer P] 25)).alloc (by simp) (.cells #[.int .i64 0, .pointer none] 25)
  have Hr := Lib.hid (Res.new (w.alloc (.cells #[.int .i64 a, .pointer P] 25)))
  simp only [World.size_alloc] at Hr
  have Hs := Lib.hid (signZ_any _ z _ (h.keep kk))
  have Hn := Lib.hid (fun w' (hb : Below w.heap.size w w') => neg_any a P z w' (h.keep hb))
  have Hi := Lib.hid (fun w' (hb : Below w.heap.size w w') => h.keep hb)
  have Kk := Lib.hid kk
  clear h kk
  by_cases hz : z < 0
  · rw [show sgn z = -1 by unfold sgn; rw [if_pos hz]] at Hs
    rw [show -z = (z.natAbs : Int) by omega] at Hn
    go_enter Tryz.func90, Tryz.ntmps90
    go_wp2_with fail
    refine Hs.out.mono ?_
    rintro e w1 ⟨rfl, h1⟩
    have c0 := (h1.cell (p := ⟨w.heap.size, 0, none⟩) (by simp; omega)).trans (show _ = some (.int .i64 a) by simp [go_sem])
    have c1 := (h1.cell (p := ⟨w.heap.size, 1, none⟩) (by simp; omega)).trans (show _ = some (.pointer P) by simp [go_sem])
    have K1 := Lib.hid (below_on Kk.out h1)
    have R1 := Lib.hid (Hr.out.keep h1)
    clear h1
    go_wp2_with fail
    refine (Hn.out _ K1.out).mono ?_
    rintro e w2 ⟨a', P', rfl, hi2, h2⟩
    have R2 := Lib.hid (R1.out.keep h2)
    have Hi2 := Lib.hid (hi2.stored R2.out (.int .i64 a') (.pointer P'))
    have K2 := Lib.hid (below_stored (below_on K1.out h2) (Nat.le_succ w.heap.size) (.int .i64 a') (.pointer P'))
    have k0 := R2.out.k0
    have k1 := R2.out.k1
    have f0 := R2.out.f0
    have f1 := R2.out.f1
    clear hi2 h2
    go_wp2
    exact bodyPost_ret (v := .agg #[.int .i64 a', .pointer P']) (by simp [results, Tryz.results90, go_sem, k0, k1]) rfl ⟨a', P', rfl, Hi2.out, K2.out⟩
  · have Hge := Lib.hid (show ¬ sgn z < 0 by unfold sgn; rw [if_neg hz]; split <;> decide)
    have Hz := Lib.hid (show (z.natAbs : Int) = z by omega)
    rw [Hz.out]
    obtain ⟨r, hr⟩ : ∃ r, sgn z = r := ⟨_, rfl⟩
    have hr0 : ¬ r < 0 := by rw [← hr]; exact Hge.out
    rw [hr] at Hs
    go_enter Tryz.func90, Tryz.ntmps90
    go_wp2_with fail
    refine Hs.out.mono ?_
    rintro e w1 ⟨rfl, h1⟩
    have c0 := (h1.cell (p := ⟨w.heap.size, 0, none⟩) (by simp; omega)).trans (show _ = some (.int .i64 a) by simp [go_sem])
    have c1 := (h1.cell (p := ⟨w.heap.size, 1, none⟩) (by simp; omega)).trans (show _ = some (.pointer P) by simp [go_sem])
    have K1 := Lib.hid (below_on Kk.out h1)
    have R1 := Lib.hid (Hr.out.keep h1)
    clear h1
    have Hi2 := Lib.hid ((Hi.out _ K1.out).stored R1.out (.int .i64 a) (.pointer P))
    have K2 := Lib.hid (below_stored K1.out (Nat.le_succ w.heap.size) (.int .i64 a) (.pointer P))
    have k0 := R1.out.k0
    have k1 := R1.out.k1
    have f0 := R1.out.f0
    have f1 := R1.out.f1
    go_wp2
    exact bodyPost_ret (v := .agg #[.int .i64 a, .pointer P]) (by simp [results, Tryz.results90, go_sem, k0, k1]) rfl ⟨a, P, rfl, Hi2.out, K2.out⟩
end Go.Proofs.YtjcblcikipmojaaGreatDoor
