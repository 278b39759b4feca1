/- Sub of any integers. -/
import Derived.Test.YtjcblcikipmojaaGreatDoorAddZ
import Derived.Deep.RegionWith
namespace Go.Proofs.YtjcblcikipmojaaGreatDoor
open Go.RowKit

set_option maxHeartbeats 4000000 in
theorem sub_any (a b : Int) (P Q : Option Addr) (z k : Int) (w : World) (h : IsInt 0 w (.agg #[.int .i64 a, .pointer P]) z) (h' : IsInt 0 w (.agg #[.int .i64 b, .pointer Q]) k) (hlz : z.natAbs < base 400) (hlk : k.natAbs < base 400) :
    Calls Tryz.prog 148 #[.agg #[.int .i64 a, .pointer P], .agg #[.int .i64 b, .pointer Q]] w (NewInt (z - k) w) := by
  have Hn := Lib.hid (fun w' (hb : Below w.heap.size w w') => neg_any b Q k w' (h'.keep hb))
  have Ha := Lib.hid (fun w' b' Q' (hb : Below w.heap.size w w') (hi : IsInt 0 w' (.agg #[.int .i64 b', .pointer Q']) (-k)) => (add_any a b' P Q' z (-k) w' (h.keep hb) hi hlz (by omega)).mono (fun e w2 k2 => k2.cast (show z + -k = z - k by omega)))
  have kk := ((((Below.refl w.heap.size w).alloc (Nat.le_refl _) (.cells #[.int .i64 a, .pointer P] 25)).alloc (by simp) (.cells #[.int .i64 b, .pointer Q] 25)).alloc (by simp; omega) (.cells #[.int .i64 0, .pointer none] 25)).drew
  have Hr := Lib.hid (Res.new ((w.alloc (.cells #[.int .i64 a, .pointer P] 25)).alloc (.cells #[.int .i64 b, .pointer Q] 25)))
  simp only [World.size_alloc] at Hr
  have Kk := Lib.hid kk
  clear h h' hlz hlk kk
  go_enter Tryz.func148, Tryz.ntmps148
  go_wp2_with fail
  go_region_with (first
    | (go_at_call 88; refine (Hn.out _ Kk.out).mono ?_; rintro e w1 ⟨b', Q', rfl, hi1, h1⟩
       have c0 := (h1.cell (p := ⟨w.heap.size, 0, none⟩) (by simp; omega)).trans (show _ = some (.int .i64 a) by simp [go_sem])
       have c1 := (h1.cell (p := ⟨w.heap.size, 1, none⟩) (by simp; omega)).trans (show _ = some (.pointer P) by simp [go_sem])
       have R1 := Res.keep (w := World.drew _) ⟨Hr.out.at_⟩ h1
       have K1 := below_on Kk.out h1)
    | (go_at_call 113; refine (Ha.out _ _ _ K1 hi1).mono ?_; rintro e w2 ⟨a3, P3, rfl, hi2, h2⟩
       have R2 := R1.keep h2
       have k0 := R2.k0
       have k1 := R2.k1
       have f0 := R2.f0
       have f1 := R2.f1))
  all_goals
    have Hi5 := Lib.hid (hi2.stored R2 (.int .i64 a3) (.pointer P3))
    have K5 := Lib.hid (below_stored (below_on K1 h2) (show w.heap.size ≤ w.heap.size + 1 + 1 by omega) (.int .i64 a3) (.pointer P3))
    clear hi1 h1 K1 R1 hi2 h2 R2
    go_wp2
    exact bodyPost_ret (v := .agg #[.int .i64 a3, .pointer P3]) (by simp [results, Tryz.results148, go_sem, k0, k1]) rfl ⟨a3, P3, rfl, Hi5.out, K5.out⟩
end Go.Proofs.YtjcblcikipmojaaGreatDoor
