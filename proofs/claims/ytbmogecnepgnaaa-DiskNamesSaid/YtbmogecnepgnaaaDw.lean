/- known. -/
import Derived.Test.YtbmogecnepgnaaaDv
namespace Go.Proofs.Ytbmogecnepgnaaa
open Go.RowKit Go.Maps Go.Shelf
set_option maxRecDepth 100000 in
set_option maxHeartbeats 16000000 in
theorem known_true (w : World) : Calls Try.prog 11 #[] w fun e w' => e = .returned (.bool true) ∧ Below w.heap.size w w' := by
  have HN := Lib.hid (new_ok 10 (by decide) w)
  go_enter Try.func11, Try.ntmps11
  go_wp2_with fail
  refine HN.out.mono ?_
  rintro e w1 ⟨p, m, rfl, hD, hm1, hm2, hb⟩
  have HD1 := Lib.hid (Disk.of (c := 0) hD (newL (by decide)) (by omega) (by omega) (by rw [hm2]; exact Nat.le_refl _))
  have HB1 := Lib.hid hb
  clear hD hm1 hm2 hb HN
  go_wp2_with fail
  have h2 := append_any HD1.out (by decide) bA bABC (by decide) (by decide)
  rw [(k1 0).1] at h2
  refine h2.mono ?_
  rintro e w2 ⟨b, rfl, hD, _, hb⟩
  rw [(k1 b).2] at hD
  have HD2 := Lib.hid hD
  have HB2 := Lib.hid (HB1.out.trans hb)
  clear hD hb h2 HD1 HB1
  go_wp2_with fail
  have h3 := sync_any HD2.out bA (by decide)
  rw [(k2 b).1, (k2 b).2] at h3
  refine h3.mono ?_
  rintro e w3 ⟨rfl, hD, hb⟩
  have HD3 := Lib.hid hD
  have HB3 := Lib.hid (HB2.out.trans hb)
  clear hD hb h3 HD2 HB2
  go_wp2_with fail
  have h4 := append_any HD3.out (by decide) bA bDE (by decide) (by decide)
  rw [(k3 b 0).2.1] at h4
  refine h4.mono ?_
  rintro e w4 ⟨b', rfl, hD, _, hb⟩
  rw [(k3 b b').2.2] at hD
  have HD4 := Lib.hid hD
  have HB4 := Lib.hid (HB3.out.trans hb)
  clear hD hb h4 HD3 HB3
  go_wp2_with fail
  have h5 := publish_any HD4.out
  rw [(k4 b).1, (k4 b).2] at h5
  refine h5.mono ?_
  rintro e w5 ⟨rfl, hD, hb⟩
  have HD5 := Lib.hid hD
  have HB5 := Lib.hid (HB4.out.trans hb)
  clear hD hb h5 HD4 HB4
  go_wp2_with fail
  have h6 := crash_any HD5.out
  refine h6.mono ?_
  rintro e w6 ⟨⟨v, rfl⟩, hD, hb⟩
  have hD : Disk w6 _ p (K5 b) _ := hD
  have HD6 := Lib.hid hD
  have HB6 := Lib.hid (HB5.out.trans hb)
  clear hD hb h6 HD5 HB5
  go_wp2_with fail
  have h7 := down_any HD6.out
  refine h7.mono ?_
  rintro e w7 ⟨rfl, rfl⟩
  clear h7
  rw [show (K5 b).down = true from rfl]
  go_wp2_with fail
  have hlw := HB6.out.size
  obtain ⟨g, hg⟩ : ∃ g, w7.heap.size = g := ⟨_, rfl⟩
  have R7 := heap_new w7 (.cells #[.int .i64 0, .int .i64 1, .int .i64 1] 3)
  have k7' := (Below.refl w7.heap.size w7).alloc (Nat.le_refl _) (.cells #[.int .i64 0, .int .i64 1, .int .i64 1] 3)
  have hgs : g < (w7.alloc (.cells #[.int .i64 0, .int .i64 1, .int .i64 1] 3)).heap.size := by rw [← hg]; simp
  have hD8 := HD6.out.keep k7'
  have HB8 := Lib.hid (HB6.out.trans (k7'.mono hlw))
  rw [hg] at R7 ⊢
  generalize w7.alloc (.cells #[.int .i64 0, .int .i64 1, .int .i64 1] 3) = w8 at R7 hgs hD8 HB8 ⊢
  have hIL : IntL w8 (some ⟨g, 0, none⟩) [0, 1, 1] := fun k x hk => by
    refine ⟨g, 0, rfl, hgs, ?_⟩
    rw [cell_of_row _ _ _ _ _ _ R7]
    match k with
    | 0 => injection hk with hk; subst hk; rfl
    | 1 => injection hk with hk; subst hk; rfl
    | 2 => injection hk with hk; subst hk; rfl
    | k + 3 => cases hk
  have h8 := start_any hD8 (by decide) rfl (cl := 3) hIL (fun b o t _ e => by injection e with e; injection e with e1 e2 e3; subst e1; exact ⟨hgs, .inr ⟨_, _, R7⟩⟩) (n := 3) rfl (by decide)
  have H8 := Lib.hid h8
  clear h8 hIL hD8 R7 k7' hgs hg hlw HD6 HB6
  refine H8.out.mono ?_
  rintro e w9 ⟨⟨v9, rfl⟩, ⟨ss, hp, _, hD⟩, hb⟩
  rw [k6 b hp] at hD
  have HD9 := Lib.hid hD
  have HB9 := Lib.hid (HB8.out.trans hb)
  clear hD hb hp H8 HB8
  go_wp2_with fail
  have h10 := read_any HD9.out bA (by decide)
  rw [(k6r b).1, (k6r b).2] at h10
  refine h10.mono ?_
  rintro e w10 ⟨rfl, rfl⟩
  clear h10
  go_wp2_with fail
  have h11 := limit_any HD9.out 1 (by decide)
  rw [(k7 b).1, (k7 b).2] at h11
  refine h11.mono ?_
  rintro e w11 ⟨rfl, hD, hb⟩
  have HD11 := Lib.hid hD
  have HB11 := Lib.hid (HB9.out.trans hb)
  clear hD hb h11 HD9 HB9
  go_wp2_with fail
  have h12 := append_any HD11.out (by decide) bB bABC (by decide) (by decide)
  rw [(k8 b 0).1] at h12
  refine h12.mono ?_
  rintro e w12 ⟨b2, rfl, hD, _, hb⟩
  rw [(k8 b b2).2] at hD
  have HD12 := Lib.hid hD
  have HB12 := Lib.hid (HB11.out.trans hb)
  clear hD hb h12 HD11 HB11
  go_wp2_with fail
  have h13 := sync_any HD12.out bB (by decide)
  rw [k9 b b2] at h13
  refine h13.mono ?_
  rintro e w13 ⟨rfl, hD, hb⟩
  have HB13 := Lib.hid (HB12.out.trans hb)
  clear hD hb h13 HD12 HB12
  go_wp2_with fail
  go_ret
  exact ⟨rfl, HB13.out⟩
end Go.Proofs.Ytbmogecnepgnaaa
