/- The law IntegerCompares: its walk. -/
import Derived.Test.YtegndbiglehacaaDoorLaw
namespace Go.Proofs.YtegndbiglehacaaDoor
open Go.RowKit

set_option maxRecDepth 100000 in
set_option maxHeartbeats 8000000 in
theorem integerCompares_walk (s t : ByteArray) (w : World) (hs : s.size ≤ 9223372036854775807) (ht : t.size ≤ 9223372036854775807) (hw : Good w) :
    Calls Tryd.prog 9 #[.string s, .string t] w fun e w' => e = .returned (.bool true) ∧ Below w.heap.size w w' := by
  have Hw := Lib.hid (fun w' (h : Below w.heap.size w w') => hw.below h)
  have Hk := Lib.hid (known_true w hw)
  have Hrs := Lib.hid (fun w => right_any s w hs)
  have Hrt := Lib.hid (fun w => right_any t w ht)
  obtain ⟨bs, hbs⟩ : ∃ b, okT s = b := ⟨_, rfl⟩
  obtain ⟨bt, hbt⟩ : ∃ b, okT t = b := ⟨_, rfl⟩
  rw [hbs] at Hrs
  rw [hbt] at Hrt
  have Hbs := Lib.hid hbs
  have Hbt := Lib.hid hbt
  clear hw hbs hbt
  go_enter Tryd.func9, Tryd.ntmps9
  go_wp2_with fail
  refine Hk.out.mono ?_
  rintro e w1 ⟨rfl, h1⟩
  have k1 := Lib.hid h1
  have Hk2 := Lib.hid (known_true w1 (Hw.out _ h1))
  clear h1
  go_wp2_with fail
  refine (Hrs.out _).mono ?_
  rintro e w2 ⟨rfl, rfl⟩
  cases bs with
  | false =>
    go_wp2_with fail
    refine Hk2.out.mono ?_
    rintro e w2 ⟨rfl, h2⟩
    have k2 := Lib.hid (k1.out.trans (h2.mono k1.out.size))
    clear h2
    go_wp2
    go_ret
    exact ⟨rfl, k2.out⟩
  | true =>
    go_wp2_with fail
    refine (Hrt.out _).mono ?_
    rintro e w2 ⟨rfl, rfl⟩
    cases bt with
    | false =>
      go_wp2_with fail
      refine Hk2.out.mono ?_
      rintro e w2 ⟨rfl, h2⟩
      have k2 := Lib.hid (k1.out.trans (h2.mono k1.out.size))
      clear h2
      go_wp2
      go_ret
      exact ⟨rfl, k2.out⟩
    | true =>
      have hS := okT_true Hbs.out
      have hT := okT_true Hbt.out
      have Es := Lib.hid (txt_zOf hS.2)
      have Et := Lib.hid (txt_zOf hT.2)
      have Hreads := Lib.hid (fun w => read_any s w hS.1 hS.2)
      have Hreadt := Lib.hid (fun w => read_any t w hT.1 hT.2)
      have hcs : ∀ w, _ := fun w => refCompare_any (zOf s) (zOf t) w (by rw [Es.out]; omega) (by rw [Et.out]; omega)
      have hct : ∀ w, _ := fun w => refCompare_any (zOf t) (zOf s) w (by rw [Et.out]; omega) (by rw [Es.out]; omega)
      have hsg : ∀ w, _ := fun w => refSign_any (zOf s) w (by rw [Es.out]; omega)
      rw [Es.out, Et.out] at hcs hct
      rw [Es.out] at hsg
      have Hcs := Lib.hid hcs
      have Hct := Lib.hid hct
      have Hsg := Lib.hid hsg
      clear hcs hct hsg hS hT
      obtain ⟨z, hz⟩ : ∃ z, zOf s = z := ⟨_, rfl⟩
      obtain ⟨k, hk⟩ : ∃ k, zOf t = k := ⟨_, rfl⟩
      rw [hz] at Hreads Hcs Hct Hsg
      rw [hk] at Hreadt Hcs Hct
      clear hz hk Es Et
      go_wp2_with fail
      refine (Hreads.out _).mono ?_
      rintro e w2 ⟨a, P, rfl, hi2, h2⟩
      have V2 := Lib.hid (Var.new hi2)
      have k2 := Lib.hid (below_var (below_next k1.out h2) (.cells #[.int .i64 a, .pointer P] 25))
      clear h2 hi2
      go_wp2_with fail
      refine (Hreadt.out _).mono ?_
      rintro e w3 ⟨b, Q, rfl, hi3, h3⟩
      have V3 := Lib.hid (Var.new hi3)
      have k3 := Lib.hid (below_var (below_next k2.out h3) (.cells #[.int .i64 b, .pointer Q] 25))
      have U3 := Lib.hid ((V2.out.keep h3).keep ((Below.refl w3.heap.size w3).alloc (Nat.le_refl _) (.cells #[.int .i64 b, .pointer Q] 25)))
      clear h3 hi3 V2
      obtain ⟨p, hp⟩ : ∃ p, w2.heap.size = p := ⟨_, rfl⟩
      obtain ⟨q, hq⟩ : ∃ q, w3.heap.size = q := ⟨_, rfl⟩
      obtain ⟨wm, hm⟩ : ∃ wm, w3.alloc (.cells #[.int .i64 b, .pointer Q] 25) = wm := ⟨_, rfl⟩
      rw [hm] at V3 k3 U3
      rw [hq] at V3
      rw [hp] at U3
      have c0 := U3.out.c0
      have c1 := U3.out.c1
      have d0 := V3.out.c0
      have d1 := V3.out.c1
      have Hcab := Lib.hid (compare_any _ _ z k wm U3.out.int V3.out.int)
      have Hcba := Lib.hid (fun w' (h : Below wm.heap.size wm w') => compare_any _ _ k z w' (V3.out.keep h).int (U3.out.keep h).int)
      have Hcaa := Lib.hid (fun w' (h : Below wm.heap.size wm w') => compare_any _ _ z z w' (U3.out.keep h).int (U3.out.keep h).int)
      have Hsga := Lib.hid (fun w' (h : Below wm.heap.size wm w') => signZ_any _ z w' (U3.out.keep h).int)
      have hzz : cmpZ z z = 0 := by unfold cmpZ; rw [if_neg (by omega), if_neg (by omega)]
      rw [hzz] at Hcaa
      clear hzz
      go_wp2_with fail
      try simp only [hp, hq, hm]
      refine Hcab.out.mono ?_
      rintro e w4 ⟨rfl, h4⟩
      have k4 := Lib.hid h4
      clear h4 c0 c1 d0 d1
      go_wp2_with fail
      refine (Hcs.out _).mono ?_
      rintro e w5 ⟨rfl, h5⟩
      have k5 := Lib.hid (below_next k4.out h5)
      have c0 := (U3.out.keep k5.out).c0
      have c1 := (U3.out.keep k5.out).c1
      have d0 := (V3.out.keep k5.out).c0
      have d1 := (V3.out.keep k5.out).c1
      clear h5
      go_wp2_with fail
      refine (Hcba.out _ k5.out).mono ?_
      rintro e w6 ⟨rfl, h6⟩
      have k6 := Lib.hid (below_next k5.out h6)
      clear h6 c0 c1 d0 d1
      go_wp2_with fail
      refine (Hct.out _).mono ?_
      rintro e w7 ⟨rfl, h7⟩
      have k7 := Lib.hid (below_next k6.out h7)
      have c0 := (U3.out.keep k7.out).c0
      have c1 := (U3.out.keep k7.out).c1
      clear h7
      go_wp2_with fail
      refine (Hsga.out _ k7.out).mono ?_
      rintro e w8 ⟨rfl, h8⟩
      have k8 := Lib.hid (below_next k7.out h8)
      clear h8 c0 c1
      go_wp2_with fail
      refine (Hsg.out _).mono ?_
      rintro e w9 ⟨rfl, rfl⟩
      have c0 := (U3.out.keep k8.out).c0
      have c1 := (U3.out.keep k8.out).c1
      go_wp2_with fail
      refine (Hcaa.out _ k8.out).mono ?_
      rintro e w10 ⟨rfl, h10⟩
      have kf := Lib.hid (below_next k3.out (below_next k8.out h10))
      clear h10
      go_wp2
      go_ret
      exact ⟨rfl, kf.out⟩
end Go.Proofs.YtegndbiglehacaaDoor
