/- Liaisons: LiaisonChecks is true. -/
import Derived.Test.YtdpfoegcmngdfaaDoorKm
import Derived.Test.YtdpfoegcmngdfaaDoorCe
namespace Go.Proofs.YtdpfoegcmngdfaaDoor
open Go.RowKit
set_option maxRecDepth 100000 in
set_option maxHeartbeats 16000000 in
theorem checks_true (n : Int) (A : Option Addr) (m c : Nat) (es : List (Int × Int)) (B : Option Addr) (z d : Nat) (l : List Int) (w : World) (h : EL w A m es) (hl : IL w B l) (hz : l.length = z) (hw : Good w) :
    Calls Tryd.prog 3 #[gV n A m c, .slice B z d] w fun e w' => e = .returned (.bool true) ∧ Below w.heap.size w w' := by
  have kv := (Below.refl w.heap.size w).alloc (Nat.le_refl _) (.cells #[.int .i64 n, .slice A m c] 24)
  have P0 := Cells.new w #[.int .i64 n, .slice A m c] 24
  have h1 := h.keep kv
  have hl1 := hl.keep kv
  obtain ⟨p, hp⟩ : ∃ p, w.heap.size = p := ⟨_, rfl⟩
  obtain ⟨w1, hw1⟩ : ∃ u, w.alloc (.cells #[.int .i64 n, .slice A m c] 24) = u := ⟨_, rfl⟩
  have Hw1 := Lib.hid hw1
  have Hp := Lib.hid hp
  rw [hw1, hp] at P0
  rw [hw1] at h1 hl1 kv
  have HF := Lib.hid (fun w' (hb : Below w1.heap.size w1 w') => (⟨(P0.keep hb).at_ 0, (P0.keep hb).at_ 1, h1.keep hb, hl1.keep hb, hw.below (below_on kv hb) hw.size, below_on kv hb⟩ : w'.cell? ⟨p, 0, none⟩ = some (.int .i64 n) ∧ w'.cell? ⟨p, 1, none⟩ = some (.slice A m c) ∧ EL w' A m es ∧ IL w' B l ∧ Good w' ∧ Below w.heap.size w w'))
  have HKn := Lib.hid (fun w' (hb : Below w1.heap.size w1 w') => known_any w' (HF.out w' hb).2.2.2.2.1)
  clear kv P0 h1 hl1 hw1 hp h hl hw
  go_enter Tryd.func3, Tryd.ntmps3
  go_upto_region 1 with fail
  simp only [Hw1.out, Hp.out]
  go_wp2_with fail
  refine (HKn.out w1 (Below.refl _ _)).mono ?_
  rintro e w2 ⟨rfl, hb2⟩
  have D2 := Lib.hid hb2
  clear hb2
  have f0 := (HF.out w2 D2.out).1
  have f1 := (HF.out w2 D2.out).2.1
  by_cases hm : m ≤ 20
  · have tm : decide ((20 : Int) < (m : Int)) = false := decide_eq_false (by omega)
    have tm2 : decide (20 < m) = false := decide_eq_false (by omega)
    by_cases hz10 : z ≤ 10
    · have tz : decide ((10 : Int) < (z : Int)) = false := decide_eq_false (by omega)
      have tz2 : decide (10 < z) = false := decide_eq_false (by omega)
      have HRc := Lib.hid (fun w' (hb : Below w1.heap.size w1 w') => refE_any n A m c es w' (HF.out w' hb).2.2.1 (by omega))
      have HLc := Lib.hid (fun w' (hb : Below w1.heap.size w1 w') => liE_any n A m c es w' (HF.out w' hb).2.2.1 (by omega))
      have HSe := fun w' (hb : Below w1.heap.size w1 w') => refSet_any n B d l w' (HF.out w' hb).2.2.2.1 (by omega)
      have HCo := fun w' (hb : Below w1.heap.size w1 w') => con_E n A m c es B d l w' (HF.out w' hb).2.2.1 (by omega) (HF.out w' hb).2.2.2.1 (by omega) (HF.out w' hb).2.2.2.2.1
      have HPi := fun w' (hb : Below w1.heap.size w1 w') => pie_E n A m c es B d l w' (HF.out w' hb).2.2.1 (by omega) (HF.out w' hb).2.2.2.1 (by omega) (HF.out w' hb).2.2.2.2.1
      have HNe := fun w' (hb : Below w1.heap.size w1 w') => nei_E n A m c es B d l w' (HF.out w' hb).2.2.1 (by omega) (HF.out w' hb).2.2.2.1 (by omega) (HF.out w' hb).2.2.2.2.1
      have HSu := fun w' (hb : Below w1.heap.size w1 w') => sub_E n A m c es B d l w' (HF.out w' hb).2.2.1 (by omega) (HF.out w' hb).2.2.2.1 (by omega) (HF.out w' hb).2.2.2.2.1
      have hwd : wantE n es l = if liE n es ≠ 0 then liE n es else setE n l := rfl
      rw [hz] at HSe HCo HPi HNe HSu
      obtain ⟨E1, hE1⟩ : ∃ E, liE n es = E := ⟨_, rfl⟩
      obtain ⟨E2, hE2⟩ : ∃ E, setE n l = E := ⟨_, rfl⟩
      obtain ⟨E3, hE3⟩ : ∃ E, wantE n es l = E := ⟨_, rfl⟩
      rw [hE1] at HRc HLc hwd
      rw [hE2] at HSe hwd
      rw [hE3] at HCo HPi HNe HSu hwd
      have HSe := Lib.hid HSe
      have HCo := Lib.hid HCo
      have HPi := Lib.hid HPi
      have HNe := Lib.hid HNe
      have HSu := Lib.hid HSu
      have te : (E1 != E1) = false := by simp
      clear hE1 hE2 hE3 hz hz10 hm
      go_wp2_with fail
      refine (HRc.out w2 D2.out).mono ?_
      rintro e w3 ⟨rfl, hb3⟩
      have D3 := Lib.hid (below_on D2.out hb3)
      clear hb3 f0 f1
      have f0 := (HF.out w3 D3.out).1
      have f1 := (HF.out w3 D3.out).2.1
      go_wp2_with fail
      refine (HLc.out w3 D3.out).mono ?_
      rintro e w4 ⟨rfl, hb4⟩
      have D4 := Lib.hid (below_on D3.out hb4)
      clear hb4 f0 f1
      have f0 := (HF.out w4 D4.out).1
      have f1 := (HF.out w4 D4.out).2.1
      by_cases h0 : E1 = 0
      · subst h0
        rw [if_neg (by simp)] at hwd
        subst hwd
        go_wp2_with fail
        refine (HSe.out w4 D4.out).mono ?_
        rintro e w5 ⟨rfl, hb5⟩
        have D5 := Lib.hid (below_on D4.out hb5)
        clear hb5 f0 f1
        have f0 := (HF.out w5 D5.out).1
        have f1 := (HF.out w5 D5.out).2.1
        go_wp2_with fail
        refine (HCo.out w5 D5.out).mono ?_
        rintro e w6 ⟨⟨v6, rfl⟩, hb6⟩
        have D6 := Lib.hid (below_on D5.out hb6)
        clear hb6 f0 f1
        have f0 := (HF.out w6 D6.out).1
        have f1 := (HF.out w6 D6.out).2.1
        go_wp2_with fail
        refine (HPi.out w6 D6.out).mono ?_
        rintro e w7 ⟨⟨v7, rfl⟩, hb7⟩
        have D7 := Lib.hid (below_on D6.out hb7)
        clear hb7 f0 f1
        have f0 := (HF.out w7 D7.out).1
        have f1 := (HF.out w7 D7.out).2.1
        go_wp2_with fail
        refine (HNe.out w7 D7.out).mono ?_
        rintro e w8 ⟨⟨v8, rfl⟩, hb8⟩
        have D8 := Lib.hid (below_on D7.out hb8)
        clear hb8 f0 f1
        have f0 := (HF.out w8 D8.out).1
        have f1 := (HF.out w8 D8.out).2.1
        go_wp2_with fail
        refine (HSu.out w8 D8.out).mono ?_
        rintro e w9 ⟨⟨v9, rfl⟩, hb9⟩
        have D9 := Lib.hid (below_on D8.out hb9)
        clear hb9 f0 f1
        have f0 := (HF.out w9 D9.out).1
        have f1 := (HF.out w9 D9.out).2.1
        go_wp2_with fail
        go_ret
        exact ⟨rfl, (HF.out w9 D9.out).2.2.2.2.2⟩

      · have t9 : (E1 == 0) = false := by simpa using h0
        rw [if_pos h0] at hwd
        subst hwd
        go_wp2_with fail
        refine (HCo.out w4 D4.out).mono ?_
        rintro e w5 ⟨⟨v5, rfl⟩, hb5⟩
        have D5 := Lib.hid (below_on D4.out hb5)
        clear hb5 f0 f1
        have f0 := (HF.out w5 D5.out).1
        have f1 := (HF.out w5 D5.out).2.1
        go_wp2_with fail
        refine (HPi.out w5 D5.out).mono ?_
        rintro e w6 ⟨⟨v6, rfl⟩, hb6⟩
        have D6 := Lib.hid (below_on D5.out hb6)
        clear hb6 f0 f1
        have f0 := (HF.out w6 D6.out).1
        have f1 := (HF.out w6 D6.out).2.1
        go_wp2_with fail
        refine (HNe.out w6 D6.out).mono ?_
        rintro e w7 ⟨⟨v7, rfl⟩, hb7⟩
        have D7 := Lib.hid (below_on D6.out hb7)
        clear hb7 f0 f1
        have f0 := (HF.out w7 D7.out).1
        have f1 := (HF.out w7 D7.out).2.1
        go_wp2_with fail
        refine (HSu.out w7 D7.out).mono ?_
        rintro e w8 ⟨⟨v8, rfl⟩, hb8⟩
        have D8 := Lib.hid (below_on D7.out hb8)
        clear hb8 f0 f1
        have f0 := (HF.out w8 D8.out).1
        have f1 := (HF.out w8 D8.out).2.1
        go_wp2_with fail
        go_ret
        exact ⟨rfl, (HF.out w8 D8.out).2.2.2.2.2⟩

    · have tz : decide ((10 : Int) < (z : Int)) = true := decide_eq_true (by omega)
      have tz2 : decide (10 < z) = true := decide_eq_true (by omega)
      go_wp2_with fail
      refine (HKn.out w2 D2.out).mono ?_
      rintro e w3 ⟨rfl, hb3⟩
      have K3 := Lib.hid (HF.out w3 (below_on D2.out hb3)).2.2.2.2.2
      clear hb3
      go_wp2_with fail
      go_ret
      exact ⟨rfl, K3.out⟩
  · have tm : decide ((20 : Int) < (m : Int)) = true := decide_eq_true (by omega)
    have tm2 : decide (20 < m) = true := decide_eq_true (by omega)
    go_wp2_with fail
    refine (HKn.out w2 D2.out).mono ?_
    rintro e w3 ⟨rfl, hb3⟩
    have K3 := Lib.hid (HF.out w3 (below_on D2.out hb3)).2.2.2.2.2
    clear hb3
    go_wp2_with fail
    go_ret
    exact ⟨rfl, K3.out⟩
end Go.Proofs.YtdpfoegcmngdfaaDoor
