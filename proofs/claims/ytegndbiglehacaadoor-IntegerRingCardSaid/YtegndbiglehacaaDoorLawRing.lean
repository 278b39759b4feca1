/- The law IntegerRing: its walk. -/
import Derived.Test.YtegndbiglehacaaDoorThree
import Derived.Test.YtegndbiglehacaaDoorDivW
import Derived.Test.YtegndbiglehacaaDoorSum
namespace Go.Proofs.YtegndbiglehacaaDoor
open Go.RowKit

theorem three_size {wm wx : World} {p0 p1 p2 : Nat} {a0 a1 a2 : Int} {P0 P1 P2 : Option Addr} (h : wx.cell? ⟨p0, 0, none⟩ = some (.int .i64 a0) ∧ wx.cell? ⟨p0, 1, none⟩ = some (.pointer P0) ∧ wx.cell? ⟨p1, 0, none⟩ = some (.int .i64 a1) ∧ wx.cell? ⟨p1, 1, none⟩ = some (.pointer P1) ∧ wx.cell? ⟨p2, 0, none⟩ = some (.int .i64 a2) ∧ wx.cell? ⟨p2, 1, none⟩ = some (.pointer P2) ∧ Below wm.heap.size wm wx) : wm.heap.size ≤ wx.heap.size := h.2.2.2.2.2.2.size
theorem three_below {wm wx : World} {p0 p1 p2 : Nat} {a0 a1 a2 : Int} {P0 P1 P2 : Option Addr} (h : wx.cell? ⟨p0, 0, none⟩ = some (.int .i64 a0) ∧ wx.cell? ⟨p0, 1, none⟩ = some (.pointer P0) ∧ wx.cell? ⟨p1, 0, none⟩ = some (.int .i64 a1) ∧ wx.cell? ⟨p1, 1, none⟩ = some (.pointer P1) ∧ wx.cell? ⟨p2, 0, none⟩ = some (.int .i64 a2) ∧ wx.cell? ⟨p2, 1, none⟩ = some (.pointer P2) ∧ Below wm.heap.size wm wx) : Below wm.heap.size wm wx := h.2.2.2.2.2.2
theorem var_put {w : World} {p : Nat} {a : Int} {P : Option Addr} {b : Int} {Q : Option Addr} {z : Int} (h : Hold w p a P) (hi : IsInt 0 w (.agg #[.int .i64 b, .pointer Q]) z) : Var ((w.setCell ⟨p, 0, none⟩ (.int .i64 b)).setCell ⟨p, 1, none⟩ (.pointer Q)) p b Q z := ⟨(h.store b Q).c0, (h.store b Q).c1, (h.store b Q).lt, hi.held h _ _⟩
theorem three_store {wm wx : World} {p0 p1 p2 g : Nat} {a0 a1 a2 z k l : Int} {P0 P1 P2 : Option Addr} (V0 : Hid (Var wm p0 a0 P0 z)) (V1 : Hid (Var wm p1 a1 P1 k)) (V2 : Hid (Var wm p2 a2 P2 l)) (h : wx.cell? ⟨p0, 0, none⟩ = some (.int .i64 a0) ∧ wx.cell? ⟨p0, 1, none⟩ = some (.pointer P0) ∧ wx.cell? ⟨p1, 0, none⟩ = some (.int .i64 a1) ∧ wx.cell? ⟨p1, 1, none⟩ = some (.pointer P1) ∧ wx.cell? ⟨p2, 0, none⟩ = some (.int .i64 a2) ∧ wx.cell? ⟨p2, 1, none⟩ = some (.pointer P2) ∧ Below wm.heap.size wm wx) (hg : wm.heap.size ≤ g) (x y : Value) :
    ((wx.setCell ⟨g, 0, none⟩ x).setCell ⟨g, 1, none⟩ y).cell? ⟨p0, 0, none⟩ = some (.int .i64 a0) ∧ ((wx.setCell ⟨g, 0, none⟩ x).setCell ⟨g, 1, none⟩ y).cell? ⟨p0, 1, none⟩ = some (.pointer P0) ∧ ((wx.setCell ⟨g, 0, none⟩ x).setCell ⟨g, 1, none⟩ y).cell? ⟨p1, 0, none⟩ = some (.int .i64 a1) ∧ ((wx.setCell ⟨g, 0, none⟩ x).setCell ⟨g, 1, none⟩ y).cell? ⟨p1, 1, none⟩ = some (.pointer P1) ∧ ((wx.setCell ⟨g, 0, none⟩ x).setCell ⟨g, 1, none⟩ y).cell? ⟨p2, 0, none⟩ = some (.int .i64 a2) ∧ ((wx.setCell ⟨g, 0, none⟩ x).setCell ⟨g, 1, none⟩ y).cell? ⟨p2, 1, none⟩ = some (.pointer P2) ∧ Below wm.heap.size wm ((wx.setCell ⟨g, 0, none⟩ x).setCell ⟨g, 1, none⟩ y) :=
  three_start V0 V1 V2 (below_stored h.2.2.2.2.2.2 hg x y)
theorem seven_start {wm w' : World} {p0 p1 p2 p3 p4 p5 p6 : Nat} {a0 a1 a2 a3 a4 a5 a6 z0 z1 z2 z3 z4 z5 z6 : Int} {P0 P1 P2 P3 P4 P5 P6 : Option Addr} (V0 : Hid (Var wm p0 a0 P0 z0)) (V1 : Hid (Var wm p1 a1 P1 z1)) (V2 : Hid (Var wm p2 a2 P2 z2)) (V3 : Hid (Var wm p3 a3 P3 z3)) (V4 : Hid (Var wm p4 a4 P4 z4)) (V5 : Hid (Var wm p5 a5 P5 z5)) (V6 : Hid (Var wm p6 a6 P6 z6)) (hk : Below wm.heap.size wm w') : w'.cell? ⟨p0, 0, none⟩ = some (.int .i64 a0) ∧ w'.cell? ⟨p0, 1, none⟩ = some (.pointer P0) ∧ w'.cell? ⟨p1, 0, none⟩ = some (.int .i64 a1) ∧ w'.cell? ⟨p1, 1, none⟩ = some (.pointer P1) ∧ w'.cell? ⟨p2, 0, none⟩ = some (.int .i64 a2) ∧ w'.cell? ⟨p2, 1, none⟩ = some (.pointer P2) ∧ w'.cell? ⟨p3, 0, none⟩ = some (.int .i64 a3) ∧ w'.cell? ⟨p3, 1, none⟩ = some (.pointer P3) ∧ w'.cell? ⟨p4, 0, none⟩ = some (.int .i64 a4) ∧ w'.cell? ⟨p4, 1, none⟩ = some (.pointer P4) ∧ w'.cell? ⟨p5, 0, none⟩ = some (.int .i64 a5) ∧ w'.cell? ⟨p5, 1, none⟩ = some (.pointer P5) ∧ w'.cell? ⟨p6, 0, none⟩ = some (.int .i64 a6) ∧ w'.cell? ⟨p6, 1, none⟩ = some (.pointer P6) ∧ Below wm.heap.size wm w' :=
  ⟨(V0.out.keep hk).c0, (V0.out.keep hk).c1, (V1.out.keep hk).c0, (V1.out.keep hk).c1, (V2.out.keep hk).c0, (V2.out.keep hk).c1, (V3.out.keep hk).c0, (V3.out.keep hk).c1, (V4.out.keep hk).c0, (V4.out.keep hk).c1, (V5.out.keep hk).c0, (V5.out.keep hk).c1, (V6.out.keep hk).c0, (V6.out.keep hk).c1, hk⟩
theorem seven_below {wm wx : World} {p0 p1 p2 p3 p4 p5 p6 : Nat} {a0 a1 a2 a3 a4 a5 a6 : Int} {P0 P1 P2 P3 P4 P5 P6 : Option Addr} (h : wx.cell? ⟨p0, 0, none⟩ = some (.int .i64 a0) ∧ wx.cell? ⟨p0, 1, none⟩ = some (.pointer P0) ∧ wx.cell? ⟨p1, 0, none⟩ = some (.int .i64 a1) ∧ wx.cell? ⟨p1, 1, none⟩ = some (.pointer P1) ∧ wx.cell? ⟨p2, 0, none⟩ = some (.int .i64 a2) ∧ wx.cell? ⟨p2, 1, none⟩ = some (.pointer P2) ∧ wx.cell? ⟨p3, 0, none⟩ = some (.int .i64 a3) ∧ wx.cell? ⟨p3, 1, none⟩ = some (.pointer P3) ∧ wx.cell? ⟨p4, 0, none⟩ = some (.int .i64 a4) ∧ wx.cell? ⟨p4, 1, none⟩ = some (.pointer P4) ∧ wx.cell? ⟨p5, 0, none⟩ = some (.int .i64 a5) ∧ wx.cell? ⟨p5, 1, none⟩ = some (.pointer P5) ∧ wx.cell? ⟨p6, 0, none⟩ = some (.int .i64 a6) ∧ wx.cell? ⟨p6, 1, none⟩ = some (.pointer P6) ∧ Below wm.heap.size wm wx) : Below wm.heap.size wm wx := h.2.2.2.2.2.2.2.2.2.2.2.2.2.2
def three {α : Type} (x y z : α) : Nat → α
  | 0 => x
  | 1 => y
  | _ => z
theorem sum_three {a0 a1 a2 z k l : Int} {P0 P1 P2 : Option Addr} {wx : World} (h0 : IsInt 0 (wx.alloc (.cells #[.int .i64 a0, .pointer P0, .int .i64 a1, .pointer P1, .int .i64 a2, .pointer P2] 25)) (.agg #[.int .i64 a0, .pointer P0]) z) (h1 : IsInt 0 (wx.alloc (.cells #[.int .i64 a0, .pointer P0, .int .i64 a1, .pointer P1, .int .i64 a2, .pointer P2] 25)) (.agg #[.int .i64 a1, .pointer P1]) k) (h2 : IsInt 0 (wx.alloc (.cells #[.int .i64 a0, .pointer P0, .int .i64 a1, .pointer P1, .int .i64 a2, .pointer P2] 25)) (.agg #[.int .i64 a2, .pointer P2]) l) (b0 : z.natAbs < base 7) (b1 : k.natAbs < base 7) (b2 : l.natAbs < base 7) :
    Calls Tryd.prog 44 #[.slice (some ⟨wx.heap.size, 0, none⟩) 3 3] (wx.alloc (.cells #[.int .i64 a0, .pointer P0, .int .i64 a1, .pointer P1, .int .i64 a2, .pointer P2] 25)) (NewInt (z + k + l) (wx.alloc (.cells #[.int .i64 a0, .pointer P0, .int .i64 a1, .pointer P1, .int .i64 a2, .pointer P2] 25))) := by
  have e3 : 2 * base 7 ≤ base 8 := base_two 7
  have e4 : 2 * base 8 ≤ base 9 := base_two 8
  have e5 : base 9 ≤ base 390 := base_le (by decide)
  have e6 : base 7 ≤ base 390 := base_le (by decide)
  refine (sum_any wx.heap.size 3 3 (three a0 a1 a2) (three P0 P1 P2) (three z k l) _ (by decide) (Nat.le_refl _) (by simp) (fun i hi => ?_) (fun i hi => ?_) (fun i hi => ?_)).mono (fun e w' h => h.cast (by simp [psum, three]))
  · match i, hi with
    | 0, _ => exact ⟨by simp [go_sem, three], by simp [go_sem, three], h0⟩
    | 1, _ => exact ⟨by simp [go_sem, three], by simp [go_sem, three], h1⟩
    | 2, _ => exact ⟨by simp [go_sem, three], by simp [go_sem, three], h2⟩
  · match i, hi with
    | 0, _ => simp only [psum]; have := base_pos 390; simpa using this
    | 1, _ => simp only [psum, three]; omega
    | 2, _ => simp only [psum, three]; omega
    | 3, _ => simp only [psum, three]; omega
  · match i, hi with
    | 0, _ => simp only [three]; omega
    | 1, _ => simp only [three]; omega
    | 2, _ => simp only [three]; omega
theorem four_start {wm w' : World} {p0 p1 p7 p8 : Nat} {a0 a1 a7 a8 z0 z1 z7 z8 : Int} {P0 P1 P7 P8 : Option Addr} (V0 : Hid (Var wm p0 a0 P0 z0)) (V1 : Hid (Var wm p1 a1 P1 z1)) (V7 : Hid (Var wm p7 a7 P7 z7)) (V8 : Hid (Var wm p8 a8 P8 z8)) (hk : Below wm.heap.size wm w') : w'.cell? ⟨p0, 0, none⟩ = some (.int .i64 a0) ∧ w'.cell? ⟨p0, 1, none⟩ = some (.pointer P0) ∧ w'.cell? ⟨p1, 0, none⟩ = some (.int .i64 a1) ∧ w'.cell? ⟨p1, 1, none⟩ = some (.pointer P1) ∧ w'.cell? ⟨p7, 0, none⟩ = some (.int .i64 a7) ∧ w'.cell? ⟨p7, 1, none⟩ = some (.pointer P7) ∧ w'.cell? ⟨p8, 0, none⟩ = some (.int .i64 a8) ∧ w'.cell? ⟨p8, 1, none⟩ = some (.pointer P8) ∧ Below wm.heap.size wm w' :=
  ⟨(V0.out.keep hk).c0, (V0.out.keep hk).c1, (V1.out.keep hk).c0, (V1.out.keep hk).c1, (V7.out.keep hk).c0, (V7.out.keep hk).c1, (V8.out.keep hk).c0, (V8.out.keep hk).c1, hk⟩
theorem four_below {wm wx : World} {p0 p1 p7 p8 : Nat} {a0 a1 a7 a8 : Int} {P0 P1 P7 P8 : Option Addr} (h : wx.cell? ⟨p0, 0, none⟩ = some (.int .i64 a0) ∧ wx.cell? ⟨p0, 1, none⟩ = some (.pointer P0) ∧ wx.cell? ⟨p1, 0, none⟩ = some (.int .i64 a1) ∧ wx.cell? ⟨p1, 1, none⟩ = some (.pointer P1) ∧ wx.cell? ⟨p7, 0, none⟩ = some (.int .i64 a7) ∧ wx.cell? ⟨p7, 1, none⟩ = some (.pointer P7) ∧ wx.cell? ⟨p8, 0, none⟩ = some (.int .i64 a8) ∧ wx.cell? ⟨p8, 1, none⟩ = some (.pointer P8) ∧ Below wm.heap.size wm wx) : Below wm.heap.size wm wx := h.2.2.2.2.2.2.2.2
/-- What quotient and rest are good for. -/
theorem dm_facts {z k q r : Int} (h : DM z k q r) (hz : z.natAbs < base 7) (hk : k.natAbs < base 7) : q.natAbs < base 8 ∧ r.natAbs < base 7 ∧ (q * k).natAbs < base 8 ∧ q * k + r = z ∧ (r.natAbs : Int) < k.natAbs ∧ 0 ≤ sgn r * sgn k ∧ sgn r * sgn k ≤ 1 := by
  have h0 := h
  unfold DM at h
  obtain ⟨h1, h2⟩ := h
  have hr : r.natAbs < k.natAbs := by omega
  have e3 : 2 * base 7 ≤ base 8 := base_two 7
  have hqk : (q * k).natAbs < base 8 := by omega
  have hq : q.natAbs ≤ (q * k).natAbs := by
    rw [Int.natAbs_mul]
    have : q.natAbs * 1 ≤ q.natAbs * k.natAbs := Nat.mul_le_mul_left _ (by omega)
    omega
  refine ⟨by omega, by omega, hqk, h1.symm, by omega, ?_, ?_⟩
  all_goals
    unfold sgn
    rcases h2 with ⟨h3, h4⟩ | ⟨h3, h4⟩
    · rw [if_neg (show ¬ r < 0 by omega), if_neg (show ¬ k < 0 by omega), if_pos (show 0 < k by omega)]
      split <;> decide
    · rw [if_pos (show k < 0 by omega)]
      split
      · decide
      · rw [if_neg (show ¬ 0 < r by omega)]; decide
set_option maxRecDepth 100000 in
set_option maxHeartbeats 8000000 in
theorem integerRing_walk (s t u : ByteArray) (w : World) (hs : s.size ≤ 9223372036854775807) (ht : t.size ≤ 9223372036854775807) (hu : u.size ≤ 9223372036854775807) (hw : Good w) :
    Calls Tryd.prog 12 #[.string s, .string t, .string u] w fun e w' => e = .returned (.bool true) ∧ Below w.heap.size w w' := by
  have Hw := Lib.hid (fun w' (h : Below w.heap.size w w') => hw.below h)
  have Hk := Lib.hid (known_true w hw)
  have Hrs := Lib.hid (fun w => right_any s w hs)
  obtain ⟨bs, hbs⟩ : ∃ b, okT s = b := ⟨_, rfl⟩
  rw [hbs] at Hrs
  have Hbs := Lib.hid hbs
  have Hrt := Lib.hid (fun w => right_any t w ht)
  obtain ⟨bt, hbt⟩ : ∃ b, okT t = b := ⟨_, rfl⟩
  rw [hbt] at Hrt
  have Hbt := Lib.hid hbt
  have Hru := Lib.hid (fun w => right_any u w hu)
  obtain ⟨bu, hbu⟩ : ∃ b, okT u = b := ⟨_, rfl⟩
  rw [hbu] at Hru
  have Hbu := Lib.hid hbu
  clear hw hbs hbt hbu
  go_enter Tryd.func12, Tryd.ntmps12
  go_wp2_with fail
  refine Hk.out.mono ?_
  rintro e w1 ⟨rfl, h1⟩
  have k1 := Lib.hid h1
  have Hk2 := Lib.hid (known_true w1 (Hw.out _ h1))
  clear h1
  go_wp2_with fail
  refine (Hrs.out _).mono ?_
  rintro e w2 ⟨rfl, rfl⟩
  cases bs with
  | false =>
    go_wp2_with fail
    refine Hk2.out.mono ?_
    rintro e w2 ⟨rfl, h2⟩
    have k2 := Lib.hid (below_on k1.out h2)
    clear h2
    go_wp2
    go_ret
    exact ⟨rfl, k2.out⟩
  | true =>
    go_wp2_with fail
    refine (Hrt.out _).mono ?_
    rintro e w2 ⟨rfl, rfl⟩
    cases bt with
    | false =>
      go_wp2_with fail
      refine Hk2.out.mono ?_
      rintro e w2 ⟨rfl, h2⟩
      have k2 := Lib.hid (below_on k1.out h2)
      clear h2
      go_wp2
      go_ret
      exact ⟨rfl, k2.out⟩
    | true =>
      go_wp2_with fail
      refine (Hru.out _).mono ?_
      rintro e w2 ⟨rfl, rfl⟩
      cases bu with
      | false =>
        go_wp2_with fail
        refine Hk2.out.mono ?_
        rintro e w2 ⟨rfl, h2⟩
        have k2 := Lib.hid (below_on k1.out h2)
        clear h2
        go_wp2
        go_ret
        exact ⟨rfl, k2.out⟩
      | true =>
        have Hs := okT_true Hbs.out
        have Ls := Lib.hid (zOf_lt Hbs.out)
        have Es := Lib.hid (txt_zOf Hs.2)
        have Hreads := Lib.hid (fun w => read_any s w Hs.1 Hs.2)
        have Ht := okT_true Hbt.out
        have Lt := Lib.hid (zOf_lt Hbt.out)
        have Et := Lib.hid (txt_zOf Ht.2)
        have Hreadt := Lib.hid (fun w => read_any t w Ht.1 Ht.2)
        have Hu := okT_true Hbu.out
        have Lu := Lib.hid (zOf_lt Hbu.out)
        have Eu := Lib.hid (txt_zOf Hu.2)
        have Hreadu := Lib.hid (fun w => read_any u w Hu.1 Hu.2)
        obtain ⟨z, hz⟩ : ∃ z, zOf s = z := ⟨_, rfl⟩
        rw [hz] at Ls Es Hreads
        obtain ⟨k, hk⟩ : ∃ k, zOf t = k := ⟨_, rfl⟩
        rw [hk] at Lt Et Hreadt
        obtain ⟨l, hl⟩ : ∃ l, zOf u = l := ⟨_, rfl⟩
        rw [hl] at Lu Eu Hreadu
        clear hz hk hl Hs Ht Hu
        go_wp2_with fail
        refine (Hreads.out _).mono ?_
        rintro e v0 ⟨a0, P0, rfl, hi0, h0⟩
        have V0 := Lib.hid (Var.new hi0)
        have K0 := Lib.hid (below_var (below_on k1.out h0) (.cells #[.int .i64 a0, .pointer P0] 25))
        clear h0 hi0
        go_wp2_with fail
        refine (Hreadt.out _).mono ?_
        rintro e v1 ⟨a1, P1, rfl, hi1, h1⟩
        have V1 := Lib.hid (Var.new hi1)
        have K1 := Lib.hid (below_var (below_on K0.out h1) (.cells #[.int .i64 a1, .pointer P1] 25))
        have V0 := Lib.hid ((V0.out.keep h1).keep ((Below.refl v1.heap.size v1).alloc (Nat.le_refl _) (.cells #[.int .i64 a1, .pointer P1] 25)))
        clear h1 hi1
        go_wp2_with fail
        refine (Hreadu.out _).mono ?_
        rintro e v2 ⟨a2, P2, rfl, hi2, h2⟩
        have V2 := Lib.hid (Var.new hi2)
        have K2 := Lib.hid (below_var (below_on K1.out h2) (.cells #[.int .i64 a2, .pointer P2] 25))
        have V0 := Lib.hid ((V0.out.keep h2).keep ((Below.refl v2.heap.size v2).alloc (Nat.le_refl _) (.cells #[.int .i64 a2, .pointer P2] 25)))
        have V1 := Lib.hid ((V1.out.keep h2).keep ((Below.refl v2.heap.size v2).alloc (Nat.le_refl _) (.cells #[.int .i64 a2, .pointer P2] 25)))
        clear h2 hi2
        obtain ⟨p0, hp0⟩ : ∃ p, v0.heap.size = p := ⟨_, rfl⟩
        obtain ⟨p1, hp1⟩ : ∃ p, v1.heap.size = p := ⟨_, rfl⟩
        obtain ⟨p2, hp2⟩ : ∃ p, v2.heap.size = p := ⟨_, rfl⟩
        obtain ⟨wm, hm⟩ : ∃ wm, v2.alloc (.cells #[.int .i64 a2, .pointer P2] 25) = wm := ⟨_, rfl⟩
        rw [hm, hp0] at V0
        rw [hm, hp1] at V1
        rw [hm, hp2] at V2
        rw [hm] at K2
        have c00 := V0.out.c0
        have c01 := V0.out.c1
        have c10 := V1.out.c0
        have c11 := V1.out.c1
        have c20 := V2.out.c0
        have c21 := V2.out.c1
        clear c00 c01 c10 c11 c20 c21
        have Lzk := Lib.hid (show (z + k).natAbs < base 8 by have h1 := Ls.out; have h2 := Lt.out; have h3 : 2 * base 7 ≤ base 8 := base_two 7; omega)
        have Lzl := Lib.hid (show (z * l).natAbs < base 14 by rw [Int.natAbs_mul]; exact base_add Ls.out Lu.out)
        have Lkl := Lib.hid (show (k * l).natAbs < base 14 by rw [Int.natAbs_mul]; exact base_add Lt.out Lu.out)
        have Lzm := Lib.hid (show (z * k).natAbs < base 14 by rw [Int.natAbs_mul]; exact base_add Ls.out Lt.out)
        have HC1 := Lib.hid (fun w' (h : w'.cell? ⟨p0, 0, none⟩ = some (.int .i64 a0) ∧ w'.cell? ⟨p0, 1, none⟩ = some (.pointer P0) ∧ w'.cell? ⟨p1, 0, none⟩ = some (.int .i64 a1) ∧ w'.cell? ⟨p1, 1, none⟩ = some (.pointer P1) ∧ w'.cell? ⟨p2, 0, none⟩ = some (.int .i64 a2) ∧ w'.cell? ⟨p2, 1, none⟩ = some (.pointer P2) ∧ Below wm.heap.size wm w') => add_any a0 a1 P0 P1 z k w' (V0.out.keep h.2.2.2.2.2.2).int (V1.out.keep h.2.2.2.2.2.2).int (base_up Ls.out (by decide)) (base_up Lt.out (by decide)))
        have HC2 := Lib.hid (fun w' x1 X1 (h : w'.cell? ⟨p0, 0, none⟩ = some (.int .i64 a0) ∧ w'.cell? ⟨p0, 1, none⟩ = some (.pointer P0) ∧ w'.cell? ⟨p1, 0, none⟩ = some (.int .i64 a1) ∧ w'.cell? ⟨p1, 1, none⟩ = some (.pointer P1) ∧ w'.cell? ⟨p2, 0, none⟩ = some (.int .i64 a2) ∧ w'.cell? ⟨p2, 1, none⟩ = some (.pointer P2) ∧ Below wm.heap.size wm w') (j1 : IsInt 0 w' (.agg #[.int .i64 x1, .pointer X1]) (z + k)) => mul_any x1 a2 X1 P2 (z + k) l w' j1 (V2.out.keep h.2.2.2.2.2.2).int (base_up Lzk.out (by decide)) (base_up Lu.out (by decide)) (.inl (base_up Lzk.out (by decide))))
        go_upto_region 6 with fail
        try simp only [hp0, hp1, hp2, hm]
        go_cut [13] (fun s wx => ∃ (p : Nat) (x : Int) (X : Option Addr), s = .pointer (some ⟨p, 0, none⟩) ∧ Var wx p x X ((z + k) * l) ∧ Below wm.heap.size wm wx)
        case first =>
          go_region_held3 (fun w' => w'.cell? ⟨p0, 0, none⟩ = some (.int .i64 a0) ∧ w'.cell? ⟨p0, 1, none⟩ = some (.pointer P0) ∧ w'.cell? ⟨p1, 0, none⟩ = some (.int .i64 a1) ∧ w'.cell? ⟨p1, 1, none⟩ = some (.pointer P1) ∧ w'.cell? ⟨p2, 0, none⟩ = some (.int .i64 a2) ∧ w'.cell? ⟨p2, 1, none⟩ = some (.pointer P2) ∧ Below wm.heap.size wm w')
            (first
              | assumption
              | exact three_start V0 V1 V2 ((Below.refl _ _).drew)
              | exact three_call V0 V1 V2 (by assumption) (by assumption)
              | exact three_call V0 V1 V2 (by assumption) ((Below.refl _ _).alloc (Nat.le_refl _) _)
              | exact three_store V0 V1 V2 (by assumption) (by first | exact Nat.le_refl _ | exact three_size (by assumption) | omega) _ _)
            (first
              | (go_at_call_of 30 P0; refine (HC1.out _ (by assumption)).mono ?_; rintro e w' ⟨x1, X1, rfl, hi1, hb1⟩; have hk1 := three_call V0 V1 V2 (by assumption) hb1; have hz1 := hb1.size; (try simp at hz1); (try have hz1' := Nat.lt_of_succ_le hz1); (try have hq1 := Nat.lt_of_lt_of_le hz0' hz1); (try have hq1 := Nat.lt_of_lt_of_le hq0 hz1); obtain ⟨hc1, hf1⟩ := bcell hb1)
              | (go_at_call_of 36 X1; refine (HC2.out _ _ _ (by assumption) (hi1.keep (by first | exact Below.refl _ _ | exact (Below.refl _ _).alloc (Nat.le_refl _) _))).mono ?_; rintro e w' ⟨x2, X2, rfl, hi2, hb2⟩; have hk2 := three_call V0 V1 V2 (by assumption) hb2; have hz2 := hb2.size; (try simp at hz2); (try have hz2' := Nat.lt_of_succ_le hz2); (try have hq2 := Nat.lt_of_lt_of_le hz1' hz2); (try have hq2 := Nat.lt_of_lt_of_le hq1 hz2); obtain ⟨hc2, hf2⟩ := bcell hb2))
          all_goals
            go_wp2_with fail
            go_meet
            first
              | exact ⟨_, x2, X2, rfl, Var.new hi2, three_below (by assumption)⟩
              | exact ⟨_, x2, X2, rfl, var_put ((Hold.new _ 0 none).keep hb2) hi2, three_below (by assumption)⟩
              | exact ⟨_, x2, X2, rfl, var_put ((((Hold.new _ 0 none).keep (below_drewN (Below.refl _ _) 1)).keep hb1).keep hb2) hi2, three_below (by assumption)⟩
        case rest =>
          obtain ⟨p3, a3, P3, rfl, hv, hb⟩ := hcut
          have V0 := Lib.hid (V0.out.keep hb)
          have V1 := Lib.hid (V1.out.keep hb)
          have V2 := Lib.hid (V2.out.keep hb)
          have V3 := Lib.hid hv
          have K3 := Lib.hid (below_on K2.out hb)
          clear hv hb
          generalize wc = wd3 at *
          have HC1 := Lib.hid (fun w' (h : w'.cell? ⟨p0, 0, none⟩ = some (.int .i64 a0) ∧ w'.cell? ⟨p0, 1, none⟩ = some (.pointer P0) ∧ w'.cell? ⟨p1, 0, none⟩ = some (.int .i64 a1) ∧ w'.cell? ⟨p1, 1, none⟩ = some (.pointer P1) ∧ w'.cell? ⟨p2, 0, none⟩ = some (.int .i64 a2) ∧ w'.cell? ⟨p2, 1, none⟩ = some (.pointer P2) ∧ Below wd3.heap.size wd3 w') => mul_any a0 a2 P0 P2 z l w' (V0.out.keep h.2.2.2.2.2.2).int (V2.out.keep h.2.2.2.2.2.2).int (base_up Ls.out (by decide)) (base_up Lu.out (by decide)) (.inl (base_up Ls.out (by decide))))
          have HC2 := Lib.hid (fun w' (h : w'.cell? ⟨p0, 0, none⟩ = some (.int .i64 a0) ∧ w'.cell? ⟨p0, 1, none⟩ = some (.pointer P0) ∧ w'.cell? ⟨p1, 0, none⟩ = some (.int .i64 a1) ∧ w'.cell? ⟨p1, 1, none⟩ = some (.pointer P1) ∧ w'.cell? ⟨p2, 0, none⟩ = some (.int .i64 a2) ∧ w'.cell? ⟨p2, 1, none⟩ = some (.pointer P2) ∧ Below wd3.heap.size wd3 w') => mul_any a1 a2 P1 P2 k l w' (V1.out.keep h.2.2.2.2.2.2).int (V2.out.keep h.2.2.2.2.2.2).int (base_up Lt.out (by decide)) (base_up Lu.out (by decide)) (.inl (base_up Lt.out (by decide))))
          have HC3 := Lib.hid (fun w' x1 X1 x2 X2 (h : w'.cell? ⟨p0, 0, none⟩ = some (.int .i64 a0) ∧ w'.cell? ⟨p0, 1, none⟩ = some (.pointer P0) ∧ w'.cell? ⟨p1, 0, none⟩ = some (.int .i64 a1) ∧ w'.cell? ⟨p1, 1, none⟩ = some (.pointer P1) ∧ w'.cell? ⟨p2, 0, none⟩ = some (.int .i64 a2) ∧ w'.cell? ⟨p2, 1, none⟩ = some (.pointer P2) ∧ Below wd3.heap.size wd3 w') (j1 : IsInt 0 w' (.agg #[.int .i64 x1, .pointer X1]) (z * l)) (j2 : IsInt 0 w' (.agg #[.int .i64 x2, .pointer X2]) (k * l)) => add_any x1 x2 X1 X2 (z * l) (k * l) w' j1 j2 (base_up Lzl.out (by decide)) (base_up Lkl.out (by decide)))
          go_upto_region 7 with fail
          go_cut [14] (fun s wx => ∃ (p : Nat) (x : Int) (X : Option Addr), s = .pointer (some ⟨p, 0, none⟩) ∧ Var wx p x X ((z * l) + (k * l)) ∧ Below wd3.heap.size wd3 wx)
          case first =>
            go_region_held3 (fun w' => w'.cell? ⟨p0, 0, none⟩ = some (.int .i64 a0) ∧ w'.cell? ⟨p0, 1, none⟩ = some (.pointer P0) ∧ w'.cell? ⟨p1, 0, none⟩ = some (.int .i64 a1) ∧ w'.cell? ⟨p1, 1, none⟩ = some (.pointer P1) ∧ w'.cell? ⟨p2, 0, none⟩ = some (.int .i64 a2) ∧ w'.cell? ⟨p2, 1, none⟩ = some (.pointer P2) ∧ Below wd3.heap.size wd3 w')
              (first
                | assumption
                | exact three_start V0 V1 V2 ((Below.refl _ _).drew)
                | exact three_call V0 V1 V2 (by assumption) (by assumption)
                | exact three_call V0 V1 V2 (by assumption) ((Below.refl _ _).alloc (Nat.le_refl _) _)
                | exact three_store V0 V1 V2 (by assumption) (by first | exact Nat.le_refl _ | exact three_size (by assumption) | omega) _ _)
              (first
                | (go_at_call_of 36 P0; refine (HC1.out _ (by assumption)).mono ?_; rintro e w' ⟨x1, X1, rfl, hi1, hb1⟩; have hk1 := three_call V0 V1 V2 (by assumption) hb1; have hz1 := hb1.size; (try simp at hz1); (try have hz1' := Nat.lt_of_succ_le hz1); (try have hq1 := Nat.lt_of_lt_of_le hz0' hz1); (try have hq1 := Nat.lt_of_lt_of_le hq0 hz1); obtain ⟨hc1, hf1⟩ := bcell hb1)
                | (go_at_call_of 36 P1; refine (HC2.out _ (by assumption)).mono ?_; rintro e w' ⟨x2, X2, rfl, hi2, hb2⟩; have hk2 := three_call V0 V1 V2 (by assumption) hb2; have hz2 := hb2.size; (try simp at hz2); (try have hz2' := Nat.lt_of_succ_le hz2); (try have hq2 := Nat.lt_of_lt_of_le hz1' hz2); (try have hq2 := Nat.lt_of_lt_of_le hq1 hz2); obtain ⟨hc2, hf2⟩ := bcell hb2)
                | (go_at_call_of 30 X1; refine (HC3.out _ _ _ _ _ (by assumption) (((hi1.keep (by first | exact Below.refl _ _ | exact (Below.refl _ _).alloc (Nat.le_refl _) _)).keep hb2).keep (by first | exact Below.refl _ _ | exact (Below.refl _ _).alloc (Nat.le_refl _) _)) (hi2.keep (by first | exact Below.refl _ _ | exact (Below.refl _ _).alloc (Nat.le_refl _) _))).mono ?_; rintro e w' ⟨x3, X3, rfl, hi3, hb3⟩; have hk3 := three_call V0 V1 V2 (by assumption) hb3; have hz3 := hb3.size; (try simp at hz3); (try have hz3' := Nat.lt_of_succ_le hz3); (try have hq3 := Nat.lt_of_lt_of_le hz2' hz3); (try have hq3 := Nat.lt_of_lt_of_le hq2 hz3); obtain ⟨hc3, hf3⟩ := bcell hb3))
            all_goals
              go_wp2_with fail
              go_meet
              first
                | exact ⟨_, x3, X3, rfl, Var.new hi3, three_below (by assumption)⟩
                | exact ⟨_, x3, X3, rfl, var_put ((Hold.new _ 0 none).keep hb3) hi3, three_below (by assumption)⟩
                | exact ⟨_, x3, X3, rfl, var_put (((Hold.new _ 0 none).keep hb2).keep hb3) hi3, three_below (by assumption)⟩
                | exact ⟨_, x3, X3, rfl, var_put (((((Hold.new _ 0 none).keep (below_drewN (Below.refl _ _) 1)).keep hb1).keep hb2).keep hb3) hi3, three_below (by assumption)⟩
          case rest =>
            obtain ⟨p4, a4, P4, rfl, hv, hb⟩ := hcut
            have V0 := Lib.hid (V0.out.keep hb)
            have V1 := Lib.hid (V1.out.keep hb)
            have V2 := Lib.hid (V2.out.keep hb)
            have V3 := Lib.hid (V3.out.keep hb)
            have V4 := Lib.hid hv
            have K4 := Lib.hid (below_on K3.out hb)
            clear hv hb
            generalize wc = wd4 at *
            have HC1 := Lib.hid (fun w' (h : w'.cell? ⟨p0, 0, none⟩ = some (.int .i64 a0) ∧ w'.cell? ⟨p0, 1, none⟩ = some (.pointer P0) ∧ w'.cell? ⟨p1, 0, none⟩ = some (.int .i64 a1) ∧ w'.cell? ⟨p1, 1, none⟩ = some (.pointer P1) ∧ w'.cell? ⟨p2, 0, none⟩ = some (.int .i64 a2) ∧ w'.cell? ⟨p2, 1, none⟩ = some (.pointer P2) ∧ Below wd4.heap.size wd4 w') => add_any a0 a1 P0 P1 z k w' (V0.out.keep h.2.2.2.2.2.2).int (V1.out.keep h.2.2.2.2.2.2).int (base_up Ls.out (by decide)) (base_up Lt.out (by decide)))
            have HC2 := Lib.hid (fun w' x1 X1 (h : w'.cell? ⟨p0, 0, none⟩ = some (.int .i64 a0) ∧ w'.cell? ⟨p0, 1, none⟩ = some (.pointer P0) ∧ w'.cell? ⟨p1, 0, none⟩ = some (.int .i64 a1) ∧ w'.cell? ⟨p1, 1, none⟩ = some (.pointer P1) ∧ w'.cell? ⟨p2, 0, none⟩ = some (.int .i64 a2) ∧ w'.cell? ⟨p2, 1, none⟩ = some (.pointer P2) ∧ Below wd4.heap.size wd4 w') (j1 : IsInt 0 w' (.agg #[.int .i64 x1, .pointer X1]) (z + k)) => add_any x1 a2 X1 P2 (z + k) l w' j1 (V2.out.keep h.2.2.2.2.2.2).int (base_up Lzk.out (by decide)) (base_up Lu.out (by decide)))
            go_upto_region 8 with fail
            go_cut [15] (fun s wx => ∃ (p : Nat) (x : Int) (X : Option Addr), s = .pointer (some ⟨p, 0, none⟩) ∧ Var wx p x X ((z + k) + l) ∧ Below wd4.heap.size wd4 wx)
            case first =>
              go_region_held3 (fun w' => w'.cell? ⟨p0, 0, none⟩ = some (.int .i64 a0) ∧ w'.cell? ⟨p0, 1, none⟩ = some (.pointer P0) ∧ w'.cell? ⟨p1, 0, none⟩ = some (.int .i64 a1) ∧ w'.cell? ⟨p1, 1, none⟩ = some (.pointer P1) ∧ w'.cell? ⟨p2, 0, none⟩ = some (.int .i64 a2) ∧ w'.cell? ⟨p2, 1, none⟩ = some (.pointer P2) ∧ Below wd4.heap.size wd4 w')
                (first
                  | assumption
                  | exact three_start V0 V1 V2 ((Below.refl _ _).drew)
                  | exact three_call V0 V1 V2 (by assumption) (by assumption)
                  | exact three_call V0 V1 V2 (by assumption) ((Below.refl _ _).alloc (Nat.le_refl _) _)
                  | exact three_store V0 V1 V2 (by assumption) (by first | exact Nat.le_refl _ | exact three_size (by assumption) | omega) _ _)
                (first
                  | (go_at_call_of 30 P0; refine (HC1.out _ (by assumption)).mono ?_; rintro e w' ⟨x1, X1, rfl, hi1, hb1⟩; have hk1 := three_call V0 V1 V2 (by assumption) hb1; have hz1 := hb1.size; (try simp at hz1); (try have hz1' := Nat.lt_of_succ_le hz1); (try have hq1 := Nat.lt_of_lt_of_le hz0' hz1); (try have hq1 := Nat.lt_of_lt_of_le hq0 hz1); obtain ⟨hc1, hf1⟩ := bcell hb1)
                  | (go_at_call_of 30 X1; refine (HC2.out _ _ _ (by assumption) (hi1.keep (by first | exact Below.refl _ _ | exact (Below.refl _ _).alloc (Nat.le_refl _) _))).mono ?_; rintro e w' ⟨x2, X2, rfl, hi2, hb2⟩; have hk2 := three_call V0 V1 V2 (by assumption) hb2; have hz2 := hb2.size; (try simp at hz2); (try have hz2' := Nat.lt_of_succ_le hz2); (try have hq2 := Nat.lt_of_lt_of_le hz1' hz2); (try have hq2 := Nat.lt_of_lt_of_le hq1 hz2); obtain ⟨hc2, hf2⟩ := bcell hb2))
              all_goals
                go_wp2_with fail
                go_meet
                first
                  | exact ⟨_, x2, X2, rfl, Var.new hi2, three_below (by assumption)⟩
                  | exact ⟨_, x2, X2, rfl, var_put ((Hold.new _ 0 none).keep hb2) hi2, three_below (by assumption)⟩
                  | exact ⟨_, x2, X2, rfl, var_put ((((Hold.new _ 0 none).keep (below_drewN (Below.refl _ _) 1)).keep hb1).keep hb2) hi2, three_below (by assumption)⟩
            case rest =>
              obtain ⟨p5, a5, P5, rfl, hv, hb⟩ := hcut
              have V0 := Lib.hid (V0.out.keep hb)
              have V1 := Lib.hid (V1.out.keep hb)
              have V2 := Lib.hid (V2.out.keep hb)
              have V3 := Lib.hid (V3.out.keep hb)
              have V4 := Lib.hid (V4.out.keep hb)
              have V5 := Lib.hid hv
              have K5 := Lib.hid (below_on K4.out hb)
              clear hv hb
              generalize wc = wd5 at *
              have HC1 := Lib.hid (fun w' (h : w'.cell? ⟨p0, 0, none⟩ = some (.int .i64 a0) ∧ w'.cell? ⟨p0, 1, none⟩ = some (.pointer P0) ∧ w'.cell? ⟨p1, 0, none⟩ = some (.int .i64 a1) ∧ w'.cell? ⟨p1, 1, none⟩ = some (.pointer P1) ∧ w'.cell? ⟨p2, 0, none⟩ = some (.int .i64 a2) ∧ w'.cell? ⟨p2, 1, none⟩ = some (.pointer P2) ∧ Below wd5.heap.size wd5 w') => mul_any a0 a1 P0 P1 z k w' (V0.out.keep h.2.2.2.2.2.2).int (V1.out.keep h.2.2.2.2.2.2).int (base_up Ls.out (by decide)) (base_up Lt.out (by decide)) (.inl (base_up Ls.out (by decide))))
              have HC2 := Lib.hid (fun w' x1 X1 (h : w'.cell? ⟨p0, 0, none⟩ = some (.int .i64 a0) ∧ w'.cell? ⟨p0, 1, none⟩ = some (.pointer P0) ∧ w'.cell? ⟨p1, 0, none⟩ = some (.int .i64 a1) ∧ w'.cell? ⟨p1, 1, none⟩ = some (.pointer P1) ∧ w'.cell? ⟨p2, 0, none⟩ = some (.int .i64 a2) ∧ w'.cell? ⟨p2, 1, none⟩ = some (.pointer P2) ∧ Below wd5.heap.size wd5 w') (j1 : IsInt 0 w' (.agg #[.int .i64 x1, .pointer X1]) (z * k)) => mul_any x1 a2 X1 P2 (z * k) l w' j1 (V2.out.keep h.2.2.2.2.2.2).int (base_up Lzm.out (by decide)) (base_up Lu.out (by decide)) (.inl (base_up Lzm.out (by decide))))
              go_upto_region 9 with fail
              go_cut [16] (fun s wx => ∃ (p : Nat) (x : Int) (X : Option Addr), s = .pointer (some ⟨p, 0, none⟩) ∧ Var wx p x X ((z * k) * l) ∧ Below wd5.heap.size wd5 wx)
              case first =>
                go_region_held3 (fun w' => w'.cell? ⟨p0, 0, none⟩ = some (.int .i64 a0) ∧ w'.cell? ⟨p0, 1, none⟩ = some (.pointer P0) ∧ w'.cell? ⟨p1, 0, none⟩ = some (.int .i64 a1) ∧ w'.cell? ⟨p1, 1, none⟩ = some (.pointer P1) ∧ w'.cell? ⟨p2, 0, none⟩ = some (.int .i64 a2) ∧ w'.cell? ⟨p2, 1, none⟩ = some (.pointer P2) ∧ Below wd5.heap.size wd5 w')
                  (first
                    | assumption
                    | exact three_start V0 V1 V2 ((Below.refl _ _).drew)
                    | exact three_call V0 V1 V2 (by assumption) (by assumption)
                    | exact three_call V0 V1 V2 (by assumption) ((Below.refl _ _).alloc (Nat.le_refl _) _)
                    | exact three_store V0 V1 V2 (by assumption) (by first | exact Nat.le_refl _ | exact three_size (by assumption) | omega) _ _)
                  (first
                    | (go_at_call_of 36 P0; refine (HC1.out _ (by assumption)).mono ?_; rintro e w' ⟨x1, X1, rfl, hi1, hb1⟩; have hk1 := three_call V0 V1 V2 (by assumption) hb1; have hz1 := hb1.size; (try simp at hz1); (try have hz1' := Nat.lt_of_succ_le hz1); (try have hq1 := Nat.lt_of_lt_of_le hz0' hz1); (try have hq1 := Nat.lt_of_lt_of_le hq0 hz1); obtain ⟨hc1, hf1⟩ := bcell hb1)
                    | (go_at_call_of 36 X1; refine (HC2.out _ _ _ (by assumption) (hi1.keep (by first | exact Below.refl _ _ | exact (Below.refl _ _).alloc (Nat.le_refl _) _))).mono ?_; rintro e w' ⟨x2, X2, rfl, hi2, hb2⟩; have hk2 := three_call V0 V1 V2 (by assumption) hb2; have hz2 := hb2.size; (try simp at hz2); (try have hz2' := Nat.lt_of_succ_le hz2); (try have hq2 := Nat.lt_of_lt_of_le hz1' hz2); (try have hq2 := Nat.lt_of_lt_of_le hq1 hz2); obtain ⟨hc2, hf2⟩ := bcell hb2))
                all_goals
                  go_wp2_with fail
                  go_meet
                  first
                    | exact ⟨_, x2, X2, rfl, Var.new hi2, three_below (by assumption)⟩
                    | exact ⟨_, x2, X2, rfl, var_put ((Hold.new _ 0 none).keep hb2) hi2, three_below (by assumption)⟩
                    | exact ⟨_, x2, X2, rfl, var_put ((((Hold.new _ 0 none).keep (below_drewN (Below.refl _ _) 1)).keep hb1).keep hb2) hi2, three_below (by assumption)⟩
              case rest =>
                obtain ⟨p6, a6, P6, rfl, hv, hb⟩ := hcut
                have V0 := Lib.hid (V0.out.keep hb)
                have V1 := Lib.hid (V1.out.keep hb)
                have V2 := Lib.hid (V2.out.keep hb)
                have V3 := Lib.hid (V3.out.keep hb)
                have V4 := Lib.hid (V4.out.keep hb)
                have V5 := Lib.hid (V5.out.keep hb)
                have V6 := Lib.hid hv
                have K6 := Lib.hid (below_on K5.out hb)
                clear hv hb
                generalize wc = wd6 at *

                have Lzkl := Lib.hid (show ((z + k) * l).natAbs < base 20 by rw [Int.natAbs_mul]; exact Nat.lt_of_lt_of_le (base_add Lzk.out Lu.out) (base_le (by decide)))
                have Lk2 := Lib.hid (show (k + l).natAbs < base 8 by have h1 := Lt.out; have h2 := Lu.out; have h3 : 2 * base 7 ≤ base 8 := base_two 7; omega)
                have HQ1 := Lib.hid (fun w' (h : w'.cell? ⟨p0, 0, none⟩ = some (.int .i64 a0) ∧ w'.cell? ⟨p0, 1, none⟩ = some (.pointer P0) ∧ w'.cell? ⟨p1, 0, none⟩ = some (.int .i64 a1) ∧ w'.cell? ⟨p1, 1, none⟩ = some (.pointer P1) ∧ w'.cell? ⟨p2, 0, none⟩ = some (.int .i64 a2) ∧ w'.cell? ⟨p2, 1, none⟩ = some (.pointer P2) ∧ w'.cell? ⟨p3, 0, none⟩ = some (.int .i64 a3) ∧ w'.cell? ⟨p3, 1, none⟩ = some (.pointer P3) ∧ w'.cell? ⟨p4, 0, none⟩ = some (.int .i64 a4) ∧ w'.cell? ⟨p4, 1, none⟩ = some (.pointer P4) ∧ w'.cell? ⟨p5, 0, none⟩ = some (.int .i64 a5) ∧ w'.cell? ⟨p5, 1, none⟩ = some (.pointer P5) ∧ w'.cell? ⟨p6, 0, none⟩ = some (.int .i64 a6) ∧ w'.cell? ⟨p6, 1, none⟩ = some (.pointer P6) ∧ Below wd6.heap.size wd6 w') => show Calls Tryd.prog 22 #[.agg #[.int .i64 a3, .pointer P3], .agg #[.int .i64 a4, .pointer P4]] w' (fun e w2 => e = .returned (.int .i64 0) ∧ Below w'.heap.size w' w2) by
                  have := compare_any (.agg #[.int .i64 a3, .pointer P3]) (.agg #[.int .i64 a4, .pointer P4]) _ _ w' (V3.out.keep h.2.2.2.2.2.2.2.2.2.2.2.2.2.2).int (V4.out.keep h.2.2.2.2.2.2.2.2.2.2.2.2.2.2).int
                  rwa [show (z * l + k * l) = (z + k) * l from (Int.add_mul z k l).symm, cmpZ_self] at this)
                have HQ2 := Lib.hid (fun w' x X v (h : w'.cell? ⟨p0, 0, none⟩ = some (.int .i64 a0) ∧ w'.cell? ⟨p0, 1, none⟩ = some (.pointer P0) ∧ w'.cell? ⟨p1, 0, none⟩ = some (.int .i64 a1) ∧ w'.cell? ⟨p1, 1, none⟩ = some (.pointer P1) ∧ w'.cell? ⟨p2, 0, none⟩ = some (.int .i64 a2) ∧ w'.cell? ⟨p2, 1, none⟩ = some (.pointer P2) ∧ w'.cell? ⟨p3, 0, none⟩ = some (.int .i64 a3) ∧ w'.cell? ⟨p3, 1, none⟩ = some (.pointer P3) ∧ w'.cell? ⟨p4, 0, none⟩ = some (.int .i64 a4) ∧ w'.cell? ⟨p4, 1, none⟩ = some (.pointer P4) ∧ w'.cell? ⟨p5, 0, none⟩ = some (.int .i64 a5) ∧ w'.cell? ⟨p5, 1, none⟩ = some (.pointer P5) ∧ w'.cell? ⟨p6, 0, none⟩ = some (.int .i64 a6) ∧ w'.cell? ⟨p6, 1, none⟩ = some (.pointer P6) ∧ Below wd6.heap.size wd6 w') (j : IsInt 0 w' (.agg #[.int .i64 x, .pointer X]) v) (ev : v = z + k + l) => show Calls Tryd.prog 22 #[.agg #[.int .i64 a5, .pointer P5], .agg #[.int .i64 x, .pointer X]] w' (fun e w2 => e = .returned (.int .i64 0) ∧ Below w'.heap.size w' w2) by
                  have := compare_any (.agg #[.int .i64 a5, .pointer P5]) (.agg #[.int .i64 x, .pointer X]) _ _ w' (V5.out.keep h.2.2.2.2.2.2.2.2.2.2.2.2.2.2).int j
                  rwa [ev, cmpZ_self] at this)
                have HQ3 := Lib.hid (fun w' x X (h : w'.cell? ⟨p0, 0, none⟩ = some (.int .i64 a0) ∧ w'.cell? ⟨p0, 1, none⟩ = some (.pointer P0) ∧ w'.cell? ⟨p1, 0, none⟩ = some (.int .i64 a1) ∧ w'.cell? ⟨p1, 1, none⟩ = some (.pointer P1) ∧ w'.cell? ⟨p2, 0, none⟩ = some (.int .i64 a2) ∧ w'.cell? ⟨p2, 1, none⟩ = some (.pointer P2) ∧ w'.cell? ⟨p3, 0, none⟩ = some (.int .i64 a3) ∧ w'.cell? ⟨p3, 1, none⟩ = some (.pointer P3) ∧ w'.cell? ⟨p4, 0, none⟩ = some (.int .i64 a4) ∧ w'.cell? ⟨p4, 1, none⟩ = some (.pointer P4) ∧ w'.cell? ⟨p5, 0, none⟩ = some (.int .i64 a5) ∧ w'.cell? ⟨p5, 1, none⟩ = some (.pointer P5) ∧ w'.cell? ⟨p6, 0, none⟩ = some (.int .i64 a6) ∧ w'.cell? ⟨p6, 1, none⟩ = some (.pointer P6) ∧ Below wd6.heap.size wd6 w') (j : IsInt 0 w' (.agg #[.int .i64 x, .pointer X]) (z * (k * l))) => show Calls Tryd.prog 22 #[.agg #[.int .i64 a6, .pointer P6], .agg #[.int .i64 x, .pointer X]] w' (fun e w2 => e = .returned (.int .i64 0) ∧ Below w'.heap.size w' w2) by
                  have := compare_any (.agg #[.int .i64 a6, .pointer P6]) (.agg #[.int .i64 x, .pointer X]) _ _ w' (V6.out.keep h.2.2.2.2.2.2.2.2.2.2.2.2.2.2).int j
                  rwa [Int.mul_assoc, cmpZ_self] at this)
                have HSu := Lib.hid (fun (w' : World) (h : (w'.alloc (.cells #[.int .i64 a0, .pointer P0, .int .i64 a1, .pointer P1, .int .i64 a2, .pointer P2] 25)).cell? ⟨p0, 0, none⟩ = some (.int .i64 a0) ∧ (w'.alloc (.cells #[.int .i64 a0, .pointer P0, .int .i64 a1, .pointer P1, .int .i64 a2, .pointer P2] 25)).cell? ⟨p0, 1, none⟩ = some (.pointer P0) ∧ (w'.alloc (.cells #[.int .i64 a0, .pointer P0, .int .i64 a1, .pointer P1, .int .i64 a2, .pointer P2] 25)).cell? ⟨p1, 0, none⟩ = some (.int .i64 a1) ∧ (w'.alloc (.cells #[.int .i64 a0, .pointer P0, .int .i64 a1, .pointer P1, .int .i64 a2, .pointer P2] 25)).cell? ⟨p1, 1, none⟩ = some (.pointer P1) ∧ (w'.alloc (.cells #[.int .i64 a0, .pointer P0, .int .i64 a1, .pointer P1, .int .i64 a2, .pointer P2] 25)).cell? ⟨p2, 0, none⟩ = some (.int .i64 a2) ∧ (w'.alloc (.cells #[.int .i64 a0, .pointer P0, .int .i64 a1, .pointer P1, .int .i64 a2, .pointer P2] 25)).cell? ⟨p2, 1, none⟩ = some (.pointer P2) ∧ (w'.alloc (.cells #[.int .i64 a0, .pointer P0, .int .i64 a1, .pointer P1, .int .i64 a2, .pointer P2] 25)).cell? ⟨p3, 0, none⟩ = some (.int .i64 a3) ∧ (w'.alloc (.cells #[.int .i64 a0, .pointer P0, .int .i64 a1, .pointer P1, .int .i64 a2, .pointer P2] 25)).cell? ⟨p3, 1, none⟩ = some (.pointer P3) ∧ (w'.alloc (.cells #[.int .i64 a0, .pointer P0, .int .i64 a1, .pointer P1, .int .i64 a2, .pointer P2] 25)).cell? ⟨p4, 0, none⟩ = some (.int .i64 a4) ∧ (w'.alloc (.cells #[.int .i64 a0, .pointer P0, .int .i64 a1, .pointer P1, .int .i64 a2, .pointer P2] 25)).cell? ⟨p4, 1, none⟩ = some (.pointer P4) ∧ (w'.alloc (.cells #[.int .i64 a0, .pointer P0, .int .i64 a1, .pointer P1, .int .i64 a2, .pointer P2] 25)).cell? ⟨p5, 0, none⟩ = some (.int .i64 a5) ∧ (w'.alloc (.cells #[.int .i64 a0, .pointer P0, .int .i64 a1, .pointer P1, .int .i64 a2, .pointer P2] 25)).cell? ⟨p5, 1, none⟩ = some (.pointer P5) ∧ (w'.alloc (.cells #[.int .i64 a0, .pointer P0, .int .i64 a1, .pointer P1, .int .i64 a2, .pointer P2] 25)).cell? ⟨p6, 0, none⟩ = some (.int .i64 a6) ∧ (w'.alloc (.cells #[.int .i64 a0, .pointer P0, .int .i64 a1, .pointer P1, .int .i64 a2, .pointer P2] 25)).cell? ⟨p6, 1, none⟩ = some (.pointer P6) ∧ Below wd6.heap.size wd6 (w'.alloc (.cells #[.int .i64 a0, .pointer P0, .int .i64 a1, .pointer P1, .int .i64 a2, .pointer P2] 25))) => sum_three (V0.out.keep h.2.2.2.2.2.2.2.2.2.2.2.2.2.2).int (V1.out.keep h.2.2.2.2.2.2.2.2.2.2.2.2.2.2).int (V2.out.keep h.2.2.2.2.2.2.2.2.2.2.2.2.2.2).int Ls.out Lt.out Lu.out)
                have HA1 := Lib.hid (fun w' (h : w'.cell? ⟨p0, 0, none⟩ = some (.int .i64 a0) ∧ w'.cell? ⟨p0, 1, none⟩ = some (.pointer P0) ∧ w'.cell? ⟨p1, 0, none⟩ = some (.int .i64 a1) ∧ w'.cell? ⟨p1, 1, none⟩ = some (.pointer P1) ∧ w'.cell? ⟨p2, 0, none⟩ = some (.int .i64 a2) ∧ w'.cell? ⟨p2, 1, none⟩ = some (.pointer P2) ∧ w'.cell? ⟨p3, 0, none⟩ = some (.int .i64 a3) ∧ w'.cell? ⟨p3, 1, none⟩ = some (.pointer P3) ∧ w'.cell? ⟨p4, 0, none⟩ = some (.int .i64 a4) ∧ w'.cell? ⟨p4, 1, none⟩ = some (.pointer P4) ∧ w'.cell? ⟨p5, 0, none⟩ = some (.int .i64 a5) ∧ w'.cell? ⟨p5, 1, none⟩ = some (.pointer P5) ∧ w'.cell? ⟨p6, 0, none⟩ = some (.int .i64 a6) ∧ w'.cell? ⟨p6, 1, none⟩ = some (.pointer P6) ∧ Below wd6.heap.size wd6 w') => add_any a1 a2 P1 P2 k l w' (V1.out.keep h.2.2.2.2.2.2.2.2.2.2.2.2.2.2).int (V2.out.keep h.2.2.2.2.2.2.2.2.2.2.2.2.2.2).int (base_up Lt.out (by decide)) (base_up Lu.out (by decide)))
                have HA2 := Lib.hid (fun w' x X (h : w'.cell? ⟨p0, 0, none⟩ = some (.int .i64 a0) ∧ w'.cell? ⟨p0, 1, none⟩ = some (.pointer P0) ∧ w'.cell? ⟨p1, 0, none⟩ = some (.int .i64 a1) ∧ w'.cell? ⟨p1, 1, none⟩ = some (.pointer P1) ∧ w'.cell? ⟨p2, 0, none⟩ = some (.int .i64 a2) ∧ w'.cell? ⟨p2, 1, none⟩ = some (.pointer P2) ∧ w'.cell? ⟨p3, 0, none⟩ = some (.int .i64 a3) ∧ w'.cell? ⟨p3, 1, none⟩ = some (.pointer P3) ∧ w'.cell? ⟨p4, 0, none⟩ = some (.int .i64 a4) ∧ w'.cell? ⟨p4, 1, none⟩ = some (.pointer P4) ∧ w'.cell? ⟨p5, 0, none⟩ = some (.int .i64 a5) ∧ w'.cell? ⟨p5, 1, none⟩ = some (.pointer P5) ∧ w'.cell? ⟨p6, 0, none⟩ = some (.int .i64 a6) ∧ w'.cell? ⟨p6, 1, none⟩ = some (.pointer P6) ∧ Below wd6.heap.size wd6 w') (j : IsInt 0 w' (.agg #[.int .i64 x, .pointer X]) (k + l)) => add_any a0 x P0 X z (k + l) w' (V0.out.keep h.2.2.2.2.2.2.2.2.2.2.2.2.2.2).int j (base_up Ls.out (by decide)) (base_up Lk2.out (by decide)))
                have HM1 := Lib.hid (fun w' (h : w'.cell? ⟨p0, 0, none⟩ = some (.int .i64 a0) ∧ w'.cell? ⟨p0, 1, none⟩ = some (.pointer P0) ∧ w'.cell? ⟨p1, 0, none⟩ = some (.int .i64 a1) ∧ w'.cell? ⟨p1, 1, none⟩ = some (.pointer P1) ∧ w'.cell? ⟨p2, 0, none⟩ = some (.int .i64 a2) ∧ w'.cell? ⟨p2, 1, none⟩ = some (.pointer P2) ∧ w'.cell? ⟨p3, 0, none⟩ = some (.int .i64 a3) ∧ w'.cell? ⟨p3, 1, none⟩ = some (.pointer P3) ∧ w'.cell? ⟨p4, 0, none⟩ = some (.int .i64 a4) ∧ w'.cell? ⟨p4, 1, none⟩ = some (.pointer P4) ∧ w'.cell? ⟨p5, 0, none⟩ = some (.int .i64 a5) ∧ w'.cell? ⟨p5, 1, none⟩ = some (.pointer P5) ∧ w'.cell? ⟨p6, 0, none⟩ = some (.int .i64 a6) ∧ w'.cell? ⟨p6, 1, none⟩ = some (.pointer P6) ∧ Below wd6.heap.size wd6 w') => mul_any a1 a2 P1 P2 k l w' (V1.out.keep h.2.2.2.2.2.2.2.2.2.2.2.2.2.2).int (V2.out.keep h.2.2.2.2.2.2.2.2.2.2.2.2.2.2).int (base_up Lt.out (by decide)) (base_up Lu.out (by decide)) (.inl (base_up Lt.out (by decide))))
                have HM2 := Lib.hid (fun w' x X (h : w'.cell? ⟨p0, 0, none⟩ = some (.int .i64 a0) ∧ w'.cell? ⟨p0, 1, none⟩ = some (.pointer P0) ∧ w'.cell? ⟨p1, 0, none⟩ = some (.int .i64 a1) ∧ w'.cell? ⟨p1, 1, none⟩ = some (.pointer P1) ∧ w'.cell? ⟨p2, 0, none⟩ = some (.int .i64 a2) ∧ w'.cell? ⟨p2, 1, none⟩ = some (.pointer P2) ∧ w'.cell? ⟨p3, 0, none⟩ = some (.int .i64 a3) ∧ w'.cell? ⟨p3, 1, none⟩ = some (.pointer P3) ∧ w'.cell? ⟨p4, 0, none⟩ = some (.int .i64 a4) ∧ w'.cell? ⟨p4, 1, none⟩ = some (.pointer P4) ∧ w'.cell? ⟨p5, 0, none⟩ = some (.int .i64 a5) ∧ w'.cell? ⟨p5, 1, none⟩ = some (.pointer P5) ∧ w'.cell? ⟨p6, 0, none⟩ = some (.int .i64 a6) ∧ w'.cell? ⟨p6, 1, none⟩ = some (.pointer P6) ∧ Below wd6.heap.size wd6 w') (j : IsInt 0 w' (.agg #[.int .i64 x, .pointer X]) (k * l)) => mul_any a0 x P0 X z (k * l) w' (V0.out.keep h.2.2.2.2.2.2.2.2.2.2.2.2.2.2).int j (base_up Ls.out (by decide)) (base_up Lkl.out (by decide)) (.inl (base_up Ls.out (by decide))))
                have HG0 := Lib.hid (fun w' => show Calls Tryd.prog 21 #[small 0] w' (fun e w2 => e = .returned (.int .i64 0) ∧ Below w'.heap.size w' w2) from sign_any 0 w')
                go_upto_region 10 with fail
                go_region_held3 (fun w' => w'.cell? ⟨p0, 0, none⟩ = some (.int .i64 a0) ∧ w'.cell? ⟨p0, 1, none⟩ = some (.pointer P0) ∧ w'.cell? ⟨p1, 0, none⟩ = some (.int .i64 a1) ∧ w'.cell? ⟨p1, 1, none⟩ = some (.pointer P1) ∧ w'.cell? ⟨p2, 0, none⟩ = some (.int .i64 a2) ∧ w'.cell? ⟨p2, 1, none⟩ = some (.pointer P2) ∧ w'.cell? ⟨p3, 0, none⟩ = some (.int .i64 a3) ∧ w'.cell? ⟨p3, 1, none⟩ = some (.pointer P3) ∧ w'.cell? ⟨p4, 0, none⟩ = some (.int .i64 a4) ∧ w'.cell? ⟨p4, 1, none⟩ = some (.pointer P4) ∧ w'.cell? ⟨p5, 0, none⟩ = some (.int .i64 a5) ∧ w'.cell? ⟨p5, 1, none⟩ = some (.pointer P5) ∧ w'.cell? ⟨p6, 0, none⟩ = some (.int .i64 a6) ∧ w'.cell? ⟨p6, 1, none⟩ = some (.pointer P6) ∧ Below wd6.heap.size wd6 w')
                  (first
                    | assumption
                    | exact seven_start V0 V1 V2 V3 V4 V5 V6 ((Below.refl _ _).drew)
                    | exact seven_start V0 V1 V2 V3 V4 V5 V6 (below_on (seven_below (by assumption)) (by assumption))
                    | exact seven_start V0 V1 V2 V3 V4 V5 V6 (below_on (seven_below (by assumption)) ((Below.refl _ _).alloc (Nat.le_refl _) _)))
                  (first
                    | (go_at_call_of 22 P3; refine (HQ1.out _ (by assumption)).mono ?_; rintro e w' ⟨rfl, hb⟩)
                    | (go_at_call_of 22 P5; refine (HQ2.out _ _ _ _ (by assumption) hi3 (by omega)).mono ?_; rintro e w' ⟨rfl, hb⟩)
                    | (go_at_call_of 22 P5; refine (HQ2.out _ _ _ _ (by assumption) hi1 rfl).mono ?_; rintro e w' ⟨rfl, hb⟩)
                    | (go_at_call_of 22 P6; refine (HQ3.out _ _ _ (by assumption) hi5).mono ?_; rintro e w' ⟨rfl, hb⟩)
                    | (go_at_call_of 44 (Value.slice none 0 0); refine (sum_nil _).mono ?_; rintro e w' ⟨rfl, hb⟩)
                    | (go_at_call 44; refine (HSu.out _ (by assumption)).mono ?_; rintro e w' ⟨x1, X1, rfl, hi1, hb⟩)
                    | (go_at_call_of 30 P1; refine (HA1.out _ (by assumption)).mono ?_; rintro e w' ⟨x2, X2, rfl, hi2, hb⟩)
                    | (go_at_call_of 30 P0; refine (HA2.out _ _ _ (by assumption) hi2).mono ?_; rintro e w' ⟨x3, X3, rfl, hi3, hb⟩)
                    | (go_at_call_of 36 P1; refine (HM1.out _ (by assumption)).mono ?_; rintro e w' ⟨x4, X4, rfl, hi4, hb⟩)
                    | (go_at_call_of 36 P0; refine (HM2.out _ _ _ (by assumption) hi4).mono ?_; rintro e w' ⟨x5, X5, rfl, hi5, hb⟩)
                    | (go_at_call 21; refine (HG0.out _).mono ?_; rintro e w' ⟨rfl, hb⟩))

                have K7 := Lib.hid (seven_below (by assumption))
                have V0 := Lib.hid (V0.out.keep K7.out)
                have V1 := Lib.hid (V1.out.keep K7.out)
                have K8 := Lib.hid (below_on K6.out K7.out)
                clear HQ1 HQ2 HQ3 HSu HA1 HA2 HM1 HM2
                generalize w' = w7 at V0 V1 K8 ⊢
                have c00 := V0.out.c0
                have c01 := V0.out.c1
                have c10 := V1.out.c0
                have c11 := V1.out.c1
                have VA := V0
                have VB := V1
                by_cases hk0 : k = 0
                · subst hk0
                  obtain ⟨rfl, rfl⟩ : a1 = 0 ∧ P1 = none := by
                    rcases VB.out.int.ways with ⟨_, e⟩ | ⟨h0, _⟩
                    · exact small_eq e
                    · exact absurd ⟨by decide, by decide⟩ h0
                  have HD := Lib.hid (divmod_zero a0 P0 z w7 VA.out.int)
                  go_wp2_with fail
                  refine HD.out.mono ?_
                  rintro e n1 ⟨rfl, g1⟩
                  have J1 := Lib.hid (below_var (below_var (below_on K8.out g1) (.cells #[.int .i64 0, .pointer none] 25)) (.cells #[.int .i64 0, .pointer none] 25))
                  have U1 := Lib.hid (((VB.out.keep g1).grow (.cells #[.int .i64 0, .pointer none] 25)).grow (.cells #[.int .i64 0, .pointer none] 25))
                  clear g1 c00 c01 c10 c11
                  have c10 := U1.out.c0
                  have c11 := U1.out.c1
                  go_wp2_with fail
                  refine (HG0.out _).mono ?_
                  rintro e m1 ⟨rfl, g1⟩
                  have J2 := Lib.hid (below_on J1.out g1)
                  clear g1
                  go_wp2
                  go_ret
                  exact ⟨rfl, J2.out⟩
                · have HD := Lib.hid (divmod_any a0 a1 P0 P1 z k w7 V0.out.int V1.out.int hk0 (base_up Ls.out (by decide)) (base_up Lt.out (by decide)))
                  go_wp2_with fail
                  refine HD.out.mono ?_
                  rintro e n1 ⟨a7, P7, a8, P8, q, r, rfl, hi, hj, hdm, g1⟩
                  have k1 := (Below.refl n1.heap.size n1).alloc (Nat.le_refl _) (.cells #[.int .i64 a7, .pointer P7] 25)
                  have V7 := Lib.hid ((Var.new hi).grow (.cells #[.int .i64 a8, .pointer P8] 25))
                  have V8 := Lib.hid (Var.new (hj.keep k1))
                  have V0 := Lib.hid (((V0.out.keep g1).grow (.cells #[.int .i64 a7, .pointer P7] 25)).grow (.cells #[.int .i64 a8, .pointer P8] 25))
                  have V1 := Lib.hid (((V1.out.keep g1).grow (.cells #[.int .i64 a7, .pointer P7] 25)).grow (.cells #[.int .i64 a8, .pointer P8] 25))
                  have J1 := Lib.hid (below_var (below_var (below_on K8.out g1) (.cells #[.int .i64 a7, .pointer P7] 25)) (.cells #[.int .i64 a8, .pointer P8] 25))
                  simp only [World.size_alloc] at V8
                  obtain ⟨f1, f2, f3, f4, f5, f6, f7⟩ := dm_facts hdm Ls.out Lt.out
                  have Lq := Lib.hid f1
                  have Lr := Lib.hid f2
                  have Lqk := Lib.hid f3
                  have Hback := Lib.hid f4
                  have Hlt := Lib.hid f5
                  have hsgn : sgn k ≠ 0 := by unfold sgn; split <;> (try split) <;> omega
                  obtain ⟨y, hy⟩ : ∃ y, sgn k = y := ⟨_, rfl⟩
                  obtain ⟨x, hx⟩ : ∃ x, sgn r = x := ⟨_, rfl⟩
                  obtain ⟨m, hm⟩ : ∃ m, sgn r * sgn k = m := ⟨_, rfl⟩
                  rw [hm] at f6 f7
                  rw [hx, hy] at hm
                  rw [hy] at hsgn
                  have t0 : (y == 0) = false := by rw [beq_eq_false_iff_ne]; exact hsgn
                  have Hy := Lib.hid hy
                  have Hx := Lib.hid hx
                  have HS0 := Lib.hid (signZ_any _ k _ V1.out.int)
                  rw [hy] at HS0
                  clear g1 hi hj hdm k1 c00 c01 c10 c11 f1 f2 f3 f4 f5 hx hy hsgn hk0
                  have c10 := V1.out.c0
                  have c11 := V1.out.c1
                  go_wp2_with fail
                  refine HS0.out.mono ?_
                  rintro e wB ⟨rfl, g1⟩
                  have V0 := Lib.hid (V0.out.keep g1)
                  have V1 := Lib.hid (V1.out.keep g1)
                  have V7 := Lib.hid (V7.out.keep g1)
                  have V8 := Lib.hid (V8.out.keep g1)
                  have J2 := Lib.hid (below_on J1.out g1)
                  clear g1 c10 c11 HS0
                  obtain ⟨p7, hp7⟩ : ∃ p, n1.heap.size = p := ⟨_, rfl⟩
                  rw [hp7] at V7 V8
                  have R1 := Lib.hid (fun w' (h : w'.cell? ⟨p0, 0, none⟩ = some (.int .i64 a0) ∧ w'.cell? ⟨p0, 1, none⟩ = some (.pointer P0) ∧ w'.cell? ⟨p1, 0, none⟩ = some (.int .i64 a1) ∧ w'.cell? ⟨p1, 1, none⟩ = some (.pointer P1) ∧ w'.cell? ⟨p7, 0, none⟩ = some (.int .i64 a7) ∧ w'.cell? ⟨p7, 1, none⟩ = some (.pointer P7) ∧ w'.cell? ⟨p7 + 1, 0, none⟩ = some (.int .i64 a8) ∧ w'.cell? ⟨p7 + 1, 1, none⟩ = some (.pointer P8) ∧ Below wB.heap.size wB w') => mul_any a7 a1 P7 P1 q k w' (V7.out.keep h.2.2.2.2.2.2.2.2).int (V1.out.keep h.2.2.2.2.2.2.2.2).int (base_up Lq.out (by decide)) (base_up Lt.out (by decide)) (.inl (base_up Lq.out (by decide))))
                  have R2 := Lib.hid (fun w' x X (h : w'.cell? ⟨p0, 0, none⟩ = some (.int .i64 a0) ∧ w'.cell? ⟨p0, 1, none⟩ = some (.pointer P0) ∧ w'.cell? ⟨p1, 0, none⟩ = some (.int .i64 a1) ∧ w'.cell? ⟨p1, 1, none⟩ = some (.pointer P1) ∧ w'.cell? ⟨p7, 0, none⟩ = some (.int .i64 a7) ∧ w'.cell? ⟨p7, 1, none⟩ = some (.pointer P7) ∧ w'.cell? ⟨p7 + 1, 0, none⟩ = some (.int .i64 a8) ∧ w'.cell? ⟨p7 + 1, 1, none⟩ = some (.pointer P8) ∧ Below wB.heap.size wB w') (j : IsInt 0 w' (.agg #[.int .i64 x, .pointer X]) (q * k)) => add_any x a8 X P8 (q * k) r w' j (V8.out.keep h.2.2.2.2.2.2.2.2).int (base_up Lqk.out (by decide)) (base_up Lr.out (by decide)))
                  have R3 := Lib.hid (fun w' x X (h : w'.cell? ⟨p0, 0, none⟩ = some (.int .i64 a0) ∧ w'.cell? ⟨p0, 1, none⟩ = some (.pointer P0) ∧ w'.cell? ⟨p1, 0, none⟩ = some (.int .i64 a1) ∧ w'.cell? ⟨p1, 1, none⟩ = some (.pointer P1) ∧ w'.cell? ⟨p7, 0, none⟩ = some (.int .i64 a7) ∧ w'.cell? ⟨p7, 1, none⟩ = some (.pointer P7) ∧ w'.cell? ⟨p7 + 1, 0, none⟩ = some (.int .i64 a8) ∧ w'.cell? ⟨p7 + 1, 1, none⟩ = some (.pointer P8) ∧ Below wB.heap.size wB w') (j : IsInt 0 w' (.agg #[.int .i64 x, .pointer X]) (q * k + r)) => show Calls Tryd.prog 22 #[.agg #[.int .i64 x, .pointer X], .agg #[.int .i64 a0, .pointer P0]] w' (fun e w2 => e = .returned (.int .i64 0) ∧ Below w'.heap.size w' w2) by
                    have := compare_any (.agg #[.int .i64 x, .pointer X]) (.agg #[.int .i64 a0, .pointer P0]) _ _ w' j (V0.out.keep h.2.2.2.2.2.2.2.2).int
                    rwa [Hback.out, cmpZ_self] at this)
                  have R4 := Lib.hid (fun w' (h : w'.cell? ⟨p0, 0, none⟩ = some (.int .i64 a0) ∧ w'.cell? ⟨p0, 1, none⟩ = some (.pointer P0) ∧ w'.cell? ⟨p1, 0, none⟩ = some (.int .i64 a1) ∧ w'.cell? ⟨p1, 1, none⟩ = some (.pointer P1) ∧ w'.cell? ⟨p7, 0, none⟩ = some (.int .i64 a7) ∧ w'.cell? ⟨p7, 1, none⟩ = some (.pointer P7) ∧ w'.cell? ⟨p7 + 1, 0, none⟩ = some (.int .i64 a8) ∧ w'.cell? ⟨p7 + 1, 1, none⟩ = some (.pointer P8) ∧ Below wB.heap.size wB w') => abs_any a8 P8 r w' (V8.out.keep h.2.2.2.2.2.2.2.2).int)
                  have R5 := Lib.hid (fun w' (h : w'.cell? ⟨p0, 0, none⟩ = some (.int .i64 a0) ∧ w'.cell? ⟨p0, 1, none⟩ = some (.pointer P0) ∧ w'.cell? ⟨p1, 0, none⟩ = some (.int .i64 a1) ∧ w'.cell? ⟨p1, 1, none⟩ = some (.pointer P1) ∧ w'.cell? ⟨p7, 0, none⟩ = some (.int .i64 a7) ∧ w'.cell? ⟨p7, 1, none⟩ = some (.pointer P7) ∧ w'.cell? ⟨p7 + 1, 0, none⟩ = some (.int .i64 a8) ∧ w'.cell? ⟨p7 + 1, 1, none⟩ = some (.pointer P8) ∧ Below wB.heap.size wB w') => abs_any a1 P1 k w' (V1.out.keep h.2.2.2.2.2.2.2.2).int)
                  have R6 := Lib.hid (fun w' x X x' X' (h : w'.cell? ⟨p0, 0, none⟩ = some (.int .i64 a0) ∧ w'.cell? ⟨p0, 1, none⟩ = some (.pointer P0) ∧ w'.cell? ⟨p1, 0, none⟩ = some (.int .i64 a1) ∧ w'.cell? ⟨p1, 1, none⟩ = some (.pointer P1) ∧ w'.cell? ⟨p7, 0, none⟩ = some (.int .i64 a7) ∧ w'.cell? ⟨p7, 1, none⟩ = some (.pointer P7) ∧ w'.cell? ⟨p7 + 1, 0, none⟩ = some (.int .i64 a8) ∧ w'.cell? ⟨p7 + 1, 1, none⟩ = some (.pointer P8) ∧ Below wB.heap.size wB w') (j : IsInt 0 w' (.agg #[.int .i64 x, .pointer X]) (r.natAbs : Int)) (j' : IsInt 0 w' (.agg #[.int .i64 x', .pointer X']) (k.natAbs : Int)) => show Calls Tryd.prog 22 #[.agg #[.int .i64 x, .pointer X], .agg #[.int .i64 x', .pointer X']] w' (fun e w2 => e = .returned (.int .i64 (-1)) ∧ Below w'.heap.size w' w2) by
                    have := compare_any (.agg #[.int .i64 x, .pointer X]) (.agg #[.int .i64 x', .pointer X']) _ _ w' j j'
                    rcases cmpZ_cases (r.natAbs : Int) (k.natAbs : Int) with ⟨_, e⟩ | ⟨e, _⟩ | ⟨e, _⟩
                    · rwa [e] at this
                    · have := Hlt.out; omega
                    · have := Hlt.out; omega)
                  have R7 := Lib.hid (fun w' (h : w'.cell? ⟨p0, 0, none⟩ = some (.int .i64 a0) ∧ w'.cell? ⟨p0, 1, none⟩ = some (.pointer P0) ∧ w'.cell? ⟨p1, 0, none⟩ = some (.int .i64 a1) ∧ w'.cell? ⟨p1, 1, none⟩ = some (.pointer P1) ∧ w'.cell? ⟨p7, 0, none⟩ = some (.int .i64 a7) ∧ w'.cell? ⟨p7, 1, none⟩ = some (.pointer P7) ∧ w'.cell? ⟨p7 + 1, 0, none⟩ = some (.int .i64 a8) ∧ w'.cell? ⟨p7 + 1, 1, none⟩ = some (.pointer P8) ∧ Below wB.heap.size wB w') => show Calls Tryd.prog 21 #[.agg #[.int .i64 a8, .pointer P8]] w' (fun e w2 => e = .returned (.int .i64 x) ∧ Below w'.heap.size w' w2) by rw [← Hx.out]; exact signZ_any _ r w' (V8.out.keep h.2.2.2.2.2.2.2.2).int)
                  have R8 := Lib.hid (fun w' (h : w'.cell? ⟨p0, 0, none⟩ = some (.int .i64 a0) ∧ w'.cell? ⟨p0, 1, none⟩ = some (.pointer P0) ∧ w'.cell? ⟨p1, 0, none⟩ = some (.int .i64 a1) ∧ w'.cell? ⟨p1, 1, none⟩ = some (.pointer P1) ∧ w'.cell? ⟨p7, 0, none⟩ = some (.int .i64 a7) ∧ w'.cell? ⟨p7, 1, none⟩ = some (.pointer P7) ∧ w'.cell? ⟨p7 + 1, 0, none⟩ = some (.int .i64 a8) ∧ w'.cell? ⟨p7 + 1, 1, none⟩ = some (.pointer P8) ∧ Below wB.heap.size wB w') => show Calls Tryd.prog 21 #[.agg #[.int .i64 a1, .pointer P1]] w' (fun e w2 => e = .returned (.int .i64 y) ∧ Below w'.heap.size w' w2) by rw [← Hy.out]; exact signZ_any _ k w' (V1.out.keep h.2.2.2.2.2.2.2.2).int)
                  go_wp2_with fail
                  go_region_held3 (fun w' => w'.cell? ⟨p0, 0, none⟩ = some (.int .i64 a0) ∧ w'.cell? ⟨p0, 1, none⟩ = some (.pointer P0) ∧ w'.cell? ⟨p1, 0, none⟩ = some (.int .i64 a1) ∧ w'.cell? ⟨p1, 1, none⟩ = some (.pointer P1) ∧ w'.cell? ⟨p7, 0, none⟩ = some (.int .i64 a7) ∧ w'.cell? ⟨p7, 1, none⟩ = some (.pointer P7) ∧ w'.cell? ⟨p7 + 1, 0, none⟩ = some (.int .i64 a8) ∧ w'.cell? ⟨p7 + 1, 1, none⟩ = some (.pointer P8) ∧ Below wB.heap.size wB w')
                    (first
                      | assumption
                      | exact four_start V0 V1 V7 V8 ((Below.refl _ _).drew)
                      | exact four_start V0 V1 V7 V8 (below_on (four_below (by assumption)) (by assumption)))
                    (first
                      | (go_at_call 36; refine (R1.out _ (by assumption)).mono ?_; rintro e w' ⟨x1, X1, rfl, hi1, hb⟩)
                      | (go_at_call 30; refine (R2.out _ _ _ (by assumption) hi1).mono ?_; rintro e w' ⟨x2, X2, rfl, hi2, hb⟩)
                      | (go_at_call_of 22 P0; refine (R3.out _ _ _ (by assumption) hi2).mono ?_; rintro e w' ⟨rfl, hb⟩)
                      | (go_at_call_of 35 P8; refine (R4.out _ (by assumption)).mono ?_; rintro e w' ⟨x3, X3, rfl, hi3, hb⟩)
                      | (go_at_call_of 35 P1; refine (R5.out _ (by assumption)).mono ?_; rintro e w' ⟨x4, X4, rfl, hi4, hb⟩)
                      | (go_at_call 22; refine (R6.out _ _ _ _ _ (by assumption) (hi3.keep (by assumption)) hi4).mono ?_; rintro e w' ⟨rfl, hb⟩)
                      | (go_at_call_of 21 P8; refine (R7.out _ (by assumption)).mono ?_; rintro e w' ⟨rfl, hb⟩)
                      | (go_at_call_of 21 P1; refine (R8.out _ (by assumption)).mono ?_; rintro e w' ⟨rfl, hb⟩))
                  have J3 := Lib.hid (below_on J2.out (four_below (by assumption)))
                  have e : IntKind.i64.wrap m = m := by
                    simp [IntKind.wrap, IntKind.signed, IntKind.bits]
                    omega
                  have E := Lib.hid (show decide (0 ≤ IntKind.i64.wrap m) = true by rw [e]; exact decide_eq_true f6)
                  clear e
                  go_wp2
                  go_ret
                  exact ⟨show Ending.returned (Value.bool (decide (0 ≤ IntKind.i64.wrap m))) = _ by rw [E.out], J3.out⟩
end Go.Proofs.YtegndbiglehacaaDoor
