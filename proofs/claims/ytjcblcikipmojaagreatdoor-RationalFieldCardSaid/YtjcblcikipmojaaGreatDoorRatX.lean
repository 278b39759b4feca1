/- Sum of the rationals of a slice. -/
import Derived.Test.YtjcblcikipmojaaGreatDoorRatU
namespace Go.Proofs.YtjcblcikipmojaaGreatDoor
open Go.RowKit

def psumR (Z : Nat → Rat) : Nat → Rat
  | 0 => 0
  | k + 1 => psumR Z k + Z k
def RSumInv (w1 : World) (p n : Nat) (Z : Nat → Rat) (v : Value) (wr : World) : Prop :=
  ∃ (k : Nat) (x : Int) (X : Option Addr) (y : Int) (Y : Option Addr), k ≤ n ∧ v = .int .i64 (k : Nat) ∧ Cells wr p [.int .i64 x, .pointer X, .int .i64 y, .pointer Y] ∧ RatV wr x X y Y (psumR Z k) ∧ Below w1.heap.size w1 wr
set_option maxRecDepth 100000 in
set_option maxHeartbeats 4000000 in
theorem rsum_any (g n c : Nat) (A B : Nat → Int) (F G : Nat → Option Addr) (Z : Nat → Rat) (w : World) (hn : n < 1000) (hnc : n ≤ c) (hg : g < w.heap.size)
    (hcells : ∀ i, i < n → w.cell? ⟨g, i * 4, none⟩ = some (.int .i64 (A i)) ∧ w.cell? ⟨g, i * 4 + 1, none⟩ = some (.pointer (F i)) ∧ w.cell? ⟨g, i * 4 + 2, none⟩ = some (.int .i64 (B i)) ∧ w.cell? ⟨g, i * 4 + 3, none⟩ = some (.pointer (G i)) ∧ RatV w (A i) (F i) (B i) (G i) (Z i))
    (hp : ∀ i, i ≤ n → Few (psumR Z i) 900) (hz : ∀ i, i < n → Few (Z i) 900) (hgd : Good w) :
    Calls Tryz.prog 64 #[.slice (some ⟨g, 0, none⟩) n c] w (NewRat (psumR Z n) w) := by
  have k1 := (Below.refl w.heap.size w).alloc (Nat.le_refl _) (.cells #[.int .i64 0, .pointer none, .int .i64 0, .pointer none] 27)
  have Hr := Lib.hid (Cells.new w #[.int .i64 0, .pointer none, .int .i64 0, .pointer none] 27)
  have Hh := Lib.hid (Cells.new (w.alloc (.cells #[.int .i64 0, .pointer none, .int .i64 0, .pointer none] 27)) #[.int .i64 0, .pointer none, .int .i64 0, .pointer none] 27)
  simp only [World.size_alloc] at Hh
  have K1 := Lib.hid k1
  have Hc := Lib.hid hcells
  have Hp := Lib.hid hp
  have Hz := Lib.hid hz
  have Hw := Lib.hid (fun w' (hb : Below w.heap.size w w') => hgd.below hb)
  clear k1 hcells hp hz hgd
  go_enter Tryz.func64, Tryz.ntmps64
  go_wp2_with fail
  go_loopw [8] (fun v wr => RSumInv (w.alloc (.cells #[.int .i64 0, .pointer none, .int .i64 0, .pointer none] 27)) (w.heap.size + 1) n Z v wr) (fun v _ => n - (intOf v).toNat)
  case atStart => exact ⟨0, 0, none, 0, none, Nat.zero_le _, rfl, Hh.out, rat_zero0 _, (Below.refl _ _).alloc (Nat.le_refl _) _⟩
  case round =>
    obtain ⟨k, x, X, y, Y, hk, rfl, hh, hi, hb⟩ := hrel
    have HH := Lib.hid hh
    have Hi := Lib.hid hi
    have Hb := Lib.hid hb
    have KB := Lib.hid (below_on K1.out hb)
    have hsz := hh.lt
    clear hh hi hb
    by_cases hlt : k < n
    · obtain ⟨e0, e1, e2, e3, er⟩ := Hc.out k hlt
      have c0 := (KB.out.cell (p := ⟨g, k * 4, none⟩) hg).trans e0
      have c1 := (KB.out.cell (p := ⟨g, k * 4 + 1, none⟩) hg).trans e1
      have c2 := (KB.out.cell (p := ⟨g, k * 4 + 2, none⟩) hg).trans e2
      have c3 := (KB.out.cell (p := ⟨g, k * 4 + 3, none⟩) hg).trans e3
      have hi2 := er.keep KB.out
      have h0 := HH.out.c0
      have h1 := HH.out.c1
      have h2 := HH.out.c2
      have h3 := HH.out.c3
      have f0 := HH.out.fz 0
      have f1 := HH.out.fz 1
      have f2 := HH.out.fz 2
      have f3 := HH.out.fz 3
      have kk := (Below.refl wr.heap.size wr).alloc (Nat.le_refl _) (.cells #[.int .i64 (A k), .pointer (F k), .int .i64 (B k), .pointer (G k)] 27)
      have H2 := Lib.hid (HH.out.keep kk)
      have B2 := Lib.hid (below_on Hb.out kk)
      have P1 := Hp.out k hk
      have Z1 := Hz.out k hlt
      have Hadd := Lib.hid (radd_any x X y Y (A k) (F k) (B k) (G k) _ _ _ (Hi.out.keep kk) (hi2.keep kk) (P1.n47 (by decide)) (P1.d47 (by decide)) (Z1.n47 (by decide)) (Z1.d47 (by decide)) (Hw.out _ (below_on KB.out kk)))
      clear e0 e1 e2 e3 er hi2 kk P1 Z1
      go_wp2_with fail
      refine Hadd.out.mono ?_
      rintro e w3 ⟨x', X', y', Y', rfl, hi3, g3⟩
      have H3 := Lib.hid (H2.out.keep g3)
      have H3s := Lib.hid (H3.out.put4 (.int .i64 x') (.pointer X') (.int .i64 y') (.pointer Y'))
      have Hi3 := Lib.hid (hi3.wrote H3.out (by rfl) (put4_heap w3 (w.heap.size + 1) (.int .i64 x') (.pointer X') (.int .i64 y') (.pointer Y')).1 (put4_heap _ _ _ _ _ _).2)
      have B3 := Lib.hid (below_put4 (below_on B2.out g3) (show (w.alloc (.cells #[.int .i64 0, .pointer none, .int .i64 0, .pointer none] 27)).heap.size ≤ w.heap.size + 1 by simp) (.int .i64 x') (.pointer X') (.int .i64 y') (.pointer Y'))
      clear h0 h1 h2 h3 f0 f1 f2 f3 g3 hi3 c0 c1 c2 c3
      have f0 := H3.out.fz 0
      have f1 := H3.out.fz 1
      have f2 := H3.out.fz 2
      have f3 := H3.out.fz 3
      have h0 := H3.out.c0
      have h1 := H3.out.c1
      have h2 := H3.out.c2
      have h3 := H3.out.c3
      go_wp2_with fail
      exact ⟨⟨k + 1, x', X', y', Y', hlt, by go_num, H3s.out, Hi3.out, B3.out⟩, by simp [intOf] <;> omega⟩
    · obtain rfl : k = n := by omega
      have c0 := HH.out.c0
      have c1 := HH.out.c1
      have c2 := HH.out.c2
      have c3 := HH.out.c3
      have R2 := Lib.hid (Hr.out.keep Hb.out)
      have k0 := R2.out.c0
      have k1 := R2.out.c1
      have k2 := R2.out.c2
      have k3 := R2.out.c3
      have f0 := R2.out.fz 0
      have f1 := R2.out.fz 1
      have f2 := R2.out.fz 2
      have f3 := R2.out.fz 3
      have Hi2 := Lib.hid (Hi.out.wrote R2.out (by rfl) (put4_heap wr w.heap.size (.int .i64 x) (.pointer X) (.int .i64 y) (.pointer Y)).1 (put4_heap _ _ _ _ _ _).2)
      have K2 := Lib.hid (below_put4 KB.out (Nat.le_refl w.heap.size) (.int .i64 x) (.pointer X) (.int .i64 y) (.pointer Y))
      go_wp2
      exact bodyPost_ret (v := .agg #[.int .i64 x, .pointer X, .int .i64 y, .pointer Y]) (by simp [results, Tryz.results64, go_sem, k0, k1, k2, k3]) rfl ⟨x, X, y, Y, rfl, Hi2.out, K2.out⟩
set_option maxHeartbeats 4000000 in
theorem rsum_nil (w : World) : Calls Tryz.prog 64 #[.slice none 0 0] w fun e w' => e = .returned (.agg #[.int .i64 0, .pointer none, .int .i64 0, .pointer none]) ∧ Below w.heap.size w w' := by
  go_enter Tryz.func64, Tryz.ntmps64
  go_wp2_with fail
  refine wp_loop_rounds 1 ?_
  rw [rounds_succ]
  go_wp2
  exact bodyPost_ret (v := .agg #[.int .i64 0, .pointer none, .int .i64 0, .pointer none]) (by simp [results, Tryz.results64, go_sem]) rfl ⟨rfl, by repeat (first | exact Below.refl _ _ | refine Below.setCell ?_ (by first | exact Nat.le_refl _ | (simp <;> omega)) _ | refine Below.alloc ?_ (by first | exact Nat.le_refl _ | (simp <;> omega)) _)⟩
set_option maxRecDepth 100000 in
set_option maxHeartbeats 4000000 in
theorem same_any (a : Int) (P : Option Addr) (b : Int) (Q : Option Addr) (c : Int) (U : Option Addr) (d : Int) (V : Option Addr) {q : Rat} {k : Nat} (w : World) (h : RatV w a P b Q q) (h' : RatV w c U d V q) (hf : Few q k) (hk : k ≤ 900) (hg : Good w) :
    Calls Tryz.prog 62 #[.agg #[.int .i64 a, .pointer P, .int .i64 b, .pointer Q], .agg #[.int .i64 c, .pointer U, .int .i64 d, .pointer V]] w fun e w' => e = .returned (.bool true) ∧ Below w.heap.size w w' := by
  have kk := ((Below.refl w.heap.size w).alloc (Nat.le_refl _) (.cells #[.int .i64 a, .pointer P, .int .i64 b, .pointer Q] 27)).alloc (by simp) (.cells #[.int .i64 c, .pointer U, .int .i64 d, .pointer V] 27)
  have V0 := Lib.hid ((box_rat w a P b Q).keep ((Below.refl _ _).alloc (Nat.le_refl _) (.cells #[.int .i64 c, .pointer U, .int .i64 d, .pointer V] 27)))
  have V1 := Lib.hid (box_rat (w.alloc (.cells #[.int .i64 a, .pointer P, .int .i64 b, .pointer Q] 27)) c U d V)
  simp only [World.size_alloc] at V1
  have HN1 := Lib.hid (fun w' (hb : Below w.heap.size w w') => number_any a P b Q q w' (h.keep hb) (Nat.lt_of_lt_of_le hf.n (ten_le (by omega))) (Nat.lt_of_lt_of_le hf.d (ten_le (by omega))) (hg.below hb))
  have HN2 := Lib.hid (fun w' (hb : Below w.heap.size w w') => number_any c U d V q w' (h'.keep hb) (Nat.lt_of_lt_of_le hf.n (ten_le (by omega))) (Nat.lt_of_lt_of_le hf.d (ten_le (by omega))) (hg.below hb))
  have HC := Lib.hid (fun w' (hb : Below w.heap.size w w') => rcmp_any a P b Q c U d V q q w' (h.keep hb) (h'.keep hb) (hf.n47 hk) (hf.d47 hk) (hf.n47 hk) (hf.d47 hk))
  rw [cmpR_self] at HC
  generalize ratTxt q = X at HN1 HN2
  obtain ⟨wm, hwm⟩ : ∃ u, (w.alloc (.cells #[.int .i64 a, .pointer P, .int .i64 b, .pointer Q] 27)).alloc (.cells #[.int .i64 c, .pointer U, .int .i64 d, .pointer V] 27) = u := ⟨_, rfl⟩
  rw [hwm] at kk V0 V1
  have K := Lib.hid kk
  clear kk h h' hf hk hg
  have HS := Lib.hid (fun w' (hb : Below wm.heap.size wm w') => (⟨⟨(V0.out.keep hb).c0, (V0.out.keep hb).c1, (V0.out.keep hb).c2, (V0.out.keep hb).c3, (V1.out.keep hb).c0, (V1.out.keep hb).c1, (V1.out.keep hb).c2, (V1.out.keep hb).c3⟩, hb⟩ : (w'.cell? ⟨w.heap.size, 0, none⟩ = some (.int .i64 a) ∧ w'.cell? ⟨w.heap.size, 1, none⟩ = some (.pointer P) ∧ w'.cell? ⟨w.heap.size, 2, none⟩ = some (.int .i64 b) ∧ w'.cell? ⟨w.heap.size, 3, none⟩ = some (.pointer Q) ∧ w'.cell? ⟨w.heap.size + 1, 0, none⟩ = some (.int .i64 c) ∧ w'.cell? ⟨w.heap.size + 1, 1, none⟩ = some (.pointer U) ∧ w'.cell? ⟨w.heap.size + 1, 2, none⟩ = some (.int .i64 d) ∧ w'.cell? ⟨w.heap.size + 1, 3, none⟩ = some (.pointer V)) ∧ Below wm.heap.size wm w'))
  have HB := Lib.hid (fun w' (h : (w'.cell? ⟨w.heap.size, 0, none⟩ = some (.int .i64 a) ∧ w'.cell? ⟨w.heap.size, 1, none⟩ = some (.pointer P) ∧ w'.cell? ⟨w.heap.size, 2, none⟩ = some (.int .i64 b) ∧ w'.cell? ⟨w.heap.size, 3, none⟩ = some (.pointer Q) ∧ w'.cell? ⟨w.heap.size + 1, 0, none⟩ = some (.int .i64 c) ∧ w'.cell? ⟨w.heap.size + 1, 1, none⟩ = some (.pointer U) ∧ w'.cell? ⟨w.heap.size + 1, 2, none⟩ = some (.int .i64 d) ∧ w'.cell? ⟨w.heap.size + 1, 3, none⟩ = some (.pointer V)) ∧ Below wm.heap.size wm w') => h.2)
  have HK := Lib.hid (fun w' wx (h : (w'.cell? ⟨w.heap.size, 0, none⟩ = some (.int .i64 a) ∧ w'.cell? ⟨w.heap.size, 1, none⟩ = some (.pointer P) ∧ w'.cell? ⟨w.heap.size, 2, none⟩ = some (.int .i64 b) ∧ w'.cell? ⟨w.heap.size, 3, none⟩ = some (.pointer Q) ∧ w'.cell? ⟨w.heap.size + 1, 0, none⟩ = some (.int .i64 c) ∧ w'.cell? ⟨w.heap.size + 1, 1, none⟩ = some (.pointer U) ∧ w'.cell? ⟨w.heap.size + 1, 2, none⟩ = some (.int .i64 d) ∧ w'.cell? ⟨w.heap.size + 1, 3, none⟩ = some (.pointer V)) ∧ Below wm.heap.size wm w') (hb : Below w'.heap.size w' wx) => HS.out _ (below_on h.2 hb))
  go_enter Tryz.func62, Tryz.ntmps62
  go_upto_region 1 with fail
  try simp only [hwm]
  clear hwm
  go_region_held3 (fun w' => (w'.cell? ⟨w.heap.size, 0, none⟩ = some (.int .i64 a) ∧ w'.cell? ⟨w.heap.size, 1, none⟩ = some (.pointer P) ∧ w'.cell? ⟨w.heap.size, 2, none⟩ = some (.int .i64 b) ∧ w'.cell? ⟨w.heap.size, 3, none⟩ = some (.pointer Q) ∧ w'.cell? ⟨w.heap.size + 1, 0, none⟩ = some (.int .i64 c) ∧ w'.cell? ⟨w.heap.size + 1, 1, none⟩ = some (.pointer U) ∧ w'.cell? ⟨w.heap.size + 1, 2, none⟩ = some (.int .i64 d) ∧ w'.cell? ⟨w.heap.size + 1, 3, none⟩ = some (.pointer V)) ∧ Below wm.heap.size wm w')
    (first
      | assumption
      | exact HS.out _ (Below.refl _ _).drew
      | exact HK.out _ _ (by assumption) (by assumption)
      | exact HK.out _ _ (by assumption) ((Below.refl _ _).alloc (Nat.le_refl _) _))
    (first
      | (go_at_call_of 63 P; refine (HN1.out _ (below_on K.out (HB.out _ (by assumption)))).mono ?_; rintro e w' ⟨rfl, hb⟩)
      | (go_at_call_of 63 U; refine (HN2.out _ (below_on K.out (HB.out _ (by assumption)))).mono ?_; rintro e w' ⟨rfl, hb⟩)
      | (go_at_call 49; refine (HC.out _ (below_on K.out (HB.out _ (by assumption)))).mono ?_; rintro e w' ⟨rfl, hb⟩))
  go_split_ands
  have hw3 : Below wm.heap.size wm w' := by assumption
  have J := Lib.hid (below_on K.out hw3)
  go_wp2
  go_ret
  exact ⟨rfl, J.out⟩
/-- Three rationals, as one. -/
def three (p q r : Rat) : Nat → Rat
  | 0 => p
  | 1 => q
  | _ => r
def threeI (a b c : Int) : Nat → Int
  | 0 => a
  | 1 => b
  | _ => c
def threeA (a b c : Option Addr) : Nat → Option Addr
  | 0 => a
  | 1 => b
  | _ => c
theorem psum_three (p q r : Rat) : psumR (three p q r) 3 = p + q + r := by
  show 0 + p + q + r = _
  rw [Rat.zero_add]
theorem psum_one (p q r : Rat) : psumR (three p q r) 1 = p := by
  show 0 + p = _
  rw [Rat.zero_add]
set_option maxRecDepth 100000 in
set_option maxHeartbeats 4000000 in
theorem rsum_three (a : Int) (P : Option Addr) (b : Int) (Q : Option Addr) (c : Int) (U : Option Addr) (d : Int) (V : Option Addr) (f : Int) (M : Option Addr) (g : Int) (N : Option Addr) {p q r : Rat} (w : World) (h : RatV (w.alloc (.cells #[.int .i64 a, .pointer P, .int .i64 b, .pointer Q, .int .i64 c, .pointer U, .int .i64 d, .pointer V, .int .i64 f, .pointer M, .int .i64 g, .pointer N] 27)) a P b Q p) (h' : RatV (w.alloc (.cells #[.int .i64 a, .pointer P, .int .i64 b, .pointer Q, .int .i64 c, .pointer U, .int .i64 d, .pointer V, .int .i64 f, .pointer M, .int .i64 g, .pointer N] 27)) c U d V q) (h2 : RatV (w.alloc (.cells #[.int .i64 a, .pointer P, .int .i64 b, .pointer Q, .int .i64 c, .pointer U, .int .i64 d, .pointer V, .int .i64 f, .pointer M, .int .i64 g, .pointer N] 27)) f M g N r) (hp : Few p 40) (hq : Few q 40) (hr : Few r 40) (hg : Good (w.alloc (.cells #[.int .i64 a, .pointer P, .int .i64 b, .pointer Q, .int .i64 c, .pointer U, .int .i64 d, .pointer V, .int .i64 f, .pointer M, .int .i64 g, .pointer N] 27))) :
    Calls Tryz.prog 64 #[.slice (some ⟨w.heap.size, 0, none⟩) 3 3] (w.alloc (.cells #[.int .i64 a, .pointer P, .int .i64 b, .pointer Q, .int .i64 c, .pointer U, .int .i64 d, .pointer V, .int .i64 f, .pointer M, .int .i64 g, .pointer N] 27)) (NewRat (p + q + r) (w.alloc (.cells #[.int .i64 a, .pointer P, .int .i64 b, .pointer Q, .int .i64 c, .pointer U, .int .i64 d, .pointer V, .int .i64 f, .pointer M, .int .i64 g, .pointer N] 27))) := by
  have h0 := rsum_any w.heap.size 3 3 (threeI a c f) (threeI b d g) (threeA P U M) (threeA Q V N) (three p q r) (w.alloc (.cells #[.int .i64 a, .pointer P, .int .i64 b, .pointer Q, .int .i64 c, .pointer U, .int .i64 d, .pointer V, .int .i64 f, .pointer M, .int .i64 g, .pointer N] 27)) (by decide) (by decide) (by simp) (fun i hi => by
    match i, hi with
    | 0, _ => exact ⟨by simp [go_sem, threeI], by simp [go_sem, threeA], by simp [go_sem, threeI], by simp [go_sem, threeA], h⟩
    | 1, _ => exact ⟨by simp [go_sem, threeI], by simp [go_sem, threeA], by simp [go_sem, threeI], by simp [go_sem, threeA], h'⟩
    | 2, _ => exact ⟨by simp [go_sem, threeI], by simp [go_sem, threeA], by simp [go_sem, threeI], by simp [go_sem, threeA], h2⟩) (fun i hi => by
    match i, hi with
    | 0, _ => exact ⟨by show 0 < ten 900; exact ten_pos _, by show 1 < ten 900; decide +kernel⟩
    | 1, _ => rw [psum_one]; exact hp.up (by decide)
    | 2, _ => show Few (0 + p + q) 900; rw [Rat.zero_add]; exact (hp.add hq).up (by decide)
    | 3, _ => rw [psum_three]; exact ((hp.add hq).add hr).up (by decide)) (fun i hi => by
    match i, hi with
    | 0, _ => exact hp.up (by decide)
    | 1, _ => exact hq.up (by decide)
    | 2, _ => exact hr.up (by decide)) hg
  rw [psum_three] at h0
  exact h0
set_option maxRecDepth 100000 in
set_option maxHeartbeats 4000000 in
theorem rsum_one (a : Int) (P : Option Addr) (b : Int) (Q : Option Addr) {p : Rat} (w : World) (h : RatV (w.alloc (.cells #[.int .i64 a, .pointer P, .int .i64 b, .pointer Q] 27)) a P b Q p) (hp : Few p 40) (hg : Good (w.alloc (.cells #[.int .i64 a, .pointer P, .int .i64 b, .pointer Q] 27))) :
    Calls Tryz.prog 64 #[.slice (some ⟨w.heap.size, 0, none⟩) 1 1] (w.alloc (.cells #[.int .i64 a, .pointer P, .int .i64 b, .pointer Q] 27)) (NewRat p (w.alloc (.cells #[.int .i64 a, .pointer P, .int .i64 b, .pointer Q] 27))) := by
  have h0 := rsum_any w.heap.size 1 1 (threeI a a a) (threeI b b b) (threeA P P P) (threeA Q Q Q) (three p p p) (w.alloc (.cells #[.int .i64 a, .pointer P, .int .i64 b, .pointer Q] 27)) (by decide) (by decide) (by simp) (fun i hi => by
    match i, hi with
    | 0, _ => exact ⟨by simp [go_sem, threeI], by simp [go_sem, threeA], by simp [go_sem, threeI], by simp [go_sem, threeA], h⟩) (fun i hi => by
    match i, hi with
    | 0, _ => exact ⟨by show 0 < ten 900; exact ten_pos _, by show 1 < ten 900; decide +kernel⟩
    | 1, _ => rw [psum_one]; exact hp.up (by decide)) (fun i hi => by
    match i, hi with
    | 0, _ => exact hp.up (by decide)) hg
  rw [psum_one] at h0
  exact h0
end Go.Proofs.YtjcblcikipmojaaGreatDoor
