/- Gcd, Power, Bits, Compare on small ints: what the examples of the chapter need. -/
import Derived.Test.YtegndbiglehacaaDoorInt3
namespace Go.Proofs.YtegndbiglehacaaDoor
open Go.RowKit

theorem gcd_word (a b : Nat) (w : World) (ha : a < 18446744073709551616) (hb : b < 18446744073709551616) (ht : TabTz w) :
    Calls Tryd.prog 65 #[.int .u64 a, .int .u64 b] w fun e w' => e = .returned (.int .u64 (Nat.gcd a b : Nat)) ∧ w' = w := by
  by_cases h : a = 0 ∨ b = 0
  · exact gcdDigit_zero a b w ha hb h
  · exact gcdDigit_any a b w ha hb (fun e => h (.inl e)) (fun e => h (.inr e)) ht

theorem gcd_word_at (a b g : Nat) (w : World) (ha : a < 18446744073709551616) (hb : b < 18446744073709551616) (hg : Nat.gcd a b = g) (ht : TabTz w) :
    Calls Tryd.prog 65 #[.int .u64 a, .int .u64 b] w fun e w' => e = .returned (.int .u64 (g : Nat)) ∧ w' = w := by
  subst hg; exact gcd_word a b w ha hb ht

theorem tz_below {B : Nat} {w w' : World} (ht : TabTz w) (hb : Below B w w') (hB : Tryd.lays7n29_ren.g 1 < B) : TabTz w' := fun j hj => by
  rw [← ht j hj]; exact hb.cell (p := ⟨_, j, none⟩) hB
theorem gz : Tryd.lays7n29_ren.g 1 = 0 := rfl

set_option maxHeartbeats 1000000 in
theorem gcd_small (a b : Int) (w : World) (ha : I64 a) (hb : I64 b) (g : Nat) (hg : Nat.gcd a.natAbs b.natAbs = g) (hg1 : g ≤ 9223372036854775807) (ht : TabTz w) (hw : 0 < w.heap.size) :
    Calls Tryd.prog 40 #[small a, small b] w fun e w' => e = .returned (small g) ∧ Below w.heap.size w w' := by
  have hg2 : (g : Int) ≤ 9223372036854775807 := by omega
  have Hg := Lib.hid hg
  have Ht : ∀ w', Below w.heap.size w w' → TabTz w' := fun w' h => tz_below ht h hw
  have Hx := Lib.hid Ht
  clear hg ht Ht
  go_enter Tryd.func40, Tryd.ntmps40
  go_wp2_with fail
  go_quiet ((first | (go_at_call 61; exact Calls.quiet_of_same (magnitude_any _ _ (by assumption))) | (go_at_call 65; exact Calls.quiet_of_same (gcd_word_at _ _ g _ (abs_lt ha) (abs_lt hb) Hg.out (Hx.out _ (by repeat (first | exact Below.refl _ _ | refine below_drewN ?_ _ | refine Below.alloc ?_ (by first | exact Nat.le_refl _ | (simp <;> omega)) _)))))))
  go_wp2
  exact bodyPost_ret (v := small g) (by simp [results, Tryd.results40, go_sem]) rfl ⟨rfl, by repeat (first | exact Below.refl _ _ | refine Below.setCell ?_ (by first | exact Nat.le_refl _ | (simp <;> omega)) _ | refine below_drewN ?_ _ | refine Below.alloc ?_ (by first | exact Nat.le_refl _ | (simp <;> omega)) _)⟩

/-- The states of Power(-10, 3) at the head of its loop: the bit, and the power so far. -/
def powStates : List (Int × Int) := [(64, 1), (32, 1), (16, 1), (8, 1), (4, 1), (2, 1), (1, -10), (0, -1000)]
def PowInv (w1 : World) (v : Value) (wr : World) : Prop := ∃ b p : Int, (b, p) ∈ powStates ∧ v = .int .i64 b ∧ wr.cell? ⟨w1.heap.size, 0, none⟩ = some (.int .i64 p) ∧ wr.cell? ⟨w1.heap.size, 1, none⟩ = some (.pointer none) ∧
  wr.frozen? ⟨w1.heap.size, 0, none⟩ = false ∧ wr.frozen? ⟨w1.heap.size, 1, none⟩ = false ∧ Below w1.heap.size w1 wr ∧ w1.heap.size + 1 ≤ wr.heap.size

theorem mul_at (a b c : Int) (w : World) (ha : I64 a) (hb : I64 b) (hab : (a.natAbs * b.natAbs) ≤ 9223372036854775807) (hc : a * b = c) :
    Calls Tryd.prog 36 #[small a, small b] w fun e w' => e = .returned (small c) ∧ Below w.heap.size w w' := by
  subst hc; exact mul_small a b w ha hb hab
theorem i64_lit {n : Int} (h : decide (-1000000 ≤ n) && decide (n ≤ 1000000)) : I64 n := by
  simp at h; exact ⟨by omega, by omega⟩

theorem pow_store {w1 wx : World} {b p : Int} {x0 x1 : Value} (hm : (b, p) ∈ powStates) (h0 : wx.cell? ⟨w1.heap.size, 0, none⟩ = some x0) (h1 : wx.cell? ⟨w1.heap.size, 1, none⟩ = some x1)
    (f0 : wx.frozen? ⟨w1.heap.size, 0, none⟩ = false) (f1 : wx.frozen? ⟨w1.heap.size, 1, none⟩ = false) (hk : Below w1.heap.size w1 wx) (hs : w1.heap.size < wx.heap.size) :
    PowInv w1 (.int .i64 b) ((wx.setCell ⟨w1.heap.size, 0, none⟩ (.int .i64 p)).setCell ⟨w1.heap.size, 1, none⟩ (.pointer none)) :=
  ⟨b, p, hm, rfl, by simp [go_sem, h0], by simp [go_sem, h1], by rw [World.frozen?_setCell, World.frozen?_setCell]; exact f0, by rw [World.frozen?_setCell, World.frozen?_setCell]; exact f1, (hk.setCell (Nat.le_refl _) _).setCell (Nat.le_refl _) _, by simp; omega⟩

set_option maxHeartbeats 4000000 in
theorem power_known (w : World) :
    Calls Tryd.prog 42 #[small (-10), .int .i64 3] w fun e w' => e = .returned (.tuple #[small (-1000), .int .i64 0]) ∧ Below w.heap.size w w' := by
  go_enter Tryd.func42, Tryd.ntmps42
  go_wp2_with fail
  refine (from_any _ _).mono ?_
  rintro e w1 ⟨rfl, hb⟩
  obtain ⟨hc, hf⟩ := bcell hb
  have hz : w.heap.size + 2 ≤ w1.heap.size := by have := hb.size; simp at this; omega
  have hq : Below w.heap.size w w1 := by
    refine Below.trans ?_ (hb.mono (by simp; omega))
    repeat (first | exact Below.refl _ _ | refine Below.alloc ?_ (by first | exact Nat.le_refl _ | (simp <;> omega)) _)
  have Hq := Lib.hid hq
  clear hq hb
  go_wp2_with fail
  go_loopw [7] (fun v wr => PowInv w1 v wr) (fun v _ => (intOf v).toNat)
  case atStart =>
    refine ⟨64, 1, by decide, rfl, by simp, by simp, by simp, by simp, (Below.refl _ _).alloc (Nat.le_refl _) _, by simp⟩
  case round =>
    obtain ⟨b, p, hm, rfl, h0, h1, f0, f1, hk, hs⟩ := hrel
    simp only [powStates, List.mem_cons, Prod.mk.injEq, List.not_mem_nil, or_false] at hm
    have c0 : wr.cell? ⟨w.heap.size, 0, none⟩ = some (.int .i64 (-10)) := by rw [hk.cell (p := ⟨w.heap.size, 0, none⟩) (by simp; omega), hc _ _ (by simp; try omega)]; simp
    have c1 : wr.cell? ⟨w.heap.size, 1, none⟩ = some (.pointer none) := by rw [hk.cell (p := ⟨w.heap.size, 1, none⟩) (by simp; omega), hc _ _ (by simp; try omega)]; simp
    have c2 : wr.cell? ⟨w.heap.size + 1, 0, none⟩ = some (.int .i64 0) := by rw [hk.cell (p := ⟨w.heap.size + 1, 0, none⟩) (by simp; omega), hc _ _ (by simp; try omega)]; simp
    have c3 : wr.cell? ⟨w.heap.size + 1, 1, none⟩ = some (.pointer none) := by rw [hk.cell (p := ⟨w.heap.size + 1, 1, none⟩) (by simp; omega), hc _ _ (by simp; try omega)]; simp
    have f2 : wr.frozen? ⟨w.heap.size + 1, 0, none⟩ = false := by rw [hk.frozen (p := ⟨w.heap.size + 1, 0, none⟩) (by simp; omega), hf _ _ (by simp; try omega)]; simp
    have f3 : wr.frozen? ⟨w.heap.size + 1, 1, none⟩ = false := by rw [hk.frozen (p := ⟨w.heap.size + 1, 1, none⟩) (by simp; omega), hf _ _ (by simp; try omega)]; simp
    have Hk := Lib.hid hk
    clear hc hf hk
    rcases hm with ⟨rfl, rfl⟩ | ⟨rfl, rfl⟩ | ⟨rfl, rfl⟩ | ⟨rfl, rfl⟩ | ⟨rfl, rfl⟩ | ⟨rfl, rfl⟩ | ⟨rfl, rfl⟩ | ⟨rfl, rfl⟩
    · have hb0 : (bits BinOp.and IntKind.i64 3 64 != 0) = false := by decide
      go_wp2_with fail
      refine (mul_at 1 1 1 _ (i64_lit (by decide)) (i64_lit (by decide)) (by decide) (by decide)).mono ?_
      rintro e wm ⟨rfl, hbm⟩
      obtain ⟨hc2, hf2⟩ := bcell hbm
      have hs2 : w1.heap.size < wr.heap.size := by omega
      go_wp2_with fail
      exact ⟨pow_store (by decide) (by rw [hc2 _ _ hs2]; exact h0) (by rw [hc2 _ _ hs2]; exact h1) (by rw [hf2 _ _ hs2]; exact f0) (by rw [hf2 _ _ hs2]; exact f1) (Hk.out.trans (hbm.mono (by omega))) (by have := hbm.size; omega), by decide⟩
    · have hb0 : (bits BinOp.and IntKind.i64 3 32 != 0) = false := by decide
      go_wp2_with fail
      refine (mul_at 1 1 1 _ (i64_lit (by decide)) (i64_lit (by decide)) (by decide) (by decide)).mono ?_
      rintro e wm ⟨rfl, hbm⟩
      obtain ⟨hc2, hf2⟩ := bcell hbm
      have hs2 : w1.heap.size < wr.heap.size := by omega
      go_wp2_with fail
      exact ⟨pow_store (by decide) (by rw [hc2 _ _ hs2]; exact h0) (by rw [hc2 _ _ hs2]; exact h1) (by rw [hf2 _ _ hs2]; exact f0) (by rw [hf2 _ _ hs2]; exact f1) (Hk.out.trans (hbm.mono (by omega))) (by have := hbm.size; omega), by decide⟩
    · have hb0 : (bits BinOp.and IntKind.i64 3 16 != 0) = false := by decide
      go_wp2_with fail
      refine (mul_at 1 1 1 _ (i64_lit (by decide)) (i64_lit (by decide)) (by decide) (by decide)).mono ?_
      rintro e wm ⟨rfl, hbm⟩
      obtain ⟨hc2, hf2⟩ := bcell hbm
      have hs2 : w1.heap.size < wr.heap.size := by omega
      go_wp2_with fail
      exact ⟨pow_store (by decide) (by rw [hc2 _ _ hs2]; exact h0) (by rw [hc2 _ _ hs2]; exact h1) (by rw [hf2 _ _ hs2]; exact f0) (by rw [hf2 _ _ hs2]; exact f1) (Hk.out.trans (hbm.mono (by omega))) (by have := hbm.size; omega), by decide⟩
    · have hb0 : (bits BinOp.and IntKind.i64 3 8 != 0) = false := by decide
      go_wp2_with fail
      refine (mul_at 1 1 1 _ (i64_lit (by decide)) (i64_lit (by decide)) (by decide) (by decide)).mono ?_
      rintro e wm ⟨rfl, hbm⟩
      obtain ⟨hc2, hf2⟩ := bcell hbm
      have hs2 : w1.heap.size < wr.heap.size := by omega
      go_wp2_with fail
      exact ⟨pow_store (by decide) (by rw [hc2 _ _ hs2]; exact h0) (by rw [hc2 _ _ hs2]; exact h1) (by rw [hf2 _ _ hs2]; exact f0) (by rw [hf2 _ _ hs2]; exact f1) (Hk.out.trans (hbm.mono (by omega))) (by have := hbm.size; omega), by decide⟩
    · have hb0 : (bits BinOp.and IntKind.i64 3 4 != 0) = false := by decide
      go_wp2_with fail
      refine (mul_at 1 1 1 _ (i64_lit (by decide)) (i64_lit (by decide)) (by decide) (by decide)).mono ?_
      rintro e wm ⟨rfl, hbm⟩
      obtain ⟨hc2, hf2⟩ := bcell hbm
      have hs2 : w1.heap.size < wr.heap.size := by omega
      go_wp2_with fail
      exact ⟨pow_store (by decide) (by rw [hc2 _ _ hs2]; exact h0) (by rw [hc2 _ _ hs2]; exact h1) (by rw [hf2 _ _ hs2]; exact f0) (by rw [hf2 _ _ hs2]; exact f1) (Hk.out.trans (hbm.mono (by omega))) (by have := hbm.size; omega), by decide⟩
    · have hb0 : (bits BinOp.and IntKind.i64 3 2 != 0) = true := by decide
      go_wp2_with fail
      refine (mul_at (1) (1) (1) _ (i64_lit (by decide)) (i64_lit (by decide)) (by decide) (by decide)).mono ?_
      rintro e wm ⟨rfl, hbm⟩
      obtain ⟨hc2, hf2⟩ := bcell hbm
      have hs2 : w1.heap.size < wr.heap.size := by omega
      have hs3 : w.heap.size < wr.heap.size := by omega
      have hs4 : wr.heap.size ≤ wm.heap.size := hbm.size
      go_wp2_with fail
      refine (mul_at (1) (-10) (-10) _ (i64_lit (by decide)) (i64_lit (by decide)) (by decide) (by decide)).mono ?_
      rintro e wn ⟨rfl, hbn⟩
      obtain ⟨hc3, hf3⟩ := bcell hbn
      have z0 : wn.cell? ⟨w1.heap.size, 0, none⟩ = some (.int .i64 1) := by rw [hc3 _ _ (by simp; omega)]; simp [go_sem, hc2, hs2, h0]
      have z1 : wn.cell? ⟨w1.heap.size, 1, none⟩ = some (.pointer none) := by rw [hc3 _ _ (by simp; omega)]; simp [go_sem, hc2, hs2, h1]
      have y0 : wn.frozen? ⟨w1.heap.size, 0, none⟩ = false := by rw [hf3 _ _ (by simp; omega)]; rw [World.frozen?_setCell, World.frozen?_setCell, hf2 _ _ hs2]; assumption
      have y1 : wn.frozen? ⟨w1.heap.size, 1, none⟩ = false := by rw [hf3 _ _ (by simp; omega)]; rw [World.frozen?_setCell, World.frozen?_setCell, hf2 _ _ hs2]; assumption
      have hs5 : w1.heap.size < wn.heap.size := by have := hbn.size; simp at this; omega
      have hk5 : Below w1.heap.size w1 wn := by
        refine Below.trans ?_ (hbn.mono (by simp; omega))
        refine Below.setCell (Below.setCell ?_ (by simp) _) (by simp) _
        exact Hk.out.trans (hbm.mono (by omega))
      have Hk5 := Lib.hid hk5
      clear hk5 hc3 hf3 hbn hc2 hf2
      go_wp2_with fail
      exact ⟨pow_store (by decide) z0 z1 y0 y1 Hk5.out hs5, by decide⟩
    · have hb0 : (bits BinOp.and IntKind.i64 3 1 != 0) = true := by decide
      go_wp2_with fail
      refine (mul_at (-10) (-10) (100) _ (i64_lit (by decide)) (i64_lit (by decide)) (by decide) (by decide)).mono ?_
      rintro e wm ⟨rfl, hbm⟩
      obtain ⟨hc2, hf2⟩ := bcell hbm
      have hs2 : w1.heap.size < wr.heap.size := by omega
      have hs3 : w.heap.size < wr.heap.size := by omega
      have hs4 : wr.heap.size ≤ wm.heap.size := hbm.size
      go_wp2_with fail
      refine (mul_at (100) (-10) (-1000) _ (i64_lit (by decide)) (i64_lit (by decide)) (by decide) (by decide)).mono ?_
      rintro e wn ⟨rfl, hbn⟩
      obtain ⟨hc3, hf3⟩ := bcell hbn
      have z0 : wn.cell? ⟨w1.heap.size, 0, none⟩ = some (.int .i64 100) := by rw [hc3 _ _ (by simp; omega)]; simp [go_sem, hc2, hs2, h0]
      have z1 : wn.cell? ⟨w1.heap.size, 1, none⟩ = some (.pointer none) := by rw [hc3 _ _ (by simp; omega)]; simp [go_sem, hc2, hs2, h1]
      have y0 : wn.frozen? ⟨w1.heap.size, 0, none⟩ = false := by rw [hf3 _ _ (by simp; omega)]; rw [World.frozen?_setCell, World.frozen?_setCell, hf2 _ _ hs2]; assumption
      have y1 : wn.frozen? ⟨w1.heap.size, 1, none⟩ = false := by rw [hf3 _ _ (by simp; omega)]; rw [World.frozen?_setCell, World.frozen?_setCell, hf2 _ _ hs2]; assumption
      have hs5 : w1.heap.size < wn.heap.size := by have := hbn.size; simp at this; omega
      have hk5 : Below w1.heap.size w1 wn := by
        refine Below.trans ?_ (hbn.mono (by simp; omega))
        refine Below.setCell (Below.setCell ?_ (by simp) _) (by simp) _
        exact Hk.out.trans (hbm.mono (by omega))
      have Hk5 := Lib.hid hk5
      clear hk5 hc3 hf3 hbn hc2 hf2
      go_wp2_with fail
      exact ⟨pow_store (by decide) z0 z1 y0 y1 Hk5.out hs5, by decide⟩
    · go_wp2
      refine bodyPost_ret (v := .tuple #[small (-1000), .int .i64 0]) ?_ rfl ⟨rfl, ?_⟩
      · simp [results, Tryd.results42, go_sem, c2, c3]
      · exact Below.setCell (Below.setCell (Hq.out.trans (Hk.out.mono (by omega))) (by simp) _) (by simp) _
end Go.Proofs.YtegndbiglehacaaDoor
