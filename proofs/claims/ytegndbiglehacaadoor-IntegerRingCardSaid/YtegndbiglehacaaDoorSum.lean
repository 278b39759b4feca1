/- Sum of the integers of a slice. -/
import Derived.Test.YtegndbiglehacaaDoorHold
import Derived.Test.YtegndbiglehacaaDoorAddZ
namespace Go.Proofs.YtegndbiglehacaaDoor
open Go.RowKit

def psum (Z : Nat → Int) : Nat → Int
  | 0 => 0
  | k + 1 => psum Z k + Z k
def SumInv (w1 : World) (p n : Nat) (Z : Nat → Int) (v : Value) (wr : World) : Prop :=
  ∃ (k : Nat) (x : Int) (X : Option Addr), k ≤ n ∧ v = .int .i64 (k : Nat) ∧ Hold wr p x X ∧ IsInt 0 wr (.agg #[.int .i64 x, .pointer X]) (psum Z k) ∧ Below w1.heap.size w1 wr
set_option maxRecDepth 100000 in
set_option maxHeartbeats 4000000 in
theorem sum_any (g n c : Nat) (A : Nat → Int) (F : Nat → Option Addr) (Z : Nat → Int) (w : World) (hn : n < 1000) (hnc : n ≤ c) (hg : g < w.heap.size)
    (hcells : ∀ i, i < n → w.cell? ⟨g, i * 2, none⟩ = some (.int .i64 (A i)) ∧ w.cell? ⟨g, i * 2 + 1, none⟩ = some (.pointer (F i)) ∧ IsInt 0 w (.agg #[.int .i64 (A i), .pointer (F i)]) (Z i))
    (hp : ∀ i, i ≤ n → (psum Z i).natAbs < base 390) (hz : ∀ i, i < n → (Z i).natAbs < base 390) :
    Calls Tryd.prog 44 #[.slice (some ⟨g, 0, none⟩) n c] w (NewInt (psum Z n) w) := by
  have k1 := (Below.refl w.heap.size w).alloc (Nat.le_refl _) (.cells #[.int .i64 0, .pointer none] 25)
  have Hr := Lib.hid (Res.new w)
  have Hh := Lib.hid (Hold.new (w.alloc (.cells #[.int .i64 0, .pointer none] 25)) 0 none)
  simp only [World.size_alloc] at Hh
  have K1 := Lib.hid k1
  have Hc := Lib.hid hcells
  have Hp := Lib.hid hp
  have Hz := Lib.hid hz
  clear k1 hcells hp hz
  go_enter Tryd.func44, Tryd.ntmps44
  go_wp2_with fail
  go_loopw [8] (fun v wr => SumInv (w.alloc (.cells #[.int .i64 0, .pointer none] 25)) (w.heap.size + 1) n Z v wr) (fun v _ => n - (intOf v).toNat)
  case atStart => exact ⟨0, 0, none, Nat.zero_le _, rfl, Hh.out, .inl ⟨⟨by unfold psum; decide, by unfold psum; decide⟩, rfl⟩, (Below.refl _ _).alloc (Nat.le_refl _) _⟩
  case round =>
    obtain ⟨k, x, X, hk, rfl, hh, hi, hb⟩ := hrel
    have HH := Lib.hid hh
    have Hi := Lib.hid hi
    have Hb := Lib.hid hb
    have KB := Lib.hid (below_on K1.out hb)
    have hsz := hh.lt
    clear hh hi hb
    by_cases hlt : k < n
    · obtain ⟨e0, e1, e2⟩ := Hc.out k hlt
      have c0 := (KB.out.cell (p := ⟨g, k * 2, none⟩) hg).trans e0
      have c1 := (KB.out.cell (p := ⟨g, k * 2 + 1, none⟩) hg).trans e1
      have hi2 := e2.keep KB.out
      have h0 := HH.out.c0
      have h1 := HH.out.c1
      have f0 := HH.out.f0
      have f1 := HH.out.f1
      have kk := (Below.refl wr.heap.size wr).alloc (Nat.le_refl _) (.cells #[.int .i64 (A k), .pointer (F k)] 25)
      have H2 := Lib.hid (HH.out.keep kk)
      have B2 := Lib.hid (below_on Hb.out kk)
      have Hadd := Lib.hid (add_any x (A k) X (F k) _ _ _ (Hi.out.keep kk) (hi2.keep kk) (base_up (Hp.out k hk) (by decide)) (base_up (Hz.out k hlt) (by decide)))
      clear e0 e1 e2 hi2 kk
      go_wp2_with fail
      refine Hadd.out.mono ?_
      rintro e w3 ⟨y, Y, rfl, hi3, h3⟩
      have H3 := Lib.hid (H2.out.keep h3)
      have H3s := Lib.hid (H3.out.store y Y)
      have Hi3 := Lib.hid (hi3.held H3.out (.int .i64 y) (.pointer Y))
      have B3 := Lib.hid (below_stored (below_on B2.out h3) (show (w.alloc (.cells #[.int .i64 0, .pointer none] 25)).heap.size ≤ w.heap.size + 1 by simp) (.int .i64 y) (.pointer Y))
      clear h0 h1 f0 f1 h3 hi3 c0 c1
      have f0 := H3.out.f0
      have f1 := H3.out.f1
      have h0 := H3.out.c0
      have h1 := H3.out.c1
      go_wp2_with fail
      exact ⟨⟨k + 1, y, Y, hlt, by go_num, H3s.out, Hi3.out, B3.out⟩, by simp [intOf] <;> omega⟩
    · obtain rfl : k = n := by omega
      have c0 := HH.out.c0
      have c1 := HH.out.c1
      have R2 := Lib.hid (Hr.out.keep Hb.out)
      have k0 := R2.out.k0
      have k1 := R2.out.k1
      have f0 := R2.out.f0
      have f1 := R2.out.f1
      have Hi2 := Lib.hid (Hi.out.stored R2.out (.int .i64 x) (.pointer X))
      have K2 := Lib.hid (below_stored KB.out (Nat.le_refl w.heap.size) (.int .i64 x) (.pointer X))
      go_wp2
      exact bodyPost_ret (v := .agg #[.int .i64 x, .pointer X]) (by simp [results, Tryd.results44, go_sem, k0, k1]) rfl ⟨x, X, rfl, Hi2.out, K2.out⟩
set_option maxHeartbeats 4000000 in
theorem sum_nil (w : World) : Calls Tryd.prog 44 #[.slice none 0 0] w fun e w' => e = .returned (small 0) ∧ Below w.heap.size w w' := by
  go_enter Tryd.func44, Tryd.ntmps44
  go_wp2_with fail
  refine wp_loop_rounds 1 ?_
  rw [rounds_succ]
  go_wp2
  exact bodyPost_ret (v := small 0) (by simp [results, Tryd.results44, go_sem]) rfl ⟨rfl, by repeat (first | exact Below.refl _ _ | refine Below.setCell ?_ (by first | exact Nat.le_refl _ | (simp <;> omega)) _ | refine Below.alloc ?_ (by first | exact Nat.le_refl _ | (simp <;> omega)) _)⟩
end Go.Proofs.YtegndbiglehacaaDoor
