/- Power of any integer. -/
import Derived.Test.YtegndbiglehacaaDoorHold
import Derived.Test.YtegndbiglehacaaDoorPow
namespace Go.Proofs.YtegndbiglehacaaDoor
open Go.RowKit

theorem pow_base {z : Int} (hz : z.natAbs < ten 20) {n : Nat} (hn : n ≤ 32) : (z ^ n).natAbs < base 34 := by
  rw [ipow_abs]
  have h1 : z.natAbs ^ n ≤ (ten 20) ^ n := Nat.pow_le_pow_left (by omega) n
  have h2 : (ten 20) ^ n ≤ (ten 20) ^ 32 := Nat.pow_le_pow_right (ten_pos 20) hn
  exact Nat.lt_of_le_of_lt (Nat.le_trans h1 h2) (by decide +kernel)
theorem pow_base2 {z : Int} (hz : z.natAbs < ten 20) {n : Nat} (hn : n ≤ 64) : (z ^ n).natAbs < base 68 := by
  rw [ipow_abs]
  have h1 : z.natAbs ^ n ≤ (ten 20) ^ n := Nat.pow_le_pow_left (by omega) n
  have h2 : (ten 20) ^ n ≤ (ten 20) ^ 64 := Nat.pow_le_pow_right (ten_pos 20) hn
  exact Nat.lt_of_le_of_lt (Nat.le_trans h1 h2) (by decide +kernel)
/-- The loop's states: the bit, and the exponent so far. -/
def PowSt (n b m : Nat) : Prop := (b ∈ [64, 32, 16, 8, 4, 2, 1] ∧ m = n / (2 * b)) ∨ (b = 0 ∧ m = n)
theorem PowSt.step {n b m : Nat} (h : PowSt n b m) (hb : 0 < b) : PowSt n (b / 2) (2 * m + n / b % 2) := by
  unfold PowSt at *
  rcases h with ⟨h, rfl⟩ | ⟨h, _⟩
  · simp only [List.mem_cons, List.not_mem_nil, or_false] at h
    rcases h with rfl | rfl | rfl | rfl | rfl | rfl | rfl <;> simp <;> omega
  · omega
theorem PowSt.le {n b m : Nat} (h : PowSt n b m) (hb : 0 < b) (hn : n ≤ 64) : 1 ≤ b ∧ b ≤ 64 ∧ m ≤ 32 := by
  unfold PowSt at h
  rcases h with ⟨h, rfl⟩ | ⟨h, _⟩
  · simp only [List.mem_cons, List.not_mem_nil, or_false] at h
    rcases h with rfl | rfl | rfl | rfl | rfl | rfl | rfl <;> omega
  · omega
theorem pow_bits : ∀ n : Fin 65, ∀ b ∈ [64, 32, 16, 8, 4, 2, 1], (bits BinOp.and .i64 ((n.val : Nat) : Int) ((b : Nat) : Int) != 0) = decide (n.val / b % 2 = 1) := by decide +kernel
theorem PowSt.bit {n b m : Nat} (h : PowSt n b m) (hb : 0 < b) (hn : n ≤ 64) : (bits BinOp.and .i64 (n : Int) (b : Int) != 0) = decide (n / b % 2 = 1) := by
  rcases h with ⟨h, _⟩ | ⟨h, _⟩
  · exact pow_bits ⟨n, by omega⟩ b h
  · omega
theorem pow_sq (z : Int) (m : Nat) : z ^ m * z ^ m = z ^ (2 * m) := by rw [Nat.two_mul, Int.pow_add]
def PowZInv (w1 : World) (p q : Nat) (a : Int) (P : Option Addr) (z : Int) (n : Nat) (v : Value) (wr : World) : Prop :=
  ∃ (b m : Nat) (x : Int) (X : Option Addr), PowSt n b m ∧ v = .int .i64 (b : Nat) ∧ Hold wr p x X ∧ IsInt 0 wr (.agg #[.int .i64 x, .pointer X]) (z ^ m) ∧ Var wr q a P z ∧ Below w1.heap.size w1 wr

set_option maxRecDepth 100000 in
set_option maxHeartbeats 4000000 in
theorem powerZ_any (a : Int) (P : Option Addr) (z : Int) (n : Nat) (w : World) (h : IsInt 0 w (.agg #[.int .i64 a, .pointer P]) z) (hz : z.natAbs < ten 20) (hn : n ≤ 64) :
    Calls Tryd.prog 42 #[.agg #[.int .i64 a, .pointer P], .int .i64 (n : Nat)] w fun e w' => ∃ (x : Int) (X : Option Addr), e = .returned (.tuple #[.agg #[.int .i64 x, .pointer X], .int .i64 0]) ∧ IsInt 0 w' (.agg #[.int .i64 x, .pointer X]) (z ^ n) ∧ Below w.heap.size w w' := by
  have kk := ((Below.refl w.heap.size w).alloc (Nat.le_refl _) (.cells #[.int .i64 a, .pointer P] 25)).alloc (by simp) (.cells #[.int .i64 0, .pointer none] 25)
  have Hv := Lib.hid ((Var.new h).keep ((Below.refl _ _).alloc (Nat.le_refl _) (.cells #[.int .i64 0, .pointer none] 25)))
  have Hr := Lib.hid (Res.new (w.alloc (.cells #[.int .i64 a, .pointer P] 25)))
  simp only [World.size_alloc] at Hr
  have Kk := Lib.hid kk
  have Hz := Lib.hid hz
  have Hp1 := Lib.hid (fun m (hm : m ≤ 32) => @pow_base z hz m hm)
  have Hp2 := Lib.hid (fun m (hm : m ≤ 64) => @pow_base2 z hz m hm)
  have Hz2 := Lib.hid (show z.natAbs < base 34 from Nat.lt_trans hz (by decide +kernel))
  clear h kk hz
  go_enter Tryd.func42, Tryd.ntmps42
  go_wp2_with fail
  refine (from_any _ _).mono ?_
  rintro e w1 ⟨rfl, h1⟩
  have Hv1 := Lib.hid ((Hv.out.keep h1).keep ((Below.refl _ _).alloc (Nat.le_refl _) (.cells #[.int .i64 1, .pointer none] 25)))
  have R1 := Lib.hid (Hr.out.keep h1)
  have K1 := Lib.hid (below_on Kk.out h1)
  have hs1 : w.heap.size + 2 ≤ w1.heap.size := by have := h1.size; simp at this; omega
  have Hq := Lib.hid (show w.heap.size ≠ w1.heap.size by omega)
  clear h1
  go_wp2_with fail
  go_loopw [7] (fun v wr => PowZInv w1 w1.heap.size w.heap.size a P z n v wr) (fun v _ => (intOf v).toNat)
  case atStart =>
    exact ⟨64, n / 128, 1, none, .inl ⟨by simp, rfl⟩, rfl, Hold.new _ _ _, .inl ⟨by unfold I64; rw [show n / 128 = 0 by omega, Int.pow_zero]; decide, by rw [show n / 128 = 0 by omega, Int.pow_zero]⟩, Hv1.out, (Below.refl _ _).alloc (Nat.le_refl _) _⟩
  case round =>
    obtain ⟨b, m, x, X, hst, rfl, hh, hi, hv, hb⟩ := hrel
    have Hb := Lib.hid hb
    have Hh := Lib.hid hh
    have Hi := Lib.hid hi
    have HV := Lib.hid hv
    have Hst := Lib.hid hst
    clear hb hh hi hv
    rcases Nat.eq_zero_or_pos b with h0 | h0
    · subst h0
      have hm : m = n := by
        rcases hst with ⟨h, _⟩ | ⟨_, h⟩
        · simp at h
        · exact h
      subst hm
      have c0 := Hh.out.c0
      have c1 := Hh.out.c1
      have R2 := Lib.hid (R1.out.keep Hb.out)
      have k0 := R2.out.k0
      have k1 := R2.out.k1
      have f0 := R2.out.f0
      have f1 := R2.out.f1
      have Hi2 := Lib.hid (Hi.out.stored R2.out (.int .i64 x) (.pointer X))
      have K2 := Lib.hid (below_stored (below_on K1.out Hb.out) (Nat.le_succ w.heap.size) (.int .i64 x) (.pointer X))
      clear hst
      go_wp2
      exact bodyPost_ret (v := .tuple #[.agg #[.int .i64 x, .pointer X], .int .i64 0]) (by simp [results, Tryd.results42, go_sem, k0, k1]) rfl ⟨x, X, rfl, Hi2.out, K2.out⟩
    · obtain ⟨hb1, hb2, hm⟩ := hst.le h0 hn
      have hbit := hst.bit h0 hn
      have Hnext := Lib.hid (hst.step h0)
      have Hmul := Lib.hid (mul_any x x X X (z ^ m) (z ^ m) wr Hi.out Hi.out (base_up (Hp1.out m hm) (by decide)) (base_up (Hp1.out m hm) (by decide)) (.inl (base_up (Hp1.out m hm) (by decide))))
      have c0 := Hh.out.c0
      have c1 := Hh.out.c1
      clear hst
      obtain ⟨par, hpar⟩ : ∃ t, n / b % 2 = t := ⟨_, rfl⟩
      have hp2 : par = 0 ∨ par = 1 := by omega
      rw [hpar] at hbit Hnext
      have Hlt : Hid (b / 2 < b) := Lib.hid (by omega)
      clear hpar
      go_wp2_with fail
      refine Hmul.out.mono ?_
      rintro e n1 ⟨y, Y, rfl, hi1, g1⟩
      have H1 := Lib.hid (Hh.out.keep g1)
      have H1s := Lib.hid (H1.out.store y Y)
      have HV1 := Lib.hid ((HV.out.keep g1).held H1.out Hq.out (.int .i64 y) (.pointer Y))
      have Hi1 := Lib.hid ((show IsInt 0 n1 (.agg #[.int .i64 y, .pointer Y]) (z ^ (2 * m)) from pow_sq z m ▸ hi1).held H1.out (.int .i64 y) (.pointer Y))
      have K2 := Lib.hid (below_stored (below_on Hb.out g1) (Nat.le_refl w1.heap.size) (.int .i64 y) (.pointer Y))
      have f0 := H1.out.f0
      have f1 := H1.out.f1
      clear c0 c1
      have c0 := H1.out.c0
      have c1 := H1.out.c1
      clear g1 hi1
      rcases hp2 with rfl | rfl
      · rw [decide_eq_false (by decide)] at hbit
        go_wp2_with fail
        exact ⟨⟨b / 2, 2 * m + 0, y, Y, Hnext.out, by push_cast; rfl, H1s.out, Hi1.out, HV1.out, K2.out⟩, by simp [intOf]; have := Hlt.out; omega⟩
      · rw [decide_eq_true (by decide)] at hbit
        have Hmul2 := Lib.hid (mul_any y a Y P (z ^ (2 * m)) z _ Hi1.out HV1.out.int (base_up (Hp2.out (2 * m) (by omega)) (by decide)) (base_up Hz2.out (by decide)) (.inr (base_up Hz2.out (by decide))))
        have v0 := HV1.out.c0
        have v1 := HV1.out.c1
        go_wp2_with fail
        refine Hmul2.out.mono ?_
        rintro e n2 ⟨y2, Y2, rfl, hi2, g2⟩
        have H2 := Lib.hid (H1s.out.keep g2)
        have H2s := Lib.hid (H2.out.store y2 Y2)
        have HV2 := Lib.hid ((HV1.out.keep g2).held H2.out Hq.out (.int .i64 y2) (.pointer Y2))
        have Hi2 := Lib.hid ((show IsInt 0 n2 (.agg #[.int .i64 y2, .pointer Y2]) (z ^ (2 * m + 1)) from (Int.pow_succ z (2 * m)).symm ▸ hi2).held H2.out (.int .i64 y2) (.pointer Y2))
        have K3 := Lib.hid (below_stored (below_on K2.out g2) (Nat.le_refl w1.heap.size) (.int .i64 y2) (.pointer Y2))
        clear f0 f1 c0 c1 v0 v1
        have f0 := H2.out.f0
        have f1 := H2.out.f1
        have c0 := H2.out.c0
        have c1 := H2.out.c1
        clear g2 hi2
        go_wp2_with fail
        exact ⟨⟨b / 2, 2 * m + 1, y2, Y2, Hnext.out, by push_cast; rfl, H2s.out, Hi2.out, HV2.out, K3.out⟩, by simp [intOf]; have := Hlt.out; omega⟩
end Go.Proofs.YtegndbiglehacaaDoor
