/- DivMod of any integers. -/
import Derived.Test.YtegndbiglehacaaDoorDivY
namespace Go.Proofs.YtegndbiglehacaaDoor
open Go.RowKit

theorem tdiv_parts {a b : Int} (ha : -9223372036854775807 ≤ a ∧ a ≤ 9223372036854775807) (hb : b ≠ 0) : ∃ q r : Int, a.tdiv b = q ∧ a.tmod b = r ∧ a = q * b + r ∧ -9223372036854775807 ≤ q ∧ q ≤ 9223372036854775807 ∧ r.natAbs < b.natAbs ∧ (0 < r → 0 < a) ∧ (r < 0 → a < 0) := by
  refine ⟨a.tdiv b, a.tmod b, rfl, rfl, ?_, ?_, ?_, ?_, ?_, ?_⟩
  · have := Int.mul_tdiv_add_tmod a b
    rw [Int.mul_comm] at this
    omega
  · have h1 : (a.tdiv b).natAbs ≤ a.natAbs := by rw [Int.natAbs_tdiv]; exact Nat.div_le_self _ _
    omega
  · have h1 : (a.tdiv b).natAbs ≤ a.natAbs := by rw [Int.natAbs_tdiv]; exact Nat.div_le_self _ _
    omega
  · have : (a.tmod b).natAbs = a.natAbs % b.natAbs := Int.natAbs_tmod a b
    rw [this]
    exact Nat.mod_lt _ (by omega)
  · intro h
    rcases Int.lt_or_le 0 a with h1 | h1
    · exact h1
    · have := Int.tmod_nonneg (a := -a) b (by omega)
      rw [Int.neg_tmod] at this
      omega
  · intro h
    rcases Int.lt_or_le a 0 with h1 | h1
    · exact h1
    · have := Int.tmod_nonneg (a := a) b h1
      omega
set_option maxRecDepth 100000 in
set_option maxHeartbeats 8000000 in
theorem divmod_small (a b : Int) (w : World) (ha : -9223372036854775807 ≤ a ∧ a ≤ 9223372036854775807) (hb : I64 b) (hb0 : b ≠ 0) :
    Calls Tryd.prog 38 #[small a, small b] w (DivPost a b w) := by
  obtain ⟨q, r, hq, hr, hqr, hq1, hq2, hrb, hr1, hr2⟩ := tdiv_parts ha hb0
  have hsgn : sgn b ≠ 0 := by unfold sgn; split <;> (try split) <;> omega
  obtain ⟨x, hx⟩ : ∃ x, sgn b = x := ⟨_, rfl⟩
  have Hs := Lib.hid (fun w => sign_any b w)
  rw [hx] at Hs hsgn
  have t0 : (x == 0) = false := by rw [beq_eq_false_iff_ne]; exact hsgn
  have t1 : (a == -9223372036854775808) = false := by rw [beq_eq_false_iff_ne]; omega
  have t2 : (b == 0) = false := by rw [beq_eq_false_iff_ne]; exact hb0
  unfold I64 at hb
  obtain ⟨w0, hw0⟩ : ∃ w0, w0 = (((w.alloc (.cells #[.int .i64 a, .pointer none] 25)).alloc (.cells #[.int .i64 b, .pointer none] 25)).alloc (.cells #[.int .i64 0, .pointer none] 25)).alloc (.cells #[.int .i64 0, .pointer none] 25) := ⟨_, rfl⟩
  obtain ⟨va, vb, hq', hr', kk⟩ := div_boxes (w := w) (a := a) (b := b) (z := a) (k := b) (.inl ⟨⟨by omega, by omega⟩, rfl⟩) (.inl ⟨⟨by omega, by omega⟩, rfl⟩) hw0
  have VA := Lib.hid va
  have VB := Lib.hid vb
  have HQ := Lib.hid hq'
  have HR := Lib.hid hr'
  have KK := Lib.hid kk
  have Hw0 := Lib.hid hw0
  have Hqr := Lib.hid hqr
  have ha1 := ha.1
  have ha2 := ha.2
  have hb1 := hb.1
  have hb2 := hb.2
  have hab : (r.natAbs : Int) < b.natAbs := by omega
  clear hsgn hx va vb hq' hr' kk hw0 hqr ha hb
  rcases Int.lt_trichotomy r 0 with h | h | h
  · have u0 : (r == 0) = false := by rw [beq_eq_false_iff_ne]; omega
    rcases Int.lt_or_lt_of_ne hb0 with hbb | hbb
    · have hneg : b < 0 := hbb
      have u3 : (r != 0) = true := by rw [bne_iff_ne]; omega
      have d1 : decide (r < 0) = true := decide_eq_true (by omega)
      have d2 : decide (b < 0) = true := decide_eq_true (by omega)
      have d3 : (!decide (b < 0)) = false := by rw [d2]; rfl
      have Hdm := Lib.hid (show DM a b q r from ⟨by have := Hqr.out; omega, by omega⟩)
      have Hiq := Lib.hid (show I64 q from ⟨by omega, by omega⟩)
      have Hir := Lib.hid (show I64 r from ⟨by omega, by omega⟩)
      clear hab hr1 hr2
      go_enter Tryd.func38, Tryd.ntmps38
      go_wp2_with fail
      refine (Hs.out _).mono ?_
      rintro e w1 ⟨rfl, h1⟩
      have h1' := h1
      rw [← Hw0.out] at h1'
      have VA1 := Lib.hid (VA.out.keep h1')
      have VB1 := Lib.hid (VB.out.keep h1')
      have HQ1 := Lib.hid (HQ.out.keep h1')
      have HR1 := Lib.hid (HR.out.keep h1')
      have K1 := Lib.hid (below_on KK.out h1')
      have va0 := VA1.out.c0
      have va1 := VA1.out.c1
      have vb0 := VB1.out.c0
      have vb1 := VB1.out.c1
      have f0 := HQ1.out.f0
      have f1 := HQ1.out.f1
      have g0 := HR1.out.f0
      have g1 := HR1.out.f1
      have i0 := HQ1.out.c0
      have i1 := HQ1.out.c1
      have j0 := HR1.out.c0
      have j1 := HR1.out.c1
      clear h1 h1'
      go_wp2_with fail
      go_quiet (fail)
      go_wp2_with fail
      exact bodyPost_ret (v := .tuple #[small q, small r, .int .i64 0]) (by simp [results, Tryd.results38, go_sem, i0, i1, j0, j1]) rfl ⟨q, none, r, none, q, r, rfl, .inl ⟨Hiq.out, rfl⟩, .inl ⟨Hir.out, rfl⟩, Hdm.out, by repeat (first | exact K1.out | refine Below.setCell ?_ (by first | exact Nat.le_refl _ | (simp <;> omega)) _ | refine below_drewN ?_ _)⟩
    · have hpos : ¬ b < 0 := by omega
      have u3 : (r != 0) = true := by rw [bne_iff_ne]; omega
      have d1 : decide (r < 0) = true := decide_eq_true (by omega)
      have d2 : decide (b < 0) = false := decide_eq_false (by omega)
      have d3 : (!decide (b < 0)) = true := by rw [d2]; rfl
      have Hdm := Lib.hid (show DM a b (q - 1) (r + b) from ⟨by have := Hqr.out; rw [Int.sub_mul, Int.one_mul]; omega, by omega⟩)
      have Hiq := Lib.hid (show I64 (q - 1) from ⟨by omega, by omega⟩)
      have Hir := Lib.hid (show I64 (r + b) from ⟨by omega, by omega⟩)
      have s1 : -9223372036854775808 ≤ r + b := by omega
      have s2 : r + b ≤ 9223372036854775807 := by omega
      clear hab hr1 hr2
      go_enter Tryd.func38, Tryd.ntmps38
      go_wp2_with fail
      refine (Hs.out _).mono ?_
      rintro e w1 ⟨rfl, h1⟩
      have h1' := h1
      rw [← Hw0.out] at h1'
      have VA1 := Lib.hid (VA.out.keep h1')
      have VB1 := Lib.hid (VB.out.keep h1')
      have HQ1 := Lib.hid (HQ.out.keep h1')
      have HR1 := Lib.hid (HR.out.keep h1')
      have K1 := Lib.hid (below_on KK.out h1')
      have va0 := VA1.out.c0
      have va1 := VA1.out.c1
      have vb0 := VB1.out.c0
      have vb1 := VB1.out.c1
      have f0 := HQ1.out.f0
      have f1 := HQ1.out.f1
      have g0 := HR1.out.f0
      have g1 := HR1.out.f1
      have i0 := HQ1.out.c0
      have i1 := HQ1.out.c1
      have j0 := HR1.out.c0
      have j1 := HR1.out.c1
      clear h1 h1'
      go_wp2_with fail
      go_quiet (fail)
      go_wp2_with fail
      go_quiet (fail)
      go_wp2_with fail
      exact bodyPost_ret (v := .tuple #[small (q - 1), small (r + b), .int .i64 0]) (by simp [results, Tryd.results38, go_sem, i0, i1, j0, j1]) rfl ⟨(q - 1), none, (r + b), none, (q - 1), (r + b), rfl, .inl ⟨Hiq.out, rfl⟩, .inl ⟨Hir.out, rfl⟩, Hdm.out, by repeat (first | exact K1.out | refine Below.setCell ?_ (by first | exact Nat.le_refl _ | (simp <;> omega)) _ | refine below_drewN ?_ _)⟩
  · subst h
    have Hdm := Lib.hid (show DM a b q 0 from ⟨by have := Hqr.out; omega, by omega⟩)
    have Hiq := Lib.hid (show I64 q from ⟨by omega, by omega⟩)
    have Hir := Lib.hid (show I64 0 from ⟨by omega, by omega⟩)
    clear hab hr1 hr2
    go_enter Tryd.func38, Tryd.ntmps38
    go_wp2_with fail
    refine (Hs.out _).mono ?_
    rintro e w1 ⟨rfl, h1⟩
    have h1' := h1
    rw [← Hw0.out] at h1'
    have VA1 := Lib.hid (VA.out.keep h1')
    have VB1 := Lib.hid (VB.out.keep h1')
    have HQ1 := Lib.hid (HQ.out.keep h1')
    have HR1 := Lib.hid (HR.out.keep h1')
    have K1 := Lib.hid (below_on KK.out h1')
    have va0 := VA1.out.c0
    have va1 := VA1.out.c1
    have vb0 := VB1.out.c0
    have vb1 := VB1.out.c1
    have f0 := HQ1.out.f0
    have f1 := HQ1.out.f1
    have g0 := HR1.out.f0
    have g1 := HR1.out.f1
    have i0 := HQ1.out.c0
    have i1 := HQ1.out.c1
    have j0 := HR1.out.c0
    have j1 := HR1.out.c1
    clear h1 h1'
    go_wp2_with fail
    go_quiet (fail)
    go_wp2_with fail
    exact bodyPost_ret (v := .tuple #[small q, small 0, .int .i64 0]) (by simp [results, Tryd.results38, go_sem, i0, i1, j0, j1]) rfl ⟨q, none, 0, none, q, 0, rfl, .inl ⟨Hiq.out, rfl⟩, .inl ⟨Hir.out, rfl⟩, Hdm.out, by repeat (first | exact K1.out | refine Below.setCell ?_ (by first | exact Nat.le_refl _ | (simp <;> omega)) _ | refine below_drewN ?_ _)⟩
  · have u0 : (r == 0) = false := by rw [beq_eq_false_iff_ne]; omega
    have u1 : ¬ r < 0 := by omega
    rcases Int.lt_or_lt_of_ne hb0 with hbb | hbb
    · have hneg : b < 0 := hbb
      have u3 : (r != 0) = true := by rw [bne_iff_ne]; omega
      have d1 : decide (r < 0) = false := decide_eq_false (by omega)
      have d2 : decide (b < 0) = true := decide_eq_true (by omega)
      have d3 : (!decide (b < 0)) = false := by rw [d2]; rfl
      have Hdm := Lib.hid (show DM a b (q - 1) (r + b) from ⟨by have := Hqr.out; rw [Int.sub_mul, Int.one_mul]; omega, by omega⟩)
      have Hiq := Lib.hid (show I64 (q - 1) from ⟨by omega, by omega⟩)
      have Hir := Lib.hid (show I64 (r + b) from ⟨by omega, by omega⟩)
      have s1 : -9223372036854775808 ≤ r + b := by omega
      have s2 : r + b ≤ 9223372036854775807 := by omega
      clear hab hr1 hr2
      go_enter Tryd.func38, Tryd.ntmps38
      go_wp2_with fail
      refine (Hs.out _).mono ?_
      rintro e w1 ⟨rfl, h1⟩
      have h1' := h1
      rw [← Hw0.out] at h1'
      have VA1 := Lib.hid (VA.out.keep h1')
      have VB1 := Lib.hid (VB.out.keep h1')
      have HQ1 := Lib.hid (HQ.out.keep h1')
      have HR1 := Lib.hid (HR.out.keep h1')
      have K1 := Lib.hid (below_on KK.out h1')
      have va0 := VA1.out.c0
      have va1 := VA1.out.c1
      have vb0 := VB1.out.c0
      have vb1 := VB1.out.c1
      have f0 := HQ1.out.f0
      have f1 := HQ1.out.f1
      have g0 := HR1.out.f0
      have g1 := HR1.out.f1
      have i0 := HQ1.out.c0
      have i1 := HQ1.out.c1
      have j0 := HR1.out.c0
      have j1 := HR1.out.c1
      clear h1 h1'
      go_wp2_with fail
      go_quiet (fail)
      go_wp2_with fail
      go_quiet (fail)
      go_wp2_with fail
      exact bodyPost_ret (v := .tuple #[small (q - 1), small (r + b), .int .i64 0]) (by simp [results, Tryd.results38, go_sem, i0, i1, j0, j1]) rfl ⟨(q - 1), none, (r + b), none, (q - 1), (r + b), rfl, .inl ⟨Hiq.out, rfl⟩, .inl ⟨Hir.out, rfl⟩, Hdm.out, by repeat (first | exact K1.out | refine Below.setCell ?_ (by first | exact Nat.le_refl _ | (simp <;> omega)) _ | refine below_drewN ?_ _)⟩
    · have hpos : ¬ b < 0 := by omega
      have u3 : (r != 0) = true := by rw [bne_iff_ne]; omega
      have d1 : decide (r < 0) = false := decide_eq_false (by omega)
      have d2 : decide (b < 0) = false := decide_eq_false (by omega)
      have d3 : (!decide (b < 0)) = true := by rw [d2]; rfl
      have Hdm := Lib.hid (show DM a b q r from ⟨by have := Hqr.out; omega, by omega⟩)
      have Hiq := Lib.hid (show I64 q from ⟨by omega, by omega⟩)
      have Hir := Lib.hid (show I64 r from ⟨by omega, by omega⟩)
      clear hab hr1 hr2
      go_enter Tryd.func38, Tryd.ntmps38
      go_wp2_with fail
      refine (Hs.out _).mono ?_
      rintro e w1 ⟨rfl, h1⟩
      have h1' := h1
      rw [← Hw0.out] at h1'
      have VA1 := Lib.hid (VA.out.keep h1')
      have VB1 := Lib.hid (VB.out.keep h1')
      have HQ1 := Lib.hid (HQ.out.keep h1')
      have HR1 := Lib.hid (HR.out.keep h1')
      have K1 := Lib.hid (below_on KK.out h1')
      have va0 := VA1.out.c0
      have va1 := VA1.out.c1
      have vb0 := VB1.out.c0
      have vb1 := VB1.out.c1
      have f0 := HQ1.out.f0
      have f1 := HQ1.out.f1
      have g0 := HR1.out.f0
      have g1 := HR1.out.f1
      have i0 := HQ1.out.c0
      have i1 := HQ1.out.c1
      have j0 := HR1.out.c0
      have j1 := HR1.out.c1
      clear h1 h1'
      go_wp2_with fail
      go_quiet (fail)
      go_wp2_with fail
      exact bodyPost_ret (v := .tuple #[small q, small r, .int .i64 0]) (by simp [results, Tryd.results38, go_sem, i0, i1, j0, j1]) rfl ⟨q, none, r, none, q, r, rfl, .inl ⟨Hiq.out, rfl⟩, .inl ⟨Hir.out, rfl⟩, Hdm.out, by repeat (first | exact K1.out | refine Below.setCell ?_ (by first | exact Nat.le_refl _ | (simp <;> omega)) _ | refine below_drewN ?_ _)⟩
set_option maxRecDepth 100000 in
set_option maxHeartbeats 8000000 in
theorem divmod_zero (a : Int) (P : Option Addr) (z : Int) (w : World) (h : IsInt 0 w (.agg #[.int .i64 a, .pointer P]) z) :
    Calls Tryd.prog 38 #[.agg #[.int .i64 a, .pointer P], .agg #[.int .i64 0, .pointer none]] w fun e w' => e = .returned (.tuple #[small 0, small 0, .int .i64 19]) ∧ Below w.heap.size w w' := by
  obtain ⟨w0, hw0⟩ : ∃ w0, w0 = (((w.alloc (.cells #[.int .i64 a, .pointer P] 25)).alloc (.cells #[.int .i64 0, .pointer none] 25)).alloc (.cells #[.int .i64 0, .pointer none] 25)).alloc (.cells #[.int .i64 0, .pointer none] 25) := ⟨_, rfl⟩
  obtain ⟨va, vb, hq', hr', kk⟩ := div_boxes (w := w) (b := 0) (k := 0) (Q := none) h (.inl ⟨⟨by decide, by decide⟩, rfl⟩) hw0
  have HQ := Lib.hid hq'
  have HR := Lib.hid hr'
  have KK := Lib.hid kk
  have Hw0 := Lib.hid hw0
  have Hs := Lib.hid (show ∀ w, Calls Tryd.prog 21 #[.agg #[.int .i64 0, .pointer none]] w fun e w' => e = .returned (.int .i64 0) ∧ Below w.heap.size w w' from fun w => sign_any 0 w)
  clear h va vb hq' hr' kk hw0
  go_enter Tryd.func38, Tryd.ntmps38
  go_wp2_with fail
  refine (Hs.out _).mono ?_
  rintro e w1 ⟨rfl, h1⟩
  have h1' := h1
  rw [← Hw0.out] at h1'
  have HQ1 := Lib.hid (HQ.out.keep h1')
  have HR1 := Lib.hid (HR.out.keep h1')
  have K1 := Lib.hid (below_on KK.out h1')
  have f0 := HQ1.out.f0
  have f1 := HQ1.out.f1
  have g0 := HR1.out.f0
  have g1 := HR1.out.f1
  have i0 := HQ1.out.c0
  have i1 := HQ1.out.c1
  have j0 := HR1.out.c0
  have j1 := HR1.out.c1
  clear h1 h1'
  go_wp2_with fail
  exact bodyPost_ret (v := .tuple #[small 0, small 0, .int .i64 19]) (by simp [results, Tryd.results38, go_sem, i0, i1, j0, j1]) rfl ⟨rfl, by repeat (first | exact K1.out | refine Below.setCell ?_ (by first | exact Nat.le_refl _ | (simp <;> omega)) _)⟩
theorem divmod_any (a b : Int) (P Q : Option Addr) (z k : Int) (w : World) (h : IsInt 0 w (.agg #[.int .i64 a, .pointer P]) z) (h' : IsInt 0 w (.agg #[.int .i64 b, .pointer Q]) k) (hk0 : k ≠ 0) (hlz : z.natAbs < base 390) (hlk : k.natAbs < base 390) :
    Calls Tryd.prog 38 #[.agg #[.int .i64 a, .pointer P], .agg #[.int .i64 b, .pointer Q]] w (DivPost z k w) := by
  rcases h.ways with ⟨hz, e⟩ | ⟨hz, p, e, _, _⟩
  · obtain ⟨rfl, rfl⟩ := small_eq e
    rcases h'.ways with ⟨hk, e'⟩ | ⟨hk, q, e', _, _⟩
    · obtain ⟨rfl, rfl⟩ := small_eq e'
      by_cases hmin : a = -9223372036854775808
      · subst hmin
        exact divmod_least b _ b w h h' hk0 hlz hlk
      · exact divmod_small a b w ⟨by have := hz.1; omega, hz.2⟩ hk hk0
    · obtain ⟨rfl, rfl⟩ : b = 0 ∧ Q = some ⟨q, 0, none⟩ := by simpa using e'
      exact divmod_mixed a 0 q a k w h h' hk0 hlz hlk
  · obtain ⟨rfl, rfl⟩ : a = 0 ∧ P = some ⟨p, 0, none⟩ := by simpa using e
    exact divmod_large b p Q z k w h h' hk0 hlz hlk
end Go.Proofs.YtegndbiglehacaaDoor
