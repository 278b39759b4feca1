/- Lists of edges are equal. -/
import Derived.Test.YthocdmlacfejkaaDoorPln
namespace Go.Proofs.YthocdmlacfejkaaDoor
open Go.RowKit
attribute [local irreducible] wpStill
theorem el_nil {w : World} {A : Option Addr} {n : Nat} {xs : List (Int × Int)} (h : EL w A n xs) : xs.length = n := h.1
set_option maxRecDepth 100000 in
set_option maxHeartbeats 8000000 in
theorem equalE_any (A B : Option Addr) (n c m d : Nat) (xs ys : List (Int × Int)) (w : World) (hx : EL w A n xs) (hy : EL w B m ys) (hn : n ≤ 1000000) (hm : m ≤ 1000000) :
    Calls Tryd.prog 46 #[.slice A n c, .slice B m d] w fun e w' => e = .returned (.bool (xs == ys)) ∧ Below w.heap.size w w' := by
  have hxl := hx.1
  have hyl := hy.1
  have Hx := Lib.hid hx
  have Hy := Lib.hid hy
  clear hx hy
  by_cases hl : n = m
  · subst hl
    have Hxl := Lib.hid hxl
    have Hyl := Lib.hid hyl
    obtain ⟨r, hr⟩ : ∃ r, (xs == ys) = r := ⟨_, rfl⟩
    have Hr := Lib.hid hr
    have t0 : ((n : Int) != (n : Int)) = false := by simp
    rw [hr]
    clear hxl hyl hr
    go_enter Tryd.func46, Tryd.ntmps46
    go_wp2_with fail
    go_loopw [5, 13] (fun _ i wr => ∃ k : Nat, i = .int .i64 (k : Nat) ∧ k ≤ n ∧ xs.take k = ys.take k ∧ Below w.heap.size w wr) (fun _ i _ => n - (intOf i).toNat)
    case atStart => exact ⟨0, rfl, Nat.zero_le _, by simp, Below.refl _ _⟩
    case round =>
      obtain ⟨k, rfl, hk, he, hb⟩ := hrel
      have He := Lib.hid he
      have B6 := Lib.hid hb
      clear he hb
      obtain ⟨wa, rfl⟩ : ∃ wa : World, wa = wr := ⟨_, rfl⟩
      by_cases hlt : k < n
      · obtain ⟨⟨x0, x1⟩, b, o, hxk, rfl, _, c0, c1⟩ := (Hx.out.keep B6.out).at_ hlt
        obtain ⟨⟨y0, y1⟩, b2, o2, hyk, rfl, _, d0, d1⟩ := (Hy.out.keep B6.out).at_ hlt
        simp only at c0 c1 d0 d1
        have Hlt := Lib.hid hlt
        have Hxk := Lib.hid hxk
        have Hyk := Lib.hid hyk
        clear hxk hyk
        by_cases h0 : x0 = y0 ∧ x1 = y1
        · obtain ⟨rfl, rfl⟩ := h0
          go_wp2_with fail
          go_still_tail 8, (by kernel_rfl)
          change wpList _ _ _ _ _ wa.drew
          go_wp2_with fail
          go_roundw
          case rel => exact ⟨k + 1, by go_num, Hlt.out, by rw [List.take_add_one, List.take_add_one, He.out, Hxk.out, Hyk.out], B6.out.drew⟩
          case measure => simp [intOf]; have := Hlt.out; omega
        · have hne : (xs == ys) = false := by
            rw [beq_eq_false_iff_ne]
            intro e
            have h1 := Hxk.out
            rw [e, Hyk.out] at h1
            injection h1 with h1
            injection h1 with h1 h2
            exact h0 ⟨h1.symm, h2.symm⟩
          have Hf := Lib.hid (Hr.out.symm.trans hne)
          clear hne
          by_cases h1 : x0 = y0
          · subst h1
            have h2 : ¬ x1 = y1 := fun e => h0 ⟨rfl, e⟩
            have t2 : (x1 == y1) = false := by rw [beq_eq_false_iff_ne]; exact h2
            clear h0
            go_wp2_with fail
            go_still_tail 8, (by kernel_rfl)
            change wpList _ _ _ _ _ wa.drew
            go_wp2_with fail
            go_ret
            exact ⟨ret_bool Hf.out.symm, B6.out.drew⟩
          · have t2 : (x0 == y0) = false := by rw [beq_eq_false_iff_ne]; exact h1
            clear h0
            go_wp2_with fail
            go_still_tail 8, (by kernel_rfl)
            change wpList _ _ _ _ _ wa.drew
            go_wp2_with fail
            go_ret
            exact ⟨ret_bool Hf.out.symm, B6.out.drew⟩
      · have Hf := Lib.hid (show r = true by
          have h1 := He.out
          rw [List.take_of_length_le (by rw [Hxl.out]; omega), List.take_of_length_le (by rw [Hyl.out]; omega)] at h1
          rw [← Hr.out, h1]; simp)
        go_wp2_with fail
        go_ret
        exact ⟨ret_bool Hf.out.symm, B6.out⟩
  · have t0 : ((n : Int) != (m : Int)) = true := by simp; omega
    have hz : (xs == ys) = false := by
      rw [beq_eq_false_iff_ne]
      intro e
      exact hl (by rw [← hxl, ← hyl, e])
    rw [hz]
    clear hz hl hxl hyl
    go_enter Tryd.func46, Tryd.ntmps46
    go_wp2_with fail
    go_ret
    exact ⟨rfl, Below.refl _ _⟩
end Go.Proofs.YthocdmlacfejkaaDoor
