/- The reference's Check. -/
import Derived.Test.YthocdmlacfejkaaDoorChk2
namespace Go.Proofs.YthocdmlacfejkaaDoor
open Go.RowKit
set_option maxRecDepth 100000 in
set_option maxHeartbeats 2000000 in
theorem inside_any (n : Int) (A : Option Addr) (m c : Nat) (es : List (Int × Int)) (w : World) (h : EL w A m es) (hm : m ≤ 4611686018427387904) :
    Calls Tryd.prog 74 #[.int .i64 n, .slice A m c] w fun e w' => e = .returned (.bool (es.all (okE n))) ∧ w = w' := by
  have hlen := h.1
  have H := Lib.hid h
  have hnl := Nat.le_of_eq hlen
  obtain ⟨r, hr⟩ : ∃ r, es.all (okE n) = r := ⟨_, rfl⟩
  have Hr := Lib.hid hr
  rw [hr]
  clear h hlen hr
  go_enter Tryd.func74, Tryd.ntmps74
  go_wp2_with fail
  go_loop [5, 6] (fun i j => ∃ k : Nat, k ≤ m ∧ i = .int .i64 (k : Nat) ∧ (es.take k).all (okE n) = true) (fun i _ => m - (intOf i).toNat)
  case atStart => exact ⟨0, Nat.zero_le _, rfl, by simp⟩
  case round =>
    obtain ⟨k, hk, rfl, ha⟩ := hrel
    have Ha := Lib.hid ha
    clear ha
    by_cases hlt : k < m
    · obtain ⟨e, b, o, he, rfl, hbl, c0, c1⟩ := H.out.at_ hlt
      obtain ⟨x, y⟩ := e
      have He := Lib.hid he
      simp only at c0 c1
      clear he
      have Hbad := Lib.hid (show okE n (x, y) = false → r = false from fun h => by
        rw [← Hr.out]
        rw [List.all_eq_false]
        exact ⟨_, List.mem_of_getElem? He.out, by simp [h]⟩)
      go_wp2_with fail
      go_loop [6] (fun j => ∃ q : Nat, q ≤ 2 ∧ j = .int .i64 (q : Nat) ∧ (0 < q → 0 ≤ x ∧ x < n) ∧ (1 < q → 0 ≤ y ∧ y < n)) (fun j => 2 - (intOf j).toNat)
      case atStart => exact ⟨0, by omega, rfl, by simp, by simp⟩
      case round =>
        obtain ⟨q, hq, rfl, h1, h2⟩ := hrel
        rcases (by omega : q = 0 ∨ q = 1 ∨ q = 2) with rfl | rfl | rfl
        · by_cases t1 : x < 0
          · have Hf := Lib.hid (Hbad.out (by simp [okE]; omega))
            clear h1 h2
            go_wp2
            go_ret
            exact ⟨ret_bool Hf.out.symm, rfl⟩
          · have t1' : decide (x < 0) = false := decide_eq_false t1
            by_cases t2 : n ≤ x
            · have Hf := Lib.hid (Hbad.out (by simp [okE]; omega))
              clear h1 h2
              go_wp2
              go_ret
              exact ⟨ret_bool Hf.out.symm, rfl⟩
            · have t2' : decide (n ≤ x) = false := decide_eq_false t2
              clear h1 h2
              go_wp2
              go_round
              case rel => exact ⟨1, by omega, rfl, by omega, by omega⟩
              case measure => simp [intOf]
        · by_cases t1 : y < 0
          · have Hf := Lib.hid (Hbad.out (by simp [okE]; omega))
            clear h1 h2
            go_wp2
            go_ret
            exact ⟨ret_bool Hf.out.symm, rfl⟩
          · have t1' : decide (y < 0) = false := decide_eq_false t1
            by_cases t2 : n ≤ y
            · have Hf := Lib.hid (Hbad.out (by simp [okE]; omega))
              clear h1 h2
              go_wp2
              go_ret
              exact ⟨ret_bool Hf.out.symm, rfl⟩
            · have t2' : decide (n ≤ y) = false := decide_eq_false t2
              have X := Lib.hid (h1 (by omega))
              clear h1 h2
              go_wp2
              go_round
              case rel => exact ⟨2, by omega, rfl, by have := X.out; omega, by omega⟩
              case measure => simp [intOf]
        · have Hf := Lib.hid (all_take He.out Ha.out (show okE n (x, y) = true by have := h1 (by omega); have := h2 (by omega); simp [okE]; omega))
          clear h1 h2
          go_wp2
          go_round
          case rel => exact ⟨k + 1, by omega, by go_num, Hf.out⟩
          case measure => simp [intOf]; omega
    · have Hf := Lib.hid (show r = true by rw [← Hr.out]; have := Ha.out; rwa [List.take_of_length_le (by omega)] at this)
      go_wp2
      go_ret
      exact ⟨ret_bool Hf.out.symm, rfl⟩
theorem cmpE_lt (a b : Int × Int) : decide (cmpE a b < 0) = (decide (a.1 < b.1) || (a.1 == b.1 && decide (a.2 < b.2))) := by
  have := cmpE_ge a b
  by_cases h : cmpE a b < 0
  · have h2 : a.1 < b.1 ∨ (a.1 = b.1 ∧ a.2 < b.2) := Classical.byContradiction fun hn => by have := this.2 hn; omega
    simp [h]
    rcases h2 with h2 | ⟨h2, h3⟩
    · exact .inl h2
    · exact .inr ⟨h2, h3⟩
  · have h2 := this.1 (by omega)
    simp [h]
    omega
set_option maxRecDepth 100000 in
set_option maxHeartbeats 2000000 in
theorem before_any (a b : Int × Int) (w : World) :
    Calls Tryd.prog 77 #[.agg #[.int .i64 a.1, .int .i64 a.2], .agg #[.int .i64 b.1, .int .i64 b.2]] w fun e w' => e = .returned (.bool (decide (cmpE a b < 0))) ∧ Below w.heap.size w w' := by
  have H := Lib.hid (cmpE_lt a b)
  obtain ⟨r, hr⟩ : ∃ r, decide (cmpE a b < 0) = r := ⟨_, rfl⟩
  rw [hr] at H
  rw [hr]
  obtain ⟨a1, a2⟩ := a
  obtain ⟨b1, b2⟩ := b
  simp only at H ⊢
  clear hr
  have HB := Lib.hid (((Below.refl w.heap.size w).alloc (Nat.le_refl _) (.cells #[.int .i64 a1, .int .i64 a2] 55)).alloc (by simp) (.cells #[.int .i64 b1, .int .i64 b2] 55))
  by_cases h1 : a1 < b1
  · have t1 : decide (a1 < b1) = true := decide_eq_true h1
    have Hf := Lib.hid (show r = true by rw [H.out]; simp [h1])
    clear h1
    go_enter Tryd.func77, Tryd.ntmps77
    go_wp2_with fail
    go_ret
    exact ⟨ret_bool Hf.out.symm, HB.out⟩
  · have t1 : decide (a1 < b1) = false := decide_eq_false h1
    by_cases h2 : a1 = b1
    · have t2 : (a1 == b1) = true := by simp [h2]
      have Hf := Lib.hid (show r = decide (a2 < b2) by rw [H.out]; simp [h2])
      clear h1 h2
      go_enter Tryd.func77, Tryd.ntmps77
      go_wp2_with fail
      go_ret
      exact ⟨ret_bool Hf.out.symm, HB.out⟩
    · have t2 : (a1 == b1) = false := by simp [h2]
      have Hf := Lib.hid (show r = false by rw [H.out]; simp [h2]; omega)
      clear h1 h2
      go_enter Tryd.func77, Tryd.ntmps77
      go_wp2_with fail
      go_ret
      exact ⟨ret_bool Hf.out.symm, HB.out⟩
end Go.Proofs.YthocdmlacfejkaaDoor
