/- Check of a graph. -/
import Derived.Test.YthocdmlacfejkaaDoorChk
namespace Go.Proofs.YthocdmlacfejkaaDoor
open Go.RowKit
theorem sq_bd {n : Int} (h0 : 0 ≤ n) (h1 : n ≤ 64) : 0 ≤ n * n ∧ n * n ≤ 4096 := by
  obtain ⟨k, rfl⟩ : ∃ k : Nat, n = k := ⟨n.toNat, by omega⟩
  have : k * k ≤ 64 * 64 := Nat.mul_le_mul (by omega) (by omega)
  have e : ((k : Int) * k) = ((k * k : Nat) : Int) := by push_cast; rfl
  rw [e]; omega
theorem checkG_range {n : Int} {es : List (Int × Int)} (h : n < 0 ∨ 64 < n) : checkG n es = 2 := if_pos h
theorem checkG_limit {n : Int} {es : List (Int × Int)} (h : ¬ (n < 0 ∨ 64 < n)) (h2 : n * n < es.length) : checkG n es = 6 := by
  unfold checkG; rw [if_neg h, if_pos h2]
theorem checkG_edge {n : Int} {es : List (Int × Int)} (h : ¬ (n < 0 ∨ 64 < n)) (h2 : ¬ n * n < es.length) (h3 : es.all (okE n) = false) : checkG n es = 2 := by
  unfold checkG; rw [if_neg h, if_neg h2, if_pos h3]
theorem checkG_order {n : Int} {es : List (Int × Int)} {i : Nat} {a b : Int × Int} (h : ¬ (n < 0 ∨ 64 < n)) (h2 : (es.length : Int) ≤ n * n) (h3 : es.all (okE n) = true) (ha : es[i]? = some a) (hb : es[i + 1]? = some b) (hc : 0 ≤ cmpE a b) : checkG n es = 8 := by
  unfold checkG
  rw [if_neg h, if_neg (by omega), if_neg (by simp [h3]), if_pos]
  cases e : ordE es with
  | false => rfl
  | true => have := (ordE_iff es).1 e i a b ha hb; omega
theorem checkG_ok {n : Int} {es : List (Int × Int)} {k : Nat} (h : ¬ (n < 0 ∨ 64 < n)) (h2 : (es.length : Int) ≤ n * n) (h3 : es.all (okE n) = true) (hk : es.length ≤ k) (ho : ∀ i a b, i + 1 < k → es[i]? = some a → es[i + 1]? = some b → cmpE a b < 0) : checkG n es = 0 := by
  unfold checkG
  rw [if_neg h, if_neg (by omega), if_neg (by simp [h3]), if_neg]
  rw [Bool.not_eq_false, ordE_iff]
  intro i a b ha hb
  refine ho i a b ?_ ha hb
  rcases Nat.lt_or_ge (i + 1) es.length with h4 | h4
  · omega
  · rw [List.getElem?_eq_none h4] at hb; cases hb
theorem edgesE_cases (n : Int) (es : List (Int × Int)) : (edgesE n es = 0 ∧ es.all (okE n) = true) ∨ (edgesE n es = 2 ∧ es.all (okE n) = false) := by
  unfold edgesE
  cases h : es.all (okE n) <;> simp
theorem sort_up {es : List (Int × Int)} {k : Nat} {a b : Int × Int} (h0 : 0 < k) (ha : es[k - 1]? = some a) (hb : es[k]? = some b) (hc : cmpE a b < 0) (ho : ∀ i a b, i + 1 < k → es[i]? = some a → es[i + 1]? = some b → cmpE a b < 0) :
    ∀ i a b, i + 1 < k + 1 → es[i]? = some a → es[i + 1]? = some b → cmpE a b < 0 := by
  intro i x y hi hx hy
  by_cases h : i + 1 = k
  · obtain rfl : i = k - 1 := by omega
    rw [ha] at hx
    rw [h, hb] at hy
    injection hx with hx
    injection hy with hy
    subst hx hy
    exact hc
  · exact ho i x y (by omega) hx hy
set_option maxRecDepth 100000 in
set_option maxHeartbeats 4000000 in
theorem check_any (n : Int) (A : Option Addr) (m c : Nat) (es : List (Int × Int)) (w : World) (h : EL w A m es) (hm : m ≤ 4611686018427387904) :
    Calls Tryd.prog 21 #[gV n A m c] w fun e w' => e = .returned (.int .i64 (checkG n es)) ∧ Below w.heap.size w w' := by
  have hlen := h.1
  have kv := (Below.refl w.heap.size w).alloc (Nat.le_refl _) (.cells #[.int .i64 n, .slice A m c] 26)
  have H := Lib.hid (h.keep kv)
  have G0 := Lib.hid (Cells.new w #[.int .i64 n, .slice A m c] 26)
  have B0 := Lib.hid kv
  have hnl := Nat.le_of_eq hlen
  have hnl2 := Nat.le_of_eq hlen.symm
  obtain ⟨w0, hw0⟩ : ∃ u, w.alloc (.cells #[.int .i64 n, .slice A m c] 26) = u := ⟨_, rfl⟩
  obtain ⟨p, hp⟩ : ∃ p, w.heap.size = p := ⟨_, rfl⟩
  rw [hw0] at H G0 B0
  rw [hp] at G0 B0
  rw [hp]
  have hpz : p ≤ w0.heap.size := by have := B0.out.size; rw [hp] at this; exact this
  have c0 := G0.out.at_ 0
  have c1 := G0.out.at_ 1
  simp only [List.getElem?_cons_zero, List.getElem?_cons_succ] at c0 c1
  clear h kv
  by_cases h1 : n < 0
  · have t1 : decide (n < 0) = true := decide_eq_true h1
    have Hf := Lib.hid (checkG_range (es := es) (.inl h1))
    clear h1 hlen
    go_enter Tryd.func21, Tryd.ntmps21
    go_wp2_with fail
    go_ret
    exact ⟨ret_int Hf.out.symm, B0.out⟩
  · have t1 : decide (n < 0) = false := decide_eq_false h1
    by_cases h2 : 64 < n
    · have t2 : decide (64 < n) = true := decide_eq_true h2
      have Hf := Lib.hid (checkG_range (es := es) (.inr h2))
      clear h1 h2 hlen
      go_enter Tryd.func21, Tryd.ntmps21
      go_wp2_with fail
      go_ret
      exact ⟨ret_int Hf.out.symm, B0.out⟩
    · have t2 : decide (64 < n) = false := decide_eq_false h2
      have hr : ¬ (n < 0 ∨ 64 < n) := by omega
      have Hr := Lib.hid hr
      obtain ⟨q0, q1⟩ := sq_bd (n := n) (by omega) (by omega)
      by_cases h3 : n * n < m
      · have t3 : decide (n * n < m) = true := decide_eq_true h3
        have Hf := Lib.hid (checkG_limit (es := es) hr (by rw [hlen]; exact h3))
        clear h1 h2 hlen h3 hr
        go_enter Tryd.func21, Tryd.ntmps21
        go_wp2_with fail
        go_ret
        exact ⟨ret_int Hf.out.symm, B0.out⟩
      · have t3 : decide (n * n < m) = false := decide_eq_false h3
        have H3 := Lib.hid (show ¬ n * n < es.length by rw [hlen]; exact h3)
        have HE := Lib.hid (checkEdges_any n A m c es w0 H.out hm)
        rcases edgesE_cases n es with ⟨he, ha⟩ | ⟨he, ha⟩
        · rw [he] at HE
          have Ha := Lib.hid ha
          clear h1 h2 h3 hr he ha hlen
          go_enter Tryd.func21, Tryd.ntmps21
          go_wp2_with fail
          refine HE.out.mono ?_
          rintro e w1 ⟨rfl, hb1⟩
          have K0 := Lib.hid (fun w' (h : Below w0.heap.size w0 w') => B0.out.trans (h.mono hpz))
          have B1 := Lib.hid hb1
          clear hb1
          go_wp2_with fail
          go_loopw [4] (fun i wr => ∃ k : Nat, 0 < k ∧ i = .int .i64 (k : Nat) ∧ (1 < k → k ≤ m) ∧ (∀ i a b, i + 1 < k → es[i]? = some a → es[i + 1]? = some b → cmpE a b < 0) ∧ Below w0.heap.size w0 wr) (fun i _ => m - (intOf i).toNat)
          case atStart => exact ⟨1, by omega, rfl, by omega, fun i a b h => by omega, B1.out⟩
          case round =>
            obtain ⟨k, hk0, rfl, hkm, ho, hb⟩ := hrel
            have Ho := Lib.hid ho
            have Hb := Lib.hid hb
            have g0 := (G0.out.keep hb).at_ 0
            have g1 := (G0.out.keep hb).at_ 1
            simp only [List.getElem?_cons_zero, List.getElem?_cons_succ] at g0 g1
            clear ho hb
            by_cases hlt : k < m
            · obtain ⟨a, b, o, hea, rfl, _, a0, a1⟩ := (H.out.keep Hb.out).at_ (show k - 1 < m by omega)
              obtain ⟨a', b', o', heb, hA, _, b0, b1⟩ := (H.out.keep Hb.out).at_ hlt
              injection hA with hA
              injection hA with hA1 hA2
              subst hA1 hA2
              have e1 : ((k : Int) - 1).toNat = k - 1 := by omega
              have Hea := Lib.hid hea
              have Heb := Lib.hid heb
              have HC := Lib.hid (fun w => compare_any a a' w)
              clear hea heb
              have ew : IntKind.i64.wrap ((k : Int) - 1) = (k : Int) - 1 := IntWalk.i64_in _ (by omega)
              have i0 : (1 : Int) ≤ (k : Int) := by omega
              have i1 : (0 : Int) ≤ (k : Int) - 1 := by omega
              have i2 : (k : Int) - 1 < m := by omega
              go_wp2_with fail
              go_still_tail 11, (by kernel_rfl)
              change wpList _ _ _ _ _ wr.drew
              go_wp2_with fail
              refine (HC.out _).mono ?_
              rintro e w2 ⟨rfl, hb2⟩
              have Hb2 := Lib.hid (below_on Hb.out.drew hb2)
              clear hb2
              by_cases hc : cmpE a a' < 0
              · have Hs := Lib.hid (sort_up hk0 Hea.out Heb.out hc Ho.out)
                go_wp2_with fail
                go_roundw
                case rel => exact ⟨k + 1, by omega, by go_num, by omega, Hs.out, Hb2.out⟩
                case measure => simp [intOf]; omega
              · have hc' : 0 ≤ cmpE a a' := by omega
                have Hf := Lib.hid (checkG_order Hr.out H3.out Ha.out Hea.out (by rw [show k - 1 + 1 = k by omega]; exact Heb.out) hc')
                go_wp2_with fail
                go_ret
                exact ⟨ret_int Hf.out.symm, K0.out _ Hb2.out⟩
            · have Hf := Lib.hid (checkG_ok (k := k) Hr.out H3.out Ha.out (by omega) Ho.out)
              go_wp2_with fail
              go_ret
              exact ⟨ret_int Hf.out.symm, K0.out _ Hb.out⟩
        · rw [he] at HE
          have Hf := Lib.hid (checkG_edge hr H3.out ha)
          clear h1 h2 h3 hr he ha hlen
          go_enter Tryd.func21, Tryd.ntmps21
          go_wp2_with fail
          refine HE.out.mono ?_
          rintro e w1 ⟨rfl, hb1⟩
          have B1 := Lib.hid (B0.out.trans (hb1.mono hpz))
          clear hb1
          go_wp2_with fail
          go_ret
          exact ⟨ret_int Hf.out.symm, B1.out⟩
end Go.Proofs.YthocdmlacfejkaaDoor
