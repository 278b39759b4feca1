/- Graph: Fin, Eqe. -/
import Derived.Test.YthocdmlacfejkaaDoorMFb
import Derived.Test.YthocdmlacfejkaaDoorMC
namespace Go.Proofs.YthocdmlacfejkaaDoor
open Go.RowKit
def fineG (n : Int) (m : Nat) (es : List (Int × Int)) : Bool := fewG n m && decide (checkG n es = 0)
set_option maxRecDepth 100000 in
set_option maxHeartbeats 8000000 in
theorem fine_any (n : Int) (A : Option Addr) (m c : Nat) (es : List (Int × Int)) (w : World) (h : EL w A m es) :
    Calls Tryd.prog 39 #[gV n A m c] w fun e w' => e = .returned (.bool (fineG n m es)) ∧ Below w.heap.size w w' := by
  have kv := (Below.refl w.heap.size w).alloc (Nat.le_refl _) (.cells #[.int .i64 n, .slice A m c] 26)
  have HE := Lib.hid (fun w' (hb : Below w.heap.size w w') => h.keep hb)
  have G0 := Lib.hid (Cells.new w #[.int .i64 n, .slice A m c] 26)
  have kv := Lib.hid kv
  unfold fineG
  have HF := few_any n A m c (w.alloc (.cells #[.int .i64 n, .slice A m c] 26))
  obtain ⟨fb, hfb⟩ : ∃ fb, fewG n m = fb := ⟨_, rfl⟩
  rw [hfb] at HF ⊢
  have HF := Lib.hid HF
  clear h
  go_enter Tryd.func39, Tryd.ntmps39
  have g0 := G0.out.at_ 0
  have g1 := G0.out.at_ 1
  simp only [List.getElem?_cons_zero, List.getElem?_cons_succ] at g0 g1
  go_wp2_with fail
  refine HF.out.mono ?_
  rintro e w2 ⟨rfl, hb2⟩
  have G2 := Lib.hid (G0.out.keep hb2)
  have B2 := Lib.hid (below_on kv.out hb2)
  clear hb2 g0 g1
  cases fb with
  | false =>
    clear hfb
    go_wp2_with fail
    go_ret
    exact ⟨rfl, B2.out⟩
  | true =>
    have hm : m ≤ 24 := by unfold fewG at hfb; simp at hfb; exact hfb.1
    have hM := Lib.hid (show m ≤ 4611686018427387904 by omega)
    have hM2 := Lib.hid (show m ≤ 100000 by omega)
    clear hfb hm
    have g0 := G2.out.at_ 0
    have g1 := G2.out.at_ 1
    simp only [List.getElem?_cons_zero, List.getElem?_cons_succ] at g0 g1
    go_wp2_with fail
    refine (plain_any n A m c es w2 (HE.out _ B2.out) hM2.out).mono ?_
    rintro e w3 ⟨P3, d3, rfl, hE3, hb3⟩
    have B3 := Lib.hid (below_on B2.out hb3)
    have HR := Lib.hid (refCheck_any n P3 m d3 es w3 hE3 hM.out)
    clear hb3 hE3 g0 g1
    go_wp2_with fail
    refine HR.out.mono ?_
    rintro e w4 ⟨rfl, hb4⟩
    have B4 := Lib.hid (below_on B3.out hb4)
    clear hb4
    go_wp2_with fail
    go_ret
    exact ⟨ret_bool (by rw [Bool.eq_iff_iff, beq_iff_eq, Bool.true_and, decide_eq_true_eq]), B4.out⟩
def chs (n b : Nat) : List Nat := (List.range (min n 8)).filter fun v => b.testBit v
theorem bit_u8 : ∀ b : Nat, b < 256 → ∀ k : Nat, k < 8 → (bits .and .u8 ((b : Int) / 2 ^ k) 1 == 1) = b.testBit k := by decide +kernel
theorem chs_up (k b : Nat) (h : k < 8) : chs (k + 1) b = chs k b ++ if b.testBit k then [k] else [] := by
  unfold chs
  rw [Nat.min_eq_left (by omega), Nat.min_eq_left (by omega), List.range_succ, List.filter_append, List.filter_cons]
  cases b.testBit k <;> rfl
theorem chs_len (n b : Nat) : (chs n b).length ≤ 8 := by
  unfold chs
  have := List.length_filter_le (fun v => b.testBit v) (List.range (min n 8))
  rw [List.length_range] at this
  omega
set_option maxRecDepth 100000 in
set_option maxHeartbeats 8000000 in
theorem chosen_any (n b : Nat) (A : Option Addr) (m c : Nat) (w : World) (hn : n ≤ 8) (hb : b < 256) :
    Calls Tryd.prog 40 #[gV n A m c, .int .u8 b] w fun e w' => ∃ v, e = .returned v ∧ w'.ownsRow w.heap.size 3 1 v (chs n b).length (nats (chs n b)) ∧ Below w.heap.size w w' := by
  obtain ⟨i0, hi, hz0, hz1, hz2⟩ := info_parts info_int
  have kv := (Below.refl w.heap.size w).alloc (Nat.le_refl _) (.cells #[.int .i64 (n : Nat), .slice A m c] 26)
  have G0 := Lib.hid (Cells.new w #[.int .i64 (n : Nat), .slice A m c] 26)
  have kv := Lib.hid kv
  have hni : min (n : Int) 8 = n := by omega
  go_enter Tryd.func40, Tryd.ntmps40
  have g0 := G0.out.at_ 0
  simp only [List.getElem?_cons_zero] at g0
  go_wp2_with fail
  go_loopw [5, 6, 10] (fun v _ i wr => ∃ k : Nat, i = .int .i64 (k : Nat) ∧ k ≤ n ∧ wr.ownsRow w.heap.size 3 1 v (chs k b).length (nats (chs k b)) ∧ Below w.heap.size w wr) (fun _ _ i _ => n - (intOf i).toNat)
  case atStart => exact ⟨0, rfl, Nat.zero_le _, World.ownsRow_nil _ _ _ _, kv.out⟩
  case round =>
    obtain ⟨k, rfl, hk, hown, hbw⟩ := hrel
    have O6 := Lib.hid hown
    have B6 := Lib.hid hbw
    have hsz := hbw.size
    clear hown hbw
    by_cases hlt : k < n
    · have t0 := bit_u8 b hb k (by omega)
      have hup := chs_up k b (by omega)
      have hfl := chs_len k b
      have Hlt := Lib.hid hlt
      have Hfl := Lib.hid hfl
      clear hfl
      cases ht : b.testBit k with
      | true =>
        rw [ht] at t0 hup
        have Hup := Lib.hid hup
        clear ht hup
        go_wp2_with (at_builtin; refine wpList_append_own _ rfl _ _ 50 rfl w.heap.size 3 i0 (.int .i64 0) 1 8 Tryd.underlying50 hi hz0 hz1 hz2 rfl (by decide) _ _ _ rfl (O6.out.alloc _) ⟨wr.heap.size, 0, none⟩ 1 1 [.int .i64 (k : Nat)] rfl rfl ?c1 ?c2 ?c3 ?c4 ?c5 ?_)
        case c2 => rfl
        case c3 => unfold maxLen; have := Hfl.out; omega
        case c4 => have := Hfl.out; omega
        case c5 => omega
        intro v' w3 hown' hgrow _
        have B7 := Lib.hid ((B6.out.alloc hsz (.cells #[.int .i64 (k : Nat)] 3)).grown hgrow (by simp; omega) (fun k hk => own_ge O6.out hk))
        have O7 := Lib.hid (show w3.ownsRow w.heap.size 3 1 v' (chs (k + 1) b).length (nats (chs (k + 1) b)) by
          rw [Hup.out, if_pos trivial, List.length_append, nats_snoc]; exact hown')
        clear hown' hgrow
        go_wp2_with fail
        go_roundw
        case rel => exact ⟨k + 1, by go_num, Hlt.out, O7.out, B7.out⟩
        case measure => simp [intOf]; have := Hlt.out; omega
      | false =>
        rw [ht] at t0 hup
        have O7 := Lib.hid (show wr.ownsRow w.heap.size 3 1 _ (chs (k + 1) b).length (nats (chs (k + 1) b)) by
          rw [hup, if_neg (by simp), List.append_nil]; exact O6.out)
        clear ht hup
        go_wp2_with fail
        go_roundw
        case rel => exact ⟨k + 1, by go_num, Hlt.out, O7.out, B6.out⟩
        case measure => simp [intOf]; have := Hlt.out; omega
    · have hkn : k = n := by omega
      subst hkn
      go_wp2_with fail
      go_ret
      exact ⟨_, rfl, O6.out, B6.out⟩
end Go.Proofs.YthocdmlacfejkaaDoor
namespace Go.Proofs.YthocdmlacfejkaaDoor
open Go.RowKit
attribute [local irreducible] wpStill
theorem el_nil {w : World} {A : Option Addr} {n : Nat} {xs : List (Int × Int)} (h : EL w A n xs) : xs.length = n := h.1
set_option maxRecDepth 100000 in
set_option maxHeartbeats 8000000 in
theorem equalE_any (A B : Option Addr) (n c m d : Nat) (xs ys : List (Int × Int)) (w : World) (hx : EL w A n xs) (hy : EL w B m ys) (hn : n ≤ 1000000) (hm : m ≤ 1000000) :
    Calls Tryd.prog 46 #[.slice A n c, .slice B m d] w fun e w' => e = .returned (.bool (xs == ys)) ∧ Below w.heap.size w w' := by
  have hxl := hx.1
  have hyl := hy.1
  have Hx := Lib.hid hx
  have Hy := Lib.hid hy
  clear hx hy
  by_cases hl : n = m
  · subst hl
    have Hxl := Lib.hid hxl
    have Hyl := Lib.hid hyl
    obtain ⟨r, hr⟩ : ∃ r, (xs == ys) = r := ⟨_, rfl⟩
    have Hr := Lib.hid hr
    have t0 : ((n : Int) != (n : Int)) = false := by simp
    rw [hr]
    clear hxl hyl hr
    go_enter Tryd.func46, Tryd.ntmps46
    go_wp2_with fail
    go_loopw [5, 13] (fun _ i wr => ∃ k : Nat, i = .int .i64 (k : Nat) ∧ k ≤ n ∧ xs.take k = ys.take k ∧ Below w.heap.size w wr) (fun _ i _ => n - (intOf i).toNat)
    case atStart => exact ⟨0, rfl, Nat.zero_le _, by simp, Below.refl _ _⟩
    case round =>
      obtain ⟨k, rfl, hk, he, hb⟩ := hrel
      have He := Lib.hid he
      have B6 := Lib.hid hb
      clear he hb
      obtain ⟨wa, rfl⟩ : ∃ wa : World, wa = wr := ⟨_, rfl⟩
      by_cases hlt : k < n
      · obtain ⟨⟨x0, x1⟩, b, o, hxk, rfl, _, c0, c1⟩ := (Hx.out.keep B6.out).at_ hlt
        obtain ⟨⟨y0, y1⟩, b2, o2, hyk, rfl, _, d0, d1⟩ := (Hy.out.keep B6.out).at_ hlt
        simp only at c0 c1 d0 d1
        have Hlt := Lib.hid hlt
        have Hxk := Lib.hid hxk
        have Hyk := Lib.hid hyk
        clear hxk hyk
        by_cases h0 : x0 = y0 ∧ x1 = y1
        · obtain ⟨rfl, rfl⟩ := h0
          go_wp2_with fail
          go_still_tail 8, (by kernel_rfl)
          change wpList _ _ _ _ _ wa.drew
          go_wp2_with fail
          go_roundw
          case rel => exact ⟨k + 1, by go_num, Hlt.out, by rw [List.take_add_one, List.take_add_one, He.out, Hxk.out, Hyk.out], B6.out.drew⟩
          case measure => simp [intOf]; have := Hlt.out; omega
        · have hne : (xs == ys) = false := by
            rw [beq_eq_false_iff_ne]
            intro e
            have h1 := Hxk.out
            rw [e, Hyk.out] at h1
            injection h1 with h1
            injection h1 with h1 h2
            exact h0 ⟨h1.symm, h2.symm⟩
          have Hf := Lib.hid (Hr.out.symm.trans hne)
          clear hne
          by_cases h1 : x0 = y0
          · subst h1
            have h2 : ¬ x1 = y1 := fun e => h0 ⟨rfl, e⟩
            have t2 : (x1 == y1) = false := by rw [beq_eq_false_iff_ne]; exact h2
            clear h0
            go_wp2_with fail
            go_still_tail 8, (by kernel_rfl)
            change wpList _ _ _ _ _ wa.drew
            go_wp2_with fail
            go_ret
            exact ⟨ret_bool Hf.out.symm, B6.out.drew⟩
          · have t2 : (x0 == y0) = false := by rw [beq_eq_false_iff_ne]; exact h1
            clear h0
            go_wp2_with fail
            go_still_tail 8, (by kernel_rfl)
            change wpList _ _ _ _ _ wa.drew
            go_wp2_with fail
            go_ret
            exact ⟨ret_bool Hf.out.symm, B6.out.drew⟩
      · have Hf := Lib.hid (show r = true by
          have h1 := He.out
          rw [List.take_of_length_le (by rw [Hxl.out]; omega), List.take_of_length_le (by rw [Hyl.out]; omega)] at h1
          rw [← Hr.out, h1]; simp)
        go_wp2_with fail
        go_ret
        exact ⟨ret_bool Hf.out.symm, B6.out⟩
  · have t0 : ((n : Int) != (m : Int)) = true := by simp; omega
    have hz : (xs == ys) = false := by
      rw [beq_eq_false_iff_ne]
      intro e
      exact hl (by rw [← hxl, ← hyl, e])
    rw [hz]
    clear hz hl hxl hyl
    go_enter Tryd.func46, Tryd.ntmps46
    go_wp2_with fail
    go_ret
    exact ⟨rfl, Below.refl _ _⟩
end Go.Proofs.YthocdmlacfejkaaDoor
