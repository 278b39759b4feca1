/- The reference's verdict on a list of nodes. -/
import Derived.Test.YthocdmlacfejkaaDoorME
import Derived.StillTailTactics
namespace Go.Proofs.YthocdmlacfejkaaDoor
open Go.RowKit
attribute [local irreducible] wpStill
set_option maxRecDepth 100000 in
set_option maxHeartbeats 8000000 in
theorem refNodes_any (n : Nat) (A : Option Addr) (m c : Nat) (B : Option Addr) (d : Nat) (l : List Int) (w : World) (hl : IL w B l) (hll : l.length ≤ 1000000) (_hn64 : n ≤ 64) :
    Calls Tryd.prog 32 #[gV n A m c, .slice B l.length d] w fun e w' => e = .returned (.int .i64 (errN n l)) ∧ Below w.heap.size w w' := by
  have kv := (Below.refl w.heap.size w).alloc (Nat.le_refl _) (.cells #[.int .i64 (n : Nat), .slice A m c] 35)
  have G0 := Lib.hid (Cells.new w #[.int .i64 (n : Nat), .slice A m c] 35)
  have L0 := Lib.hid hl
  have kv := Lib.hid kv
  clear hl
  go_enter Tryd.func32, Tryd.ntmps32
  go_wp2_with fail
  go_loopw [5] (fun i wr => ∃ k : Nat, i = .int .i64 (k : Nat) ∧ k ≤ l.length ∧ (l.take k).all (inN n) = true ∧ Cells wr w.heap.size [.int .i64 (n : Nat), .slice A m c] ∧ Below w.heap.size w wr) (fun i _ => l.length - (intOf i).toNat)
  case atStart => exact ⟨0, rfl, Nat.zero_le _, rfl, G0.out, kv.out⟩
  case round =>
    obtain ⟨k, rfl, hk, hall, hgc, hb⟩ := hrel
    have Hall := Lib.hid hall
    have B6 := Lib.hid hb
    have G6 := Lib.hid hgc
    have L6 := Lib.hid (L0.out.keep hb)
    clear hall hb hgc
    obtain ⟨wa, rfl⟩ : ∃ wa : World, wa = wr := ⟨_, rfl⟩
    by_cases hlt : k < l.length
    · obtain ⟨x, b, o, hx, rfl, _, hcell⟩ := L6.out.at_ hlt
      have Hlt := Lib.hid hlt
      have Hx := Lib.hid hx
      have g0 := G6.out.at_ 0
      simp only [List.getElem?_cons_zero] at g0
      clear hx
      by_cases h0 : x < 0
      · have t0 : decide (x < 0) = true := decide_eq_true h0
        have He := Lib.hid (nds_bad (n := n) Hx.out (by unfold inN; simp; omega))
        clear h0
        go_wp2_with fail
        go_still_tail 13, (by kernel_rfl)
        change wpList _ _ _ _ _ wa.drew
        go_wp2_with fail
        go_ret
        exact ⟨by rw [He.out]; rfl, B6.out.drew⟩
      · have t0 : decide (x < 0) = false := decide_eq_false h0
        by_cases h1 : (n : Int) ≤ x
        · have t1 : decide ((n : Int) ≤ x) = true := decide_eq_true h1
          have He := Lib.hid (nds_bad (n := n) Hx.out (by unfold inN; simp; omega))
          clear h0 h1
          go_wp2_with fail
          go_still_tail 13, (by kernel_rfl)
          change wpList _ _ _ _ _ wa.drew
          go_wp2_with fail
          go_ret
          exact ⟨by rw [He.out]; rfl, B6.out.drew⟩
        · have t1 : decide ((n : Int) ≤ x) = false := decide_eq_false h1
          have Ha := Lib.hid (show (l.take (k + 1)).all (inN n) = true by
            rw [List.take_add_one, Hx.out, List.all_append, Hall.out]
            simp [inN]
            omega)
          clear h0 h1
          go_wp2_with fail
          go_still_tail 13, (by kernel_rfl)
          change wpList _ _ _ _ _ wa.drew
          go_wp2_with fail
          go_roundw
          case rel => exact ⟨k + 1, by go_num, Hlt.out, Ha.out, G6.out.drew, B6.out.drew⟩
          case measure => simp [intOf]; have := Hlt.out; omega
    · have hjl : l.take k = l := List.take_of_length_le (by omega)
      rw [hjl] at Hall
      clear hjl
      go_wp2_with fail
      clear hlt
      go_loopw [6] (fun i wq => ∃ q : Nat, i = .int .i64 (q : Nat) ∧ 1 ≤ q ∧ q ≤ l.length + 1 ∧ (∀ i a b, i + 1 < q → l[i]? = some a → l[i + 1]? = some b → a < b) ∧ Below w.heap.size w wq) (fun i _ => l.length - (intOf i).toNat)
      case atStart => exact ⟨1, rfl, Nat.le_refl _, by omega, fun i a b h => by omega, B6.out⟩
      case round =>
        obtain ⟨q, rfl, hq1, hq2, hord, hb⟩ := hrel
        have Ho := Lib.hid hord
        have B7 := Lib.hid hb
        have L7 := Lib.hid (L0.out.keep hb)
        clear hord hb
        obtain ⟨wz, rfl⟩ : ∃ wz : World, wz = wr := ⟨_, rfl⟩
        by_cases hlt : q < l.length
        · obtain ⟨x, b, o, hx, rfl, _, hcell⟩ := L7.out.at_ hlt
          obtain ⟨y, b2, o2, hy, hbb, _, hcell2⟩ := L7.out.at_ (k := q - 1) (by omega)
          cases hbb
          have ew : IntKind.i64.wrap ((q : Int) - 1) = (q : Int) - 1 := IntWalk.i64_in _ (by omega)
          have i1 : (1 : Int) ≤ (q : Int) := by omega
          have i2 : (q : Int) - 1 < l.length := by omega
          have i3 : ((q : Int) - 1).toNat = q - 1 := by omega
          have Hlt := Lib.hid hlt
          have Hx := Lib.hid hx
          have Hy := Lib.hid hy
          clear hx hy
          by_cases h0 : x ≤ y
          · have t0 : decide (x ≤ y) = true := decide_eq_true h0
            have He := Lib.hid (nds_order (k := q - 1) Hall.out Hy.out (by rw [show q - 1 + 1 = q by omega]; exact Hx.out) h0)
            clear h0
            go_wp2_with fail
            go_still_tail 9, (by kernel_rfl)
            change wpList _ _ _ _ _ wz.drew
            go_wp2_with fail
            go_ret
            exact ⟨by rw [He.out]; rfl, B7.out.drew⟩
          · have t0 : decide (x ≤ y) = false := decide_eq_false h0
            have Hu := Lib.hid (nds_up (k := q) (by omega) Hy.out Hx.out (by omega) Ho.out)
            clear h0
            go_wp2_with fail
            go_still_tail 9, (by kernel_rfl)
            change wpList _ _ _ _ _ wz.drew
            go_wp2_with fail
            go_roundw
            case rel => exact ⟨q + 1, by go_num, by omega, by have := Hlt.out; omega, Hu.out, B7.out.drew⟩
            case measure => simp [intOf]; have := Hlt.out; omega
        · have He := Lib.hid (nds_ok (n := n) (k := q) Hall.out (by omega) Ho.out)
          go_wp2_with fail
          go_ret
          exact ⟨by rw [He.out]; rfl, B7.out⟩
end Go.Proofs.YthocdmlacfejkaaDoor
