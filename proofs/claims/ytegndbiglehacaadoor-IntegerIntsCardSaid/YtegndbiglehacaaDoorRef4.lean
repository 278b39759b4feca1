/- The reference's minus. -/
import Derived.Test.YtegndbiglehacaaDoorRef3
namespace Go.Proofs.YtegndbiglehacaaDoor
open Go.RowKit

def MinusInv (w0 : World) (xs ys : List Int) (vo vb vi : Value) (wr : World) : Prop :=
  ∃ (l : List Int) (b : Int), vi = .int .i64 (l.length : Nat) ∧ vb = .int .i64 b ∧ 0 ≤ b ∧ b ≤ 1 ∧ Dig l ∧ dval l + dval (ys.take l.length) = dval (xs.take l.length) + ten l.length * b.toNat ∧ l.length ≤ xs.length ∧ wr.ownsRow w0.heap.size 3 1 vo l.length (ints l) ∧ Below w0.heap.size w0 wr
theorem minus_step {w0 wr w1 : World} {xs ys l : List Int} {x y b s d : Int} {u v' : Value} (hx : xs.getD l.length 0 = x) (hy : ys.getD l.length 0 = y) (hx0 : 0 ≤ x) (hx9 : x ≤ 9) (hy0 : 0 ≤ y) (hy9 : y ≤ 9) (hb0 : 0 ≤ b) (hb1 : b ≤ 1) (hs : s + y + b = x + 10 * d) (hd0 : 0 ≤ d) (hd1 : d ≤ 1) (hs0 : 0 ≤ s) (hs9 : s ≤ 9)
    (hdig : Dig l) (hv : dval l + dval (ys.take l.length) = dval (xs.take l.length) + ten l.length * b.toNat) (hlen : l.length < xs.length)
    (hown : wr.ownsRow w0.heap.size 3 1 u l.length (ints l)) (hown' : w1.ownsRow w0.heap.size 3 1 v' (l.length + 1) (ints l ++ [.int .i64 s]))
    (hgrow : (wr.alloc (.cells #[.int .i64 s] 3)).grownBy w1 u.ownBlock) (hbel : Below w0.heap.size w0 wr) : MinusInv w0 xs ys v' (.int .i64 d) (.int .i64 ((l.length : Int) + 1)) w1 := by
  refine ⟨l ++ [s], d, by simp, rfl, hd0, hd1, dig_snoc hdig hs0 hs9, ?_, by simp; omega, by simpa [ints] using hown', (hbel.alloc hbel.size _).grown hgrow (by simp; have := hbel.size; omega) (fun k hk => own_ge hown hk)⟩
  rw [dval_snoc, List.length_append, List.length_singleton, ten_succ, take_upD hx, take_upD hy]
  have e2 : ten l.length * x.toNat + 10 * ten l.length * d.toNat = ten l.length * (s.toNat + y.toNat + b.toNat) := by
    rw [show s.toNat + y.toNat + b.toNat = x.toNat + 10 * d.toNat by omega]
    simp only [Nat.mul_add, Nat.mul_assoc, Nat.mul_left_comm]
  rw [Nat.mul_add, Nat.mul_add] at e2
  omega
theorem minus_end {xs ys l : List Int} {b : Int} {k : Nat} (hk : l.length = k) (hxk : xs.length = k) (hyk : ys.length ≤ k) (hb0 : 0 ≤ b) (hb1 : b ≤ 1) (hl : Dig l) (hv : dval l + dval (ys.take l.length) = dval (xs.take l.length) + ten l.length * b.toNat) (hle : dval ys ≤ dval xs) : dval l = dval xs - dval ys := by
  rw [hk, List.take_of_length_le (by omega), List.take_of_length_le (by omega)] at hv
  have h1 := dval_lt hl
  rw [hk] at h1
  have hb : b = 0 ∨ b = 1 := by omega
  rcases hb with h | h <;> subst h <;> simp at hv <;> omega

theorem own_none {w : World} {base : Nat} {e : TypeId} {A : Option Addr} {n m c : Nat} {xs : List Value} (h : w.ownsRow base e 1 (.slice A m c) n xs) (hA : A = none) : c = 0 := by
  rcases h.2 with ⟨h, _⟩ | ⟨g, cap, cur, h, _⟩
  · injection h
  · injection h with h1; rw [hA] at h1; cases h1
set_option maxRecDepth 100000 in
set_option maxHeartbeats 8000000 in
theorem refMinus_nil {A A' : Option Addr} {n c n' c' m m' : Nat} {xs ys : List Int} (w : World) (hx : IsDig w A n c xs m) (hy : IsDig w A' n' c' ys m') (hle : m' ≤ m) (hn : n < 100000) :
    Calls Tryd.prog 59 #[.slice A n c, .slice A' n' c'] w fun e w' => ∃ (A3 : Option Addr) (n3 c3 : Nat), e = .returned (.slice A3 n3 c3) ∧ IsDig w' A3 n3 c3 (digN (m - m')) (m - m') ∧ n3 < 100000 ∧ Below w.heap.size w w' ∧ (A3 = none → c3 = 0) ∧ (∀ a : Addr, A3 = some a → w.heap.size ≤ a.block) := by
  obtain ⟨i0, hi, hz0, hz1, hz2⟩ := info_parts info_int
  have hxv := hx.val
  have hyv := hy.val
  have hnn : n' ≤ n := by
    rcases Nat.lt_or_ge n n' with h | h
    · exfalso
      have := cmpD_len hx.dig hy.tight (by rw [hx.size, hy.size]; exact h)
      omega
    · exact h
  have HX := Lib.hid (hx.ds hn)
  have HY := Lib.hid (hy.ds (by omega))
  have Hxv := Lib.hid hxv
  have Hyv := Lib.hid hyv
  have hcl := hx.isl.2.1
  have hcl' := hy.isl.2.1
  clear hx hy hxv hyv
  go_enter Tryd.func59, Tryd.ntmps59
  go_wp2_with fail
  go_loopw [5, 6, 7] (fun vo vb vi wr => MinusInv w xs ys vo vb vi wr) (fun _ _ vi _ => n - (intOf vi).toNat)
  case atStart => exact ⟨[], 0, rfl, rfl, by decide, by decide, fun d hd => absurd hd (by simp), rfl, Nat.zero_le _, World.ownsRow_nil _ _ _ _, Below.refl _ _⟩
  case round =>
    obtain ⟨l, b, rfl, rfl, hb0, hb1', hdig, hv, hll, hown, hbel⟩ := hrel
    have hsz := hbel.size
    have Hdig := Lib.hid hdig
    have Hv := Lib.hid hv
    have Hown := Lib.hid hown
    have Hbel := Lib.hid hbel
    have hxs := HX.out.size
    have hys := HY.out.size
    obtain ⟨k, hk⟩ : ∃ k, l.length = k := ⟨_, rfl⟩
    have hkn : k ≤ n := by omega
    have hlen : l.length ≤ 300000 := by omega
    have Hk := Lib.hid hk
    rw [hk]
    obtain ⟨x, hx⟩ : ∃ x, xs.getD k 0 = x := ⟨_, rfl⟩
    obtain ⟨y, hy⟩ : ∃ y, ys.getD k 0 = y := ⟨_, rfl⟩
    have hx0 := (getD_dig HX.out.dig k).1
    have hx9 := (getD_dig HX.out.dig k).2
    have hy0 := (getD_dig HY.out.dig k).1
    have hy9 := (getD_dig HY.out.dig k).2
    rw [hx] at hx0 hx9
    rw [hy] at hy0 hy9
    have Hxk := Lib.hid hx
    have Hyk := Lib.hid hy
    have Hx := Lib.hid (show xs.getD l.length 0 = x by rw [hk]; exact hx)
    have Hy := Lib.hid (show ys.getD l.length 0 = y by rw [hk]; exact hy)
    clear hdig hv hown hbel hk hx hy hxs hys hll
    by_cases ha : k < n
    · obtain ⟨b1, o1, rfl, hb1, hc1⟩ := HX.out.cell ha
      have cx := (Hbel.out.cell (p := ⟨b1, o1 + k, none⟩) hb1).trans hc1
      rw [Hxk.out] at cx
      clear hc1
      by_cases hb : k < n'
      · obtain ⟨b2, o2, rfl, hb2, hc2⟩ := HY.out.cell hb
        have cy := (Hbel.out.cell (p := ⟨b2, o2 + k, none⟩) hb2).trans hc2
        rw [Hyk.out] at cy
        clear hc2
        by_cases hneg : x - b - y < 0
        · skip
          go_wp2_with (at_builtin; refine wpList_append_own _ rfl _ _ 65 rfl w.heap.size 3 i0 (.int .i64 0) 1 8 Tryd.underlying65 hi hz0 hz1 hz2 rfl (by decide) _ _ _ rfl (Hown.out.alloc _) ⟨wr.heap.size, 0, none⟩ 1 1 [.int .i64 (x - b - y + 10)] rfl rfl (fun k u hu => by match k, hu with | 0, hu => simp at hu; subst hu; simp [Addr.add]) (fun u hu => by simp at hu; subst hu; rfl) (by unfold maxLen; omega) (by omega) (by simp; omega) ?_)
          intro v' w1 hown' hgrow _
          have hfin := minus_step (s := x - b - y + 10) (d := 1) Hx.out Hy.out (by omega) (by omega) (by omega) (by omega) hb0 hb1' (by omega) (by decide) (by decide) (by omega) (by omega) Hdig.out Hv.out (by rw [HX.out.size, Hk.out]; exact ha) Hown.out hown' hgrow Hbel.out
          rw [Hk.out] at hfin
          have Hfin := Lib.hid hfin
          clear hfin hown' hgrow
          go_wp2
          exact ⟨Hfin.out, by simp [intOf] <;> omega⟩
        · skip
          go_wp2_with (at_builtin; refine wpList_append_own _ rfl _ _ 65 rfl w.heap.size 3 i0 (.int .i64 0) 1 8 Tryd.underlying65 hi hz0 hz1 hz2 rfl (by decide) _ _ _ rfl (Hown.out.alloc _) ⟨wr.heap.size, 0, none⟩ 1 1 [.int .i64 (x - b - y)] rfl rfl (fun k u hu => by match k, hu with | 0, hu => simp at hu; subst hu; simp [Addr.add]) (fun u hu => by simp at hu; subst hu; rfl) (by unfold maxLen; omega) (by omega) (by simp; omega) ?_)
          intro v' w1 hown' hgrow _
          have hfin := minus_step (s := x - b - y) (d := 0) Hx.out Hy.out (by omega) (by omega) (by omega) (by omega) hb0 hb1' (by omega) (by decide) (by decide) (by omega) (by omega) Hdig.out Hv.out (by rw [HX.out.size, Hk.out]; exact ha) Hown.out hown' hgrow Hbel.out
          rw [Hk.out] at hfin
          have Hfin := Lib.hid hfin
          clear hfin hown' hgrow
          go_wp2
          exact ⟨Hfin.out, by simp [intOf] <;> omega⟩
      · have e0 : y = 0 := by rw [← Hyk.out]; simp [List.getD, List.getElem?_eq_none (by have := HY.out.size; omega : ys.length ≤ k)]
        subst e0
        by_cases hneg : x - b < 0
        · skip
          go_wp2_with (at_builtin; refine wpList_append_own _ rfl _ _ 65 rfl w.heap.size 3 i0 (.int .i64 0) 1 8 Tryd.underlying65 hi hz0 hz1 hz2 rfl (by decide) _ _ _ rfl (Hown.out.alloc _) ⟨wr.heap.size, 0, none⟩ 1 1 [.int .i64 (x - b + 10)] rfl rfl (fun k u hu => by match k, hu with | 0, hu => simp at hu; subst hu; simp [Addr.add]) (fun u hu => by simp at hu; subst hu; rfl) (by unfold maxLen; omega) (by omega) (by simp; omega) ?_)
          intro v' w1 hown' hgrow _
          have hfin := minus_step (s := x - b + 10) (d := 1) Hx.out Hy.out (by omega) (by omega) (by omega) (by omega) hb0 hb1' (by omega) (by decide) (by decide) (by omega) (by omega) Hdig.out Hv.out (by rw [HX.out.size, Hk.out]; exact ha) Hown.out hown' hgrow Hbel.out
          rw [Hk.out] at hfin
          have Hfin := Lib.hid hfin
          clear hfin hown' hgrow
          go_wp2
          exact ⟨Hfin.out, by simp [intOf] <;> omega⟩
        · skip
          go_wp2_with (at_builtin; refine wpList_append_own _ rfl _ _ 65 rfl w.heap.size 3 i0 (.int .i64 0) 1 8 Tryd.underlying65 hi hz0 hz1 hz2 rfl (by decide) _ _ _ rfl (Hown.out.alloc _) ⟨wr.heap.size, 0, none⟩ 1 1 [.int .i64 (x - b)] rfl rfl (fun k u hu => by match k, hu with | 0, hu => simp at hu; subst hu; simp [Addr.add]) (fun u hu => by simp at hu; subst hu; rfl) (by unfold maxLen; omega) (by omega) (by simp; omega) ?_)
          intro v' w1 hown' hgrow _
          have hfin := minus_step (s := x - b) (d := 0) Hx.out Hy.out (by omega) (by omega) (by omega) (by omega) hb0 hb1' (by omega) (by decide) (by decide) (by omega) (by omega) Hdig.out Hv.out (by rw [HX.out.size, Hk.out]; exact ha) Hown.out hown' hgrow Hbel.out
          rw [Hk.out] at hfin
          have Hfin := Lib.hid hfin
          clear hfin hown' hgrow
          go_wp2
          exact ⟨Hfin.out, by simp [intOf] <;> omega⟩
    · have Hval := Lib.hid (minus_end (k := n) (show l.length = n by have := Hk.out; omega) HX.out.size (by rw [HY.out.size]; exact hnn) hb0 hb1' Hdig.out Hv.out (by rw [Hxv.out, Hyv.out]; exact hle))
      obtain ⟨A3, c3, rfl, hisl, hc⟩ := own_isL Hown.out
      have Hnil := Lib.hid (own_none Hown.out)
      have Hlow := Lib.hid (fun (a : Addr) (h : A3 = some a) => own_ge (k := a.block) Hown.out (by rw [h]; rfl))
      have Hi := Lib.hid hisl
      have Ht := Lib.hid (trim_any A3 _ c3 _ wr hisl (by omega) hc)
      have Hlk := Lib.hid (show l.length = k from Hk.out)
      clear hisl
      go_wp2_with fail
      refine Ht.out.mono ?_
      rintro e w2 ⟨rfl, rfl⟩
      have hcut := Hi.out.cut (trimTo_le l _)
      have e1 : (ints l).take (trimTo l l.length) = ints (digN (m - m')) := by
        unfold ints
        rw [← List.map_take, trim_digN Hdig.out, Hval.out, Hxv.out, Hyv.out]
      rw [e1] at hcut
      have hl3 : trimTo l l.length < 100000 := by have := trimTo_le l l.length; have := Hlk.out; omega
      have Hfin := Lib.hid (show IsDig wr A3 (trimTo l l.length) c3 (digN (m - m')) (m - m') from ⟨hcut, hc, by omega, dig_digN _, rfl⟩)
      clear hcut e1
      go_wp2
      go_ret
      exact ⟨A3, _, c3, rfl, Hfin.out, hl3, Hbel.out, Hnil.out, Hlow.out⟩
theorem refMinus_any {A A' : Option Addr} {n c n' c' m m' : Nat} {xs ys : List Int} (w : World) (hx : IsDig w A n c xs m) (hy : IsDig w A' n' c' ys m') (hle : m' ≤ m) (hn : n < 100000) :
    Calls Tryd.prog 59 #[.slice A n c, .slice A' n' c'] w fun e w' => ∃ (A3 : Option Addr) (n3 c3 : Nat), e = .returned (.slice A3 n3 c3) ∧ IsDig w' A3 n3 c3 (digN (m - m')) (m - m') ∧ n3 < 100000 ∧ Below w.heap.size w w' := by
  refine (refMinus_nil w hx hy hle hn).mono ?_
  rintro e w' ⟨A3, n3, c3, h1, h2, h3, h4, _⟩
  exact ⟨A3, n3, c3, h1, h2, h3, h4⟩
end Go.Proofs.YtegndbiglehacaaDoor
