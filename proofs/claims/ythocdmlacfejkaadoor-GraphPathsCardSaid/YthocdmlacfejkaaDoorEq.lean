/- Lists of numbers are equal. -/
import Derived.Test.YthocdmlacfejkaaDoorLsts
namespace Go.Proofs.YthocdmlacfejkaaDoor
open Go.RowKit
/-- A slice of ints. -/
def IL (w : World) (A : Option Addr) (l : List Int) : Prop :=
  ∀ k x, l[k]? = some x → ∃ b o, A = some ⟨b, o, none⟩ ∧ b < w.heap.size ∧ w.cell? ⟨b, o + k, none⟩ = some (.int .i64 x)
theorem IL.keep {w w' : World} {A : Option Addr} {l : List Int} (h : IL w A l) (hb : Below w.heap.size w w') : IL w' A l :=
  fun k x hk => let ⟨b, o, e1, hlt, hc⟩ := h k x hk; ⟨b, o, e1, Nat.lt_of_lt_of_le hlt hb.size, (hb.cell (p := ⟨b, o + k, none⟩) hlt).trans hc⟩
/-- Nodes, as ints. -/
def zs (l : List Nat) : List Int := l.map Int.ofNat
theorem zs_len (l : List Nat) : (zs l).length = l.length := by unfold zs; simp
theorem zs_inj : ∀ {a b : List Nat}, zs a = zs b → a = b
  | [], [], _ => rfl
  | [], _ :: _, h => by cases h
  | _ :: _, [], h => by cases h
  | x :: a, y :: b, h => by
    unfold zs at h
    simp only [List.map_cons, List.cons.injEq] at h
    obtain ⟨h1, h2⟩ := h
    rw [zs_inj (a := a) (b := b) h2, Int.ofNat.inj h1]
theorem NL.il {B : Nat} {w : World} {A : Option Addr} {l : List Nat} (h : NL B w A l) : IL w A (zs l) := by
  intro k x hk
  unfold zs at hk
  rw [List.getElem?_map] at hk
  cases e : l[k]? with
  | none => rw [e] at hk; cases hk
  | some n =>
    rw [e] at hk
    injection hk with hk
    obtain ⟨b, o, h1, _, h2, h3⟩ := h k n e
    exact ⟨b, o, h1, h2, by rw [h3, ← hk]; rfl⟩
theorem IL.flat {w : World} {A : Option Addr} {l : List Int} (h : IL w A l) (hl : 0 < l.length) : ∃ b o, A = some ⟨b, o, none⟩ ∧ ∀ j, j < l.length → w.cell? ⟨b, o + j, none⟩ = some (.int .i64 (l.getD j 0)) := by
  obtain ⟨b, o, e, _, _⟩ := h 0 _ (List.getElem?_eq_getElem hl)
  refine ⟨b, o, e, fun j hj => ?_⟩
  obtain ⟨b', o', e', _, hc⟩ := h j _ (List.getElem?_eq_getElem hj)
  rw [e] at e'
  injection e' with e'
  injection e' with e1 e2
  subst e1 e2
  rw [hc]
  simp [List.getD, hj]
theorem equal_any (A B : Option Addr) (c d : Nat) (xs ys : List Int) (w : World) (hx : IL w A xs) (hy : IL w B ys) (hxl : xs.length ≤ 1000000) (hyl : ys.length ≤ 1000000) :
    Calls Tryd.prog 41 #[.slice A xs.length c, .slice B ys.length d] w fun e w' => e = .returned (.bool (xs == ys)) ∧ Below w.heap.size w w' := by
  by_cases hl : xs.length = ys.length
  · by_cases h0 : xs.length = 0
    · have e1 : xs = [] := List.eq_nil_of_length_eq_zero h0
      have e2 : ys = [] := List.eq_nil_of_length_eq_zero (by omega)
      subst e1 e2
      exact (Tryd.slices_Equal_int_empty A B c 0 d w (by decide)).mono fun e w' ⟨h1, h2⟩ => ⟨h1, by rw [h2]; exact Below.refl _ _⟩
    · obtain ⟨b1, o1, rfl, h1⟩ := hx.flat (by omega)
      obtain ⟨b2, o2, rfl, h2⟩ := hy.flat (by omega)
      refine (Tryd.slices_Equal_int b1 o1 xs.length c b2 o2 ys.length d xs ys w (Nat.le_refl _) (Nat.le_refl _) (by omega) (by omega) h1 h2).mono fun e w' ⟨h3, q, h4⟩ => ⟨?_, ?_⟩
      · rw [h3, List.take_length, List.take_length]
      · rw [h4]; exact below_drewN (Below.refl _ _) q
  · refine (Tryd.slices_Equal_int_lens A B xs.length c ys.length d w hl).mono fun e w' ⟨h1, h2⟩ => ⟨?_, by rw [h2]; exact Below.refl _ _⟩
    rw [h1]
    have : (xs == ys) = false := by
      rw [beq_eq_false_iff_ne]
      intro e
      exact hl (by rw [e])
    rw [this]
set_option maxRecDepth 100000 in
set_option maxHeartbeats 2000000 in
theorem equalF_any (B1 B2 : Nat) (A B : Option Addr) (c d : Nat) (xs ys : List (List Nat)) (w : World) (hx : LL B1 w A xs) (hy : LL B2 w B ys) (hxl : xs.length ≤ 1000000) (_hyl : ys.length ≤ 1000000) (hxs : ∀ l ∈ xs, l.length ≤ 1000000) (hys : ∀ l ∈ ys, l.length ≤ 1000000) :
    Calls Tryd.prog 97 #[.slice A xs.length c, .slice B ys.length d, .func (.func 41) #[] #[]] w fun e w' => e = .returned (.bool (xs == ys)) ∧ Below w.heap.size w w' := by
  have Hx := Lib.hid hx
  have Hy := Lib.hid hy
  have Hxs := Lib.hid hxs
  have Hys := Lib.hid hys
  clear hx hy hxs hys
  by_cases hl : xs.length = ys.length
  · have t0 : ((xs.length : Int) != (ys.length : Int)) = false := by simp [hl]
    obtain ⟨r, hr⟩ : ∃ r, (xs == ys) = r := ⟨_, rfl⟩
    have Hr := Lib.hid hr
    rw [hr]
    have hl1 := Nat.le_of_eq hl
    have hl2 := Nat.le_of_eq hl.symm
    obtain ⟨n, hn⟩ : ∃ n, xs.length = n := ⟨_, rfl⟩
    obtain ⟨m, hm⟩ : ∃ m, ys.length = m := ⟨_, rfl⟩
    have Hn := Lib.hid hn
    have Hm := Lib.hid hm
    have Hl := Lib.hid hl
    rw [hn, hm] at t0 hl1 hl2
    rw [hn] at hxl
    rw [hm] at _hyl
    rw [hn, hm]
    clear hr hn hm hl
    go_enter Tryd.func97, Tryd.ntmps97
    go_wp2_with fail
    go_loopw [17] (fun i wr => ∃ k : Nat, i = .int .i64 (k : Nat) ∧ k ≤ n ∧ xs.take k = ys.take k ∧ Below w.heap.size w wr) (fun i _ => n - (intOf i).toNat)
    case atStart => exact ⟨0, rfl, Nat.zero_le _, by simp, Below.refl _ _⟩
    case round =>
      obtain ⟨k, rfl, hk, he, hb⟩ := hrel
      have He := Lib.hid he
      have Hb := Lib.hid hb
      clear he hb
      by_cases hlt : k < n
      · obtain ⟨x, b, o, Ak, ck, hxk, rfl, _, hbl, hc1, hn1⟩ := (Hx.out.keep Hb.out).at_ (show k < xs.length by rw [Hn.out]; exact hlt)
        obtain ⟨y, b', o', Bk, dk, hyk, rfl, _, hbl', hc2, hn2⟩ := (Hy.out.keep Hb.out).at_ (show k < ys.length by rw [Hm.out]; omega)
        have HE := Lib.hid (equal_any Ak Bk ck dk (zs x) (zs y) wr hn1.il hn2.il (by rw [zs_len]; exact Hxs.out x (List.mem_of_getElem? hxk)) (by rw [zs_len]; exact Hys.out y (List.mem_of_getElem? hyk)))
        rw [zs_len, zs_len] at HE
        have hlx : (x.length : Int) ≤ 1000000 := by have := Hxs.out x (List.mem_of_getElem? hxk); omega
        have hly : (y.length : Int) ≤ 1000000 := by have := Hys.out y (List.mem_of_getElem? hyk); omega
        have Hlt := Lib.hid hlt
        have Hxk := Lib.hid hxk
        have Hyk := Lib.hid hyk
        have hkm : k < m := by omega
        clear hxk hyk hn1 hn2
        by_cases hxy : x = y
        · subst hxy
          rw [show (zs x == zs x) = true by simp] at HE
          go_wp2_with fail
          refine HE.out.mono ?_
          rintro e w2 ⟨rfl, hb2⟩
          have B2 := Lib.hid (below_on Hb.out hb2)
          clear hb2
          go_wp2_with fail
          go_roundw
          case rel => exact ⟨k + 1, by go_num, Hlt.out, by rw [List.take_add_one, List.take_add_one, He.out, Hxk.out, Hyk.out], B2.out⟩
          case measure => simp [intOf]; have := Hlt.out; omega
        · have hz : (zs x == zs y) = false := by
            rw [beq_eq_false_iff_ne]
            intro e
            exact hxy (zs_inj e)
          rw [hz] at HE
          have Hf := Lib.hid (show r = false by
            rw [← Hr.out, beq_eq_false_iff_ne]
            intro e
            have h1 := Hxk.out
            rw [e, Hyk.out] at h1
            injection h1 with h1
            exact hxy h1.symm)
          clear hxy hz
          go_wp2_with fail
          refine HE.out.mono ?_
          rintro e w2 ⟨rfl, hb2⟩
          have B2 := Lib.hid (below_on Hb.out hb2)
          clear hb2
          go_wp2_with fail
          go_ret
          exact ⟨ret_bool Hf.out.symm, B2.out⟩
      · have Hf := Lib.hid (show r = true by
          have h1 := He.out
          rw [List.take_of_length_le (by rw [Hn.out]; omega), List.take_of_length_le (by rw [Hm.out]; omega)] at h1
          rw [← Hr.out, h1]; simp)
        go_wp2_with fail
        go_ret
        exact ⟨ret_bool Hf.out.symm, Hb.out⟩
  · have t0 : ((xs.length : Int) != (ys.length : Int)) = true := by simp; omega
    have hz : (xs == ys) = false := by
      rw [beq_eq_false_iff_ne]
      intro e
      exact hl (by rw [e])
    rw [hz]
    clear hz hl
    go_enter Tryd.func97, Tryd.ntmps97
    go_wp2_with fail
    go_ret
    exact ⟨rfl, Below.refl _ _⟩
theorem lawLists_any (B1 B2 : Nat) (A B : Option Addr) (c d : Nat) (xs ys : List (List Nat)) (w : World) (hx : LL B1 w A xs) (hy : LL B2 w B ys) (hxl : xs.length ≤ 1000000) (hyl : ys.length ≤ 1000000) (hxs : ∀ l ∈ xs, l.length ≤ 1000000) (hys : ∀ l ∈ ys, l.length ≤ 1000000) :
    Calls Tryd.prog 43 #[.slice A xs.length c, .slice B ys.length d] w fun e w' => e = .returned (.bool (xs == ys)) ∧ Below w.heap.size w w' := by
  have HE := Lib.hid (equalF_any B1 B2 A B c d xs ys w hx hy hxl hyl hxs hys)
  clear hx hy hxs hys
  go_enter Tryd.func43, Tryd.ntmps43
  go_wp2_with fail
  refine HE.out.mono ?_
  rintro e w2 ⟨rfl, hb⟩
  have B2 := Lib.hid hb
  clear hb
  go_wp2_with fail
  go_ret
  exact ⟨rfl, B2.out⟩
end Go.Proofs.YthocdmlacfejkaaDoor
