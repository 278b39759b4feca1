/- Liaisons: the reference's order of sets. -/
import Derived.Test.YtdpfoegcmngdfaaDoorLa
import Derived.Test.YtdpfoegcmngdfaaDoorLc
namespace Go.Proofs.YtdpfoegcmngdfaaDoor
open Go.RowKit
theorem below_dN {B n : Nat} {w w' : World} (h : Below B w w') : Below B w (w'.drewN n) := ⟨h.os, h.tape, h.output, h.size, h.block⟩
theorem lex_skip : ∀ {a b : List Nat} {k : Nat}, (∀ j, j < k → a[j]? = b[j]?) → lexL a b = lexL (a.drop k) (b.drop k)
  | _, _, 0, _ => rfl
  | [], [], k + 1, _ => rfl
  | [], y :: b, k + 1, h => by have := h 0 (Nat.zero_lt_succ k); simp at this
  | x :: a, [], k + 1, h => by have := h 0 (Nat.zero_lt_succ k); simp at this
  | x :: a, y :: b, k + 1, h => by
    have h0 := h 0 (Nat.zero_lt_succ k)
    simp at h0
    subst h0
    rw [lexL, if_pos rfl, List.drop_succ_cons, List.drop_succ_cons]
    exact lex_skip fun j hj => by have := h (j + 1) (Nat.succ_lt_succ hj); simpa using this
theorem lex_at {a b : List Nat} {k x y : Nat} (h : ∀ j, j < k → a[j]? = b[j]?) (hx : a[k]? = some x) (hy : b[k]? = some y) (hne : x ≠ y) : lexL a b = decide (x < y) := by
  rw [lex_skip h]
  have drop : ∀ {l : List Nat} {v : Nat}, l[k]? = some v → ∃ r, l.drop k = v :: r := fun {l v} e => by
    have hk : k < l.length := by
      rcases Nat.lt_or_ge k l.length with h1 | h1
      · exact h1
      · rw [List.getElem?_eq_none h1] at e; cases e
    rw [List.getElem?_eq_getElem hk] at e
    injection e with e
    exact ⟨l.drop (k + 1), by rw [← List.getElem_cons_drop hk, e]⟩
  obtain ⟨r, e1⟩ := drop hx
  obtain ⟨t, e2⟩ := drop hy
  rw [e1, e2, lexL, if_neg hne]
theorem lex_end {a b : List Nat} {k : Nat} (h : ∀ j, j < k → a[j]? = b[j]?) (hk : a.length ≤ k) : lexL a b = false := by
  rw [lex_skip h, List.drop_of_length_le hk]
  cases b.drop k <;> rfl
set_option maxRecDepth 100000 in
set_option maxHeartbeats 8000000 in
theorem less_any (A B : Option Addr) (c d : Nat) (a b : List Nat) (w : World) (ha : IL w A (zs a)) (hb : IL w B (zs b)) (hal : a.length ≤ 1000000) (_hbl : b.length ≤ 1000000) :
    Calls Tryd.prog 54 #[.slice A a.length c, .slice B b.length d] w fun e w' => e = .returned (.bool (lessL a b)) ∧ Below w.heap.size w w' := by
  have HA := Lib.hid (fun w' (h : Below w.heap.size w w') => ha.keep h)
  have HB := Lib.hid (fun w' (h : Below w.heap.size w w') => hb.keep h)
  have HD := Lib.hid (show lessL a b = if a.length = b.length then lexL a b else decide (a.length < b.length) from rfl)
  by_cases hl : a.length = b.length
  · have t0 : (((a.length : Nat) : Int) != ((b.length : Nat) : Int)) = false := by rw [hl]; simp
    have HD2 := Lib.hid (show lessL a b = lexL a b by rw [HD.out, if_pos hl])
    obtain ⟨n, hn⟩ : ∃ n, a.length = n := ⟨_, rfl⟩
    obtain ⟨m, hm⟩ : ∃ m, b.length = m := ⟨_, rfl⟩
    have HNa := Lib.hid hn
    have HNb := Lib.hid hm
    rw [hn, hm] at t0
    rw [hn] at hal
    rw [hn, hm]
    have hmn : m = n := by omega
    subst hmn
    clear hl hn hm _hbl ha hb
    go_enter Tryd.func54, Tryd.ntmps54
    go_wp2_with fail
    go_loopw [5] (fun i wr => ∃ k : Nat, k ≤ m ∧ i = .int .i64 (k : Nat) ∧ (∀ j, j < k → a[j]? = b[j]?) ∧ Below w.heap.size w wr) (fun i _ => m - (intOf i).toNat)
    case atStart => exact ⟨0, Nat.zero_le _, rfl, fun j hj => absurd hj (Nat.not_lt_zero _), Below.refl _ _⟩
    case round =>
      obtain ⟨k, hk, rfl, hz, hbb⟩ := hrel
      have Hz := Lib.hid hz
      have B4 := Lib.hid hbb
      clear hz hbb
      by_cases hlt : k < m
      · obtain ⟨x, b1, o1, hx, rfl, _, c1⟩ := (HA.out wr B4.out).at_ (k := k) (by rw [zs_len]; have := HNa.out; omega)
        obtain ⟨y, b2, o2, hy, rfl, _, c2⟩ := (HB.out wr B4.out).at_ (k := k) (by rw [zs_len]; have := HNb.out; omega)
        obtain ⟨x, rfl, hx2⟩ : ∃ n : Nat, x = n ∧ a[k]? = some n := by
          unfold zs at hx
          rw [List.getElem?_map] at hx
          obtain ⟨n, hn, rfl⟩ := Option.map_eq_some_iff.1 hx
          exact ⟨n, rfl, hn⟩
        obtain ⟨y, rfl, hy2⟩ : ∃ n : Nat, y = n ∧ b[k]? = some n := by
          unfold zs at hy
          rw [List.getElem?_map] at hy
          obtain ⟨n, hn, rfl⟩ := Option.map_eq_some_iff.1 hy
          exact ⟨n, rfl, hn⟩
        have Hx := Lib.hid hx2
        have Hy := Lib.hid hy2
        clear hx hy hx2 hy2
        by_cases he : x = y
        · subst he
          have t1 : ((x : Int) != (x : Int)) = false := by simp
          have Hn := Lib.hid (fun j (hj : j < k + 1) => show a[j]? = b[j]? by
            rcases Nat.lt_or_ge j k with h1 | h1
            · exact Hz.out j h1
            · obtain rfl : j = k := by omega
              exact Hx.out.trans Hy.out.symm)
          go_wp2_with fail
          go_quiet (fail)
          go_wp2_with fail
          go_roundw
          case rel => exact ⟨k + 1, by omega, by go_num, Hn.out, below_dN B4.out⟩
          case measure => simp [intOf]; omega
        · have t1 : ((x : Int) != (y : Int)) = true := by simp; omega
          have Hf := Lib.hid (show decide ((x : Int) < (y : Int)) = lessL a b by rw [HD2.out, lex_at Hz.out Hx.out Hy.out he, decide_eq_decide]; omega)
          clear he
          go_wp2_with fail
          go_quiet (fail)
          go_wp2_with fail
          go_quiet (fail)
          go_wp2_with fail
          go_ret
          exact ⟨ret_bool (by simpa using Hf.out), below_dN (below_dN B4.out)⟩
      · have hkm : k = m := by omega
        have Hf := Lib.hid (show false = lessL a b by rw [HD2.out, lex_end Hz.out (by have := HNa.out; omega)])
        go_wp2_with fail
        go_ret
        exact ⟨ret_bool Hf.out, B4.out⟩
  · have t0 : (((a.length : Nat) : Int) != ((b.length : Nat) : Int)) = true := by simp; omega
    have Hf := Lib.hid (show decide (((a.length : Nat) : Int) < ((b.length : Nat) : Int)) = lessL a b by rw [HD.out, if_neg hl, decide_eq_decide]; omega)
    have Hf2 := Lib.hid (show decide (a.length < b.length) = lessL a b by rw [HD.out, if_neg hl])
    clear hl ha hb
    go_enter Tryd.func54, Tryd.ntmps54
    go_wp2_with fail
    go_ret
    exact ⟨ret_bool (by first | exact Hf.out | exact Hf2.out), Below.refl _ _⟩
end Go.Proofs.YtdpfoegcmngdfaaDoor
