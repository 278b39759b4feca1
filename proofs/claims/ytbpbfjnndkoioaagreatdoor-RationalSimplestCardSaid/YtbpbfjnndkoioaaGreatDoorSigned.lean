/- signed: its walk. -/
import Derived.Test.YtbpbfjnndkoioaaGreatDoorRead
namespace Go.Proofs.YtbpbfjnndkoioaaGreatDoor
open Go.RowKit

/-- A value of type Int that stands for an integer. -/
def IsInt (B : Nat) (w : World) (v : Value) (z : Int) : Prop :=
  (I64 z ∧ v = small z) ∨ (¬ I64 z ∧ ∃ (p : Nat) (A : Option Addr) (n c : Nat) (xs : List Nat), v = .agg #[.int .i64 0, .pointer (some ⟨p, 0, none⟩)] ∧ p < w.heap.size ∧ B ≤ p ∧ (∀ a : Addr, A = some a → B ≤ a.block) ∧ w.cell? ⟨p, 0, none⟩ = some (.bool (decide (z < 0))) ∧ w.cell? ⟨p, 1, none⟩ = some (.slice A n c) ∧
    IsL w A n c (u64s xs) ∧ c ≤ 9223372036854775807 ∧ n < 1000 ∧ Words xs ∧ Tight xs ∧ natVal xs = z.natAbs)
def signZ (neg : Bool) (v : Nat) : Int := if neg then -(v : Int) else (v : Int)
theorem signZ_abs (neg : Bool) (v : Nat) : (signZ neg v).natAbs = v := by unfold signZ; split <;> omega
theorem signZ_neg {neg : Bool} {v : Nat} (h : 0 < v) : decide (signZ neg v < 0) = neg := by
  unfold signZ
  cases neg <;> simp <;> omega
theorem IsL.grow {w : World} {A : Option Addr} {n c : Nat} {xs : List Value} (h : IsL w A n c xs) (o : Obj) : IsL (w.alloc o) A n c xs := by
  refine ⟨h.1, h.2.1, fun hn => ?_⟩
  obtain ⟨g, i, rfl, hg, hc⟩ := h.2.2 hn
  refine ⟨g, i, rfl, by simp; omega, fun j u hu => ?_⟩
  rw [← hc j u hu]
  exact World.cell?_of_block (((Below.refl w.heap.size w).alloc (Nat.le_refl _) o).block g hg)
theorem alloc2_at (w : World) (o1 o2 : Obj) : ((w.alloc o1).alloc o2).heap[w.heap.size + 1]? = some o2 := by
  show ((w.heap.push o1).push o2)[w.heap.size + 1]? = some o2
  rw [Array.getElem?_push, if_pos (by simp)]
theorem signed_large {B : Nat} {w w' : World} {A : Option Addr} {n c : Nat} {xs : List Nat} {neg : Bool} (hl : IsL w A n c (u64s xs)) (hw : Words xs) (ht : Tight xs) (hn : n < 1000) (hc : c ≤ 9223372036854775807) (hpos : 0 < natVal xs) (hz : ¬ I64 (signZ neg (natVal xs)))
    (hB : B ≤ w.heap.size) (hA : ∀ a : Addr, A = some a → B ≤ a.block) (o1 : Obj) (he : w' = (w.alloc o1).alloc (.cells #[.bool neg, .slice A n c] 62)) :
    IsInt B w' (.agg #[.int .i64 0, .pointer (some ⟨w.heap.size + 1, 0, none⟩)]) (signZ neg (natVal xs)) := by
  subst he
  refine .inr ⟨hz, w.heap.size + 1, A, n, c, xs, rfl, by simp, by omega, hA, ?_, ?_, (hl.grow _).grow _, hc, hn, hw, ht, by rw [signZ_abs]⟩
  · rw [signZ_neg hpos, cell_of_row _ _ _ #[.bool neg, .slice A n c] 62 (0, 0) (alloc2_at _ _ _)]
    rfl
  · rw [cell_of_row _ _ _ #[.bool neg, .slice A n c] 62 (0, 0) (alloc2_at _ _ _)]
    rfl

set_option maxRecDepth 100000 in
set_option maxHeartbeats 8000000 in
theorem signed_any (B : Nat) (A : Option Addr) (n c : Nat) (xs : List Nat) (neg : Bool) (w : World) (hl : IsL w A n c (u64s xs)) (hw : Words xs) (ht : Tight xs) (hn : n < 1000) (hc : c ≤ 9223372036854775807) (hB : B ≤ w.heap.size) (hA : ∀ a : Addr, A = some a → B ≤ a.block) :
    Calls Tryz.prog 61 #[.slice A n c, .bool neg] w fun e w' => ∃ v, e = .returned v ∧ IsInt B w' v (signZ neg (natVal xs)) ∧ Below w.heap.size w w' := by
  have hlen : xs.length = n := by have := hl.1; simpa [u64s] using this
  have hb2 := ((Below.refl w.heap.size w).alloc (Nat.le_refl _) (.cells #[.int .i64 0, .pointer (some ⟨w.heap.size + 1, 0, none⟩)] 26)).alloc (by simp) (.cells #[.bool neg, .slice A n c] 62)
  by_cases h2 : 2 ≤ n
  · have hbig : base 1 ≤ natVal xs := by
      rcases ht with h | h
      · omega
      · exact Nat.le_trans (Nat.pow_le_pow_right (by decide) (by omega)) h
    have hz : ¬ I64 (signZ neg (natVal xs)) := by
      rw [base_one] at hbig
      unfold signZ I64
      split <;> omega
    have hfin := fun o1 w' => signed_large (w' := w') hl hw ht hn hc (by rw [base_one] at hbig; omega) hz hB hA o1
    have Hfin := Lib.hid hfin
    have Hb := Lib.hid hb2
    clear hl hw ht hlen hb2 hfin hz hbig hA
    go_enter Tryz.func61, Tryz.ntmps61
    go_wp2
    exact bodyPost_ret (v := .agg #[.int .i64 0, .pointer (some ⟨w.heap.size + 1, 0, none⟩)]) (by simp [results, Tryz.results61, go_sem]) rfl ⟨_, rfl, Hfin.out _ _ rfl, Hb.out⟩
  · rcases Nat.eq_zero_or_pos n with h0 | h0
    · subst h0
      have hx : xs = [] := List.eq_nil_of_length_eq_zero hlen
      subst hx
      have hz : signZ neg (natVal []) = 0 := by cases neg <;> rfl
      rw [hz]
      clear hl hw ht hlen hb2 hz hA
      go_enter Tryz.func61, Tryz.ntmps61
      go_wp2
      exact bodyPost_ret (v := small 0) (by simp [results, Tryz.results61, go_sem]) rfl ⟨_, rfl, .inl ⟨by unfold I64; omega, rfl⟩, (Below.refl _ _).alloc (Nat.le_refl _) _⟩
    · obtain rfl : n = 1 := by omega
      obtain ⟨x, rfl⟩ : ∃ x, xs = [x] := List.length_eq_one_iff.mp hlen
      obtain ⟨b, o, rfl, hb, hcell⟩ := hl.2.2 (by omega)
      have c0 : w.cell? ⟨b, o, none⟩ = some (.int .u64 (x : Int)) := hcell 0 _ rfl
      have hx : natVal [x] = x := by simp [natVal]
      have hx1 : x < 18446744073709551616 := hw x (by simp)
      have hx0 : 0 < x := by
        rcases ht with h | h
        · simp at h
        · rw [hx] at h
          exact Nat.lt_of_lt_of_le (base_pos _) h
      by_cases hbig : I64 (signZ neg x)
      · rw [hx]
        have Hbig := Lib.hid hbig
        unfold I64 signZ at hbig
        clear hcell hl hw ht hlen hb2 hx hA
        cases neg
        · simp at hbig
          go_enter Tryz.func61, Tryz.ntmps61
          go_wp2
          exact bodyPost_ret (v := small x) (by simp [results, Tryz.results61, go_sem]) rfl ⟨_, rfl, .inl ⟨Hbig.out, rfl⟩, (Below.refl _ _).alloc (Nat.le_refl _) _⟩
        · simp at hbig
          have e1 : IntKind.u64.wrap (-(x : Int)) = 18446744073709551616 - (x : Int) := by rw [wrap_u64]; omega
          have e2 : wrap64 (18446744073709551616 - (x : Int)) = -(x : Int) := by unfold wrap64; omega
          go_enter Tryz.func61, Tryz.ntmps61
          go_wp2
          exact bodyPost_ret (v := small (-(x : Int))) (by simp [results, Tryz.results61, go_sem]) rfl ⟨_, rfl, .inl ⟨Hbig.out, rfl⟩, (Below.refl _ _).alloc (Nat.le_refl _) _⟩
      · have hfin := fun o1 w' => signed_large (w' := w') hl hw ht hn hc (by rw [hx]; exact hx0) (by rw [hx]; exact hbig) hB hA o1
        have Hfin := Lib.hid hfin
        have Hb := Lib.hid hb2
        unfold I64 signZ at hbig
        clear hcell hl hw ht hlen hb2 hfin hx hA
        cases neg
        · simp at hbig
          go_enter Tryz.func61, Tryz.ntmps61
          go_wp2
          exact bodyPost_ret (v := .agg #[.int .i64 0, .pointer (some ⟨w.heap.size + 1, 0, none⟩)]) (by simp [results, Tryz.results61, go_sem]) rfl ⟨_, rfl, Hfin.out _ _ rfl, Hb.out⟩
        · simp at hbig
          go_enter Tryz.func61, Tryz.ntmps61
          go_wp2
          exact bodyPost_ret (v := .agg #[.int .i64 0, .pointer (some ⟨w.heap.size + 1, 0, none⟩)]) (by simp [results, Tryz.results61, go_sem]) rfl ⟨_, rfl, Hfin.out _ _ rfl, Hb.out⟩
theorem IsInt.set_ {B : Nat} {w : World} {v : Value} {z : Int} {i : Nat} {u : Value} (h : IsInt (B + 1) w v z) : IsInt (B + 1) (w.setCell ⟨B, i, none⟩ u) v z := by
  rcases h with h | ⟨hz, p, A, n, c, xs, rfl, hp, hBp, hBA, c0, c1, hl, rest⟩
  · exact .inl h
  · have hh : ∀ k, k ≠ B → (w.setCell ⟨B, i, none⟩ u).heap[k]? = w.heap[k]? := fun k hk => Below.heap_setCell w ⟨B, i, none⟩ u k hk
    refine .inr ⟨hz, p, A, n, c, xs, rfl, by simpa [World.setCell] using hp, hBp, hBA, (World.cell?_of_block (hh p (by omega))).trans c0, (World.cell?_of_block (hh p (by omega))).trans c1, ⟨hl.1, hl.2.1, fun hn => ?_⟩, rest⟩
    obtain ⟨b, o, e, hb, hc⟩ := hl.2.2 hn
    exact ⟨b, o, e, by simpa [World.setCell] using hb, fun j u' hu => (World.cell?_of_block (hh b (by have := hBA _ e; simp at this; omega))).trans (hc j u' hu)⟩
theorem IsInt.mono {B B' : Nat} {w : World} {v : Value} {z : Int} (h : IsInt B w v z) (hB : B' ≤ B) : IsInt B' w v z := by
  rcases h with h | ⟨hz, p, A, n, c, xs, rfl, hp, hBp, hBA, rest⟩
  · exact .inl h
  · exact .inr ⟨hz, p, A, n, c, xs, rfl, hp, by omega, fun a e => Nat.le_trans hB (hBA a e), rest⟩
theorem IsInt.keep {B : Nat} {w w' : World} {v : Value} {z : Int} (h : IsInt B w v z) (hb : Below w.heap.size w w') : IsInt B w' v z := by
  rcases h with h | ⟨hz, p, A, n, c, xs, rfl, hp, hBp, hBA, c0, c1, hl, rest⟩
  · exact .inl h
  · exact .inr ⟨hz, p, A, n, c, xs, rfl, Nat.lt_of_lt_of_le hp hb.size, hBp, hBA, (hb.cell (p := ⟨p, 0, none⟩) hp).trans c0, (hb.cell (p := ⟨p, 1, none⟩) hp).trans c1, hl.keep hb, rest⟩
end Go.Proofs.YtbpbfjnndkoioaaGreatDoor
