/- The words of a number in memory; the parts of any integer; the order of numbers. -/
import Derived.Test.YtbpbfjnndkoioaaGreatDoorSigned
namespace Go.Proofs.YtbpbfjnndkoioaaGreatDoor
open Go.RowKit

/-- A slice that holds the words of a number; its block lies at B or above. -/
structure IsNat (B : Nat) (w : World) (A : Option Addr) (n c : Nat) (xs : List Nat) (m : Nat) : Prop where
  isl : IsL w A n c (u64s xs)
  cap : c ≤ 9223372036854775807
  len : n < 1000
  words : Words xs
  tight : Tight xs
  val : natVal xs = m
  low : ∀ a : Addr, A = some a → B ≤ a.block
theorem IsNat.keep {B : Nat} {w w' : World} {A : Option Addr} {n c m : Nat} {xs : List Nat} (h : IsNat B w A n c xs m) (hb : Below w.heap.size w w') : IsNat B w' A n c xs m :=
  ⟨h.isl.keep hb, h.cap, h.len, h.words, h.tight, h.val, h.low⟩
theorem IsNat.mono {B B' : Nat} {w : World} {A : Option Addr} {n c m : Nat} {xs : List Nat} (h : IsNat B w A n c xs m) (hb : B' ≤ B) : IsNat B' w A n c xs m :=
  ⟨h.isl, h.cap, h.len, h.words, h.tight, h.val, fun a e => Nat.le_trans hb (h.low a e)⟩
theorem u64s_length (xs : List Nat) : (u64s xs).length = xs.length := by simp [u64s]
theorem IsNat.size {B : Nat} {w : World} {A : Option Addr} {n c m : Nat} {xs : List Nat} (h : IsNat B w A n c xs m) : xs.length = n := by
  have := h.isl.1; rwa [u64s_length] at this
theorem IsNat.zero (B : Nat) (w : World) : IsNat B w none 0 0 [] 0 :=
  ⟨⟨rfl, Nat.le_refl _, fun h => absurd h (by decide)⟩, by decide, by decide, fun d hd => absurd hd (by simp), .inl rfl, rfl, fun a e => absurd e (by simp)⟩
/-- The words of a number that is not 0: where they are. -/
theorem IsNat.at {B : Nat} {w : World} {A : Option Addr} {n c m : Nat} {xs : List Nat} (h : IsNat B w A n c xs m) (h0 : 0 < n) : ∃ b o, A = some ⟨b, o, none⟩ ∧ b < w.heap.size ∧ B ≤ b ∧ ∀ k : Nat, k < n → w.cell? ⟨b, o + k, none⟩ = some (.int .u64 ((xs.getD k 0 : Nat) : Int)) := by
  obtain ⟨b, o, e, hb, hc⟩ := h.isl.2.2 h0
  exact ⟨b, o, e, hb, h.low _ e, fun k hk => hc k _ (by have := h.size; simp [u64s, show k < xs.length by omega])⟩

theorem IsL.grow_cell {w : World} {p : Nat} {o : Obj} (hp : p < w.heap.size) (i : Nat) : (w.alloc o).cell? ⟨p, i, none⟩ = w.cell? ⟨p, i, none⟩ :=
  ((Below.refl w.heap.size w).alloc (Nat.le_refl _) o).cell (p := ⟨p, i, none⟩) hp
/-- The parts of any integer. -/
def NatPost (z : Int) (B : Nat) (w : World) (e : Ending) (w' : World) : Prop :=
  ∃ (A : Option Addr) (n c : Nat) (xs : List Nat), e = .returned (.tuple #[.slice A n c, .bool (decide (z < 0))]) ∧ IsNat B w' A n c xs z.natAbs ∧ Below w.heap.size w w'
theorem parts_nat_small {n : Int} {w' : World} {b B : Nat} (hn : I64 n) (h0 : n ≠ 0) (hb : B ≤ b) (hc : w'.cell? ⟨b, 0, none⟩ = some (.int .u64 n.natAbs)) : IsNat B w' (some ⟨b, 0, none⟩) 1 1 [n.natAbs] n.natAbs := by
  refine ⟨⟨rfl, Nat.le_refl _, fun _ => ⟨b, 0, rfl, size_of_cell hc, fun j u hu => ?_⟩⟩, by decide, by decide, fun d hd => ?_, .inr ?_, by simp [natVal], fun a e => ?_⟩
  · match j, hu with
    | 0, hu => simp [u64s] at hu; subst hu; exact hc
  · rw [List.mem_singleton.1 hd]; exact abs_lt hn
  · simp [natVal, base_zero]; omega
  · injection e with e; subst e; exact hb
set_option maxRecDepth 100000 in
set_option maxHeartbeats 4000000 in
theorem parts_any (v : Value) (z : Int) (w : World) {B : Nat} (h : IsInt B w v z) (hB : B ≤ w.heap.size) :
    Calls Tryz.prog 60 #[v] w (NatPost z B w) := by
  rcases h with ⟨hz, rfl⟩ | ⟨hz, p, A, n, c, xs, rfl, hp, _, hA, c0, c1, hl, hc, hn, hw, htt, hval⟩
  · by_cases h0 : z = 0
    · subst h0
      clear hz
      go_enter Tryz.func60, Tryz.ntmps60
      go_wp2
      exact bodyPost_ret (v := .tuple #[.slice none 0 0, .bool false]) (by simp [results, Tryz.results60, go_sem]) rfl ⟨none, 0, 0, [], rfl, IsNat.zero _ _, (Below.refl w.heap.size w).alloc (Nat.le_refl _) _⟩
    · refine (parts_small z w hz h0).mono ?_
      rintro e w' ⟨b, rfl, hb, hcell, hbel⟩
      exact ⟨_, _, _, _, rfl, parts_nat_small hz h0 (Nat.le_trans hB hb) hcell, hbel⟩
  · have Hfin := Lib.hid (show IsNat B (w.alloc (.cells #[.int .i64 0, .pointer (some ⟨p, 0, none⟩)] 26)) A n c xs z.natAbs from ⟨hl.grow _, hc, hn, hw, htt, hval, hA⟩)
    have e0 := (IsL.grow_cell (o := .cells #[.int .i64 0, .pointer (some ⟨p, 0, none⟩)] 26) hp 0).trans c0
    have e1 := (IsL.grow_cell (o := .cells #[.int .i64 0, .pointer (some ⟨p, 0, none⟩)] 26) hp 1).trans c1
    clear hl hw htt hval hA hz hc hn
    go_enter Tryz.func60, Tryz.ntmps60
    go_wp2
    go_quiet (fail)
    go_wp2
    go_ret2
    exact ⟨A, n, c, xs, rfl, (Hfin.out).keep (below_drewN (Below.refl _ _) _), below_drewN ((Below.refl w.heap.size w).alloc (Nat.le_refl _) _) _⟩

/-- The order of two numbers. -/
def cmpN (a b : Nat) : Int := if a < b then -1 else if b < a then 1 else 0
theorem natVal_split (xs : List Nat) (k : Nat) : natVal xs = natVal (xs.take k) + base (xs.take k).length * natVal (xs.drop k) := by
  rw [← natVal_append, List.take_append_drop]
theorem words_take {xs : List Nat} (h : Words xs) (k : Nat) : Words (xs.take k) := fun d hd => h d (List.mem_of_mem_take hd)
theorem base_le {a b : Nat} (h : a ≤ b) : base a ≤ base b := Nat.pow_le_pow_right (by decide) h
theorem cmp_len {xs ys : List Nat} (hx : Words xs) (hy : Tight ys) (h : xs.length < ys.length) : natVal xs < natVal ys := by
  rcases hy with h0 | h0
  · omega
  · exact Nat.lt_of_lt_of_le (natVal_lt hx) (Nat.le_trans (base_le (by omega)) h0)
theorem cmp_step {xs ys : List Nat} {k x y : Nat} (hx : Words xs) (hk : k < xs.length) (hk2 : k < ys.length) (hd : xs.drop (k + 1) = ys.drop (k + 1)) (ex : xs.getD k 0 = x) (ey : ys.getD k 0 = y) (h : x < y) : natVal xs < natVal ys := by
  have e1 : xs[k] = x := by rw [← ex]; simp [List.getD, hk]
  have e2 : ys[k] = y := by rw [← ey]; simp [List.getD, hk2]
  rw [natVal_split xs k, natVal_split ys k, List.drop_eq_getElem_cons hk, List.drop_eq_getElem_cons hk2, hd, e1, e2]
  have h1 := natVal_lt (words_take hx k)
  have l1 : (xs.take k).length = k := by simp; omega
  have l2 : (ys.take k).length = k := by simp; omega
  rw [l1] at h1 ⊢
  rw [l2, natVal, natVal]
  have h2 : base k * (x + 18446744073709551616 * natVal (ys.drop (k + 1)) + 1) ≤ base k * (y + 18446744073709551616 * natVal (ys.drop (k + 1))) := Nat.mul_le_mul_left _ (by omega)
  rw [Nat.mul_add _ _ 1] at h2
  omega
theorem drop_same {xs ys : List Nat} {k x : Nat} (hk : k < xs.length) (hk2 : k < ys.length) (hd : xs.drop (k + 1) = ys.drop (k + 1)) (ex : xs.getD k 0 = x) (ey : ys.getD k 0 = x) : xs.drop k = ys.drop k := by
  have e1 : xs[k] = x := by rw [← ex]; simp [List.getD, hk]
  have e2 : ys[k] = x := by rw [← ey]; simp [List.getD, hk2]
  rw [List.drop_eq_getElem_cons hk, List.drop_eq_getElem_cons hk2, hd, e1, e2]
theorem cmpN_lt {a b : Nat} (h : a < b) : cmpN a b = -1 := by unfold cmpN; rw [if_pos h]
theorem cmpN_gt {a b : Nat} (h : b < a) : cmpN a b = 1 := by unfold cmpN; rw [if_neg (by omega), if_pos h]
theorem cmpN_eq {a b : Nat} (h : a = b) : cmpN a b = 0 := by unfold cmpN; rw [if_neg (by omega), if_neg (by omega)]

set_option maxRecDepth 100000 in
set_option maxHeartbeats 4000000 in
theorem compareNat_any {B B' : Nat} {A A' : Option Addr} {n c n' c' m m' : Nat} {xs ys : List Nat} (w : World) (hx : IsNat B w A n c xs m) (hy : IsNat B' w A' n' c' ys m') :
    Calls Tryz.prog 79 #[.slice A n c, .slice A' n' c'] w fun e w' => e = .returned (.int .i64 (cmpN m m')) ∧ Below w.heap.size w w' := by
  have hn := hx.len
  have hn' := hy.len
  have hs := hx.size
  have hs' := hy.size
  have hv := hx.val
  have hv' := hy.val
  have hle := hx.isl.2.1
  have hle' := hy.isl.2.1
  by_cases h1 : n < n'
  · have he := cmpN_lt (cmp_len hx.words hy.tight (by omega))
    rw [hv, hv'] at he
    rw [he]
    have t0 : ((n : Int) == (n' : Int)) = false := by rw [beq_eq_false_iff_ne]; omega
    clear hx hy hs hs' hv hv' he
    go_enter Tryz.func79, Tryz.ntmps79
    go_wp2
    go_ret
    exact ⟨rfl, Below.refl _ _⟩
  · by_cases h2 : n' < n
    · have he := cmpN_gt (cmp_len hy.words hx.tight (by omega))
      rw [hv, hv'] at he
      rw [he]
      have t0 : ((n : Int) == (n' : Int)) = false := by rw [beq_eq_false_iff_ne]; omega
      clear hx hy hs hs' hv hv' he
      go_enter Tryz.func79, Tryz.ntmps79
      go_wp2
      go_ret
      exact ⟨rfl, Below.refl _ _⟩
    · obtain rfl : n = n' := by omega
      clear h1 h2
      rcases Nat.eq_zero_or_pos n with h0 | h0
      · subst h0
        have e1 : xs = [] := List.eq_nil_of_length_eq_zero hs
        have e2 : ys = [] := List.eq_nil_of_length_eq_zero hs'
        subst e1 e2
        have he : cmpN m m' = 0 := cmpN_eq (by rw [← hv, ← hv'])
        rw [he]
        clear hx hy hv hv' he hs hs'
        go_enter Tryz.func79, Tryz.ntmps79
        go_wp2_with fail
        refine wp_loop_rounds 1 ?_
        rw [rounds_succ]
        go_wp2
        go_ret
        exact ⟨rfl, Below.refl _ _⟩
      · obtain ⟨b, o, rfl, hb, _, hcx⟩ := hx.at h0
        obtain ⟨b', o', rfl, hb', _, hcy⟩ := hy.at h0
        have Hcx := Lib.hid hcx
        have Hcy := Lib.hid hcy
        have Hwx := Lib.hid hx.words
        have Hwy := Lib.hid hy.words
        have Hs := Lib.hid hs
        have Hs' := Lib.hid hs'
        have Hv := Lib.hid hv
        have Hv' := Lib.hid hv'
        clear hx hy hcx hcy hs hs' hv hv'
        go_enter Tryz.func79, Tryz.ntmps79
        go_wp2_with fail
        go_loopw [5] (fun i wr => ∃ k : Nat, k ≤ n ∧ i = .int .i64 ((k : Int) - 1) ∧ xs.drop k = ys.drop k ∧ Below w.heap.size w wr) (fun i _ => (intOf i + 1).toNat)
        case atStart => exact ⟨n, Nat.le_refl _, rfl, by rw [List.drop_eq_nil_of_le (by rw [Hs.out]; exact Nat.le_refl _), List.drop_eq_nil_of_le (by rw [Hs'.out]; exact Nat.le_refl _)], Below.refl _ _⟩
        case round =>
          obtain ⟨k, hk, rfl, hd, hbel⟩ := hrel
          have Hbel := Lib.hid hbel
          have Hd := Lib.hid hd
          clear hd
          cases k with
          | zero =>
            have he : cmpN m m' = 0 := cmpN_eq (by rw [← Hv.out, ← Hv'.out]; have := Hd.out; simp at this; rw [this])
            have He := Lib.hid he
            clear he
            clear hbel
            go_wp2
            go_ret
            exact ⟨by rw [He.out]; rfl, Hbel.out⟩
          | succ k =>
            have cx := (hbel.cell (p := ⟨b, o + k, none⟩) hb).trans (Hcx.out k (by omega))
            have cy := (hbel.cell (p := ⟨b', o' + k, none⟩) hb').trans (Hcy.out k (by omega))
            clear hbel
            obtain ⟨x, hx⟩ : ∃ x, xs.getD k 0 = x := ⟨_, rfl⟩
            obtain ⟨y, hy⟩ : ∃ y, ys.getD k 0 = y := ⟨_, rfl⟩
            rw [hx] at cx
            rw [hy] at cy
            have Hx := Lib.hid hx
            have Hy := Lib.hid hy
            clear hx hy
            by_cases h1 : x < y
            · have he := cmpN_lt (cmp_step Hwx.out (by have := Hs.out; omega) (by have := Hs'.out; omega) Hd.out Hx.out Hy.out h1)
              rw [Hv.out, Hv'.out] at he
              have He := Lib.hid he
              clear he
              go_wp2
              go_quiet (fail)
              go_wp2
              go_ret
              exact ⟨by rw [He.out]; rfl, by repeat (first | exact Hbel.out | refine below_drewN ?_ _)⟩
            · by_cases h2 : y < x
              · have he := cmpN_gt (cmp_step Hwy.out (by have := Hs'.out; omega) (by have := Hs.out; omega) Hd.out.symm Hy.out Hx.out h2)
                rw [Hv.out, Hv'.out] at he
                have He := Lib.hid he
                clear he
                go_wp2
                go_quiet (fail)
                go_wp2
                go_quiet (fail)
                go_wp2
                go_ret
                exact ⟨by rw [He.out]; rfl, by repeat (first | exact Hbel.out | refine below_drewN ?_ _)⟩
              · obtain rfl : x = y := by omega
                have Hnew := Lib.hid (drop_same (by have := Hs.out; omega) (by have := Hs'.out; omega) Hd.out Hx.out Hy.out)
                go_wp2
                go_quiet (fail)
                go_wp2
                go_quiet (fail)
                go_wp2
                exact ⟨⟨k, by omega, by go_num, Hnew.out, by repeat (first | exact Hbel.out | refine below_drewN ?_ _)⟩, by simp [intOf] <;> omega⟩
end Go.Proofs.YtbpbfjnndkoioaaGreatDoor
