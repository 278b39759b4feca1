/- addInto: words plus words, in place. -/
import Derived.Test.YtbpbfjnndkoioaaGreatDoorNum
namespace Go.Proofs.YtbpbfjnndkoioaaGreatDoor
open Go.RowKit

theorem words_snoc {ys : List Nat} {s : Nat} (hy : Words ys) (hs : s < 18446744073709551616) : Words (ys ++ [s]) := by
  intro x hx
  rcases List.mem_append.1 hx with hx | hx
  · exact hy x hx
  · rw [List.mem_singleton.1 hx]; exact hs
theorem words_append {a b : List Nat} (ha : Words a) (hb : Words b) : Words (a ++ b) := by
  intro x hx
  rcases List.mem_append.1 hx with hx | hx
  · exact ha x hx
  · exact hb x hx
theorem words_drop {xs : List Nat} (h : Words xs) (k : Nat) : Words (xs.drop k) := fun d hd => h d (List.mem_of_mem_drop hd)
theorem word_at {xs : List Nat} (h : Words xs) (k : Nat) : xs.getD k 0 < 18446744073709551616 := by
  by_cases hk : k < xs.length
  · have e : xs.getD k 0 = xs[k] := by simp [List.getD, hk]
    rw [e]; exact h _ (List.getElem_mem hk)
  · have e : xs.getD k 0 = 0 := by simp [List.getD, List.getElem?_eq_none (by omega : xs.length ≤ k)]
    rw [e]; decide
theorem take_all {xs : List Nat} {k n : Nat} (hx : xs.length = n) (h : n ≤ k) : xs.take k = xs := List.take_of_length_le (by omega)
theorem take_up {xs : List Nat} {k d : Nat} (hk : k < xs.length) (hd : xs.getD k 0 = d) : xs.take (k + 1) = xs.take k ++ [d] := by
  rw [List.take_succ_eq_append_getElem hk, ← hd]
  simp [List.getD, hk]
/-- A word read at place k of words, or nothing behind their end. -/
theorem take_up0 {xs : List Nat} {k d : Nat} (hd : xs.getD k 0 = d) : natVal (xs.take (k + 1)) = natVal (xs.take k) + base k * d := by
  by_cases hk : k < xs.length
  · rw [take_up hk hd, natVal_snoc, List.length_take, Nat.min_eq_left (by omega)]
  · have e : d = 0 := by rw [← hd]; simp [List.getD, List.getElem?_eq_none (by omega : xs.length ≤ k)]
    rw [e, List.take_of_length_le (by omega), List.take_of_length_le (by omega)]
    rfl
/-- The rest of a block's part stays as it is. -/
theorem put_rest {xs : List Nat} {o n : Nat} {rs : List Nat} (h : rs.length ≤ n) (hn : o + n ≤ xs.length) : put xs o rs = put xs o (rs ++ ((xs.drop o).take n).drop rs.length) := by
  unfold put
  rw [List.append_assoc, List.append_assoc, List.append_assoc]
  congr 2
  rw [List.drop_take, List.drop_drop]
  have e : o + (rs ++ ((xs.drop (o + rs.length)).take (n - rs.length))).length = o + rs.length + (n - rs.length) := by simp; omega
  have e3 : xs.drop (o + rs.length + (n - rs.length)) = (xs.drop (o + rs.length)).drop (n - rs.length) := by rw [List.drop_drop]
  rw [e, e3, List.take_append_drop]

def AddInv (w0 : World) (g o n : Nat) (xs ys : List Nat) (k : Nat) (vc : Value) (wr : World) : Prop :=
  ∃ (rs : List Nat) (c : Nat), rs.length = k ∧ k ≤ n ∧ vc = .int .u64 (c : Nat) ∧ c ≤ 1 ∧ Words rs ∧ natVal rs + base k * c = natVal ((xs.drop o).take k) + natVal (ys.take k) ∧ Blk wr g (put xs o rs) ∧ Only g w0 wr
theorem add_step {w0 wr : World} {g o n k x y c s f m : Nat} {xs ys rs : List Nat} (hk : rs.length = k) (hkn : k < n) (ho : o + n ≤ xs.length) (hx : xs.getD (o + k) 0 = x) (hy : ys.getD k 0 = y) (hx1 : x < 18446744073709551616) (hy1 : y < 18446744073709551616) (hc : c ≤ 1)
    (hs : (x + y + c) % 18446744073709551616 = s) (hf : (x + y + c) / 18446744073709551616 = f) (hw : Words rs) (hv : natVal rs + base k * c = natVal ((xs.drop o).take k) + natVal (ys.take k)) (hb : Blk wr g (put xs o rs)) (ho2 : Only g w0 wr) :
    AddInv w0 g o n xs ys (k + 1) (.int .u64 (f : Int)) ((wr.drewN m).setCell ⟨g, o + k, none⟩ (.int .u64 (s : Int))) := by
  have e1 : s + 18446744073709551616 * f = x + y + c := by omega
  refine ⟨rs ++ [s], f, by simp; omega, by omega, rfl, by omega, words_snoc hw (by omega), ?_, ?_, (ho2.drewN m).set_ _ _⟩
  · rw [natVal_snoc, hk, take_next (by omega) hx, natVal_snoc, take_len (by omega), take_up0 hy, base_succ]
    have e2 : base k * s + 18446744073709551616 * base k * f = base k * (x + y + c) := by rw [← e1]; simp only [Nat.mul_add, Nat.mul_assoc, Nat.mul_left_comm]
    rw [Nat.mul_add, Nat.mul_add] at e2
    omega
  · subst hk
    rw [← put_set (by omega)]
    exact (hb.drewN m).set_ _ (by rw [put_length (by omega)]; omega)
theorem add_room {k n c : Nat} {xs ys rs : List Nat} {o : Nat} (_hk : rs.length = k) (hkn : k ≤ n) (hyk : ys.length ≤ k) (hc : c ≠ 0) (hv : natVal rs + base k * c = natVal ((xs.drop o).take k) + natVal (ys.take k)) (hroom : natVal ((xs.drop o).take n) + natVal ys < base n) : k < n := by
  rcases Nat.lt_or_ge k n with h | h
  · exact h
  · exfalso
    obtain rfl : k = n := by omega
    rw [List.take_of_length_le hyk] at hv
    have h1 : base k * 1 ≤ base k * c := Nat.mul_le_mul_left _ (by omega)
    omega
theorem add_fin {wr : World} {g o n k : Nat} {xs ys rs : List Nat} (hx : Words xs) (hk : rs.length = k) (hkn : k ≤ n) (ho : o + n ≤ xs.length) (hyk : ys.length ≤ k) (hw : Words rs) (hv : natVal rs + base k * 0 = natVal ((xs.drop o).take k) + natVal (ys.take k)) (hb : Blk wr g (put xs o rs)) :
    ∃ zs : List Nat, zs.length = n ∧ Words zs ∧ natVal zs = natVal ((xs.drop o).take n) + natVal ys ∧ Blk wr g (put xs o zs) := by
  refine ⟨rs ++ ((xs.drop o).take n).drop rs.length, by simp; omega, words_append hw (words_drop (words_take (words_drop hx o) n) _), ?_, by rw [← put_rest (by omega) ho]; exact hb⟩
  rw [List.take_of_length_le hyk] at hv
  rw [natVal_append, hk, natVal_split ((xs.drop o).take n) k, List.take_take, Nat.min_eq_left hkn, take_len (by omega)]
  omega

set_option maxRecDepth 100000 in
set_option maxHeartbeats 4000000 in
theorem addInto_any (g o n c n' c' : Nat) (A' : Option Addr) (xs ys : List Nat) (w : World) (hb : Blk w g xs) (hl : IsL w A' n' c' (u64s ys)) (hA : 0 < n' → ∀ a : Addr, A' = some a → a.block ≠ g) (ho : o + n ≤ xs.length) (hn' : n' ≤ n) (hx : Words xs) (hy : Words ys) (hn : n < 1000000) (_hoo : o < 1000000)
    (hroom : natVal ((xs.drop o).take n) + natVal ys < base n) :
    Calls Tryz.prog 124 #[.slice (some ⟨g, o, none⟩) n c, .slice A' n' c'] w fun e w' =>
      e = .returned (.tuple #[]) ∧ (∃ zs : List Nat, zs.length = n ∧ Words zs ∧ natVal zs = natVal ((xs.drop o).take n) + natVal ys ∧ Blk w' g (put xs o zs)) ∧ Only g w w' := by
  have hlen : ys.length = n' := by have := hl.1; rwa [u64s_length] at this
  have Hb := Lib.hid hb
  have Hx := Lib.hid hx
  have Hy := Lib.hid hy
  have Hl := Lib.hid hl
  have HA := Lib.hid hA
  have Hlen := Lib.hid hlen
  have Hroom := Lib.hid hroom
  clear hb hx hy hl hA hlen hroom
  go_enter Tryz.func124, Tryz.ntmps124
  go_wp2_with fail
  go_loopw [9, 4] (fun vi vc wr => ∃ k : Nat, k ≤ n' ∧ vi = .int .i64 (k : Nat) ∧ AddInv w g o n xs ys k vc wr) (fun vi _ _ => n' - (intOf vi).toNat)
  case atStart => exact ⟨0, Nat.zero_le _, rfl, [], 0, rfl, Nat.zero_le _, rfl, Nat.zero_le _, fun d hd => absurd hd (by simp), by simp [natVal, base_zero], by rw [put_nil]; exact Hb.out, Only.refl _ _⟩
  case round =>
    obtain ⟨k, hk, rfl, rs, cc, hrk, hkn, rfl, hc1, hw, hv, hblk, honly⟩ := hrel
    have Hrk := Lib.hid hrk
    have Hw := Lib.hid hw
    have Hv := Lib.hid hv
    have Hblk := Lib.hid hblk
    have Honly := Lib.hid honly
    by_cases hlt : k < n'
    · obtain ⟨b', o', rfl, hb', hc'⟩ := Hl.out.2.2 (by omega)
      have hne : b' ≠ g := HA.out (by omega) _ rfl
      have hcell := hblk.cell (i := o + k) (by rw [put_length (by omega)]; omega)
      rw [put_get (by omega) (by omega)] at hcell
      have hfz := hblk.frozen (o + k)
      have hcy := (honly.cell (o := o' + k) hb' hne).trans (hc' k (.int .u64 ((ys.getD k 0 : Nat) : Int)) (by have := Hlen.out; simp [u64s, show k < ys.length by omega]))
      have hx1 := word_at Hx.out (o + k)
      have hy1 := word_at Hy.out k
      obtain ⟨x, hx⟩ : ∃ x, xs.getD (o + k) 0 = x := ⟨_, rfl⟩
      obtain ⟨y, hy⟩ : ∃ y, ys.getD k 0 = y := ⟨_, rfl⟩
      rw [hx] at hcell hx1
      rw [hy] at hcy
      rw [hy] at hy1
      have HX := Lib.hid hx
      have HY := Lib.hid hy
      clear hc' hblk honly hw hv hrk hx hy
      obtain ⟨s, hs⟩ : ∃ s, (x + y + cc) % 18446744073709551616 = s := ⟨_, rfl⟩
      obtain ⟨f, hf⟩ : ∃ f, (x + y + cc) / 18446744073709551616 = f := ⟨_, rfl⟩
      have hadd : ∀ W : World, (callFunc 127 #[.int .u64 (x : Int), .int .u64 (y : Int), .int .u64 (cc : Int)]).run Tryz.prog W = .ok (.value (.tuple #[.int .u64 (s : Int), .int .u64 (f : Int)])) W := add64_at x y cc s f hc1 hs hf
      have Hs := Lib.hid hs
      have Hf := Lib.hid hf
      clear hs hf
      go_wp2_with fail
      go_region
      all_goals
        have Hfin := Lib.hid (add_step (m := 1) Hrk.out (show k < n by omega) ho HX.out HY.out hx1 hy1 hc1 Hs.out Hf.out Hw.out Hv.out Hblk.out Honly.out)
        go_wp2_with fail
        exact ⟨⟨k + 1, hlt, by go_num, Hfin.out⟩, by simp [intOf] <;> omega⟩
    · obtain rfl : k = n' := by omega
      have Hinv := Lib.hid (show AddInv w g o n xs ys k (.int .u64 (cc : Nat)) wr from ⟨rs, cc, Hrk.out, hkn, rfl, hc1, Hw.out, Hv.out, Hblk.out, Honly.out⟩)
      clear hblk honly hw hv hrk
      go_wp2_with fail
      go_loopw [6, 4] (fun vi vc wr => ∃ j : Nat, k ≤ j ∧ vi = .int .i64 (j : Nat) ∧ AddInv w g o n xs ys j vc wr) (fun vi _ _ => n - (intOf vi).toNat)
      case atStart => exact ⟨k, Nat.le_refl _, rfl, Hinv.out⟩
      case round =>
        obtain ⟨j, hj, rfl, rs, cc, hrk, hkn, rfl, hc1, hw, hv, hblk, honly⟩ := hrel
        have Hrk := Lib.hid hrk
        have Hw := Lib.hid hw
        have Hv := Lib.hid hv
        have Hblk := Lib.hid hblk
        have Honly := Lib.hid honly
        have hyj : ys.length ≤ j := by rw [Hlen.out]; exact hj
        by_cases h0 : cc = 0
        · subst h0
          have Hfin := Lib.hid (add_fin Hx.out hrk hkn ho hyj hw hv hblk)
          clear hblk honly hw hv hrk hyj
          go_wp2
          go_end0
          exact ⟨rfl, Hfin.out, Honly.out⟩
        · have hlt := add_room hrk hkn hyj h0 hv Hroom.out
          have hcell := hblk.cell (i := o + j) (by rw [put_length (by omega)]; omega)
          rw [put_get (by omega) (by omega)] at hcell
          have hfz := hblk.frozen (o + j)
          have hx1 := word_at Hx.out (o + j)
          obtain ⟨x, hx⟩ : ∃ x, xs.getD (o + j) 0 = x := ⟨_, rfl⟩
          have hy : ys.getD j 0 = 0 := by simp [List.getD, List.getElem?_eq_none hyj]
          rw [hx] at hcell hx1
          have HX := Lib.hid hx
          have HY := Lib.hid hy
          have t0 : ((cc : Int) == 0) = false := by rw [beq_eq_false_iff_ne]; omega
          clear hblk honly hw hv hrk hx hy hyj
          obtain ⟨s, hs⟩ : ∃ s, (x + 0 + cc) % 18446744073709551616 = s := ⟨_, rfl⟩
          obtain ⟨f, hf⟩ : ∃ f, (x + 0 + cc) / 18446744073709551616 = f := ⟨_, rfl⟩
          have hadd : ∀ W : World, (callFunc 127 #[.int .u64 (x : Int), .int .u64 0, .int .u64 (cc : Int)]).run Tryz.prog W = .ok (.value (.tuple #[.int .u64 (s : Int), .int .u64 (f : Int)])) W := add64_at x 0 cc s f hc1 hs hf
          have Hs := Lib.hid hs
          have Hf := Lib.hid hf
          clear hs hf
          have Hfin := Lib.hid (add_step (m := 0) Hrk.out hlt ho HX.out HY.out hx1 (by decide) hc1 Hs.out Hf.out Hw.out Hv.out Hblk.out Honly.out)
          go_wp2_with fail
          exact ⟨⟨j + 1, by omega, by go_num, Hfin.out⟩, by simp [intOf] <;> omega⟩
end Go.Proofs.YtbpbfjnndkoioaaGreatDoor
