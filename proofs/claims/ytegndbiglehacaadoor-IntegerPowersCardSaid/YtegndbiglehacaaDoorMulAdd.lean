/- mulAdd: words times a word, plus a word, in place. -/
import Derived.Test.YtegndbiglehacaaDoorBlk
namespace Go.Proofs.YtegndbiglehacaaDoor
open Go.RowKit

/-- The words xs, those from o on replaced by ys. -/
def put (xs : List Nat) (o : Nat) (ys : List Nat) : List Nat := xs.take o ++ ys ++ xs.drop (o + ys.length)
theorem put_nil (xs : List Nat) (o : Nat) : put xs o [] = xs := by simp [put]
theorem put_length {xs : List Nat} {o : Nat} {ys : List Nat} (h : o + ys.length ≤ xs.length) : (put xs o ys).length = xs.length := by simp [put]; omega
theorem put_get {xs : List Nat} {o : Nat} {ys : List Nat} {i : Nat} (ho : o ≤ xs.length) (hi : o + ys.length ≤ i) : (put xs o ys).getD i 0 = xs.getD i 0 := by
  unfold put
  rw [List.getD_eq_getElem?_getD, List.getD_eq_getElem?_getD, List.getElem?_append_right (by simp; omega), List.getElem?_drop]
  congr 2
  simp; omega
theorem put_set {xs : List Nat} {o : Nat} {ys : List Nat} {d : Nat} (h : o + ys.length < xs.length) : (put xs o ys).set (o + ys.length) d = put xs o (ys ++ [d]) := by
  unfold put
  rw [List.set_append_right _ _ (by simp; omega)]
  have e : o + ys.length - (xs.take o ++ ys).length = 0 := by simp; omega
  rw [e, List.drop_eq_getElem_cons h, List.set_cons_zero, List.length_append, List.length_singleton]
  simp [Nat.add_assoc]

def MulAddInv (w0 : World) (g o : Nat) (xs : List Nat) (p0 m : Nat) (vi vp : Value) (wr : World) (n : Nat) : Prop :=
  ∃ (ys : List Nat) (p : Nat), ys.length ≤ n ∧ vi = .int .i64 (ys.length : Nat) ∧ vp = .int .u64 (p : Nat) ∧ p < 18446744073709551616 ∧ Words ys ∧ natVal ys + base ys.length * p = natVal ((xs.drop o).take ys.length) * m + p0 ∧
    Blk wr g (put xs o ys) ∧ Only g w0 wr

theorem mul_parts {d m q h l s f : Nat} (hd : d < 18446744073709551616) (hm : m < 18446744073709551616) (hq : q < 18446744073709551616) (hh : d * m / 18446744073709551616 = h) (hl : d * m % 18446744073709551616 = l)
    (hs : (l + q + 0) % 18446744073709551616 = s) (hf : (l + q + 0) / 18446744073709551616 = f) : s + 18446744073709551616 * (h + f) = d * m + q ∧ h + f < 18446744073709551616 ∧ s < 18446744073709551616 ∧ f ≤ 1 := by
  have h1 : d * m ≤ 18446744073709551615 * 18446744073709551615 := Nat.mul_le_mul (by omega) (by omega)
  generalize d * m = t at *
  omega
theorem take_next {xs : List Nat} {o k d : Nat} (hk : o + k < xs.length) (hd : xs.getD (o + k) 0 = d) : (xs.drop o).take (k + 1) = (xs.drop o).take k ++ [d] := by
  rw [List.take_succ_eq_append_getElem (by simp; omega)]
  congr 2
  rw [List.getElem_drop, ← hd]
  simp [List.getD, hk]
theorem take_len {xs : List Nat} {o k : Nat} (hk : o + k ≤ xs.length) : ((xs.drop o).take k).length = k := by simp; omega
theorem mulAdd_step {w0 wr : World} {g o k n d m p q h l s f : Nat} {xs ys : List Nat} (hk : ys.length = k) (hkn : k < n) (ho : o + n ≤ xs.length) (hdx : xs.getD (o + ys.length) 0 = d) (hd : d < 18446744073709551616) (hm : m < 18446744073709551616) (hq : q < 18446744073709551616)
    (hh : d * m / 18446744073709551616 = h) (hl : d * m % 18446744073709551616 = l) (hs : (l + q + 0) % 18446744073709551616 = s) (hf : (l + q + 0) / 18446744073709551616 = f)
    (hyw : Words ys) (hval : natVal ys + base ys.length * q = natVal ((xs.drop o).take ys.length) * m + p) (hb : Blk wr g (put xs o ys)) (hw : Only g w0 wr) :
    MulAddInv w0 g o xs p m (.int .i64 ((k : Int) + 1)) (.int .u64 ((h : Int) + f)) (wr.setCell ⟨g, o + k, none⟩ (.int .u64 (s : Int))) n := by
  obtain ⟨e1, e2, e3, _⟩ := mul_parts hd hm hq hh hl hs hf
  subst hk
  refine ⟨ys ++ [s], h + f, by simp; omega, by simp, by simp, e2, ?_, ?_, ?_, hw.set_ _ _⟩
  · intro x hx
    rcases List.mem_append.1 hx with hx | hx
    · exact hyw x hx
    · rw [List.mem_singleton.1 hx]; exact e3
  · rw [natVal_snoc, List.length_append, List.length_singleton, base_succ, take_next (by omega) hdx, natVal_snoc, take_len (by omega)]
    have e4 : base ys.length * s + 18446744073709551616 * base ys.length * (h + f) = base ys.length * (d * m + q) := by rw [← e1]; simp only [Nat.mul_add, Nat.mul_assoc, Nat.mul_left_comm]
    rw [Nat.add_assoc, e4, Nat.mul_add, Nat.add_mul, Nat.mul_assoc]
    omega
  · rw [← put_set (by omega)]
    exact hb.set_ _ (by rw [put_length (by omega)]; omega)

set_option maxRecDepth 100000 in
set_option maxHeartbeats 4000000 in
theorem mulAdd_any (g o n c : Nat) (xs : List Nat) (m p : Nat) (w : World) (hb : Blk w g xs) (ho : o + n ≤ xs.length) (hx : Words xs) (hm : m < 18446744073709551616) (hp : p < 18446744073709551616) (hn : n < 4294967296) (_hoo : o < 4294967296) :
    Calls Tryd.prog 67 #[.slice (some ⟨g, o, none⟩) n c, .int .u64 (m : Nat), .int .u64 (p : Nat)] w fun e w' =>
      ∃ (ys : List Nat) (q : Nat), e = .returned (.int .u64 (q : Nat)) ∧ ys.length = n ∧ q < 18446744073709551616 ∧ Words ys ∧ natVal ys + base n * q = natVal ((xs.drop o).take n) * m + p ∧ Blk w' g (put xs o ys) ∧ Only g w w' := by
  have Hb := Lib.hid hb
  have Hx := Lib.hid hx
  clear hb hx
  go_enter Tryd.func67, Tryd.ntmps67
  go_wp2_with fail
  go_loopw [14, 2] (fun vi vp wr => MulAddInv w g o xs p m vi vp wr n) (fun vi _ _ => n - (intOf vi).toNat)
  case atStart => exact ⟨[], p, Nat.zero_le _, rfl, rfl, hp, fun d hd => (by cases hd), by simp [natVal, base_zero], by rw [put_nil]; exact Hb.out, Only.refl _ _⟩
  case round =>
    obtain ⟨ys, q, hyn, rfl, rfl, hq, hyw, hval, hblk, honly⟩ := hrel
    have hlen : (put xs o ys).length = xs.length := put_length (by omega)
    have Hblk := Lib.hid hblk
    have Hyw := Lib.hid hyw
    have Hval := Lib.hid hval
    have Honly := Lib.hid honly
    by_cases hlt : ys.length < n
    · have hcell := hblk.cell (i := o + ys.length) (by omega)
      rw [put_get (by omega) (Nat.le_refl _)] at hcell
      have hfz := hblk.frozen (o + ys.length)
      have hd := Hx.out (xs.getD (o + ys.length) 0) (by simp [show o + ys.length < xs.length by omega])
      obtain ⟨d, hd'⟩ : ∃ d, xs.getD (o + ys.length) 0 = d := ⟨_, rfl⟩
      rw [hd'] at hcell hd
      obtain ⟨k, hk⟩ : ∃ k, ys.length = k := ⟨_, rfl⟩
      have Hk := Lib.hid hk
      have Hd := Lib.hid hd'
      rw [hk] at hcell hfz hlt hyn
      rw [hk]
      clear hblk hyw hval honly hd' hk hlen
      obtain ⟨h, hh⟩ : ∃ h, d * m / 18446744073709551616 = h := ⟨_, rfl⟩
      obtain ⟨l, hl⟩ : ∃ l, d * m % 18446744073709551616 = l := ⟨_, rfl⟩
      obtain ⟨s, hs⟩ : ∃ s, (l + q + 0) % 18446744073709551616 = s := ⟨_, rfl⟩
      obtain ⟨f, hf⟩ : ∃ f, (l + q + 0) / 18446744073709551616 = f := ⟨_, rfl⟩
      have Hmul := Lib.hid (mul64_at d m h l hd hm hh hl)
      have Hadd := Lib.hid (add64_at l q 0 s f (by omega) hs hf)
      have hadd : ∀ W : World, (callFunc 84 #[.int .u64 (l : Int), .int .u64 (q : Int), .int .u64 0]).run Tryd.prog W = .ok (.value (.tuple #[.int .u64 (s : Int), .int .u64 (f : Int)])) W := Hadd.out
      have hle : h + f < 18446744073709551616 := (mul_parts hd hm hq hh hl hs hf).2.1
      have Hh := Lib.hid hh
      have Hl := Lib.hid hl
      have Hs := Lib.hid hs
      have Hf := Lib.hid hf
      have hle' : (h : Int) + f < 18446744073709551616 := by omega
      clear hh hl hs hf
      go_wp2_with fail
      refine (Hmul.out _).mono ?_
      rintro e w' ⟨rfl, rfl⟩
      go_wp2_with fail
      exact ⟨mulAdd_step Hk.out hlt ho Hd.out hd hm hq Hh.out Hl.out Hs.out Hf.out Hyw.out Hval.out Hblk.out Honly.out, by simp [intOf] <;> omega⟩
    · obtain rfl : ys.length = n := by omega
      clear hblk hyw hval honly hlen
      go_wp2
      go_ret
      exact ⟨ys, q, rfl, rfl, hq, Hyw.out, Hval.out, Hblk.out, Honly.out⟩
end Go.Proofs.YtegndbiglehacaaDoor
