/- mulAdd: words times a word, plus a word, in place. -/
import Derived.Test.YtbpbfjnndkoioaaGreatDoorFrom
namespace Go.Proofs.YtbpbfjnndkoioaaGreatDoor
open Go.RowKit

/-- The number of some words, the lowest one first. -/
def natVal : List Nat → Nat
  | [] => 0
  | d :: r => d + 18446744073709551616 * natVal r
def Words (l : List Nat) : Prop := ∀ d ∈ l, d < 18446744073709551616
def u64s (l : List Nat) : List Value := l.map fun d : Nat => Value.int .u64 (d : Int)
def base (n : Nat) : Nat := 18446744073709551616 ^ n
theorem base_zero : base 0 = 1 := rfl
theorem base_succ (n : Nat) : base (n + 1) = 18446744073709551616 * base n := by unfold base; rw [Nat.pow_succ, Nat.mul_comm]
theorem base_pos (n : Nat) : 0 < base n := Nat.pow_pos (by decide)
theorem natVal_append (a b : List Nat) : natVal (a ++ b) = natVal a + base a.length * natVal b := by
  induction a with
  | nil => simp [natVal, base_zero]
  | cons d r ih => rw [List.cons_append, natVal, natVal, ih, List.length_cons, base_succ, Nat.mul_add, Nat.mul_assoc]; omega
theorem natVal_lt {l : List Nat} (h : Words l) : natVal l < base l.length := by
  induction l with
  | nil => exact Nat.one_pos
  | cons d r ih =>
    rw [natVal, List.length_cons, base_succ]
    have h1 := h d (List.mem_cons_self ..)
    have h2 := ih (fun x hx => h x (List.mem_cons_of_mem _ hx))
    have h3 : 18446744073709551616 * (natVal r + 1) ≤ 18446744073709551616 * base r.length := Nat.mul_le_mul_left _ h2
    omega
theorem natVal_snoc (a : List Nat) (d : Nat) : natVal (a ++ [d]) = natVal a + base a.length * d := by rw [natVal_append]; simp [natVal]

/-- Block g begins with these words. -/
def Blk (w : World) (g : Nat) (xs : List Nat) : Prop := ∃ cur : Array Value, w.heap[g]? = some (.cells cur 82 (0, 0)) ∧ cur.toList.take xs.length = u64s xs
theorem Blk.lt {w : World} {g : Nat} {xs : List Nat} (h : Blk w g xs) : g < w.heap.size := by
  obtain ⟨cur, h, _⟩ := h
  rcases Nat.lt_or_ge g w.heap.size with hlt | hge
  · exact hlt
  · rw [Array.getElem?_eq_none hge] at h; cases h
theorem Blk.cell {w : World} {g : Nat} {xs : List Nat} (h : Blk w g xs) {i : Nat} (hi : i < xs.length) : w.cell? ⟨g, i, none⟩ = some (.int .u64 ((xs.getD i 0 : Nat) : Int)) := by
  obtain ⟨cur, h, hc⟩ := h
  rw [cell_of_row w g i cur 82 (0, 0) h]
  have e : cur.toList[i]? = (u64s xs)[i]? := by rw [← hc, List.getElem?_take, if_pos hi]
  rw [← Array.getElem?_toList, e]
  simp [u64s, hi]
theorem Blk.frozen {w : World} {g : Nat} {xs : List Nat} (h : Blk w g xs) (i : Nat) : w.frozen? ⟨g, i, none⟩ = false := by
  obtain ⟨cur, h, _⟩ := h
  simp [World.frozen?, h]
theorem Blk.set_ {w : World} {g : Nat} {xs : List Nat} (h : Blk w g xs) {i : Nat} (d : Nat) (_hi : i < xs.length) : Blk (w.setCell ⟨g, i, none⟩ (.int .u64 (d : Int))) g (xs.set i d) := by
  obtain ⟨cur, h, hc⟩ := h
  refine ⟨cur.setIfInBounds i (.int .u64 (d : Int)), by simp [World.setCell, Array.getElem?_modify, h], ?_⟩
  rw [Array.toList_setIfInBounds, List.length_set, List.take_set, hc]
  simp [u64s, List.map_set]
theorem Blk.below {w w' : World} {g B : Nat} {xs : List Nat} (h : Blk w g xs) (hb : Below B w w') (hg : g < B) : Blk w' g xs := by
  obtain ⟨cur, h, hc⟩ := h
  exact ⟨cur, (hb.block g hg).trans h, hc⟩
theorem Blk.drewN {w : World} {g : Nat} {xs : List Nat} (h : Blk w g xs) (n : Nat) : Blk (w.drewN n) g xs := h
theorem Blk.take {w : World} {g : Nat} {xs : List Nat} (h : Blk w g xs) (n : Nat) : Blk w g (xs.take n) := by
  obtain ⟨cur, h, hc⟩ := h
  refine ⟨cur, h, ?_⟩
  rw [List.length_take]
  have : u64s (xs.take n) = (u64s xs).take n := by simp [u64s, List.map_take]
  rw [this, ← hc, List.take_take]
/-- Words that the call has made: a row of its own. -/
theorem Blk.of_own {w : World} {base n : Nat} {v : Value} {xs : List Nat} (h : w.ownsRow base 82 1 v n (u64s xs)) (hn : 0 < n) : ∃ g c, v = .slice (some ⟨g, 0, none⟩) n c ∧ n ≤ c ∧ c ≤ maxLen ∧ base ≤ g ∧ Blk w g xs := by
  have hl : xs.length = n := by simpa [u64s] using h.1
  rcases h.2 with ⟨_, h0⟩ | ⟨g, cap, cur, rfl, hg, hh, hnc, hcm, hcs, hx⟩
  · omega
  · exact ⟨g, cap, rfl, hnc, hcm, hg, cur, hh, by rw [hl, ← hx, Nat.mul_one]⟩
/-- Words in a block read as a list. -/
theorem Blk.isL {w : World} {g : Nat} {xs : List Nat} (h : Blk w g xs) {o n c : Nat} (hn : o + n ≤ xs.length) (hc : n ≤ c) : IsL w (some ⟨g, o, none⟩) n c (u64s ((xs.drop o).take n)) := by
  refine ⟨by simp [u64s]; omega, hc, fun _ => ⟨g, o, rfl, h.lt, fun j u hu => ?_⟩⟩
  simp only [u64s, List.getElem?_map, List.getElem?_take, List.getElem?_drop, Option.map_eq_some_iff] at hu
  obtain ⟨d, hd, rfl⟩ := hu
  split at hd
  · have hj : o + j < xs.length := by omega
    rw [h.cell hj]
    rw [List.getElem?_eq_getElem hj] at hd
    simp at hd
    simp [List.getD, hj, hd]
  · cases hd

/-- The number of cells of a block. -/
def roomAt (w : World) (g : Nat) : Nat :=
  match w.heap[g]? with
  | some (.cells cur _ _) => cur.size
  | _ => 0
theorem roomAt_set (w : World) (g i : Nat) (u : Value) : roomAt (w.setCell ⟨g, i, none⟩ u) g = roomAt w g := by
  unfold roomAt
  cases h : w.heap[g]? with
  | none => simp [World.setCell, Array.getElem?_modify, h]
  | some o => cases o <;> simp [World.setCell, Array.getElem?_modify, h]

/-- All but block g is as it was. -/
structure Only (g : Nat) (w w' : World) : Prop where
  os : w'.os = w.os
  tape : w'.tape = w.tape
  output : w'.output = w.output
  size : w.heap.size ≤ w'.heap.size
  block : ∀ k, k < w.heap.size → k ≠ g → w'.heap[k]? = w.heap[k]?
  room : g < w.heap.size → roomAt w' g = roomAt w g
theorem Only.refl (g : Nat) (w : World) : Only g w w := ⟨rfl, rfl, rfl, Nat.le_refl _, fun _ _ _ => rfl, fun _ => rfl⟩
theorem Only.trans {g : Nat} {a b c : World} (h : Only g a b) (k : Only g b c) : Only g a c :=
  ⟨k.os.trans h.os, k.tape.trans h.tape, k.output.trans h.output, Nat.le_trans h.size k.size, fun i hi hg => (k.block i (Nat.lt_of_lt_of_le hi h.size) hg).trans (h.block i hi hg), fun hg => (k.room (Nat.lt_of_lt_of_le hg h.size)).trans (h.room hg)⟩
theorem Only.set_ {g : Nat} {a w : World} (h : Only g a w) (i : Nat) (u : Value) : Only g a (w.setCell ⟨g, i, none⟩ u) :=
  ⟨h.os, h.tape, h.output, by simpa [World.setCell] using h.size, fun k hk hg => (Below.heap_setCell w ⟨g, i, none⟩ u k hg).trans (h.block k hk hg), fun hg => (roomAt_set w g i u).trans (h.room hg)⟩
theorem Only.drewN {g : Nat} {a w : World} (h : Only g a w) (n : Nat) : Only g a (w.drewN n) := ⟨h.os, h.tape, h.output, h.size, h.block, h.room⟩
theorem Only.of_below {g : Nat} {a w w' : World} (h : Only g a w) (hb : Below w.heap.size w w') : Only g a w' :=
  ⟨hb.os.trans h.os, hb.tape.trans h.tape, hb.output.trans h.output, Nat.le_trans h.size hb.size, fun k hk hg => (hb.block k (Nat.lt_of_lt_of_le hk h.size)).trans (h.block k hk hg), fun hg => by
    have e : roomAt w' g = roomAt w g := by unfold roomAt; rw [hb.block g (Nat.lt_of_lt_of_le hg h.size)]
    exact e.trans (h.room hg)⟩
/-- A block of the call's own: what lay below it is as it was. -/
theorem Below.only {B g : Nat} {a w w' : World} (h : Below B a w) (ho : Only g w w') (hg : B ≤ g) (hB : B ≤ w.heap.size) : Below B a w' :=
  ⟨ho.os.trans h.os, ho.tape.trans h.tape, ho.output.trans h.output, Nat.le_trans h.size ho.size, fun k hk => (ho.block k (Nat.lt_of_lt_of_le hk hB) (by omega)).trans (h.block k hk)⟩
theorem Only.cell {g : Nat} {w w' : World} (h : Only g w w') {b o : Nat} (hb : b < w.heap.size) (hg : b ≠ g) : w'.cell? ⟨b, o, none⟩ = w.cell? ⟨b, o, none⟩ :=
  World.cell?_of_block (h.block b hb hg)

theorem add64_at (x y c s d : Nat) (hc : c ≤ 1) (hs : (x + y + c) % 18446744073709551616 = s) (hd : (x + y + c) / 18446744073709551616 = d) (w : World) :
    (callFunc 127 #[.int .u64 x, .int .u64 y, .int .u64 c]).run Tryz.prog w = .ok (.value (.tuple #[.int .u64 (s : Int), .int .u64 (d : Int)])) w := by
  rw [← hs, ← hd]; exact Any7.bits_Add64 Tryz.lays7n25 x y c hc w
theorem sub64_at (x y b s d : Nat) (hb : b ≤ 1) (hs : (x + 18446744073709551616 - y - b) % 18446744073709551616 = s) (hd : (if x < y + b then 1 else 0) = d) (w : World) :
    (callFunc 116 #[.int .u64 x, .int .u64 y, .int .u64 b]).run Tryz.prog w = .ok (.value (.tuple #[.int .u64 (s : Int), .int .u64 (d : Int)])) w := by
  rw [← hs, ← hd]; exact Any7.bits_Sub64 Tryz.lays7n26 x y b hb w
theorem mul64_at (x y h l : Nat) (hx : x < 18446744073709551616) (hy : y < 18446744073709551616) (hh : x * y / 18446744073709551616 = h) (hl : x * y % 18446744073709551616 = l) (w : World) :
    Calls Tryz.prog 77 #[.int .u64 x, .int .u64 y] w fun e w' => e = .returned (.tuple #[.int .u64 (h : Int), .int .u64 (l : Int)]) ∧ w = w' := by
  rw [← hh, ← hl]; exact (Tryz.bits_Mul64 x y hx hy w).mono fun e w' ⟨h1, h2⟩ => ⟨h1, h2.symm⟩
/-- The words xs, those from o on replaced by ys. -/
def put (xs : List Nat) (o : Nat) (ys : List Nat) : List Nat := xs.take o ++ ys ++ xs.drop (o + ys.length)
theorem put_nil (xs : List Nat) (o : Nat) : put xs o [] = xs := by simp [put]
theorem put_length {xs : List Nat} {o : Nat} {ys : List Nat} (h : o + ys.length ≤ xs.length) : (put xs o ys).length = xs.length := by simp [put]; omega
theorem put_get {xs : List Nat} {o : Nat} {ys : List Nat} {i : Nat} (ho : o ≤ xs.length) (hi : o + ys.length ≤ i) : (put xs o ys).getD i 0 = xs.getD i 0 := by
  unfold put
  rw [List.getD_eq_getElem?_getD, List.getD_eq_getElem?_getD, List.getElem?_append_right (by simp; omega), List.getElem?_drop]
  congr 2
  simp; omega
theorem put_set {xs : List Nat} {o : Nat} {ys : List Nat} {d : Nat} (h : o + ys.length < xs.length) : (put xs o ys).set (o + ys.length) d = put xs o (ys ++ [d]) := by
  unfold put
  rw [List.set_append_right _ _ (by simp; omega)]
  have e : o + ys.length - (xs.take o ++ ys).length = 0 := by simp; omega
  rw [e, List.drop_eq_getElem_cons h, List.set_cons_zero, List.length_append, List.length_singleton]
  simp [Nat.add_assoc]

def MulAddInv (w0 : World) (g o : Nat) (xs : List Nat) (p0 m : Nat) (vi vp : Value) (wr : World) (n : Nat) : Prop :=
  ∃ (ys : List Nat) (p : Nat), ys.length ≤ n ∧ vi = .int .i64 (ys.length : Nat) ∧ vp = .int .u64 (p : Nat) ∧ p < 18446744073709551616 ∧ Words ys ∧ natVal ys + base ys.length * p = natVal ((xs.drop o).take ys.length) * m + p0 ∧
    Blk wr g (put xs o ys) ∧ Only g w0 wr

theorem mul_parts {d m q h l s f : Nat} (hd : d < 18446744073709551616) (hm : m < 18446744073709551616) (hq : q < 18446744073709551616) (hh : d * m / 18446744073709551616 = h) (hl : d * m % 18446744073709551616 = l)
    (hs : (l + q + 0) % 18446744073709551616 = s) (hf : (l + q + 0) / 18446744073709551616 = f) : s + 18446744073709551616 * (h + f) = d * m + q ∧ h + f < 18446744073709551616 ∧ s < 18446744073709551616 ∧ f ≤ 1 := by
  have h1 : d * m ≤ 18446744073709551615 * 18446744073709551615 := Nat.mul_le_mul (by omega) (by omega)
  generalize d * m = t at *
  omega
theorem take_next {xs : List Nat} {o k d : Nat} (hk : o + k < xs.length) (hd : xs.getD (o + k) 0 = d) : (xs.drop o).take (k + 1) = (xs.drop o).take k ++ [d] := by
  rw [List.take_succ_eq_append_getElem (by simp; omega)]
  congr 2
  rw [List.getElem_drop, ← hd]
  simp [List.getD, hk]
theorem take_len {xs : List Nat} {o k : Nat} (hk : o + k ≤ xs.length) : ((xs.drop o).take k).length = k := by simp; omega
theorem mulAdd_step {w0 wr : World} {g o k n d m p q h l s f : Nat} {xs ys : List Nat} (hk : ys.length = k) (hkn : k < n) (ho : o + n ≤ xs.length) (hdx : xs.getD (o + ys.length) 0 = d) (hd : d < 18446744073709551616) (hm : m < 18446744073709551616) (hq : q < 18446744073709551616)
    (hh : d * m / 18446744073709551616 = h) (hl : d * m % 18446744073709551616 = l) (hs : (l + q + 0) % 18446744073709551616 = s) (hf : (l + q + 0) / 18446744073709551616 = f)
    (hyw : Words ys) (hval : natVal ys + base ys.length * q = natVal ((xs.drop o).take ys.length) * m + p) (hb : Blk wr g (put xs o ys)) (hw : Only g w0 wr) :
    MulAddInv w0 g o xs p m (.int .i64 ((k : Int) + 1)) (.int .u64 ((h : Int) + f)) (wr.setCell ⟨g, o + k, none⟩ (.int .u64 (s : Int))) n := by
  obtain ⟨e1, e2, e3, _⟩ := mul_parts hd hm hq hh hl hs hf
  subst hk
  refine ⟨ys ++ [s], h + f, by simp; omega, by simp, by simp, e2, ?_, ?_, ?_, hw.set_ _ _⟩
  · intro x hx
    rcases List.mem_append.1 hx with hx | hx
    · exact hyw x hx
    · rw [List.mem_singleton.1 hx]; exact e3
  · rw [natVal_snoc, List.length_append, List.length_singleton, base_succ, take_next (by omega) hdx, natVal_snoc, take_len (by omega)]
    have e4 : base ys.length * s + 18446744073709551616 * base ys.length * (h + f) = base ys.length * (d * m + q) := by rw [← e1]; simp only [Nat.mul_add, Nat.mul_assoc, Nat.mul_left_comm]
    rw [Nat.add_assoc, e4, Nat.mul_add, Nat.add_mul, Nat.mul_assoc]
    omega
  · rw [← put_set (by omega)]
    exact hb.set_ _ (by rw [put_length (by omega)]; omega)

set_option maxRecDepth 100000 in
set_option maxHeartbeats 4000000 in
theorem mulAdd_any (g o n c : Nat) (xs : List Nat) (m p : Nat) (w : World) (hb : Blk w g xs) (ho : o + n ≤ xs.length) (hx : Words xs) (hm : m < 18446744073709551616) (hp : p < 18446744073709551616) (hn : n < 4294967296) (_hoo : o < 4294967296) :
    Calls Tryz.prog 114 #[.slice (some ⟨g, o, none⟩) n c, .int .u64 (m : Nat), .int .u64 (p : Nat)] w fun e w' =>
      ∃ (ys : List Nat) (q : Nat), e = .returned (.int .u64 (q : Nat)) ∧ ys.length = n ∧ q < 18446744073709551616 ∧ Words ys ∧ natVal ys + base n * q = natVal ((xs.drop o).take n) * m + p ∧ Blk w' g (put xs o ys) ∧ Only g w w' := by
  have Hb := Lib.hid hb
  have Hx := Lib.hid hx
  clear hb hx
  go_enter Tryz.func114, Tryz.ntmps114
  go_wp2_with fail
  go_loopw [14, 2] (fun vi vp wr => MulAddInv w g o xs p m vi vp wr n) (fun vi _ _ => n - (intOf vi).toNat)
  case atStart => exact ⟨[], p, Nat.zero_le _, rfl, rfl, hp, fun d hd => (by cases hd), by simp [natVal, base_zero], by rw [put_nil]; exact Hb.out, Only.refl _ _⟩
  case round =>
    obtain ⟨ys, q, hyn, rfl, rfl, hq, hyw, hval, hblk, honly⟩ := hrel
    have hlen : (put xs o ys).length = xs.length := put_length (by omega)
    have Hblk := Lib.hid hblk
    have Hyw := Lib.hid hyw
    have Hval := Lib.hid hval
    have Honly := Lib.hid honly
    by_cases hlt : ys.length < n
    · have hcell := hblk.cell (i := o + ys.length) (by omega)
      rw [put_get (by omega) (Nat.le_refl _)] at hcell
      have hfz := hblk.frozen (o + ys.length)
      have hd := Hx.out (xs.getD (o + ys.length) 0) (by simp [show o + ys.length < xs.length by omega])
      obtain ⟨d, hd'⟩ : ∃ d, xs.getD (o + ys.length) 0 = d := ⟨_, rfl⟩
      rw [hd'] at hcell hd
      obtain ⟨k, hk⟩ : ∃ k, ys.length = k := ⟨_, rfl⟩
      have Hk := Lib.hid hk
      have Hd := Lib.hid hd'
      rw [hk] at hcell hfz hlt hyn
      rw [hk]
      clear hblk hyw hval honly hd' hk hlen
      obtain ⟨h, hh⟩ : ∃ h, d * m / 18446744073709551616 = h := ⟨_, rfl⟩
      obtain ⟨l, hl⟩ : ∃ l, d * m % 18446744073709551616 = l := ⟨_, rfl⟩
      obtain ⟨s, hs⟩ : ∃ s, (l + q + 0) % 18446744073709551616 = s := ⟨_, rfl⟩
      obtain ⟨f, hf⟩ : ∃ f, (l + q + 0) / 18446744073709551616 = f := ⟨_, rfl⟩
      have Hmul := Lib.hid (mul64_at d m h l hd hm hh hl)
      have Hadd := Lib.hid (add64_at l q 0 s f (by omega) hs hf)
      have hadd : ∀ W : World, (callFunc 127 #[.int .u64 (l : Int), .int .u64 (q : Int), .int .u64 0]).run Tryz.prog W = .ok (.value (.tuple #[.int .u64 (s : Int), .int .u64 (f : Int)])) W := Hadd.out
      have hle : h + f < 18446744073709551616 := (mul_parts hd hm hq hh hl hs hf).2.1
      have Hh := Lib.hid hh
      have Hl := Lib.hid hl
      have Hs := Lib.hid hs
      have Hf := Lib.hid hf
      have hle' : (h : Int) + f < 18446744073709551616 := by omega
      clear hh hl hs hf
      go_wp2_with fail
      refine (Hmul.out _).mono ?_
      rintro e w' ⟨rfl, rfl⟩
      go_wp2_with fail
      exact ⟨mulAdd_step Hk.out hlt ho Hd.out hd hm hq Hh.out Hl.out Hs.out Hf.out Hyw.out Hval.out Hblk.out Honly.out, by simp [intOf] <;> omega⟩
    · obtain rfl : ys.length = n := by omega
      clear hblk hyw hval honly hlen
      go_wp2
      go_ret
      exact ⟨ys, q, rfl, rfl, hq, Hyw.out, Hval.out, Hblk.out, Honly.out⟩
end Go.Proofs.YtbpbfjnndkoioaaGreatDoor
