/- Graph: Set, List, Lnk, Stp, Chk, Chk2. -/
import Derived.Test.YthocdmlacfejkaaDoorChecked
import Derived.WalkKit
import Derived.WalkSmall
import Derived.Deep.QuietTactic
import Derived.BigQuiet
import Derived.RegionTactic
import Derived.Below
import Derived.Lib.Hide
import Derived.Lib.SmallJoins
import Derived.Laws.ResultCell
import Derived.OwnWalk
import Derived.Laws.Bits64b
import Derived.Deep.RegionHeld3
import Derived.Deep.RegionWith
import Derived.Shelf.Spec.TrailingZeros
import Derived.Laws.BytesArg
import Derived.WalkSpells
import Derived.Test.YthocdmlacfejkaaDoorMA
import Derived.Test.YthocdmlacfejkaaDoorShelf
import Derived.StillTailTactics
namespace Go.Proofs.YthocdmlacfejkaaDoor
open Go.RowKit
theorem bcell {W w1 : World} (hb : Below W.heap.size W w1) : (∀ b o, b < W.heap.size → w1.cell? ⟨b, o, none⟩ = W.cell? ⟨b, o, none⟩) ∧ (∀ b o, b < W.heap.size → w1.frozen? ⟨b, o, none⟩ = W.frozen? ⟨b, o, none⟩) :=
  ⟨fun b o h => hb.cell (p := ⟨b, o, none⟩) h, fun b o h => hb.frozen (p := ⟨b, o, none⟩) h⟩
theorem ret_bool {a b : Bool} (h : a = b) : Ending.returned (.bool a) = .returned (.bool b) := by rw [h]
theorem ret_int {k : IntKind} {a b : Int} (h : a = b) : Ending.returned (.int k a) = .returned (.int k b) := by rw [h]
/-- The set of one node. -/
def sing (n : Nat) : Nat := 2 ^ n
/-- What is in a, and not in b. -/
def diff (a b : Nat) : Nat := a ^^^ (a &&& b)
theorem diff_bit (a b i : Nat) : (diff a b).testBit i = (a.testBit i && !b.testBit i) := by
  unfold diff
  rw [Nat.testBit_xor, Nat.testBit_and]
  cases a.testBit i <;> cases b.testBit i <;> rfl
theorem sing_bit {n i : Nat} : (sing n).testBit i = decide (n = i) := Nat.testBit_two_pow
theorem sing_lt {n : Nat} (h : n < 64) : sing n < 18446744073709551616 := Nat.pow_lt_pow_right (by decide) h
theorem diff_le (a b : Nat) : diff a b ≤ a := by
  have : diff a b = diff a b &&& a := by
    apply Nat.eq_of_testBit_eq
    intro i
    rw [Nat.testBit_and, diff_bit]
    cases a.testBit i <;> cases b.testBit i <;> rfl
  rw [this]
  exact Nat.and_le_right
theorem or_lt {a b : Nat} (ha : a < 18446744073709551616) (hb : b < 18446744073709551616) : a ||| b < 18446744073709551616 := Nat.or_lt_two_pow (n := 64) ha hb
theorem bits_diff (a b : Nat) (ha : a < 18446744073709551616) (hb : b < 18446744073709551616) : bits .andNot .u64 (a : Int) (b : Int) = ((diff a b : Nat) : Int) := by
  have hx : diff a b < 18446744073709551616 := Nat.lt_of_le_of_lt (diff_le a b) ha
  have h1 : (BitVec.ofInt 64 (a : Int)).toNat = a := by
    rw [BitVec.ofInt_natCast, BitVec.toNat_ofNat]; exact Nat.mod_eq_of_lt (by omega)
  have h2 : (BitVec.ofInt 64 (b : Int)).toNat = b := by
    rw [BitVec.ofInt_natCast, BitVec.toNat_ofNat]; exact Nat.mod_eq_of_lt (by omega)
  have e : (BitVec.ofInt 64 (a : Int) &&& ~~~ BitVec.ofInt 64 (b : Int)).toNat = diff a b := by
    apply Nat.eq_of_testBit_eq
    intro i
    rw [BitVec.toNat_and, Nat.testBit_and, h1, BitVec.toNat_not, h2, diff_bit]
    by_cases hi : i < 64
    · have := Nat.testBit_two_pow_sub_succ (x := b) (n := 64) hb i
      rw [show 2 ^ 64 - 1 - b = 2 ^ 64 - (b + 1) by omega, this]
      simp [hi]
    · rw [Nat.testBit_lt_two_pow (x := a) (Nat.lt_of_lt_of_le ha (show 18446744073709551616 ≤ 2 ^ i from Nat.pow_le_pow_right (n := 2) (by decide) (show 64 ≤ i by omega)))]
      simp
  show IntKind.u64.wrap ((BitVec.ofInt 64 (a : Int) &&& ~~~ BitVec.ofInt 64 (b : Int)).toNat : Int) = _
  rw [e, IntKind.wrap_u64]
  omega
theorem sing_wrap {n : Nat} (hn : n < 64) : IntKind.u64.wrap (2 ^ n) = ((sing n : Nat) : Int) := by
  have h := sing_lt hn
  have e : ((sing n : Nat) : Int) = 2 ^ n := by unfold sing; simp
  rw [IntKind.wrap_u64, ← e]
  omega
theorem single_any (n : Nat) (w : World) (hn : n < 64) :
    Calls Tryd.prog 86 #[.int .i64 n] w fun e w' => e = .returned (.int .u64 (sing n : Nat)) ∧ w = w' := by
  have hb := Lib.hid (sing_wrap hn)
  go_enter Tryd.func86, Tryd.ntmps86
  go_wp2
  go_ret
  exact ⟨ret_int hb.out, rfl⟩
theorem has_bit (s n : Nat) (hn : n < 64) (hs : s < 18446744073709551616) : (bits .and .u64 (s : Int) ((sing n : Nat) : Int) != 0) = s.testBit n := by
  rw [bits_and_u64_nat s _ hs (sing_lt hn)]
  have e : s &&& sing n = if s.testBit n then sing n else 0 := by
    apply Nat.eq_of_testBit_eq
    intro i
    rw [Nat.testBit_and, sing_bit]
    by_cases h : n = i
    · subst h; cases h : s.testBit n <;> simp [sing_bit]
    · cases h' : s.testBit n <;> simp [sing_bit, h]
  rw [e]
  have hp : 0 < sing n := Nat.pow_pos (by decide)
  cases s.testBit n <;> simp <;> omega
theorem has_any (s n : Nat) (w : World) (hn : n < 64) (hs : s < 18446744073709551616) :
    Calls Tryd.prog 85 #[.int .u64 s, .int .i64 n] w fun e w' => e = .returned (.bool (s.testBit n)) ∧ w = w' := by
  have hb := Lib.hid (has_bit s n hn hs)
  go_enter Tryd.func85, Tryd.ntmps85
  go_wp2_with fail
  refine (single_any _ _ hn).mono ?_
  rintro e w' ⟨rfl, rfl⟩
  go_wp2
  go_ret
  exact ⟨ret_bool hb.out, rfl⟩
theorem and_bd (x : Int) : ∃ k : Nat, k ≤ 127 ∧ bits .and .i64 x 127 = k := by
  have h2 : (BitVec.ofInt 64 127).toNat = 127 := by decide
  have h : (BitVec.ofInt 64 x &&& BitVec.ofInt 64 127).toNat ≤ 127 := by
    rw [BitVec.toNat_and, h2]; exact Nat.and_le_right
  refine ⟨_, h, ?_⟩
  show IntKind.i64.wrap ((BitVec.ofInt 64 x &&& BitVec.ofInt 64 127).toNat : Int) = _
  generalize (BitVec.ofInt 64 x &&& BitVec.ofInt 64 127).toNat = y at h
  exact IntWalk.i64_in _ (by omega)
theorem ret_k {x : Int} : ∃ k : Nat, k ≤ 127 ∧ Ending.returned (.int .i64 (bits .and .i64 x 127)) = .returned (.int .i64 k) :=
  let ⟨k, h1, h2⟩ := and_bd x
  ⟨k, h1, ret_int h2⟩
theorem ones_any (s : Nat) (w : World) (_hs : s < 18446744073709551616) :
    Calls Tryd.prog 112 #[.int .u64 s] w fun e w' => (∃ k : Nat, k ≤ 127 ∧ e = .returned (.int .i64 k)) ∧ w = w' := by
  go_enter Tryd.func112, Tryd.ntmps112
  go_wp2
  go_ret
  exact ⟨ret_k, rfl⟩
end Go.Proofs.YthocdmlacfejkaaDoor
namespace Go.Proofs.YthocdmlacfejkaaDoor
open Go.RowKit
theorem size_of_cell {w : World} {b o : Nat} {v : Value} (h : w.cell? ⟨b, o, none⟩ = some v) : b < w.heap.size := World.block_lt_of_cell? w ⟨b, o, none⟩ h
abbrev TzG : Nat := Tryd.lays7n29_ren.g 1
/-- The table of TrailingZeros64 lies as it was laid. -/
def Good (w : World) : Prop := TabAt TzG Lib.deBruijn64tab w
theorem Good.size {w : World} (h : Good w) : TzG < w.heap.size := size_of_cell (h 0 (by decide))
theorem Good.below {B : Nat} {w w' : World} (h : Good w) (hb : Below B w w') (hB : TzG < B) : Good w' := fun j hj => by
  rw [hb.cell (p := ⟨TzG, j, none⟩) hB]; exact h j hj
theorem tz_any (x : Nat) (hx : x < 18446744073709551616) (w : World) (ht : Good w) :
    Calls Tryd.prog 113 #[.int .u64 x] w fun e w' => e = .returned (.int .i64 (Lib.ctz 64 x : Nat)) ∧ w = w' :=
  (Tryd.bits_TrailingZeros64 x hx w (fun _ => ht)).mono fun _e _w' ⟨h1, h2⟩ => ⟨h1, h2.symm⟩
/-- Numbers as ints. -/
def nats (l : List Nat) : List Value := l.map fun n => Value.int .i64 (n : Nat)
theorem nats_snoc (l : List Nat) (n : Nat) : nats (l ++ [n]) = nats l ++ [.int .i64 (n : Nat)] := by unfold nats; simp
theorem nats_len (l : List Nat) : (nats l).length = l.length := by unfold nats; simp
theorem info_int : (Tryd.prog.info? 3).map (fun i => (i.zero, i.size, i.bytes)) = some (some (.int .i64 0), 1, 8) := by kernel_rfl
theorem own_ge {w : World} {base : Nat} {e : TypeId} {size n : Nat} {v : Value} {xs : List Value} (h : w.ownsRow base e size v n xs) {k : Nat} (hk : v.ownBlock = some k) : base ≤ k := by
  rcases h.2 with ⟨rfl, _⟩ | ⟨g, cap, cur, rfl, hg, _⟩
  · simp [Value.ownBlock] at hk
  · simp [Value.ownBlock] at hk; omega
def ListInv (w : World) (s0 : Nat) (s v : Value) (wr : World) : Prop :=
  ∃ (x : Nat) (l : List Nat), s = .int .u64 x ∧ x < 18446744073709551616 ∧ l ++ bitsOf x = bitsOf s0 ∧ wr.ownsRow w.heap.size 3 1 v l.length (nats l) ∧ Below w.heap.size w wr
theorem list_step {w wr w1 : World} {s0 x : Nat} {l : List Nat} {u v' : Value} (h0 : x ≠ 0) (hx : x < 18446744073709551616) (hl : l ++ bitsOf x = bitsOf s0)
    (hown : wr.ownsRow w.heap.size 3 1 u l.length (nats l)) (hown' : w1.ownsRow w.heap.size 3 1 v' (l.length + 1) (nats l ++ [.int .i64 (Lib.ctz 64 x : Nat)]))
    (hgrow : (wr.alloc (.cells #[.int .i64 (Lib.ctz 64 x : Nat)] 3)).grownBy w1 u.ownBlock) (hbel : Below w.heap.size w wr) : ListInv w s0 (.int .u64 ((x &&& (x - 1) : Nat) : Int)) v' w1 := by
  refine ⟨x &&& (x - 1), l ++ [Lib.ctz 64 x], rfl, Nat.lt_of_le_of_lt Nat.and_le_left hx, ?_, ?_, (hbel.alloc hbel.size _).grown hgrow (by simp; have := hbel.size; omega) (fun k hk => own_ge hown hk)⟩
  · rw [List.append_assoc, ← hl, bits_low h0 hx]; rfl
  · rw [nats_snoc, List.length_append]; exact hown'
theorem list_done {wr : World} {B s : Nat} {l : List Nat} {v : Value} (hl : l ++ bitsOf 0 = bitsOf s) (hown : wr.ownsRow B 3 1 v l.length (nats l)) : wr.ownsRow B 3 1 v (bitsOf s).length (nats (bitsOf s)) := by
  rw [bitsOf_zero, List.append_nil] at hl
  rw [← hl]
  exact hown
theorem list_less {x : Nat} (h0 : x ≠ 0) : x &&& (x - 1) < x := Nat.lt_of_le_of_lt Nat.and_le_right (by omega)
theorem u64_neq (x : Nat) (h : x ≠ 0) : ((x : Int) != 0) = true := by simp; omega
set_option maxRecDepth 100000 in
set_option maxHeartbeats 2000000 in
theorem list_any (s : Nat) (w : World) (hs : s < 18446744073709551616) (hw : Good w) :
    Calls Tryd.prog 81 #[.int .u64 s] w fun e w' => ∃ v, e = .returned v ∧ w'.ownsRow w.heap.size 3 1 v (bitsOf s).length (nats (bitsOf s)) ∧ Below w.heap.size w w' := by
  obtain ⟨i0, hi, hz0, hz1, hz2⟩ := info_parts info_int
  have Hw := Lib.hid (fun w' (h : Below w.heap.size w w') => hw.below h hw.size)
  have hb0 := bitsOf_len s
  clear hw
  go_enter Tryd.func81, Tryd.ntmps81
  go_wp2_with fail
  refine (ones_any s _ hs).mono ?_
  rintro e w1 ⟨⟨c, hc, rfl⟩, rfl⟩
  go_wp2_with (at_make; refine wpList_make_own _ rfl _ _ 50 rfl w.heap.size 3 i0 (.int .i64 0) 1 Tryd.underlying50 hi hz0 hz1 .i64 .i64 (c : Int) c rfl rfl rfl (by rw [hz2]; omega) (by unfold maxLen; omega) (Nat.le_refl _) ?_)
  intro w1 hown hgr
  have Hown := Lib.hid hown
  have Hb := Lib.hid ((Below.refl w.heap.size w).grown hgr (Nat.le_refl _) (by simp))
  clear hown hgr
  go_wp2_with fail
  go_loopw [0, 3] (fun sv v wr => ListInv w s sv v wr) (fun sv _ _ => (intOf sv).toNat)
  case atStart => exact ⟨s, [], rfl, hs, rfl, Hown.out, Hb.out⟩
  case round =>
    obtain ⟨x, l, rfl, hx, hl, hown, hbel⟩ := hrel
    have hlen : l.length ≤ 64 := by
      have h1 := hb0
      rw [← hl, List.length_append] at h1
      omega
    have Hl := Lib.hid hl
    have Hown := Lib.hid hown
    have Hbel := Lib.hid hbel
    have hsz := hbel.size
    clear hl hown hbel
    by_cases h0 : x = 0
    · subst h0
      have Hf := Lib.hid (list_done Hl.out Hown.out)
      go_wp2
      go_ret
      exact ⟨_, rfl, Hf.out, Hbel.out⟩
    · have h1 := u64_neq x h0
      have HL := Lib.hid (list_less h0)
      have H0 := Lib.hid h0
      have e1 : IntKind.u64.wrap ((x : Int) - 1) = ((x - 1 : Nat) : Int) := by rw [IntKind.wrap_u64]; omega
      have e2 : bits .and .u64 (x : Int) ((x - 1 : Nat) : Int) = ((x &&& (x - 1) : Nat) : Int) := bits_and_u64_nat x (x - 1) hx (by omega)
      clear h0
      go_wp2_with fail
      refine (tz_any x hx _ (Hw.out _ Hbel.out)).mono ?_
      rintro e w2 ⟨rfl, rfl⟩
      go_wp2_with (at_builtin; refine wpList_append_own _ rfl _ _ 50 rfl w.heap.size 3 i0 (.int .i64 0) 1 8 Tryd.underlying50 hi hz0 hz1 hz2 rfl (by decide) _ _ _ rfl (Hown.out.alloc _) ⟨wr.heap.size, 0, none⟩ 1 1 [.int .i64 (Lib.ctz 64 x : Nat)] rfl rfl ?c1 ?c2 ?c3 ?c4 ?c5 ?_)
      case c1 =>
        intro k u hu
        match k, hu with
        | 0, hu => simp at hu; subst hu; simp [Addr.add]
      case c2 => intro u hu; simp at hu; subst hu; rfl
      case c3 => unfold maxLen; omega
      case c4 => omega
      case c5 => simp; omega
      intro v' w3 hown' hgrow _
      have Hfin := Lib.hid (list_step H0.out hx Hl.out Hown.out hown' hgrow Hbel.out)
      clear hown' hgrow
      go_wp2
      go_roundw
      case rel => exact Hfin.out
      case measure => simp only [intOf]; have := HL.out; omega
end Go.Proofs.YthocdmlacfejkaaDoor
namespace Go.Proofs.YthocdmlacfejkaaDoor
open Go.RowKit
theorem heap_new (w : World) (o : Obj) : (w.alloc o).heap[w.heap.size]? = some o := by
  show (w.heap.push o)[w.heap.size]? = some o
  rw [Array.getElem?_push, if_pos rfl]
theorem below_on {w0 w w' : World} (h : Below w0.heap.size w0 w) (h' : Below w.heap.size w w') : Below w0.heap.size w0 w' := h.trans (h'.mono h.size)
/-- A block and what its cells hold; it may be written. -/
structure Cells (w : World) (p : Nat) (vs : List Value) : Prop where
  at_ : ∀ i, w.cell? ⟨p, i, none⟩ = vs[i]?
  fz : ∀ i, w.frozen? ⟨p, i, none⟩ = false
  lt : p < w.heap.size
theorem Cells.keep {w w' : World} {p : Nat} {vs : List Value} (h : Cells w p vs) (hb : Below w.heap.size w w') : Cells w' p vs :=
  ⟨fun i => (hb.cell (p := ⟨p, i, none⟩) h.lt).trans (h.at_ i), fun i => (hb.frozen (p := ⟨p, i, none⟩) h.lt).trans (h.fz i), Nat.lt_of_lt_of_le h.lt hb.size⟩
theorem Cells.of_row {w : World} {p : Nat} {vs : Array Value} {T : TypeId} (h : w.heap[p]? = some (.cells vs T (0, 0))) : Cells w p vs.toList := by
  refine ⟨fun i => by rw [cell_of_row _ _ _ _ _ _ h]; simp, fun i => by simp [World.frozen?, h], ?_⟩
  rcases Nat.lt_or_ge p w.heap.size with h1 | h1
  · exact h1
  · rw [Array.getElem?_eq_none h1] at h; cases h
theorem Cells.new (w : World) (vs : Array Value) (T : TypeId) : Cells (w.alloc (.cells vs T)) w.heap.size vs.toList := Cells.of_row (heap_new w _)
theorem Cells.set {w : World} {p : Nat} {vs : List Value} (h : Cells w p vs) (i : Nat) (u : Value) (hi : i < vs.length) : Cells (w.setCell ⟨p, i, none⟩ u) p (vs.set i u) := by
  refine ⟨fun k => ?_, fun k => by rw [World.frozen?_setCell]; exact h.fz k, by simpa [World.setCell] using h.lt⟩
  by_cases hk : k = i
  · subst hk
    rw [World.cell?_setCell_same _ _ _ ((h.at_ k).trans (List.getElem?_eq_getElem hi))]
    simp [hi]
  · rw [World.cell?_setCell_other _ _ _ _ (by simp <;> omega), h.at_ k, List.getElem?_set_ne (by omega)]
theorem Cells.other {w : World} {p q : Nat} {vs : List Value} (h : Cells w p vs) (hq : p ≠ q) (i : Nat) (u : Value) : Cells (w.setCell ⟨q, i, none⟩ u) p vs := by
  have hb := Below.heap_setCell w ⟨q, i, none⟩ u p hq
  exact ⟨fun k => (World.cell?_of_block hb).trans (h.at_ k), fun k => by rw [World.frozen?_setCell]; exact h.fz k, by simpa [World.setCell] using h.lt⟩

/-- A slice of edges. -/
def EL (w : World) (A : Option Addr) (n : Nat) (es : List (Int × Int)) : Prop :=
  es.length = n ∧ ∀ k e, es[k]? = some e → ∃ b o, A = some ⟨b, o, none⟩ ∧ b < w.heap.size ∧ w.cell? ⟨b, o + k * 2, none⟩ = some (.int .i64 e.1) ∧ w.cell? ⟨b, o + k * 2 + 1, none⟩ = some (.int .i64 e.2)
theorem EL.keep {w w' : World} {n : Nat} {A : Option Addr} {es : List (Int × Int)} (h : EL w A n es) (hb : Below w.heap.size w w') : EL w' A n es :=
  ⟨h.1, fun k e hk => let ⟨b, o, e1, hlt, hc, hd⟩ := h.2 k e hk; ⟨b, o, e1, Nat.lt_of_lt_of_le hlt hb.size, (hb.cell (p := ⟨b, o + k * 2, none⟩) hlt).trans hc, (hb.cell (p := ⟨b, o + k * 2 + 1, none⟩) hlt).trans hd⟩⟩
theorem EL.at_ {w : World} {A : Option Addr} {n : Nat} {es : List (Int × Int)} (h : EL w A n es) {k : Nat} (hk : k < n) : ∃ e b o, es[k]? = some e ∧ A = some ⟨b, o, none⟩ ∧ b < w.heap.size ∧ w.cell? ⟨b, o + k * 2, none⟩ = some (.int .i64 e.1) ∧ w.cell? ⟨b, o + k * 2 + 1, none⟩ = some (.int .i64 e.2) := by
  have hl : k < es.length := by rw [h.1]; exact hk
  obtain ⟨b, o, e, hb, hc⟩ := h.2 k es[k] (List.getElem?_eq_getElem hl)
  exact ⟨_, b, o, List.getElem?_eq_getElem hl, e, hb, hc⟩
/-- Nodes as ints. -/
def cast (es : List (Nat × Nat)) : List (Int × Int) := es.map fun e => ((e.1 : Int), (e.2 : Int))
theorem cast_at {es : List (Nat × Nat)} {k : Nat} {e : Int × Int} (h : (cast es)[k]? = some e) : ∃ x y : Nat, es[k]? = some (x, y) ∧ e = ((x : Int), (y : Int)) := by
  unfold cast at h
  rw [List.getElem?_map] at h
  cases h1 : es[k]? with
  | none => rw [h1] at h; cases h
  | some p => rw [h1] at h; injection h with h; exact ⟨p.1, p.2, rfl, h.symm⟩
abbrev gV (n : Int) (A : Option Addr) (m c : Nat) : Value := .agg #[.int .i64 n, .slice A m c]
/-- 64 sets. -/
def sets (f : Nat → Nat) : List Value := (List.range 64).map fun i => Value.int .u64 (f i : Nat)
theorem sets_at (f : Nat → Nat) {i : Nat} (h : i < 64) : (sets f)[i]? = some (.int .u64 (f i : Nat)) := by
  unfold sets; simp [h]
theorem sets_set (f : Nat → Nat) (i v : Nat) : (sets f).set i (.int .u64 (v : Nat)) = sets fun j => if i = j then v else f j := by
  apply List.ext_getElem?
  intro j
  rw [List.getElem?_set]
  unfold sets
  by_cases h : i = j
  · subst h
    by_cases h2 : i < 64
    · simp [h2]
    · rw [if_pos rfl, if_neg (by simpa using h2), List.getElem?_eq_none (by simp; omega)]
  · rw [if_neg h]
    by_cases h2 : j < 64
    · simp [h2, h]
    · rw [List.getElem?_eq_none (by simp; omega), List.getElem?_eq_none (by simp; omega)]
theorem sets_len (f : Nat → Nat) : (sets f).length = 64 := by unfold sets; simp
theorem Calls.still {P : Program} {f : FuncId} {args : Array Value} {w : World} {v : Value} (h : Calls P f args w fun e w' => e = .returned v ∧ w = w') : Calls P f args w fun e w' => e = .returned v ∧ w' = w :=
  h.mono fun _ _ ⟨h1, h2⟩ => ⟨h1, h2.symm⟩
theorem lt_under' {s : Nat} : Under 64 s ↔ s < 18446744073709551616 := ⟨under_lt, lt_under (k := 64)⟩
theorem low_take {n : Nat} {es : List (Nat × Nat)} (h : Low n es) (k : Nat) : Low n (es.take k) := fun e he => h e (List.mem_of_mem_take he)
theorem next_step {w : World} {p k x y : Nat} {es : List (Nat × Nat)} (hk : es[k]? = some (x, y)) (hc : Cells w p (sets (adj (es.take k)))) (hx : x < 64) :
    Cells (w.setCell ⟨p, x, none⟩ (.int .u64 (adj (es.take k) x ||| sing y : Nat))) p (sets (adj (es.take (k + 1)))) := by
  have h := hc.set x (.int .u64 (adj (es.take k) x ||| sing y : Nat)) (by rw [sets_len]; exact hx)
  rw [sets_set] at h
  have e : (fun j => if x = j then adj (es.take k) x ||| sing y else adj (es.take k) j) = adj (es.take (k + 1)) := by
    funext j
    rw [List.take_add_one, hk]
    show _ = adj (es.take k ++ [(x, y)]) j
    rw [adj_snoc]
    by_cases h : x = j
    · subst h; simp [sing]
    · simp [h]
  rw [e] at h
  exact h
theorem prev_step {w : World} {p k x y : Nat} {es : List (Nat × Nat)} (hk : es[k]? = some (x, y)) (hc : Cells w p (sets (adjR (es.take k)))) (hx : y < 64) :
    Cells (w.setCell ⟨p, y, none⟩ (.int .u64 (adjR (es.take k) y ||| sing x : Nat))) p (sets (adjR (es.take (k + 1)))) := by
  have h := hc.set y (.int .u64 (adjR (es.take k) y ||| sing x : Nat)) (by rw [sets_len]; exact hx)
  rw [sets_set] at h
  have e : (fun j => if y = j then adjR (es.take k) y ||| sing x else adjR (es.take k) j) = adjR (es.take (k + 1)) := by
    funext j
    rw [List.take_add_one, hk]
    show _ = adjR (es.take k ++ [(x, y)]) j
    rw [adjR_snoc]
    by_cases h : y = j
    · subst h; simp [sing]
    · simp [h]
  rw [e] at h
  exact h
theorem Cells.drew {w : World} {p : Nat} {vs : List Value} (h : Cells w p vs) : Cells w.drew p vs := ⟨h.at_, h.fz, h.lt⟩
theorem next_done {w : World} {p k : Nat} {es : List (Nat × Nat)} (hc : Cells w p (sets (adj (es.take k)))) (hk : es.length ≤ k) : Cells w p (sets (adj es)) := by
  rwa [List.take_of_length_le hk] at hc
theorem prev_done {w : World} {p k : Nat} {es : List (Nat × Nat)} (hc : Cells w p (sets (adjR (es.take k)))) (hk : es.length ≤ k) : Cells w p (sets (adjR es)) := by
  rwa [List.take_of_length_le hk] at hc
def NextInv (w : World) (es : List (Nat × Nat)) (f : List (Nat × Nat) → Nat → Nat) (i : Value) (wr : World) : Prop :=
  ∃ k : Nat, k ≤ es.length ∧ i = .int .i64 (k : Nat) ∧ Cells wr (w.heap.size + 1) (sets (f (es.take k))) ∧ Below w.heap.size w wr
set_option maxRecDepth 100000 in
set_option maxHeartbeats 2000000 in
theorem next_any (g : Int) (A : Option Addr) (n c : Nat) (es : List (Nat × Nat)) (w : World) (h : EL w A n (cast es)) (hl : Low 64 es) (hn : n ≤ 4096) :
    Calls Tryd.prog 88 #[gV g A n c] w fun e w' => ∃ p, e = .returned (.pointer (some ⟨p, 0, none⟩)) ∧ Cells w' p (sets (adj es)) ∧ w.heap.size ≤ p ∧ Below w.heap.size w w' := by
  have hlen : es.length = n := by have := h.1; unfold cast at this; simpa using this
  have H := Lib.hid h
  have HL := Lib.hid hl
  have H1 := Lib.hid (show Cells ((w.alloc (.cells #[.int .i64 g, .slice A n c] 26)).alloc (.cells (sets fun _ => 0).toArray 138)) (w.heap.size + 1) (sets (adj (es.take 0))) from by
    show Cells _ (w.heap.size + 1) (sets fun _ => 0)
    have := Cells.new (w.alloc (.cells #[.int .i64 g, .slice A n c] 26)) (sets fun _ => 0).toArray 138
    simpa using this)
  have B0 := Lib.hid (((Below.refl w.heap.size w).alloc (Nat.le_refl _) (.cells #[.int .i64 g, .slice A n c] 26)).alloc (by simp) (.cells (sets fun _ => 0).toArray 138))
  have hnl := Nat.le_of_eq hlen
  have hnl2 := Nat.le_of_eq hlen.symm
  clear h hl hlen
  go_enter Tryd.func88, Tryd.ntmps88
  go_wp2_with fail
  go_loopw [10] (fun i wr => NextInv w es adj i wr) (fun i _ => n - (intOf i).toNat)
  case atStart => exact ⟨0, Nat.zero_le _, rfl, H1.out, B0.out⟩
  case round =>
    obtain ⟨k, hk, rfl, hc, hb⟩ := hrel
    have Hc := Lib.hid hc
    have Hb := Lib.hid hb
    clear hc hb
    by_cases hlt : k < n
    · obtain ⟨e, b, o, he, rfl, hbl, c0, c1⟩ := (H.out.keep Hb.out).at_ hlt
      obtain ⟨x, y, hxy, rfl⟩ := cast_at he
      obtain ⟨hx, hy⟩ := HL.out _ (List.mem_of_getElem? hxy)
      have Hxy := Lib.hid hxy
      simp only at c0 c1 hx hy
      have kv := (Below.refl wr.heap.size wr).alloc (Nat.le_refl _) (.cells #[.int .i64 (x : Int), .int .i64 (y : Int)] 32)
      have HE := Lib.hid (Cells.new wr #[.int .i64 (x : Int), .int .i64 (y : Int)] 32)
      have Hc := Lib.hid (Hc.out.keep kv)
      have Hb := Lib.hid (below_on Hb.out kv)
      obtain ⟨x2, hx2⟩ : ∃ u, wr.alloc (.cells #[.int .i64 (x : Int), .int .i64 (y : Int)] 32) = u := ⟨_, rfl⟩
      obtain ⟨p2, hp2⟩ : ∃ p, wr.heap.size = p := ⟨_, rfl⟩
      rw [hx2] at HE Hc Hb
      rw [hp2] at HE
      clear he hxy kv
      have hxi : (x : Int) < 64 := by omega
      have d0 : x2.cell? ⟨p2, 0, none⟩ = some (.int .i64 (x : Int)) := HE.out.at_ 0
      have d1 : x2.cell? ⟨p2, 1, none⟩ = some (.int .i64 (y : Int)) := HE.out.at_ 1
      have l0 : x2.cell? ⟨w.heap.size + 1, x, none⟩ = some (.int .u64 (adj (es.take k) x : Nat)) := (Hc.out.at_ x).trans (sets_at _ hx)
      have l1 : x2.frozen? ⟨w.heap.size + 1, x, none⟩ = false := Hc.out.fz x
      have ub := lt_under'.1 (adj_under (low_take HL.out k) x)
      have sy := sing_lt hy
      have e1 : bits .or .u64 ((adj (es.take k) x : Nat) : Int) ((sing y : Nat) : Int) = ((adj (es.take k) x ||| sing y : Nat) : Int) := bits_or_u64_nat _ _ ub sy
      have Hfin := Lib.hid (next_step Hxy.out Hc.out hx)
      have Hb := Lib.hid (Hb.out.setCell (p := ⟨w.heap.size + 1, x, none⟩) (Nat.le_succ _) (.int .u64 (adj (es.take k) x ||| sing y : Nat)))
      go_wp2_with fail
      go_still_tail 12, (by kernel_rfl)
      still_call (Calls.still (single_any _ _ (by assumption)))
      repeat still_step
      change wpList _ _ _ _ _ x2.drew
      go_wp2_with fail
      go_roundw
      case rel => exact ⟨k + 1, by omega, by go_num, Hfin.out.drew, Hb.out.drew⟩
      case measure => simp [intOf]; omega
    · have Hf := Lib.hid (next_done Hc.out (by omega))
      have hkn : k = n := by omega
      subst hkn
      go_wp2_with fail
      go_ret
      exact ⟨_, rfl, Hf.out, Nat.le_succ _, Hb.out⟩
set_option maxRecDepth 100000 in
set_option maxHeartbeats 2000000 in
theorem previous_any (g : Int) (A : Option Addr) (n c : Nat) (es : List (Nat × Nat)) (w : World) (h : EL w A n (cast es)) (hl : Low 64 es) (hn : n ≤ 4096) :
    Calls Tryd.prog 84 #[gV g A n c] w fun e w' => ∃ p, e = .returned (.pointer (some ⟨p, 0, none⟩)) ∧ Cells w' p (sets (adjR es)) ∧ w.heap.size ≤ p ∧ Below w.heap.size w w' := by
  have hlen : es.length = n := by have := h.1; unfold cast at this; simpa using this
  have H := Lib.hid h
  have HL := Lib.hid hl
  have H1 := Lib.hid (show Cells ((w.alloc (.cells #[.int .i64 g, .slice A n c] 26)).alloc (.cells (sets fun _ => 0).toArray 138)) (w.heap.size + 1) (sets (adjR (es.take 0))) from by
    show Cells _ (w.heap.size + 1) (sets fun _ => 0)
    have := Cells.new (w.alloc (.cells #[.int .i64 g, .slice A n c] 26)) (sets fun _ => 0).toArray 138
    simpa using this)
  have B0 := Lib.hid (((Below.refl w.heap.size w).alloc (Nat.le_refl _) (.cells #[.int .i64 g, .slice A n c] 26)).alloc (by simp) (.cells (sets fun _ => 0).toArray 138))
  have hnl := Nat.le_of_eq hlen
  have hnl2 := Nat.le_of_eq hlen.symm
  clear h hl hlen
  go_enter Tryd.func84, Tryd.ntmps84
  go_wp2_with fail
  go_loopw [10] (fun i wr => NextInv w es adjR i wr) (fun i _ => n - (intOf i).toNat)
  case atStart => exact ⟨0, Nat.zero_le _, rfl, H1.out, B0.out⟩
  case round =>
    obtain ⟨k, hk, rfl, hc, hb⟩ := hrel
    have Hc := Lib.hid hc
    have Hb := Lib.hid hb
    clear hc hb
    by_cases hlt : k < n
    · obtain ⟨e, b, o, he, rfl, hbl, c0, c1⟩ := (H.out.keep Hb.out).at_ hlt
      obtain ⟨x, y, hxy, rfl⟩ := cast_at he
      obtain ⟨hx, hy⟩ := HL.out _ (List.mem_of_getElem? hxy)
      have Hxy := Lib.hid hxy
      simp only at c0 c1 hx hy
      have kv := (Below.refl wr.heap.size wr).alloc (Nat.le_refl _) (.cells #[.int .i64 (x : Int), .int .i64 (y : Int)] 32)
      have HE := Lib.hid (Cells.new wr #[.int .i64 (x : Int), .int .i64 (y : Int)] 32)
      have Hc := Lib.hid (Hc.out.keep kv)
      have Hb := Lib.hid (below_on Hb.out kv)
      obtain ⟨x2, hx2⟩ : ∃ u, wr.alloc (.cells #[.int .i64 (x : Int), .int .i64 (y : Int)] 32) = u := ⟨_, rfl⟩
      obtain ⟨p2, hp2⟩ : ∃ p, wr.heap.size = p := ⟨_, rfl⟩
      rw [hx2] at HE Hc Hb
      rw [hp2] at HE
      clear he hxy kv
      have hxi : (y : Int) < 64 := by omega
      have d0 : x2.cell? ⟨p2, 0, none⟩ = some (.int .i64 (x : Int)) := HE.out.at_ 0
      have d1 : x2.cell? ⟨p2, 1, none⟩ = some (.int .i64 (y : Int)) := HE.out.at_ 1
      have l0 : x2.cell? ⟨w.heap.size + 1, y, none⟩ = some (.int .u64 (adjR (es.take k) y : Nat)) := (Hc.out.at_ y).trans (sets_at _ hy)
      have l1 : x2.frozen? ⟨w.heap.size + 1, y, none⟩ = false := Hc.out.fz y
      have ub := lt_under'.1 (adjR_under (low_take HL.out k) y)
      have sy := sing_lt hx
      have e1 : bits .or .u64 ((adjR (es.take k) y : Nat) : Int) ((sing x : Nat) : Int) = ((adjR (es.take k) y ||| sing x : Nat) : Int) := bits_or_u64_nat _ _ ub sy
      have Hfin := Lib.hid (prev_step Hxy.out Hc.out hy)
      have Hb := Lib.hid (Hb.out.setCell (p := ⟨w.heap.size + 1, y, none⟩) (Nat.le_succ _) (.int .u64 (adjR (es.take k) y ||| sing x : Nat)))
      go_wp2_with fail
      go_still_tail 12, (by kernel_rfl)
      still_call (Calls.still (single_any _ _ (by assumption)))
      repeat still_step
      change wpList _ _ _ _ _ x2.drew
      go_wp2_with fail
      go_roundw
      case rel => exact ⟨k + 1, by omega, by go_num, Hfin.out.drew, Hb.out.drew⟩
      case measure => simp [intOf]; omega
    · have Hf := Lib.hid (prev_done Hc.out (by omega))
      have hkn : k = n := by omega
      subst hkn
      go_wp2_with fail
      go_ret
      exact ⟨_, rfl, Hf.out, Nat.le_succ _, Hb.out⟩
end Go.Proofs.YthocdmlacfejkaaDoor
namespace Go.Proofs.YthocdmlacfejkaaDoor
open Go.RowKit
/-- A slice of nodes; its cells lie at block B or above. -/
def NL (B : Nat) (w : World) (A : Option Addr) (l : List Nat) : Prop :=
  ∀ k n, l[k]? = some n → ∃ b o, A = some ⟨b, o, none⟩ ∧ B ≤ b ∧ b < w.heap.size ∧ w.cell? ⟨b, o + k, none⟩ = some (.int .i64 (n : Nat))
theorem NL.keep {B : Nat} {w w' : World} {A : Option Addr} {l : List Nat} (h : NL B w A l) (hb : Below w.heap.size w w') : NL B w' A l :=
  fun k n hk => let ⟨b, o, e1, h1, hlt, hc⟩ := h k n hk; ⟨b, o, e1, h1, Nat.lt_of_lt_of_le hlt hb.size, (hb.cell (p := ⟨b, o + k, none⟩) hlt).trans hc⟩
theorem NL.down {B C : Nat} {w : World} {A : Option Addr} {l : List Nat} (h : NL B w A l) (hc : C ≤ B) : NL C w A l :=
  fun k n hk => let ⟨b, o, e1, h1, h2⟩ := h k n hk; ⟨b, o, e1, Nat.le_trans hc h1, h2⟩
theorem own_nats {w : World} {base : Nat} {v : Value} {l : List Nat} (h : w.ownsRow base 3 1 v l.length (nats l)) : ∃ A c, v = .slice A l.length c ∧ NL base w A l ∧ c ≤ maxLen ∧ l.length ≤ c := by
  rcases h.2 with ⟨rfl, h0⟩ | ⟨g, cap, cur, rfl, hg, hh, hnc, hcm, hcs, hx⟩
  · have hl : l = [] := List.eq_nil_of_length_eq_zero h0
    subst hl
    exact ⟨none, 0, rfl, fun k n hk => by simp at hk, by unfold maxLen; omega, Nat.le_refl _⟩
  · refine ⟨_, cap, rfl, fun k n hk => ⟨g, 0, rfl, hg, ?_, ?_⟩, hcm, hnc⟩
    · rcases Nat.lt_or_ge g w.heap.size with h1 | h1
      · exact h1
      · rw [Array.getElem?_eq_none h1] at hh; cases hh
    · rw [cell_of_row _ _ _ _ _ _ hh, Nat.zero_add]
      have hk2 : k < l.length := by
        rcases Nat.lt_or_ge k l.length with h1 | h1
        · exact h1
        · rw [List.getElem?_eq_none h1] at hk; cases hk
      have e1 : (cur.toList.take (l.length * 1))[k]? = cur.toList[k]? := List.getElem?_take_of_lt (by omega)
      have e : cur.toList[k]? = some (.int .i64 (n : Nat)) := by
        rw [← e1, hx]
        unfold nats
        rw [List.getElem?_map, hk]
        rfl
      simpa using e
theorem NL.at_ {B : Nat} {w : World} {A : Option Addr} {l : List Nat} (h : NL B w A l) {k : Nat} (hk : k < l.length) : ∃ n b o, l[k]? = some n ∧ A = some ⟨b, o, none⟩ ∧ B ≤ b ∧ b < w.heap.size ∧ w.cell? ⟨b, o + k, none⟩ = some (.int .i64 (n : Nat)) := by
  obtain ⟨b, o, e, hb, hc⟩ := h k l[k] (List.getElem?_eq_getElem hk)
  exact ⟨_, b, o, List.getElem?_eq_getElem hk, e, hb, hc⟩
def orTo (L : Nat → Nat) (l : List Nat) (k : Nat) : Nat := (l.take k).foldl (fun t n => t ||| L n) 0
theorem orTo_up {L : Nat → Nat} {l : List Nat} {k n : Nat} (h : l[k]? = some n) : orTo L l (k + 1) = orTo L l k ||| L n := by
  unfold orTo; rw [List.take_add_one, h]; simp
theorem orTo_lt {L : Nat → Nat} (h : ∀ i, Under 64 (L i)) (l : List Nat) (k : Nat) : orTo L l k < 18446744073709551616 := by
  refine under_lt (k := 64) fun v hv => ?_
  unfold orTo at hv
  rw [or_fold] at hv
  rcases hv with hv | ⟨n, _, hv⟩
  · simp at hv
  · exact h n v hv
theorem orTo_end (L : Nat → Nat) (s k : Nat) (h : (bitsOf s).length ≤ k) : orTo L (bitsOf s) k = stepM L s := by
  unfold orTo stepM; rw [List.take_of_length_le h]
set_option maxRecDepth 100000 in
set_option maxHeartbeats 2000000 in
theorem step_any (p : Nat) (L : Nat → Nat) (s : Nat) (w : World) (hc : Cells w p (sets L)) (hL : ∀ i, Under 64 (L i)) (hs : s < 18446744073709551616) (hw : Good w) :
    Calls Tryd.prog 116 #[.pointer (some ⟨p, 0, none⟩), .int .u64 s] w fun e w' => e = .returned (.int .u64 (stepM L s : Nat)) ∧ Below w.heap.size w w' := by
  have Hc := Lib.hid hc
  have HL := Lib.hid hL
  have hb0 := bitsOf_len s
  have Hl := list_any s w hs hw
  have Hm := Lib.hid (fun i n (hi : (bitsOf s)[i]? = some n) => (mem_bitsOf.1 (List.mem_of_getElem? hi)).1)
  have He := Lib.hid (orTo_end L s)
  obtain ⟨l, hl⟩ : ∃ l, bitsOf s = l := ⟨_, rfl⟩
  rw [hl] at Hm He hb0 Hl
  have Hl := Lib.hid Hl
  clear hc hL hw hl
  go_enter Tryd.func116, Tryd.ntmps116
  go_wp2_with fail
  refine Hl.out.mono ?_
  rintro e w1 ⟨v, rfl, hown, hb⟩
  obtain ⟨A, c, rfl, hn, hc1, hc2⟩ := own_nats hown
  have Hn := Lib.hid hn
  have Hb := Lib.hid hb
  clear hown hn hb
  go_wp2_with fail
  go_loop [11, 5] (fun i t => ∃ k : Nat, k ≤ l.length ∧ i = .int .i64 (k : Nat) ∧ t = .int .u64 (orTo L l k : Nat)) (fun i _ => l.length - (intOf i).toNat)
  case atStart => exact ⟨0, Nat.zero_le _, rfl, rfl⟩
  case round =>
    obtain ⟨k, hk, rfl, rfl⟩ := hrel
    by_cases hlt : k < l.length
    · obtain ⟨n, b, o, hkn, rfl, hB, hbl, hcell⟩ := Hn.out.at_ hlt
      have hn64 := Hm.out _ _ hkn
      have hni : (n : Int) < 64 := by omega
      have l0 : w1.cell? ⟨p, n, none⟩ = some (.int .u64 (L n : Nat)) := (Hb.out.cell (p := ⟨p, n, none⟩) Hc.out.lt).trans ((Hc.out.at_ n).trans (sets_at _ hn64))
      have e1 : bits .or .u64 ((orTo L l k : Nat) : Int) ((L n : Nat) : Int) = ((orTo L l k ||| L n : Nat) : Int) := bits_or_u64_nat _ _ (orTo_lt HL.out l k) (under_lt (HL.out n))
      have Hup := Lib.hid (orTo_up (L := L) hkn)
      clear hkn
      go_wp2
      go_round
      case rel => exact ⟨k + 1, by omega, by go_num, by rw [Hup.out]⟩
      case measure => simp [intOf]; omega
    · have hf := Lib.hid (He.out k (by omega))
      go_wp2
      go_ret
      exact ⟨ret_int (congrArg _ hf.out), Hb.out⟩
/-- What is new at level k. -/
def fr (L : Nat → Nat) (s k : Nat) : Nat := if k = 0 then s else diff (lev L s k) (lev L s (k - 1))
theorem fr_bit {L : Nat → Nat} {s k v : Nat} : (fr L s k).testBit v = true ↔ (lev L s k).testBit v = true ∧ ∀ j, j < k → (lev L s j).testBit v = false := by
  unfold fr
  by_cases h : k = 0
  · subst h
    rw [if_pos rfl]
    exact ⟨fun h => ⟨h, fun j hj => absurd hj (Nat.not_lt_zero _)⟩, fun h => h.1⟩
  · rw [if_neg h, diff_bit, Bool.and_eq_true, Bool.not_eq_true']
    refine ⟨fun ⟨h1, h2⟩ => ⟨h1, fun j hj => ?_⟩, fun ⟨h1, h2⟩ => ⟨h1, h2 _ (by omega)⟩⟩
    cases h3 : (lev L s j).testBit v with
    | false => rfl
    | true => rw [lev_up (show j ≤ k - 1 by omega) v h3] at h2; cases h2
theorem fr_step (L : Nat → Nat) (s k : Nat) : diff (stepM L (fr L s k)) (lev L s k) = fr L s (k + 1) := by
  apply Nat.eq_of_testBit_eq
  intro v
  rw [Bool.eq_iff_iff, diff_bit, Bool.and_eq_true, Bool.not_eq_true', step_bit, fr_bit]
  constructor
  · rintro ⟨⟨n, hn, h1, h2⟩, h3⟩
    refine ⟨?_, fun j hj => ?_⟩
    · rw [lev, Nat.testBit_or, Bool.or_eq_true, step_bit]
      exact .inr ⟨n, hn, (fr_bit.1 h1).1, h2⟩
    · cases h4 : (lev L s j).testBit v with
      | false => rfl
      | true => rw [lev_up (show j ≤ k by omega) v h4] at h3; cases h3
  · rintro ⟨h1, h2⟩
    have h3 := h2 k (Nat.lt_succ_self k)
    refine ⟨?_, h3⟩
    rw [lev, Nat.testBit_or, Bool.or_eq_true, h3] at h1
    rcases h1 with h1 | h1
    · cases h1
    · obtain ⟨n, hn, h4, h5⟩ := step_bit.1 h1
      refine ⟨n, hn, fr_bit.2 ⟨h4, fun j hj => ?_⟩, h5⟩
      cases h6 : (lev L s j).testBit n with
      | false => rfl
      | true =>
        have : (lev L s (j + 1)).testBit v = true := by
          rw [lev, Nat.testBit_or, Bool.or_eq_true, step_bit]
          exact .inr ⟨n, hn, h6, h5⟩
        rw [h2 (j + 1) (by omega)] at this
        cases this
theorem fr_or (L : Nat → Nat) (s k : Nat) : lev L s k ||| fr L s (k + 1) = lev L s (k + 1) := by
  rw [← fr_step]
  apply Nat.eq_of_testBit_eq
  intro v
  rw [Nat.testBit_or, fr_step]
  rw [Bool.eq_iff_iff, Bool.or_eq_true, fr_bit]
  constructor
  · rintro (h | h)
    · exact lev_up (Nat.le_succ k) v h
    · exact h.1
  · intro h
    cases h1 : (lev L s k).testBit v with
    | true => exact .inl rfl
    | false => exact .inr ⟨h, fun j hj => by
        cases h4 : (lev L s j).testBit v with
        | false => rfl
        | true => rw [lev_up (show j ≤ k by omega) v h4] at h1; cases h1⟩
theorem lev_le (L : Nat → Nat) (s k : Nat) : lev L s k ≤ lev L s (k + 1) := by
  rw [← fr_or]; exact Nat.left_le_or
theorem fr_same {L : Nat → Nat} {s k : Nat} (h : lev L s (k + 1) = lev L s k) : fr L s (k + 1) = 0 := by
  apply Nat.eq_of_testBit_eq
  intro v
  rw [Nat.zero_testBit]
  cases h1 : (fr L s (k + 1)).testBit v with
  | false => rfl
  | true =>
    obtain ⟨h2, h3⟩ := fr_bit.1 h1
    rw [h, h3 k (Nat.lt_succ_self k)] at h2
    cases h2
theorem fr_end {L : Nat → Nat} {s k : Nat} (hL : ∀ i, Under 64 (L i)) (hs : Under 64 s) (h : fr L s k = 0) : lev L s k = lev L s 64 := by
  have h1 : lev L s (k + 1) = lev L s k := by
    rw [← fr_or, ← fr_step, h]
    have e : stepM L 0 = 0 := by unfold stepM; rw [bitsOf_zero]; rfl
    rw [e]
    apply Nat.eq_of_testBit_eq
    intro v
    rw [Nat.testBit_or, diff_bit]
    simp
  rcases Nat.le_total k 64 with h2 | h2
  · exact (lev_stay h1 64 h2).symm
  · exact lev_full hL hs k h2
def m01 (x : Nat) : Nat := if x = 0 then 0 else 1
theorem meas_up {a b x y : Nat} (h : a ≤ b) (hb : b < 18446744073709551616) (hx : x ≠ 0) (hy : b = a → y = 0) : 2 * (18446744073709551616 - b) + m01 y < 2 * (18446744073709551616 - a) + m01 x := by
  unfold m01
  rw [if_neg hx]
  by_cases h1 : b = a
  · rw [if_pos (hy h1)]; omega
  · split <;> omega
set_option maxRecDepth 100000 in
set_option maxHeartbeats 2000000 in
theorem reach_any (p : Nat) (L : Nat → Nat) (s : Nat) (w : World) (hc : Cells w p (sets L)) (hL : ∀ i, Under 64 (L i)) (hs : s < 18446744073709551616) (hw : Good w) :
    Calls Tryd.prog 89 #[.pointer (some ⟨p, 0, none⟩), .int .u64 s] w fun e w' => e = .returned (.int .u64 (lev L s 64 : Nat)) ∧ Below w.heap.size w w' := by
  have Hc := Lib.hid (fun w' (h : Below w.heap.size w w') => hc.keep h)
  have HW := Lib.hid (fun w' (h : Below w.heap.size w w') => hw.below h hw.size)
  have HL := Lib.hid hL
  have HU := Lib.hid (lt_under (k := 64) hs)
  clear hc hL hw
  go_enter Tryd.func89, Tryd.ntmps89
  go_wp2_with fail
  go_loopw [5, 1] (fun f t wr => ∃ k : Nat, t = .int .u64 (lev L s k : Nat) ∧ f = .int .u64 (fr L s k : Nat) ∧ Below w.heap.size w wr) (fun f t _ => 2 * (18446744073709551616 - (intOf t).toNat) + m01 (intOf f).toNat)
  case atStart => exact ⟨0, rfl, rfl, Below.refl _ _⟩
  case round =>
    obtain ⟨k, rfl, rfl, hb⟩ := hrel
    have Hb := Lib.hid hb
    have u0 := under_lt (lev_under HL.out HU.out k)
    have u1 := under_lt (lev_under HL.out HU.out (k + 1))
    have u2 : fr L s k < 18446744073709551616 := lt_under'.1 fun v hv => lev_under HL.out HU.out k v (fr_bit.1 hv).1
    have u3 : fr L s (k + 1) < 18446744073709551616 := lt_under'.1 fun v hv => lev_under HL.out HU.out (k + 1) v (fr_bit.1 hv).1
    clear hb
    by_cases h0 : fr L s k = 0
    · have hf := Lib.hid (fr_end HL.out HU.out h0)
      have t0 : ((fr L s k : Int) != 0) = false := by simp [h0]
      clear h0 u0 u1 u2 u3
      go_wp2_with fail
      go_ret
      exact ⟨ret_int (congrArg _ hf.out), Hb.out⟩
    · have t0 := u64_neq _ h0
      have H0 := Lib.hid (meas_up (lev_le L s k) u1 h0 (fun e => fr_same e))
      have e1 : bits .andNot .u64 ((stepM L (fr L s k) : Nat) : Int) ((lev L s k : Nat) : Int) = ((fr L s (k + 1) : Nat) : Int) := by
        rw [bits_diff _ _ (lt_under'.1 (step_under HL.out _)) u0, fr_step]
      have e2 : bits .or .u64 ((lev L s k : Nat) : Int) ((fr L s (k + 1) : Nat) : Int) = ((lev L s (k + 1) : Nat) : Int) := by
        rw [bits_or_u64_nat _ _ u0 u3, fr_or]
      have HS := Lib.hid (step_any p L (fr L s k) wr (Hc.out _ Hb.out) HL.out u2 (HW.out _ Hb.out))
      clear h0 u0 u1 u2 u3
      go_wp2_with fail
      refine HS.out.mono ?_
      rintro e w2 ⟨rfl, hb2⟩
      have Hb := Lib.hid (below_on Hb.out hb2)
      clear hb2
      go_wp2_with fail
      go_roundw
      case rel => exact ⟨k + 1, rfl, rfl, Hb.out⟩
      case measure => simpa [intOf] using H0.out
end Go.Proofs.YthocdmlacfejkaaDoor
namespace Go.Proofs.YthocdmlacfejkaaDoor
open Go.RowKit
/-- The first one that is not 0. -/
def orI (a b : Int) : Int := if a = 0 then b else a
theorem orI_zero (b : Int) : orI 0 b = b := rfl
theorem orI_pos {a : Int} (b : Int) (h : a ≠ 0) : orI a b = a := if_neg h
/-- The order of edges. -/
def cmpE (a b : Int × Int) : Int := orI (Lib.compareInt a.1 b.1) (Lib.compareInt a.2 b.2)
theorem cmpI_cases (x y : Int) : (Lib.compareInt x y = -1 ∧ x < y) ∨ (Lib.compareInt x y = 0 ∧ x = y) ∨ (Lib.compareInt x y = 1 ∧ y < x) := by
  unfold Lib.compareInt
  by_cases h1 : x < y
  · simp [h1]
  · by_cases h2 : y < x
    · simp [h1, h2]
    · simp [h1, h2]; omega
theorem cmpE_ge (a b : Int × Int) : (0 ≤ cmpE a b) ↔ ¬ (a.1 < b.1 ∨ (a.1 = b.1 ∧ a.2 < b.2)) := by
  unfold cmpE orI
  rcases cmpI_cases a.1 b.1 with ⟨h, h'⟩ | ⟨h, h'⟩ | ⟨h, h'⟩ <;> rcases cmpI_cases a.2 b.2 with ⟨g, g'⟩ | ⟨g, g'⟩ | ⟨g, g'⟩ <;> simp [h, g] <;> omega
set_option maxHeartbeats 1000000 in
theorem or_any (p : Nat) (a b : Int) (w : World) (h0 : w.cell? ⟨p, 0, none⟩ = some (.int .i64 a)) (h1 : w.cell? ⟨p, 1, none⟩ = some (.int .i64 b)) :
    Calls Tryd.prog 108 #[.slice (some ⟨p, 0, none⟩) 2 2] w fun e w' => e = .returned (.int .i64 (orI a b)) ∧ w = w' := by
  have H0 := Lib.hid h0
  have H1 := Lib.hid h1
  clear h0 h1
  go_enter Tryd.func108, Tryd.ntmps108
  go_wp2_with fail
  go_loop [8] (fun i => ∃ k : Nat, k ≤ 2 ∧ i = .int .i64 (k : Nat) ∧ (0 < k → a = 0) ∧ (1 < k → b = 0)) (fun i => 2 - (intOf i).toNat)
  case atStart => exact ⟨0, by omega, rfl, by simp, by simp⟩
  case round =>
    obtain ⟨k, hk, rfl, ha, hb⟩ := hrel
    rcases (by omega : k = 0 ∨ k = 1 ∨ k = 2) with rfl | rfl | rfl
    · have c0 := H0.out
      by_cases hz : a = 0
      · subst hz
        clear ha hb
        go_wp2
        go_round
        case rel => exact ⟨1, by omega, rfl, by simp, by simp⟩
        case measure => simp [intOf]
      · have t0 : (a != 0) = true := by simp [hz]
        have Hz := Lib.hid hz
        clear hz ha hb
        go_wp2
        go_ret
        exact ⟨ret_int (orI_pos b Hz.out).symm, rfl⟩
    · have c1 := H1.out
      have Ha := Lib.hid (ha (by omega))
      by_cases hz : b = 0
      · subst hz
        clear ha hb
        go_wp2
        go_round
        case rel => exact ⟨2, by omega, rfl, by simp [Ha.out], by simp⟩
        case measure => simp [intOf]
      · have t0 : (b != 0) = true := by simp [hz]
        clear hz ha hb
        go_wp2
        go_ret
        exact ⟨ret_int (by rw [Ha.out]; rfl), rfl⟩
    · have Ha := Lib.hid (ha (by omega))
      have Hb := Lib.hid (hb (by omega))
      clear ha hb
      go_wp2
      go_ret
      exact ⟨ret_int (by rw [Ha.out, Hb.out]; rfl), rfl⟩
set_option maxRecDepth 100000 in
set_option maxHeartbeats 2000000 in
theorem compare_any (a b : Int × Int) (w : World) :
    Calls Tryd.prog 72 #[.agg #[.int .i64 a.1, .int .i64 a.2], .agg #[.int .i64 b.1, .int .i64 b.2]] w fun e w' => e = .returned (.int .i64 (cmpE a b)) ∧ Below w.heap.size w w' := by
  obtain ⟨a1, a2⟩ := a
  obtain ⟨b1, b2⟩ := b
  have H := Lib.hid (show cmpE (a1, a2) (b1, b2) = orI (Lib.compareInt a1 b1) (Lib.compareInt a2 b2) from rfl)
  obtain ⟨c, hc⟩ : ∃ c, cmpE (a1, a2) (b1, b2) = c := ⟨_, rfl⟩
  rw [hc] at H
  rw [hc]
  have HC := Lib.hid (fun x y w => Tryd.cmp_Compare_int x y w)
  obtain ⟨f, hf⟩ : ∃ f, Lib.compareInt = f := ⟨_, rfl⟩
  rw [hf] at H HC
  clear hc hf
  simp only
  have E1 := Lib.hid ((Cells.new w #[.int .i64 a1, .int .i64 a2] 32).keep ((Below.refl _ _).alloc (Nat.le_refl _) (.cells #[.int .i64 b1, .int .i64 b2] 32)))
  have E2 := Lib.hid (Cells.new (w.alloc (.cells #[.int .i64 a1, .int .i64 a2] 32)) #[.int .i64 b1, .int .i64 b2] 32)
  have HB := Lib.hid (((Below.refl w.heap.size w).alloc (Nat.le_refl _) (.cells #[.int .i64 a1, .int .i64 a2] 32)).alloc (by simp) (.cells #[.int .i64 b1, .int .i64 b2] 32))
  obtain ⟨w2, hw2⟩ : ∃ u, (w.alloc (.cells #[.int .i64 a1, .int .i64 a2] 32)).alloc (.cells #[.int .i64 b1, .int .i64 b2] 32) = u := ⟨_, rfl⟩
  rw [hw2] at E1 E2 HB
  have hs1 : (w.alloc (.cells #[.int .i64 a1, .int .i64 a2] 32)).heap.size = w.heap.size + 1 := by simp
  rw [hs1] at E2
  clear hs1
  have c0 := E1.out.at_ 0
  have c1 := E1.out.at_ 1
  have c2 := E2.out.at_ 0
  have c3 := E2.out.at_ 1
  simp only [List.getElem?_cons_zero, List.getElem?_cons_succ] at c0 c1 c2 c3
  go_enter Tryd.func72, Tryd.ntmps72
  go_wp2_with fail
  go_still_tail 10, (by kernel_rfl)
  still_call (HC.out _ _ _)
  repeat still_step
  still_call (HC.out _ _ _)
  repeat still_step
  refine wpStill_nil ?_
  change wpList _ _ _ _ _ w2.drew
  go_wp2_with fail
  refine (or_any _ (f a1 b1) (f a2 b2) _ (by simp [go_sem]) (by simp [go_sem])).mono ?_
  rintro e w' ⟨rfl, rfl⟩
  go_wp2_with fail
  go_ret
  exact ⟨ret_int H.out.symm, HB.out.drew.alloc (by have := HB.out.size; simpa using this) _⟩
/-- Both nodes of an edge exist. -/
def okE (n : Int) (e : Int × Int) : Bool := decide (0 ≤ e.1) && decide (e.1 < n) && decide (0 ≤ e.2) && decide (e.2 < n)
def edgesE (n : Int) (es : List (Int × Int)) : Int := if es.all (okE n) then 0 else 2
theorem all_take {α : Type} {p : α → Bool} {l : List α} {k : Nat} {x : α} (h : l[k]? = some x) (ha : (l.take k).all p = true) (hx : p x = true) : (l.take (k + 1)).all p = true := by
  rw [List.take_add_one, h, List.all_append, ha]; simp [hx]
theorem edgesE_bad {n : Int} {es : List (Int × Int)} {k : Nat} {x : Int × Int} (h : es[k]? = some x) (hx : okE n x = false) : edgesE n es = 2 := by
  unfold edgesE
  rw [if_neg]
  intro ha
  rw [List.all_eq_true.1 ha x (List.mem_of_getElem? h)] at hx
  cases hx
theorem edgesE_ok {n : Int} {es : List (Int × Int)} {k : Nat} (hk : es.length ≤ k) (h : (es.take k).all (okE n) = true) : edgesE n es = 0 := by
  rw [List.take_of_length_le hk] at h
  unfold edgesE
  rw [if_pos h]
set_option maxRecDepth 100000 in
set_option maxHeartbeats 2000000 in
theorem checkEdges_any (n : Int) (A : Option Addr) (m c : Nat) (es : List (Int × Int)) (w : World) (h : EL w A m es) (hm : m ≤ 4611686018427387904) :
    Calls Tryd.prog 70 #[.int .i64 n, .slice A m c] w fun e w' => e = .returned (.int .i64 (edgesE n es)) ∧ Below w.heap.size w w' := by
  have hlen := h.1
  have H := Lib.hid h
  have hnl := Nat.le_of_eq hlen
  clear h hlen
  go_enter Tryd.func70, Tryd.ntmps70
  go_wp2_with fail
  go_loopw [9] (fun i wr => ∃ k : Nat, k ≤ m ∧ i = .int .i64 (k : Nat) ∧ (es.take k).all (okE n) = true ∧ Below w.heap.size w wr) (fun i _ => m - (intOf i).toNat)
  case atStart => exact ⟨0, Nat.zero_le _, rfl, by simp, Below.refl _ _⟩
  case round =>
    obtain ⟨k, hk, rfl, ha, hb⟩ := hrel
    have Ha := Lib.hid ha
    have Hb := Lib.hid hb
    clear ha hb
    by_cases hlt : k < m
    · obtain ⟨e, b, o, he, rfl, hbl, c0, c1⟩ := (H.out.keep Hb.out).at_ hlt
      obtain ⟨x, y⟩ := e
      have He := Lib.hid he
      have Hb2 := Lib.hid (Hb.out.alloc Hb.out.size (.cells #[.int .i64 x, .int .i64 y] 32))
      simp only at c0 c1
      clear he
      by_cases h1 : x < 0
      · have t1 : decide (x < 0) = true := decide_eq_true h1
        have Hf := Lib.hid (edgesE_bad (n := n) He.out (by simp [okE]; omega))
        clear h1
        go_wp2
        go_ret
        exact ⟨ret_int Hf.out.symm, Hb2.out⟩
      · have t1 : decide (x < 0) = false := decide_eq_false h1
        by_cases h2 : n ≤ x
        · have t2 : decide (n ≤ x) = true := decide_eq_true h2
          have Hf := Lib.hid (edgesE_bad (n := n) He.out (by simp [okE]; omega))
          clear h1 h2
          go_wp2
          go_ret
          exact ⟨ret_int Hf.out.symm, Hb2.out⟩
        · have t2 : decide (n ≤ x) = false := decide_eq_false h2
          by_cases h3 : y < 0
          · have t3 : decide (y < 0) = true := decide_eq_true h3
            have Hf := Lib.hid (edgesE_bad (n := n) He.out (by simp [okE]; omega))
            clear h1 h2 h3
            go_wp2
            go_ret
            exact ⟨ret_int Hf.out.symm, Hb2.out⟩
          · have t3 : decide (y < 0) = false := decide_eq_false h3
            by_cases h4 : n ≤ y
            · have t4 : decide (n ≤ y) = true := decide_eq_true h4
              have Hf := Lib.hid (edgesE_bad (n := n) He.out (by simp [okE]; omega))
              clear h1 h2 h3 h4
              go_wp2
              go_ret
              exact ⟨ret_int Hf.out.symm, Hb2.out⟩
            · have t4 : decide (n ≤ y) = false := decide_eq_false h4
              have Hf := Lib.hid (all_take He.out Ha.out (show okE n (x, y) = true by simp [okE]; omega))
              clear h1 h2 h3 h4
              go_wp2
              go_roundw
              case rel => exact ⟨k + 1, by omega, by go_num, Hf.out, Hb2.out⟩
              case measure => simp [intOf]; omega
    · have Hf := Lib.hid (edgesE_ok (by omega) Ha.out)
      go_wp2
      go_ret
      exact ⟨ret_int Hf.out.symm, Hb.out⟩
/-- Edges in increasing order. -/
def ordE : List (Int × Int) → Bool
  | a :: b :: l => decide (cmpE a b < 0) && ordE (b :: l)
  | _ => true
theorem ordE_iff : ∀ (es : List (Int × Int)), ordE es = true ↔ ∀ i a b, es[i]? = some a → es[i + 1]? = some b → cmpE a b < 0
  | [] => by simp [ordE]
  | [x] => by simp [ordE]
  | x :: y :: l => by
    rw [ordE, Bool.and_eq_true, decide_eq_true_eq, ordE_iff (y :: l)]
    constructor
    · rintro ⟨h1, h2⟩ i a b ha hb
      cases i with
      | zero => simp at ha hb; subst ha hb; exact h1
      | succ i => exact h2 i a b (by simpa using ha) (by simpa using hb)
    · intro h
      exact ⟨h 0 x y rfl rfl, fun i a b ha hb => h (i + 1) a b (by simpa using ha) (by simpa using hb)⟩
/-- The first error of a graph. -/
def checkG (n : Int) (es : List (Int × Int)) : Int :=
  if n < 0 ∨ 64 < n then 2 else if n * n < es.length then 6 else if es.all (okE n) = false then 2 else if ordE es = false then 8 else 0
end Go.Proofs.YthocdmlacfejkaaDoor
namespace Go.Proofs.YthocdmlacfejkaaDoor
open Go.RowKit
theorem sq_bd {n : Int} (h0 : 0 ≤ n) (h1 : n ≤ 64) : 0 ≤ n * n ∧ n * n ≤ 4096 := by
  obtain ⟨k, rfl⟩ : ∃ k : Nat, n = k := ⟨n.toNat, by omega⟩
  have : k * k ≤ 64 * 64 := Nat.mul_le_mul (by omega) (by omega)
  have e : ((k : Int) * k) = ((k * k : Nat) : Int) := by push_cast; rfl
  rw [e]; omega
theorem checkG_range {n : Int} {es : List (Int × Int)} (h : n < 0 ∨ 64 < n) : checkG n es = 2 := if_pos h
theorem checkG_limit {n : Int} {es : List (Int × Int)} (h : ¬ (n < 0 ∨ 64 < n)) (h2 : n * n < es.length) : checkG n es = 6 := by
  unfold checkG; rw [if_neg h, if_pos h2]
theorem checkG_edge {n : Int} {es : List (Int × Int)} (h : ¬ (n < 0 ∨ 64 < n)) (h2 : ¬ n * n < es.length) (h3 : es.all (okE n) = false) : checkG n es = 2 := by
  unfold checkG; rw [if_neg h, if_neg h2, if_pos h3]
theorem checkG_order {n : Int} {es : List (Int × Int)} {i : Nat} {a b : Int × Int} (h : ¬ (n < 0 ∨ 64 < n)) (h2 : (es.length : Int) ≤ n * n) (h3 : es.all (okE n) = true) (ha : es[i]? = some a) (hb : es[i + 1]? = some b) (hc : 0 ≤ cmpE a b) : checkG n es = 8 := by
  unfold checkG
  rw [if_neg h, if_neg (by omega), if_neg (by simp [h3]), if_pos]
  cases e : ordE es with
  | false => rfl
  | true => have := (ordE_iff es).1 e i a b ha hb; omega
theorem checkG_ok {n : Int} {es : List (Int × Int)} {k : Nat} (h : ¬ (n < 0 ∨ 64 < n)) (h2 : (es.length : Int) ≤ n * n) (h3 : es.all (okE n) = true) (hk : es.length ≤ k) (ho : ∀ i a b, i + 1 < k → es[i]? = some a → es[i + 1]? = some b → cmpE a b < 0) : checkG n es = 0 := by
  unfold checkG
  rw [if_neg h, if_neg (by omega), if_neg (by simp [h3]), if_neg]
  rw [Bool.not_eq_false, ordE_iff]
  intro i a b ha hb
  refine ho i a b ?_ ha hb
  rcases Nat.lt_or_ge (i + 1) es.length with h4 | h4
  · omega
  · rw [List.getElem?_eq_none h4] at hb; cases hb
theorem edgesE_cases (n : Int) (es : List (Int × Int)) : (edgesE n es = 0 ∧ es.all (okE n) = true) ∨ (edgesE n es = 2 ∧ es.all (okE n) = false) := by
  unfold edgesE
  cases h : es.all (okE n) <;> simp
theorem sort_up {es : List (Int × Int)} {k : Nat} {a b : Int × Int} (h0 : 0 < k) (ha : es[k - 1]? = some a) (hb : es[k]? = some b) (hc : cmpE a b < 0) (ho : ∀ i a b, i + 1 < k → es[i]? = some a → es[i + 1]? = some b → cmpE a b < 0) :
    ∀ i a b, i + 1 < k + 1 → es[i]? = some a → es[i + 1]? = some b → cmpE a b < 0 := by
  intro i x y hi hx hy
  by_cases h : i + 1 = k
  · obtain rfl : i = k - 1 := by omega
    rw [ha] at hx
    rw [h, hb] at hy
    injection hx with hx
    injection hy with hy
    subst hx hy
    exact hc
  · exact ho i x y (by omega) hx hy
set_option maxRecDepth 100000 in
set_option maxHeartbeats 4000000 in
theorem check_any (n : Int) (A : Option Addr) (m c : Nat) (es : List (Int × Int)) (w : World) (h : EL w A m es) (hm : m ≤ 4611686018427387904) :
    Calls Tryd.prog 21 #[gV n A m c] w fun e w' => e = .returned (.int .i64 (checkG n es)) ∧ Below w.heap.size w w' := by
  have hlen := h.1
  have kv := (Below.refl w.heap.size w).alloc (Nat.le_refl _) (.cells #[.int .i64 n, .slice A m c] 26)
  have H := Lib.hid (h.keep kv)
  have G0 := Lib.hid (Cells.new w #[.int .i64 n, .slice A m c] 26)
  have B0 := Lib.hid kv
  have hnl := Nat.le_of_eq hlen
  have hnl2 := Nat.le_of_eq hlen.symm
  obtain ⟨w0, hw0⟩ : ∃ u, w.alloc (.cells #[.int .i64 n, .slice A m c] 26) = u := ⟨_, rfl⟩
  obtain ⟨p, hp⟩ : ∃ p, w.heap.size = p := ⟨_, rfl⟩
  rw [hw0] at H G0 B0
  rw [hp] at G0 B0
  rw [hp]
  have hpz : p ≤ w0.heap.size := by have := B0.out.size; rw [hp] at this; exact this
  have c0 := G0.out.at_ 0
  have c1 := G0.out.at_ 1
  simp only [List.getElem?_cons_zero, List.getElem?_cons_succ] at c0 c1
  clear h kv
  by_cases h1 : n < 0
  · have t1 : decide (n < 0) = true := decide_eq_true h1
    have Hf := Lib.hid (checkG_range (es := es) (.inl h1))
    clear h1 hlen
    go_enter Tryd.func21, Tryd.ntmps21
    go_wp2_with fail
    go_ret
    exact ⟨ret_int Hf.out.symm, B0.out⟩
  · have t1 : decide (n < 0) = false := decide_eq_false h1
    by_cases h2 : 64 < n
    · have t2 : decide (64 < n) = true := decide_eq_true h2
      have Hf := Lib.hid (checkG_range (es := es) (.inr h2))
      clear h1 h2 hlen
      go_enter Tryd.func21, Tryd.ntmps21
      go_wp2_with fail
      go_ret
      exact ⟨ret_int Hf.out.symm, B0.out⟩
    · have t2 : decide (64 < n) = false := decide_eq_false h2
      have hr : ¬ (n < 0 ∨ 64 < n) := by omega
      have Hr := Lib.hid hr
      obtain ⟨q0, q1⟩ := sq_bd (n := n) (by omega) (by omega)
      by_cases h3 : n * n < m
      · have t3 : decide (n * n < m) = true := decide_eq_true h3
        have Hf := Lib.hid (checkG_limit (es := es) hr (by rw [hlen]; exact h3))
        clear h1 h2 hlen h3 hr
        go_enter Tryd.func21, Tryd.ntmps21
        go_wp2_with fail
        go_ret
        exact ⟨ret_int Hf.out.symm, B0.out⟩
      · have t3 : decide (n * n < m) = false := decide_eq_false h3
        have H3 := Lib.hid (show ¬ n * n < es.length by rw [hlen]; exact h3)
        have HE := Lib.hid (checkEdges_any n A m c es w0 H.out hm)
        rcases edgesE_cases n es with ⟨he, ha⟩ | ⟨he, ha⟩
        · rw [he] at HE
          have Ha := Lib.hid ha
          clear h1 h2 h3 hr he ha hlen
          go_enter Tryd.func21, Tryd.ntmps21
          go_wp2_with fail
          refine HE.out.mono ?_
          rintro e w1 ⟨rfl, hb1⟩
          have K0 := Lib.hid (fun w' (h : Below w0.heap.size w0 w') => B0.out.trans (h.mono hpz))
          have B1 := Lib.hid hb1
          clear hb1
          go_wp2_with fail
          go_loopw [4] (fun i wr => ∃ k : Nat, 0 < k ∧ i = .int .i64 (k : Nat) ∧ (1 < k → k ≤ m) ∧ (∀ i a b, i + 1 < k → es[i]? = some a → es[i + 1]? = some b → cmpE a b < 0) ∧ Below w0.heap.size w0 wr) (fun i _ => m - (intOf i).toNat)
          case atStart => exact ⟨1, by omega, rfl, by omega, fun i a b h => by omega, B1.out⟩
          case round =>
            obtain ⟨k, hk0, rfl, hkm, ho, hb⟩ := hrel
            have Ho := Lib.hid ho
            have Hb := Lib.hid hb
            have g0 := (G0.out.keep hb).at_ 0
            have g1 := (G0.out.keep hb).at_ 1
            simp only [List.getElem?_cons_zero, List.getElem?_cons_succ] at g0 g1
            clear ho hb
            by_cases hlt : k < m
            · obtain ⟨a, b, o, hea, rfl, _, a0, a1⟩ := (H.out.keep Hb.out).at_ (show k - 1 < m by omega)
              obtain ⟨a', b', o', heb, hA, _, b0, b1⟩ := (H.out.keep Hb.out).at_ hlt
              injection hA with hA
              injection hA with hA1 hA2
              subst hA1 hA2
              have e1 : ((k : Int) - 1).toNat = k - 1 := by omega
              have Hea := Lib.hid hea
              have Heb := Lib.hid heb
              have HC := Lib.hid (fun w => compare_any a a' w)
              clear hea heb
              have ew : IntKind.i64.wrap ((k : Int) - 1) = (k : Int) - 1 := IntWalk.i64_in _ (by omega)
              have i0 : (1 : Int) ≤ (k : Int) := by omega
              have i1 : (0 : Int) ≤ (k : Int) - 1 := by omega
              have i2 : (k : Int) - 1 < m := by omega
              go_wp2_with fail
              go_still_tail 11, (by kernel_rfl)
              change wpList _ _ _ _ _ wr.drew
              go_wp2_with fail
              refine (HC.out _).mono ?_
              rintro e w2 ⟨rfl, hb2⟩
              have Hb2 := Lib.hid (below_on Hb.out.drew hb2)
              clear hb2
              by_cases hc : cmpE a a' < 0
              · have Hs := Lib.hid (sort_up hk0 Hea.out Heb.out hc Ho.out)
                go_wp2_with fail
                go_roundw
                case rel => exact ⟨k + 1, by omega, by go_num, by omega, Hs.out, Hb2.out⟩
                case measure => simp [intOf]; omega
              · have hc' : 0 ≤ cmpE a a' := by omega
                have Hf := Lib.hid (checkG_order Hr.out H3.out Ha.out Hea.out (by rw [show k - 1 + 1 = k by omega]; exact Heb.out) hc')
                go_wp2_with fail
                go_ret
                exact ⟨ret_int Hf.out.symm, K0.out _ Hb2.out⟩
            · have Hf := Lib.hid (checkG_ok (k := k) Hr.out H3.out Ha.out (by omega) Ho.out)
              go_wp2_with fail
              go_ret
              exact ⟨ret_int Hf.out.symm, K0.out _ Hb.out⟩
        · rw [he] at HE
          have Hf := Lib.hid (checkG_edge hr H3.out ha)
          clear h1 h2 h3 hr he ha hlen
          go_enter Tryd.func21, Tryd.ntmps21
          go_wp2_with fail
          refine HE.out.mono ?_
          rintro e w1 ⟨rfl, hb1⟩
          have B1 := Lib.hid (B0.out.trans (hb1.mono hpz))
          clear hb1
          go_wp2_with fail
          go_ret
          exact ⟨ret_int Hf.out.symm, B1.out⟩
end Go.Proofs.YthocdmlacfejkaaDoor
