/- Graph: what the liaison uses of it. -/
import Derived.WalkKit
import Derived.WalkSmall
import Derived.Deep.QuietTactic
import Derived.BigQuiet
import Derived.RegionTactic
import Derived.Below
import Derived.Lib.Hide
import Derived.Lib.SmallJoins
import Derived.Laws.ResultCell
import Derived.OwnWalk
import Derived.Laws.Bits64b
import Derived.Deep.RegionHeld3
import Derived.Deep.RegionWith
import Derived.Shelf.Spec.TrailingZeros
import Derived.Laws.BytesArg
import Derived.WalkSpells
import Derived.StillTailTactics
import Derived.Deep.AppendLies
import Derived.Deep.DeepCutAuto
import Derived.Deep.WholeRow
import Derived.Laws.IdiomCopy
import Derived.Laws.Cover3
import Derived.Lib.SliceRun
import Derived.Lib.LazyBuf
import Derived.Deep.DeepAppendWide
import Derived.Test.YtdpfoegcmngdfaaDoorChecked
import Derived.Test.YtdpfoegcmngdfaaDoorMA
import Derived.Test.YtdpfoegcmngdfaaDoorShelf
namespace Go.Proofs.YtdpfoegcmngdfaaDoor
open Go.RowKit
theorem bcell {W w1 : World} (hb : Below W.heap.size W w1) : (∀ b o, b < W.heap.size → w1.cell? ⟨b, o, none⟩ = W.cell? ⟨b, o, none⟩) ∧ (∀ b o, b < W.heap.size → w1.frozen? ⟨b, o, none⟩ = W.frozen? ⟨b, o, none⟩) :=
  ⟨fun b o h => hb.cell (p := ⟨b, o, none⟩) h, fun b o h => hb.frozen (p := ⟨b, o, none⟩) h⟩
theorem ret_bool {a b : Bool} (h : a = b) : Ending.returned (.bool a) = .returned (.bool b) := by rw [h]
theorem ret_int {k : IntKind} {a b : Int} (h : a = b) : Ending.returned (.int k a) = .returned (.int k b) := by rw [h]
def sing (n : Nat) : Nat := 2 ^ n
def diff (a b : Nat) : Nat := a ^^^ (a &&& b)
theorem diff_bit (a b i : Nat) : (diff a b).testBit i = (a.testBit i && !b.testBit i) := by
  unfold diff
  rw [Nat.testBit_xor, Nat.testBit_and]
  cases a.testBit i <;> cases b.testBit i <;> rfl
theorem sing_bit {n i : Nat} : (sing n).testBit i = decide (n = i) := Nat.testBit_two_pow
theorem sing_lt {n : Nat} (h : n < 64) : sing n < 18446744073709551616 := Nat.pow_lt_pow_right (by decide) h
theorem diff_le (a b : Nat) : diff a b ≤ a := by
  have : diff a b = diff a b &&& a := by
    apply Nat.eq_of_testBit_eq
    intro i
    rw [Nat.testBit_and, diff_bit]
    cases a.testBit i <;> cases b.testBit i <;> rfl
  rw [this]
  exact Nat.and_le_right
theorem bits_diff (a b : Nat) (ha : a < 18446744073709551616) (hb : b < 18446744073709551616) : bits .andNot .u64 (a : Int) (b : Int) = ((diff a b : Nat) : Int) := by
  have hx : diff a b < 18446744073709551616 := Nat.lt_of_le_of_lt (diff_le a b) ha
  have h1 : (BitVec.ofInt 64 (a : Int)).toNat = a := by
    rw [BitVec.ofInt_natCast, BitVec.toNat_ofNat]; exact Nat.mod_eq_of_lt (by omega)
  have h2 : (BitVec.ofInt 64 (b : Int)).toNat = b := by
    rw [BitVec.ofInt_natCast, BitVec.toNat_ofNat]; exact Nat.mod_eq_of_lt (by omega)
  have e : (BitVec.ofInt 64 (a : Int) &&& ~~~ BitVec.ofInt 64 (b : Int)).toNat = diff a b := by
    apply Nat.eq_of_testBit_eq
    intro i
    rw [BitVec.toNat_and, Nat.testBit_and, h1, BitVec.toNat_not, h2, diff_bit]
    by_cases hi : i < 64
    · have := Nat.testBit_two_pow_sub_succ (x := b) (n := 64) hb i
      rw [show 2 ^ 64 - 1 - b = 2 ^ 64 - (b + 1) by omega, this]
      simp [hi]
    · rw [Nat.testBit_lt_two_pow (x := a) (Nat.lt_of_lt_of_le ha (show 18446744073709551616 ≤ 2 ^ i from Nat.pow_le_pow_right (n := 2) (by decide) (show 64 ≤ i by omega)))]
      simp
  show IntKind.u64.wrap ((BitVec.ofInt 64 (a : Int) &&& ~~~ BitVec.ofInt 64 (b : Int)).toNat : Int) = _
  rw [e, IntKind.wrap_u64]
  omega
theorem sing_wrap {n : Nat} (hn : n < 64) : IntKind.u64.wrap (2 ^ n) = ((sing n : Nat) : Int) := by
  have h := sing_lt hn
  have e : ((sing n : Nat) : Int) = 2 ^ n := by unfold sing; simp
  rw [IntKind.wrap_u64, ← e]
  omega
theorem has_bit (s n : Nat) (hn : n < 64) (hs : s < 18446744073709551616) : (bits .and .u64 (s : Int) ((sing n : Nat) : Int) != 0) = s.testBit n := by
  rw [bits_and_u64_nat s _ hs (sing_lt hn)]
  have e : s &&& sing n = if s.testBit n then sing n else 0 := by
    apply Nat.eq_of_testBit_eq
    intro i
    rw [Nat.testBit_and, sing_bit]
    by_cases h : n = i
    · subst h; cases h : s.testBit n <;> simp [sing_bit]
    · cases h' : s.testBit n <;> simp [sing_bit, h]
  rw [e]
  have hp : 0 < sing n := Nat.pow_pos (by decide)
  cases s.testBit n <;> simp <;> omega
end Go.Proofs.YtdpfoegcmngdfaaDoor
namespace Go.Proofs.YtdpfoegcmngdfaaDoor
open Go.RowKit
theorem size_of_cell {w : World} {b o : Nat} {v : Value} (h : w.cell? ⟨b, o, none⟩ = some v) : b < w.heap.size := World.block_lt_of_cell? w ⟨b, o, none⟩ h
abbrev TzG : Nat := Tryd.lays7n29_ren.g 1
def Good (w : World) : Prop := TabAt TzG Lib.deBruijn64tab w
theorem Good.size {w : World} (h : Good w) : TzG < w.heap.size := size_of_cell (h 0 (by decide))
theorem Good.below {B : Nat} {w w' : World} (h : Good w) (hb : Below B w w') (hB : TzG < B) : Good w' := fun j hj => by
  rw [hb.cell (p := ⟨TzG, j, none⟩) hB]; exact h j hj
theorem tz_any (x : Nat) (hx : x < 18446744073709551616) (w : World) (ht : Good w) :
    Calls Tryd.prog 89 #[.int .u64 x] w fun e w' => e = .returned (.int .i64 (Lib.ctz 64 x : Nat)) ∧ w = w' :=
  (Tryd.bits_TrailingZeros64 x hx w (fun _ => ht)).mono fun _e _w' ⟨h1, h2⟩ => ⟨h1, h2.symm⟩
def nats (l : List Nat) : List Value := l.map fun n => Value.int .i64 (n : Nat)
theorem nats_snoc (l : List Nat) (n : Nat) : nats (l ++ [n]) = nats l ++ [.int .i64 (n : Nat)] := by unfold nats; simp
theorem info_int : (Tryd.prog.info? 3).map (fun i => (i.zero, i.size, i.bytes)) = some (some (.int .i64 0), 1, 8) := by kernel_rfl
theorem own_ge {w : World} {base : Nat} {e : TypeId} {size n : Nat} {v : Value} {xs : List Value} (h : w.ownsRow base e size v n xs) {k : Nat} (hk : v.ownBlock = some k) : base ≤ k := by
  rcases h.2 with ⟨rfl, _⟩ | ⟨g, cap, cur, rfl, hg, _⟩
  · simp [Value.ownBlock] at hk
  · simp [Value.ownBlock] at hk; omega
def ListInv (w : World) (s0 : Nat) (s v : Value) (wr : World) : Prop :=
  ∃ (x : Nat) (l : List Nat), s = .int .u64 x ∧ x < 18446744073709551616 ∧ l ++ bitsOf x = bitsOf s0 ∧ wr.ownsRow w.heap.size 3 1 v l.length (nats l) ∧ Below w.heap.size w wr
theorem list_step {w wr w1 : World} {s0 x : Nat} {l : List Nat} {u v' : Value} (h0 : x ≠ 0) (hx : x < 18446744073709551616) (hl : l ++ bitsOf x = bitsOf s0)
    (hown : wr.ownsRow w.heap.size 3 1 u l.length (nats l)) (hown' : w1.ownsRow w.heap.size 3 1 v' (l.length + 1) (nats l ++ [.int .i64 (Lib.ctz 64 x : Nat)]))
    (hgrow : (wr.alloc (.cells #[.int .i64 (Lib.ctz 64 x : Nat)] 3)).grownBy w1 u.ownBlock) (hbel : Below w.heap.size w wr) : ListInv w s0 (.int .u64 ((x &&& (x - 1) : Nat) : Int)) v' w1 := by
  refine ⟨x &&& (x - 1), l ++ [Lib.ctz 64 x], rfl, Nat.lt_of_le_of_lt Nat.and_le_left hx, ?_, ?_, (hbel.alloc hbel.size _).grown hgrow (by simp; have := hbel.size; omega) (fun k hk => own_ge hown hk)⟩
  · rw [List.append_assoc, ← hl, bits_low h0 hx]; rfl
  · rw [nats_snoc, List.length_append]; exact hown'
theorem list_done {wr : World} {B s : Nat} {l : List Nat} {v : Value} (hl : l ++ bitsOf 0 = bitsOf s) (hown : wr.ownsRow B 3 1 v l.length (nats l)) : wr.ownsRow B 3 1 v (bitsOf s).length (nats (bitsOf s)) := by
  rw [bitsOf_zero, List.append_nil] at hl
  rw [← hl]
  exact hown
theorem list_less {x : Nat} (h0 : x ≠ 0) : x &&& (x - 1) < x := Nat.lt_of_le_of_lt Nat.and_le_right (by omega)
theorem u64_neq (x : Nat) (h : x ≠ 0) : ((x : Int) != 0) = true := by simp; omega
end Go.Proofs.YtdpfoegcmngdfaaDoor
namespace Go.Proofs.YtdpfoegcmngdfaaDoor
open Go.RowKit
theorem heap_new (w : World) (o : Obj) : (w.alloc o).heap[w.heap.size]? = some o := by
  show (w.heap.push o)[w.heap.size]? = some o
  rw [Array.getElem?_push, if_pos rfl]
theorem below_on {w0 w w' : World} (h : Below w0.heap.size w0 w) (h' : Below w.heap.size w w') : Below w0.heap.size w0 w' := h.trans (h'.mono h.size)
structure Cells (w : World) (p : Nat) (vs : List Value) : Prop where
  at_ : ∀ i, w.cell? ⟨p, i, none⟩ = vs[i]?
  fz : ∀ i, w.frozen? ⟨p, i, none⟩ = false
  lt : p < w.heap.size
theorem Cells.keep {w w' : World} {p : Nat} {vs : List Value} (h : Cells w p vs) (hb : Below w.heap.size w w') : Cells w' p vs :=
  ⟨fun i => (hb.cell (p := ⟨p, i, none⟩) h.lt).trans (h.at_ i), fun i => (hb.frozen (p := ⟨p, i, none⟩) h.lt).trans (h.fz i), Nat.lt_of_lt_of_le h.lt hb.size⟩
theorem Cells.of_row {w : World} {p : Nat} {vs : Array Value} {T : TypeId} (h : w.heap[p]? = some (.cells vs T (0, 0))) : Cells w p vs.toList := by
  refine ⟨fun i => by rw [cell_of_row _ _ _ _ _ _ h]; simp, fun i => by simp [World.frozen?, h], ?_⟩
  rcases Nat.lt_or_ge p w.heap.size with h1 | h1
  · exact h1
  · rw [Array.getElem?_eq_none h1] at h; cases h
theorem Cells.new (w : World) (vs : Array Value) (T : TypeId) : Cells (w.alloc (.cells vs T)) w.heap.size vs.toList := Cells.of_row (heap_new w _)
theorem Cells.set {w : World} {p : Nat} {vs : List Value} (h : Cells w p vs) (i : Nat) (u : Value) (hi : i < vs.length) : Cells (w.setCell ⟨p, i, none⟩ u) p (vs.set i u) := by
  refine ⟨fun k => ?_, fun k => by rw [World.frozen?_setCell]; exact h.fz k, by simpa [World.setCell] using h.lt⟩
  by_cases hk : k = i
  · subst hk
    rw [World.cell?_setCell_same _ _ _ ((h.at_ k).trans (List.getElem?_eq_getElem hi))]
    simp [hi]
  · rw [World.cell?_setCell_other _ _ _ _ (by simp <;> omega), h.at_ k, List.getElem?_set_ne (by omega)]
theorem Cells.other {w : World} {p q : Nat} {vs : List Value} (h : Cells w p vs) (hq : p ≠ q) (i : Nat) (u : Value) : Cells (w.setCell ⟨q, i, none⟩ u) p vs := by
  have hb := Below.heap_setCell w ⟨q, i, none⟩ u p hq
  exact ⟨fun k => (World.cell?_of_block hb).trans (h.at_ k), fun k => by rw [World.frozen?_setCell]; exact h.fz k, by simpa [World.setCell] using h.lt⟩

def EL (w : World) (A : Option Addr) (n : Nat) (es : List (Int × Int)) : Prop :=
  es.length = n ∧ ∀ k e, es[k]? = some e → ∃ b o, A = some ⟨b, o, none⟩ ∧ b < w.heap.size ∧ w.cell? ⟨b, o + k * 2, none⟩ = some (.int .i64 e.1) ∧ w.cell? ⟨b, o + k * 2 + 1, none⟩ = some (.int .i64 e.2)
theorem EL.keep {w w' : World} {n : Nat} {A : Option Addr} {es : List (Int × Int)} (h : EL w A n es) (hb : Below w.heap.size w w') : EL w' A n es :=
  ⟨h.1, fun k e hk => let ⟨b, o, e1, hlt, hc, hd⟩ := h.2 k e hk; ⟨b, o, e1, Nat.lt_of_lt_of_le hlt hb.size, (hb.cell (p := ⟨b, o + k * 2, none⟩) hlt).trans hc, (hb.cell (p := ⟨b, o + k * 2 + 1, none⟩) hlt).trans hd⟩⟩
theorem EL.at_ {w : World} {A : Option Addr} {n : Nat} {es : List (Int × Int)} (h : EL w A n es) {k : Nat} (hk : k < n) : ∃ e b o, es[k]? = some e ∧ A = some ⟨b, o, none⟩ ∧ b < w.heap.size ∧ w.cell? ⟨b, o + k * 2, none⟩ = some (.int .i64 e.1) ∧ w.cell? ⟨b, o + k * 2 + 1, none⟩ = some (.int .i64 e.2) := by
  have hl : k < es.length := by rw [h.1]; exact hk
  obtain ⟨b, o, e, hb, hc⟩ := h.2 k es[k] (List.getElem?_eq_getElem hl)
  exact ⟨_, b, o, List.getElem?_eq_getElem hl, e, hb, hc⟩
def cast (es : List (Nat × Nat)) : List (Int × Int) := es.map fun e => ((e.1 : Int), (e.2 : Int))
theorem cast_at {es : List (Nat × Nat)} {k : Nat} {e : Int × Int} (h : (cast es)[k]? = some e) : ∃ x y : Nat, es[k]? = some (x, y) ∧ e = ((x : Int), (y : Int)) := by
  unfold cast at h
  rw [List.getElem?_map] at h
  cases h1 : es[k]? with
  | none => rw [h1] at h; cases h
  | some p => rw [h1] at h; injection h with h; exact ⟨p.1, p.2, rfl, h.symm⟩
abbrev gV (n : Int) (A : Option Addr) (m c : Nat) : Value := .agg #[.int .i64 n, .slice A m c]
def sets (f : Nat → Nat) : List Value := (List.range 64).map fun i => Value.int .u64 (f i : Nat)
theorem sets_at (f : Nat → Nat) {i : Nat} (h : i < 64) : (sets f)[i]? = some (.int .u64 (f i : Nat)) := by
  unfold sets; simp [h]
theorem Cells.drew {w : World} {p : Nat} {vs : List Value} (h : Cells w p vs) : Cells w.drew p vs := ⟨h.at_, h.fz, h.lt⟩
end Go.Proofs.YtdpfoegcmngdfaaDoor
namespace Go.Proofs.YtdpfoegcmngdfaaDoor
open Go.RowKit
def NL (B : Nat) (w : World) (A : Option Addr) (l : List Nat) : Prop :=
  ∀ k n, l[k]? = some n → ∃ b o, A = some ⟨b, o, none⟩ ∧ B ≤ b ∧ b < w.heap.size ∧ w.cell? ⟨b, o + k, none⟩ = some (.int .i64 (n : Nat))
theorem NL.keep {B : Nat} {w w' : World} {A : Option Addr} {l : List Nat} (h : NL B w A l) (hb : Below w.heap.size w w') : NL B w' A l :=
  fun k n hk => let ⟨b, o, e1, h1, hlt, hc⟩ := h k n hk; ⟨b, o, e1, h1, Nat.lt_of_lt_of_le hlt hb.size, (hb.cell (p := ⟨b, o + k, none⟩) hlt).trans hc⟩
theorem NL.down {B C : Nat} {w : World} {A : Option Addr} {l : List Nat} (h : NL B w A l) (hc : C ≤ B) : NL C w A l :=
  fun k n hk => let ⟨b, o, e1, h1, h2⟩ := h k n hk; ⟨b, o, e1, Nat.le_trans hc h1, h2⟩
theorem own_nats {w : World} {base : Nat} {v : Value} {l : List Nat} (h : w.ownsRow base 3 1 v l.length (nats l)) : ∃ A c, v = .slice A l.length c ∧ NL base w A l ∧ c ≤ maxLen ∧ l.length ≤ c := by
  rcases h.2 with ⟨rfl, h0⟩ | ⟨g, cap, cur, rfl, hg, hh, hnc, hcm, hcs, hx⟩
  · have hl : l = [] := List.eq_nil_of_length_eq_zero h0
    subst hl
    exact ⟨none, 0, rfl, fun k n hk => by simp at hk, by unfold maxLen; omega, Nat.le_refl _⟩
  · refine ⟨_, cap, rfl, fun k n hk => ⟨g, 0, rfl, hg, ?_, ?_⟩, hcm, hnc⟩
    · rcases Nat.lt_or_ge g w.heap.size with h1 | h1
      · exact h1
      · rw [Array.getElem?_eq_none h1] at hh; cases hh
    · rw [cell_of_row _ _ _ _ _ _ hh, Nat.zero_add]
      have hk2 : k < l.length := by
        rcases Nat.lt_or_ge k l.length with h1 | h1
        · exact h1
        · rw [List.getElem?_eq_none h1] at hk; cases hk
      have e1 : (cur.toList.take (l.length * 1))[k]? = cur.toList[k]? := List.getElem?_take_of_lt (by omega)
      have e : cur.toList[k]? = some (.int .i64 (n : Nat)) := by
        rw [← e1, hx]
        unfold nats
        rw [List.getElem?_map, hk]
        rfl
      simpa using e
theorem NL.at_ {B : Nat} {w : World} {A : Option Addr} {l : List Nat} (h : NL B w A l) {k : Nat} (hk : k < l.length) : ∃ n b o, l[k]? = some n ∧ A = some ⟨b, o, none⟩ ∧ B ≤ b ∧ b < w.heap.size ∧ w.cell? ⟨b, o + k, none⟩ = some (.int .i64 (n : Nat)) := by
  obtain ⟨b, o, e, hb, hc⟩ := h k l[k] (List.getElem?_eq_getElem hk)
  exact ⟨_, b, o, List.getElem?_eq_getElem hk, e, hb, hc⟩
def orTo (L : Nat → Nat) (l : List Nat) (k : Nat) : Nat := (l.take k).foldl (fun t n => t ||| L n) 0
theorem orTo_up {L : Nat → Nat} {l : List Nat} {k n : Nat} (h : l[k]? = some n) : orTo L l (k + 1) = orTo L l k ||| L n := by
  unfold orTo; rw [List.take_add_one, h]; simp
theorem orTo_lt {L : Nat → Nat} (h : ∀ i, Under 64 (L i)) (l : List Nat) (k : Nat) : orTo L l k < 18446744073709551616 := by
  refine under_lt (k := 64) fun v hv => ?_
  unfold orTo at hv
  rw [or_fold] at hv
  rcases hv with hv | ⟨n, _, hv⟩
  · simp at hv
  · exact h n v hv
theorem orTo_end (L : Nat → Nat) (s k : Nat) (h : (bitsOf s).length ≤ k) : orTo L (bitsOf s) k = stepM L s := by
  unfold orTo stepM; rw [List.take_of_length_le h]
end Go.Proofs.YtdpfoegcmngdfaaDoor
namespace Go.Proofs.YtdpfoegcmngdfaaDoor
open Go.RowKit
def orI (a b : Int) : Int := if a = 0 then b else a
theorem orI_pos {a : Int} (b : Int) (h : a ≠ 0) : orI a b = a := if_neg h
def cmpE (a b : Int × Int) : Int := orI (Lib.compareInt a.1 b.1) (Lib.compareInt a.2 b.2)
theorem cmpI_cases (x y : Int) : (Lib.compareInt x y = -1 ∧ x < y) ∨ (Lib.compareInt x y = 0 ∧ x = y) ∨ (Lib.compareInt x y = 1 ∧ y < x) := by
  unfold Lib.compareInt
  by_cases h1 : x < y
  · simp [h1]
  · by_cases h2 : y < x
    · simp [h1, h2]
    · simp [h1, h2]; omega
theorem cmpE_ge (a b : Int × Int) : (0 ≤ cmpE a b) ↔ ¬ (a.1 < b.1 ∨ (a.1 = b.1 ∧ a.2 < b.2)) := by
  unfold cmpE orI
  rcases cmpI_cases a.1 b.1 with ⟨h, h'⟩ | ⟨h, h'⟩ | ⟨h, h'⟩ <;> rcases cmpI_cases a.2 b.2 with ⟨g, g'⟩ | ⟨g, g'⟩ | ⟨g, g'⟩ <;> simp [h, g] <;> omega
set_option maxHeartbeats 1000000 in
theorem or_any (p : Nat) (a b : Int) (w : World) (h0 : w.cell? ⟨p, 0, none⟩ = some (.int .i64 a)) (h1 : w.cell? ⟨p, 1, none⟩ = some (.int .i64 b)) :
    Calls Tryd.prog 85 #[.slice (some ⟨p, 0, none⟩) 2 2] w fun e w' => e = .returned (.int .i64 (orI a b)) ∧ w = w' := by
  have H0 := Lib.hid h0
  have H1 := Lib.hid h1
  clear h0 h1
  go_enter Tryd.func85, Tryd.ntmps85
  go_wp2_with fail
  go_loop [8] (fun i => ∃ k : Nat, k ≤ 2 ∧ i = .int .i64 (k : Nat) ∧ (0 < k → a = 0) ∧ (1 < k → b = 0)) (fun i => 2 - (intOf i).toNat)
  case atStart => exact ⟨0, by omega, rfl, by simp, by simp⟩
  case round =>
    obtain ⟨k, hk, rfl, ha, hb⟩ := hrel
    rcases (by omega : k = 0 ∨ k = 1 ∨ k = 2) with rfl | rfl | rfl
    · have c0 := H0.out
      by_cases hz : a = 0
      · subst hz
        clear ha hb
        go_wp2
        go_round
        case rel => exact ⟨1, by omega, rfl, by simp, by simp⟩
        case measure => simp [intOf]
      · have t0 : (a != 0) = true := by simp [hz]
        have Hz := Lib.hid hz
        clear hz ha hb
        go_wp2
        go_ret
        exact ⟨ret_int (orI_pos b Hz.out).symm, rfl⟩
    · have c1 := H1.out
      have Ha := Lib.hid (ha (by omega))
      by_cases hz : b = 0
      · subst hz
        clear ha hb
        go_wp2
        go_round
        case rel => exact ⟨2, by omega, rfl, by simp [Ha.out], by simp⟩
        case measure => simp [intOf]
      · have t0 : (b != 0) = true := by simp [hz]
        clear hz ha hb
        go_wp2
        go_ret
        exact ⟨ret_int (by rw [Ha.out]; rfl), rfl⟩
    · have Ha := Lib.hid (ha (by omega))
      have Hb := Lib.hid (hb (by omega))
      clear ha hb
      go_wp2
      go_ret
      exact ⟨ret_int (by rw [Ha.out, Hb.out]; rfl), rfl⟩
set_option maxRecDepth 100000 in
set_option maxHeartbeats 2000000 in
theorem compare_any (a b : Int × Int) (w : World) :
    Calls Tryd.prog 68 #[.agg #[.int .i64 a.1, .int .i64 a.2], .agg #[.int .i64 b.1, .int .i64 b.2]] w fun e w' => e = .returned (.int .i64 (cmpE a b)) ∧ Below w.heap.size w w' := by
  obtain ⟨a1, a2⟩ := a
  obtain ⟨b1, b2⟩ := b
  have H := Lib.hid (show cmpE (a1, a2) (b1, b2) = orI (Lib.compareInt a1 b1) (Lib.compareInt a2 b2) from rfl)
  obtain ⟨c, hc⟩ : ∃ c, cmpE (a1, a2) (b1, b2) = c := ⟨_, rfl⟩
  rw [hc] at H
  rw [hc]
  have HC := Lib.hid (fun x y w => Tryd.cmp_Compare_int x y w)
  obtain ⟨f, hf⟩ : ∃ f, Lib.compareInt = f := ⟨_, rfl⟩
  rw [hf] at H HC
  clear hc hf
  simp only
  have E1 := Lib.hid ((Cells.new w #[.int .i64 a1, .int .i64 a2] 75).keep ((Below.refl _ _).alloc (Nat.le_refl _) (.cells #[.int .i64 b1, .int .i64 b2] 75)))
  have E2 := Lib.hid (Cells.new (w.alloc (.cells #[.int .i64 a1, .int .i64 a2] 75)) #[.int .i64 b1, .int .i64 b2] 75)
  have HB := Lib.hid (((Below.refl w.heap.size w).alloc (Nat.le_refl _) (.cells #[.int .i64 a1, .int .i64 a2] 75)).alloc (by simp) (.cells #[.int .i64 b1, .int .i64 b2] 75))
  obtain ⟨w2, hw2⟩ : ∃ u, (w.alloc (.cells #[.int .i64 a1, .int .i64 a2] 75)).alloc (.cells #[.int .i64 b1, .int .i64 b2] 75) = u := ⟨_, rfl⟩
  rw [hw2] at E1 E2 HB
  have hs1 : (w.alloc (.cells #[.int .i64 a1, .int .i64 a2] 75)).heap.size = w.heap.size + 1 := by simp
  rw [hs1] at E2
  clear hs1
  have c0 := E1.out.at_ 0
  have c1 := E1.out.at_ 1
  have c2 := E2.out.at_ 0
  have c3 := E2.out.at_ 1
  simp only [List.getElem?_cons_zero, List.getElem?_cons_succ] at c0 c1 c2 c3
  go_enter Tryd.func68, Tryd.ntmps68
  go_wp2_with fail
  go_still_tail 10, (by kernel_rfl)
  still_call (HC.out _ _ _)
  repeat still_step
  still_call (HC.out _ _ _)
  repeat still_step
  refine wpStill_nil ?_
  change wpList _ _ _ _ _ w2.drew
  go_wp2_with fail
  refine (or_any _ (f a1 b1) (f a2 b2) _ (by simp [go_sem]) (by simp [go_sem])).mono ?_
  rintro e w' ⟨rfl, rfl⟩
  go_wp2_with fail
  go_ret
  exact ⟨ret_int H.out.symm, HB.out.drew.alloc (by have := HB.out.size; simpa using this) _⟩
def okE (n : Int) (e : Int × Int) : Bool := decide (0 ≤ e.1) && decide (e.1 < n) && decide (0 ≤ e.2) && decide (e.2 < n)
def edgesE (n : Int) (es : List (Int × Int)) : Int := if es.all (okE n) then 0 else 2
theorem all_take {α : Type} {p : α → Bool} {l : List α} {k : Nat} {x : α} (h : l[k]? = some x) (ha : (l.take k).all p = true) (hx : p x = true) : (l.take (k + 1)).all p = true := by
  rw [List.take_add_one, h, List.all_append, ha]; simp [hx]
theorem edgesE_bad {n : Int} {es : List (Int × Int)} {k : Nat} {x : Int × Int} (h : es[k]? = some x) (hx : okE n x = false) : edgesE n es = 2 := by
  unfold edgesE
  rw [if_neg]
  intro ha
  rw [List.all_eq_true.1 ha x (List.mem_of_getElem? h)] at hx
  cases hx
theorem edgesE_ok {n : Int} {es : List (Int × Int)} {k : Nat} (hk : es.length ≤ k) (h : (es.take k).all (okE n) = true) : edgesE n es = 0 := by
  rw [List.take_of_length_le hk] at h
  unfold edgesE
  rw [if_pos h]
set_option maxRecDepth 100000 in
set_option maxHeartbeats 2000000 in
theorem checkEdges_any (n : Int) (A : Option Addr) (m c : Nat) (es : List (Int × Int)) (w : World) (h : EL w A m es) (hm : m ≤ 4611686018427387904) :
    Calls Tryd.prog 65 #[.int .i64 n, .slice A m c] w fun e w' => e = .returned (.int .i64 (edgesE n es)) ∧ Below w.heap.size w w' := by
  have hlen := h.1
  have H := Lib.hid h
  have hnl := Nat.le_of_eq hlen
  clear h hlen
  go_enter Tryd.func65, Tryd.ntmps65
  go_wp2_with fail
  go_loopw [9] (fun i wr => ∃ k : Nat, k ≤ m ∧ i = .int .i64 (k : Nat) ∧ (es.take k).all (okE n) = true ∧ Below w.heap.size w wr) (fun i _ => m - (intOf i).toNat)
  case atStart => exact ⟨0, Nat.zero_le _, rfl, by simp, Below.refl _ _⟩
  case round =>
    obtain ⟨k, hk, rfl, ha, hb⟩ := hrel
    have Ha := Lib.hid ha
    have Hb := Lib.hid hb
    clear ha hb
    by_cases hlt : k < m
    · obtain ⟨e, b, o, he, rfl, hbl, c0, c1⟩ := (H.out.keep Hb.out).at_ hlt
      obtain ⟨x, y⟩ := e
      have He := Lib.hid he
      have Hb2 := Lib.hid (Hb.out.alloc Hb.out.size (.cells #[.int .i64 x, .int .i64 y] 75))
      simp only at c0 c1
      clear he
      by_cases h1 : x < 0
      · have t1 : decide (x < 0) = true := decide_eq_true h1
        have Hf := Lib.hid (edgesE_bad (n := n) He.out (by simp [okE]; omega))
        clear h1
        go_wp2
        go_ret
        exact ⟨ret_int Hf.out.symm, Hb2.out⟩
      · have t1 : decide (x < 0) = false := decide_eq_false h1
        by_cases h2 : n ≤ x
        · have t2 : decide (n ≤ x) = true := decide_eq_true h2
          have Hf := Lib.hid (edgesE_bad (n := n) He.out (by simp [okE]; omega))
          clear h1 h2
          go_wp2
          go_ret
          exact ⟨ret_int Hf.out.symm, Hb2.out⟩
        · have t2 : decide (n ≤ x) = false := decide_eq_false h2
          by_cases h3 : y < 0
          · have t3 : decide (y < 0) = true := decide_eq_true h3
            have Hf := Lib.hid (edgesE_bad (n := n) He.out (by simp [okE]; omega))
            clear h1 h2 h3
            go_wp2
            go_ret
            exact ⟨ret_int Hf.out.symm, Hb2.out⟩
          · have t3 : decide (y < 0) = false := decide_eq_false h3
            by_cases h4 : n ≤ y
            · have t4 : decide (n ≤ y) = true := decide_eq_true h4
              have Hf := Lib.hid (edgesE_bad (n := n) He.out (by simp [okE]; omega))
              clear h1 h2 h3 h4
              go_wp2
              go_ret
              exact ⟨ret_int Hf.out.symm, Hb2.out⟩
            · have t4 : decide (n ≤ y) = false := decide_eq_false h4
              have Hf := Lib.hid (all_take He.out Ha.out (show okE n (x, y) = true by simp [okE]; omega))
              clear h1 h2 h3 h4
              go_wp2
              go_roundw
              case rel => exact ⟨k + 1, by omega, by go_num, Hf.out, Hb2.out⟩
              case measure => simp [intOf]; omega
    · have Hf := Lib.hid (edgesE_ok (by omega) Ha.out)
      go_wp2
      go_ret
      exact ⟨ret_int Hf.out.symm, Hb.out⟩
def ordE : List (Int × Int) → Bool
  | a :: b :: l => decide (cmpE a b < 0) && ordE (b :: l)
  | _ => true
theorem ordE_iff : ∀ (es : List (Int × Int)), ordE es = true ↔ ∀ i a b, es[i]? = some a → es[i + 1]? = some b → cmpE a b < 0
  | [] => by simp [ordE]
  | [x] => by simp [ordE]
  | x :: y :: l => by
    rw [ordE, Bool.and_eq_true, decide_eq_true_eq, ordE_iff (y :: l)]
    constructor
    · rintro ⟨h1, h2⟩ i a b ha hb
      cases i with
      | zero => simp at ha hb; subst ha hb; exact h1
      | succ i => exact h2 i a b (by simpa using ha) (by simpa using hb)
    · intro h
      exact ⟨h 0 x y rfl rfl, fun i a b ha hb => h (i + 1) a b (by simpa using ha) (by simpa using hb)⟩
def checkG (n : Int) (es : List (Int × Int)) : Int :=
  if n < 0 ∨ 64 < n then 2 else if n * n < es.length then 6 else if es.all (okE n) = false then 2 else if ordE es = false then 8 else 0
end Go.Proofs.YtdpfoegcmngdfaaDoor
namespace Go.Proofs.YtdpfoegcmngdfaaDoor
open Go.RowKit
theorem sq_bd {n : Int} (h0 : 0 ≤ n) (h1 : n ≤ 64) : 0 ≤ n * n ∧ n * n ≤ 4096 := by
  obtain ⟨k, rfl⟩ : ∃ k : Nat, n = k := ⟨n.toNat, by omega⟩
  have : k * k ≤ 64 * 64 := Nat.mul_le_mul (by omega) (by omega)
  have e : ((k : Int) * k) = ((k * k : Nat) : Int) := by push_cast; rfl
  rw [e]; omega
theorem checkG_range {n : Int} {es : List (Int × Int)} (h : n < 0 ∨ 64 < n) : checkG n es = 2 := if_pos h
theorem checkG_limit {n : Int} {es : List (Int × Int)} (h : ¬ (n < 0 ∨ 64 < n)) (h2 : n * n < es.length) : checkG n es = 6 := by
  unfold checkG; rw [if_neg h, if_pos h2]
theorem checkG_edge {n : Int} {es : List (Int × Int)} (h : ¬ (n < 0 ∨ 64 < n)) (h2 : ¬ n * n < es.length) (h3 : es.all (okE n) = false) : checkG n es = 2 := by
  unfold checkG; rw [if_neg h, if_neg h2, if_pos h3]
theorem checkG_order {n : Int} {es : List (Int × Int)} {i : Nat} {a b : Int × Int} (h : ¬ (n < 0 ∨ 64 < n)) (h2 : (es.length : Int) ≤ n * n) (h3 : es.all (okE n) = true) (ha : es[i]? = some a) (hb : es[i + 1]? = some b) (hc : 0 ≤ cmpE a b) : checkG n es = 8 := by
  unfold checkG
  rw [if_neg h, if_neg (by omega), if_neg (by simp [h3]), if_pos]
  cases e : ordE es with
  | false => rfl
  | true => have := (ordE_iff es).1 e i a b ha hb; omega
theorem checkG_ok {n : Int} {es : List (Int × Int)} {k : Nat} (h : ¬ (n < 0 ∨ 64 < n)) (h2 : (es.length : Int) ≤ n * n) (h3 : es.all (okE n) = true) (hk : es.length ≤ k) (ho : ∀ i a b, i + 1 < k → es[i]? = some a → es[i + 1]? = some b → cmpE a b < 0) : checkG n es = 0 := by
  unfold checkG
  rw [if_neg h, if_neg (by omega), if_neg (by simp [h3]), if_neg]
  rw [Bool.not_eq_false, ordE_iff]
  intro i a b ha hb
  refine ho i a b ?_ ha hb
  rcases Nat.lt_or_ge (i + 1) es.length with h4 | h4
  · omega
  · rw [List.getElem?_eq_none h4] at hb; cases hb
theorem edgesE_cases (n : Int) (es : List (Int × Int)) : (edgesE n es = 0 ∧ es.all (okE n) = true) ∨ (edgesE n es = 2 ∧ es.all (okE n) = false) := by
  unfold edgesE
  cases h : es.all (okE n) <;> simp
theorem sort_up {es : List (Int × Int)} {k : Nat} {a b : Int × Int} (h0 : 0 < k) (ha : es[k - 1]? = some a) (hb : es[k]? = some b) (hc : cmpE a b < 0) (ho : ∀ i a b, i + 1 < k → es[i]? = some a → es[i + 1]? = some b → cmpE a b < 0) :
    ∀ i a b, i + 1 < k + 1 → es[i]? = some a → es[i + 1]? = some b → cmpE a b < 0 := by
  intro i x y hi hx hy
  by_cases h : i + 1 = k
  · obtain rfl : i = k - 1 := by omega
    rw [ha] at hx
    rw [h, hb] at hy
    injection hx with hx
    injection hy with hy
    subst hx hy
    exact hc
  · exact ho i x y (by omega) hx hy
set_option maxRecDepth 100000 in
set_option maxHeartbeats 4000000 in
theorem check_any (n : Int) (A : Option Addr) (m c : Nat) (es : List (Int × Int)) (w : World) (h : EL w A m es) (hm : m ≤ 4611686018427387904) :
    Calls Tryd.prog 45 #[gV n A m c] w fun e w' => e = .returned (.int .i64 (checkG n es)) ∧ Below w.heap.size w w' := by
  have hlen := h.1
  have kv := (Below.refl w.heap.size w).alloc (Nat.le_refl _) (.cells #[.int .i64 n, .slice A m c] 24)
  have H := Lib.hid (h.keep kv)
  have G0 := Lib.hid (Cells.new w #[.int .i64 n, .slice A m c] 24)
  have B0 := Lib.hid kv
  have hnl := Nat.le_of_eq hlen
  have hnl2 := Nat.le_of_eq hlen.symm
  obtain ⟨w0, hw0⟩ : ∃ u, w.alloc (.cells #[.int .i64 n, .slice A m c] 24) = u := ⟨_, rfl⟩
  obtain ⟨p, hp⟩ : ∃ p, w.heap.size = p := ⟨_, rfl⟩
  rw [hw0] at H G0 B0
  rw [hp] at G0 B0
  rw [hp]
  have hpz : p ≤ w0.heap.size := by have := B0.out.size; rw [hp] at this; exact this
  have c0 := G0.out.at_ 0
  have c1 := G0.out.at_ 1
  simp only [List.getElem?_cons_zero, List.getElem?_cons_succ] at c0 c1
  clear h kv
  by_cases h1 : n < 0
  · have t1 : decide (n < 0) = true := decide_eq_true h1
    have Hf := Lib.hid (checkG_range (es := es) (.inl h1))
    clear h1 hlen
    go_enter Tryd.func45, Tryd.ntmps45
    go_wp2_with fail
    go_ret
    exact ⟨ret_int Hf.out.symm, B0.out⟩
  · have t1 : decide (n < 0) = false := decide_eq_false h1
    by_cases h2 : 64 < n
    · have t2 : decide (64 < n) = true := decide_eq_true h2
      have Hf := Lib.hid (checkG_range (es := es) (.inr h2))
      clear h1 h2 hlen
      go_enter Tryd.func45, Tryd.ntmps45
      go_wp2_with fail
      go_ret
      exact ⟨ret_int Hf.out.symm, B0.out⟩
    · have t2 : decide (64 < n) = false := decide_eq_false h2
      have hr : ¬ (n < 0 ∨ 64 < n) := by omega
      have Hr := Lib.hid hr
      obtain ⟨q0, q1⟩ := sq_bd (n := n) (by omega) (by omega)
      by_cases h3 : n * n < m
      · have t3 : decide (n * n < m) = true := decide_eq_true h3
        have Hf := Lib.hid (checkG_limit (es := es) hr (by rw [hlen]; exact h3))
        clear h1 h2 hlen h3 hr
        go_enter Tryd.func45, Tryd.ntmps45
        go_wp2_with fail
        go_ret
        exact ⟨ret_int Hf.out.symm, B0.out⟩
      · have t3 : decide (n * n < m) = false := decide_eq_false h3
        have H3 := Lib.hid (show ¬ n * n < es.length by rw [hlen]; exact h3)
        have HE := Lib.hid (checkEdges_any n A m c es w0 H.out hm)
        rcases edgesE_cases n es with ⟨he, ha⟩ | ⟨he, ha⟩
        · rw [he] at HE
          have Ha := Lib.hid ha
          clear h1 h2 h3 hr he ha hlen
          go_enter Tryd.func45, Tryd.ntmps45
          go_wp2_with fail
          refine HE.out.mono ?_
          rintro e w1 ⟨rfl, hb1⟩
          have K0 := Lib.hid (fun w' (h : Below w0.heap.size w0 w') => B0.out.trans (h.mono hpz))
          have B1 := Lib.hid hb1
          clear hb1
          go_wp2_with fail
          go_loopw [4] (fun i wr => ∃ k : Nat, 0 < k ∧ i = .int .i64 (k : Nat) ∧ (1 < k → k ≤ m) ∧ (∀ i a b, i + 1 < k → es[i]? = some a → es[i + 1]? = some b → cmpE a b < 0) ∧ Below w0.heap.size w0 wr) (fun i _ => m - (intOf i).toNat)
          case atStart => exact ⟨1, by omega, rfl, by omega, fun i a b h => by omega, B1.out⟩
          case round =>
            obtain ⟨k, hk0, rfl, hkm, ho, hb⟩ := hrel
            have Ho := Lib.hid ho
            have Hb := Lib.hid hb
            have g0 := (G0.out.keep hb).at_ 0
            have g1 := (G0.out.keep hb).at_ 1
            simp only [List.getElem?_cons_zero, List.getElem?_cons_succ] at g0 g1
            clear ho hb
            by_cases hlt : k < m
            · obtain ⟨a, b, o, hea, rfl, _, a0, a1⟩ := (H.out.keep Hb.out).at_ (show k - 1 < m by omega)
              obtain ⟨a', b', o', heb, hA, _, b0, b1⟩ := (H.out.keep Hb.out).at_ hlt
              injection hA with hA
              injection hA with hA1 hA2
              subst hA1 hA2
              have e1 : ((k : Int) - 1).toNat = k - 1 := by omega
              have Hea := Lib.hid hea
              have Heb := Lib.hid heb
              have HC := Lib.hid (fun w => compare_any a a' w)
              clear hea heb
              have ew : IntKind.i64.wrap ((k : Int) - 1) = (k : Int) - 1 := IntWalk.i64_in _ (by omega)
              have i0 : (1 : Int) ≤ (k : Int) := by omega
              have i1 : (0 : Int) ≤ (k : Int) - 1 := by omega
              have i2 : (k : Int) - 1 < m := by omega
              go_wp2_with fail
              go_still_tail 11, (by kernel_rfl)
              change wpList _ _ _ _ _ wr.drew
              go_wp2_with fail
              refine (HC.out _).mono ?_
              rintro e w2 ⟨rfl, hb2⟩
              have Hb2 := Lib.hid (below_on Hb.out.drew hb2)
              clear hb2
              by_cases hc : cmpE a a' < 0
              · have Hs := Lib.hid (sort_up hk0 Hea.out Heb.out hc Ho.out)
                go_wp2_with fail
                go_roundw
                case rel => exact ⟨k + 1, by omega, by go_num, by omega, Hs.out, Hb2.out⟩
                case measure => simp [intOf]; omega
              · have hc' : 0 ≤ cmpE a a' := by omega
                have Hf := Lib.hid (checkG_order Hr.out H3.out Ha.out Hea.out (by rw [show k - 1 + 1 = k by omega]; exact Heb.out) hc')
                go_wp2_with fail
                go_ret
                exact ⟨ret_int Hf.out.symm, K0.out _ Hb2.out⟩
            · have Hf := Lib.hid (checkG_ok (k := k) Hr.out H3.out Ha.out (by omega) Ho.out)
              go_wp2_with fail
              go_ret
              exact ⟨ret_int Hf.out.symm, K0.out _ Hb.out⟩
        · rw [he] at HE
          have Hf := Lib.hid (checkG_edge hr H3.out ha)
          clear h1 h2 h3 hr he ha hlen
          go_enter Tryd.func45, Tryd.ntmps45
          go_wp2_with fail
          refine HE.out.mono ?_
          rintro e w1 ⟨rfl, hb1⟩
          have B1 := Lib.hid (B0.out.trans (hb1.mono hpz))
          clear hb1
          go_wp2_with fail
          go_ret
          exact ⟨ret_int Hf.out.symm, B1.out⟩
end Go.Proofs.YtdpfoegcmngdfaaDoor
namespace Go.Proofs.YtdpfoegcmngdfaaDoor
open Go.RowKit
theorem cmpE_lt (a b : Int × Int) : decide (cmpE a b < 0) = (decide (a.1 < b.1) || (a.1 == b.1 && decide (a.2 < b.2))) := by
  have := cmpE_ge a b
  by_cases h : cmpE a b < 0
  · have h2 : a.1 < b.1 ∨ (a.1 = b.1 ∧ a.2 < b.2) := Classical.byContradiction fun hn => by have := this.2 hn; omega
    simp [h]
    rcases h2 with h2 | ⟨h2, h3⟩
    · exact .inl h2
    · exact .inr ⟨h2, h3⟩
  · have h2 := this.1 (by omega)
    simp [h]
    omega
end Go.Proofs.YtdpfoegcmngdfaaDoor
namespace Go.Proofs.YtdpfoegcmngdfaaDoor
open Go.RowKit
section
variable {P : Program} {md : Region.Mode} {ops : Array Oper} {Q : Exit → Act → World → Prop} {S : World → Prop} {k : Nat}
def Till (P : Program) (md : Region.Mode) (ops : Array Oper) (Q : Exit → Act → World → Prop) (S : World → Prop) (k : Nat) : Nat → Array Bool → Act → World → Prop
  | 0, l, a, w => Region.ready md ops l = [] ∧ Q .normal a w
  | n + 1, l, a, w => (Region.ready md ops l = [] → Q .normal a w) ∧ ∀ i ∈ Region.ready md ops l, wpOp P ops Q i (fun b v => ((l.setIfInBounds i true).getD k true = false → S v) ∧ Till P md ops Q S k n (l.setIfInBounds i true) b v) a w
theorem Till.any : ∀ (n : Nat) (l : Array Bool) (a : Act) (w : World), Till P md ops Q S k n l a w → wpAny P md ops Q n l a w
  | 0, _, _, _, h => h
  | n + 1, _, _, _, h => ⟨h.1, fun i hi => wpOp_mono (fun b v hb => Till.any n _ b v hb.2) (h.2 i hi)⟩
def waits (md : Region.Mode) (ops : Array Oper) (k i : Nat) : Bool :=
  match ops[k]? with
  | some o => o.after.any fun e => Region.binds md e && e.on == i
  | none => false
theorem Till.first {i : Nat} {oi : Oper} {u : Value} (hi : ops[i]? = some oi) (hs : Region.noSelect ops = true) (hQ : ∀ c a w, Q (.panic c) (a.put oi.dst u) w → Q (.panic c) a w) {m : Nat} (hm : waits md ops m i = true) (hmk : m = k ∨ waits md ops k m = true) (hik : i ≠ k) (him : i ≠ m) (n : Nat) :
    ∀ (l : Array Bool) (a : Act) (w : World), l.getD m true = false → (∀ j oj, ops[j]? = some oj → j ≠ i → l.getD j true = false → (∀ e ∈ oj.after, Region.binds md e = true → e.on ≠ i) → oi.apart ops oj = true) →
      i ∈ Region.ready md ops l → l.getD k true = false → YieldsIf P ops S oi u a → S w → Till P md ops Q S k n (l.setIfInBounds i true) (a.put oi.dst u) w → Till P md ops Q S k (n + 1) l a w := by
  induction n with
  | zero =>
    intro l a w _ _ hr _ hy hS H
    refine ⟨fun h0 => absurd hr (by rw [h0]; simp), fun j hj => ?_⟩
    rcases Nat.decEq j i with hne | heq
    · have := ready_mono hj hne
      rw [H.1] at this
      cases this
    · subst heq
      exact hy.wpOp hi hS ⟨fun _ => hS, H⟩
  | succ n ih =>
    intro l a w hml0 hfree hr hkl hy hS H
    have hi0 := (mem_ready.1 hr).1
    refine ⟨fun h0 => absurd hr (by rw [h0]; simp), fun j hj => ?_⟩
    rcases Nat.decEq j i with hne | heq
    · obtain ⟨hj0, oj, hoj, hafter⟩ := mem_ready.1 hj
      have open_ : ∀ m' : Nat, l.getD m' true = false → ∀ e ∈ oj.after, Region.binds md e = true → e.on ≠ m' := by
        intro m' hm0 e he hb h1
        have h2 := hafter e he hb
        rw [h1] at h2
        cases hl : l[m']? with
        | none => simp [Array.getD_eq_getD_getElem?, hl] at h2
        | some t => simp [Array.getD_eq_getD_getElem?, hl] at h2 hm0; rw [h2] at hm0; cases hm0
      have hnone := open_ i hi0
      have apart : ∀ k' m' : Nat, l.getD m' true = false → waits md ops k' m' = true → j ≠ k' := by
        intro k' m' hm0 hw h1
        subst h1
        unfold waits at hw
        rw [hoj] at hw
        obtain ⟨e, he, h2⟩ := Array.any_eq_true'.1 hw
        simp only [Bool.and_eq_true, beq_iff_eq] at h2
        exact open_ m' hm0 e he h2.1 h2.2
      have hjm : j ≠ m := apart m i hi0 hm
      have hjk : j ≠ k := by
        rcases hmk with h1 | h1
        · rw [← h1]; exact hjm
        · exact apart k m hml0 h1
      have hkl2 : (l.setIfInBounds j true).getD k true = false := by rw [getD_set_ne true hjk]; exact hkl
      have step := wpOp_putIf hoj (hfree j oj hoj hne hj0 hnone) (fun cs b => Region.noSelect_spec hs i oi cs b hi) (fun cs b => Region.noSelect_spec hs j oj cs b hoj) hQ hy (H.2 j (ready_mono hj hne))
      refine wpOp_mono (fun b v hb => ?_) step
      have hSv : S v := hb.2.1 (by rw [getD_set_ne true hjk, getD_set_ne true hik]; exact hkl)
      refine ⟨fun _ => hSv, ih (l.setIfInBounds j true) b v (by rw [getD_set_ne true hjm]; exact hml0) (fun m om hm hmi hml hmn => hfree m om hm hmi ?_ hmn) (ready_mono hr (Ne.symm hne)) hkl2 hb.1 hSv ?_⟩
      · rcases Nat.decEq j m with h1 | h1
        · rwa [getD_set_ne true h1] at hml
        · subst h1; exact hj0
      · rw [Array.setIfInBounds_comm _ _ hne]
        exact hb.2.2
    · subst heq
      exact hy.wpOp hi hS ⟨fun _ => hS, H⟩
theorem Till.take {i m : Nat} {oi : Oper} {d : Option Tmp} {u : Value} {n : Nat} {l : Array Bool} {a : Act} {w : World} (hi : ops[i]? = some oi) (hd : oi.dst = d) (hs : Region.noSelect ops = true) (hf : Region.free md ops l i = true) (hr : (Region.ready md ops l).contains i = true) (hm : waits md ops m i = true) (hmk : (m == k || waits md ops k m) = true) (hik : (i == k || i == m) = false) (hkl : (l.getD k true || l.getD m true) = false)
    (hQ : ∀ c a w, Q (.panic c) (a.put d u) w → Q (.panic c) a w) (hw : Region.wanted oi (yielded ops a.tmps) = true) (hy : ∀ w, S w → (execOp a.eval oi).run P w = .ok (.value u) w) (hS : S w) (h : Till P md ops Q S k n (l.setIfInBounds i true) (a.put d u) w) : Till P md ops Q S k (n + 1) l a w := by
  subst hd
  rw [Bool.or_eq_false_iff] at hkl hik
  exact Till.first hi hs hQ hm (by simpa using hmk) (by simpa using hik.1) (by simpa using hik.2) n l a w hkl.2 (Region.free_spec hi hf) (by simpa using hr) hkl.1 (Or.inl ⟨hw, hy⟩) hS h
theorem Till.tk (i m : Nat) (d : Tmp) (u : Value) {oi : Oper} {n : Nat} {l : Array Bool} {a : Act} {w : World} (hS : S w) (h : Till P md ops Q S k n (l.setIfInBounds i true) (a.put (some d) u) w) (hi : ops[i]? = some oi := by exact rfl) (hd : oi.dst = some d := by exact rfl) (hs : Region.noSelect ops = true := by kernel_rfl) (hf : Region.free md ops l i = true := by kernel_rfl) (hr : (Region.ready md ops l).contains i = true := by kernel_rfl) (hm : waits md ops m i = true := by kernel_rfl) (hmk : (m == k || waits md ops k m) = true := by kernel_rfl) (hik : (i == k || i == m) = false := by kernel_rfl) (hkl : (l.getD k true || l.getD m true) = false := by kernel_rfl)
    (hQ : ∀ c a w, Q (.panic c) (a.put (some d) u) w → Q (.panic c) a w := by exact fun _ _ _ h => h) (hw : Region.wanted oi (yielded ops a.tmps) = true := by kernel_rfl) (hy : ∀ w, S w → (execOp a.eval oi).run P w = .ok (.value u) w := by (intro w hSw; (try dsimp only at hSw); go_split_ands; go_simp)) : Till P md ops Q S k (n + 1) l a w :=
  Till.take hi hd hs hf hr hm hmk hik hkl hQ hw hy hS h
theorem Till.one {i : Nat} {o : Oper} {n : Nat} {l : Array Bool} {a : Act} {w : World} (hr : Region.ready md ops l = [i]) (ho : ops[i]? = some o)
    (h : ∀ K : Act → World → Prop, Shut (∀ b v, ((l.setIfInBounds i true).getD k true = false → S v) → Till P md ops Q S k n (l.setIfInBounds i true) b v → K b v) → if Region.wanted o (yielded ops a.tmps) = true then Oper.wp P o a w K Q else K (a.put o.dst undef) w) : Till P md ops Q S k (n + 1) l a w := by
  refine ⟨fun h0 => absurd (hr.symm.trans h0) (by simp), fun j hj => ?_⟩
  rw [hr] at hj
  obtain rfl : j = i := by simpa using hj
  exact wpOp_step ho fun K hK => h K fun b v h1 h2 => hK b v ⟨h1, h2⟩
theorem Till.done {l : Array Bool} {a : Act} {w : World} (hr : Region.ready md ops l = []) (h : Q .normal a w) : ∀ n, Till P md ops Q S k n l a w
  | 0 => ⟨hr, h⟩
  | _ + 1 => ⟨fun _ => h, by rw [hr]; simp⟩
theorem Till.begin {id : Nat} {a : Act} {w : World} (k : Nat) (S : World → Prop) (hm : P.follows .mixedOrders = true) (hS : S w.drew) (h : S w.drew → Till P .any ops Q S k ops.size (Array.replicate ops.size false) a w.drew) : (Code.region id ops true).wp P Q a w :=
  wp_region_any hm (Till.any _ _ _ _ (h hS))
end
section
variable {P : Program} {md : Region.Mode} {ops : Array Oper} {Q : Exit → Act → World → Prop} {S : World → Prop} {k : Nat}
def Arm (P : Program) (md : Region.Mode) (ops : Array Oper) (Q : Exit → Act → World → Prop) (S : World → Prop) (k n : Nat) (l : Array Bool) (a : Act) (w : World) (i : Nat) (o : Oper) : Prop :=
  ∀ K : Act → World → Prop, Shut (∀ b v, ((l.setIfInBounds i true).getD k true = false → S v) → Till P md ops Q S k n (l.setIfInBounds i true) b v → K b v) → if Region.wanted o (yielded ops a.tmps) = true then Oper.wp P o a w K Q else K (a.put o.dst undef) w
theorem Arm.op {i : Nat} {o : Oper} {n : Nat} {l : Array Bool} {a : Act} {w : World} (ho : ops[i]? = some o) (h : Arm P md ops Q S k n l a w i o) : wpOp P ops Q i (fun b v => ((l.setIfInBounds i true).getD k true = false → S v) ∧ Till P md ops Q S k n (l.setIfInBounds i true) b v) a w :=
  wpOp_step ho fun K hK => h K fun b v h1 h2 => hK b v ⟨h1, h2⟩
theorem Till.two {i j : Nat} {o o' : Oper} {n : Nat} {l : Array Bool} {a : Act} {w : World} (hr : Region.ready md ops l = [i, j]) (ho : ops[i]? = some o) (ho' : ops[j]? = some o')
    (h : Arm P md ops Q S k n l a w i o) (h' : Arm P md ops Q S k n l a w j o') : Till P md ops Q S k (n + 1) l a w := by
  refine ⟨fun h0 => absurd (hr.symm.trans h0) (by simp), fun m hm => ?_⟩
  rw [hr] at hm
  rcases List.mem_cons.1 hm with rfl | hm
  · exact h.op ho
  · obtain rfl := List.mem_singleton.1 hm
    exact h'.op ho'
theorem Till.three {i j g : Nat} {o o' o2 : Oper} {n : Nat} {l : Array Bool} {a : Act} {w : World} (hr : Region.ready md ops l = [i, j, g]) (ho : ops[i]? = some o) (ho' : ops[j]? = some o') (ho2 : ops[g]? = some o2)
    (h : Arm P md ops Q S k n l a w i o) (h' : Arm P md ops Q S k n l a w j o') (h2 : Arm P md ops Q S k n l a w g o2) : Till P md ops Q S k (n + 1) l a w := by
  refine ⟨fun h0 => absurd (hr.symm.trans h0) (by simp), fun m hm => ?_⟩
  rw [hr] at hm
  rcases List.mem_cons.1 hm with rfl | hm
  · exact h.op ho
  rcases List.mem_cons.1 hm with rfl | hm
  · exact h'.op ho'
  · obtain rfl := List.mem_singleton.1 hm
    exact h2.op ho2
end
end Go.Proofs.YtdpfoegcmngdfaaDoor
namespace Go.Proofs.YtdpfoegcmngdfaaDoor
open Go.RowKit
structure St where
  low : List Int
  vis : Nat
  way : List Nat
  on : Nat
  found : List Nat
deriving DecidableEq
structure Kept (w w' : World) (p : Nat) (vW vF vW' vF' : Value) : Prop where
  size : w.heap.size ≤ w'.heap.size
  block : ∀ b, b < w.heap.size → b ≠ p → vW.ownBlock ≠ some b → vF.ownBlock ≠ some b → w'.heap[b]? = w.heap[b]?
  newW : ∀ b, vW'.ownBlock = some b → vW.ownBlock = some b ∨ w.heap.size ≤ b
  newF : ∀ b, vF'.ownBlock = some b → vF.ownBlock = some b ∨ w.heap.size ≤ b
theorem Kept.refl (w : World) (p : Nat) (vW vF : Value) : Kept w w p vW vF vW vF := ⟨Nat.le_refl _, fun _ _ _ _ _ => rfl, fun _ h => .inl h, fun _ h => .inl h⟩
theorem Kept.trans {w w1 w2 : World} {p : Nat} {a b a1 b1 a2 b2 : Value} (h : Kept w w1 p a b a1 b1) (k : Kept w1 w2 p a1 b1 a2 b2) : Kept w w2 p a b a2 b2 := by
  refine ⟨Nat.le_trans h.size k.size, fun x hx hp hw hf => ?_, fun x hx => ?_, fun x hx => ?_⟩
  · rw [k.block x (Nat.lt_of_lt_of_le hx h.size) hp ?_ ?_, h.block x hx hp hw hf]
    · intro e
      rcases h.newW x e with e' | e'
      · exact hw e'
      · omega
    · intro e
      rcases h.newF x e with e' | e'
      · exact hf e'
      · omega
  · rcases k.newW x hx with e | e
    · exact h.newW x e
    · exact .inr (Nat.le_trans h.size e)
  · rcases k.newF x hx with e | e
    · exact h.newF x e
    · exact .inr (Nat.le_trans h.size e)
theorem Kept.below {w w' : World} (hb : Below w.heap.size w w') (p : Nat) (vW vF : Value) : Kept w w' p vW vF vW vF := ⟨hb.size, fun b h _ _ _ => hb.block b h, fun _ h => .inl h, fun _ h => .inl h⟩
theorem Kept.put {w : World} {p : Nat} (vW vF : Value) (i : Nat) (u : Value) : Kept w (w.setCell ⟨p, i, none⟩ u) p vW vF vW vF :=
  ⟨by simp [World.setCell], fun b _ hp _ _ => Below.heap_setCell w ⟨p, i, none⟩ u b hp, fun _ h => .inl h, fun _ h => .inl h⟩
theorem Kept.drew {w w' : World} {p : Nat} {a b a1 b1 : Value} (h : Kept w w' p a b a1 b1) : Kept w w'.drew p a b a1 b1 := ⟨h.size, h.block, h.newW, h.newF⟩
theorem Kept.grown {w w1 : World} {p : Nat} {vW vF : Value} (hg : w.grownBy w1 vW.ownBlock) : ∀ b, b < w.heap.size → b ≠ p → vW.ownBlock ≠ some b → vF.ownBlock ≠ some b → w1.heap[b]? = w.heap[b]? := fun b hb _ hw _ => hg.block b hb (Ne.symm hw)
end Go.Proofs.YtdpfoegcmngdfaaDoor
namespace Go.Proofs.YtdpfoegcmngdfaaDoor
open Go.RowKit
def UL (B : Nat) (w : World) (A : Option Addr) (l : List Nat) : Prop :=
  ∀ k n, l[k]? = some n → ∃ b o, A = some ⟨b, o, none⟩ ∧ B ≤ b ∧ b < w.heap.size ∧ w.cell? ⟨b, o + k, none⟩ = some (.int .u64 (n : Nat))
theorem UL.keep {B : Nat} {w w' : World} {A : Option Addr} {l : List Nat} (h : UL B w A l) (hb : Below w.heap.size w w') : UL B w' A l :=
  fun k n hk => let ⟨b, o, e1, h1, hlt, hc⟩ := h k n hk; ⟨b, o, e1, h1, Nat.lt_of_lt_of_le hlt hb.size, (hb.cell (p := ⟨b, o + k, none⟩) hlt).trans hc⟩
theorem UL.at_ {B : Nat} {w : World} {A : Option Addr} {l : List Nat} (h : UL B w A l) {k : Nat} (hk : k < l.length) : ∃ n b o, l[k]? = some n ∧ A = some ⟨b, o, none⟩ ∧ B ≤ b ∧ b < w.heap.size ∧ w.cell? ⟨b, o + k, none⟩ = some (.int .u64 (n : Nat)) := by
  obtain ⟨b, o, e, hb, hc⟩ := h k l[k] (List.getElem?_eq_getElem hk)
  exact ⟨_, b, o, List.getElem?_eq_getElem hk, e, hb, hc⟩
def Boxed (C p n : Nat) (vW vF : Value) (w : World) : Prop := C < w.heap.size ∧ C ≠ p ∧ vW.ownBlock ≠ some C ∧ vF.ownBlock ≠ some C ∧ w.cell? ⟨C, 0, none⟩ = some (.int .i64 (n : Nat))
theorem Boxed.kept {C p n : Nat} {a b a1 b1 : Value} {w w' : World} (h : Boxed C p n a b w) (k : Kept w w' p a b a1 b1) : Boxed C p n a1 b1 w' := by
  obtain ⟨h1, h2, h3, h4, h5⟩ := h
  refine ⟨Nat.lt_of_lt_of_le h1 k.size, h2, fun e => ?_, fun e => ?_, (World.cell?_of_block (a := ⟨C, 0, none⟩) (k.block C h1 h2 h3 h4)).trans h5⟩
  · rcases k.newW C e with e | e
    · exact h3 e
    · omega
  · rcases k.newF C e with e | e
    · exact h4 e
    · omega
end Go.Proofs.YtdpfoegcmngdfaaDoor
namespace Go.Proofs.YtdpfoegcmngdfaaDoor
open Go.RowKit
def LL (B : Nat) (w : World) (A : Option Addr) (ls : List (List Nat)) : Prop :=
  ∀ k l, ls[k]? = some l → ∃ b o Ak ck, A = some ⟨b, o, none⟩ ∧ B ≤ b ∧ b < w.heap.size ∧ w.cell? ⟨b, o + k, none⟩ = some (.slice Ak l.length ck) ∧ NL B w Ak l
theorem LL.keep {B : Nat} {w w' : World} {A : Option Addr} {ls : List (List Nat)} (h : LL B w A ls) (hb : Below w.heap.size w w') : LL B w' A ls :=
  fun k l hk => let ⟨b, o, Ak, ck, e1, h1, hlt, hc, hn⟩ := h k l hk; ⟨b, o, Ak, ck, e1, h1, Nat.lt_of_lt_of_le hlt hb.size, (hb.cell (p := ⟨b, o + k, none⟩) hlt).trans hc, hn.keep hb⟩
theorem LL.down {B C : Nat} {w : World} {A : Option Addr} {ls : List (List Nat)} (h : LL B w A ls) (hC : C ≤ B) : LL C w A ls :=
  fun k l hk => let ⟨b, o, Ak, ck, e1, h1, hlt, hc, hn⟩ := h k l hk; ⟨b, o, Ak, ck, e1, Nat.le_trans hC h1, hlt, hc, hn.down hC⟩
theorem LL.at_ {B : Nat} {w : World} {A : Option Addr} {ls : List (List Nat)} (h : LL B w A ls) {k : Nat} (hk : k < ls.length) : ∃ l b o Ak ck, ls[k]? = some l ∧ A = some ⟨b, o, none⟩ ∧ B ≤ b ∧ b < w.heap.size ∧ w.cell? ⟨b, o + k, none⟩ = some (.slice Ak l.length ck) ∧ NL B w Ak l := by
  obtain ⟨b, o, Ak, ck, e, hb⟩ := h k ls[k] (List.getElem?_eq_getElem hk)
  exact ⟨_, b, o, Ak, ck, List.getElem?_eq_getElem hk, e, hb⟩
theorem NL.put {B : Nat} {w : World} {A : Option Addr} {l : List Nat} (h : NL B w A l) {g i : Nat} {u : Value} (hg : g < B) : NL B (w.setCell ⟨g, i, none⟩ u) A l :=
  fun k n hk => let ⟨b, o, e1, h1, hlt, hc⟩ := h k n hk; ⟨b, o, e1, h1, by simpa [World.setCell] using hlt, (World.cell?_of_block (a := ⟨b, o + k, none⟩) (Below.heap_setCell w ⟨g, i, none⟩ u b (by simp; omega))).trans hc⟩
def LsInv (_C g : Nat) (ls : List (List Nat)) (k : Nat) (w : World) : Prop :=
  ∃ vs : List Value, vs.length = ls.length ∧ Cells w g vs ∧ ∀ j l, j < k → ls[j]? = some l → ∃ A c, vs[j]? = some (.slice A l.length c) ∧ NL (g + 1) w A l
theorem LsInv.keep {C g k : Nat} {ls : List (List Nat)} {w w' : World} (h : LsInv C g ls k w) (hb : Below w.heap.size w w') : LsInv C g ls k w' :=
  let ⟨vs, h1, h2, h3⟩ := h; ⟨vs, h1, h2.keep hb, fun j l hj hl => let ⟨A, c, e, hn⟩ := h3 j l hj hl; ⟨A, c, e, hn.keep hb⟩⟩
theorem LsInv.step {C g k c : Nat} {ls : List (List Nat)} {w : World} {l : List Nat} {A : Option Addr} (h : LsInv C g ls k w) (hk : ls[k]? = some l) (hn : NL (g + 1) w A l) : LsInv C g ls (k + 1) (w.setCell ⟨g, k, none⟩ (.slice A l.length c)) := by
  obtain ⟨vs, h1, h2, h3⟩ := h
  have hlt : k < ls.length := by
    rcases Nat.lt_or_ge k ls.length with h4 | h4
    · exact h4
    · rw [List.getElem?_eq_none h4] at hk; cases hk
  refine ⟨vs.set k (.slice A l.length c), by rw [List.length_set]; exact h1, h2.set k _ (by omega), fun j l' hj hl => ?_⟩
  by_cases e : j = k
  · subst e
    rw [hk] at hl
    injection hl with hl
    subst hl
    exact ⟨A, c, by rw [List.getElem?_set_self (by omega)], hn.put (Nat.lt_succ_self g)⟩
  · obtain ⟨A', c', e1, e2⟩ := h3 j l' (by omega) hl
    exact ⟨A', c', by rw [List.getElem?_set_ne (Ne.symm e)]; exact e1, e2.put (Nat.lt_succ_self g)⟩
theorem LsInv.done {C g k : Nat} {ls : List (List Nat)} {w : World} (h : LsInv C g ls k w) (hk : ls.length ≤ k) (hg : C ≤ g) : LL C w (some ⟨g, 0, none⟩) ls := by
  obtain ⟨vs, h1, h2, h3⟩ := h
  intro j l hl
  have hlt : j < ls.length := by
    rcases Nat.lt_or_ge j ls.length with h4 | h4
    · exact h4
    · rw [List.getElem?_eq_none h4] at hl; cases hl
  obtain ⟨A, c, e, hn⟩ := h3 j l (by omega) hl
  exact ⟨g, 0, A, c, rfl, hg, h2.lt, by rw [Nat.zero_add, h2.at_ j, e], hn.down (by omega)⟩
end Go.Proofs.YtdpfoegcmngdfaaDoor
namespace Go.Proofs.YtdpfoegcmngdfaaDoor
open Go.RowKit
def Row (w : World) (p : Nat) (T : TypeId) (vs : List Value) : Prop := w.heap[p]? = some (.cells vs.toArray T (0, 0))
theorem Row.cells {w : World} {p : Nat} {T : TypeId} {vs : List Value} (h : Row w p T vs) : Cells w p vs := by simpa using Cells.of_row h
theorem Row.set {w : World} {p : Nat} {T : TypeId} {vs : List Value} (h : Row w p T vs) (i : Nat) (u : Value) : Row (w.setCell ⟨p, i, none⟩ u) p T (vs.set i u) := by
  unfold Row at *
  rw [setCell_eq_setRow w p i vs.toArray T (0, 0) u h, setRow_heap w p vs.toArray _ T (0, 0) h]
  simp
theorem Row.keep {w w' : World} {p : Nat} {T : TypeId} {vs : List Value} (h : Row w p T vs) (hb : Below w.heap.size w w') : Row w' p T vs := by
  have hp := h.cells.lt
  unfold Row at *
  rw [hb.block p hp, h]
theorem Row.new (w : World) (T : TypeId) (vs : List Value) : Row (w.alloc (.cells vs.toArray T)) w.heap.size T vs := heap_new w _
end Go.Proofs.YtdpfoegcmngdfaaDoor
namespace Go.Proofs.YtdpfoegcmngdfaaDoor
open Go.RowKit
theorem own_below {w w' : World} {C n : Nat} {e : TypeId} {v : Value} {xs : List Value} (h : w.ownsRow C e 1 v n xs) (hb : Below w.heap.size w w') : w'.ownsRow C e 1 v n xs :=
  h.kept (row := none) ⟨hb.os, hb.tape, hb.output, hb.size, fun k hk _ => hb.block k hk⟩ (by cases v.ownBlock <;> simp)
theorem own_down' {w : World} {B C : Nat} {e : TypeId} {v : Value} {n : Nat} {xs : List Value} (h : w.ownsRow B e 1 v n xs) (hC : C ≤ B) : w.ownsRow C e 1 v n xs :=
  ⟨h.1, h.2.imp id fun ⟨g, cap, cur, e, hg, r⟩ => ⟨g, cap, cur, e, Nat.le_trans hC hg, r⟩⟩
end Go.Proofs.YtdpfoegcmngdfaaDoor
namespace Go.Proofs.YtdpfoegcmngdfaaDoor
open Go.RowKit
theorem cast_len (es : List (Nat × Nat)) : (cast es).length = es.length := by unfold cast; simp
theorem EL.len {w : World} {A : Option Addr} {m : Nat} {es : List (Nat × Nat)} (h : EL w A m (cast es)) : es.length = m := by rw [← cast_len]; exact h.1
end Go.Proofs.YtdpfoegcmngdfaaDoor
namespace Go.Proofs.YtdpfoegcmngdfaaDoor
open Go.RowKit
def IL (w : World) (A : Option Addr) (l : List Int) : Prop :=
  ∀ k x, l[k]? = some x → ∃ b o, A = some ⟨b, o, none⟩ ∧ b < w.heap.size ∧ w.cell? ⟨b, o + k, none⟩ = some (.int .i64 x)
theorem IL.keep {w w' : World} {A : Option Addr} {l : List Int} (h : IL w A l) (hb : Below w.heap.size w w') : IL w' A l :=
  fun k x hk => let ⟨b, o, e1, hlt, hc⟩ := h k x hk; ⟨b, o, e1, Nat.lt_of_lt_of_le hlt hb.size, (hb.cell (p := ⟨b, o + k, none⟩) hlt).trans hc⟩
def zs (l : List Nat) : List Int := l.map Int.ofNat
theorem NL.il {B : Nat} {w : World} {A : Option Addr} {l : List Nat} (h : NL B w A l) : IL w A (zs l) := by
  intro k x hk
  unfold zs at hk
  rw [List.getElem?_map] at hk
  cases e : l[k]? with
  | none => rw [e] at hk; cases hk
  | some n =>
    rw [e] at hk
    injection hk with hk
    obtain ⟨b, o, h1, _, h2, h3⟩ := h k n e
    exact ⟨b, o, h1, h2, by rw [h3, ← hk]; rfl⟩
theorem IL.flat {w : World} {A : Option Addr} {l : List Int} (h : IL w A l) (hl : 0 < l.length) : ∃ b o, A = some ⟨b, o, none⟩ ∧ ∀ j, j < l.length → w.cell? ⟨b, o + j, none⟩ = some (.int .i64 (l.getD j 0)) := by
  obtain ⟨b, o, e, _, _⟩ := h 0 _ (List.getElem?_eq_getElem hl)
  refine ⟨b, o, e, fun j hj => ?_⟩
  obtain ⟨b', o', e', _, hc⟩ := h j _ (List.getElem?_eq_getElem hj)
  rw [e] at e'
  injection e' with e'
  injection e' with e1 e2
  subst e1 e2
  rw [hc]
  simp [List.getD, hj]
end Go.Proofs.YtdpfoegcmngdfaaDoor
namespace Go.Proofs.YtdpfoegcmngdfaaDoor
open Go.RowKit
theorem IL.at_ {w : World} {A : Option Addr} {l : List Int} (h : IL w A l) {k : Nat} (hk : k < l.length) : ∃ x b o, l[k]? = some x ∧ A = some ⟨b, o, none⟩ ∧ b < w.heap.size ∧ w.cell? ⟨b, o + k, none⟩ = some (.int .i64 x) := by
  obtain ⟨b, o, e, hb⟩ := h k l[k] (List.getElem?_eq_getElem hk)
  exact ⟨_, b, o, List.getElem?_eq_getElem hk, e, hb⟩
end Go.Proofs.YtdpfoegcmngdfaaDoor
namespace Go.Proofs.YtdpfoegcmngdfaaDoor
open Go.RowKit
def numsN (n : Nat) (f : Nat → Int) : List Value := (List.range n).map fun i => Value.int .i64 (f i)
end Go.Proofs.YtdpfoegcmngdfaaDoor
namespace Go.Proofs.YtdpfoegcmngdfaaDoor
open Go.RowKit
def SLv (lo : Nat) (w : World) (o : Option (List Nat)) (v : Value) : Prop :=
  (o = none ∧ v = .slice none 0 0) ∨ ∃ l g c, o = some l ∧ v = .slice (some ⟨g, 0, none⟩) l.length c ∧ NL lo w (some ⟨g, 0, none⟩) l ∧ l.length ≤ c
theorem SLv.keep {lo : Nat} {w w' : World} {o : Option (List Nat)} {v : Value} (h : SLv lo w o v) (hb : Below w.heap.size w w') : SLv lo w' o v := by
  rcases h with h | ⟨l, g, c, h1, h2, h3, h4⟩
  · exact .inl h
  · exact .inr ⟨l, g, c, h1, h2, h3.keep hb, h4⟩
end Go.Proofs.YtdpfoegcmngdfaaDoor
namespace Go.Proofs.YtdpfoegcmngdfaaDoor
open Go.RowKit
structure Pass (l : List Nat) (del : Nat → Bool) (j : Nat) (l' : List Nat) (i : Nat) : Prop where
  len : l'.length = l.length
  lt : i < j
  eq : i = ((l.take j).filter fun x => !del x).length
  took : l'.take i = (l.take j).filter fun x => !del x
  rest : ∀ k, j ≤ k → l'[k]? = l[k]?
theorem Pass.keep {l l' : List Nat} {del : Nat → Bool} {j i x : Nat} (h : Pass l del j l' i) (hx : l[j]? = some x) (hd : del x = false) (hj : j < l.length) : Pass l del (j + 1) (l'.set i x) (i + 1) := by
  have hf : ((l.take (j + 1)).filter fun x => !del x) = ((l.take j).filter fun x => !del x) ++ [x] := by
    rw [List.take_add_one, hx, List.filter_append]
    simp [hd]
  have hi := h.lt
  have hl := h.len
  refine ⟨by simpa using h.len, by omega, ?_, ?_, fun k hk => ?_⟩
  · rw [hf, List.length_append, ← h.eq]; rfl
  · rw [hf, ← h.took, List.take_add_one, List.take_set_of_le (Nat.le_refl _), List.getElem?_set_self (by omega)]
    rfl
  · rw [List.getElem?_set_ne (by omega)]
    exact h.rest k (by omega)
end Go.Proofs.YtdpfoegcmngdfaaDoor
namespace Go.Proofs.YtdpfoegcmngdfaaDoor
open Go.RowKit
theorem Cells.keepB {B : Nat} {w w' : World} {p : Nat} {vs : List Value} (h : Cells w p vs) (hb : Below B w w') (hp : p < B) : Cells w' p vs :=
  ⟨fun i => (hb.cell (p := ⟨p, i, none⟩) hp).trans (h.at_ i), fun i => (hb.frozen (p := ⟨p, i, none⟩) hp).trans (h.fz i), Nat.lt_of_lt_of_le h.lt hb.size⟩
end Go.Proofs.YtdpfoegcmngdfaaDoor
namespace Go.Proofs.YtdpfoegcmngdfaaDoor
open Go.RowKit
theorem nl_one (w : World) (p n : Nat) (hp : p < w.heap.size) (h : w.cell? ⟨p, 0, none⟩ = some (.int .i64 (n : Nat))) : NL 0 w (some ⟨p, 0, none⟩) [n] := fun k x hk => by
  match k, hk with
  | 0, hk => simp at hk; subst hk; exact ⟨p, 0, rfl, Nat.zero_le _, hp, h⟩
end Go.Proofs.YtdpfoegcmngdfaaDoor
namespace Go.Proofs.YtdpfoegcmngdfaaDoor
open Go.RowKit
theorem load_graph (w : World) (p : Nat) (x y : Value) (h : Cells w p [x, y]) : (loadVar 24 ⟨p, 0, none⟩).run Tryd.prog w = .ok (.agg #[x, y]) w := by
  have h0 := h.at_ 0
  have h1 := h.at_ 1
  simp only [List.getElem?_cons_zero, List.getElem?_cons_succ] at h0 h1
  go_simp
theorem ret_graph {fn : Func} {p u : Tmp} (hf : fn.results = #[.cell p 24, .tmp u]) (tmps : Array Value) (w : World) (g : Nat) (x y : Value) (hp : tmps.getD p undef = .pointer (some ⟨g, 0, none⟩)) (h : Cells w g [x, y]) :
    (results fn tmps).run Tryd.prog w = .ok (.tuple #[.agg #[x, y], tmps.getD u undef]) w := by
  rw [results_cell_tmp hf, hp]
  simp [asAddr, load_graph w g x y h]
end Go.Proofs.YtdpfoegcmngdfaaDoor
namespace Go.Proofs.YtdpfoegcmngdfaaDoor
open Go.RowKit
def fewG (n : Int) (m : Nat) : Bool := decide (m ≤ 24) && (decide (n ≤ 8) || decide (64 < n))
end Go.Proofs.YtdpfoegcmngdfaaDoor
namespace Go.Proofs.YtdpfoegcmngdfaaDoor
open Go.RowKit
def flat (es : List (Int × Int)) : List Value := es.flatMap fun e => [.int .i64 e.1, .int .i64 e.2]
theorem flat_at : ∀ {es : List (Int × Int)} {k : Nat} {e : Int × Int}, es[k]? = some e → (flat es)[k * 2]? = some (.int .i64 e.1) ∧ (flat es)[k * 2 + 1]? = some (.int .i64 e.2)
  | [], k, e, h => by simp at h
  | x :: l, 0, e, h => by simp at h; subst h; simp [flat]
  | x :: l, k + 1, e, h => by
    have h' : l[k]? = some e := by simpa using h
    obtain ⟨h1, h2⟩ := flat_at h'
    have e1 : flat (x :: l) = .int .i64 x.1 :: .int .i64 x.2 :: flat l := rfl
    rw [e1, show (k + 1) * 2 = k * 2 + 1 + 1 by omega]
    exact ⟨by simpa using h1, by simpa using h2⟩
theorem EL.other {w : World} {A : Option Addr} {n : Nat} {es : List (Int × Int)} (h : EL w A n es) {q : Nat} (hq : ∀ b o, A = some ⟨b, o, none⟩ → b ≠ q) (i : Nat) (u : Value) : EL (w.setCell ⟨q, i, none⟩ u) A n es :=
  ⟨h.1, fun k e hk => by
    obtain ⟨b, o, e1, hb, c0, c1⟩ := h.2 k e hk
    have hne := hq b o e1
    refine ⟨b, o, e1, by simpa using hb, ?_, ?_⟩
    · rw [World.cell?_of_block (Below.heap_setCell w ⟨q, i, none⟩ u b hne)]; exact c0
    · rw [World.cell?_of_block (Below.heap_setCell w ⟨q, i, none⟩ u b hne)]; exact c1⟩
end Go.Proofs.YtdpfoegcmngdfaaDoor
namespace Go.Proofs.YtdpfoegcmngdfaaDoor
open Go.RowKit
theorem eql_edges_nil (w : World) (a : Option Addr) (n c : Nat) : (binOp .eql 22 (.slice a n c) (.slice none 0 0)).run Tryd.prog w = .ok (.bool a.isNone) w := Lib.run_eql_slice_nil w 22 75 a n c 0 0 Tryd.underlying22
theorem info_edge : (Tryd.prog.info? 75).map (fun i => (i.zero, i.size, i.bytes)) = some (some (.agg #[.int .i64 0, .int .i64 0]), 2, 16) := by kernel_rfl
theorem add_at (b o j : Nat) : (⟨b, o, none⟩ : Addr).add j = ⟨b, o + j, none⟩ := by
  unfold Addr.add
  split
  · rename_i h; subst h; rfl
  · rfl
theorem flat_len : ∀ l : List (Int × Int), (flat l).length = l.length * 2
  | [] => rfl
  | x :: l => by rw [show flat (x :: l) = .int .i64 x.1 :: .int .i64 x.2 :: flat l from rfl]; simp [flat_len l]; omega
theorem EL.flat {w : World} {ad : Addr} {n : Nat} {es : List (Int × Int)} (h : EL w (some ad) n es) : ∀ j u, (flat es)[j]? = some u → w.cell? (ad.add j) = some u := by
  intro j u hu
  obtain ⟨hl, hc⟩ := h
  have hjl : j < es.length * 2 := by
    rcases Nat.lt_or_ge j (es.length * 2) with h1 | h1
    · exact h1
    · rw [List.getElem?_eq_none (by rw [flat_len]; omega)] at hu; cases hu
  obtain ⟨q, hq⟩ : ∃ q, j = q * 2 ∨ j = q * 2 + 1 := ⟨j / 2, by omega⟩
  have hj : q < es.length := by omega
  obtain ⟨e, he⟩ : ∃ e, es[q]? = some e := ⟨_, List.getElem?_eq_getElem hj⟩
  obtain ⟨b, o, e1, _, c0, c1⟩ := hc q e he
  obtain ⟨f0, f1⟩ := flat_at he
  injection e1 with e1
  subst e1
  rcases hq with rfl | rfl
  · rw [f0] at hu
    injection hu with hu
    subst hu
    rw [add_at]; exact c0
  · rw [f1] at hu
    injection hu with hu
    subst hu
    rw [add_at]; exact c1
end Go.Proofs.YtdpfoegcmngdfaaDoor
namespace Go.Proofs.YtdpfoegcmngdfaaDoor
open Go.RowKit
theorem UL.other {B : Nat} {w : World} {A : Option Addr} {l : List Nat} (h : UL B w A l) {q : Nat} (hq : q < B) (i : Nat) (u : Value) : UL B (w.setCell ⟨q, i, none⟩ u) A l := fun k n hk => by
  obtain ⟨b, o, e, h1, h2, h3⟩ := h k n hk
  exact ⟨b, o, e, h1, by simpa [World.setCell] using h2, (World.cell?_of_block (Below.heap_setCell w ⟨q, i, none⟩ u b (by simp; omega))).trans h3⟩
end Go.Proofs.YtdpfoegcmngdfaaDoor
namespace Go.Proofs.YtdpfoegcmngdfaaDoor
open Go.RowKit
def OutT (C : Nat) (w : World) (v : Value) (k n : Nat) (f : Nat → Nat → Int) : Prop :=
  ∃ vs, w.ownsRow C 25 1 v k vs ∧ ∀ a, a < k → ∃ p, vs[a]? = some (.slice (some ⟨p, 0, none⟩) n n) ∧ Row w p 3 (numsN n (f a))
theorem row_grown {C k p : Nat} {w w1 : World} {v : Value} {xs vs : List Value} {o : Obj} (hr : Row w p 3 vs) (hown : w.ownsRow C 25 1 v k xs) (hg : (w.alloc o).grownBy w1 v.ownBlock) : Row w1 p 3 vs := by
  have hp := hr.cells.lt
  unfold Row at hr ⊢
  rw [hg.block p (by simp; omega) ?_, Below.heap_alloc _ _ _ hp, hr]
  intro e
  rcases hown.2 with ⟨rfl, _⟩ | ⟨g, cap, cur, rfl, _, hh, _⟩
  · cases e
  · simp only [Value.ownBlock, Option.some.injEq] at e
    subst e
    rw [hr] at hh
    injection hh with hh
    injection hh with _ h2
    exact absurd h2 (by decide)
theorem OutT.keep {C k n : Nat} {w w' : World} {v : Value} {f : Nat → Nat → Int} (h : OutT C w v k n f) (hb : Below w.heap.size w w') : OutT C w' v k n f :=
  let ⟨vs, h1, h2⟩ := h; ⟨vs, own_below h1 hb, fun a ha => let ⟨p, e, hr⟩ := h2 a ha; ⟨p, e, hr.keep hb⟩⟩
theorem OutT.down {B C k n : Nat} {w : World} {v : Value} {f : Nat → Nat → Int} (h : OutT B w v k n f) (hC : C ≤ B) : OutT C w v k n f := let ⟨vs, h1, h2⟩ := h; ⟨vs, own_down' h1 hC, h2⟩
theorem OutT.at_ {C k n : Nat} {w : World} {v : Value} {f : Nat → Nat → Int} (h : OutT C w v k n f) : ∃ A c, v = .slice A k c ∧ ∀ a, a < k → ∃ g p, A = some ⟨g, 0, none⟩ ∧ w.cell? ⟨g, a, none⟩ = some (.slice (some ⟨p, 0, none⟩) n n) ∧ Cells w p (numsN n (f a)) := by
  obtain ⟨vs, h1, h2⟩ := h
  rcases h1.2 with ⟨rfl, h0⟩ | ⟨g, cap, cur, rfl, hg, hh, hnc, hcm, hcs, hx⟩
  · exact ⟨none, 0, by rw [h0], fun a ha => by omega⟩
  · refine ⟨_, cap, rfl, fun a ha => ?_⟩
    obtain ⟨p, e, hr⟩ := h2 a ha
    refine ⟨g, p, rfl, ?_, hr.cells⟩
    rw [cell_of_row _ _ _ _ _ _ hh, ← Array.getElem?_toList, ← e, ← hx, List.getElem?_take_of_lt (by omega)]
end Go.Proofs.YtdpfoegcmngdfaaDoor
namespace Go.Proofs.YtdpfoegcmngdfaaDoor
open Go.RowKit
def RowL (w : World) (A : Option Addr) (l : List Nat) : Prop := l = [] ∨ ∃ g vs, A = some ⟨g, 0, none⟩ ∧ Row w g 3 vs ∧ ∀ (k n : Nat), l[k]? = some n → vs[k]? = some (.int .i64 (n : Nat))
theorem RowL.of_own {C : Nat} {w : World} {v : Value} {l : List Nat} (h : w.ownsRow C 3 1 v l.length (nats l)) : ∃ A c, v = .slice A l.length c ∧ RowL w A l := by
  rcases h.2 with ⟨rfl, h0⟩ | ⟨g, cap, cur, rfl, hg, hh, hnc, hcm, hcs, hx⟩
  · exact ⟨none, 0, by rw [h0], .inl (List.eq_nil_of_length_eq_zero h0)⟩
  · refine ⟨_, cap, rfl, .inr ⟨g, cur.toList, rfl, by simpa [Row] using hh, fun k n hk => ?_⟩⟩
    have hk2 : k < l.length := by
      rcases Nat.lt_or_ge k l.length with h1 | h1
      · exact h1
      · rw [List.getElem?_eq_none h1] at hk; cases hk
    have e1 : (cur.toList.take (l.length * 1))[k]? = cur.toList[k]? := List.getElem?_take_of_lt (by omega)
    rw [← e1, hx]
    unfold nats
    rw [List.getElem?_map, hk]
    rfl
theorem RowL.keep {w w' : World} {A : Option Addr} {l : List Nat} (h : RowL w A l) (hb : Below w.heap.size w w') : RowL w' A l :=
  h.imp id fun ⟨g, vs, e, hr, hc⟩ => ⟨g, vs, e, hr.keep hb, hc⟩
theorem RowL.grown {C k : Nat} {w w1 : World} {v : Value} {xs : List Value} {o : Obj} {A : Option Addr} {l : List Nat} (h : RowL w A l) (hown : w.ownsRow C 25 1 v k xs) (hg : (w.alloc o).grownBy w1 v.ownBlock) : RowL w1 A l :=
  h.imp id fun ⟨g, vs, e, hr, hc⟩ => ⟨g, vs, e, row_grown hr hown hg, hc⟩
theorem RowL.nl {w : World} {A : Option Addr} {l : List Nat} (h : RowL w A l) : NL 0 w A l := fun k n hk => by
  rcases h with rfl | ⟨g, vs, rfl, hr, hc⟩
  · simp at hk
  · exact ⟨g, 0, rfl, Nat.zero_le _, hr.cells.lt, by rw [hr.cells.at_, Nat.zero_add]; exact hc k n hk⟩
def OutN (C : Nat) (w : World) (v : Value) (ls : List (List Nat)) : Prop :=
  ∃ vs, w.ownsRow C 25 1 v ls.length vs ∧ ∀ (k : Nat) (l : List Nat), ls[k]? = some l → ∃ A c, vs[k]? = some (Value.slice A l.length c) ∧ RowL w A l
theorem OutN.nil (C : Nat) (w : World) : OutN C w (.slice none 0 0) [] := ⟨[], World.ownsRow_nil _ _ _ _, fun k l h => by simp at h⟩
theorem OutN.keep {C : Nat} {w w' : World} {v : Value} {ls : List (List Nat)} (h : OutN C w v ls) (hb : Below w.heap.size w w') : OutN C w' v ls :=
  let ⟨vs, h1, h2⟩ := h; ⟨vs, own_below h1 hb, fun k l hk => let ⟨A, c, e, hr⟩ := h2 k l hk; ⟨A, c, e, hr.keep hb⟩⟩
theorem OutN.down {B C : Nat} {w : World} {v : Value} {ls : List (List Nat)} (h : OutN B w v ls) (hC : C ≤ B) : OutN C w v ls := let ⟨vs, h1, h2⟩ := h; ⟨vs, own_down' h1 hC, h2⟩
theorem OutN.push {C : Nat} {w w1 : World} {v v' : Value} {ls : List (List Nat)} {vs : List Value} {l : List Nat} {A : Option Addr} {c : Nat} {o : Obj} (hown : w.ownsRow C 25 1 v ls.length vs) (hvs : ∀ (k : Nat) (l : List Nat), ls[k]? = some l → ∃ A c, vs[k]? = some (Value.slice A l.length c) ∧ RowL w A l) (hl : RowL w A l)
    (hown' : w1.ownsRow C 25 1 v' (ls.length + 1) (vs ++ [.slice A l.length c])) (hg : (w.alloc o).grownBy w1 v.ownBlock) : OutN C w1 v' (ls ++ [l]) := by
  have hvl : vs.length = ls.length := by have := hown.1; omega
  refine ⟨_, by rw [List.length_append]; exact hown', fun k x hk => ?_⟩
  rcases Nat.lt_or_ge k ls.length with h1 | h1
  · rw [List.getElem?_append_left h1] at hk
    obtain ⟨A', c', e, hr⟩ := hvs k x hk
    exact ⟨A', c', by rw [List.getElem?_append_left (by omega)]; exact e, hr.grown hown hg⟩
  · rw [List.getElem?_append_right h1] at hk
    have hk0 : k - ls.length = 0 := by
      rcases Nat.eq_zero_or_pos (k - ls.length) with h2 | h2
      · exact h2
      · rw [List.getElem?_eq_none (by rw [List.length_singleton]; omega)] at hk; cases hk
    rw [hk0] at hk
    simp at hk
    subst hk
    refine ⟨A, c, ?_, hl.grown hown hg⟩
    rw [List.getElem?_append_right (by omega), show k - vs.length = 0 by omega]
    rfl
theorem OutN.ll {C : Nat} {w : World} {v : Value} {ls : List (List Nat)} (h : OutN C w v ls) : ∃ A c, v = .slice A ls.length c ∧ LL 0 w A ls := by
  obtain ⟨vs, h1, h2⟩ := h
  rcases h1.2 with ⟨rfl, h0⟩ | ⟨g, cap, cur, rfl, hg, hh, hnc, hcm, hcs, hx⟩
  · have : ls = [] := List.eq_nil_of_length_eq_zero h0
    subst this
    exact ⟨none, 0, rfl, fun k l hk => by simp at hk⟩
  · refine ⟨_, cap, rfl, fun k l hk => ?_⟩
    obtain ⟨A, c, e, hr⟩ := h2 k l hk
    have hk2 : k < ls.length := by
      rcases Nat.lt_or_ge k ls.length with h1 | h1
      · exact h1
      · rw [List.getElem?_eq_none h1] at hk; cases hk
    refine ⟨g, 0, A, c, rfl, Nat.zero_le _, ?_, ?_, hr.nl⟩
    · rcases Nat.lt_or_ge g w.heap.size with h1 | h1
      · exact h1
      · rw [Array.getElem?_eq_none h1] at hh; cases hh
    · rw [cell_of_row _ _ _ _ _ _ hh, Nat.zero_add, ← Array.getElem?_toList, ← e, ← hx, List.getElem?_take_of_lt (by omega)]
end Go.Proofs.YtdpfoegcmngdfaaDoor
namespace Go.Proofs.YtdpfoegcmngdfaaDoor
open Go.RowKit
theorem IL.take {w : World} {A : Option Addr} {l : List Nat} (h : IL w A (zs l)) (k : Nat) : IL w A (zs (l.take k)) := by
  intro j x hj
  refine h j x ?_
  unfold zs at hj ⊢
  rw [List.map_take] at hj
  rcases Nat.lt_or_ge j k with hk | hk
  · rw [List.getElem?_take_of_lt hk] at hj; exact hj
  · rw [List.getElem?_take_eq_none hk] at hj; cases hj
end Go.Proofs.YtdpfoegcmngdfaaDoor
