/- The nodes of a set, as a list. -/
import Derived.Test.YthocdmlacfejkaaDoorSet
import Derived.Test.YthocdmlacfejkaaDoorShelf
namespace Go.Proofs.YthocdmlacfejkaaDoor
open Go.RowKit
theorem size_of_cell {w : World} {b o : Nat} {v : Value} (h : w.cell? ⟨b, o, none⟩ = some v) : b < w.heap.size := World.block_lt_of_cell? w ⟨b, o, none⟩ h
abbrev TzG : Nat := Tryd.lays7n29_ren.g 1
/-- The table of TrailingZeros64 lies as it was laid. -/
def Good (w : World) : Prop := TabAt TzG Lib.deBruijn64tab w
theorem Good.size {w : World} (h : Good w) : TzG < w.heap.size := size_of_cell (h 0 (by decide))
theorem Good.below {B : Nat} {w w' : World} (h : Good w) (hb : Below B w w') (hB : TzG < B) : Good w' := fun j hj => by
  rw [hb.cell (p := ⟨TzG, j, none⟩) hB]; exact h j hj
theorem tz_any (x : Nat) (hx : x < 18446744073709551616) (w : World) (ht : Good w) :
    Calls Tryd.prog 113 #[.int .u64 x] w fun e w' => e = .returned (.int .i64 (Lib.ctz 64 x : Nat)) ∧ w = w' :=
  (Tryd.bits_TrailingZeros64 x hx w (fun _ => ht)).mono fun _e _w' ⟨h1, h2⟩ => ⟨h1, h2.symm⟩
/-- Numbers as ints. -/
def nats (l : List Nat) : List Value := l.map fun n => Value.int .i64 (n : Nat)
theorem nats_snoc (l : List Nat) (n : Nat) : nats (l ++ [n]) = nats l ++ [.int .i64 (n : Nat)] := by unfold nats; simp
theorem nats_len (l : List Nat) : (nats l).length = l.length := by unfold nats; simp
theorem info_int : (Tryd.prog.info? 3).map (fun i => (i.zero, i.size, i.bytes)) = some (some (.int .i64 0), 1, 8) := by kernel_rfl
theorem own_ge {w : World} {base : Nat} {e : TypeId} {size n : Nat} {v : Value} {xs : List Value} (h : w.ownsRow base e size v n xs) {k : Nat} (hk : v.ownBlock = some k) : base ≤ k := by
  rcases h.2 with ⟨rfl, _⟩ | ⟨g, cap, cur, rfl, hg, _⟩
  · simp [Value.ownBlock] at hk
  · simp [Value.ownBlock] at hk; omega
def ListInv (w : World) (s0 : Nat) (s v : Value) (wr : World) : Prop :=
  ∃ (x : Nat) (l : List Nat), s = .int .u64 x ∧ x < 18446744073709551616 ∧ l ++ bitsOf x = bitsOf s0 ∧ wr.ownsRow w.heap.size 3 1 v l.length (nats l) ∧ Below w.heap.size w wr
theorem list_step {w wr w1 : World} {s0 x : Nat} {l : List Nat} {u v' : Value} (h0 : x ≠ 0) (hx : x < 18446744073709551616) (hl : l ++ bitsOf x = bitsOf s0)
    (hown : wr.ownsRow w.heap.size 3 1 u l.length (nats l)) (hown' : w1.ownsRow w.heap.size 3 1 v' (l.length + 1) (nats l ++ [.int .i64 (Lib.ctz 64 x : Nat)]))
    (hgrow : (wr.alloc (.cells #[.int .i64 (Lib.ctz 64 x : Nat)] 3)).grownBy w1 u.ownBlock) (hbel : Below w.heap.size w wr) : ListInv w s0 (.int .u64 ((x &&& (x - 1) : Nat) : Int)) v' w1 := by
  refine ⟨x &&& (x - 1), l ++ [Lib.ctz 64 x], rfl, Nat.lt_of_le_of_lt Nat.and_le_left hx, ?_, ?_, (hbel.alloc hbel.size _).grown hgrow (by simp; have := hbel.size; omega) (fun k hk => own_ge hown hk)⟩
  · rw [List.append_assoc, ← hl, bits_low h0 hx]; rfl
  · rw [nats_snoc, List.length_append]; exact hown'
theorem list_done {wr : World} {B s : Nat} {l : List Nat} {v : Value} (hl : l ++ bitsOf 0 = bitsOf s) (hown : wr.ownsRow B 3 1 v l.length (nats l)) : wr.ownsRow B 3 1 v (bitsOf s).length (nats (bitsOf s)) := by
  rw [bitsOf_zero, List.append_nil] at hl
  rw [← hl]
  exact hown
theorem list_less {x : Nat} (h0 : x ≠ 0) : x &&& (x - 1) < x := Nat.lt_of_le_of_lt Nat.and_le_right (by omega)
theorem u64_neq (x : Nat) (h : x ≠ 0) : ((x : Int) != 0) = true := by simp; omega
set_option maxRecDepth 100000 in
set_option maxHeartbeats 2000000 in
theorem list_any (s : Nat) (w : World) (hs : s < 18446744073709551616) (hw : Good w) :
    Calls Tryd.prog 81 #[.int .u64 s] w fun e w' => ∃ v, e = .returned v ∧ w'.ownsRow w.heap.size 3 1 v (bitsOf s).length (nats (bitsOf s)) ∧ Below w.heap.size w w' := by
  obtain ⟨i0, hi, hz0, hz1, hz2⟩ := info_parts info_int
  have Hw := Lib.hid (fun w' (h : Below w.heap.size w w') => hw.below h hw.size)
  have hb0 := bitsOf_len s
  clear hw
  go_enter Tryd.func81, Tryd.ntmps81
  go_wp2_with fail
  refine (ones_any s _ hs).mono ?_
  rintro e w1 ⟨⟨c, hc, rfl⟩, rfl⟩
  go_wp2_with (at_make; refine wpList_make_own _ rfl _ _ 50 rfl w.heap.size 3 i0 (.int .i64 0) 1 Tryd.underlying50 hi hz0 hz1 .i64 .i64 (c : Int) c rfl rfl rfl (by rw [hz2]; omega) (by unfold maxLen; omega) (Nat.le_refl _) ?_)
  intro w1 hown hgr
  have Hown := Lib.hid hown
  have Hb := Lib.hid ((Below.refl w.heap.size w).grown hgr (Nat.le_refl _) (by simp))
  clear hown hgr
  go_wp2_with fail
  go_loopw [0, 3] (fun sv v wr => ListInv w s sv v wr) (fun sv _ _ => (intOf sv).toNat)
  case atStart => exact ⟨s, [], rfl, hs, rfl, Hown.out, Hb.out⟩
  case round =>
    obtain ⟨x, l, rfl, hx, hl, hown, hbel⟩ := hrel
    have hlen : l.length ≤ 64 := by
      have h1 := hb0
      rw [← hl, List.length_append] at h1
      omega
    have Hl := Lib.hid hl
    have Hown := Lib.hid hown
    have Hbel := Lib.hid hbel
    have hsz := hbel.size
    clear hl hown hbel
    by_cases h0 : x = 0
    · subst h0
      have Hf := Lib.hid (list_done Hl.out Hown.out)
      go_wp2
      go_ret
      exact ⟨_, rfl, Hf.out, Hbel.out⟩
    · have h1 := u64_neq x h0
      have HL := Lib.hid (list_less h0)
      have H0 := Lib.hid h0
      have e1 : IntKind.u64.wrap ((x : Int) - 1) = ((x - 1 : Nat) : Int) := by rw [IntKind.wrap_u64]; omega
      have e2 : bits .and .u64 (x : Int) ((x - 1 : Nat) : Int) = ((x &&& (x - 1) : Nat) : Int) := bits_and_u64_nat x (x - 1) hx (by omega)
      clear h0
      go_wp2_with fail
      refine (tz_any x hx _ (Hw.out _ Hbel.out)).mono ?_
      rintro e w2 ⟨rfl, rfl⟩
      go_wp2_with (at_builtin; refine wpList_append_own _ rfl _ _ 50 rfl w.heap.size 3 i0 (.int .i64 0) 1 8 Tryd.underlying50 hi hz0 hz1 hz2 rfl (by decide) _ _ _ rfl (Hown.out.alloc _) ⟨wr.heap.size, 0, none⟩ 1 1 [.int .i64 (Lib.ctz 64 x : Nat)] rfl rfl ?c1 ?c2 ?c3 ?c4 ?c5 ?_)
      case c1 =>
        intro k u hu
        match k, hu with
        | 0, hu => simp at hu; subst hu; simp [Addr.add]
      case c2 => intro u hu; simp at hu; subst hu; rfl
      case c3 => unfold maxLen; omega
      case c4 => omega
      case c5 => simp; omega
      intro v' w3 hown' hgrow _
      have Hfin := Lib.hid (list_step H0.out hx Hl.out Hown.out hown' hgrow Hbel.out)
      clear hown' hgrow
      go_wp2
      go_roundw
      case rel => exact Hfin.out
      case measure => simp only [intOf]; have := HL.out; omega
end Go.Proofs.YthocdmlacfejkaaDoor
