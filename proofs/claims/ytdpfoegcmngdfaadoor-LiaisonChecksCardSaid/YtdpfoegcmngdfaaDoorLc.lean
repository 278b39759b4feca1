/- Liaisons: sets of nodes. -/
import Derived.Test.YtdpfoegcmngdfaaDoorLa
namespace Go.Proofs.YtdpfoegcmngdfaaDoor
open Go.RowKit
theorem single_any (n : Nat) (w : World) (hn : n < 64) :
    Calls Tryd.prog 56 #[.int .i64 n] w fun e w' => e = .returned (.int .u64 (sing n : Nat)) ∧ w = w' := by
  have hb := Lib.hid (sing_wrap hn)
  go_enter Tryd.func56, Tryd.ntmps56
  go_wp2
  go_ret
  exact ⟨ret_int hb.out, rfl⟩
theorem has_any (s n : Nat) (w : World) (hn : n < 64) (hs : s < 18446744073709551616) :
    Calls Tryd.prog 55 #[.int .u64 s, .int .i64 n] w fun e w' => e = .returned (.bool (s.testBit n)) ∧ w = w' := by
  have hb := Lib.hid (has_bit s n hn hs)
  go_enter Tryd.func55, Tryd.ntmps55
  go_wp2_with fail
  refine (single_any _ _ hn).mono ?_
  rintro e w' ⟨rfl, rfl⟩
  go_wp2
  go_ret
  exact ⟨ret_bool hb.out, rfl⟩
theorem zs_len (l : List Nat) : (zs l).length = l.length := by unfold zs; simp
theorem zs_at {l : List Nat} {k : Nat} {x : Int} (h : (zs l)[k]? = some x) : ∃ n, l[k]? = some n ∧ x = (n : Int) := by
  unfold zs at h
  rw [List.getElem?_map] at h
  cases e : l[k]? with
  | none => rw [e] at h; cases h
  | some n => rw [e] at h; injection h with h; exact ⟨n, rfl, h.symm⟩
/-- The set of some nodes. -/
def ofM (l : List Nat) : Nat := l.foldl (fun s i => s ||| sing i) 0
theorem ofM_bit {l : List Nat} {v : Nat} : (ofM l).testBit v = l.contains v := by
  unfold ofM
  rw [Bool.eq_iff_iff, or_fold]
  simp [sing_bit]
theorem ofM_bits {s : Nat} (h : s < 18446744073709551616) : ofM (bitsOf s) = s := by
  apply Nat.eq_of_testBit_eq
  intro v
  rw [ofM_bit]
  by_cases hv : v < 64
  · exact bits_con hv
  · rw [Bool.eq_false_iff.2 fun e => hv (mem_bitsOf.1 (List.contains_iff_mem.1 e)).1, Bool.eq_false_iff.2 fun e => hv (lt_under (k := 64) h v e)]
theorem ofM_lt {l : List Nat} (h : ∀ v ∈ l, v < 64) : ofM l < 18446744073709551616 := under_lt (k := 64) fun v hv => by
  rw [ofM_bit] at hv; exact h v (List.contains_iff_mem.1 hv)
theorem of_up {l : List Nat} {k n : Nat} (h : l[k]? = some n) : ofM (l.take (k + 1)) = ofM (l.take k) ||| sing n := by
  unfold ofM; rw [List.take_add_one, h]; simp
set_option maxRecDepth 100000 in
set_option maxHeartbeats 2000000 in
theorem of_any (A : Option Addr) (c : Nat) (l : List Nat) (w : World) (h : IL w A (zs l)) (hl : l.length ≤ 1000000) (hin : ∀ v ∈ l, v < 64) :
    Calls Tryd.prog 62 #[.slice A l.length c] w fun e w' => e = .returned (.int .u64 (ofM l : Nat)) ∧ w = w' := by
  have H := Lib.hid h
  have HI := Lib.hid hin
  have HL := Lib.hid (fun k => ofM_lt (l := l.take k) fun v hv => hin v (List.mem_of_mem_take hv))
  have HE := Lib.hid (List.take_length (l := l))
  have HU := Lib.hid (fun k n (hk : l[k]? = some n) => of_up hk)
  obtain ⟨F, hF⟩ : ∃ F, F = fun k => ofM (l.take k) := ⟨_, rfl⟩
  have HL : RowKit.Hid (∀ k, F k < 18446744073709551616) := by rw [hF]; exact HL
  have HU : RowKit.Hid (∀ k n, l[k]? = some n → F (k + 1) = F k ||| sing n) := by rw [hF]; exact HU
  have H0 : RowKit.Hid (F 0 = 0) := by rw [hF]; exact Lib.hid rfl
  have HF : RowKit.Hid (F l.length = ofM l) := by rw [hF]; exact Lib.hid (by show ofM (l.take l.length) = _; rw [List.take_length])
  clear h hin hF HE
  go_enter Tryd.func62, Tryd.ntmps62
  go_wp2_with fail
  go_loopw [3, 8] (fun s i wr => ∃ k : Nat, k ≤ l.length ∧ i = .int .i64 (k : Nat) ∧ s = .int .u64 (F k : Nat) ∧ wr = w) (fun _ i _ => l.length - (intOf i).toNat)
  case atStart => exact ⟨0, Nat.zero_le _, rfl, by rw [H0.out]; rfl, rfl⟩
  case round =>
    obtain ⟨k, hk, rfl, rfl, rfl⟩ := hrel
    by_cases hlt : k < l.length
    · obtain ⟨x, b, o, hx, rfl, hbl, hcell⟩ := H.out.at_ (k := k) (by rw [zs_len]; exact hlt)
      obtain ⟨n, hn, rfl⟩ := zs_at hx
      have hn64 := HI.out n (List.mem_of_getElem? hn)
      have e1 : bits .or .u64 ((F k : Nat) : Int) ((sing n : Nat) : Int) = ((F k ||| sing n : Nat) : Int) := bits_or_u64_nat _ _ (HL.out k) (sing_lt hn64)
      have Hup := Lib.hid (HU.out k n hn)
      clear hn hx
      go_wp2_with fail
      refine (single_any n _ hn64).mono ?_
      rintro e w2 ⟨rfl, rfl⟩
      go_wp2_with fail
      go_roundw
      case rel => exact ⟨k + 1, by omega, by go_num, by rw [Hup.out], trivial⟩
      case measure => simp [intOf]; omega
    · obtain rfl : k = l.length := by omega
      go_wp2
      go_ret
      exact ⟨ret_int (congrArg _ HF.out), rfl⟩
end Go.Proofs.YtdpfoegcmngdfaaDoor
namespace Go.Proofs.YtdpfoegcmngdfaaDoor
open Go.RowKit
theorem and_bd (x : Int) : ∃ k : Nat, k ≤ 127 ∧ bits .and .i64 x 127 = k := by
  have h2 : (BitVec.ofInt 64 127).toNat = 127 := by decide
  have h : (BitVec.ofInt 64 x &&& BitVec.ofInt 64 127).toNat ≤ 127 := by
    rw [BitVec.toNat_and, h2]; exact Nat.and_le_right
  refine ⟨_, h, ?_⟩
  show IntKind.i64.wrap ((BitVec.ofInt 64 x &&& BitVec.ofInt 64 127).toNat : Int) = _
  generalize (BitVec.ofInt 64 x &&& BitVec.ofInt 64 127).toNat = y at h
  exact IntWalk.i64_in _ (by omega)
theorem ret_k {x : Int} : ∃ k : Nat, k ≤ 127 ∧ Ending.returned (.int .i64 (bits .and .i64 x 127)) = .returned (.int .i64 k) :=
  let ⟨k, h1, h2⟩ := and_bd x
  ⟨k, h1, ret_int h2⟩
theorem ones_any (s : Nat) (w : World) (_hs : s < 18446744073709551616) :
    Calls Tryd.prog 105 #[.int .u64 s] w fun e w' => (∃ k : Nat, k ≤ 127 ∧ e = .returned (.int .i64 k)) ∧ w = w' := by
  go_enter Tryd.func105, Tryd.ntmps105
  go_wp2
  go_ret
  exact ⟨ret_k, rfl⟩
theorem size_any (s : Nat) (w : World) (hs : s < 18446744073709551616) :
    Calls Tryd.prog 72 #[.int .u64 s] w fun e w' => (∃ k : Nat, k ≤ 127 ∧ e = .returned (.int .i64 k)) ∧ w = w' := by
  have HO := Lib.hid (fun w' => ones_any s w' hs)
  go_enter Tryd.func72, Tryd.ntmps72
  go_wp2_with fail
  refine Calls.mono (R := fun e w' => (∃ k : Nat, k ≤ 127 ∧ e = .returned (.int .i64 k)) ∧ w = w') ?_ ?_
  · go_enter Tryd.func87, Tryd.ntmps87
    go_wp2_with fail
    refine (HO.out _).mono ?_
    rintro e w1 ⟨⟨k, hk, rfl⟩, rfl⟩
    go_wp2
    go_ret
    exact ⟨⟨k, hk, rfl⟩, rfl⟩
  · rintro e w1 ⟨⟨k, hk, rfl⟩, rfl⟩
    go_wp2
    go_ret
    exact ⟨⟨k, hk, rfl⟩, rfl⟩
theorem tzu_any (x : Nat) (hx : x < 18446744073709551616) (w : World) (ht : Good w) :
    Calls Tryd.prog 73 #[.int .u64 x] w fun e w' => e = .returned (.int .i64 (Lib.ctz 64 x : Nat)) ∧ w = w' := by
  have HT := Lib.hid (tz_any x hx w ht)
  clear ht
  go_enter Tryd.func73, Tryd.ntmps73
  go_wp2_with fail
  refine HT.out.mono ?_
  rintro e w1 ⟨rfl, rfl⟩
  go_wp2
  go_ret
  exact ⟨rfl, rfl⟩
set_option maxRecDepth 100000 in
set_option maxHeartbeats 2000000 in
theorem list_any (s : Nat) (w : World) (hs : s < 18446744073709551616) (hw : Good w) :
    Calls Tryd.prog 50 #[.int .u64 s] w fun e w' => ∃ v, e = .returned v ∧ w'.ownsRow w.heap.size 3 1 v (bitsOf s).length (nats (bitsOf s)) ∧ Below w.heap.size w w' := by
  obtain ⟨i0, hi, hz0, hz1, hz2⟩ := info_parts info_int
  have Hw := Lib.hid (fun w' (h : Below w.heap.size w w') => hw.below h hw.size)
  have hb0 := bitsOf_len s
  clear hw
  go_enter Tryd.func50, Tryd.ntmps50
  go_wp2_with fail
  refine (size_any s _ hs).mono ?_
  rintro e w1 ⟨⟨c, hc, rfl⟩, rfl⟩
  go_wp2_with (at_make; refine wpList_make_own _ rfl _ _ 25 rfl w.heap.size 3 i0 (.int .i64 0) 1 Tryd.underlying25 hi hz0 hz1 .i64 .i64 (c : Int) c rfl rfl rfl (by rw [hz2]; omega) (by unfold maxLen; omega) (Nat.le_refl _) ?_)
  intro w1 hown hgr
  have Hown := Lib.hid hown
  have Hb := Lib.hid ((Below.refl w.heap.size w).grown hgr (Nat.le_refl _) (by simp))
  clear hown hgr
  go_wp2_with fail
  go_loopw [0, 3] (fun sv v wr => ListInv w s sv v wr) (fun sv _ _ => (intOf sv).toNat)
  case atStart => exact ⟨s, [], rfl, hs, rfl, Hown.out, Hb.out⟩
  case round =>
    obtain ⟨x, l, rfl, hx, hl, hown, hbel⟩ := hrel
    have hlen : l.length ≤ 64 := by
      have h1 := hb0
      rw [← hl, List.length_append] at h1
      omega
    have Hl := Lib.hid hl
    have Hown := Lib.hid hown
    have Hbel := Lib.hid hbel
    have hsz := hbel.size
    clear hl hown hbel
    by_cases h0 : x = 0
    · subst h0
      have Hf := Lib.hid (list_done Hl.out Hown.out)
      go_wp2
      go_ret
      exact ⟨_, rfl, Hf.out, Hbel.out⟩
    · have h1 := u64_neq x h0
      have HL := Lib.hid (list_less h0)
      have H0 := Lib.hid h0
      have e1 : IntKind.u64.wrap ((x : Int) - 1) = ((x - 1 : Nat) : Int) := by rw [IntKind.wrap_u64]; omega
      have e2 : bits .and .u64 (x : Int) ((x - 1 : Nat) : Int) = ((x &&& (x - 1) : Nat) : Int) := bits_and_u64_nat x (x - 1) hx (by omega)
      clear h0
      go_wp2_with fail
      refine (tzu_any x hx _ (Hw.out _ Hbel.out)).mono ?_
      rintro e w2 ⟨rfl, rfl⟩
      go_wp2_with (at_builtin; refine wpList_append_own _ rfl _ _ 25 rfl w.heap.size 3 i0 (.int .i64 0) 1 8 Tryd.underlying25 hi hz0 hz1 hz2 rfl (by decide) _ _ _ rfl (Hown.out.alloc _) ⟨wr.heap.size, 0, none⟩ 1 1 [.int .i64 (Lib.ctz 64 x : Nat)] rfl rfl ?c1 ?c2 ?c3 ?c4 ?c5 ?_)
      case c1 =>
        intro k u hu
        match k, hu with
        | 0, hu => simp at hu; subst hu; simp [Addr.add]
      case c2 => intro u hu; simp at hu; subst hu; rfl
      case c3 => unfold maxLen; omega
      case c4 => omega
      case c5 => simp; omega
      intro v' w3 hown' hgrow _
      have Hfin := Lib.hid (list_step H0.out hx Hl.out Hown.out hown' hgrow Hbel.out)
      clear hown' hgrow
      go_wp2
      go_roundw
      case rel => exact Hfin.out
      case measure => simp only [intOf]; have := HL.out; omega
def pop1 (x : Int) : Int := IntKind.u64.wrap (bits .and .u64 (x / 2) 6148914691236517205 + bits .and .u64 x 6148914691236517205)
def pop2 (x : Int) : Int := IntKind.u64.wrap (bits .and .u64 (x / 4) 3689348814741910323 + bits .and .u64 x 3689348814741910323)
def pop3 (x : Int) : Int := bits .and .u64 (IntKind.u64.wrap (x / 16 + x)) 1085102592571150095
def pop4 (k x : Int) : Int := IntKind.u64.wrap (x + x / k)
def popE (x : Int) : Int := bits .and .i64 (wrap64 (pop4 4294967296 (pop4 65536 (pop4 256 (pop3 (pop2 (pop1 x))))))) 127
def bits12 (s : Nat) : List Nat := (List.range 12).filter fun i => s.testBit i
theorem bits12_eq {s : Nat} (h : s < 4096) : bitsOf s = bits12 s := by
  unfold bitsOf bits12
  rw [show List.range 64 = List.range 12 ++ List.range' 12 52 by decide, List.filter_append]
  have : (List.range' 12 52).filter (fun i => s.testBit i) = [] := by
    rw [List.filter_eq_nil_iff]
    intro a ha
    rw [Nat.testBit_lt_two_pow (Nat.lt_of_lt_of_le h (Nat.pow_le_pow_right (n := 2) (i := 12) (by decide) (List.mem_range'_1.1 ha).1))]
    simp
  rw [this, List.append_nil]
def popOK (a : Nat) : Bool := (List.range 64).all fun b => popE ((a * 64 + b : Nat) : Int) == ((bits12 (a * 64 + b)).length : Int)
theorem pop_fin : ∀ a, a < 64 → popOK a = true := by decide +kernel
theorem pop_eq {s : Nat} (h : s < 4096) : popE (s : Int) = ((bitsOf s).length : Int) := by
  rw [bits12_eq h]
  have := List.all_eq_true.1 (pop_fin (s / 64) (by omega)) (s % 64) (List.mem_range.2 (by omega))
  rw [show s / 64 * 64 + s % 64 = s by omega] at this
  exact beq_iff_eq.1 this
set_option maxRecDepth 100000 in
theorem pop_any (s : Nat) (w : World) (hs : s < 4096) :
    Calls Tryd.prog 105 #[.int .u64 s] w fun e w' => e = .returned (.int .i64 ((bitsOf s).length : Nat)) ∧ w = w' := by
  have HP := Lib.hid (pop_eq hs)
  go_enter Tryd.func105, Tryd.ntmps105
  go_wp2
  go_ret
  exact ⟨ret_int HP.out, rfl⟩
/-- How many nodes a set has. -/
theorem siz_any (s : Nat) (w : World) (hs : s < 4096) :
    Calls Tryd.prog 72 #[.int .u64 s] w fun e w' => e = .returned (.int .i64 ((bitsOf s).length : Nat)) ∧ w = w' := by
  have HO := Lib.hid (fun w' => pop_any s w' hs)
  go_enter Tryd.func72, Tryd.ntmps72
  go_wp2_with fail
  refine Calls.mono (R := fun e w' => e = .returned (.int .i64 ((bitsOf s).length : Nat)) ∧ w = w') ?_ ?_
  · go_enter Tryd.func87, Tryd.ntmps87
    go_wp2_with fail
    refine (HO.out _).mono ?_
    rintro e w1 ⟨rfl, rfl⟩
    go_wp2
    go_ret
    exact ⟨rfl, rfl⟩
  · rintro e w1 ⟨rfl, rfl⟩
    go_wp2
    go_ret
    exact ⟨rfl, rfl⟩
end Go.Proofs.YtdpfoegcmngdfaaDoor
