/- Literals and rules of a family, and whether they hold in a configuration. -/
import Derived.Test.YtmfmpkihmadjmaaVb
namespace Go.Proofs.Ytmfmpkihmadjmaa
open Go.RowKit
/-- The set of one node. -/
def sing (n : Nat) : Nat := 2 ^ n
theorem sing_bit {n i : Nat} : (sing n).testBit i = decide (n = i) := Nat.testBit_two_pow
theorem sing_lt {n : Nat} (h : n < 64) : sing n < 18446744073709551616 := Nat.pow_lt_pow_right (by decide) h
theorem sing_wrap {n : Nat} (hn : n < 64) : IntKind.u64.wrap (2 ^ n) = ((sing n : Nat) : Int) := by
  have h := sing_lt hn
  have e : ((sing n : Nat) : Int) = 2 ^ n := by unfold sing; simp
  rw [IntKind.wrap_u64, ← e]
  omega
theorem has_bit (s n : Nat) (hn : n < 64) (hs : s < 18446744073709551616) : (bits .and .u64 (s : Int) ((sing n : Nat) : Int) != 0) = s.testBit n := by
  rw [bits_and_u64_nat s _ hs (sing_lt hn)]
  have e : s &&& sing n = if s.testBit n then sing n else 0 := by
    apply Nat.eq_of_testBit_eq
    intro i
    rw [Nat.testBit_and, sing_bit]
    by_cases h : n = i
    · subst h; cases h : s.testBit n <;> simp [sing_bit]
    · cases h' : s.testBit n <;> simp [sing_bit, h]
  rw [e]
  have hp : 0 < sing n := Nat.pow_pos (by decide)
  cases s.testBit n <;> simp <;> omega
theorem Calls.low {P : Program} {f : FuncId} {args : Array Value} {w : World} {v : Value} (h : Calls P f args w fun e w' => e = .returned v ∧ w = w') : Calls P f args w fun e w' => e = .returned v ∧ Below w.heap.size w w' :=
  h.mono fun _ _ ⟨h1, h2⟩ => ⟨h1, by rw [← h2]; exact Below.refl _ _⟩
/-- Literals in memory: an option, and whether it is on. -/
def LitL (w : World) (A : Option Addr) (ls : List (Int × Bool)) : Prop :=
  ∀ k e, ls[k]? = some e → ∃ b o, A = some ⟨b, o, none⟩ ∧ b < w.heap.size ∧ w.cell? ⟨b, o + k * 2, none⟩ = some (.int .i64 e.1) ∧ w.cell? ⟨b, o + k * 2 + 1, none⟩ = some (.bool e.2)
theorem LitL.keep {w w' : World} {A : Option Addr} {ls : List (Int × Bool)} (h : LitL w A ls) (hb : Below w.heap.size w w') : LitL w' A ls :=
  fun k e hk => let ⟨b, o, e1, hlt, hc, hd⟩ := h k e hk; ⟨b, o, e1, Nat.lt_of_lt_of_le hlt hb.size, (hb.cell (p := ⟨b, o + k * 2, none⟩) hlt).trans hc, (hb.cell (p := ⟨b, o + k * 2 + 1, none⟩) hlt).trans hd⟩
theorem LitL.at_ {w : World} {A : Option Addr} {ls : List (Int × Bool)} (h : LitL w A ls) {k : Nat} (hk : k < ls.length) : ∃ e b o, ls[k]? = some e ∧ A = some ⟨b, o, none⟩ ∧ b < w.heap.size ∧ w.cell? ⟨b, o + k * 2, none⟩ = some (.int .i64 e.1) ∧ w.cell? ⟨b, o + k * 2 + 1, none⟩ = some (.bool e.2) :=
  let ⟨b, o, h1⟩ := h k ls[k] (List.getElem?_eq_getElem hk)
  ⟨_, b, o, List.getElem?_eq_getElem hk, h1⟩
/-- Literals with natural options. -/
def lc (ls : List (Nat × Bool)) : List (Int × Bool) := ls.map fun e => ((e.1 : Int), e.2)
theorem lc_len (ls : List (Nat × Bool)) : (lc ls).length = ls.length := by unfold lc; simp
theorem lc_at {ls : List (Nat × Bool)} {k : Nat} {e : Int × Bool} (h : (lc ls)[k]? = some e) : ∃ x s, ls[k]? = some (x, s) ∧ e = ((x : Int), s) := by
  unfold lc at h
  rw [List.getElem?_map] at h
  cases hx : ls[k]? with
  | none => rw [hx] at h; cases h
  | some y => rw [hx] at h; injection h with h; exact ⟨y.1, y.2, rfl, h.symm⟩
/-- Rules in memory: a name, and literals. -/
def RuleL (w : World) (A : Option Addr) (rs : List (ByteArray × List (Nat × Bool))) : Prop :=
  ∀ k r, rs[k]? = some r → ∃ b o A' c, A = some ⟨b, o, none⟩ ∧ b < w.heap.size ∧ w.cell? ⟨b, o + k * 2, none⟩ = some (.string r.1) ∧ w.cell? ⟨b, o + k * 2 + 1, none⟩ = some (.slice A' r.2.length c) ∧ LitL w A' (lc r.2)
theorem RuleL.keep {w w' : World} {A : Option Addr} {rs : List (ByteArray × List (Nat × Bool))} (h : RuleL w A rs) (hb : Below w.heap.size w w') : RuleL w' A rs :=
  fun k r hk => let ⟨b, o, A', c, e1, hlt, hc, hd, hl⟩ := h k r hk; ⟨b, o, A', c, e1, Nat.lt_of_lt_of_le hlt hb.size, (hb.cell (p := ⟨b, o + k * 2, none⟩) hlt).trans hc, (hb.cell (p := ⟨b, o + k * 2 + 1, none⟩) hlt).trans hd, hl.keep hb⟩
theorem RuleL.at_ {w : World} {A : Option Addr} {rs : List (ByteArray × List (Nat × Bool))} (h : RuleL w A rs) {k : Nat} (hk : k < rs.length) : ∃ r b o A' c, rs[k]? = some r ∧ A = some ⟨b, o, none⟩ ∧ b < w.heap.size ∧ w.cell? ⟨b, o + k * 2, none⟩ = some (.string r.1) ∧ w.cell? ⟨b, o + k * 2 + 1, none⟩ = some (.slice A' r.2.length c) ∧ LitL w A' (lc r.2) :=
  let ⟨b, o, A', c, h1⟩ := h k rs[k] (List.getElem?_eq_getElem hk)
  ⟨_, b, o, A', c, List.getElem?_eq_getElem hk, h1⟩
/-- Whether a literal holds in a configuration. -/
def litB (c : Nat) (l : Nat × Bool) : Bool := c.testBit (11 - l.1) == l.2
def LowL (ls : List (Nat × Bool)) : Prop := ∀ l ∈ ls, l.1 < 12
theorem bit_any (n : Nat) (w : World) (hn : n < 12) :
    Calls Try.prog 65 #[.int .i64 n] w fun e w' => e = .returned (.int .u64 (sing (11 - n) : Nat)) ∧ w = w' := by
  have hb := sing_wrap (n := 11 - n) (by omega)
  have e1 : IntKind.i64.wrap ((11 : Int) - (n : Int)) = ((11 - n : Nat) : Int) := by rw [show (11 : Int) - (n : Int) = ((11 - n : Nat) : Int) by omega]; exact IntWalk.i64_in _ (by omega)
  have e2 : (11 : Int) - (n : Int) = ((11 - n : Nat) : Int) := by omega
  have i0 : ¬ ((11 - n : Nat) : Int) < 0 := by omega
  obtain ⟨m, hm⟩ : ∃ m, 11 - n = m := ⟨_, rfl⟩
  rw [hm] at hb e1 e2 i0 ⊢
  have hb := Lib.hid hb
  have hmn := Lib.hid (show m < 64 by omega)
  clear hm
  go_enter Try.func65, Try.ntmps65
  go_wp2_with fail
  go_ret
  exact ⟨ret_int (by first | exact hb.out | simp), rfl⟩
theorem has_any (c n : Nat) (w : World) (hn : n < 12) (hc : c < 18446744073709551616) :
    Calls Try.prog 48 #[.int .u64 c, .int .i64 n] w fun e w' => e = .returned (.bool (c.testBit (11 - n))) ∧ w = w' := by
  have hb := Lib.hid (has_bit c (11 - n) (by omega) hc)
  go_enter Try.func48, Try.ntmps48
  go_wp2_with fail
  refine (bit_any _ _ hn).mono ?_
  rintro e w' ⟨rfl, rfl⟩
  go_wp2
  go_ret
  exact ⟨ret_bool hb.out, rfl⟩
set_option maxRecDepth 100000 in
set_option maxHeartbeats 8000000 in
theorem holds_any (c : Nat) (A : Option Addr) (m d : Nat) (ls : List (Nat × Bool)) (w : World) (h : LitL w A (lc ls)) (hm : ls.length = m) (hl : LowL ls) (hc : c < 18446744073709551616) (hm2 : m ≤ 4611686018427387904) :
    Calls Try.prog 67 #[.int .u64 c, .slice A m d] w fun e w' => e = .returned (.bool (ls.all (litB c))) ∧ Below w.heap.size w w' := by
  have E0 := Lib.hid h
  have Hm := Lib.hid hm
  have Hl := Lib.hid hl
  have Hc := Lib.hid hc
  clear h hm hl hc
  go_enter Try.func67, Try.ntmps67
  go_wp2_with fail
  go_loopw [6, 9] (fun _ i wr => ∃ j : Nat, i = .int .i64 (j : Nat) ∧ j ≤ m ∧ (ls.take j).all (litB c) = true ∧ Below w.heap.size w wr) (fun _ i _ => m - (intOf i).toNat)
  case atStart => exact ⟨0, rfl, Nat.zero_le _, rfl, Below.refl _ _⟩
  case round =>
    obtain ⟨j, rfl, hj, hall, hb⟩ := hrel
    have Hall := Lib.hid hall
    have B6 := Lib.hid hb
    have E6 := Lib.hid (E0.out.keep hb)
    clear hall hb
    by_cases hlt : j < m
    · obtain ⟨e0, bb, o, he, rfl, _, c0, c1⟩ := E6.out.at_ (k := j) (by rw [lc_len, Hm.out]; exact hlt)
      obtain ⟨x, sx, hx, rfl⟩ := lc_at he
      simp only at c0 c1
      have hx12 := Hl.out _ (List.mem_of_getElem? hx)
      simp only at hx12
      have Hlt := Lib.hid hlt
      have Hs := Lib.hid (show ls.take (j + 1) = ls.take j ++ [(x, sx)] by rw [List.take_add_one, hx]; rfl)
      have HC := fun w' => Calls.low (has_any c x w' hx12 Hc.out)
      obtain ⟨bx, hbx⟩ : ∃ bx, c.testBit (11 - x) = bx := ⟨_, rfl⟩
      rw [hbx] at HC
      have HC := Lib.hid HC
      obtain ⟨q, hq⟩ : ∃ q, (bx == sx) = q := ⟨_, rfl⟩
      have hlb : litB c (x, sx) = q := by unfold litB; rw [hbx]; exact hq
      have Hb := Lib.hid (fun (h : q = true) => hlb.trans h)
      have hbad : q = false → ls.all (litB c) = false := fun h => by
        rw [Bool.eq_false_iff]
        intro ha
        rw [List.all_eq_true] at ha
        have := ha _ (List.mem_of_getElem? hx)
        rw [hlb, h] at this
        cases this
      have Hbad := Lib.hid hbad
      clear hlb hbad
      have kv := (Below.refl wr.heap.size wr).alloc (Nat.le_refl _) (.cells #[.int .i64 (x : Nat), .bool sx] 68)
      have P7 := Lib.hid (Cells.new wr #[.int .i64 (x : Nat), .bool sx] 68)
      have B7 := Lib.hid (below_on B6.out kv)
      clear he hx hbx kv hx12
      go_upto_region 4 with fail
      obtain ⟨wm, hwm⟩ : ∃ u, wr.alloc (.cells #[.int .i64 (x : Nat), .bool sx] 68) = u := ⟨_, rfl⟩
      rw [hwm] at P7 B7
      try rw [hwm]
      have HS := Lib.hid (fun w' (hb : Below wm.heap.size wm w') => (⟨(P7.out.keep hb).at_ 0, (P7.out.keep hb).at_ 1⟩ : w'.cell? ⟨wr.heap.size, 0, none⟩ = some (.int .i64 (x : Nat)) ∧ w'.cell? ⟨wr.heap.size, 1, none⟩ = some (.bool sx)))
      refine Till.begin 6 (fun w' => w'.cell? ⟨wr.heap.size, 0, none⟩ = some (.int .i64 (x : Nat)) ∧ w'.cell? ⟨wr.heap.size, 1, none⟩ = some (.bool sx)) (by kernel_rfl) (HS.out _ (Below.refl _ _).drew) (fun hH => ?_)
      clear hH
      have HB := Lib.hid (Below.refl wm.heap.size wm).drew
      generalize wm.drew = v0 at HB ⊢
      try simp only [List.setIfInBounds_toArray, List.set_cons_zero, List.set_cons_succ]
      refine Till.tk 0 3 13 (.int .u64 (c : Nat)) (HS.out _ HB.out) ?_
      try simp only [Act.put, List.setIfInBounds_toArray, List.set_cons_zero, List.set_cons_succ]
      refine Till.tL 1 [2, 3, 6] 14 (.pointer (some ⟨wr.heap.size, 0, none⟩)) (HS.out _ HB.out) ?_
      try simp only [Act.put, List.setIfInBounds_toArray, List.set_cons_zero, List.set_cons_succ]
      refine Till.tk 2 3 15 (.int .i64 (x : Nat)) (HS.out _ HB.out) ?_
      try simp only [Act.put, List.setIfInBounds_toArray, List.set_cons_zero, List.set_cons_succ]
      refine Till.tk 4 5 17 (.pointer (some ⟨wr.heap.size, 1, none⟩)) (HS.out _ HB.out) ?_
      try simp only [Act.put, List.setIfInBounds_toArray, List.set_cons_zero, List.set_cons_succ]
      refine Till.tk 5 6 18 (.bool sx) (HS.out _ HB.out) ?_
      try simp only [Act.put, List.setIfInBounds_toArray, List.set_cons_zero, List.set_cons_succ]
      refine Till.one (i := 3) (by kernel_rfl) rfl (fun K hK => ?_)
      go_simp
      refine (HC.out v0).mono ?_
      rintro e v1 ⟨rfl, g⟩
      replace HB := Lib.hid (below_on HB.out g)
      clear g
      go_wp2_with fail
      refine hK.out _ _ (fun _ => HS.out _ HB.out) ?_
      clear hK K
      try simp only [List.setIfInBounds_toArray, List.set_cons_zero, List.set_cons_succ]
      refine Till.one (i := 6) (by kernel_rfl) rfl (fun K hK => ?_)
      go_simp
      refine hK.out _ _ (fun h => absurd h (by simp)) ?_
      clear hK K
      try simp only [List.setIfInBounds_toArray, List.set_cons_zero, List.set_cons_succ]
      refine Till.done (by kernel_rfl) ?_ _
      have B8 := Lib.hid (below_on B7.out HB.out)
      cases q
      · go_wp2_with fail
        go_ret
        exact ⟨ret_bool (Hbad.out (by simp)).symm, B8.out⟩
      · go_wp2_with fail
        go_roundw
        case rel => exact ⟨j + 1, by go_num, Hlt.out, by rw [Hs.out, List.all_append, Hall.out]; simp [Hb.out (by simp)], B8.out⟩
        case measure => simp [intOf]; have := Hlt.out; omega
    · have hjl : ls.take j = ls := List.take_of_length_le (by rw [Hm.out]; omega)
      rw [hjl] at Hall
      clear hjl
      go_wp2_with fail
      go_ret
      exact ⟨ret_bool Hall.out.symm, B6.out⟩
end Go.Proofs.Ytmfmpkihmadjmaa
