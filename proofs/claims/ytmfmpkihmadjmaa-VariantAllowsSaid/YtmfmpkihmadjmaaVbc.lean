/- A configuration of a described family, by names. -/
import Derived.Test.YtmfmpkihmadjmaaVau
namespace Go.Proofs.Ytmfmpkihmadjmaa
open Go.RowKit Go.Shelf Go.Maps Go.WideMaps
/-- The number of an option, by its name. -/
def idxO (n : Nat) (s : ByteArray) : Option Nat := (List.range n).find? fun i => decide (optN i = s)
theorem optN_inj6 : ∀ i, i < 6 → ∀ j, j < 6 → optN i = optN j → i = j := by decide +kernel
theorem idxO_some {n i : Nat} {s : ByteArray} (_hn : n ≤ 6) (h : idxO n s = some i) : i < n ∧ s = optN i := by
  unfold idxO at h
  have h1 := List.find?_some h
  have h2 := List.mem_of_find?_eq_some h
  exact ⟨List.mem_range.1 h2, (of_decide_eq_true h1).symm⟩
theorem idxO_none {n : Nat} {s : ByteArray} (h : idxO n s = none) : ∀ i, i < n → optN i ≠ s := fun i hi e => by
  unfold idxO at h
  rw [List.find?_eq_none] at h
  exact h i (List.mem_range.2 hi) (decide_eq_true e)
theorem idxO_of {n i : Nat} (hn : n ≤ 6) (hi : i < n) : idxO n (optN i) = some i := by
  cases h : idxO n (optN i) with
  | none => exact absurd rfl (idxO_none h i hi)
  | some j =>
    obtain ⟨h1, h2⟩ := idxO_some hn h
    rw [optN_inj6 i (by omega) j (by omega) h2]
/-- What names say: the options as bits, or an error. -/
def runC (bt : Nat → Nat) : Int → Nat → List (Option Nat) → Nat × Int
  | _, c, [] => (c, 0)
  | _, _, none :: _ => (0, 16)
  | last, c, some a :: l => if (a : Int) ≤ last then (0, 8) else runC bt a (c ||| bt a) l
/-- The options by their names, as a map. -/
def optD : Nat → DataW Unit
  | 0 => .map []
  | i + 1 => (optD i).put (.string (optN i).data.toList) (.lit (.int .i64 i))
theorem str_ne {s t : ByteArray} (h : s ≠ t) : Lit.string s.data.toList ≠ Lit.string t.data.toList := fun e => by
  injection e with e
  obtain ⟨⟨a⟩⟩ := s
  obtain ⟨⟨b⟩⟩ := t
  simp only at e
  exact h (by rw [e])
theorem isMap_opt : ∀ n, IsMap (optD n)
  | 0 => isMap_empty
  | n + 1 => IsMap.put (isMap_opt n) _ _
theorem has_none : ∀ (n : Nat) (s : ByteArray), (∀ i, i < n → optN i ≠ s) → Maps.has (optD n) (.string s.data.toList) = false
  | 0, s, _ => rfl
  | n + 1, s, h => by
    rw [optD, has_put_other (str_ne (fun e => h n (Nat.lt_succ_self n) e.symm))]
    exact has_none n s (fun i hi => h i (Nat.lt_succ_of_lt hi))
theorem zeroI (w : World) : (zeroValue 3).run Try.prog w = .ok (.int .i64 0) w := by kernel_rfl
theorem keyS' {s : ByteArray} (h : s.size ≤ 1000) : keyOf Try.prog 9 (.string s) = some (.string s.data.toList) := keyOf_string_mk Try.underlying9 (by unfold maxLen; omega)
theorem optN_size : ∀ i, i < 6 → (optN i).size = 1 := by decide +kernel
theorem keyLit (i : Nat) (hi : i < 6) : WideAt.IsKeyLit (.string (optN i).data.toList) := strK.key (keyS' (s := optN i) (by rw [optN_size i hi]; decide))
theorem has_some : ∀ (n i : Nat), n ≤ 6 → i < n → Maps.has (optD n) (.string (optN i).data.toList) = true ∧ ∀ z, (optD n).atKey (.string (optN i).data.toList) z = .lit (.int .i64 i)
  | n + 1, i, hn, hi => by
    by_cases h : i = n
    · subst h
      rw [optD]
      exact ⟨has_put_same (isMap_opt i) (keyLit i (by omega)) _, fun z => atKey_put_same (isMap_opt i) (keyLit i (by omega)) _ _⟩
    · have hne : Lit.string (optN i).data.toList ≠ Lit.string (optN n).data.toList := str_ne (fun e => h (optN_inj6 i (by omega) n (by omega) e))
      obtain ⟨h1, h2⟩ := has_some n i (by omega) (by omega)
      rw [optD, has_put_other hne]
      exact ⟨h1, fun z => by rw [atKey_put_other hne]; exact h2 z⟩
set_option maxRecDepth 100000 in
/-- A name is looked up. -/
theorem look_opt {w : World} {b n : Nat} {s : ByteArray} (h : w.ownsMap Try.prog 9 (plainElem (H := Unit) Try.prog 3) b n (optD n)) (hn : n ≤ 6) (hs : s.size ≤ 1000) :
    (Instr.lookup 140 (.map (some b)) (.string s) true).run Try.prog w = .ok (.tuple #[.int .i64 (((idxO n s).getD 0 : Nat) : Int), .bool (idxO n s).isSome]) w := by
  obtain ⟨v, ps, hrun, hv⟩ := h.look_ok strK Try.underlying140 (zeroI w) (plainElem_int (H := Unit) (q := .i64) Try.underlying3 (a := 0) (by decide)) (keyS' hs)
  rw [hrun]
  cases hi : idxO n s with
  | none =>
    have h1 := has_none n s (idxO_none hi)
    rw [atKey_of_not_has h1] at hv
    obtain ⟨c, rfl, hc, _⟩ := plainElem_int_inv Try.underlying3 hv
    simp only [Prod.mk.injEq] at hc
    injection hc.1 with e
    injection e with _ e
    rw [h1, ← e]
    rfl
  | some i =>
    obtain ⟨h1, rfl⟩ := idxO_some hn hi
    obtain ⟨h2, h3⟩ := has_some n i hn h1
    rw [h3] at hv
    obtain ⟨c, rfl, hc, _⟩ := plainElem_int_inv Try.underlying3 hv
    simp only [Prod.mk.injEq] at hc
    injection hc.1 with e
    injection e with _ e
    rw [h2, ← e]
    rfl
theorem or_fact : ∀ k, k < 64 → ∀ a, a < 6 → bits .or .u64 ((64 * k : Nat) : Int) ((2 ^ (11 - a) : Nat) : Int) = ((64 * k ||| 2 ^ (11 - a) : Nat) : Int) ∧ (64 * k ||| 2 ^ (11 - a)) = 64 * (k ||| 2 ^ (5 - a)) ∧ (k ||| 2 ^ (5 - a)) < 64 := by decide +kernel
set_option maxRecDepth 100000 in
set_option maxHeartbeats 8000000 in
theorem configuration_any (f : Fm) (A : Option Addr) (m d : Nat) (on : List ByteArray) (w : World) (hos : StrL w f.OA (famO f.n)) (hn6 : f.n ≤ 6) (hon : StrL w A on) (hol : on.length = m) (hm : m ≤ 1000) (hsz : ∀ s ∈ on, s.size ≤ 1000) :
    Calls Try.prog 39 #[f.v, .slice A m d] w fun e w' => e = .returned (.tuple #[.int .u64 ((runC (fun a => 2 ^ (11 - a)) (-1) 0 (on.map (idxO f.n))).1 : Nat), .int .i64 (runC (fun a => 2 ^ (11 - a)) (-1) 0 (on.map (idxO f.n))).2]) ∧ Below w.heap.size w w' := by
  have hmm := @run_makeMap Try.prog
  have k1 := (Below.refl w.heap.size w).alloc (Nat.le_refl _) (.cells f.cells 40)
  have P1 := Cells.new w f.cells 40
  obtain ⟨w1, hw1⟩ : ∃ u, w.alloc (.cells f.cells 40) = u := ⟨_, rfl⟩
  have hw1' : w.alloc (.cells #[.string f.nm, .slice f.PA f.pn f.pc, .slice f.IA f.iN f.ic, .slice f.DA f.dn f.dc, .slice f.KA f.kn f.kc, .slice f.QA f.qn f.qc, .slice f.OA f.n f.oc, .slice f.RA f.rn f.rc, .slice f.GA f.gn f.gc, .slice f.VA f.vn f.vc] 40) = w1 := hw1
  rw [hw1] at k1 P1
  have mk := World.ownsMap_made w1 Try.prog 9 (plainElem (H := Unit) Try.prog 3)
  have kb := (Below.refl w1.heap.size w1).alloc (Nat.le_refl _) (.map #[] 0)
  have P2 := Lib.hid (P1.keep kb)
  have B2 := Lib.hid (below_on k1 kb)
  have hlt1 : w1.heap.size < (w1.alloc (.map #[] 0)).heap.size := by simp
  obtain ⟨wm, hwm⟩ : ∃ u, w1.alloc (.map #[] 0) = u := ⟨_, rfl⟩
  rw [hwm] at mk P2 B2 hlt1
  have Mk := Lib.hid mk
  have HP1 := Lib.hid P1
  have K1 := Lib.hid k1
  have Hlt1 := Lib.hid hlt1
  have OL := Lib.hid hos
  have NL := Lib.hid hon
  clear mk kb k1 hos hon hlt1
  obtain ⟨ix, hix⟩ : ∃ x, on.map (idxO f.n) = x := ⟨_, rfl⟩
  obtain ⟨R, hR⟩ : ∃ r, runC (fun a => 2 ^ (11 - a)) (-1) 0 ix = r := ⟨_, rfl⟩
  rw [hix, hR]
  have Hix := Lib.hid hix
  have HR := Lib.hid hR
  clear hix hR
  go_enter Try.func39, Try.ntmps39
  have c0 := P2.out.at_ 0
  have c1 := P2.out.at_ 1
  have c2 := P2.out.at_ 2
  have c3 := P2.out.at_ 3
  have c4 := P2.out.at_ 4
  have c5 := P2.out.at_ 5
  have c6 := P2.out.at_ 6
  have c7 := P2.out.at_ 7
  have c8 := P2.out.at_ 8
  have c9 := P2.out.at_ 9
  simp only [List.getElem?_cons_zero, List.getElem?_cons_succ] at c0 c1 c2 c3 c4 c5 c6 c7 c8 c9
  go_wp2_with fail
  clear hmm hwm hw1'
  go_loopw [7, 8, 19] (fun _ _ i wr => ∃ j : Nat, i = .int .i64 (j : Nat) ∧ j ≤ f.n ∧ wr.ownsMap Try.prog 9 (plainElem (H := Unit) Try.prog 3) w1.heap.size j (optD j) ∧ Below w.heap.size w wr ∧ wm.heap.size ≤ wr.heap.size) (fun _ _ i _ => f.n - (intOf i).toNat)
  case atStart => exact ⟨0, rfl, Nat.zero_le _, Mk.out, B2.out, Nat.le_refl _⟩
  case round =>
    obtain ⟨j, rfl, hj, hM, hb, hs2⟩ := hrel
    have M3 := Lib.hid hM
    have B3 := Lib.hid hb
    have Hs2 := Lib.hid hs2
    have Hb3 := Lib.hid hb.size
    clear hM hb hs2
    by_cases hlt : j < f.n
    · obtain ⟨s, b, o, hs, hOA, hbl, hc⟩ := (OL.out.keep B3.out).at_ (k := j) (by unfold famO; simp; exact hlt)
      obtain ⟨_, rfl⟩ := famO_at hs
      have Hlt := Lib.hid hlt
      have i1 : (j : Int) < (f.n : Int) := by omega
      have hk := keyS' (s := optN j) (by rw [optN_size j (by omega)]; decide)
      rw [hOA] at c6 ⊢
      clear hs
      go_wp2_with (first
        | (at_mapUpdate; refine wpList_mapUpdate_own _ rfl _ _ _ 140 rfl 9 3 strK Try.underlying140 (plainElem (H := Unit) Try.prog 3) w1.heap.size j _ rfl M3.out (by unfold maxLen; omega) _ _ _ rfl rfl hk _ [] (plainElem_int (H := Unit) (q := .i64) Try.underlying3 (a := (j : Int)) (by simp [Lit.wf, IntKind.min, IntKind.max, IntKind.signed, IntKind.bits]; omega)) ?_; intro w2 hown2 hgrow2))
      have M4 := Lib.hid hown2
      have B4 := Lib.hid (B3.out.grown hgrow2 B3.out.size (fun k hk => by injection hk with hk; have := K1.out.size; omega))
      have S4 := Lib.hid (Nat.le_trans Hs2.out hgrow2.size)
      clear hown2 hgrow2
      go_roundw
      case rel => exact ⟨j + 1, by go_num, Hlt.out, M4.out, B4.out, S4.out⟩
      case measure => simp [intOf]; have := Hlt.out; omega
    · have hjn : j = f.n := by omega
      rw [hjn] at M3
      have NL3 := Lib.hid (NL.out.keep B3.out)
      clear Mk OL NL hjn hj
      go_wp2_with fail
      obtain ⟨wz, rfl⟩ : ∃ x, x = wr := ⟨_, rfl⟩
      go_loopw [9, 10, 12, 13, 14, 30] (fun c la _ _ _ i wr => ∃ (j cc : Nat) (last : Int), i = .int .i64 (j : Nat) ∧ j ≤ m ∧ c = .int .u64 (cc : Nat) ∧ (∃ k, k < 64 ∧ cc = 64 * k) ∧ la = .int .i64 last ∧ runC (fun a => 2 ^ (11 - a)) last cc (ix.drop j) = R ∧ wz = wr) (fun _ _ _ _ _ i _ => m - (intOf i).toNat)
      case atStart => exact ⟨0, 0, -1, rfl, Nat.zero_le _, rfl, ⟨0, by decide, rfl⟩, rfl, HR.out, rfl⟩
      case round =>
        obtain ⟨q, cc, last, rfl, hq, rfl, hk, rfl, hrun, rfl⟩ := hrel
        by_cases hlq : q < m
        · obtain ⟨s, b, o, hs, rfl, hbl, hc⟩ := NL3.out.at_ (k := q) (by rw [hol]; exact hlq)
          have hlook := look_opt M3.out hn6 (hsz s (List.mem_of_getElem? hs))
          have hxq : ix[q]? = some (idxO f.n s) := by rw [← Hix.out, List.getElem?_map, hs]; rfl
          rw [drop_at hxq] at hrun
          have i4 : (q : Int) < (m : Int) := by omega
          have Hq := Lib.hid hlq
          cases hi : idxO f.n s with
          | none =>
            rw [hi] at hlook hrun
            simp only [Option.getD_none, Option.isSome_none] at hlook
            have HE := Lib.hid (show R = (0, 16) from hrun.symm)
            clear hrun hxq hs hi
            go_wp2_with fail
            go_ret2
            rw [HE.out]
            exact ⟨rfl, B3.out⟩
          | some a =>
            rw [hi] at hlook hrun
            simp only [Option.getD_some, Option.isSome_some] at hlook
            have ha := (idxO_some hn6 hi).1
            rw [runC] at hrun
            by_cases hal : (a : Int) ≤ last
            · rw [if_pos hal] at hrun
              have HE := Lib.hid hrun.symm
              have e1 : decide ((a : Int) ≤ last) = true := decide_eq_true hal
              clear hrun hxq hs hi
              go_wp2_with fail
              go_ret2
              rw [HE.out]
              exact ⟨rfl, B3.out⟩
            · rw [if_neg hal] at hrun
              obtain ⟨k, hk64, hck⟩ := hk
              obtain ⟨f1, f2, f3⟩ := or_fact k hk64 a (by omega)
              rw [← hck] at f1 f2
              have HB := bit_any a wz (by omega)
              unfold sing at HB
              obtain ⟨bv, hbv⟩ : ∃ x, 2 ^ (11 - a) = x := ⟨_, rfl⟩
              rw [hbv] at f1 f2 hrun HB
              obtain ⟨c2, hc2⟩ : ∃ x, cc ||| bv = x := ⟨_, rfl⟩
              rw [hc2] at f1 f2 hrun
              have HE := Lib.hid hrun
              have F3 := Lib.hid (show ∃ k, k < 64 ∧ c2 = 64 * k from ⟨_, f3, f2⟩)
              have HB := Lib.hid HB
              have e1 : decide ((a : Int) ≤ last) = false := decide_eq_false hal
              clear hrun hxq hs hi f2 f3 hbv hc2 hck
              go_wp2_with fail
              refine HB.out.mono ?_
              rintro e w9 ⟨rfl, rfl⟩
              go_wp2_with fail
              go_roundw
              case rel => exact ⟨q + 1, c2, (a : Int), by go_num, Hq.out, rfl, F3.out, rfl, HE.out, by first | trivial | rfl⟩
              case measure => simp [intOf]; have := Hq.out; omega
        · have hqm : q = m := by omega
          rw [hqm, List.drop_of_length_le (by rw [← Hix.out, List.length_map, hol]; exact Nat.le_refl _)] at hrun
          have HE := Lib.hid (show R = (cc, 0) from hrun.symm)
          clear hrun
          go_wp2_with fail
          go_ret2
          rw [HE.out]
          exact ⟨rfl, B3.out⟩
end Go.Proofs.Ytmfmpkihmadjmaa
