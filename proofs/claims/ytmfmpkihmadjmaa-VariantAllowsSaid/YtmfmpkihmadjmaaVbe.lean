/- The reference's reading of names. -/
import Derived.Test.YtmfmpkihmadjmaaVbd
import Derived.BigQuiet
namespace Go.Proofs.Ytmfmpkihmadjmaa
open Go.RowKit
/-- The last of the first k options that bears a name, or -1. -/
def lastI (s : ByteArray) : Nat → Int
  | 0 => -1
  | k + 1 => if optN k = s then (k : Int) else lastI s k
theorem lastI_none {s : ByteArray} : ∀ (n : Nat), (∀ i, i < n → optN i ≠ s) → lastI s n = -1
  | 0, _ => rfl
  | n + 1, h => by
    rw [lastI, if_neg (h n (Nat.lt_succ_self n))]
    exact lastI_none n (fun i hi => h i (Nat.lt_succ_of_lt hi))
theorem lastI_some {a : Nat} : ∀ (n : Nat), n ≤ 6 → a < n → lastI (optN a) n = (a : Int)
  | n + 1, hn, ha => by
    rw [lastI]
    by_cases h : optN n = optN a
    · rw [if_pos h, optN_inj6 n (by omega) a (by omega) h]
    · rw [if_neg h]
      exact lastI_some n (by omega) (by
        rcases Nat.lt_or_ge a n with h1 | h1
        · exact h1
        · exact absurd (by rw [show a = n by omega]) h)
theorem lastI_idx {n : Nat} {s : ByteArray} (hn : n ≤ 6) : lastI s n = match idxO n s with | some a => (a : Int) | none => -1 := by
  cases h : idxO n s with
  | none => exact lastI_none n (idxO_none h)
  | some a =>
    obtain ⟨h1, rfl⟩ := idxO_some hn h
    exact lastI_some n hn h1
theorem below_dn {B : Nat} {a w : World} (h : Below B a w) (n : Nat) : Below B a (w.drewN n) := h.trans ⟨rfl, rfl, rfl, Nat.le_refl _, fun _ _ => rfl⟩
theorem toList_inj {a b : ByteArray} (h : a.toList = b.toList) : a = b := by
  rw [ByteArray.toList_eq, ByteArray.toList_eq] at h
  cases a; cases b; congr; exact Array.ext' h
theorem leq_opt : ∀ a, a < 6 → ∀ b, b < 6 → Op.bytesLess (optN a).toList (optN b).toList = decide (a < b) ∧ ((optN a).toList == (optN b).toList) = decide (a = b) := by decide +kernel
theorem or_low : ∀ c, c < 64 → ∀ a, a < 6 → bits .or .i64 ((c : Nat) : Int) (wrap64 (2 ^ a)) = ((c ||| 2 ^ a : Nat) : Int) ∧ (c ||| 2 ^ a) < 64 := by decide +kernel
set_option maxRecDepth 100000 in
set_option maxHeartbeats 8000000 in
theorem parse_any (f : Fm) (A : Option Addr) (m d : Nat) (on : List ByteArray) (w : World) (hos : StrL w f.OA (famO f.n)) (hn6 : f.n ≤ 6) (hon : StrL w A on) (hol : on.length = m) (hm : m ≤ 1000) :
    Calls Try.prog 14 #[f.v, .slice A m d] w fun e w' => e = .returned (.tuple #[.int .i64 ((runC (fun a => 2 ^ a) (-1) 0 (on.map (idxO f.n))).1 : Nat), .int .i64 (runC (fun a => 2 ^ a) (-1) 0 (on.map (idxO f.n))).2]) ∧ Below w.heap.size w w' := by
  have k1 := (Below.refl w.heap.size w).alloc (Nat.le_refl _) (.cells f.cells 40)
  have P1 := Cells.new w f.cells 40
  obtain ⟨w1, hw1⟩ : ∃ u, w.alloc (.cells f.cells 40) = u := ⟨_, rfl⟩
  have hw1' : w.alloc (.cells #[.string f.nm, .slice f.PA f.pn f.pc, .slice f.IA f.iN f.ic, .slice f.DA f.dn f.dc, .slice f.KA f.kn f.kc, .slice f.QA f.qn f.qc, .slice f.OA f.n f.oc, .slice f.RA f.rn f.rc, .slice f.GA f.gn f.gc, .slice f.VA f.vn f.vc] 40) = w1 := hw1
  rw [hw1] at k1 P1
  have P1 := Lib.hid P1
  have OL := Lib.hid (hos.keep k1)
  have NL := Lib.hid (hon.keep k1)
  have K1 := Lib.hid k1
  obtain ⟨ix, hix⟩ : ∃ x, on.map (idxO f.n) = x := ⟨_, rfl⟩
  obtain ⟨R, hR⟩ : ∃ r, runC (fun a => 2 ^ a) (-1) 0 ix = r := ⟨_, rfl⟩
  rw [hix, hR]
  have Hix := Lib.hid hix
  have HR := Lib.hid hR
  clear hix hR k1 hos hon
  go_enter Try.func14, Try.ntmps14
  have c0 := P1.out.at_ 0
  have c1 := P1.out.at_ 1
  have c2 := P1.out.at_ 2
  have c3 := P1.out.at_ 3
  have c4 := P1.out.at_ 4
  have c5 := P1.out.at_ 5
  have c6 := P1.out.at_ 6
  have c7 := P1.out.at_ 7
  have c8 := P1.out.at_ 8
  have c9 := P1.out.at_ 9
  simp only [List.getElem?_cons_zero, List.getElem?_cons_succ] at c0 c1 c2 c3 c4 c5 c6 c7 c8 c9
  go_wp2_with fail
  clear hw1 hw1' c0 c1 c2 c3 c4 c5 c6 c7 c8 c9
  go_loopw [6, 7, 8, 9] (fun s i _ _ wr => ∃ (j cc : Nat) (last : Int), i = .int .i64 (j : Nat) ∧ j ≤ m ∧ s = .int .i64 (cc : Nat) ∧ cc < 64 ∧ runC (fun a => 2 ^ a) last cc (ix.drop j) = R ∧ (j = 0 ∧ last = -1 ∨ ∃ b : Nat, last = b ∧ b < f.n ∧ 0 < j ∧ on[j - 1]? = some (optN b)) ∧ Below w1.heap.size w1 wr) (fun _ i _ _ _ => m - (intOf i).toNat)
  case atStart => exact ⟨0, 0, -1, rfl, Nat.zero_le _, rfl, by decide, HR.out, .inl ⟨rfl, rfl⟩, Below.refl _ _⟩
  case round =>
    obtain ⟨q, cc, last, rfl, hq, rfl, hcc, hrun, hlast, hb⟩ := hrel
    have Hlast := Lib.hid hlast
    have Hcc := Lib.hid hcc
    have Hb := Lib.hid hb
    clear hlast hcc hb
    by_cases hlq : q < m
    · have i4 : (q : Int) < (m : Int) := by omega
      obtain ⟨s, b, o, hs, rfl, hbl, hc0⟩ := NL.out.at_ (k := q) (by rw [hol]; exact hlq)
      have Hc := Lib.hid hc0
      have Hbl := Lib.hid hbl
      have hxq : ix[q]? = some (idxO f.n s) := by rw [← Hix.out, List.getElem?_map, hs]; rfl
      rw [drop_at hxq] at hrun
      have Hq := Lib.hid hlq
      have Hs := Lib.hid hs
      have Hrun := Lib.hid hrun
      clear hrun hxq hs hc0 hbl
      go_wp2_with fail
      go_loopw [8, 9] (fun fo i wx => ∃ k : Nat, i = .int .i64 (k : Nat) ∧ k ≤ f.n ∧ fo = .int .i64 (lastI s k) ∧ Below w1.heap.size w1 wx) (fun _ i _ => f.n - (intOf i).toNat)
      case atStart => exact ⟨0, rfl, Nat.zero_le _, rfl, Hb.out⟩
      case round =>
        obtain ⟨k, rfl, hk, rfl, hbx⟩ := hrel
        have Hbx := Lib.hid hbx
        have P2 := Lib.hid (P1.out.keep hbx)
        have hc := (hbx.cell (p := ⟨b, o + q, none⟩) Hbl.out).trans Hc.out
        clear hbx
        have c6 := P2.out.at_ 6
        simp only [List.getElem?_cons_zero, List.getElem?_cons_succ] at c6
        by_cases hlk : k < f.n
        · have i5 : (k : Int) < (f.n : Int) := by omega
          obtain ⟨s2, b2, o2, hs2, hOA, hbl2, hc2⟩ := (OL.out.keep Hbx.out).at_ (k := k) (by unfold famO; simp; exact hlk)
          obtain ⟨_, rfl⟩ := famO_at hs2
          rw [hOA] at c6
          have Hk := Lib.hid hlk
          clear hs2
          by_cases hx : optN k = s
          · have e1 : ((optN k).toList == s.toList) = true := by rw [hx]; exact beq_self_eq_true _
            have Hx := Lib.hid hx
            clear hx
            go_wp2_with fail
            go_quiet (fail)
            go_wp2_with fail
            go_roundw
            case rel => exact ⟨k + 1, by go_num, Hk.out, by rw [lastI, if_pos Hx.out], below_dn Hbx.out _⟩
            case measure => simp [intOf]; have := Hk.out; omega
          · have e1 : ((optN k).toList == s.toList) = false := beq_eq_false_iff_ne.2 (fun h => hx (toList_inj h))
            have Hx := Lib.hid hx
            clear hx
            go_wp2_with fail
            go_quiet (fail)
            go_wp2_with fail
            go_roundw
            case rel => exact ⟨k + 1, by go_num, Hk.out, by rw [lastI, if_neg Hx.out], below_dn Hbx.out _⟩
            case measure => simp [intOf]; have := Hk.out; omega
        · have hkn : k = f.n := by omega
          subst hkn
          have hli := lastI_idx (n := f.n) (s := s) hn6
          have hrun := Hrun.out
          cases hi : idxO f.n s with
          | none =>
            rw [hi] at hrun hli
            simp only at hli
            rw [hli]
            have HE := Lib.hid (show R = (0, 16) from hrun.symm)
            clear hrun hi hli
            go_wp2_with fail
            go_ret2
            rw [HE.out]
            exact ⟨rfl, below_on K1.out Hbx.out⟩
          | some a =>
            rw [hi] at hrun hli
            simp only at hli
            rw [hli]
            obtain ⟨ha, hsa⟩ := idxO_some hn6 hi
            rw [runC] at hrun
            have e0 : decide ((a : Int) < 0) = false := by simp
            clear hi hli
            have hlast := Hlast.out
            by_cases hq0 : q = 0
            · subst hq0
              have hl : last = -1 := by
                rcases hlast with h | ⟨_, _, _, h, _⟩
                · exact h.2
                · omega
              subst hl
              rw [if_neg (by omega)] at hrun
              obtain ⟨o1, o2⟩ := or_low cc Hcc.out a (by omega)
              have e2 : decide ((0 : Int) < 0) = false := by decide
              have HE := Lib.hid hrun
              clear hrun hlast
              go_wp2_with fail
              go_quiet (fail)
              go_wp2_with fail
              go_roundw
              case rel => exact ⟨0 + 1, cc ||| 2 ^ a, (a : Int), by go_num, Hq.out, rfl, o2, HE.out, .inr ⟨a, rfl, ha, by omega, by rw [show 0 + 1 - 1 = 0 from rfl, ← hsa]; exact Hs.out⟩, below_dn Hbx.out _⟩
              case measure => simp [intOf]; have := Hq.out; omega
            · obtain ⟨b', hl, hbn, hq1, hob⟩ : ∃ b' : Nat, last = b' ∧ b' < f.n ∧ 0 < q ∧ on[q - 1]? = some (optN b') := by
                rcases hlast with h | h
                · exact absurd h.1 hq0
                · exact h
              subst hl
              obtain ⟨s3, b3, o3, hs3, hA3, hbl3, hc3⟩ := (NL.out.keep Hbx.out).at_ (k := q - 1) (by rw [hol]; omega)
              rw [hob] at hs3
              injection hs3 with hs3
              subst hs3
              injection hA3 with hA3
              injection hA3 with hA3 hA4
              subst hA3
              have ho : o = o3 := by omega
              subst ho
              have e4 : (0 : Int) < (q : Int) := by omega
              have e5 : ((q : Int) - 1) = ((q - 1 : Nat) : Int) := by omega
              have i6 : ((q - 1 : Nat) : Int) < (m : Int) := by omega
              obtain ⟨l1, l2⟩ := leq_opt a (by omega) b' (by omega)
              by_cases hab : a ≤ b'
              · rw [if_pos (by omega)] at hrun
                by_cases hab2 : a = b'
                · rw [decide_eq_true hab2] at l2
                  have HE := Lib.hid (show R = (0, 8) from hrun.symm)
                  clear hrun hlast
                  go_wp2_with fail
                  go_quiet (fail)
                  go_wp2_with fail
                  go_ret2
                  rw [HE.out]
                  exact ⟨rfl, below_on K1.out (below_dn Hbx.out _)⟩
                · rw [decide_eq_true (show a < b' by omega)] at l1
                  have l3 : ¬ (Op.bytesLess (optN a).toList (optN b').toList = false ∧ ((optN a).toList == (optN b').toList) = false) := fun h => Bool.noConfusion (l1.symm.trans h.1)
                  clear l1 l2
                  have HE := Lib.hid (show R = (0, 8) from hrun.symm)
                  clear hrun hlast
                  go_wp2_with fail
                  go_quiet (fail)
                  go_wp2_with fail
                  go_ret2
                  rw [HE.out]
                  exact ⟨rfl, below_on K1.out (below_dn Hbx.out _)⟩
              · rw [if_neg (by omega)] at hrun
                have l3 : (Op.bytesLess (optN a).toList (optN b').toList = false ∧ ((optN a).toList == (optN b').toList) = false) := ⟨l1.trans (decide_eq_false (by omega)), l2.trans (decide_eq_false (by omega))⟩
                clear l1 l2
                obtain ⟨o1, o2⟩ := or_low cc Hcc.out a (by omega)
                have HE := Lib.hid hrun
                clear hrun hlast
                go_wp2_with fail
                go_quiet (fail)
                go_wp2_with fail
                go_roundw
                case rel => exact ⟨q + 1, cc ||| 2 ^ a, (a : Int), by go_num, Hq.out, rfl, o2, HE.out, .inr ⟨a, rfl, ha, by omega, by rw [show q + 1 - 1 = q by omega, ← hsa]; exact Hs.out⟩, below_dn Hbx.out _⟩
                case measure => simp [intOf]; have := Hq.out; omega
    · have hqm : q = m := by omega
      rw [hqm, List.drop_of_length_le (by rw [← Hix.out, List.length_map, hol]; exact Nat.le_refl _)] at hrun
      have HE := Lib.hid (show R = (cc, 0) from hrun.symm)
      clear hrun
      go_wp2_with fail
      go_ret2
      rw [HE.out]
      exact ⟨rfl, below_on K1.out Hb.out⟩
end Go.Proofs.Ytmfmpkihmadjmaa
