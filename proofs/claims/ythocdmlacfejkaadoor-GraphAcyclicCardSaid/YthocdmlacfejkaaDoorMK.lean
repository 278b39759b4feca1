/- Graph: Ord, Ror, Rcy. -/
import Derived.Test.YthocdmlacfejkaaDoorME
import Derived.Test.YthocdmlacfejkaaDoorMJ
import Derived.Test.YthocdmlacfejkaaDoorMF
namespace Go.Proofs.YthocdmlacfejkaaDoor
open Go.RowKit
/-- Whether a node can come next: it is not done, and nothing before it is missing. -/
def okO (es : List (Nat × Nat)) (done v : Nat) : Bool := !done.testBit v && diff (adjR es v) done == 0
def nextO (es : List (Nat × Nat)) (n done : Nat) : Option Nat := (List.range n).find? (okO es done)
/-- The order, from some nodes that are done on. -/
def ordO (es : List (Nat × Nat)) (n : Nat) : Nat → Nat → Option (List Nat)
  | 0, _ => some []
  | k + 1, done => match nextO es n done with
    | none => none
    | some v => (ordO es n k (done ||| sing v)).map (v :: ·)
theorem ordO_none {es : List (Nat × Nat)} {n k done : Nat} (h : nextO es n done = none) : ordO es n (k + 1) done = none := by rw [ordO, h]
theorem ordO_some {es : List (Nat × Nat)} {n k done v : Nat} (h : nextO es n done = some v) : ordO es n (k + 1) done = (ordO es n k (done ||| sing v)).map (v :: ·) := by rw [ordO, h]
theorem map_pre {o : Option (List Nat)} {pre : List Nat} {v : Nat} : (o.map (v :: ·)).map (pre ++ ·) = o.map ((pre ++ [v]) ++ ·) := by
  cases o with
  | none => rfl
  | some l => simp
def ordC (es : List (Nat × Nat)) (n : Nat) : Int := match ordO es n n 0 with | none => 30 | some _ => 0
def ordLs (es : List (Nat × Nat)) (n : Nat) : List Nat := (ordO es n n 0).getD []
def OrdPost (es : List (Nat × Nat)) (n : Nat) (w : World) (e : Ending) (w' : World) : Prop :=
  (∃ A c, e = .returned (.tuple #[.slice A (ordLs es n).length c, .int .i64 (ordC es n)]) ∧ NL w.heap.size w' A (ordLs es n)) ∧ Below w.heap.size w w'
theorem ord_no {es : List (Nat × Nat)} {n : Nat} (h : ordO es n n 0 = none) : ordC es n = 30 ∧ ordLs es n = [] := by unfold ordC ordLs; rw [h]; exact ⟨rfl, rfl⟩
theorem ord_yes {es : List (Nat × Nat)} {n : Nat} {l : List Nat} (h : ordO es n n 0 = some l) : ordC es n = 0 ∧ ordLs es n = l := by unfold ordC ordLs; rw [h]; exact ⟨rfl, rfl⟩
theorem diff_zero (a b : Nat) (ha : a < 18446744073709551616) (hb : b < 18446744073709551616) : (bits .andNot .u64 (a : Int) (b : Int) != 0) = !(diff a b == 0) := by
  rw [bits_diff a b ha hb]
  cases h : diff a b with
  | zero => rfl
  | succ k => simp; omega
set_option maxRecDepth 100000 in
set_option maxHeartbeats 8000000 in
theorem order_any (n : Nat) (A : Option Addr) (m c : Nat) (es : List (Nat × Nat)) (w : World) (h : EL w A m (cast es)) (hg : Fine n es) :
    Calls Tryd.prog 30 #[gV n A m c] w (OrdPost es n w) := by
  obtain ⟨i0, hi, hz0, hz1, hz2⟩ := info_parts info_int
  have hlen := h.len
  have hm : m ≤ 4096 := by have := hg.len; omega
  have hn64 := hg.n64
  have kv := (Below.refl w.heap.size w).alloc (Nat.le_refl _) (.cells #[.int .i64 (n : Nat), .slice A m c] 26)
  have G0 := Lib.hid (Cells.new w #[.int .i64 (n : Nat), .slice A m c] 26)
  have HC := check_any (n : Int) A m c (cast es) (w.alloc (.cells #[.int .i64 (n : Nat), .slice A m c] 26)) (h.keep kv) (by omega)
  rw [hg.check] at HC
  have HC := Lib.hid HC
  have HP := Lib.hid (fun w' (hb' : Below w.heap.size w w') => previous_any n A m c es w' (h.keep hb') hg.low64 hm)
  have HL := Lib.hid (fun i => adjR_under hg.low64 i)
  have Kv := Lib.hid kv
  clear h hg hlen kv
  go_enter Tryd.func30, Tryd.ntmps30
  go_wp2_with fail
  refine HC.out.mono ?_
  rintro e w1 ⟨rfl, hb1⟩
  have G1 := Lib.hid (G0.out.keep hb1)
  have B1 := Lib.hid (below_on Kv.out hb1)
  have g0 := G1.out.at_ 0
  have g1 := G1.out.at_ 1
  simp only [List.getElem?_cons_zero, List.getElem?_cons_succ] at g0 g1
  clear hb1
  go_wp2_with fail
  refine (HP.out _ B1.out).mono ?_
  rintro e w2 ⟨q, rfl, hq, _, hb2⟩
  have Q2 := Lib.hid hq
  have G2 := Lib.hid (G1.out.keep hb2)
  have B2 := Lib.hid (below_on B1.out hb2)
  clear hb2 hq g0 g1
  have g0 := G2.out.at_ 0
  simp only [List.getElem?_cons_zero] at g0
  have hsz := B2.out.size
  go_wp2_with (at_make; refine wpList_make_own _ rfl _ _ 50 rfl w2.heap.size 3 i0 (.int .i64 0) 1 Tryd.underlying50 hi hz0 hz1 .i64 .i64 (n : Int) n rfl rfl rfl (by rw [hz2]; omega) (by unfold maxLen; omega) (Nat.le_refl _) ?_)
  intro w3 hown hgr
  have O3 := Lib.hid hown
  have b3 := (Below.refl w2.heap.size w2).grown hgr (Nat.le_refl _) (by simp)
  have B3 := Lib.hid b3
  have g0 := (G2.out.keep b3).at_ 0
  simp only [List.getElem?_cons_zero] at g0
  clear hown hgr b3
  go_wp2_with fail
  go_loopw [6, 7, 8, 21] (fun dv ov _ cv wr => ∃ (d j : Nat) (pre : List Nat), dv = .int .u64 (d : Nat) ∧ d < 18446744073709551616 ∧ cv = .int .i64 (j : Nat) ∧ j ≤ n ∧ pre.length = j ∧ ordO es n n 0 = (ordO es n (n - j) d).map (pre ++ ·) ∧ wr.ownsRow w2.heap.size 3 1 ov pre.length (nats pre) ∧ Below w2.heap.size w2 wr) (fun _ _ _ cv _ => n - (intOf cv).toNat)
  case atStart => exact ⟨0, 0, [], rfl, by omega, rfl, Nat.zero_le _, rfl, by simp, O3.out, B3.out⟩
  case round =>
    obtain ⟨d, j, pre, rfl, hd64, rfl, hj, hpl, hord, hown, hb⟩ := hrel
    have Hord := Lib.hid hord
    have O6 := Lib.hid hown
    have B6 := Lib.hid hb
    have G6 := Lib.hid (G2.out.keep hb)
    have Q6 := Lib.hid (Q2.out.keep hb)
    have Hpl := Lib.hid hpl
    have hs6 := hb.size
    clear hord hown hb hpl
    obtain ⟨wa, rfl⟩ : ∃ wa : World, wa = wr := ⟨_, rfl⟩
    have g0 := G6.out.at_ 0
    simp only [List.getElem?_cons_zero] at g0
    by_cases hlt : j < n
    · obtain ⟨r, hr⟩ : ∃ r, n - j = r + 1 := ⟨n - j - 1, by omega⟩
      rw [hr] at Hord
      have Hr := Lib.hid hr
      have Hlt := Lib.hid hlt
      clear hr
      go_wp2_with fail
      clear hlt
      go_loop [8] (fun av => ∃ k : Nat, av = .int .i64 (k : Nat) ∧ k ≤ n ∧ (List.range k).find? (okO es d) = none) (fun av => n - (intOf av).toNat)
      case atStart => exact ⟨0, rfl, Nat.zero_le _, rfl⟩
      case round =>
        obtain ⟨k, rfl, hk, hno⟩ := hrel
        have Hno := Lib.hid hno
        clear hno
        by_cases hkn : k < n
        · have Hkn := Lib.hid hkn
          have hk64 : k < 64 := by omega
          have hki : (k : Int) < 64 := by omega
          have Hhas := has_any d k wa hk64 hd64
          have Hup := Lib.hid (find_range (p := okO es d) k)
          obtain ⟨hb1, hhb⟩ : ∃ hb1, d.testBit k = hb1 := ⟨_, rfl⟩
          rw [hhb] at Hhas
          have Hhas := Lib.hid Hhas
          have Hhb := Lib.hid hhb
          clear hhb
          cases hb1 with
          | true =>
            have Hn := Lib.hid (show (List.range (k + 1)).find? (okO es d) = none by rw [Hup.out, Hno.out]; unfold okO; rw [Hhb.out]; rfl)
            go_wp2_with fail
            refine Hhas.out.mono ?_
            rintro e w7 ⟨rfl, rfl⟩
            go_wp2_with fail
            go_round
            case rel => exact ⟨k + 1, by go_num, Hkn.out, Hn.out⟩
            case measure => simp [intOf]; have := Hkn.out; omega
          | false =>
            have l0 := (Q6.out.at_ k).trans (sets_at (adjR es) hk64)
            have ub := lt_under'.1 (HL.out k)
            have hdz := diff_zero (adjR es k) d ub hd64
            obtain ⟨z, hz⟩ : ∃ z, (diff (adjR es k) d == 0) = z := ⟨_, rfl⟩
            rw [hz] at hdz
            have Hz := Lib.hid hz
            clear hz ub
            cases z with
            | false =>
              have Hn := Lib.hid (show (List.range (k + 1)).find? (okO es d) = none by rw [Hup.out, Hno.out]; unfold okO; rw [Hhb.out, Hz.out]; rfl)
              go_wp2_with fail
              refine Hhas.out.mono ?_
              rintro e w7 ⟨rfl, rfl⟩
              go_wp2_with fail
              go_round
              case rel => exact ⟨k + 1, by go_num, Hkn.out, Hn.out⟩
              case measure => simp [intOf]; have := Hkn.out; omega
            | true =>
              have Hnx := Lib.hid (show nextO es n d = some k from find_at (j := k) (fun x hx => by
                rw [List.take_range, Nat.min_eq_left (by omega)] at hx
                have := List.find?_eq_none.1 Hno.out x hx
                simpa using this) (List.getElem?_range hkn) (by unfold okO; rw [Hhb.out, Hz.out]; rfl))
              have Hord2 := Lib.hid (show ordO es n n 0 = (ordO es n r (d ||| sing k)).map ((pre ++ [k]) ++ ·) by rw [Hord.out, ordO_some Hnx.out, map_pre])
              have t0 : ((k : Int) == (n : Int)) = false := by rw [beq_eq_false_iff_ne]; omega
              have hpl := Hpl.out
              have Hs := Lib.hid (single_any k wa hk64)
              have e1 : bits .or .u64 (d : Int) ((sing k : Nat) : Int) = ((d ||| sing k : Nat) : Int) := bits_or_u64_nat _ _ hd64 (sing_lt hk64)
              have Hd2 := Lib.hid (or_lt hd64 (sing_lt hk64))
              go_wp2_with fail
              refine Hhas.out.mono ?_
              rintro e w7 ⟨rfl, rfl⟩
              go_wp2_with fail
              refine Hs.out.mono ?_
              rintro e w7 ⟨rfl, rfl⟩
              go_wp2_with (at_builtin; refine wpList_append_own _ rfl _ _ 50 rfl w2.heap.size 3 i0 (.int .i64 0) 1 8 Tryd.underlying50 hi hz0 hz1 hz2 rfl (by decide) _ _ _ rfl (O6.out.alloc _) ⟨wa.heap.size, 0, none⟩ 1 1 [.int .i64 (k : Nat)] rfl rfl ?c1 ?c2 ?c3 ?c4 ?c5 ?_)
              case c1 =>
                intro q u hu
                match q, hu with
                | 0, hu => simp at hu; subst hu; simp [Addr.add]
              case c2 => intro u hu; simp at hu; subst hu; rfl
              case c3 => unfold maxLen; omega
              case c4 => omega
              case c5 => simp; omega
              intro v' w8 hown' hgrow _
              have B8 := Lib.hid ((B6.out.alloc hs6 (.cells #[.int .i64 (k : Nat)] 3)).grown hgrow (by simp; omega) (fun k hk => own_ge O6.out hk))
              have O8 := Lib.hid (show w8.ownsRow w2.heap.size 3 1 v' (pre ++ [k]).length (nats (pre ++ [k])) by
                rw [List.length_append, nats_snoc, Hpl.out]; exact hown')
              clear hown' hgrow
              go_wp2_with fail
              go_roundw
              case rel => exact ⟨_, j + 1, pre ++ [k], rfl, Hd2.out, by go_num, Hlt.out, by rw [List.length_append, Hpl.out]; rfl, by rw [Hord2.out, show n - (j + 1) = r by have := Hr.out; omega], O8.out, B8.out⟩
              case measure => simp [intOf]; have := Hlt.out; omega
        · have hkn' : k = n := by omega
          subst hkn'
          have Hnx := Lib.hid (show nextO es k d = none from Hno.out)
          have Hf := Lib.hid (ord_no (show ordO es k k 0 = none by rw [Hord.out, ordO_none Hnx.out]; rfl))
          have t0 : ((k : Int) == (k : Int)) = true := by simp
          have Bf := Lib.hid (below_on B2.out B6.out)
          clear hkn
          go_wp2_with fail
          go_ret2
          exact ⟨⟨none, 0, by rw [Hf.out.1, Hf.out.2]; rfl, by rw [Hf.out.2]; exact fun k n hk => by simp at hk⟩, Bf.out⟩
    · have hjn : j = n := by omega
      have Ho := Hord.out
      rw [hjn, Nat.sub_self] at Ho
      simp only [ordO, Option.map_some, List.append_nil] at Ho
      have Hf := Lib.hid (ord_yes Ho)
      obtain ⟨A7, c7, hv7, hn7, _, _⟩ := own_nats O6.out
      subst hv7
      have N7 := Lib.hid (hn7.down hsz)
      have Bf := Lib.hid (below_on B2.out B6.out)
      clear Ho hn7 hjn
      go_wp2_with fail
      go_ret2
      exact ⟨⟨A7, c7, by rw [Hf.out.1, Hf.out.2]; rfl, by rw [Hf.out.2]; exact N7.out⟩, Bf.out⟩
end Go.Proofs.YthocdmlacfejkaaDoor
namespace Go.Proofs.YthocdmlacfejkaaDoor
open Go.RowKit
/-- n truths. -/
def boolsN (n : Nat) (f : Nat → Bool) : List Value := (List.range n).map fun i => Value.bool (f i)
theorem boolsN_at {n : Nat} (f : Nat → Bool) {i : Nat} (h : i < n) : (boolsN n f)[i]? = some (.bool (f i)) := by unfold boolsN; simp [h]
theorem boolsN_set {n : Nat} (f : Nat → Bool) (i : Nat) (v : Bool) : (boolsN n f).set i (.bool v) = boolsN n fun j => if i = j then v else f j := by
  apply List.ext_getElem?
  intro j
  rw [List.getElem?_set]
  unfold boolsN
  by_cases h : i = j
  · subst h
    by_cases h2 : i < n
    · simp [h2]
    · rw [if_pos rfl, if_neg (by simpa using h2), List.getElem?_eq_none (by simp; omega)]
  · rw [if_neg h]
    by_cases h2 : j < n
    · simp [h2, h]
    · rw [List.getElem?_eq_none (by simp; omega), List.getElem?_eq_none (by simp; omega)]
theorem boolsN_or (n d v : Nat) : (boolsN n fun j => if v = j then true else d.testBit j) = boolsN n fun j => (d ||| sing v).testBit j := by
  unfold boolsN
  refine List.map_congr_left fun j _ => ?_
  show Value.bool (if v = j then true else d.testBit j) = Value.bool ((d ||| sing v).testBit j)
  rw [Nat.testBit_or, sing_bit]
  by_cases h : v = j <;> simp [h]
theorem info_bool : (Tryd.prog.info? 4).map (fun i => (i.zero, i.size, i.bytes)) = some (some (.bool false), 1, 1) := by kernel_rfl
theorem made_bools {w w1 : World} {n : Nat} (hown : w1.ownsRow w.heap.size 4 1 (.slice (some ⟨w.heap.size, 0, none⟩) n n) n (madeCells #[.bool false] n).toList) : Row w1 w.heap.size 4 (boolsN n fun _ => false) := by
  rcases hown.2 with ⟨h1, _⟩ | ⟨g', cap, cur, h1, hg, hh, hnc, hcm, hcs, hx⟩
  · cases h1
  · injection h1 with h1 _ h3
    injection h1 with h1
    injection h1 with h1
    subst h1 h3
    rw [List.take_of_length_le (by rw [Array.length_toList, hcs]; exact Nat.le_refl _)] at hx
    have e : cur.toList = boolsN n fun _ => false := by
      rw [hx]
      apply List.ext_getElem?
      intro i
      by_cases hi : i < n
      · rw [boolsN_at _ hi]; simp [madeCells, hi, Nat.mod_one]
      · rw [List.getElem?_eq_none (by simp [madeCells]; omega), List.getElem?_eq_none (by unfold boolsN; simp; omega)]
    unfold Row
    rw [← e]
    simpa using hh
/-- Whether all edges to a node come from nodes that are done. -/
def inE (d b : Nat) (e : Nat × Nat) : Bool := e.2 != b || d.testBit e.1
theorem inE_all {es : List (Nat × Nat)} {d b : Nat} : es.all (inE d b) = (diff (adjR es b) d == 0) := by
  rw [Bool.eq_iff_iff, List.all_eq_true, beq_iff_eq]
  constructor
  · intro h
    apply Nat.eq_of_testBit_eq
    intro i
    rw [diff_bit, Nat.zero_testBit]
    cases h1 : (adjR es b).testBit i with
    | false => rfl
    | true =>
      have := h _ (adjR_bit.1 h1)
      simp only [inE, bne_self_eq_false, Bool.false_or] at this
      rw [this]; rfl
  · rintro h ⟨x, y⟩ he
    unfold inE
    by_cases e : y = b
    · subst e
      have h1 : (diff (adjR es y) d).testBit x = false := by rw [h, Nat.zero_testBit]
      rw [diff_bit, adjR_bit.2 he] at h1
      simp at h1
      simp [h1]
    · simp [e]
theorem take_all {es : List (Nat × Nat)} {k : Nat} {e : Nat × Nat} (p : Nat × Nat → Bool) (hk : es[k]? = some e) : (es.take (k + 1)).all p = ((es.take k).all p && p e) := by
  rw [List.take_add_one, hk, List.all_append]; simp
def frmO (es : List (Nat × Nat)) (n d k : Nat) : Option Nat := (List.range' k (n - k)).find? (okO es d)
theorem frmO_step {es : List (Nat × Nat)} {n d k : Nat} (h : k < n) : frmO es n d k = if okO es d k then some k else frmO es n d (k + 1) := by
  unfold frmO
  obtain ⟨r, hr⟩ : ∃ r, n - k = r + 1 := ⟨n - k - 1, by omega⟩
  rw [hr, List.range'_succ, List.find?_cons, show n - (k + 1) = r by omega]
  cases okO es d k <;> rfl
theorem frmO_end (es : List (Nat × Nat)) (n d : Nat) : frmO es n d n = none := by unfold frmO; rw [Nat.sub_self]; rfl
theorem frmO_zero (es : List (Nat × Nat)) (n d : Nat) : frmO es n d 0 = nextO es n d := by unfold frmO nextO; rw [Nat.sub_zero, ← List.range_eq_range']
theorem nextO_lt {es : List (Nat × Nat)} {n d v : Nat} (h : nextO es n d = some v) : v < n := List.mem_range.1 (List.mem_of_find?_eq_some h)
set_option maxRecDepth 100000 in
set_option maxHeartbeats 8000000 in
theorem refOrder_any (n : Nat) (A : Option Addr) (m c : Nat) (es : List (Nat × Nat)) (w : World) (h : EL w A m (cast es)) (hg : Fine n es) :
    Calls Tryd.prog 55 #[gV n A m c] w (OrdPost es n w) := by
  obtain ⟨i0, hi, hz0, hz1, hz2⟩ := info_parts info_int
  obtain ⟨j0, hj, jz0, jz1, jz2⟩ := info_parts info_bool
  have hlen := h.len
  have hm : m ≤ 4096 := by have := hg.len; omega
  have hn64 := hg.n64
  have kv := (Below.refl w.heap.size w).alloc (Nat.le_refl _) (.cells #[.int .i64 (n : Nat), .slice A m c] 35)
  have G0 := Lib.hid (Cells.new w #[.int .i64 (n : Nat), .slice A m c] 35)
  have E0 := Lib.hid (h.keep kv)
  have HLow := Lib.hid hg.low
  have Hlen := Lib.hid hlen
  have Kv := Lib.hid kv
  clear h hg hlen kv
  go_enter Tryd.func55, Tryd.ntmps55
  have g0 := G0.out.at_ 0
  simp only [List.getElem?_cons_zero] at g0
  obtain ⟨wa, hwa⟩ : ∃ u, w.alloc (.cells #[.int .i64 (n : Nat), .slice A m c] 35) = u := ⟨_, rfl⟩
  rw [hwa] at G0 E0 Kv g0
  go_wp2_with (at_make; refine wpList_make_full _ rfl _ _ 121 rfl wa.heap.size 4 j0 (.bool false) 1 Tryd.underlying121 hj jz0 jz1 _ _ _ _ n rfl rfl rfl rfl (by rw [jz2]; omega) (by unfold maxLen; omega) (Nat.le_refl _) ?_)
  intro w2 hown hgr
  have R2 := made_bools hown
  have e0 : (boolsN n fun _ => false) = boolsN n fun j => (0 : Nat).testBit j := by
    unfold boolsN
    exact List.map_congr_left fun j _ => by show Value.bool false = Value.bool (Nat.testBit 0 j); rw [Nat.zero_testBit]
  rw [e0] at R2
  have R2 := Lib.hid R2
  have B2 := Lib.hid ((Below.refl wa.heap.size wa).grown hgr (Nat.le_refl _) (by simp))
  clear hown hgr g0 e0
  obtain ⟨p, hp⟩ : ∃ p, wa.heap.size = p := ⟨_, rfl⟩
  rw [hp] at R2 B2 ⊢
  have HG := Lib.hid (fun w' (hb' : Below p wa w') => G0.out.keep (w' := w') (by rw [hp]; exact hb'))
  have HE := Lib.hid (fun w' (hb' : Below p wa w') => E0.out.keep (w' := w') (by rw [hp]; exact hb'))
  have HB := Lib.hid (fun w' (hb' : Below p wa w') => below_on Kv.out (w' := w') (by rw [hp]; exact hb'))
  have hpw : w.heap.size ≤ p := by rw [← hp]; exact Kv.out.size
  clear hp
  go_wp2_with fail
  go_loopw [4, 6, 7, 8, 9] (fun ov _ _ _ _ wr => ∃ (d j : Nat) (pre : List Nat), d < 18446744073709551616 ∧ j ≤ n ∧ pre.length = j ∧ ordO es n n 0 = (ordO es n (n - j) d).map (pre ++ ·) ∧ wr.ownsRow (p + 1) 3 1 ov pre.length (nats pre) ∧ Row wr p 4 (boolsN n fun v => d.testBit v) ∧ Below p wa wr) (fun ov _ _ _ _ _ => n - (match ov with | .slice _ k _ => k | _ => 0))
  case atStart => exact ⟨0, 0, [], by omega, Nat.zero_le _, rfl, by simp, World.ownsRow_nil _ _ _ _, R2.out, B2.out⟩
  case round =>
    obtain ⟨d, j, pre, hd64, hj, hpl, hord, hown, hrow, hb⟩ := hrel
    obtain ⟨Ao, co, hov, hno, _, _⟩ := own_nats hown
    subst hov
    have Hord := Lib.hid hord
    have O6 := Lib.hid hown
    have R6 := Lib.hid hrow
    have B6 := Lib.hid hb
    have N6 := Lib.hid hno
    have hpr := hrow.cells.lt
    have g0 := (HG.out _ hb).at_ 0
    have g1 := (HG.out _ hb).at_ 1
    simp only [List.getElem?_cons_zero, List.getElem?_cons_succ] at g0 g1
    rw [hpl] at O6 ⊢
    have Hpl := Lib.hid hpl
    clear hord hown hrow hb hpl hno
    obtain ⟨wb, rfl⟩ : ∃ wb : World, wb = wr := ⟨_, rfl⟩
    by_cases hlt : j < n
    · obtain ⟨r, hr⟩ : ∃ r, n - j = r + 1 := ⟨n - j - 1, by omega⟩
      rw [hr] at Hord
      have Hr := Lib.hid hr
      have Hlt := Lib.hid hlt
      have en : IntKind.i64.wrap ((n : Int) - 1) = (n : Int) - 1 := IntWalk.i64_in _ (by omega)
      clear hr
      go_wp2_with fail
      clear hlt
      go_loop [6, 7, 8, 9] (fun nv bv _ _ => ∃ k : Nat, bv = .int .i64 ((k : Int) - 1) ∧ k ≤ n ∧ nv = .int .i64 (bI (frmO es n d k))) (fun _ bv _ _ => (intOf bv + 1).toNat)
      case atStart => exact ⟨n, rfl, Nat.le_refl _, by rw [frmO_end]; rfl⟩
      case round =>
        obtain ⟨k, rfl, hk, rfl⟩ := hrel
        cases k with
        | zero =>
          rw [frmO_zero]
          cases hnx : nextO es n d with
          | none =>
            have Hf := Lib.hid (ord_no (show ordO es n n 0 = none by rw [Hord.out, ordO_none hnx]; rfl))
            have Bf := Lib.hid (HB.out _ B6.out)
            clear hnx
            have t0 : decide ((-1 : Int) < 0) = true := by decide
            simp only [bI]
            go_wp2_with fail
            go_ret2
            exact ⟨⟨none, 0, by rw [Hf.out.1, Hf.out.2]; rfl, by rw [Hf.out.2]; exact fun k n hk => by simp at hk⟩, Bf.out⟩
          | some v =>
            have hv := nextO_lt hnx
            have hvi : (v : Int) < n := by omega
            have Hord2 := Lib.hid (show ordO es n n 0 = (ordO es n r (d ||| sing v)).map ((pre ++ [v]) ++ ·) by rw [Hord.out, ordO_some hnx, map_pre])
            have Hd2 := Lib.hid (or_lt hd64 (sing_lt (show v < 64 by omega)))
            have t0 : decide ((v : Int) < 0) = false := decide_eq_false (by omega)
            have z0 := (R6.out.cells.at_ v).trans (boolsN_at _ hv)
            have f0 := R6.out.cells.fz v
            obtain ⟨x0, hx0⟩ : ∃ x, d.testBit v = x := ⟨_, rfl⟩
            rw [hx0] at z0
            have R7 := R6.out.set v (.bool true)
            rw [boolsN_set, boolsN_or] at R7
            have O7 := Lib.hid (ownsRow_setCell_below O6.out (a := ⟨p, v, none⟩) (Nat.lt_succ_self p) (.bool true))
            have B7 := Lib.hid (B6.out.setCell (p := ⟨p, v, none⟩) (Nat.le_refl _) (.bool true))
            have hs7 : p + 1 ≤ (wb.setCell ⟨p, v, none⟩ (.bool true)).heap.size := by simp [World.setCell]; omega
            obtain ⟨w7, hw7⟩ : ∃ u, wb.setCell ⟨p, v, none⟩ (.bool true) = u := ⟨_, rfl⟩
            rw [hw7] at R7 O7 B7 hs7
            have R7 := Lib.hid R7
            clear hnx hx0 hv
            simp only [bI]
            go_wp2_with (at_builtin; refine wpList_append_own _ rfl _ _ 50 rfl (p + 1) 3 i0 (.int .i64 0) 1 8 Tryd.underlying50 hi hz0 hz1 hz2 rfl (by decide) _ _ _ rfl (O7.out.alloc _) ⟨w7.heap.size, 0, none⟩ 1 1 [.int .i64 (v : Nat)] rfl rfl ?c1 ?c2 ?c3 ?c4 ?c5 ?_)
            case c2 => rfl
            case c3 => unfold maxLen; omega
            case c4 => omega
            case c5 => omega
            intro v' w8 hown' hgrow _
            have b8 := ((Below.refl (p + 1) w7).alloc hs7 (.cells #[.int .i64 (v : Nat)] 3)).grown hgrow (by simp; omega) (fun k hk => own_ge O7.out hk)
            have B8 := Lib.hid (B7.out.trans (b8.mono (Nat.le_succ p)))
            have R8 := Lib.hid (show Row w8 p 4 (boolsN n fun j => (d ||| sing v).testBit j) from by
              have h1 := R7.out
              unfold Row at h1 ⊢
              rw [b8.block p (Nat.lt_succ_self p), h1])
            have O8 := Lib.hid (show w8.ownsRow (p + 1) 3 1 v' (pre ++ [v]).length (nats (pre ++ [v])) by
              rw [List.length_append, nats_snoc, Hpl.out]; exact hown')
            obtain ⟨A8, c8, hv8, _, _, _⟩ := own_nats O8.out
            subst hv8
            have Hl8 := Lib.hid (show (pre ++ [v]).length = j + 1 by rw [List.length_append, Hpl.out]; rfl)
            clear hown' hgrow b8
            go_wp2_with fail
            go_roundw
            case rel => exact ⟨_, j + 1, pre ++ [v], Hd2.out, Hlt.out, Hl8.out, by rw [Hord2.out, show n - (j + 1) = r by have := Hr.out; omega], O8.out, R8.out, B8.out⟩
            case measure => have := Hlt.out; have := Hpl.out; simp; omega
        | succ k =>
          have hkn : k < n := by omega
          have hki : (k : Int) < n := by omega
          have hk0 : ((k + 1 : Nat) : Int) - 1 = (k : Int) := by omega
          have hk1 : IntKind.i64.wrap ((k : Int) - 1) = (k : Int) - 1 := IntWalk.i64_in _ (by omega)
          have Hst := Lib.hid (frmO_step (es := es) (d := d) hkn)
          have Hkn := Lib.hid hkn
          have z0 := (R6.out.cells.at_ k).trans (boolsN_at _ hkn)
          rw [hk0]
          obtain ⟨nv, hnv⟩ : ∃ nv, bI (frmO es n d (k + 1)) = nv := ⟨_, rfl⟩
          rw [hnv]
          have Hnv := Lib.hid hnv
          obtain ⟨db, hdb⟩ : ∃ db, d.testBit k = db := ⟨_, rfl⟩
          rw [hdb] at z0
          have Hdb := Lib.hid hdb
          clear hnv hdb hk0
          go_wp2_with fail
          go_loop [8, 9] (fun rv iv => ∃ q : Nat, iv = .int .i64 (q : Nat) ∧ q ≤ m ∧ rv = .bool (!db && (es.take q).all (inE d k))) (fun _ iv => m - (intOf iv).toNat)
          case atStart => exact ⟨0, rfl, Nat.zero_le _, by simp⟩
          case round =>
            obtain ⟨q, rfl, hq, rfl⟩ := hrel
            by_cases hqm : q < m
            · obtain ⟨e, b, o, he, rfl, _, c0, c1⟩ := (HE.out _ B6.out).at_ hqm
              obtain ⟨x, y, hxy, rfl⟩ := cast_at he
              obtain ⟨hx, hy⟩ := HLow.out _ (List.mem_of_getElem? hxy)
              simp only at c0 c1 hx hy
              have Hta := Lib.hid (take_all (inE d k) hxy)
              have Hqm := Lib.hid hqm
              have hxi : (x : Int) < n := by omega
              have y0 := (R6.out.cells.at_ x).trans (boolsN_at _ hx)
              obtain ⟨dx, hdx⟩ : ∃ dx, d.testBit x = dx := ⟨_, rfl⟩
              rw [hdx] at y0
              have Hie := Lib.hid (show inE d k (x, y) = (y != k || dx) by unfold inE; rw [hdx])
              obtain ⟨rb, hrb⟩ : ∃ rb, (!db && (es.take q).all (inE d k)) = rb := ⟨_, rfl⟩
              rw [hrb]
              have Hrb := Lib.hid hrb
              clear he hxy hdx hrb
              cases rb with
              | false =>
                have Hn := Lib.hid (show (!db && (es.take (q + 1)).all (inE d k)) = false by rw [Hta.out, ← Bool.and_assoc, Hrb.out]; rfl)
                go_wp2_with fail
                go_round
                case rel => exact ⟨q + 1, by go_num, Hqm.out, by rw [Hn.out]⟩
                case measure => simp [intOf]; have := Hqm.out; omega
              | true =>
                by_cases hyk : y = k
                · subst hyk
                  have t0 : ((y : Int) != (y : Int)) = false := by simp
                  have Hn := Lib.hid (show (!db && (es.take (q + 1)).all (inE d y)) = dx by rw [Hta.out, ← Bool.and_assoc, Hrb.out, Hie.out]; simp)
                  go_wp2_with fail
                  go_round
                  case rel => exact ⟨q + 1, by go_num, Hqm.out, by rw [Hn.out]⟩
                  case measure => simp [intOf]; have := Hqm.out; omega
                · have t0 : ((y : Int) != (k : Int)) = true := by simp; omega
                  have Hn := Lib.hid (show (!db && (es.take (q + 1)).all (inE d k)) = true by rw [Hta.out, ← Bool.and_assoc, Hrb.out, Hie.out]; simp [hyk])
                  clear hyk
                  go_wp2_with fail
                  go_round
                  case rel => exact ⟨q + 1, by go_num, Hqm.out, by rw [Hn.out]⟩
                  case measure => simp [intOf]; have := Hqm.out; omega
            · have hqf : (es.take q).all (inE d k) = es.all (inE d k) := by rw [List.take_of_length_le (by rw [Hlen.out]; omega)]
              have hok : (!db && (es.take q).all (inE d k)) = okO es d k := by rw [hqf, inE_all]; unfold okO; rw [Hdb.out]
              rw [hok]
              have Hs := Hst.out
              cases ho : okO es d k with
              | true =>
                rw [ho, if_pos rfl] at Hs
                have Hs := Lib.hid Hs
                clear ho hok hqf
                go_wp2_with fail
                go_round
                case rel => exact ⟨k, rfl, Nat.le_of_lt Hkn.out, by rw [Hs.out]; rfl⟩
                case measure => simp [intOf]
              | false =>
                rw [ho, if_neg (by simp)] at Hs
                have Hs := Lib.hid Hs
                clear ho hok hqf
                go_wp2_with fail
                go_round
                case rel => exact ⟨k, rfl, Nat.le_of_lt Hkn.out, by rw [Hs.out, Hnv.out]⟩
                case measure => simp [intOf]
    · have hjn : j = n := by omega
      have Ho := Hord.out
      rw [hjn, Nat.sub_self] at Ho
      simp only [ordO, Option.map_some, List.append_nil] at Ho
      have Hf := Lib.hid (ord_yes Ho)
      have N7 := Lib.hid (N6.out.down (Nat.le_trans hpw (Nat.le_succ p)))
      have Bf := Lib.hid (HB.out _ B6.out)
      have Hpl2 := Lib.hid (show (ordLs es n).length = j by rw [Hf.out.2]; exact Hpl.out)
      clear Ho hjn
      go_wp2_with fail
      go_ret2
      exact ⟨⟨Ao, co, by rw [Hf.out.1, Hpl2.out]; rfl, by rw [Hf.out.2]; exact N7.out⟩, Bf.out⟩
end Go.Proofs.YthocdmlacfejkaaDoor
namespace Go.Proofs.YthocdmlacfejkaaDoor
open Go.RowKit
/-- What is known of the best one. -/
def BestP (D : Nat → Int) (l : List Nat) : Prop :=
  (bestM D l = none ∧ ∀ y ∈ l, D y < 0) ∨ ∃ b, bestM D l = some b ∧ b ∈ l ∧ 0 ≤ D b ∧ (∀ y ∈ l, 0 ≤ D y → D b ≤ D y) ∧ l.find? (fun n => D n == D b) = some b
theorem BestP.snoc {D : Nat → Int} {l : List Nat} (h : BestP D l) (n : Nat) : BestP D (l ++ [n]) := by
  unfold BestP
  rw [bestM_snoc]
  by_cases h0 : 0 ≤ D n
  · rw [if_pos h0]
    rcases h with ⟨h1, h2⟩ | ⟨b, h1, h2, h3, h4, h5⟩
    · rw [h1]
      refine .inr ⟨n, rfl, by simp, h0, fun y hy hy0 => ?_, ?_⟩
      · rcases List.mem_append.1 hy with h6 | h6
        · have := h2 y h6; omega
        · rw [List.mem_singleton.1 h6]; exact Int.le_refl _
      · rw [List.find?_append, List.find?_eq_none.2 (fun y hy => by have := h2 y hy; simp; omega)]
        simp
    · rw [h1]
      simp only
      by_cases h6 : D n < D b
      · rw [if_pos h6]
        refine .inr ⟨n, rfl, by simp, h0, fun y hy hy0 => ?_, ?_⟩
        · rcases List.mem_append.1 hy with h7 | h7
          · have := h4 y h7 hy0; omega
          · rw [List.mem_singleton.1 h7]; exact Int.le_refl _
        · rw [List.find?_append, List.find?_eq_none.2 (fun y hy => by
            have := h4 y hy
            simp
            intro e
            rw [e] at this
            have := this h0
            omega)]
          simp
      · rw [if_neg h6]
        refine .inr ⟨b, rfl, by simp [h2], h3, fun y hy hy0 => ?_, ?_⟩
        · rcases List.mem_append.1 hy with h7 | h7
          · exact h4 y h7 hy0
          · rw [List.mem_singleton.1 h7]; omega
        · rw [List.find?_append, h5]; rfl
  · rw [if_neg h0]
    rcases h with ⟨h1, h2⟩ | ⟨b, h1, h2, h3, h4, h5⟩
    · refine .inl ⟨h1, fun y hy => ?_⟩
      rcases List.mem_append.1 hy with h6 | h6
      · exact h2 y h6
      · rw [List.mem_singleton.1 h6]; omega
    · refine .inr ⟨b, h1, by simp [h2], h3, fun y hy hy0 => ?_, ?_⟩
      · rcases List.mem_append.1 hy with h7 | h7
        · exact h4 y h7 hy0
        · rw [List.mem_singleton.1 h7] at hy0; omega
      · rw [List.find?_append, h5]; rfl
theorem bestP (D : Nat → Int) (l : List Nat) : BestP D l := by
  have key : ∀ (l l0 : List Nat), BestP D l0 → BestP D (l0 ++ l) := by
    intro l
    induction l with
    | nil => intro l0 h; simpa using h
    | cons n l ih =>
      intro l0 h
      have := ih (l0 ++ [n]) (h.snoc n)
      simpa using this
  have := key l [] (.inl ⟨rfl, fun y hy => by cases hy⟩)
  simpa using this
theorem cyc_list {es : List (Nat × Nat)} {a b d : Nat} (hb : bestM (dist (adjR es) (sing a)) (bitsOf (adj es a)) = some b) (hd : dist (adjR es) (sing a) b = (d : Int)) : cycM es a = some ((wayM (adj es) (dist (adjR es) (sing a)) (d + 1) a).take (d + 1)) := by
  unfold cycM
  rw [hb, Option.map_some, hd, Int.toNat_natCast]
  have hf : (bitsOf (adj es a)).find? (fun n => dist (adjR es) (sing a) n == (d : Int)) = some b := by
    rcases bestP (dist (adjR es) (sing a)) (bitsOf (adj es a)) with ⟨h1, _⟩ | ⟨x, h1, _, _, _, h5⟩
    · rw [h1] at hb; cases hb
    · rw [h1] at hb
      injection hb with hb
      subst hb
      rw [hd] at h5
      exact h5
  rw [wayM, hf, Option.getD_some, List.take_succ_cons, List.dropLast_eq_take, wayM_len]
  rfl
/-- The better one of what is known and a further one. -/
def combC (k : Nat) (o : Option (Nat × Nat)) : Option Nat → Option (Nat × Nat)
  | none => o
  | some d => match o with
    | none => some (d + 1, k)
    | some (best, at_) => if d + 1 < best then some (d + 1, k) else some (best, at_)
def bestD (es : List (Nat × Nat)) (k : Nat) (l : List Nat) : Option Nat := (bestM (dist (adjR es) (sing k)) l).map fun b => (dist (adjR es) (sing k) b).toNat
def refC (es : List (Nat × Nat)) : Nat → Option (Nat × Nat)
  | 0 => none
  | k + 1 => combC k (refC es k) (bestD es k (bitsOf (adj es k)))
theorem bestD_snoc {es : List (Nat × Nat)} {k : Nat} {l : List Nat} {j d : Nat} (o : Option (Nat × Nat)) (hd : dist (adjR es) (sing k) j = (d : Int)) : combC k o (bestD es k (l ++ [j])) = combC k (combC k o (bestD es k l)) (some d) := by
  unfold bestD
  rw [bestM_snoc, hd, if_pos (by omega)]
  rcases bestP (dist (adjR es) (sing k)) l with ⟨h1, _⟩ | ⟨b, h1, _, h3, _⟩
  · rw [h1]
    simp only [Option.map_some, Option.map_none, hd, Int.toNat_natCast]
    rfl
  · rw [h1]
    obtain ⟨x, hx⟩ : ∃ x : Nat, dist (adjR es) (sing k) b = (x : Int) := ⟨(dist (adjR es) (sing k) b).toNat, by omega⟩
    simp only [Option.map_some, hx, Int.toNat_natCast]
    by_cases h6 : (d : Int) < (x : Int)
    · rw [if_pos h6, Option.map_some, hd, Int.toNat_natCast]
      cases o with
      | none => unfold combC; simp only; rw [if_pos (by omega)]
      | some p =>
        obtain ⟨best, at_⟩ := p
        simp only [combC]
        by_cases h7 : x + 1 < best
        · rw [if_pos h7, if_pos (by omega)]
          simp only
          rw [if_pos (by omega)]
        · rw [if_neg h7]
    · rw [if_neg h6, Option.map_some, hx, Int.toNat_natCast]
      cases o with
      | none => simp only [combC]; rw [if_neg (by omega)]
      | some p =>
        obtain ⟨best, at_⟩ := p
        simp only [combC]
        by_cases h7 : x + 1 < best
        · rw [if_pos h7]
          simp only
          rw [if_neg (by omega)]
        · rw [if_neg h7]
          simp only
          rw [if_neg (by omega)]
theorem bestD_no {es : List (Nat × Nat)} {k : Nat} {l : List Nat} {j : Nat} (hd : dist (adjR es) (sing k) j < 0) : bestD es k (l ++ [j]) = bestD es k l := by
  unfold bestD
  rw [bestM_snoc, if_neg (by omega)]
theorem bits_has {n : Nat} {es : List (Nat × Nat)} (hl : Low n es) (hn : n ≤ 64) (k : Nat) : bitsOf (adj es k) = (List.range n).filter (hasE es k) := by
  unfold bitsOf
  rw [filter_upto hn (fun v hv => adj_under hl k v hv)]
  apply List.filter_congr
  intro v _
  rw [Bool.eq_iff_iff, hasE_iff]
def inC (es : List (Nat × Nat)) (k j : Nat) : Option (Nat × Nat) := combC k (refC es k) (bestD es k ((List.range j).filter (hasE es k)))
theorem inC_zero (es : List (Nat × Nat)) (k : Nat) : inC es k 0 = refC es k := rfl
theorem inC_end {n : Nat} {es : List (Nat × Nat)} (hl : Low n es) (hn : n ≤ 64) (k : Nat) : inC es k n = refC es (k + 1) := by
  unfold inC; rw [← bits_has hl hn]; rfl
theorem inC_has {es : List (Nat × Nat)} {k j d : Nat} (hh : hasE es k j = true) (hd : dist (adjR es) (sing k) j = (d : Int)) : inC es k (j + 1) = combC k (inC es k j) (some d) := by
  unfold inC
  rw [reach_up, hh, if_pos rfl, bestD_snoc _ hd]
theorem inC_no {es : List (Nat × Nat)} {k j : Nat} (h : hasE es k j = false ∨ dist (adjR es) (sing k) j < 0) : inC es k (j + 1) = inC es k j := by
  unfold inC
  rw [reach_up]
  rcases h with h | h
  · rw [h, if_neg (by simp), List.append_nil]
  · cases hasE es k j with
    | false => rw [if_neg (by simp), List.append_nil]
    | true => rw [if_pos rfl, bestD_no h]
theorem cyc_link (es : List (Nat × Nat)) : ∀ k, match refC es k with
    | none => cycleM es k = none
    | some (b, a) => a < k ∧ 1 ≤ b ∧ b ≤ 65 ∧ cycleM es k = some ((wayM (adj es) (dist (adjR es) (sing a)) b a).take b)
  | 0 => rfl
  | k + 1 => by
    have ih := cyc_link es k
    rw [refC, cycleM]
    unfold bestD
    rcases bestP (dist (adjR es) (sing k)) (bitsOf (adj es k)) with ⟨h1, _⟩ | ⟨b, h1, _, h3, _⟩
    · have hc : cycM es k = none := by unfold cycM; rw [h1]; rfl
      rw [h1, hc]
      simp only [Option.map_none, combC]
      cases hr : refC es k with
      | none => rw [hr] at ih; exact ih
      | some p =>
        obtain ⟨b, a⟩ := p
        rw [hr] at ih
        simp only at ih ⊢
        exact ⟨by omega, ih.2⟩
    · obtain ⟨d, hd⟩ : ∃ d : Nat, dist (adjR es) (sing k) b = (d : Int) := ⟨(dist (adjR es) (sing k) b).toNat, by omega⟩
      have hbd := dist_bd (adjR es) (sing k) b
      have hd2 := distTo_bd (adjR es) (sing k) 65 b
      rw [cyc_list h1 hd, h1]
      simp only [Option.map_some, hd, Int.toNat_natCast, combC]
      have hlen : ((wayM (adj es) (dist (adjR es) (sing k)) (d + 1) k).take (d + 1)).length = d + 1 := by rw [List.length_take, wayM_len]; omega
      have hd64 : d ≤ 64 := by unfold dist at hd; omega
      cases hr : refC es k with
      | none =>
        rw [hr] at ih
        simp only at ih ⊢
        rw [ih]
        exact ⟨by omega, by omega, by omega, rfl⟩
      | some p =>
        obtain ⟨b', a⟩ := p
        rw [hr] at ih
        simp only at ih ⊢
        rw [ih.2.2.2]
        simp only
        rw [hlen]
        have hlen2 : ((wayM (adj es) (dist (adjR es) (sing a)) b' a).take b').length = b' := by rw [List.length_take, wayM_len]; omega
        rw [hlen2]
        by_cases h7 : d + 1 < b'
        · rw [if_pos h7, if_pos h7]
          exact ⟨by omega, by omega, by omega, rfl⟩
        · rw [if_neg h7, if_neg h7]
          exact ⟨by omega, ih.2.1, ih.2.2.1, rfl⟩
def cylE (es : List (Nat × Nat)) (n : Nat) : Int := match cycleM es n with | none => 10 | some _ => 0
def cylL (es : List (Nat × Nat)) (n : Nat) : List Nat := (cycleM es n).getD []
def bestI : Option (Nat × Nat) → Int
  | none => 0
  | some (b, _) => b
def atI : Option (Nat × Nat) → Int
  | none => -1
  | some (_, a) => a
def CycQ (es : List (Nat × Nat)) (n : Nat) (w : World) (e : Ending) (w' : World) : Prop :=
  (∃ A c, e = .returned (.tuple #[.slice A (cylL es n).length c, .int .i64 (cylE es n)]) ∧ NL w.heap.size w' A (cylL es n)) ∧ Below w.heap.size w w'
theorem CylPost.one {es : List (Nat × Nat)} {n : Nat} {w w' : World} {e : Ending} (h : CylPost es n w e w') : CycQ es n w e w' := by
  obtain ⟨h1, h2⟩ := h
  refine ⟨?_, h2⟩
  unfold cylE cylL
  rcases h1 with ⟨h0, rfl⟩ | ⟨l, g, c, h0, rfl, hn⟩
  · rw [h0]; exact ⟨none, 0, rfl, fun k n hk => by simp at hk⟩
  · rw [h0]; exact ⟨_, c, rfl, hn.1⟩
set_option maxRecDepth 100000 in
set_option maxHeartbeats 8000000 in
theorem refCycle_any (n : Nat) (A : Option Addr) (m c : Nat) (es : List (Nat × Nat)) (w : World) (h : EL w A m (cast es)) (hg : Fine n es) :
    Calls Tryd.prog 56 #[gV n A m c] w (CycQ es n w) := by
  have hlen := h.len
  have hm : m ≤ 4096 := by have := hg.len; omega
  have hn64 := hg.n64
  have kv := (Below.refl w.heap.size w).alloc (Nat.le_refl _) (.cells #[.int .i64 (n : Nat), .slice A m c] 35)
  have G0 := Lib.hid (Cells.new w #[.int .i64 (n : Nat), .slice A m c] 35)
  have HT := Lib.hid (table_any n A m c es _ (h.keep kv) hg)
  have HH := Lib.hid (fun w' x y (hb' : Below w.heap.size w w') => has_edge n A m c es x y w' (h.keep hb') (by omega))
  have HW := Lib.hid (fun w' T cT a d (hb' : Below w.heap.size w w') (hT : TabA w'.heap.size w' T n fun a => tabF es a (n + 1)) (ha : a < n) (hd : d ≤ 100) => refWalk_any n A m c es T cT a a d _ w' (h.keep hb') hg hT ha ha hd)
  have Htt := Lib.hid (fun v (hv : v < n) b => tab_turn hg hv b)
  have Hwt := Lib.hid (fun b d a => way_tab hg b d a)
  have Hend := Lib.hid (fun k => inC_end hg.low hn64 k)
  have Hlk := Lib.hid (cyc_link es n)
  have Kv := Lib.hid kv
  clear h hg kv hlen
  go_enter Tryd.func56, Tryd.ntmps56
  have g0 := G0.out.at_ 0
  have g1 := G0.out.at_ 1
  simp only [List.getElem?_cons_zero, List.getElem?_cons_succ] at g0 g1
  go_wp2_with fail
  refine HT.out.mono ?_
  rintro e w1 ⟨v, rfl, hout, hb1⟩
  obtain ⟨T, cT, rfl, htab⟩ := hout.tab
  have T1 := Lib.hid htab
  have G1 := Lib.hid (G0.out.keep hb1)
  have B1 := Lib.hid (below_on Kv.out hb1)
  clear hb1 hout htab g0 g1
  go_wp2_with fail
  go_loopw [5, 6, 7, 8] (fun bv av iv _ wr => ∃ k : Nat, iv = .int .i64 (k : Nat) ∧ k ≤ n ∧ bv = .int .i64 (bestI (refC es k)) ∧ av = .int .i64 (atI (refC es k)) ∧ Below w1.heap.size w1 wr) (fun _ _ iv _ _ => n - (intOf iv).toNat)
  case atStart => exact ⟨0, rfl, Nat.zero_le _, rfl, rfl, Below.refl _ _⟩
  case round =>
    obtain ⟨k, rfl, hk, rfl, rfl, hb⟩ := hrel
    have B6 := Lib.hid hb
    have g0 := (G1.out.keep hb).at_ 0
    have g1 := (G1.out.keep hb).at_ 1
    simp only [List.getElem?_cons_zero, List.getElem?_cons_succ] at g0 g1
    clear hb
    obtain ⟨wa, rfl⟩ : ∃ wa : World, wa = wr := ⟨_, rfl⟩
    by_cases hlt : k < n
    · have Hlt := Lib.hid hlt
      have hki : (k : Int) < n := by omega
      rw [← inC_zero]
      obtain ⟨bb, hbb⟩ : ∃ bb, bestI (inC es k 0) = bb := ⟨_, rfl⟩
      obtain ⟨ba, hba⟩ : ∃ ba, atI (inC es k 0) = ba := ⟨_, rfl⟩
      rw [hbb, hba]
      have Hbb := Lib.hid hbb
      have Hba := Lib.hid hba
      clear hbb hba
      go_wp2_with fail
      clear hlt g0 g1
      go_loopw [5, 6, 8] (fun bv av jv wr => ∃ j : Nat, jv = .int .i64 (j : Nat) ∧ j ≤ n ∧ bv = .int .i64 (bestI (inC es k j)) ∧ av = .int .i64 (atI (inC es k j)) ∧ Below w1.heap.size w1 wr) (fun _ _ jv _ => n - (intOf jv).toNat)
      case atStart => exact ⟨0, rfl, Nat.zero_le _, by rw [Hbb.out], by rw [Hba.out], B6.out⟩
      case round =>
        obtain ⟨j, rfl, hj, rfl, rfl, hb⟩ := hrel
        have B7 := Lib.hid hb
        have T7 := Lib.hid (T1.out.keep hb)
        have g0 := (G1.out.keep hb).at_ 0
        have g1 := (G1.out.keep hb).at_ 1
        simp only [List.getElem?_cons_zero, List.getElem?_cons_succ] at g0 g1
        clear hb
        obtain ⟨wb, rfl⟩ : ∃ wb : World, wb = wr := ⟨_, rfl⟩
        by_cases hjn : j < n
        · have Hjn := Lib.hid hjn
          have hji : (j : Int) < n := by omega
          have HHk := HH.out wb k j (below_on B1.out B7.out)
          have Hno := Lib.hid (fun h => inC_no (es := es) (k := k) (j := j) h)
          have Hyes := Lib.hid (fun d (hh : hasE es k j = true) hd => inC_has (es := es) (k := k) (j := j) (d := d) hh hd)
          obtain ⟨o, ho⟩ : ∃ o, inC es k j = o := ⟨_, rfl⟩
          rw [ho] at Hno Hyes ⊢
          obtain ⟨hh, hhe⟩ : ∃ hh, hasE es k j = hh := ⟨_, rfl⟩
          rw [hhe] at HHk Hno Hyes
          have HHk := Lib.hid HHk
          obtain ⟨bi, hbi⟩ : ∃ bi, bestI o = bi := ⟨_, rfl⟩
          obtain ⟨ai, hai⟩ : ∃ ai, atI o = ai := ⟨_, rfl⟩
          rw [hbi, hai]
          have Hbi := Lib.hid hbi
          have Hai := Lib.hid hai
          clear ho hhe hbi hai
          go_wp2_with fail
          refine HHk.out.mono ?_
          rintro e w8 ⟨rfl, hb8⟩
          have T8 := Lib.hid (T7.out.keep hb8)
          have B8 := Lib.hid (below_on B7.out hb8)
          clear hb8 g0 g1
          cases hh with
          | false =>
            have Hn := Lib.hid (Hno.out (.inl rfl))
            go_wp2_with fail
            go_roundw
            case rel => exact ⟨j + 1, by go_num, Hjn.out, by rw [Hn.out, Hbi.out], by rw [Hn.out, Hai.out], B8.out⟩
            case measure => simp [intOf]; have := Hjn.out; omega
          | true =>
            obtain ⟨gt, p, rfl, _, _, _, t1, hc⟩ := T8.out j hjn
            have hc6 := (hc.at_ k).trans (numsN_at _ Hlt.out)
            simp only at hc6
            rw [Htt.out j hjn k] at hc6
            obtain ⟨u, hu⟩ : ∃ u, dist (adjR es) (sing k) j = u := ⟨_, rfl⟩
            have hub := dist_bd (adjR es) (sing k) j
            rw [hu] at hc6 Hno Hyes hub
            clear hc hu
            by_cases h0 : 0 ≤ u
            · obtain ⟨d, rfl⟩ : ∃ d : Nat, u = (d : Int) := ⟨u.toNat, by omega⟩
              have t0 : decide ((0 : Int) ≤ (d : Int)) = true := decide_eq_true (by omega)
              have Hn := Hyes.out d rfl rfl
              have ew : IntKind.i64.wrap ((d : Int) + 1) = (d : Int) + 1 := IntWalk.i64_in _ (by omega)
              cases o with
              | none =>
                simp only [combC] at Hn
                have t2 : decide (ai < 0) = true := by rw [← Hai.out]; decide
                have Hn := Lib.hid Hn
                clear h0 hub
                go_wp2_with fail
                go_roundw
                case rel => exact ⟨j + 1, by go_num, Hjn.out, by rw [Hn.out]; rfl, by rw [Hn.out]; rfl, B8.out⟩
                case measure => simp [intOf]; have := Hjn.out; omega
              | some q =>
                obtain ⟨bq, aq⟩ := q
                simp only [combC] at Hn
                have t2 : decide (ai < 0) = false := by rw [← Hai.out]; exact decide_eq_false (by simp [atI])
                have hbq : bi = (bq : Int) := by rw [← Hbi.out]; rfl
                by_cases h7 : d + 1 < bq
                · rw [if_pos h7] at Hn
                  have t3 : decide ((d : Int) + 1 < bi) = true := decide_eq_true (by omega)
                  have Hn := Lib.hid Hn
                  clear h0 hub h7 hbq
                  go_wp2_with fail
                  go_roundw
                  case rel => exact ⟨j + 1, by go_num, Hjn.out, by rw [Hn.out]; rfl, by rw [Hn.out]; rfl, B8.out⟩
                  case measure => simp [intOf]; have := Hjn.out; omega
                · rw [if_neg h7] at Hn
                  have t3 : decide ((d : Int) + 1 < bi) = false := decide_eq_false (by omega)
                  have Hn := Lib.hid Hn
                  clear h0 hub h7 hbq
                  go_wp2_with fail
                  go_roundw
                  case rel => exact ⟨j + 1, by go_num, Hjn.out, by rw [Hn.out, Hbi.out], by rw [Hn.out, Hai.out], B8.out⟩
                  case measure => simp [intOf]; have := Hjn.out; omega
            · have t0 : decide ((0 : Int) ≤ u) = false := decide_eq_false h0
              have Hn := Lib.hid (Hno.out (.inr (by omega)))
              clear h0 hub
              go_wp2_with fail
              go_roundw
              case rel => exact ⟨j + 1, by go_num, Hjn.out, by rw [Hn.out, Hbi.out], by rw [Hn.out, Hai.out], B8.out⟩
              case measure => simp [intOf]; have := Hjn.out; omega
        · have hjn' : j = n := by omega
          subst hjn'
          have He := Lib.hid (Hend.out k)
          go_wp2_with fail
          go_roundw
          case rel => exact ⟨k + 1, by go_num, Hlt.out, by rw [He.out], by rw [He.out], B7.out⟩
          case measure => simp [intOf]; have := Hlt.out; omega
    · have hkn : k = n := by omega
      subst hkn
      have hlk := Hlk.out
      have Bx := Lib.hid (below_on B1.out B6.out)
      cases hr : refC es k with
      | none =>
        rw [hr] at hlk
        simp only at hlk
        have Hf := Lib.hid (show cylE es k = 10 ∧ cylL es k = [] by unfold cylE cylL; rw [hlk]; exact ⟨rfl, rfl⟩)
        clear hlk hr
        simp only [bestI, atI]
        go_wp2_with fail
        go_ret2
        exact ⟨⟨none, 0, by rw [Hf.out.1, Hf.out.2]; rfl, by rw [Hf.out.2]; exact fun k n hk => by simp at hk⟩, Bx.out⟩
      | some q =>
        obtain ⟨b, a⟩ := q
        rw [hr] at hlk
        simp only at hlk
        obtain ⟨hak, hb1, hb65, hcy⟩ := hlk
        have Hf := Lib.hid (show cylE es k = 0 ∧ cylL es k = (wayM (adj es) (dist (adjR es) (sing a)) b a).take b by unfold cylE cylL; rw [hcy]; exact ⟨rfl, rfl⟩)
        have HWk := HW.out wa T cT a b Bx.out ((T1.out.keep B6.out).up B6.out.size) hak (by omega)
        rw [Hwt.out, wayM_len] at HWk
        have HWk := Lib.hid HWk
        have t0 : decide ((a : Int) < 0) = false := decide_eq_false (by omega)
        clear hr hcy
        simp only [bestI, atI]
        go_wp2_with fail
        refine HWk.out.mono ?_
        rintro e w2 ⟨v, rfl, hown, hb2⟩
        obtain ⟨A2, c2, rfl, hn2, hc2, hc3⟩ := own_nats (l := wayM (adj es) (dist (adjR es) (sing a)) b a) (by rw [wayM_len]; exact hown)
        rw [wayM_len] at hc3 ⊢
        obtain ⟨x0, bq, o0, _, rfl, _, _, _⟩ := hn2.at_ (k := 0) (by rw [wayM_len]; omega)
        have N2 := Lib.hid (show NL w.heap.size w2 (some ⟨bq, o0, none⟩) (cylL es k) from by
          rw [Hf.out.2]
          intro i x hi
          rw [List.getElem?_take] at hi
          split at hi
          · exact (hn2.down Bx.out.size) i x hi
          · cases hi)
        have B2 := Lib.hid (below_on Bx.out hb2)
        have Hl := Lib.hid (show (cylL es k).length = b by rw [Hf.out.2, List.length_take, wayM_len]; omega)
        have hbc : b ≤ c2 := by omega
        clear hb2 hown hn2 hc3
        go_wp2_with fail
        go_ret2
        exact ⟨⟨_, c2, by rw [Hf.out.1, Hl.out]; rfl, N2.out⟩, B2.out⟩
end Go.Proofs.YthocdmlacfejkaaDoor
