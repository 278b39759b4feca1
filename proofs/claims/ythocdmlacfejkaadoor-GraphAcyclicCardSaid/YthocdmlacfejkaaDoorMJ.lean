/- Graph: Rwk, Rpt, Rtr. -/
import Derived.Test.YthocdmlacfejkaaDoorMH
import Derived.Test.YthocdmlacfejkaaDoorME
namespace Go.Proofs.YthocdmlacfejkaaDoor
open Go.RowKit
/-- Whether there is an edge. -/
def hasE (es : List (Nat × Nat)) (a b : Nat) : Bool := es.any fun e => e.1 == a && e.2 == b
theorem hasE_iff {es : List (Nat × Nat)} {a b : Nat} : hasE es a b = true ↔ (adj es a).testBit b = true := by
  unfold hasE
  rw [adj_bit, List.any_eq_true]
  constructor
  · rintro ⟨⟨x, y⟩, he, h⟩
    simp only [Bool.and_eq_true, beq_iff_eq] at h
    obtain ⟨rfl, rfl⟩ := h
    exact he
  · intro h
    exact ⟨_, h, by simp⟩
set_option maxRecDepth 100000 in
set_option maxHeartbeats 8000000 in
theorem has_edge (n : Nat) (A : Option Addr) (m c : Nat) (es : List (Nat × Nat)) (x y : Nat) (w : World) (h : EL w A m (cast es)) (hm : m ≤ 4611686018427387904) :
    Calls Tryd.prog 75 #[gV n A m c, .int .i64 x, .int .i64 y] w fun e w' => e = .returned (.bool (hasE es x y)) ∧ Below w.heap.size w w' := by
  have hlen := h.len
  have kv := (Below.refl w.heap.size w).alloc (Nat.le_refl _) (.cells #[.int .i64 (n : Nat), .slice A m c] 35)
  have G0 := Lib.hid (Cells.new w #[.int .i64 (n : Nat), .slice A m c] 35)
  have E0 := Lib.hid (h.keep kv)
  have Kv := Lib.hid kv
  have Hlen := Lib.hid hlen
  clear h hlen kv
  go_enter Tryd.func75, Tryd.ntmps75
  have g1 := G0.out.at_ 1
  simp only [List.getElem?_cons_zero, List.getElem?_cons_succ] at g1
  obtain ⟨w0, hw0⟩ : ∃ u, w.alloc (.cells #[.int .i64 (n : Nat), .slice A m c] 35) = u := ⟨_, rfl⟩
  rw [hw0] at G0 E0 Kv g1
  go_wp2_with fail
  go_loop [7] (fun i => ∃ k : Nat, i = .int .i64 (k : Nat) ∧ k ≤ m ∧ (es.take k).any (fun e => e.1 == x && e.2 == y) = false) (fun i => m - (intOf i).toNat)
  case atStart => exact ⟨0, rfl, Nat.zero_le _, rfl⟩
  case round =>
    obtain ⟨k, rfl, hk, hno⟩ := hrel
    have Hno := Lib.hid hno
    clear hno
    by_cases hkm : k < m
    · obtain ⟨e, b, o, he, rfl, hbl, c0, c1⟩ := E0.out.at_ hkm
      obtain ⟨p, q, hpq, rfl⟩ := cast_at he
      simp only at c0 c1
      have Hpq := Lib.hid hpq
      have Hkm := Lib.hid hkm
      have Hup := Lib.hid (take_any (fun e : Nat × Nat => e.1 == x && e.2 == y) hpq)
      clear he hpq
      by_cases h1 : p = x
      · subst h1
        have t1 : ((p : Int) == (p : Int)) = true := by simp
        by_cases h2 : q = y
        · subst h2
          have t2 : ((q : Int) == (q : Int)) = true := by simp
          have Hf := Lib.hid (show hasE es p q = true from List.any_eq_true.2 ⟨_, List.mem_of_getElem? Hpq.out, by simp⟩)
          go_wp2_with fail
          go_ret
          exact ⟨ret_bool Hf.out.symm, Kv.out⟩
        · have t2 : ((q : Int) == (y : Int)) = false := by rw [beq_eq_false_iff_ne]; omega
          have Hn := Lib.hid (show (es.take (k + 1)).any (fun e => e.1 == p && e.2 == y) = false by rw [Hup.out, Hno.out]; simp [h2])
          clear h2
          go_wp2_with fail
          go_round
          case rel => exact ⟨k + 1, by go_num, Hkm.out, Hn.out⟩
          case measure => simp [intOf]; have := Hkm.out; omega
      · have t1 : ((p : Int) == (x : Int)) = false := by rw [beq_eq_false_iff_ne]; omega
        have Hn := Lib.hid (show (es.take (k + 1)).any (fun e => e.1 == x && e.2 == y) = false by rw [Hup.out, Hno.out]; simp [h1])
        clear h1
        go_wp2_with fail
        go_round
        case rel => exact ⟨k + 1, by go_num, Hkm.out, Hn.out⟩
        case measure => simp [intOf]; have := Hkm.out; omega
    · have Hf := Lib.hid (show hasE es x y = false by
        have := Hno.out
        rw [List.take_of_length_le (by rw [Hlen.out]; omega)] at this
        exact this)
      go_wp2_with fail
      go_ret
      exact ⟨ret_bool Hf.out.symm, Kv.out⟩
/-- A table of numbers in memory, n rows of n. -/
def TabA (B : Nat) (w : World) (T : Option Addr) (n : Nat) (F : Nat → Nat → Int) : Prop :=
  ∀ a, a < n → ∃ g p, T = some ⟨g, 0, none⟩ ∧ g < B ∧ p < B ∧ g < w.heap.size ∧ w.cell? ⟨g, a, none⟩ = some (.slice (some ⟨p, 0, none⟩) n n) ∧ Cells w p (numsN n (F a))
theorem TabA.keepB {B B' : Nat} {w w' : World} {T : Option Addr} {n : Nat} {F : Nat → Nat → Int} (h : TabA B w T n F) (hb : Below B' w w') (hB : B ≤ B') : TabA B w' T n F :=
  fun a ha => let ⟨g, p, e, h1, h2, h3, h4, h5⟩ := h a ha; ⟨g, p, e, h1, h2, Nat.lt_of_lt_of_le h3 hb.size, (hb.cell (p := ⟨g, a, none⟩) (show g < B' by omega)).trans h4, h5.keepB hb (by omega)⟩
theorem TabA.keep {B : Nat} {w w' : World} {T : Option Addr} {n : Nat} {F : Nat → Nat → Int} (h : TabA B w T n F) (hb : Below w.heap.size w w') : TabA B w' T n F :=
  fun a ha => let ⟨g, p, e, h1, h2, h3, h4, h5⟩ := h a ha; ⟨g, p, e, h1, h2, Nat.lt_of_lt_of_le h3 hb.size, (hb.cell (p := ⟨g, a, none⟩) h3).trans h4, h5.keep hb⟩
theorem TabA.up {B C : Nat} {w : World} {T : Option Addr} {n : Nat} {F : Nat → Nat → Int} (h : TabA B w T n F) (hB : B ≤ C) : TabA C w T n F :=
  fun a ha => let ⟨g, p, e, h1, h2, h3⟩ := h a ha; ⟨g, p, e, by omega, by omega, h3⟩
theorem OutT.tab {C n : Nat} {w : World} {v : Value} {f : Nat → Nat → Int} (h : OutT C w v n n f) : ∃ A c, v = .slice A n c ∧ TabA w.heap.size w A n f := by
  obtain ⟨A, c, e, hr⟩ := h.at_
  refine ⟨A, c, e, fun a ha => ?_⟩
  obtain ⟨g, p, e1, h1, h2⟩ := hr a ha
  have hg := World.block_lt_of_cell? w ⟨g, a, none⟩ h1
  exact ⟨g, p, e1, hg, h2.lt, hg, h1, h2⟩
theorem find_range {p : Nat → Bool} (k : Nat) : (List.range (k + 1)).find? p = ((List.range k).find? p).or (if p k then some k else none) := by
  rw [List.range_succ, List.find?_append, List.find?_cons]
  cases p k <;> rfl
/-- The next node, as the reference looks for it. -/
theorem way_find {n : Nat} {es : List (Nat × Nat)} (hl : Low n es) (hn : n ≤ 64) (F : Nat → Int) (a : Nat) (d : Int) : (bitsOf (adj es a)).find? (fun v => F v == d) = (List.range n).find? fun v => hasE es a v && F v == d := by
  unfold bitsOf
  rw [List.find?_filter]
  have e : (fun v => decide ((adj es a).testBit v = true ∧ (F v == d) = true)) = fun v => hasE es a v && F v == d := by
    funext v
    rw [Bool.eq_iff_iff, decide_eq_true_eq, Bool.and_eq_true, hasE_iff]
  rw [e]
  have hz : ∀ m, n ≤ m → (List.range m).find? (fun v => hasE es a v && F v == d) = (List.range n).find? fun v => hasE es a v && F v == d := by
    intro m hm
    induction m with
    | zero => obtain rfl : n = 0 := by omega
              rfl
    | succ m ih =>
      rcases Nat.lt_or_ge m n with h1 | h1
      · obtain rfl : n = m + 1 := by omega
        rfl
      · rw [find_range, ih h1]
        have : hasE es a m = false := by
          cases e : hasE es a m with
          | false => rfl
          | true => have := adj_under hl a m (hasE_iff.1 e); omega
        rw [this]
        simp
  exact hz 64 hn
set_option maxRecDepth 100000 in
set_option maxHeartbeats 8000000 in
theorem refWalk_any (n : Nat) (A : Option Addr) (m c : Nat) (es : List (Nat × Nat)) (T : Option Addr) (cT a b d : Nat) (F : Nat → Nat → Int) (w : World) (h : EL w A m (cast es)) (hg : Fine n es) (hT : TabA w.heap.size w T n F) (ha : a < n) (hb : b < n) (hd : d ≤ 100) :
    Calls Tryd.prog 101 #[gV n A m c, .slice T n cT, .int .i64 a, .int .i64 b, .int .i64 d] w fun e w' => ∃ v, e = .returned v ∧ w'.ownsRow w.heap.size 3 1 v (wayM (adj es) (fun v => F v b) d a).length (nats (wayM (adj es) (fun v => F v b) d a)) ∧ Below w.heap.size w w' := by
  obtain ⟨i0, hi, hz0, hz1, hz2⟩ := info_parts info_int
  have hlen := h.len
  have hm : m ≤ 4096 := by have := hg.len; omega
  have hn64 := hg.n64
  have kv := (Below.refl w.heap.size w).alloc (Nat.le_refl _) (.cells #[.int .i64 (n : Nat), .slice A m c] 35)
  have kx := kv.alloc (by simp) (.cells #[.int .i64 (a : Nat)] 3)
  have G0 := Lib.hid ((Cells.new w #[.int .i64 (n : Nat), .slice A m c] 35).keep ((Below.refl _ _).alloc (Nat.le_refl _) (.cells #[.int .i64 (a : Nat)] 3)))
  have T0 := Lib.hid (hT.keep kx)
  have HH := Lib.hid (fun w' x y (hb' : Below w.heap.size w w') => has_edge n A m c es x y w' (h.keep hb') (by omega))
  have HWf := Lib.hid (fun a d => way_find hg.low hn64 (fun v => F v b) a d)
  have O0 := own_one (C := w.heap.size + 1) (w.alloc (.cells #[.int .i64 (n : Nat), .slice A m c] 35)) a (by simp)
  simp only [World.size_alloc] at O0
  have O0 := Lib.hid O0
  have HT0 : w.heap.size ≤ w.heap.size + 1 := by omega
  have kx := Lib.hid kx
  have hbi : (b : Int) < n := by omega
  clear h hg hT kv hlen
  go_enter Tryd.func101, Tryd.ntmps101
  go_wp2_with fail
  go_loopw [2, 11, 12, 13] (fun av pv lv _ wr => ∃ (d' a' : Nat) (pre : List Nat), av = .int .i64 (a' : Nat) ∧ a' < n ∧ lv = .int .i64 ((d' : Int) - 1) ∧ d' ≤ d ∧ pre ++ (wayM (adj es) (fun v => F v b) d' a').drop 1 = wayM (adj es) (fun v => F v b) d a ∧ wr.ownsRow (w.heap.size + 1) 3 1 pv pre.length (nats pre) ∧ Cells wr w.heap.size [.int .i64 (n : Nat), .slice A m c] ∧ TabA w.heap.size wr T n F ∧ Below w.heap.size w wr) (fun _ _ lv _ _ => (intOf lv + 1).toNat)
  case atStart => exact ⟨d, a, [a], rfl, ha, rfl, Nat.le_refl _, (wayM_head _ _ d a).symm, O0.out, G0.out, T0.out, kx.out⟩
  case round =>
    obtain ⟨dd, a', pre, rfl, ha', rfl, hdd, hpre, hown, hgc, htab, hbw⟩ := hrel
    have Own := Lib.hid hown
    have Hb := Lib.hid hbw
    have Hg := Lib.hid hgc
    have Ht := Lib.hid htab
    have Hpre := Lib.hid hpre
    have hplen := way_len hpre
    clear hown hbw hgc htab hpre
    obtain ⟨wa, rfl⟩ : ∃ wa : World, wa = wr := ⟨_, rfl⟩
    cases dd with
    | zero =>
      have hfin := Hpre.out
      rw [wayM, List.drop_succ_cons, List.drop_zero, List.append_nil] at hfin
      have Of := Own.out
      rw [hfin] at Of
      have Of := Lib.hid (own_down' Of (Nat.le_succ _))
      clear hfin
      go_wp2_with fail
      go_ret
      exact ⟨_, rfl, Of.out, Hb.out⟩
    | succ d' =>
      have e0 : ((d' + 1 : Nat) : Int) - 1 = (d' : Int) := by omega
      rw [e0]
      have Hst := Lib.hid (fun x (hx : ((bitsOf (adj es a')).find? (fun v => F v b == (d' : Int))).getD a' = x) => show (pre ++ [x]) ++ (wayM (adj es) (fun v => F v b) d' x).drop 1 = wayM (adj es) (fun v => F v b) d a from by
        rw [← Hpre.out, wayM, hx, List.drop_succ_cons, List.drop_zero, List.append_assoc]
        congr 1
        exact (wayM_head _ _ d' x).symm)
      rw [HWf.out a' (d' : Int)] at Hst
      have ed : IntKind.i64.wrap ((d' : Int) - 1) = (d' : Int) - 1 := IntWalk.i64_in _ (by omega)
      clear e0
      go_wp2_with fail
      go_loopw [2, 13] (fun av iv wr => ∃ k : Nat, av = .int .i64 (a' : Nat) ∧ iv = .int .i64 (k : Nat) ∧ k ≤ n ∧ (List.range k).find? (fun v => hasE es a' v && F v b == (d' : Int)) = none ∧ Below wa.heap.size wa wr) (fun _ iv _ => n - (intOf iv).toNat)
      case atStart => exact ⟨0, rfl, rfl, Nat.zero_le _, rfl, Below.refl _ _⟩
      case round =>
        obtain ⟨k, rfl, rfl, hk, hno, hb6⟩ := hrel
        have Hno := Lib.hid hno
        have G6 := Lib.hid (Hg.out.keep hb6)
        have T6 := Lib.hid (Ht.out.keep hb6)
        have O6 := Lib.hid (own_below Own.out hb6)
        have b6 := Lib.hid hb6
        have B6 := Lib.hid (below_on Hb.out hb6)
        have g0 := G6.out.at_ 0
        have g1 := G6.out.at_ 1
        simp only [List.getElem?_cons_zero, List.getElem?_cons_succ] at g0 g1
        clear hno hb6
        obtain ⟨wb, rfl⟩ : ∃ wb : World, wb = wr := ⟨_, rfl⟩
        by_cases hkn : k < n
        · have Hkn := Lib.hid hkn
          have hki : (k : Int) < n := by omega
          have HHk := HH.out wb a' k B6.out
          have Hup := Lib.hid (find_range (p := fun v => hasE es a' v && F v b == (d' : Int)) k)
          obtain ⟨h, hh⟩ : ∃ h, hasE es a' k = h := ⟨_, rfl⟩
          rw [hh] at HHk
          have HHk := Lib.hid HHk
          have Hh := Lib.hid hh
          clear hh
          go_wp2_with fail
          refine HHk.out.mono ?_
          rintro e w7 ⟨rfl, hb7⟩
          have G8 := Lib.hid (G6.out.keep hb7)
          have T8 := Lib.hid (T6.out.keep hb7)
          have O8 := Lib.hid (own_below O6.out hb7)
          have b8 := Lib.hid (below_on b6.out hb7)
          have B8 := Lib.hid (below_on B6.out hb7)
          clear hb7 g0 g1
          cases h with
          | false =>
            have Hn := Lib.hid (show (List.range (k + 1)).find? (fun v => hasE es a' v && F v b == (d' : Int)) = none by rw [Hup.out, Hno.out, Hh.out]; rfl)
            go_wp2_with fail
            go_roundw
            case rel => exact ⟨k + 1, rfl, by go_num, Hkn.out, Hn.out, b8.out⟩
            case measure => simp [intOf]; have := Hkn.out; omega
          | true =>
            obtain ⟨gt, p, rfl, _, _, _, t1, hc⟩ := T8.out k hkn
            have hc6 := (hc.at_ b).trans (numsN_at _ hb)
            obtain ⟨u, hu⟩ : ∃ u, F k b = u := ⟨_, rfl⟩
            rw [hu] at hc6
            have Hu := Lib.hid hu
            clear hu hc
            by_cases h0 : u = (d' : Int)
            · have t0 : (u == (d' : Int)) = true := by rw [beq_iff_eq]; exact h0
              have HX := Lib.hid (Hst.out k (by
                have e1 : (List.range n).find? (fun v => hasE es a' v && F v b == (d' : Int)) = some k := by
                  refine find_at (j := k) (fun x hx => ?_) (List.getElem?_range hkn) (by rw [Hh.out, Hu.out, t0]; rfl)
                  rw [List.take_range, Nat.min_eq_left (by omega)] at hx
                  have := List.find?_eq_none.1 Hno.out x hx
                  simpa using this
                rw [e1]; rfl))
              have hbc : w.heap.size + 1 ≤ w7.heap.size := G8.out.lt
              clear h0
              go_wp2_with (at_builtin; refine wpList_append_own _ rfl _ _ 50 rfl (w.heap.size + 1) 3 i0 (.int .i64 0) 1 8 Tryd.underlying50 hi hz0 hz1 hz2 rfl (by decide) _ _ _ rfl (O8.out.alloc _) ⟨w7.heap.size, 0, none⟩ 1 1 [.int .i64 (k : Nat)] rfl rfl ?c1 ?c2 ?c3 ?c4 ?c5 ?_)
              case c1 =>
                intro q u hu
                match q, hu with
                | 0, hu => simp at hu; subst hu; simp [Addr.add]
              case c2 => intro u hu; simp at hu; subst hu; rfl
              case c3 => unfold maxLen; omega
              case c4 => omega
              case c5 => simp; omega
              intro v' w3 hown' hgrow _
              have B7 := Lib.hid ((B8.out.alloc B8.out.size (.cells #[.int .i64 (k : Nat)] 3)).grown hgrow (by simp; omega) (fun k hk => Nat.le_of_succ_le (own_ge O8.out hk)))
              have b7 := ((Below.refl (w.heap.size + 1) w7).alloc hbc (.cells #[.int .i64 (k : Nat)] 3)).grown hgrow (by simp; omega) (fun k hk => own_ge O8.out hk)
              have G7 := Lib.hid (G8.out.keepB b7 (Nat.lt_succ_self _))
              have T7 := Lib.hid (T8.out.keepB b7 HT0)
              have O7 := Lib.hid (show w3.ownsRow (w.heap.size + 1) 3 1 v' (pre ++ [k]).length (nats (pre ++ [k])) by
                rw [List.length_append, nats_snoc]; exact hown')
              clear hown' hgrow b7
              go_wp2_with fail
              go_roundw
              case rel => exact ⟨d', k, pre ++ [k], rfl, Hkn.out, by go_num, by omega, HX.out, O7.out, G7.out, T7.out, B7.out⟩
              case measure => simp [intOf]
            · have t0 : (u == (d' : Int)) = false := by rw [beq_eq_false_iff_ne]; exact h0
              have Hn := Lib.hid (show (List.range (k + 1)).find? (fun v => hasE es a' v && F v b == (d' : Int)) = none by rw [Hup.out, Hno.out, Hh.out, Hu.out, t0]; rfl)
              clear h0
              go_wp2_with fail
              go_roundw
              case rel => exact ⟨k + 1, rfl, by go_num, Hkn.out, Hn.out, b8.out⟩
              case measure => simp [intOf]; have := Hkn.out; omega
        · have HX := Lib.hid (Hst.out a' (by
            have hkn' : k = n := by omega
            have e1 := Hno.out
            rw [hkn'] at e1
            rw [e1]; rfl))
          have Ha' := Lib.hid ha'
          have hbc : w.heap.size + 1 ≤ wb.heap.size := G6.out.lt
          go_wp2_with (at_builtin; refine wpList_append_own _ rfl _ _ 50 rfl (w.heap.size + 1) 3 i0 (.int .i64 0) 1 8 Tryd.underlying50 hi hz0 hz1 hz2 rfl (by decide) _ _ _ rfl (O6.out.alloc _) ⟨wb.heap.size, 0, none⟩ 1 1 [.int .i64 (a' : Nat)] rfl rfl ?c1 ?c2 ?c3 ?c4 ?c5 ?_)
          case c1 =>
            intro q u hu
            match q, hu with
            | 0, hu => simp at hu; subst hu; simp [Addr.add]
          case c2 => intro u hu; simp at hu; subst hu; rfl
          case c3 => unfold maxLen; omega
          case c4 => omega
          case c5 => simp; omega
          intro v' w3 hown' hgrow _
          have B7 := Lib.hid ((B6.out.alloc B6.out.size (.cells #[.int .i64 (a' : Nat)] 3)).grown hgrow (by simp; omega) (fun k hk => Nat.le_of_succ_le (own_ge O6.out hk)))
          have b7 := ((Below.refl (w.heap.size + 1) wb).alloc hbc (.cells #[.int .i64 (a' : Nat)] 3)).grown hgrow (by simp; omega) (fun k hk => own_ge O6.out hk)
          have G7 := Lib.hid (G6.out.keepB b7 (Nat.lt_succ_self _))
          have T7 := Lib.hid (T6.out.keepB b7 HT0)
          have O7 := Lib.hid (show w3.ownsRow (w.heap.size + 1) 3 1 v' (pre ++ [a']).length (nats (pre ++ [a'])) by
            rw [List.length_append, nats_snoc]; exact hown')
          clear hown' hgrow b7
          go_wp2_with fail
          go_roundw
          case rel => exact ⟨d', a', pre ++ [a'], rfl, Ha'.out, by go_num, by omega, HX.out, O7.out, G7.out, T7.out, B7.out⟩
          case measure => simp [intOf]
end Go.Proofs.YthocdmlacfejkaaDoor
namespace Go.Proofs.YthocdmlacfejkaaDoor
open Go.RowKit
attribute [local irreducible] wpStill
theorem lev_turn {es : List (Nat × Nat)} (hl : Low 64 es) (a b j : Nat) : (lev (adj es) (sing a) j).testBit b = (lev (adjR es) (sing b) j).testBit a := by
  rw [Bool.eq_iff_iff, lev_walk, lev_walk]
  constructor
  · rintro ⟨x, i, hi, hx, hw⟩
    rw [sing_bit, decide_eq_true_eq] at hx
    subst hx
    exact ⟨b, i, hi, by rw [sing_bit]; simp, hw.turn hl⟩
  · rintro ⟨x, i, hi, hx, hw⟩
    rw [sing_bit, decide_eq_true_eq] at hx
    subst hx
    exact ⟨a, i, hi, by rw [sing_bit]; simp, hw.turn' hl⟩
theorem dist_turn {es : List (Nat × Nat)} (hl : Low 64 es) (a b : Nat) : dist (adj es) (sing a) b = dist (adjR es) (sing b) a := by
  unfold dist distTo
  rw [show (fun j => (lev (adj es) (sing a) j).testBit b) = fun j => (lev (adjR es) (sing b) j).testBit a from funext fun j => lev_turn hl a b j]
theorem wayM_congr {L : Nat → Nat} {f g : Nat → Int} (h : ∀ x v, v ∈ bitsOf (L x) → f v = g v) : ∀ (d a : Nat), wayM L f d a = wayM L g d a
  | 0, a => rfl
  | d + 1, a => by
    have e : (bitsOf (L a)).find? (fun n => f n == (d : Int)) = (bitsOf (L a)).find? (fun n => g n == (d : Int)) := by
      have : ∀ l : List Nat, (∀ v ∈ l, f v = g v) → l.find? (fun n => f n == (d : Int)) = l.find? (fun n => g n == (d : Int)) := by
        intro l
        induction l with
        | nil => intro _; rfl
        | cons x l ih =>
          intro hx
          rw [List.find?_cons, List.find?_cons, hx x (List.mem_cons_self ..), ih fun v hv => hx v (List.mem_cons_of_mem _ hv)]
      exact this _ (h a)
    rw [wayM, wayM, e, wayM_congr h d]
theorem tab_turn {n : Nat} {es : List (Nat × Nat)} (hg : Fine n es) {v : Nat} (hv : v < n) (b : Nat) : tabF es v (n + 1) b = dist (adjR es) (sing b) v := by
  rw [tabF_full hg.low hg.n64 hv, dist_turn hg.low64]
theorem way_tab {n : Nat} {es : List (Nat × Nat)} (hg : Fine n es) (b d a : Nat) : wayM (adj es) (fun v => tabF es v (n + 1) b) d a = wayM (adj es) (dist (adjR es) (sing b)) d a :=
  wayM_congr (fun x v hv => tab_turn hg (adj_under hg.low x v (mem_bitsOf.1 hv).2) b) d a
def PthPost (_n : Nat) (es : List (Nat × Nat)) (a b : Nat) (w : World) (e : Ending) (w' : World) : Prop :=
  ((dist (adjR es) (sing b) a < 0 ∧ e = .returned (.tuple #[.slice none 0 0, .int .i64 10])) ∨ ∃ (d : Nat) (v : Value), dist (adjR es) (sing b) a = (d : Int) ∧ e = .returned (.tuple #[v, .int .i64 0]) ∧ w'.ownsRow w.heap.size 3 1 v (wayM (adj es) (dist (adjR es) (sing b)) d a).length (nats (wayM (adj es) (dist (adjR es) (sing b)) d a))) ∧ Below w.heap.size w w'
set_option maxRecDepth 100000 in
set_option maxHeartbeats 8000000 in
theorem refPath_any (n : Nat) (A : Option Addr) (m c : Nat) (es : List (Nat × Nat)) (a b : Nat) (w : World) (h : EL w A m (cast es)) (hg : Fine n es) (ha : a < n) (hb : b < n) :
    Calls Tryd.prog 57 #[gV n A m c, .int .i64 a, .int .i64 b] w (PthPost n es a b w) := by
  have kv := (Below.refl w.heap.size w).alloc (Nat.le_refl _) (.cells #[.int .i64 (n : Nat), .slice A m c] 35)
  have G0 := Lib.hid (Cells.new w #[.int .i64 (n : Nat), .slice A m c] 35)
  have HT := Lib.hid (table_any n A m c es _ (h.keep kv) hg)
  have HW := Lib.hid (fun w' T cT d (hb' : Below w.heap.size w w') (hT : TabA w'.heap.size w' T n fun a => tabF es a (n + 1)) (hd : d ≤ 100) => refWalk_any n A m c es T cT a b d _ w' (h.keep hb') hg hT ha hb hd)
  have Htt := Lib.hid (tab_turn hg ha b)
  have Hwt := Lib.hid (fun d => way_tab hg b d a)
  have Hbd := Lib.hid (distTo_bd (adjR es) (sing b) 65 a)
  have Kv := Lib.hid kv
  have hai : (a : Int) < n := by omega
  have hbi : (b : Int) < n := by omega
  clear h hg kv
  go_enter Tryd.func57, Tryd.ntmps57
  have g0 := G0.out.at_ 0
  have g1 := G0.out.at_ 1
  simp only [List.getElem?_cons_zero, List.getElem?_cons_succ] at g0 g1
  go_wp2_with fail
  refine HT.out.mono ?_
  rintro e w1 ⟨v, rfl, hout, hb1⟩
  obtain ⟨T, cT, rfl, htab⟩ := hout.tab
  have T1 := Lib.hid htab
  have G1 := Lib.hid (G0.out.keep hb1)
  have B1 := Lib.hid (below_on Kv.out hb1)
  obtain ⟨gt, p, e1, _, _, _, t1, hc⟩ := htab a ha
  have hc1 := (hc.at_ b).trans (numsN_at _ hb)
  simp only at hc1
  rw [Htt.out] at hc1
  subst e1
  clear hb1 hout hc htab g0 g1
  have g0 := G1.out.at_ 0
  have g1 := G1.out.at_ 1
  simp only [List.getElem?_cons_zero, List.getElem?_cons_succ] at g0 g1
  obtain ⟨u, hu⟩ : ∃ u, dist (adjR es) (sing b) a = u := ⟨_, rfl⟩
  rw [hu] at hc1
  have Hu := Lib.hid hu
  have hbd := Hbd.out
  unfold dist at hu
  rw [hu] at hbd
  clear hu
  by_cases h0 : u < 0
  · have t0 : decide (u < 0) = true := decide_eq_true h0
    have H0 := Lib.hid h0
    clear h0 hbd
    go_wp2_with fail
    go_ret2
    exact ⟨.inl ⟨by rw [Hu.out]; exact H0.out, rfl⟩, B1.out⟩
  · obtain ⟨d, rfl⟩ : ∃ d : Nat, u = (d : Int) := ⟨u.toNat, by omega⟩
    have hd : d ≤ 100 := by omega
    have t0 : decide ((d : Int) < 0) = false := decide_eq_false h0
    have HWk := Lib.hid (fun w' (hbb : Below w1.heap.size w1 w') => HW.out w' (some ⟨gt, 0, none⟩) cT d (below_on B1.out hbb) ((T1.out.keep hbb).up hbb.size) hd)
    clear h0 hbd hd
    go_wp2_with fail
    go_still_tail 11, (by kernel_rfl)
    change wpList _ _ _ _ _ w1.drew
    go_wp2_with fail
    refine (HWk.out _ (Below.refl _ _).drew).mono ?_
    rintro e w2 ⟨v, rfl, hown, hb2⟩
    have B2 := Lib.hid (below_on B1.out.drew hb2)
    rw [Hwt.out] at hown
    have O2 := Lib.hid (own_down' hown B1.out.size)
    clear hown hb2
    go_wp2_with fail
    go_ret2
    exact ⟨.inr ⟨d, v, Hu.out, rfl, O2.out⟩, B2.out⟩
end Go.Proofs.YthocdmlacfejkaaDoor
namespace Go.Proofs.YthocdmlacfejkaaDoor
open Go.RowKit
set_option maxRecDepth 100000 in
set_option maxHeartbeats 8000000 in
theorem refTree_any (n : Nat) (A : Option Addr) (m c : Nat) (es : List (Nat × Nat)) (root : Nat) (w : World) (h : EL w A m (cast es)) (hg : Fine n es) (hr : root < n) :
    Calls Tryd.prog 58 #[gV n A m c, .int .i64 root] w fun e w' => ∃ g, e = .returned (.slice (some ⟨g, 0, none⟩) n n) ∧ IL w' (some ⟨g, 0, none⟩) ((List.range n).map (treeV es root)) ∧ Below w.heap.size w w' := by
  obtain ⟨i0, hi, hz0, hz1, hz2⟩ := info_parts info_int
  have hn64 := hg.n64
  have kv := (Below.refl w.heap.size w).alloc (Nat.le_refl _) (.cells #[.int .i64 (n : Nat), .slice A m c] 35)
  have G0 := Lib.hid (Cells.new w #[.int .i64 (n : Nat), .slice A m c] 35)
  have HP := Lib.hid (fun w' v (hb' : Below w.heap.size w w') (hv : v < n) => (show Calls Tryd.prog 57 _ w' (PthPost n es root v w') from refPath_any n A m c es root v w' (h.keep hb') hg hr hv))
  have Kv := Lib.hid kv
  have hri : (root : Int) < n := by omega
  clear h hg kv
  go_enter Tryd.func58, Tryd.ntmps58
  have g0 := G0.out.at_ 0
  simp only [List.getElem?_cons_zero] at g0
  obtain ⟨wa, hwa⟩ : ∃ u, w.alloc (.cells #[.int .i64 (n : Nat), .slice A m c] 35) = u := ⟨_, rfl⟩
  rw [hwa] at G0 Kv g0
  go_wp2_with (at_make; refine wpList_make_full _ rfl _ _ 50 rfl wa.heap.size 3 i0 (.int .i64 0) 1 Tryd.underlying50 hi hz0 hz1 _ _ _ _ n rfl rfl rfl rfl (by rw [hz2]; omega) (by unfold maxLen; omega) (Nat.le_refl _) ?_)
  intro w2 hown hgr
  have R2 := Lib.hid (made_row hown)
  have B2 := Lib.hid ((Below.refl wa.heap.size wa).grown hgr (Nat.le_refl _) (by simp))
  clear hown hgr g0
  obtain ⟨p, hp⟩ : ∃ p, wa.heap.size = p := ⟨_, rfl⟩
  rw [hp] at R2 B2 ⊢
  have HG := Lib.hid (fun w' (hb' : Below p wa w') => G0.out.keep (w' := w') (by rw [hp]; exact hb'))
  have HB := Lib.hid (fun w' (hb' : Below p wa w') => below_on Kv.out (w' := w') (by rw [hp]; exact hb'))
  clear hp
  go_wp2_with fail
  go_loopw [6, 7, 8] (fun i _ _ wr => ∃ k : Nat, i = .int .i64 (k : Nat) ∧ k ≤ n ∧ Row wr p 3 (numsN n fun j => if j < k then treeV es root j else 0) ∧ Below p wa wr) (fun i _ _ _ => n - (intOf i).toNat)
  case atStart => exact ⟨0, rfl, Nat.zero_le _, by simpa using R2.out, B2.out⟩
  case round =>
    obtain ⟨k, rfl, hk, hrow, hb⟩ := hrel
    have R6 := Lib.hid hrow
    have B6 := Lib.hid hb
    have g0 := (HG.out _ hb).at_ 0
    have g1 := (HG.out _ hb).at_ 1
    simp only [List.getElem?_cons_zero, List.getElem?_cons_succ] at g0 g1
    clear hrow hb
    obtain ⟨wb, rfl⟩ : ∃ wb : World, wb = wr := ⟨_, rfl⟩
    by_cases hlt : k < n
    · have Hlt := Lib.hid hlt
      have hki : (k : Int) < n := by omega
      have z0 := (R6.out.cells.at_ k).trans (numsN_at _ hlt)
      have f0 := R6.out.cells.fz k
      obtain ⟨x0, hx0⟩ : ∃ x : Int, (if k < k then treeV es root k else 0) = x := ⟨_, rfl⟩
      rw [hx0] at z0
      have R7 := R6.out.set k (.int .i64 (-1))
      rw [numsN_set] at R7
      have B7 := B6.out.setCell (p := ⟨p, k, none⟩) (Nat.le_refl _) (.int .i64 (-1))
      have h0 := (HG.out _ B7).at_ 0
      have h1 := (HG.out _ B7).at_ 1
      simp only [List.getElem?_cons_zero, List.getElem?_cons_succ] at h0 h1
      have HPk := Lib.hid (HP.out _ k (HB.out _ B7) hlt)
      have R7 := Lib.hid R7
      have B7 := Lib.hid B7
      clear hx0
      go_wp2_with fail
      refine HPk.out.mono ?_
      rintro e w8 ⟨hc, hb8⟩
      have R8 := Lib.hid (R7.out.keep hb8)
      have B8 := Lib.hid (B7.out.trans (hb8.mono (Nat.le_of_lt R7.out.cells.lt)))
      have hV : treeV es root k = if dist (adjR es) (sing k) root ≤ 0 then -1 else (((wayM (adj es) (dist (adjR es) (sing k)) (dist (adjR es) (sing k) root).toNat root).getD ((dist (adjR es) (sing k) root).toNat - 1) 0 : Nat) : Int) := rfl
      clear hb8 z0 f0 h0 h1 g0 g1
      rcases hc with ⟨hno, rfl⟩ | ⟨d, v, hd, rfl, hown⟩
      · have R9 := R8.out
        rw [numsN_congr (f' := fun j => if j < k + 1 then treeV es root j else 0) (fun j _ => by
          by_cases h : k = j
          · subst h; rw [if_pos rfl, if_pos (Nat.lt_succ_self _), hV, if_pos (by omega)]
          · rw [if_neg h]
            by_cases h2 : j < k
            · rw [if_pos h2, if_pos (by omega)]
            · rw [if_neg h2, if_neg (by omega)])] at R9
        have R9 := Lib.hid R9
        clear hno hV
        go_wp2_with fail
        go_roundw
        case rel => exact ⟨k + 1, by go_num, Hlt.out, R9.out, B8.out⟩
        case measure => simp [intOf]; have := Hlt.out; omega
      · rw [hd] at hV
        rw [wayM_len] at hown
        by_cases h0 : d = 0
        · subst h0
          obtain ⟨Av, cv, rfl, _⟩ := own_nats (l := wayM (adj es) (dist (adjR es) (sing k)) 0 root) (by rw [wayM_len]; exact hown)
          rw [wayM_len]
          have R9 := R8.out
          rw [numsN_congr (f' := fun j => if j < k + 1 then treeV es root j else 0) (fun j _ => by
            by_cases h : k = j
            · subst h; rw [if_pos rfl, if_pos (Nat.lt_succ_self _), hV, if_pos (by omega)]
            · rw [if_neg h]
              by_cases h2 : j < k
              · rw [if_pos h2, if_pos (by omega)]
              · rw [if_neg h2, if_neg (by omega)])] at R9
          have R9 := Lib.hid R9
          clear hV hd hown
          go_wp2_with fail
          go_roundw
          case rel => exact ⟨k + 1, by go_num, Hlt.out, R9.out, B8.out⟩
          case measure => simp [intOf]; have := Hlt.out; omega
        · obtain ⟨Av, cv, rfl, hnl, _, _⟩ := own_nats (l := wayM (adj es) (dist (adjR es) (sing k)) d root) (by rw [wayM_len]; exact hown)
          obtain ⟨x, b, o, hx, rfl, _, _, hcell⟩ := hnl.at_ (k := d - 1) (by rw [wayM_len]; omega)
          rw [wayM_len]
          have hV2 : treeV es root k = (x : Int) := by
            rw [hV, if_neg (by omega)]
            congr 1
            rw [Int.toNat_natCast, List.getD_eq_getElem?_getD, hx]
            rfl
          obtain ⟨ln, hln⟩ : ∃ ln, d + 1 = ln := ⟨_, rfl⟩
          have tl : decide ((1 : Int) < (ln : Int)) = true := decide_eq_true (by omega)
          have tl2 : (1 : Int) < (ln : Int) := by omega
          have ew : IntKind.i64.wrap ((ln : Int) - 2) = (ln : Int) - 2 := IntWalk.i64_in _ (by have := Hlt.out; have := distTo_bd (adjR es) (sing k) 65 root; unfold dist at hd; omega)
          have i1 : (2 : Int) ≤ (ln : Int) := by omega
          have i2 : (ln : Int) - 2 < ln := by omega
          have i3 : ((ln : Int) - 2).toNat = d - 1 := by omega
          rw [hln]
          have y0 := (R8.out.cells.at_ k).trans (numsN_at _ hlt)
          have f0 := R8.out.cells.fz k
          rw [if_pos rfl] at y0
          have R9 := R8.out.set k (.int .i64 (x : Nat))
          rw [numsN_set, numsN_congr (f' := fun j => if j < k + 1 then treeV es root j else 0) (fun j _ => by
            by_cases h : k = j
            · subst h; rw [if_pos rfl, if_pos (Nat.lt_succ_self _), hV2]
            · rw [if_neg h, if_neg h]
              by_cases h2 : j < k
              · rw [if_pos h2, if_pos (by omega)]
              · rw [if_neg h2, if_neg (by omega)])] at R9
          have R9 := Lib.hid R9
          have B9 := Lib.hid (B8.out.setCell (p := ⟨p, k, none⟩) (Nat.le_refl _) (.int .i64 (x : Nat)))
          clear hV hV2 hd hown hnl hx hln
          go_wp2_with fail
          go_roundw
          case rel => exact ⟨k + 1, by go_num, Hlt.out, R9.out, B9.out⟩
          case measure => simp [intOf]; have := Hlt.out; omega
    · have Cf := R6.out
      rw [numsN_congr (f' := treeV es root) (fun j hj => by rw [if_pos (by omega)])] at Cf
      have Cf := Lib.hid (numsN_il Cf.cells)
      have Bf := Lib.hid (HB.out _ B6.out)
      go_wp2_with fail
      go_ret
      exact ⟨_, rfl, Cf.out, Bf.out⟩
set_option maxRecDepth 100000 in
set_option maxHeartbeats 8000000 in
theorem refBack_any (n : Nat) (A : Option Addr) (m c : Nat) (es : List (Nat × Nat)) (root : Nat) (w : World) (h : EL w A m (cast es)) (hg : Fine n es) (hr : root < n) :
    Calls Tryd.prog 59 #[gV n A m c, .int .i64 root] w fun e w' => ∃ g, e = .returned (.slice (some ⟨g, 0, none⟩) n n) ∧ IL w' (some ⟨g, 0, none⟩) ((List.range n).map (backV es root)) ∧ Below w.heap.size w w' := by
  obtain ⟨i0, hi, hz0, hz1, hz2⟩ := info_parts info_int
  have hn64 := hg.n64
  have kv := (Below.refl w.heap.size w).alloc (Nat.le_refl _) (.cells #[.int .i64 (n : Nat), .slice A m c] 35)
  have G0 := Lib.hid (Cells.new w #[.int .i64 (n : Nat), .slice A m c] 35)
  have HP := Lib.hid (fun w' v (hb' : Below w.heap.size w w') (hv : v < n) => (show Calls Tryd.prog 57 _ w' (PthPost n es v root w') from refPath_any n A m c es v root w' (h.keep hb') hg hv hr))
  have Kv := Lib.hid kv
  have hri : (root : Int) < n := by omega
  clear h hg kv
  go_enter Tryd.func59, Tryd.ntmps59
  have g0 := G0.out.at_ 0
  simp only [List.getElem?_cons_zero] at g0
  obtain ⟨wa, hwa⟩ : ∃ u, w.alloc (.cells #[.int .i64 (n : Nat), .slice A m c] 35) = u := ⟨_, rfl⟩
  rw [hwa] at G0 Kv g0
  go_wp2_with (at_make; refine wpList_make_full _ rfl _ _ 50 rfl wa.heap.size 3 i0 (.int .i64 0) 1 Tryd.underlying50 hi hz0 hz1 _ _ _ _ n rfl rfl rfl rfl (by rw [hz2]; omega) (by unfold maxLen; omega) (Nat.le_refl _) ?_)
  intro w2 hown hgr
  have R2 := Lib.hid (made_row hown)
  have B2 := Lib.hid ((Below.refl wa.heap.size wa).grown hgr (Nat.le_refl _) (by simp))
  clear hown hgr g0
  obtain ⟨p, hp⟩ : ∃ p, wa.heap.size = p := ⟨_, rfl⟩
  rw [hp] at R2 B2 ⊢
  have HG := Lib.hid (fun w' (hb' : Below p wa w') => G0.out.keep (w' := w') (by rw [hp]; exact hb'))
  have HB := Lib.hid (fun w' (hb' : Below p wa w') => below_on Kv.out (w' := w') (by rw [hp]; exact hb'))
  clear hp
  go_wp2_with fail
  go_loopw [6, 7, 8] (fun i _ _ wr => ∃ k : Nat, i = .int .i64 (k : Nat) ∧ k ≤ n ∧ Row wr p 3 (numsN n fun j => if j < k then backV es root j else 0) ∧ Below p wa wr) (fun i _ _ _ => n - (intOf i).toNat)
  case atStart => exact ⟨0, rfl, Nat.zero_le _, by simpa using R2.out, B2.out⟩
  case round =>
    obtain ⟨k, rfl, hk, hrow, hb⟩ := hrel
    have R6 := Lib.hid hrow
    have B6 := Lib.hid hb
    have g0 := (HG.out _ hb).at_ 0
    have g1 := (HG.out _ hb).at_ 1
    simp only [List.getElem?_cons_zero, List.getElem?_cons_succ] at g0 g1
    clear hrow hb
    obtain ⟨wb, rfl⟩ : ∃ wb : World, wb = wr := ⟨_, rfl⟩
    by_cases hlt : k < n
    · have Hlt := Lib.hid hlt
      have hki : (k : Int) < n := by omega
      have z0 := (R6.out.cells.at_ k).trans (numsN_at _ hlt)
      have f0 := R6.out.cells.fz k
      obtain ⟨x0, hx0⟩ : ∃ x : Int, (if k < k then backV es root k else 0) = x := ⟨_, rfl⟩
      rw [hx0] at z0
      have R7 := R6.out.set k (.int .i64 (-1))
      rw [numsN_set] at R7
      have B7 := B6.out.setCell (p := ⟨p, k, none⟩) (Nat.le_refl _) (.int .i64 (-1))
      have h0 := (HG.out _ B7).at_ 0
      have h1 := (HG.out _ B7).at_ 1
      simp only [List.getElem?_cons_zero, List.getElem?_cons_succ] at h0 h1
      have HPk := Lib.hid (HP.out _ k (HB.out _ B7) hlt)
      have R7 := Lib.hid R7
      have B7 := Lib.hid B7
      clear hx0
      go_wp2_with fail
      refine HPk.out.mono ?_
      rintro e w8 ⟨hc, hb8⟩
      have R8 := Lib.hid (R7.out.keep hb8)
      have B8 := Lib.hid (B7.out.trans (hb8.mono (Nat.le_of_lt R7.out.cells.lt)))
      have hV : backV es root k = if dist (adjR es) (sing root) k ≤ 0 then -1 else (((wayM (adj es) (dist (adjR es) (sing root)) (dist (adjR es) (sing root) k).toNat k).getD 1 0 : Nat) : Int) := rfl
      clear hb8 z0 f0 h0 h1 g0 g1
      rcases hc with ⟨hno, rfl⟩ | ⟨d, v, hd, rfl, hown⟩
      · have R9 := R8.out
        rw [numsN_congr (f' := fun j => if j < k + 1 then backV es root j else 0) (fun j _ => by
          by_cases h : k = j
          · subst h; rw [if_pos rfl, if_pos (Nat.lt_succ_self _), hV, if_pos (by omega)]
          · rw [if_neg h]
            by_cases h2 : j < k
            · rw [if_pos h2, if_pos (by omega)]
            · rw [if_neg h2, if_neg (by omega)])] at R9
        have R9 := Lib.hid R9
        clear hno hV
        go_wp2_with fail
        go_roundw
        case rel => exact ⟨k + 1, by go_num, Hlt.out, R9.out, B8.out⟩
        case measure => simp [intOf]; have := Hlt.out; omega
      · rw [hd] at hV
        rw [wayM_len] at hown
        by_cases h0 : d = 0
        · subst h0
          obtain ⟨Av, cv, rfl, _⟩ := own_nats (l := wayM (adj es) (dist (adjR es) (sing root)) 0 k) (by rw [wayM_len]; exact hown)
          rw [wayM_len]
          have R9 := R8.out
          rw [numsN_congr (f' := fun j => if j < k + 1 then backV es root j else 0) (fun j _ => by
            by_cases h : k = j
            · subst h; rw [if_pos rfl, if_pos (Nat.lt_succ_self _), hV, if_pos (by omega)]
            · rw [if_neg h]
              by_cases h2 : j < k
              · rw [if_pos h2, if_pos (by omega)]
              · rw [if_neg h2, if_neg (by omega)])] at R9
          have R9 := Lib.hid R9
          clear hV hd hown
          go_wp2_with fail
          go_roundw
          case rel => exact ⟨k + 1, by go_num, Hlt.out, R9.out, B8.out⟩
          case measure => simp [intOf]; have := Hlt.out; omega
        · obtain ⟨Av, cv, rfl, hnl, _, _⟩ := own_nats (l := wayM (adj es) (dist (adjR es) (sing root)) d k) (by rw [wayM_len]; exact hown)
          obtain ⟨x, b, o, hx, rfl, _, _, hcell⟩ := hnl.at_ (k := 1) (by rw [wayM_len]; omega)
          rw [wayM_len]
          have hV2 : backV es root k = (x : Int) := by
            rw [hV, if_neg (by omega)]
            congr 1
            rw [Int.toNat_natCast, List.getD_eq_getElem?_getD, hx]
            rfl
          obtain ⟨ln, hln⟩ : ∃ ln, d + 1 = ln := ⟨_, rfl⟩
          have tl : decide ((1 : Int) < (ln : Int)) = true := decide_eq_true (by omega)
          have tl2 : (1 : Int) < (ln : Int) := by omega
          have ew : IntKind.i64.wrap ((ln : Int) - 2) = (ln : Int) - 2 := IntWalk.i64_in _ (by have := Hlt.out; have := distTo_bd (adjR es) (sing root) 65 k; unfold dist at hd; omega)
          have i1 : (2 : Int) ≤ (ln : Int) := by omega
          have i2 : (ln : Int) - 2 < ln := by omega
          have i3 : ((ln : Int) - 2).toNat = d - 1 := by omega
          rw [hln]
          have y0 := (R8.out.cells.at_ k).trans (numsN_at _ hlt)
          have f0 := R8.out.cells.fz k
          rw [if_pos rfl] at y0
          have R9 := R8.out.set k (.int .i64 (x : Nat))
          rw [numsN_set, numsN_congr (f' := fun j => if j < k + 1 then backV es root j else 0) (fun j _ => by
            by_cases h : k = j
            · subst h; rw [if_pos rfl, if_pos (Nat.lt_succ_self _), hV2]
            · rw [if_neg h, if_neg h]
              by_cases h2 : j < k
              · rw [if_pos h2, if_pos (by omega)]
              · rw [if_neg h2, if_neg (by omega)])] at R9
          have R9 := Lib.hid R9
          have B9 := Lib.hid (B8.out.setCell (p := ⟨p, k, none⟩) (Nat.le_refl _) (.int .i64 (x : Nat)))
          clear hV hV2 hd hown hnl hx hln
          go_wp2_with fail
          go_roundw
          case rel => exact ⟨k + 1, by go_num, Hlt.out, R9.out, B9.out⟩
          case measure => simp [intOf]; have := Hlt.out; omega
    · have Cf := R6.out
      rw [numsN_congr (f' := backV es root) (fun j hj => by rw [if_pos (by omega)])] at Cf
      have Cf := Lib.hid (numsN_il Cf.cells)
      have Bf := Lib.hid (HB.out _ B6.out)
      go_wp2_with fail
      go_ret
      exact ⟨_, rfl, Cf.out, Bf.out⟩
end Go.Proofs.YthocdmlacfejkaaDoor
