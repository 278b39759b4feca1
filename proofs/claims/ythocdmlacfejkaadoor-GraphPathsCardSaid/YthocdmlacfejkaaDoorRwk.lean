/- The reference's Has and walk. -/
import Derived.Test.YthocdmlacfejkaaDoorRcl
import Derived.Test.YthocdmlacfejkaaDoorWlk
namespace Go.Proofs.YthocdmlacfejkaaDoor
open Go.RowKit
/-- Whether there is an edge. -/
def hasE (es : List (Nat × Nat)) (a b : Nat) : Bool := es.any fun e => e.1 == a && e.2 == b
theorem hasE_iff {es : List (Nat × Nat)} {a b : Nat} : hasE es a b = true ↔ (adj es a).testBit b = true := by
  unfold hasE
  rw [adj_bit, List.any_eq_true]
  constructor
  · rintro ⟨⟨x, y⟩, he, h⟩
    simp only [Bool.and_eq_true, beq_iff_eq] at h
    obtain ⟨rfl, rfl⟩ := h
    exact he
  · intro h
    exact ⟨_, h, by simp⟩
set_option maxRecDepth 100000 in
set_option maxHeartbeats 8000000 in
theorem has_edge (n : Nat) (A : Option Addr) (m c : Nat) (es : List (Nat × Nat)) (x y : Nat) (w : World) (h : EL w A m (cast es)) (hm : m ≤ 4611686018427387904) :
    Calls Tryd.prog 75 #[gV n A m c, .int .i64 x, .int .i64 y] w fun e w' => e = .returned (.bool (hasE es x y)) ∧ Below w.heap.size w w' := by
  have hlen := h.len
  have kv := (Below.refl w.heap.size w).alloc (Nat.le_refl _) (.cells #[.int .i64 (n : Nat), .slice A m c] 35)
  have G0 := Lib.hid (Cells.new w #[.int .i64 (n : Nat), .slice A m c] 35)
  have E0 := Lib.hid (h.keep kv)
  have Kv := Lib.hid kv
  have Hlen := Lib.hid hlen
  clear h hlen kv
  go_enter Tryd.func75, Tryd.ntmps75
  have g1 := G0.out.at_ 1
  simp only [List.getElem?_cons_zero, List.getElem?_cons_succ] at g1
  obtain ⟨w0, hw0⟩ : ∃ u, w.alloc (.cells #[.int .i64 (n : Nat), .slice A m c] 35) = u := ⟨_, rfl⟩
  rw [hw0] at G0 E0 Kv g1
  go_wp2_with fail
  go_loop [7] (fun i => ∃ k : Nat, i = .int .i64 (k : Nat) ∧ k ≤ m ∧ (es.take k).any (fun e => e.1 == x && e.2 == y) = false) (fun i => m - (intOf i).toNat)
  case atStart => exact ⟨0, rfl, Nat.zero_le _, rfl⟩
  case round =>
    obtain ⟨k, rfl, hk, hno⟩ := hrel
    have Hno := Lib.hid hno
    clear hno
    by_cases hkm : k < m
    · obtain ⟨e, b, o, he, rfl, hbl, c0, c1⟩ := E0.out.at_ hkm
      obtain ⟨p, q, hpq, rfl⟩ := cast_at he
      simp only at c0 c1
      have Hpq := Lib.hid hpq
      have Hkm := Lib.hid hkm
      have Hup := Lib.hid (take_any (fun e : Nat × Nat => e.1 == x && e.2 == y) hpq)
      clear he hpq
      by_cases h1 : p = x
      · subst h1
        have t1 : ((p : Int) == (p : Int)) = true := by simp
        by_cases h2 : q = y
        · subst h2
          have t2 : ((q : Int) == (q : Int)) = true := by simp
          have Hf := Lib.hid (show hasE es p q = true from List.any_eq_true.2 ⟨_, List.mem_of_getElem? Hpq.out, by simp⟩)
          go_wp2_with fail
          go_ret
          exact ⟨ret_bool Hf.out.symm, Kv.out⟩
        · have t2 : ((q : Int) == (y : Int)) = false := by rw [beq_eq_false_iff_ne]; omega
          have Hn := Lib.hid (show (es.take (k + 1)).any (fun e => e.1 == p && e.2 == y) = false by rw [Hup.out, Hno.out]; simp [h2])
          clear h2
          go_wp2_with fail
          go_round
          case rel => exact ⟨k + 1, by go_num, Hkm.out, Hn.out⟩
          case measure => simp [intOf]; have := Hkm.out; omega
      · have t1 : ((p : Int) == (x : Int)) = false := by rw [beq_eq_false_iff_ne]; omega
        have Hn := Lib.hid (show (es.take (k + 1)).any (fun e => e.1 == x && e.2 == y) = false by rw [Hup.out, Hno.out]; simp [h1])
        clear h1
        go_wp2_with fail
        go_round
        case rel => exact ⟨k + 1, by go_num, Hkm.out, Hn.out⟩
        case measure => simp [intOf]; have := Hkm.out; omega
    · have Hf := Lib.hid (show hasE es x y = false by
        have := Hno.out
        rw [List.take_of_length_le (by rw [Hlen.out]; omega)] at this
        exact this)
      go_wp2_with fail
      go_ret
      exact ⟨ret_bool Hf.out.symm, Kv.out⟩
/-- A table of numbers in memory, n rows of n. -/
def TabA (B : Nat) (w : World) (T : Option Addr) (n : Nat) (F : Nat → Nat → Int) : Prop :=
  ∀ a, a < n → ∃ g p, T = some ⟨g, 0, none⟩ ∧ g < B ∧ p < B ∧ g < w.heap.size ∧ w.cell? ⟨g, a, none⟩ = some (.slice (some ⟨p, 0, none⟩) n n) ∧ Cells w p (numsN n (F a))
theorem TabA.keepB {B B' : Nat} {w w' : World} {T : Option Addr} {n : Nat} {F : Nat → Nat → Int} (h : TabA B w T n F) (hb : Below B' w w') (hB : B ≤ B') : TabA B w' T n F :=
  fun a ha => let ⟨g, p, e, h1, h2, h3, h4, h5⟩ := h a ha; ⟨g, p, e, h1, h2, Nat.lt_of_lt_of_le h3 hb.size, (hb.cell (p := ⟨g, a, none⟩) (show g < B' by omega)).trans h4, h5.keepB hb (by omega)⟩
theorem TabA.keep {B : Nat} {w w' : World} {T : Option Addr} {n : Nat} {F : Nat → Nat → Int} (h : TabA B w T n F) (hb : Below w.heap.size w w') : TabA B w' T n F :=
  fun a ha => let ⟨g, p, e, h1, h2, h3, h4, h5⟩ := h a ha; ⟨g, p, e, h1, h2, Nat.lt_of_lt_of_le h3 hb.size, (hb.cell (p := ⟨g, a, none⟩) h3).trans h4, h5.keep hb⟩
theorem TabA.up {B C : Nat} {w : World} {T : Option Addr} {n : Nat} {F : Nat → Nat → Int} (h : TabA B w T n F) (hB : B ≤ C) : TabA C w T n F :=
  fun a ha => let ⟨g, p, e, h1, h2, h3⟩ := h a ha; ⟨g, p, e, by omega, by omega, h3⟩
theorem OutT.tab {C n : Nat} {w : World} {v : Value} {f : Nat → Nat → Int} (h : OutT C w v n n f) : ∃ A c, v = .slice A n c ∧ TabA w.heap.size w A n f := by
  obtain ⟨A, c, e, hr⟩ := h.at_
  refine ⟨A, c, e, fun a ha => ?_⟩
  obtain ⟨g, p, e1, h1, h2⟩ := hr a ha
  have hg := World.block_lt_of_cell? w ⟨g, a, none⟩ h1
  exact ⟨g, p, e1, hg, h2.lt, hg, h1, h2⟩
theorem find_range {p : Nat → Bool} (k : Nat) : (List.range (k + 1)).find? p = ((List.range k).find? p).or (if p k then some k else none) := by
  rw [List.range_succ, List.find?_append, List.find?_cons]
  cases p k <;> rfl
/-- The next node, as the reference looks for it. -/
theorem way_find {n : Nat} {es : List (Nat × Nat)} (hl : Low n es) (hn : n ≤ 64) (F : Nat → Int) (a : Nat) (d : Int) : (bitsOf (adj es a)).find? (fun v => F v == d) = (List.range n).find? fun v => hasE es a v && F v == d := by
  unfold bitsOf
  rw [List.find?_filter]
  have e : (fun v => decide ((adj es a).testBit v = true ∧ (F v == d) = true)) = fun v => hasE es a v && F v == d := by
    funext v
    rw [Bool.eq_iff_iff, decide_eq_true_eq, Bool.and_eq_true, hasE_iff]
  rw [e]
  have hz : ∀ m, n ≤ m → (List.range m).find? (fun v => hasE es a v && F v == d) = (List.range n).find? fun v => hasE es a v && F v == d := by
    intro m hm
    induction m with
    | zero => obtain rfl : n = 0 := by omega
              rfl
    | succ m ih =>
      rcases Nat.lt_or_ge m n with h1 | h1
      · obtain rfl : n = m + 1 := by omega
        rfl
      · rw [find_range, ih h1]
        have : hasE es a m = false := by
          cases e : hasE es a m with
          | false => rfl
          | true => have := adj_under hl a m (hasE_iff.1 e); omega
        rw [this]
        simp
  exact hz 64 hn
set_option maxRecDepth 100000 in
set_option maxHeartbeats 8000000 in
theorem refWalk_any (n : Nat) (A : Option Addr) (m c : Nat) (es : List (Nat × Nat)) (T : Option Addr) (cT a b d : Nat) (F : Nat → Nat → Int) (w : World) (h : EL w A m (cast es)) (hg : Fine n es) (hT : TabA w.heap.size w T n F) (ha : a < n) (hb : b < n) (hd : d ≤ 64) :
    Calls Tryd.prog 101 #[gV n A m c, .slice T n cT, .int .i64 a, .int .i64 b, .int .i64 d] w fun e w' => ∃ v, e = .returned v ∧ w'.ownsRow w.heap.size 3 1 v (wayM (adj es) (fun v => F v b) d a).length (nats (wayM (adj es) (fun v => F v b) d a)) ∧ Below w.heap.size w w' := by
  obtain ⟨i0, hi, hz0, hz1, hz2⟩ := info_parts info_int
  have hlen := h.len
  have hm : m ≤ 4096 := by have := hg.len; omega
  have hn64 := hg.n64
  have kv := (Below.refl w.heap.size w).alloc (Nat.le_refl _) (.cells #[.int .i64 (n : Nat), .slice A m c] 35)
  have kx := kv.alloc (by simp) (.cells #[.int .i64 (a : Nat)] 3)
  have G0 := Lib.hid ((Cells.new w #[.int .i64 (n : Nat), .slice A m c] 35).keep ((Below.refl _ _).alloc (Nat.le_refl _) (.cells #[.int .i64 (a : Nat)] 3)))
  have T0 := Lib.hid (hT.keep kx)
  have HH := Lib.hid (fun w' x y (hb' : Below w.heap.size w w') => has_edge n A m c es x y w' (h.keep hb') (by omega))
  have HWf := Lib.hid (fun a d => way_find hg.low hn64 (fun v => F v b) a d)
  have O0 := own_one (C := w.heap.size + 1) (w.alloc (.cells #[.int .i64 (n : Nat), .slice A m c] 35)) a (by simp)
  simp only [World.size_alloc] at O0
  have O0 := Lib.hid O0
  have HT0 : w.heap.size ≤ w.heap.size + 1 := by omega
  have kx := Lib.hid kx
  have hbi : (b : Int) < n := by omega
  clear h hg hT kv hlen
  go_enter Tryd.func101, Tryd.ntmps101
  go_wp2_with fail
  go_loopw [2, 11, 12, 13] (fun av pv lv _ wr => ∃ (d' a' : Nat) (pre : List Nat), av = .int .i64 (a' : Nat) ∧ a' < n ∧ lv = .int .i64 ((d' : Int) - 1) ∧ d' ≤ d ∧ pre ++ (wayM (adj es) (fun v => F v b) d' a').drop 1 = wayM (adj es) (fun v => F v b) d a ∧ wr.ownsRow (w.heap.size + 1) 3 1 pv pre.length (nats pre) ∧ Cells wr w.heap.size [.int .i64 (n : Nat), .slice A m c] ∧ TabA w.heap.size wr T n F ∧ Below w.heap.size w wr) (fun _ _ lv _ _ => (intOf lv + 1).toNat)
  case atStart => exact ⟨d, a, [a], rfl, ha, rfl, Nat.le_refl _, (wayM_head _ _ d a).symm, O0.out, G0.out, T0.out, kx.out⟩
  case round =>
    obtain ⟨dd, a', pre, rfl, ha', rfl, hdd, hpre, hown, hgc, htab, hbw⟩ := hrel
    have Own := Lib.hid hown
    have Hb := Lib.hid hbw
    have Hg := Lib.hid hgc
    have Ht := Lib.hid htab
    have Hpre := Lib.hid hpre
    have hplen := way_len hpre
    clear hown hbw hgc htab hpre
    obtain ⟨wa, rfl⟩ : ∃ wa : World, wa = wr := ⟨_, rfl⟩
    cases dd with
    | zero =>
      have hfin := Hpre.out
      rw [wayM, List.drop_succ_cons, List.drop_zero, List.append_nil] at hfin
      have Of := Own.out
      rw [hfin] at Of
      have Of := Lib.hid (own_down' Of (Nat.le_succ _))
      clear hfin
      go_wp2_with fail
      go_ret
      exact ⟨_, rfl, Of.out, Hb.out⟩
    | succ d' =>
      have e0 : ((d' + 1 : Nat) : Int) - 1 = (d' : Int) := by omega
      rw [e0]
      have Hst := Lib.hid (fun x (hx : ((bitsOf (adj es a')).find? (fun v => F v b == (d' : Int))).getD a' = x) => show (pre ++ [x]) ++ (wayM (adj es) (fun v => F v b) d' x).drop 1 = wayM (adj es) (fun v => F v b) d a from by
        rw [← Hpre.out, wayM, hx, List.drop_succ_cons, List.drop_zero, List.append_assoc]
        congr 1
        exact (wayM_head _ _ d' x).symm)
      rw [HWf.out a' (d' : Int)] at Hst
      have ed : IntKind.i64.wrap ((d' : Int) - 1) = (d' : Int) - 1 := IntWalk.i64_in _ (by omega)
      clear e0
      go_wp2_with fail
      go_loopw [2, 13] (fun av iv wr => ∃ k : Nat, av = .int .i64 (a' : Nat) ∧ iv = .int .i64 (k : Nat) ∧ k ≤ n ∧ (List.range k).find? (fun v => hasE es a' v && F v b == (d' : Int)) = none ∧ Below wa.heap.size wa wr) (fun _ iv _ => n - (intOf iv).toNat)
      case atStart => exact ⟨0, rfl, rfl, Nat.zero_le _, rfl, Below.refl _ _⟩
      case round =>
        obtain ⟨k, rfl, rfl, hk, hno, hb6⟩ := hrel
        have Hno := Lib.hid hno
        have G6 := Lib.hid (Hg.out.keep hb6)
        have T6 := Lib.hid (Ht.out.keep hb6)
        have O6 := Lib.hid (own_below Own.out hb6)
        have b6 := Lib.hid hb6
        have B6 := Lib.hid (below_on Hb.out hb6)
        have g0 := G6.out.at_ 0
        have g1 := G6.out.at_ 1
        simp only [List.getElem?_cons_zero, List.getElem?_cons_succ] at g0 g1
        clear hno hb6
        obtain ⟨wb, rfl⟩ : ∃ wb : World, wb = wr := ⟨_, rfl⟩
        by_cases hkn : k < n
        · have Hkn := Lib.hid hkn
          have hki : (k : Int) < n := by omega
          have HHk := HH.out wb a' k B6.out
          have Hup := Lib.hid (find_range (p := fun v => hasE es a' v && F v b == (d' : Int)) k)
          obtain ⟨h, hh⟩ : ∃ h, hasE es a' k = h := ⟨_, rfl⟩
          rw [hh] at HHk
          have HHk := Lib.hid HHk
          have Hh := Lib.hid hh
          clear hh
          go_wp2_with fail
          refine HHk.out.mono ?_
          rintro e w7 ⟨rfl, hb7⟩
          have G8 := Lib.hid (G6.out.keep hb7)
          have T8 := Lib.hid (T6.out.keep hb7)
          have O8 := Lib.hid (own_below O6.out hb7)
          have b8 := Lib.hid (below_on b6.out hb7)
          have B8 := Lib.hid (below_on B6.out hb7)
          clear hb7 g0 g1
          cases h with
          | false =>
            have Hn := Lib.hid (show (List.range (k + 1)).find? (fun v => hasE es a' v && F v b == (d' : Int)) = none by rw [Hup.out, Hno.out, Hh.out]; rfl)
            go_wp2_with fail
            go_roundw
            case rel => exact ⟨k + 1, rfl, by go_num, Hkn.out, Hn.out, b8.out⟩
            case measure => simp [intOf]; have := Hkn.out; omega
          | true =>
            obtain ⟨gt, p, rfl, _, _, _, t1, hc⟩ := T8.out k hkn
            have hc6 := (hc.at_ b).trans (numsN_at _ hb)
            obtain ⟨u, hu⟩ : ∃ u, F k b = u := ⟨_, rfl⟩
            rw [hu] at hc6
            have Hu := Lib.hid hu
            clear hu hc
            by_cases h0 : u = (d' : Int)
            · have t0 : (u == (d' : Int)) = true := by rw [beq_iff_eq]; exact h0
              have HX := Lib.hid (Hst.out k (by
                have e1 : (List.range n).find? (fun v => hasE es a' v && F v b == (d' : Int)) = some k := by
                  refine find_at (j := k) (fun x hx => ?_) (List.getElem?_range hkn) (by rw [Hh.out, Hu.out, t0]; rfl)
                  rw [List.take_range, Nat.min_eq_left (by omega)] at hx
                  have := List.find?_eq_none.1 Hno.out x hx
                  simpa using this
                rw [e1]; rfl))
              have hbc : w.heap.size + 1 ≤ w7.heap.size := G8.out.lt
              clear h0
              go_wp2_with (at_builtin; refine wpList_append_own _ rfl _ _ 50 rfl (w.heap.size + 1) 3 i0 (.int .i64 0) 1 8 Tryd.underlying50 hi hz0 hz1 hz2 rfl (by decide) _ _ _ rfl (O8.out.alloc _) ⟨w7.heap.size, 0, none⟩ 1 1 [.int .i64 (k : Nat)] rfl rfl ?c1 ?c2 ?c3 ?c4 ?c5 ?_)
              case c1 =>
                intro q u hu
                match q, hu with
                | 0, hu => simp at hu; subst hu; simp [Addr.add]
              case c2 => intro u hu; simp at hu; subst hu; rfl
              case c3 => unfold maxLen; omega
              case c4 => omega
              case c5 => simp; omega
              intro v' w3 hown' hgrow _
              have B7 := Lib.hid ((B8.out.alloc B8.out.size (.cells #[.int .i64 (k : Nat)] 3)).grown hgrow (by simp; omega) (fun k hk => Nat.le_of_succ_le (own_ge O8.out hk)))
              have b7 := ((Below.refl (w.heap.size + 1) w7).alloc hbc (.cells #[.int .i64 (k : Nat)] 3)).grown hgrow (by simp; omega) (fun k hk => own_ge O8.out hk)
              have G7 := Lib.hid (G8.out.keepB b7 (Nat.lt_succ_self _))
              have T7 := Lib.hid (T8.out.keepB b7 HT0)
              have O7 := Lib.hid (show w3.ownsRow (w.heap.size + 1) 3 1 v' (pre ++ [k]).length (nats (pre ++ [k])) by
                rw [List.length_append, nats_snoc]; exact hown')
              clear hown' hgrow b7
              go_wp2_with fail
              go_roundw
              case rel => exact ⟨d', k, pre ++ [k], rfl, Hkn.out, by go_num, by omega, HX.out, O7.out, G7.out, T7.out, B7.out⟩
              case measure => simp [intOf]
            · have t0 : (u == (d' : Int)) = false := by rw [beq_eq_false_iff_ne]; exact h0
              have Hn := Lib.hid (show (List.range (k + 1)).find? (fun v => hasE es a' v && F v b == (d' : Int)) = none by rw [Hup.out, Hno.out, Hh.out, Hu.out, t0]; rfl)
              clear h0
              go_wp2_with fail
              go_roundw
              case rel => exact ⟨k + 1, rfl, by go_num, Hkn.out, Hn.out, b8.out⟩
              case measure => simp [intOf]; have := Hkn.out; omega
        · have HX := Lib.hid (Hst.out a' (by
            have hkn' : k = n := by omega
            have e1 := Hno.out
            rw [hkn'] at e1
            rw [e1]; rfl))
          have Ha' := Lib.hid ha'
          have hbc : w.heap.size + 1 ≤ wb.heap.size := G6.out.lt
          go_wp2_with (at_builtin; refine wpList_append_own _ rfl _ _ 50 rfl (w.heap.size + 1) 3 i0 (.int .i64 0) 1 8 Tryd.underlying50 hi hz0 hz1 hz2 rfl (by decide) _ _ _ rfl (O6.out.alloc _) ⟨wb.heap.size, 0, none⟩ 1 1 [.int .i64 (a' : Nat)] rfl rfl ?c1 ?c2 ?c3 ?c4 ?c5 ?_)
          case c1 =>
            intro q u hu
            match q, hu with
            | 0, hu => simp at hu; subst hu; simp [Addr.add]
          case c2 => intro u hu; simp at hu; subst hu; rfl
          case c3 => unfold maxLen; omega
          case c4 => omega
          case c5 => simp; omega
          intro v' w3 hown' hgrow _
          have B7 := Lib.hid ((B6.out.alloc B6.out.size (.cells #[.int .i64 (a' : Nat)] 3)).grown hgrow (by simp; omega) (fun k hk => Nat.le_of_succ_le (own_ge O6.out hk)))
          have b7 := ((Below.refl (w.heap.size + 1) wb).alloc hbc (.cells #[.int .i64 (a' : Nat)] 3)).grown hgrow (by simp; omega) (fun k hk => own_ge O6.out hk)
          have G7 := Lib.hid (G6.out.keepB b7 (Nat.lt_succ_self _))
          have T7 := Lib.hid (T6.out.keepB b7 HT0)
          have O7 := Lib.hid (show w3.ownsRow (w.heap.size + 1) 3 1 v' (pre ++ [a']).length (nats (pre ++ [a'])) by
            rw [List.length_append, nats_snoc]; exact hown')
          clear hown' hgrow b7
          go_wp2_with fail
          go_roundw
          case rel => exact ⟨d', a', pre ++ [a'], rfl, Ha'.out, by go_num, by omega, HX.out, O7.out, G7.out, T7.out, B7.out⟩
          case measure => simp [intOf]
end Go.Proofs.YthocdmlacfejkaaDoor
