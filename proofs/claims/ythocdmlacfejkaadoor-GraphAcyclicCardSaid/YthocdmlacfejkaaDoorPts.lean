/- Parts: the connected parts. -/
import Derived.Test.YthocdmlacfejkaaDoorMG
import Derived.Test.YthocdmlacfejkaaDoorMak
import Derived.Test.YthocdmlacfejkaaDoorLvm
namespace Go.Proofs.YthocdmlacfejkaaDoor
open Go.RowKit
/-- The nodes next to a node, either way: after k edges have been turned. -/
def bothP (es : List (Nat × Nat)) (k i : Nat) : Nat := adj es i ||| adjR (es.take k) i
def adjB (es : List (Nat × Nat)) (i : Nat) : Nat := adj es i ||| adjR es i
theorem both_zero (es : List (Nat × Nat)) : bothP es 0 = adj es := by funext i; unfold bothP adjR; simp
theorem both_end {es : List (Nat × Nat)} {k : Nat} (h : es.length ≤ k) : bothP es k = adjB es := by funext i; unfold bothP adjB; rw [List.take_of_length_le h]
theorem both_step {w : World} {p k x y : Nat} {es : List (Nat × Nat)} (hk : es[k]? = some (x, y)) (hc : Cells w p (sets (bothP es k))) (hy : y < 64) :
    Cells (w.setCell ⟨p, y, none⟩ (.int .u64 (bothP es k y ||| sing x : Nat))) p (sets (bothP es (k + 1))) := by
  have h := hc.set y (.int .u64 (bothP es k y ||| sing x : Nat)) (by rw [sets_len]; exact hy)
  rw [sets_set] at h
  have e : (fun j => if y = j then bothP es k y ||| sing x else bothP es k j) = bothP es (k + 1) := by
    funext j
    unfold bothP
    rw [List.take_add_one, hk]
    show _ = adj es j ||| adjR (es.take k ++ [(x, y)]) j
    rw [adjR_snoc]
    by_cases h : y = j
    · subst h; simp [sing, Nat.or_assoc]
    · simp [h]
  rw [e] at h
  exact h
theorem both_under {es : List (Nat × Nat)} (h : Low 64 es) (k i : Nat) : bothP es k i < 18446744073709551616 := or_lt (lt_under'.1 (adj_under h i)) (lt_under'.1 (adjR_under (low_take h k) i))
theorem adjB_under {n : Nat} {es : List (Nat × Nat)} (h : Low n es) (i : Nat) : Under n (adjB es i) := fun v hv => by
  unfold adjB at hv
  rw [Nat.testBit_or, Bool.or_eq_true] at hv
  rcases hv with hv | hv
  · exact adj_under h i v hv
  · exact adjR_under h i v hv
/-- What the second loop holds after k nodes: those seen, and the parts. -/
def prtM (L : Nat → Nat) : Nat → Nat × List Nat
  | 0 => (0, [])
  | i + 1 => if (prtM L i).1.testBit i then prtM L i else ((prtM L i).1 ||| lev L (sing i) 64, (prtM L i).2 ++ [lev L (sing i) 64])
theorem prtM_yes {L : Nat → Nat} {i : Nat} (h : (prtM L i).1.testBit i = true) : prtM L (i + 1) = prtM L i := by rw [prtM, if_pos h]
theorem prtM_no {L : Nat → Nat} {i : Nat} (h : (prtM L i).1.testBit i = false) : prtM L (i + 1) = ((prtM L i).1 ||| lev L (sing i) 64, (prtM L i).2 ++ [lev L (sing i) 64]) := by rw [prtM, if_neg (by rw [h]; simp)]
theorem prtM_len (L : Nat → Nat) : ∀ i, (prtM L i).2.length ≤ i
  | 0 => Nat.le_refl _
  | i + 1 => by
    have := prtM_len L i
    cases h : (prtM L i).1.testBit i with
    | true => rw [prtM_yes h]; omega
    | false => rw [prtM_no h, List.length_append]; simp; omega
theorem prtM_lt {L : Nat → Nat} (hL : ∀ i, Under 64 (L i)) : ∀ {i}, i ≤ 64 → (prtM L i).1 < 18446744073709551616 ∧ ∀ x ∈ (prtM L i).2, x < 18446744073709551616
  | 0, _ => ⟨by show (0 : Nat) < _; decide, fun x hx => by simp [prtM] at hx⟩
  | i + 1, hi => by
    obtain ⟨h1, h2⟩ := prtM_lt hL (i := i) (by omega)
    cases h : (prtM L i).1.testBit i with
    | true => rw [prtM_yes h]; exact ⟨h1, h2⟩
    | false =>
      rw [prtM_no h]
      have hl := lt_under'.1 (lev_under hL (lt_under'.2 (sing_lt (show i < 64 by omega))) 64)
      refine ⟨or_lt h1 hl, fun x hx => ?_⟩
      rcases List.mem_append.1 hx with h3 | h3
      · exact h2 x h3
      · rw [List.mem_singleton.1 h3]; exact hl
def PtsPost (es : List (Nat × Nat)) (n : Nat) (w : World) (e : Ending) (w' : World) : Prop :=
  (∃ A', e = .returned (.tuple #[.slice A' (prtM (adjB es) n).2.length (prtM (adjB es) n).2.length, .int .i64 0]) ∧ LL w.heap.size w' A' ((prtM (adjB es) n).2.map bitsOf)) ∧ Below w.heap.size w w'
set_option maxRecDepth 100000 in
set_option maxHeartbeats 8000000 in
theorem parts_any (n : Nat) (A : Option Addr) (m c : Nat) (es : List (Nat × Nat)) (w : World) (h : EL w A m (cast es)) (hg : Fine n es) (hw : Good w) :
    Calls Tryd.prog 50 #[gV n A m c] w (PtsPost es n w) := by
  obtain ⟨j0, hj0, jz0, jz1, jz2⟩ := info_parts info_set
  have hlen := h.len
  have hm : m ≤ 4096 := by have := hg.len; omega
  have hn64 := hg.n64
  have kv := (Below.refl w.heap.size w).alloc (Nat.le_refl _) (.cells #[.int .i64 (n : Nat), .slice A m c] 26)
  have G0 := Lib.hid (Cells.new w #[.int .i64 (n : Nat), .slice A m c] 26)
  have HC := check_any (n : Int) A m c (cast es) (w.alloc (.cells #[.int .i64 (n : Nat), .slice A m c] 26)) (h.keep kv) (by omega)
  rw [hg.check] at HC
  have HC := Lib.hid HC
  have HG := Lib.hid (fun w' (hb' : Below w.heap.size w w') => hw.below hb' hw.size)
  have HN := Lib.hid (fun w' (hb' : Below w.heap.size w w') => next_any n A m c es w' (h.keep hb') hg.low64 hm)
  have E0 := Lib.hid (fun w' (hb' : Below w.heap.size w w') => h.keep hb')
  have HL := Lib.hid hg.low64
  have HU := Lib.hid (fun i => adjB_under hg.low64 i)
  have kv := Lib.hid kv
  have Hlen := Lib.hid hlen
  clear h hg hw hlen
  go_enter Tryd.func50, Tryd.ntmps50
  go_wp2_with fail
  refine HC.out.mono ?_
  rintro e w1 ⟨rfl, hb1⟩
  have G1 := Lib.hid (G0.out.keep hb1)
  have B1 := Lib.hid (below_on kv.out hb1)
  have g0 := G1.out.at_ 0
  have g1 := G1.out.at_ 1
  simp only [List.getElem?_cons_zero, List.getElem?_cons_succ] at g0 g1
  have hx1 := G1.out.lt
  clear hb1
  go_wp2_with fail
  refine (HN.out _ B1.out).mono ?_
  rintro e w2 ⟨p, rfl, hc, hpw, hb2⟩
  have G2 := Lib.hid (G1.out.keep hb2)
  have C2 := Lib.hid (show Cells w2 p (sets (bothP es 0)) by rw [both_zero]; exact hc)
  have B2 := Lib.hid hb2
  clear hc hb2 g0 g1
  have g0 := G2.out.at_ 0
  have g1 := G2.out.at_ 1
  simp only [List.getElem?_cons_zero, List.getElem?_cons_succ] at g0 g1
  go_wp2_with fail
  go_loopw [7, 22] (fun _ i wr => ∃ k : Nat, i = .int .i64 (k : Nat) ∧ k ≤ m ∧ Cells wr p (sets (bothP es k)) ∧ Below w1.heap.size w1 wr) (fun _ i _ => m - (intOf i).toNat)
  case atStart => exact ⟨0, rfl, Nat.zero_le _, C2.out, B2.out⟩
  case round =>
    obtain ⟨k, rfl, hk, hcl, hb⟩ := hrel
    have C6 := Lib.hid hcl
    have B6 := Lib.hid hb
    have Bw := Lib.hid (below_on B1.out hb)
    clear hcl hb
    obtain ⟨wa, rfl⟩ : ∃ wa : World, wa = wr := ⟨_, rfl⟩
    by_cases hlt : k < m
    · obtain ⟨e, b, o, he, rfl, hbl, c0, c1⟩ := (E0.out _ Bw.out).at_ hlt
      obtain ⟨x, y, hxy, rfl⟩ := cast_at he
      simp only at c0 c1
      obtain ⟨hx, hy⟩ := HL.out _ (List.mem_of_getElem? hxy)
      simp only at hx hy
      have Hlt := Lib.hid hlt
      have bx := (Below.refl wa.heap.size wa).alloc (Nat.le_refl _) (.cells #[.int .i64 (x : Int), .int .i64 (y : Int)] 32)
      have Y6 := Lib.hid (Cells.new wa #[.int .i64 (x : Int), .int .i64 (y : Int)] 32)
      have C7 := Lib.hid (C6.out.keep bx)
      have B7 := Lib.hid (B6.out.alloc B6.out.size (.cells #[.int .i64 (x : Int), .int .i64 (y : Int)] 32))
      obtain ⟨w7, hw7⟩ : ∃ u, wa.alloc (.cells #[.int .i64 (x : Int), .int .i64 (y : Int)] 32) = u := ⟨_, rfl⟩
      obtain ⟨pe, hpe⟩ : ∃ pe, wa.heap.size = pe := ⟨_, rfl⟩
      rw [hw7] at Y6 C7 B7
      rw [hpe] at Y6
      have d0 := Y6.out.at_ 0
      have d1 := Y6.out.at_ 1
      simp only [List.getElem?_cons_zero, List.getElem?_cons_succ] at d0 d1
      have hxi : (y : Int) < 64 := by omega
      have l0 : w7.cell? ⟨p, y, none⟩ = some (.int .u64 (bothP es k y : Nat)) := (C7.out.at_ y).trans (sets_at _ hy)
      have l1 : w7.frozen? ⟨p, y, none⟩ = false := C7.out.fz y
      have ub := both_under HL.out k y
      have sy := sing_lt hx
      have e1 : bits .or .u64 ((bothP es k y : Nat) : Int) ((sing x : Nat) : Int) = ((bothP es k y ||| sing x : Nat) : Int) := bits_or_u64_nat _ _ ub sy
      have Hfin := Lib.hid (both_step hxy C7.out hy)
      have B8 := Lib.hid (B7.out.setCell (p := ⟨p, y, none⟩) hpw (.int .u64 (bothP es k y ||| sing x : Nat)))
      clear he hxy bx
      go_wp2_with fail
      go_still_tail 12, (by kernel_rfl)
      still_call (Calls.still (single_any _ _ (by assumption)))
      repeat still_step
      change wpList _ _ _ _ _ w7.drew
      go_wp2_with fail
      go_roundw
      case rel => exact ⟨k + 1, by go_num, Hlt.out, Hfin.out.drew, B8.out.drew⟩
      case measure => simp [intOf]; have := Hlt.out; omega
    · have Cf := Lib.hid (show Cells wa p (sets (adjB es)) by rw [← both_end (k := k) (by rw [Hlen.out]; omega)]; exact C6.out)
      have G6 := Lib.hid (G1.out.keepB B6.out hx1)
      have hpa := C6.out.lt
      clear g0 g1
      have g0 := G6.out.at_ 0
      have g1 := G6.out.at_ 1
      simp only [List.getElem?_cons_zero, List.getElem?_cons_succ] at g0 g1
      go_wp2_with fail
      go_loopw [8, 9, 10, 11, 41] (fun pv sv _ _ i wr => ∃ k : Nat, i = .int .i64 (k : Nat) ∧ sv = .int .u64 ((prtM (adjB es) k).1 : Nat) ∧ k ≤ n ∧ wr.ownsRow wa.heap.size 98 1 pv (prtM (adjB es) k).2.length (u64s (prtM (adjB es) k).2) ∧ Below wa.heap.size wa wr) (fun pv sv _ _ i _ => n - (intOf i).toNat)
      case atStart => exact ⟨0, rfl, rfl, Nat.zero_le _, World.ownsRow_nil _ _ _ _, Below.refl _ _⟩
      case round =>
        obtain ⟨k, rfl, rfl, hk, hown, hb⟩ := hrel
        have O6 := Lib.hid hown
        have D6 := Lib.hid hb
        have Bx := Lib.hid (below_on Bw.out hb)
        have hsz := hb.size
        clear hown hb
        obtain ⟨wb, rfl⟩ : ∃ wb : World, wb = wr := ⟨_, rfl⟩
        have hsl := (prtM_lt HU.out (i := k) (by omega)).1
        by_cases hlt : k < n
        · have Hlt := Lib.hid hlt
          have HH := Lib.hid (has_any (prtM (adjB es) k).1 k wb (by omega) hsl)
          have HSg := Lib.hid (single_any k wb (by omega))
          have HR := Lib.hid (reach_any p (adjB es) (sing k) wb (Cf.out.keep D6.out) HU.out (sing_lt (by omega)) (HG.out _ Bx.out))
          have hll := prtM_len (adjB es) k
          have hlv := lt_under'.1 (lev_under HU.out (lt_under'.2 (sing_lt (show k < 64 by omega))) 64)
          have e1 : bits .or .u64 (((prtM (adjB es) k).1 : Nat) : Int) ((lev (adjB es) (sing k) 64 : Nat) : Int) = (((prtM (adjB es) k).1 ||| lev (adjB es) (sing k) 64 : Nat) : Int) := bits_or_u64_nat _ _ hsl hlv
          cases hbit : (prtM (adjB es) k).1.testBit k with
          | true =>
            have Hy := Lib.hid (prtM_yes hbit)
            rw [hbit] at HH
            clear hbit
            obtain ⟨q, hq⟩ : ∃ q, prtM (adjB es) k = q := ⟨_, rfl⟩
            rw [hq] at O6 HH Hy
            rw [hq]
            clear hq e1 hsl hll
            go_wp2_with fail
            refine HH.out.mono ?_
            rintro e w8 ⟨rfl, rfl⟩
            go_wp2_with fail
            go_roundw
            case rel => exact ⟨k + 1, by go_num, by rw [Hy.out], Hlt.out, by rw [Hy.out]; exact O6.out, D6.out⟩
            case measure => simp [intOf]; have := Hlt.out; omega
          | false =>
            have Hy := Lib.hid (prtM_no hbit)
            rw [hbit] at HH
            clear hbit
            obtain ⟨⟨q1, q2⟩, hq⟩ : ∃ q, prtM (adjB es) k = q := ⟨_, rfl⟩
            obtain ⟨lv, hlvq⟩ : ∃ lv, lev (adjB es) (sing k) 64 = lv := ⟨_, rfl⟩
            rw [hq, hlvq] at Hy
            rw [hq] at O6 HH hll
            rw [hq, hlvq] at e1
            rw [hlvq] at HR
            rw [hq]
            simp only at O6 HH Hy e1 hll ⊢
            clear hq hlvq hlv hsl
            go_wp2_with fail
            refine HH.out.mono ?_
            rintro e w8 ⟨rfl, rfl⟩
            go_wp2_with fail
            refine HSg.out.mono ?_
            rintro e w9 ⟨rfl, rfl⟩
            go_wp2_with fail
            refine HR.out.mono ?_
            rintro e w10 ⟨rfl, hb10⟩
            have D10 := Lib.hid (below_on D6.out hb10)
            have O10 := Lib.hid (World.ownsRow.kept O6.out (row := none) ⟨hb10.os, hb10.tape, hb10.output, hb10.size, fun k hk _ => hb10.block k hk⟩ (by cases Value.ownBlock _ <;> simp))
            have hs10 : wa.heap.size ≤ w10.heap.size := Nat.le_trans hsz hb10.size
            clear hb10
            go_wp2_with (at_builtin; refine wpList_append_own _ rfl _ _ 103 rfl wa.heap.size 98 j0 (.int .u64 0) 1 8 Tryd.underlying103 hj0 jz0 jz1 jz2 rfl (by decide) _ _ _ rfl (O10.out.alloc _) ⟨w10.heap.size, 0, none⟩ 1 1 [.int .u64 (lv : Nat)] rfl rfl ?c1 ?c2 ?c3 ?c4 ?c5 ?_)
            case c1 =>
              intro k u hu
              match k, hu with
              | 0, hu => simp at hu; subst hu; simp [Addr.add]
            case c2 => intro u hu; simp at hu; subst hu; rfl
            case c3 => unfold maxLen; omega
            case c4 => omega
            case c5 => simp; omega
            intro v' w11 hown' hgrow _
            have O11 := Lib.hid (show w11.ownsRow wa.heap.size 98 1 v' (prtM (adjB es) (k + 1)).2.length (u64s (prtM (adjB es) (k + 1)).2) by
              rw [Hy.out]
              simp only
              rw [List.length_append, u64s_snoc]
              exact hown')
            have D11 := Lib.hid ((D10.out.alloc hs10 _).grown hgrow (by simp; omega) (fun k hk => own_ge O10.out hk))
            clear hown' hgrow
            go_wp2_with fail
            go_roundw
            case rel => exact ⟨k + 1, by go_num, by rw [Hy.out], Hlt.out, O11.out, D11.out⟩
            case measure => simp [intOf]; have := Hlt.out; omega
        · have hkn : k = n := by omega
          subst hkn
          have hll := prtM_len (adjB es) k
          obtain ⟨A7, c7, hv, hU, _, _⟩ := own_sets O6.out
          subst hv
          have HLs := Lib.hid (lists_any _ A7 c7 (prtM (adjB es) k).2 wb hU (prtM_lt HU.out hn64).2 (by omega) (HG.out _ Bx.out))
          clear hU hsl
          go_wp2_with fail
          refine HLs.out.mono ?_
          rintro e w12 ⟨A12, rfl, hLL, hb12⟩
          have B12 := Lib.hid (below_on Bx.out hb12)
          have L12 := Lib.hid (hLL.down Bx.out.size)
          clear hLL hb12
          go_wp2_with fail
          go_ret2
          exact ⟨⟨A12, rfl, L12.out⟩, B12.out⟩
end Go.Proofs.YthocdmlacfejkaaDoor
