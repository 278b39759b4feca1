/- The reference's classes and Components. -/
import Derived.Test.YthocdmlacfejkaaDoorMJ
import Derived.Test.YthocdmlacfejkaaDoorTj
namespace Go.Proofs.YthocdmlacfejkaaDoor
open Go.RowKit
def mutF (F : Nat → Nat → Int) (a b : Nat) : Bool := decide (0 ≤ F a b) && decide (0 ≤ F b a)
def sccF (F : Nat → Nat → Int) (n a : Nat) : List Nat := (List.range n).filter (mutF F a)
def clsF (F : Nat → Nat → Int) (n i : Nat) : List (List Nat) := (List.range i).flatMap fun a => if (sccF F n a).head? = some a then [sccF F n a] else []
theorem clsF_step (F : Nat → Nat → Int) (n i : Nat) : clsF F n (i + 1) = clsF F n i ++ if (sccF F n i).head? = some i then [sccF F n i] else [] := by
  unfold clsF
  rw [List.range_succ, List.flatMap_append]
  simp
theorem clsF_len (F : Nat → Nat → Int) (n : Nat) : ∀ i, (clsF F n i).length ≤ i
  | 0 => by simp [clsF]
  | i + 1 => by
    rw [clsF_step, List.length_append]
    have := clsF_len F n i
    by_cases h : (sccF F n i).head? = some i
    · rw [if_pos h, List.length_singleton]; omega
    · rw [if_neg h, List.length_nil]; omega
theorem clsF_cls {n : Nat} {es : List (Nat × Nat)} (hl : Low n es) (hn : n ≤ 64) : clsF (fun a => tabF es a (n + 1)) n n = clsM n es := by
  have hs : ∀ x, x < n → sccF (fun a => tabF es a (n + 1)) n x = sccL n es x := fun x hx => by
    unfold sccF sccL
    refine List.filter_congr fun y hy => ?_
    have hy := List.mem_range.1 hy
    unfold mutF mutE
    simp only [tabF_full hl hn hx, tabF_full hl hn hy]
  unfold clsF clsM
  rw [List.flatMap_def, List.flatMap_def]
  congr 1
  exact List.map_congr_left fun x hx => by rw [hs x (List.mem_range.1 hx)]
set_option maxRecDepth 100000 in
set_option maxHeartbeats 8000000 in
theorem classes_any (B : Nat) (T : Option Addr) (n c : Nat) (F : Nat → Nat → Int) (w : World) (h : TabA B w T n F) (hn : n ≤ 64) (h0 : ∀ a, a < n → 0 ≤ F a a) :
    Calls Tryd.prog 100 #[.slice T n c] w fun e w' => ∃ v, e = .returned v ∧ OutN w.heap.size w' v (clsF F n n) ∧ Below w.heap.size w w' := by
  obtain ⟨i0, hi, hz0, hz1, hz2⟩ := info_parts info_int
  obtain ⟨j0, hj, jz0, jz1, jz2⟩ := info_parts info_ints
  have T0 := Lib.hid (fun w' (hb : Below w.heap.size w w') => h.keep hb)
  have H0 := Lib.hid h0
  clear h h0
  go_enter Tryd.func100, Tryd.ntmps100
  go_wp2_with fail
  go_loopw [3, 4, 5, 6] (fun v av _ _ wr => ∃ a : Nat, av = .int .i64 (a : Nat) ∧ a ≤ n ∧ OutN w.heap.size wr v (clsF F n a) ∧ Below w.heap.size w wr) (fun _ av _ _ _ => n - (intOf av).toNat)
  case atStart => exact ⟨0, rfl, Nat.zero_le _, OutN.nil _ _, Below.refl _ _⟩
  case round =>
    obtain ⟨a, rfl, ha, hout, hb⟩ := hrel
    have Hout := Lib.hid hout
    have B6 := Lib.hid hb
    clear hout hb
    obtain ⟨wa, rfl⟩ : ∃ wa : World, wa = wr := ⟨_, rfl⟩
    by_cases hlt : a < n
    · have Hlt := Lib.hid hlt
      go_wp2_with fail
      clear hlt
      go_loopw [5, 6] (fun cv jv wr => ∃ j : Nat, jv = .int .i64 (j : Nat) ∧ j ≤ n ∧ wr.ownsRow wa.heap.size 3 1 cv ((List.range j).filter (mutF F a)).length (nats ((List.range j).filter (mutF F a))) ∧ Below wa.heap.size wa wr) (fun _ jv _ => n - (intOf jv).toNat)
      case atStart => exact ⟨0, rfl, Nat.zero_le _, World.ownsRow_nil _ _ _ _, Below.refl _ _⟩
      case round =>
        obtain ⟨j, rfl, hj2, hown, hb⟩ := hrel
        have O7 := Lib.hid hown
        have B7 := Lib.hid hb
        have hsz := hb.size
        clear hown hb
        obtain ⟨wb, rfl⟩ : ∃ wb : World, wb = wr := ⟨_, rfl⟩
        by_cases hjn : j < n
        · have Hjn := Lib.hid hjn
          have Tb := T0.out wb (below_on B6.out B7.out)
          obtain ⟨g, p, rfl, _, _, _, c0, r0⟩ := Tb a Hlt.out
          obtain ⟨g2, p2, hge, _, _, _, c1, r1⟩ := Tb j hjn
          injection hge with hge
          injection hge with hge
          subst hge
          have d0 := (r0.at_ j).trans (numsN_at _ hjn)
          have d1 := (r1.at_ a).trans (numsN_at _ Hlt.out)
          have ai : (a : Int) < (n : Int) := by have := Hlt.out; omega
          have ji : (j : Int) < (n : Int) := by omega
          have hfl : ((List.range j).filter (mutF F a)).length ≤ 64 := by
            have := List.length_filter_le (mutF F a) (List.range j)
            rw [List.length_range] at this
            omega
          have Hfl := Lib.hid hfl
          have Hup := Lib.hid (reach_up (mutF F a) j)
          have Hm := Lib.hid (show mutF F a j = (decide (0 ≤ F a j) && decide (0 ≤ F j a)) from rfl)
          obtain ⟨x, hx⟩ : ∃ x, F a j = x := ⟨_, rfl⟩
          obtain ⟨y, hy⟩ : ∃ y, F j a = y := ⟨_, rfl⟩
          rw [hx] at d0 Hm
          rw [hy] at d1 Hm
          clear hx hy r0 r1 hfl Tb
          by_cases hx0 : 0 ≤ x
          · have t0 : decide (0 ≤ x) = true := decide_eq_true hx0
            by_cases hy0 : 0 ≤ y
            · have t1 : decide (0 ≤ y) = true := decide_eq_true hy0
              rw [Hm.out, t0, t1, if_pos (by rfl)] at Hup
              go_wp2_with (at_builtin; refine wpList_append_own _ rfl _ _ 50 rfl wa.heap.size 3 i0 (.int .i64 0) 1 8 Tryd.underlying50 hi hz0 hz1 hz2 rfl (by decide) _ _ _ rfl (O7.out.alloc _) ⟨wb.heap.size, 0, none⟩ 1 1 [.int .i64 (j : Nat)] rfl rfl ?c1 ?c2 ?c3 ?c4 ?c5 ?_)
              case c2 => rfl
              case c3 => unfold maxLen; have := Hfl.out; omega
              case c4 => have := Hfl.out; omega
              case c5 => omega
              intro v' w3 hown' hgrow _
              have B8 := Lib.hid ((B7.out.alloc hsz (.cells #[.int .i64 (j : Nat)] 3)).grown hgrow (by simp; omega) (fun k hk => own_ge O7.out hk))
              have O8 := Lib.hid (show w3.ownsRow wa.heap.size 3 1 v' ((List.range (j + 1)).filter (mutF F a)).length (nats ((List.range (j + 1)).filter (mutF F a))) by
                rw [Hup.out, List.length_append, nats_snoc]; exact hown')
              clear hown' hgrow
              go_wp2_with fail
              go_roundw
              case rel => exact ⟨j + 1, by go_num, Hjn.out, O8.out, B8.out⟩
              case measure => simp [intOf]; have := Hjn.out; omega
            · have t1 : decide (0 ≤ y) = false := decide_eq_false hy0
              rw [Hm.out, t0, t1, if_neg (by simp), List.append_nil] at Hup
              have O8 := Lib.hid (show wb.ownsRow wa.heap.size 3 1 _ ((List.range (j + 1)).filter (mutF F a)).length (nats ((List.range (j + 1)).filter (mutF F a))) by rw [Hup.out]; exact O7.out)
              go_wp2_with fail
              go_roundw
              case rel => exact ⟨j + 1, by go_num, Hjn.out, O8.out, B7.out⟩
              case measure => simp [intOf]; have := Hjn.out; omega
          · have t0 : decide (0 ≤ x) = false := decide_eq_false hx0
            rw [Hm.out, t0, Bool.false_and, if_neg (by simp), List.append_nil] at Hup
            have O8 := Lib.hid (show wb.ownsRow wa.heap.size 3 1 _ ((List.range (j + 1)).filter (mutF F a)).length (nats ((List.range (j + 1)).filter (mutF F a))) by rw [Hup.out]; exact O7.out)
            go_wp2_with fail
            go_roundw
            case rel => exact ⟨j + 1, by go_num, Hjn.out, O8.out, B7.out⟩
            case measure => simp [intOf]; have := Hjn.out; omega
        · have hjn2 : j = n := by omega
          have hni : ¬ ((j : Int) < (n : Int)) := by omega
          have Of := O7.out
          rw [hjn2, show (List.range n).filter (mutF F a) = sccF F n a from rfl] at Of
          have Hst := Lib.hid (clsF_step F n a)
          have Hcl := Lib.hid (clsF_len F n a)
          have hsl : (sccF F n a).length ≤ 64 := by
            have := List.length_filter_le (mutF F a) (List.range n)
            rw [List.length_range] at this
            unfold sccF
            omega
          have hne : a ∈ sccF F n a := List.mem_filter.2 ⟨List.mem_range.2 Hlt.out, by unfold mutF; simp [H0.out a Hlt.out]⟩
          obtain ⟨hd, hhd⟩ : ∃ hd, (sccF F n a)[0]? = some hd := ⟨_, List.getElem?_eq_getElem (List.length_pos_of_mem hne)⟩
          have hpos := List.length_pos_of_mem hne
          have hhead : (sccF F n a).head? = some hd := by rw [List.head?_eq_getElem?]; exact hhd
          rw [hhead] at Hst
          obtain ⟨A5, c5, hv, hrow⟩ := RowL.of_own Of
          subst hv
          obtain ⟨b, o, rfl, _, _, c0⟩ := hrow.nl 0 hd hhd
          rw [Nat.add_zero] at c0
          have L7 := Lib.hid hrow
          obtain ⟨vs, hown2, hrows⟩ := Hout.out.keep B7.out
          have O9 := Lib.hid hown2
          have R9 := Lib.hid hrows
          have pi : (0 : Int) < ((sccF F n a).length : Int) := by omega
          have Bq := Lib.hid (below_on B6.out B7.out)
          have hszq := Bq.out.size
          obtain ⟨sc, hsc⟩ : ∃ sc, sccF F n a = sc := ⟨_, rfl⟩
          rw [hsc] at L7 Hst hsl pi
          have hscl : (sccF F n a).length = sc.length := by rw [hsc]
          clear Of hne hhd hhead hrow hown2 hrows hjn2 hpos hsc
          rw [hscl]
          by_cases hda : hd = a
          · subst hda
            have tq : ((hd : Int) == (hd : Int)) = true := by simp
            rw [if_pos rfl] at Hst
            go_wp2_with (at_builtin; refine wpList_append_own _ rfl _ _ 47 rfl w.heap.size 50 j0 (.slice none 0 0) 1 24 Tryd.underlying47 hj jz0 jz1 jz2 rfl (by decide) _ _ _ rfl (O9.out.alloc _) ⟨wb.heap.size, 0, none⟩ 1 1 [.slice (some ⟨b, o, none⟩) sc.length c5] rfl rfl ?d1 ?d2 ?d3 ?d4 ?d5 ?_)
            case d2 => rfl
            case d3 => unfold maxLen; have := Hcl.out; omega
            case d4 => have := Hcl.out; omega
            case d5 => omega
            intro v' w3 hown' hgrow _
            have HO := Lib.hid (OutN.push O9.out R9.out L7.out hown' hgrow)
            rw [← Hst.out] at HO
            have B8 := Lib.hid ((Bq.out.alloc hszq (.cells #[.slice (some ⟨b, o, none⟩) sc.length c5] 50)).grown hgrow (by simp; omega) (fun k hk => own_ge O9.out hk))
            clear hown' hgrow
            go_wp2_with fail
            go_roundw
            case rel => exact ⟨hd + 1, by go_num, Hlt.out, HO.out, B8.out⟩
            case measure => simp [intOf]; have := Hlt.out; omega
          · have tq : ((hd : Int) == (a : Int)) = false := by simp; omega
            rw [if_neg (by intro e; injection e with e; exact hda e), List.append_nil] at Hst
            have HO := Lib.hid (show OutN w.heap.size wb _ (clsF F n (a + 1)) by rw [Hst.out]; exact Hout.out.keep B7.out)
            go_wp2_with fail
            go_roundw
            case rel => exact ⟨a + 1, by go_num, Hlt.out, HO.out, Bq.out⟩
            case measure => simp [intOf]; have := Hlt.out; omega
    · have han : a = n := by omega
      have hni : ¬ ((a : Int) < (n : Int)) := by omega
      have HO := Lib.hid (show OutN w.heap.size wa _ (clsF F n n) by have h := Hout.out; rw [han] at h; exact h)
      go_wp2_with fail
      go_ret
      exact ⟨_, rfl, HO.out, B6.out⟩
set_option maxRecDepth 100000 in
set_option maxHeartbeats 8000000 in
theorem refComps_any (n : Nat) (A : Option Addr) (m c : Nat) (es : List (Nat × Nat)) (w : World) (h : EL w A m (cast es)) (hg : Fine n es) :
    Calls Tryd.prog 52 #[gV n A m c] w fun e w' => ∃ v, e = .returned v ∧ OutN w.heap.size w' v (clsM n es) ∧ Below w.heap.size w w' := by
  have kv := (Below.refl w.heap.size w).alloc (Nat.le_refl _) (.cells #[.int .i64 (n : Nat), .slice A m c] 35)
  have G0 := Lib.hid (Cells.new w #[.int .i64 (n : Nat), .slice A m c] 35)
  have HT := Lib.hid (table_any n A m c es _ (h.keep kv) hg)
  have Hc := Lib.hid (clsF_cls hg.low hg.n64)
  have hn := hg.n64
  have H0 := Lib.hid (show ∀ a, a < n → 0 ≤ (fun a => tabF es a (n + 1)) a a from fun a ha => by
    simp only
    rw [tabF_full hg.low hn ha, dist_lev']
    exact (rc_lev (fun i => adj_under hg.low64 i) (by omega)).1 (Rc.refl _ _))
  have kv := Lib.hid kv
  clear h hg
  go_enter Tryd.func52, Tryd.ntmps52
  have g0 := G0.out.at_ 0
  have g1 := G0.out.at_ 1
  simp only [List.getElem?_cons_zero, List.getElem?_cons_succ] at g0 g1
  go_wp2_with fail
  refine HT.out.mono ?_
  rintro e w1 ⟨v, rfl, hout, hb1⟩
  obtain ⟨T, cT, rfl, hT⟩ := hout.tab
  have B1 := Lib.hid (below_on kv.out hb1)
  have HS := classes_any _ T n cT _ w1 hT hn H0.out
  rw [Hc.out] at HS
  have HS := Lib.hid HS
  clear hb1 hout hT
  go_wp2_with fail
  refine HS.out.mono ?_
  rintro e w2 ⟨v, rfl, hout, hb2⟩
  have O2 := Lib.hid (hout.down B1.out.size)
  have B2 := Lib.hid (below_on B1.out hb2)
  clear hout hb2
  go_wp2_with fail
  go_ret
  exact ⟨_, rfl, O2.out, B2.out⟩
end Go.Proofs.YthocdmlacfejkaaDoor
