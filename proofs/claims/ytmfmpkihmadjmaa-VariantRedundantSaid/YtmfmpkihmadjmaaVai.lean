/- The reference: the rules of a conflict. -/
import Derived.Test.YtmfmpkihmadjmaaVah
namespace Go.Proofs.Ytmfmpkihmadjmaa
open Go.RowKit Go.Shelf
/-- What is left out behind i rounds, and the numbers of the rules that remain. -/
def cfR (n : Nat) (rs : List (ByteArray × List (Nat × Bool))) (ch : List (Nat × Bool)) : Nat → List Bool × List Nat
  | 0 => (List.replicate rs.length false, [])
  | i + 1 => if (ALR n rs ((cfR n rs ch i).1.set i true) ch).length = 0 then ((cfR n rs ch i).1.set i true, (cfR n rs ch i).2) else (((cfR n rs ch i).1.set i true).set i false, (cfR n rs ch i).2 ++ [i])
theorem cfR_len (n : Nat) (rs : List (ByteArray × List (Nat × Bool))) (ch : List (Nat × Bool)) : ∀ i, (cfR n rs ch i).1.length = rs.length ∧ (cfR n rs ch i).2.length ≤ i
  | 0 => ⟨by simp [cfR], Nat.le_refl _⟩
  | i + 1 => by
    have ih := cfR_len n rs ch i
    rw [cfR]
    split
    · exact ⟨by rw [List.length_set]; exact ih.1, Nat.le_succ_of_le ih.2⟩
    · exact ⟨by rw [List.length_set, List.length_set]; exact ih.1, by simp; omega⟩
theorem BoolL.of_cells {w : World} {O n : Nat} {us : List Value} {bs : List Bool} (h : Cells w O us) (hu : us.take n = bs.map .bool) : BoolL w (some ⟨O, 0, none⟩) bs := fun k x hk =>
  ⟨O, 0, rfl, h.lt, by rw [Nat.zero_add]; exact cell_of_take h hu (by rw [List.getElem?_map, hk]; rfl)⟩
theorem take_set_bool {us : List Value} {bs : List Bool} {n j : Nat} {x : Bool} (hu : us.take n = bs.map .bool) : (us.set j (.bool x)).take n = (bs.set j x).map .bool := by
  rw [List.take_set, hu, List.map_set]
set_option maxRecDepth 100000 in
set_option maxHeartbeats 8000000 in
theorem conflictR_any (f : Fm) (rs : List (ByteArray × List (Nat × Bool))) (A : Option Addr) (m d : Nat) (ch : List (Nat × Bool)) (w : World) (hn : 0 < f.n) (hn6 : f.n ≤ 6) (h : RuleL w f.RA rs) (hrl : rs.length = f.rn) (hrn : f.rn ≤ 1000) (hlow : ∀ r ∈ rs, (∀ l ∈ r.2, l.1 < 6) ∧ r.2.length ≤ 1000) (hch : LitL w A (lc ch)) (hcl : ch.length = m) (hcm : m ≤ 1000) (hclow : ∀ l ∈ ch, l.1 < 6) :
    Calls Try.prog 30 #[f.v, .slice A m d] w fun e w' => ∃ v, e = .returned v ∧ w'.ownsRow w.heap.size 3 1 v (cfR f.n rs ch f.rn).2.length (natsV (cfR f.n rs ch f.rn).2) ∧ Below w.heap.size w w' := by
  have k1 := (Below.refl w.heap.size w).alloc (Nat.le_refl _) (.cells f.cells 40)
  have P1 := Cells.new w f.cells 40
  obtain ⟨w1, hw1⟩ : ∃ u, w.alloc (.cells f.cells 40) = u := ⟨_, rfl⟩
  have hw1' : w.alloc (.cells #[.string f.nm, .slice f.PA f.pn f.pc, .slice f.IA f.iN f.ic, .slice f.DA f.dn f.dc, .slice f.KA f.kn f.kc, .slice f.QA f.qn f.qc, .slice f.OA f.n f.oc, .slice f.RA f.rn f.rc, .slice f.GA f.gn f.gc, .slice f.VA f.vn f.vc] 40) = w1 := hw1
  rw [hw1] at k1 P1
  have K1 := Lib.hid k1
  have HP1 := Lib.hid P1
  have c0 := P1.at_ 0
  have c1 := P1.at_ 1
  have c2 := P1.at_ 2
  have c3 := P1.at_ 3
  have c4 := P1.at_ 4
  have c5 := P1.at_ 5
  have c6 := P1.at_ 6
  have c7 := P1.at_ 7
  have c8 := P1.at_ 8
  have c9 := P1.at_ 9
  simp only [List.getElem?_cons_zero, List.getElem?_cons_succ] at c0 c1 c2 c3 c4 c5 c6 c7 c8 c9
  have HNo := Lib.hid (none_any f w1 hrn)
  obtain ⟨i0, hi, hz0, hz1, hz2⟩ := info_parts info_intV
  clear k1 P1 hw1
  go_enter Try.func30, Try.ntmps30
  go_wp2_with fail
  refine HNo.out.mono ?_
  rintro e w2 ⟨v, rfl, hown, hb2⟩
  have hcur : ∀ g, v.ownBlock = some g → ∃ us, Cells w2 g us ∧ us.take f.rn = (List.replicate rs.length false).map .bool := by
    intro g hg
    rcases hown.2 with ⟨rfl, _⟩ | ⟨g', cap, cur, rfl, _, hh, _, _, _, hx⟩
    · cases hg
    · injection hg with hg
      subst hg
      rw [Nat.mul_one] at hx
      exact ⟨cur.toList, Cells.of_row hh, by rw [hx, hrl, List.map_replicate]⟩
  obtain ⟨XA, xc, rfl, _, _, hXA, _⟩ := own_row hown
  obtain ⟨O, hO⟩ : ∃ O, 0 < f.rn → XA = some ⟨O, 0, none⟩ := by
    by_cases h0 : 0 < f.rn
    · obtain ⟨g, hg⟩ := hXA h0
      exact ⟨g, fun _ => hg⟩
    · exact ⟨0, fun h1 => absurd h1 h0⟩
  have HO2 := Lib.hid (show 0 < f.rn → w1.heap.size ≤ O ∧ O < w2.heap.size from fun h0 => own_at hown (hO h0))
  have HCu := Lib.hid (show 0 < f.rn → ∃ us, Cells w2 O us ∧ us.take f.rn = (List.replicate rs.length false).map .bool from fun h0 => hcur O (by rw [hO h0]; rfl))
  have B2 := Lib.hid hb2
  clear hown hb2 hcur hXA c0 c1 c2 c3 c4 c5 c6 c7 c8 c9
  go_wp2_with fail
  go_loopw [6, 7] (fun v i wr => ∃ j : Nat, i = .int .i64 (j : Nat) ∧ j ≤ f.rn ∧ wr.ownsRow w2.heap.size 3 1 v (cfR f.n rs ch j).2.length (natsV (cfR f.n rs ch j).2) ∧ Below w1.heap.size w1 wr ∧ w2.heap.size ≤ wr.heap.size ∧ (0 < f.rn → ∃ us, Cells wr O us ∧ us.take f.rn = (cfR f.n rs ch j).1.map .bool)) (fun _ i _ => f.rn - (intOf i).toNat)
  case atStart => exact ⟨0, rfl, Nat.zero_le _, World.ownsRow_nil _ _ _ _, B2.out, Nat.le_refl _, HCu.out⟩
  case round =>
    obtain ⟨j, rfl, hj, hown, hb, hsz, hC⟩ := hrel
    have Ow := Lib.hid hown
    have B1 := Lib.hid hb
    have c7 := (HP1.out.keep hb).at_ 7
    simp only [List.getElem?_cons_zero, List.getElem?_cons_succ] at c7
    by_cases hlt : j < f.rn
    · have Hlt := Lib.hid hlt
      obtain ⟨us, hcu, htk⟩ := hC (by omega)
      obtain rfl := hO (by omega)
      have hOr := HO2.out (by omega)
      have hul : f.rn ≤ us.length := by
        have h1 := congrArg List.length htk
        rw [List.length_take, List.length_map, (cfR_len _ _ _ _).1, hrl] at h1
        omega
      have y0 := (hcu.at_ j).trans (List.getElem?_eq_getElem (by omega))
      have y1 := hcu.fz j
      have i1 : (j : Int) < (f.rn : Int) := by omega
      have Hlen := Lib.hid (cfR_len f.n rs ch j)
      obtain ⟨os, hos⟩ : ∃ o, (cfR f.n rs ch j).1.set j true = o := ⟨_, rfl⟩
      have hstep : cfR f.n rs ch (j + 1) = if (ALR f.n rs os ch).length = 0 then (os, (cfR f.n rs ch j).2) else (os.set j false, (cfR f.n rs ch j).2 ++ [j]) := by rw [cfR, hos]
      have htS := take_set_bool (j := j) (x := true) htk
      rw [hos] at htS
      have hosl : os.length = f.rn := by rw [← hos, List.length_set, (cfR_len _ _ _ _).1, hrl]
      have CS := hcu.set j (.bool true) (by omega)
      have GS := grown_cells O [.bool true] j wr
      have bS := hb.setCell (p := ⟨O, j, none⟩) hOr.1 (.bool true)
      have oS := own_grown hown GS (fun e => by have := own_ge hown e; omega)
      have zS : w2.heap.size ≤ (wr.setCell ⟨O, j, none⟩ (.bool true)).heap.size := Nat.le_trans hsz GS.size
      have bW := below_on K1.out bS
      have HAL := allowedR_any f rs (some ⟨O, 0, none⟩) xc os A m d ch (wr.setCell ⟨O, j, none⟩ (.bool true)) hn hn6 (h.keep bW) hrl hrn hlow (BoolL.of_cells CS htS) hosl (hch.keep bW) hcl hcm hclow
      have PS := HP1.out.keep bS
      obtain ⟨wS, hwS⟩ : ∃ u, wr.setCell ⟨O, j, none⟩ (.bool true) = u := ⟨_, rfl⟩
      replace oS : (wr.setCell ⟨O, j, none⟩ (.bool true)).ownsRow w2.heap.size 3 1 _ (cfR f.n rs ch j).2.length (natsV (cfR f.n rs ch j).2) := oS
      rw [hwS] at CS bS oS zS bW HAL PS
      have d0 := PS.at_ 0
      have d1 := PS.at_ 1
      have d2 := PS.at_ 2
      have d3 := PS.at_ 3
      have d4 := PS.at_ 4
      have d5 := PS.at_ 5
      have d6 := PS.at_ 6
      have d7 := PS.at_ 7
      have d8 := PS.at_ 8
      have d9 := PS.at_ 9
      simp only [List.getElem?_cons_zero, List.getElem?_cons_succ] at d0 d1 d2 d3 d4 d5 d6 d7 d8 d9
      have HAL := Lib.hid HAL
      have CS := Lib.hid CS
      have BS := Lib.hid bS
      have OS := Lib.hid oS
      have ZS := Lib.hid zS
      have HtS := Lib.hid htS
      have Hst := Lib.hid hstep
      have HOr := Lib.hid hOr
      have Hul := Lib.hid hul
      clear h hch hlow hclow hC hcu htk hos hstep htS hosl GS bS oS zS bW PS hown hb hO hOr hsz hrl
      go_wp2_with fail
      refine HAL.out.mono ?_
      rintro e wT ⟨v2, rfl, hown2, hbT⟩
      obtain ⟨RA2, rc2, rfl, _⟩ := own_nats hown2 rfl
      have OT := Lib.hid (own_keep OS.out hbT)
      have BT := Lib.hid (BS.out.trans (hbT.mono BS.out.size))
      have CT := Lib.hid (CS.out.keep hbT)
      have ZT := Lib.hid (Nat.le_trans ZS.out hbT.size)
      clear hown2 hbT d0 d1 d2 d3 d4 d5 d6 d7 d8 d9 c7 y0 y1
      obtain ⟨q, hq⟩ : ∃ q, (ALR f.n rs os ch).length = q := ⟨_, rfl⟩
      have Hq := Lib.hid hq
      rw [hq]
      by_cases hq0 : q = 0
      · have t0 : decide ((0 : Int) < (q : Int)) = false := decide_eq_false (by omega)
        have t1 : ¬ (0 : Int) < (q : Int) := by omega
        have t2 : decide (0 < q) = false := decide_eq_false (by omega)
        have hs := Lib.hid (Hst.out.trans (if_pos (Hq.out.trans hq0)))
        go_wp2_with fail
        go_roundw
        case rel => exact ⟨j + 1, by go_num, Hlt.out, by rw [hs.out]; exact OT.out, BT.out, ZT.out, fun _ => ⟨_, CT.out, by rw [hs.out]; exact HtS.out⟩⟩
        case measure => simp [intOf]; have := Hlt.out; omega
      · have t0 : decide ((0 : Int) < (q : Int)) = true := decide_eq_true (by omega)
        have t1 : (0 : Int) < (q : Int) := by omega
        have t2 : decide (0 < q) = true := decide_eq_true (by omega)
        have hs := Lib.hid (Hst.out.trans (if_neg (fun e => hq0 (Hq.out.symm.trans e))))
        have y0 := (CT.out.at_ j).trans (List.getElem?_eq_getElem (by rw [List.length_set]; have := Hul.out; omega))
        have y1 := CT.out.fz j
        have CU := CT.out.set j (.bool false) (by rw [List.length_set]; have := Hul.out; omega)
        have GU := grown_cells O [.bool false] j wT
        have bU := BT.out.setCell (p := ⟨O, j, none⟩) HOr.out.1 (.bool false)
        have oU := own_grown OT.out GU (fun e => by have := own_ge OT.out e; have := HOr.out.2; omega)
        have zU : w2.heap.size ≤ (wT.setCell ⟨O, j, none⟩ (.bool false)).heap.size := Nat.le_trans ZT.out GU.size
        obtain ⟨wU, hwU⟩ : ∃ u, wT.setCell ⟨O, j, none⟩ (.bool false) = u := ⟨_, rfl⟩
        replace oU : (wT.setCell ⟨O, j, none⟩ (.bool false)).ownsRow w2.heap.size 3 1 _ (cfR f.n rs ch j).2.length (natsV (cfR f.n rs ch j).2) := oU
        rw [hwU] at CU bU oU zU
        have CU := Lib.hid CU
        have BU := Lib.hid bU
        have OU := Lib.hid oU
        have ZU := Lib.hid zU
        have HtU := Lib.hid (take_set_bool (j := j) (x := false) HtS.out)
        clear GU bU oU zU
        go_wp2_with (at_builtin; refine wpList_append_own _ rfl _ _ 51 rfl w2.heap.size 3 i0 (.int .i64 0) 1 8 Try.underlying51 hi hz0 hz1 hz2 rfl (by decide) _ _ _ rfl (OU.out.alloc _) ⟨wU.heap.size, 0, none⟩ 1 1 [.int .i64 (j : Nat)] rfl rfl ?c1 ?c2 ?c3 ?c4 ?c5 ?_)
        case c2 => first | rfl | (intro u hu; simp at hu; subst hu; rfl)
        try any_goals first | exact cell_one_new _ _ _ | rfl
        case c3 => unfold maxLen; have := Hlen.out.2; omega
        case c4 => have := Hlen.out.2; omega
        case c5 => have := ZU.out; first | omega | (simp; omega)
        intro v' w5 hown' hgrow _
        have Ow5 := Lib.hid (show w5.ownsRow w2.heap.size 3 1 v' (cfR f.n rs ch (j + 1)).2.length (natsV (cfR f.n rs ch (j + 1)).2) by
          rw [hs.out, natsV_snoc, List.length_append]
          exact hown')
        have C5 := Lib.hid (cells_push OU.out HOr.out.2 CU.out hgrow)
        have B5 := Lib.hid ((BU.out.alloc BU.out.size (.cells #[.int .i64 (j : Nat)] 3)).grown hgrow (by simp; have := BU.out.size; omega) (fun k hk => by have := own_ge OU.out hk; have := B2.out.size; omega))
        have Z5 := Lib.hid (Nat.le_trans ZU.out (Nat.le_trans (by simp) hgrow.size) : w2.heap.size ≤ w5.heap.size)
        clear hown' hgrow
        go_wp2
        go_roundw
        case rel => exact ⟨j + 1, by go_num, Hlt.out, Ow5.out, B5.out, Z5.out, fun _ => ⟨_, C5.out, by rw [hs.out]; exact HtU.out⟩⟩
        case measure => simp [intOf]; have := Hlt.out; omega
    · have hjn : j = f.rn := by omega
      subst hjn
      have OF := Lib.hid (own_down hown (Nat.le_trans K1.out.size B2.out.size))
      have BF := Lib.hid (below_on K1.out hb)
      clear hown hb h hch hlow hclow hC
      go_wp2_with fail
      go_ret
      exact ⟨_, rfl, OF.out, BF.out⟩
end Go.Proofs.Ytmfmpkihmadjmaa
