/- Which guards and overrides name an option. -/
import Derived.Test.YtmfmpkihmadjmaaVam
namespace Go.Proofs.Ytmfmpkihmadjmaa
open Go.RowKit Go.Shelf
set_option maxRecDepth 100000 in
set_option maxHeartbeats 8000000 in
theorem use_idx (A : Option Addr) (m c : Nat) (es : List (Nat × Bool)) (del : (Nat × Bool) → Bool) (y : Value) (w : World) (h : LitL w A (lc es)) (hlen : es.length = m) (hm : m ≤ 4611686018427387904)
    (hF : ∀ w' e, e ∈ es → Below w.heap.size w w' → Calls Try.prog 55 #[.agg #[.int .i64 (e.1 : Nat), .bool e.2], y] w' fun r w2 => r = .returned (.bool (del e)) ∧ Below w'.heap.size w' w2) :
    Calls Try.prog 73 #[.slice A m c, .func (.func 55) #[] #[y]] w fun e w' => e = .returned (.int .i64 (fidx del es)) ∧ Below w.heap.size w w' := by
  have E0 := Lib.hid h
  have HF := Lib.hid hF
  have Hlen := Lib.hid hlen
  clear h hF hlen
  go_enter Try.func73, Try.ntmps73
  go_wp2_with fail
  go_loopw [5, 8] (fun _ i wr => ∃ j : Nat, i = .int .i64 (j : Nat) ∧ j ≤ m ∧ (es.take j).any del = false ∧ Below w.heap.size w wr) (fun _ i _ => m - (intOf i).toNat)
  case atStart => exact ⟨0, rfl, Nat.zero_le _, rfl, Below.refl _ _⟩
  case round =>
    obtain ⟨j, rfl, hj, hall, hb⟩ := hrel
    have Hall := Lib.hid hall
    have B6 := Lib.hid hb
    have E6 := Lib.hid (E0.out.keep hb)
    clear hall hb
    obtain ⟨wa, rfl⟩ : ∃ wa : World, wa = wr := ⟨_, rfl⟩
    by_cases hlt : j < m
    · have hlt2 : j < es.length := by rw [Hlen.out]; exact hlt
      obtain ⟨e0, b, o, he, rfl, _, c0, c1⟩ := E6.out.at_ (k := j) (by rw [lc_len]; exact hlt2)
      obtain ⟨x, s, hx, rfl⟩ := lc_at he
      simp only at c0 c1
      clear he
      have Hlt := Lib.hid hlt
      have Hx := Lib.hid hx
      have HFx := HF.out wa (x, s) (List.mem_of_getElem? hx) B6.out
      obtain ⟨bx, hbx⟩ : ∃ bx, del (x, s) = bx := ⟨_, rfl⟩
      rw [hbx] at HFx
      try simp only at HFx
      have HFx := Lib.hid HFx
      have Hb := Lib.hid hbx
      clear hx hbx hlt2
      go_wp2_with fail
      refine HFx.out.mono ?_
      rintro e w7 ⟨rfl, hb7⟩
      have B7 := Lib.hid (below_on B6.out hb7)
      clear hb7
      cases bx
      · go_wp2_with fail
        go_roundw
        case rel => exact ⟨j + 1, by go_num, Hlt.out, any_snoc Hx.out Hall.out Hb.out, B7.out⟩
        case measure => simp [intOf]; have := Hlt.out; omega
      · go_wp2_with fail
        go_ret
        exact ⟨ret_int (fidx_hit Hall.out Hx.out Hb.out).symm, B7.out⟩
    · have hjl : es.take j = es := List.take_of_length_le (by rw [Hlen.out]; omega)
      rw [hjl] at Hall
      clear hjl
      go_wp2_with fail
      go_ret
      exact ⟨ret_int (fidx_miss Hall.out).symm, B6.out⟩
set_option maxRecDepth 100000 in
set_option maxHeartbeats 8000000 in
theorem use_con (A : Option Addr) (m c : Nat) (es : List (Nat × Bool)) (del : (Nat × Bool) → Bool) (y : Value) (w : World) (h : LitL w A (lc es)) (hlen : es.length = m) (hm : m ≤ 4611686018427387904)
    (hF : ∀ w' e, e ∈ es → Below w.heap.size w w' → Calls Try.prog 55 #[.agg #[.int .i64 (e.1 : Nat), .bool e.2], y] w' fun r w2 => r = .returned (.bool (del e)) ∧ Below w'.heap.size w' w2) :
    Calls Try.prog 54 #[.slice A m c, .func (.func 55) #[] #[y]] w fun e w' => e = .returned (.bool (es.any del)) ∧ Below w.heap.size w w' := by
  have HI := use_idx A m c es del y w h hlen hm hF
  have hge := fidx_ge del es
  obtain ⟨q, hq⟩ : ∃ q, fidx del es = q := ⟨_, rfl⟩
  rw [hq] at HI hge
  have HI := Lib.hid HI
  have Hge := Lib.hid hge
  clear h hF hlen hge hq
  go_enter Try.func54, Try.ntmps54
  go_wp2_with fail
  refine HI.out.mono ?_
  rintro e w1 ⟨rfl, hb1⟩
  have B1 := Lib.hid hb1
  clear hb1
  go_wp2_with fail
  go_ret
  exact ⟨ret_bool Hge.out, B1.out⟩
set_option maxRecDepth 100000 in
set_option maxHeartbeats 4000000 in
theorem use11_any (p o x : Nat) (s : Bool) (w : World) (hp : w.cell? ⟨p, 0, none⟩ = some (.int .i64 (o : Nat))) :
    Calls Try.prog 55 #[.agg #[.int .i64 (x : Nat), .bool s], .pointer (some ⟨p, 0, none⟩)] w fun e w' => e = .returned (.bool (x == o)) ∧ Below w.heap.size w w' := by
  have kv := (Below.refl w.heap.size w).alloc (Nat.le_refl _) (.cells #[.int .i64 (x : Nat), .bool s] 68)
  have hp2 := (kv.cell (p := ⟨p, 0, none⟩) (World.block_lt_of_cell? _ _ hp)).trans hp
  have P0 := Cells.new w #[.int .i64 (x : Nat), .bool s] 68
  have HK := Lib.hid kv
  obtain ⟨q, hq⟩ : ∃ q, (x == o) = q := ⟨_, rfl⟩
  have e1 : ((x : Int) == (o : Int)) = q := by
    rw [← hq, Bool.eq_iff_iff, beq_iff_eq, beq_iff_eq]
    exact Int.natCast_inj
  have e2 : decide ((x : Int) = (o : Int)) = q := by
    rw [← hq, Bool.eq_iff_iff, decide_eq_true_eq, beq_iff_eq]
    exact Int.natCast_inj
  have HQ := Lib.hid hq
  clear hq kv
  go_enter Try.func55, Try.ntmps55
  have g0 := P0.at_ 0
  have g1 := P0.at_ 1
  simp only [List.getElem?_cons_zero, List.getElem?_cons_succ] at g0 g1
  go_wp2_with fail
  go_ret
  exact ⟨ret_bool HQ.out.symm, HK.out⟩
set_option maxRecDepth 100000 in
set_option maxHeartbeats 4000000 in
theorem use1_any (p o : Nat) (A : Option Addr) (m c : Nat) (ls : List (Nat × Bool)) (w : World) (hp : w.cell? ⟨p, 0, none⟩ = some (.int .i64 (o : Nat))) (h : LitL w A (lc ls)) (hl : ls.length = m) (hm : m ≤ 1000) :
    Calls Try.prog 53 #[.slice A m c, .pointer (some ⟨p, 0, none⟩)] w fun e w' => e = .returned (.bool (ls.any fun e => e.1 == o)) ∧ Below w.heap.size w w' := by
  have HC := Lib.hid (use_con A m c ls (fun e => e.1 == o) (.pointer (some ⟨p, 0, none⟩)) w h hl (by omega) (fun w' e _ hb => use11_any p o e.1 e.2 w' ((hb.cell (p := ⟨p, 0, none⟩) (World.block_lt_of_cell? _ _ hp)).trans hp)))
  clear h hl
  go_enter Try.func53, Try.ntmps53
  go_wp2_with fail
  refine HC.out.mono ?_
  rintro e w1 ⟨rfl, hb1⟩
  have B1 := Lib.hid hb1
  clear hb1
  obtain ⟨q, hq⟩ : ∃ q, (ls.any fun e => e.1 == o) = q := ⟨_, rfl⟩
  have HQ := Lib.hid hq
  rw [hq]
  clear hq
  go_wp2_with fail
  go_ret
  exact ⟨ret_bool HQ.out.symm, B1.out⟩
/-- The numbers of the lists that name an option. -/
def useL (ls : List (List (Nat × Bool))) (o j : Nat) : List Nat := (List.range j).filter fun i => (ls.getD i []).any fun e => e.1 == o
theorem useL_yes {ls : List (List (Nat × Bool))} {o j : Nat} {l : List (Nat × Bool)} (hl : ls[j]? = some l) (h : (l.any fun e => e.1 == o) = true) : useL ls o (j + 1) = useL ls o j ++ [j] := by
  have e : ((ls.getD j []).any fun e => e.1 == o) = true := by rw [List.getD_eq_getElem?_getD, hl]; exact h
  unfold useL
  rw [List.range_succ, List.filter_append, List.filter_cons, if_pos e, List.filter_nil]
theorem useL_no {ls : List (List (Nat × Bool))} {o j : Nat} {l : List (Nat × Bool)} (hl : ls[j]? = some l) (h : (l.any fun e => e.1 == o) = false) : useL ls o (j + 1) = useL ls o j := by
  have e : ¬ ((ls.getD j []).any fun e => e.1 == o) = true := by rw [List.getD_eq_getElem?_getD, hl]; simp only [Option.getD_some]; rw [h]; decide
  unfold useL
  rw [List.range_succ, List.filter_append, List.filter_cons, if_neg e, List.filter_nil, List.append_nil]
theorem useL_len (ls : List (List (Nat × Bool))) (o j : Nat) : (useL ls o j).length ≤ j := Nat.le_trans (List.length_filter_le _ _) (by simp)
set_option maxRecDepth 100000 in
set_option maxHeartbeats 8000000 in
theorem used_bad (f : Fm) (os : List ByteArray) (rs : List (ByteArray × List (Nat × Bool))) (gs : List (Nat × List (Nat × Bool))) (vs : List Ov) (ds : List Dm) (o : Int) (w : World) (h : FamOK w f os rs gs vs ds) (ho : o < 0 ∨ (f.n : Int) ≤ o) :
    Calls Try.prog 31 #[f.v, .int .i64 o] w fun e w' => e = .returned (.tuple #[.slice none 0 0, .slice none 0 0, .int .i64 10]) ∧ Below w.heap.size w w' := by
  have k1 := (Below.refl w.heap.size w).alloc (Nat.le_refl _) (.cells f.cells 40)
  have P1 := Cells.new w f.cells 40
  have s1 : (w.alloc (.cells f.cells 40)).heap.size = w.heap.size + 1 := by simp
  obtain ⟨w1, hw1⟩ : ∃ u, w.alloc (.cells f.cells 40) = u := ⟨_, rfl⟩
  have hw1' : w.alloc (.cells #[.string f.nm, .slice f.PA f.pn f.pc, .slice f.IA f.iN f.ic, .slice f.DA f.dn f.dc, .slice f.KA f.kn f.kc, .slice f.QA f.qn f.qc, .slice f.OA f.n f.oc, .slice f.RA f.rn f.rc, .slice f.GA f.gn f.gc, .slice f.VA f.vn f.vc] 40) = w1 := hw1
  rw [hw1] at k1 P1 s1
  have k2 := (Below.refl w1.heap.size w1).alloc (Nat.le_refl _) (.cells #[.int .i64 o] 3)
  have P2 := Cells.new w1 #[.int .i64 o] 3
  have P1 := P1.keep k2
  have k2 := below_on k1 k2
  obtain ⟨w2, hw2⟩ : ∃ u, w1.alloc (.cells #[.int .i64 o] 3) = u := ⟨_, rfl⟩
  rw [hw2] at P1 P2 k2
  have HK := Lib.hid k2
  have HC := Lib.hid (check_ok f os rs gs vs ds w2 (h.keep k2))
  have HP1 := Lib.hid P1
  have HP2 := Lib.hid P2
  have HF := Lib.hid h
  clear k1 k2 P1 P2 s1 h
  go_enter Try.func31, Try.ntmps31
  have c0 := HP1.out.at_ 0
  have c1 := HP1.out.at_ 1
  have c2 := HP1.out.at_ 2
  have c3 := HP1.out.at_ 3
  have c4 := HP1.out.at_ 4
  have c5 := HP1.out.at_ 5
  have c6 := HP1.out.at_ 6
  have c7 := HP1.out.at_ 7
  have c8 := HP1.out.at_ 8
  have c9 := HP1.out.at_ 9
  have d0 := HP2.out.at_ 0
  simp only [List.getElem?_cons_zero, List.getElem?_cons_succ] at c0 c1 c2 c3 c4 c5 c6 c7 c8 c9 d0
  go_wp2_with fail
  clear hw1 hw1' hw2
  refine HC.out.mono ?_
  rintro e w3 ⟨rfl, hb3⟩
  have B3 := Lib.hid (below_on HK.out hb3)
  have c0 := (hb3.cell (p := ⟨w.heap.size, 0, none⟩) HP1.out.lt).trans c0
  have c1 := (hb3.cell (p := ⟨w.heap.size, 1, none⟩) HP1.out.lt).trans c1
  have c2 := (hb3.cell (p := ⟨w.heap.size, 2, none⟩) HP1.out.lt).trans c2
  have c3 := (hb3.cell (p := ⟨w.heap.size, 3, none⟩) HP1.out.lt).trans c3
  have c4 := (hb3.cell (p := ⟨w.heap.size, 4, none⟩) HP1.out.lt).trans c4
  have c5 := (hb3.cell (p := ⟨w.heap.size, 5, none⟩) HP1.out.lt).trans c5
  have c6 := (hb3.cell (p := ⟨w.heap.size, 6, none⟩) HP1.out.lt).trans c6
  have c7 := (hb3.cell (p := ⟨w.heap.size, 7, none⟩) HP1.out.lt).trans c7
  have c8 := (hb3.cell (p := ⟨w.heap.size, 8, none⟩) HP1.out.lt).trans c8
  have c9 := (hb3.cell (p := ⟨w.heap.size, 9, none⟩) HP1.out.lt).trans c9
  have d0 := (hb3.cell (p := ⟨w1.heap.size, 0, none⟩) HP2.out.lt).trans d0
  clear hb3
  rcases ho with ho | ho
  · have e1 : decide (o < 0) = true := by simpa using ho
    go_wp2_with fail
    go_ret3
    exact ⟨rfl, B3.out⟩
  · have e1 : decide (o < 0) = false := by simp; omega
    have e2 : decide ((f.n : Int) ≤ o) = true := by simpa using ho
    have e3 : ¬ (o < 0) := by omega
    go_wp2_with fail
    go_ret3
    exact ⟨rfl, B3.out⟩
set_option maxRecDepth 100000 in
set_option maxHeartbeats 16000000 in
theorem used_ok (f : Fm) (os : List ByteArray) (rs : List (ByteArray × List (Nat × Bool))) (gs : List (Nat × List (Nat × Bool))) (vs : List Ov) (ds : List Dm) (o : Nat) (w : World) (h : FamOK w f os rs gs vs ds) (ho : o < f.n) :
    Calls Try.prog 31 #[f.v, .int .i64 (o : Nat)] w fun e w' => ∃ v1 v2, e = .returned (.tuple #[v1, v2, .int .i64 0]) ∧ w'.ownsRow w.heap.size 3 1 v1 (useL (gs.map (·.2)) o f.gn).length (natsV (useL (gs.map (·.2)) o f.gn)) ∧ w'.ownsRow w.heap.size 3 1 v2 (useL (vs.map (·.all)) o f.vn).length (natsV (useL (vs.map (·.all)) o f.vn)) ∧ Below w.heap.size w w' := by
  have hn12 := h.n12
  obtain ⟨i0, hi, hz0, hz1, hz2⟩ := info_parts info_intV
  have k1 := (Below.refl w.heap.size w).alloc (Nat.le_refl _) (.cells f.cells 40)
  have P1 := Cells.new w f.cells 40
  have s1 : (w.alloc (.cells f.cells 40)).heap.size = w.heap.size + 1 := by simp
  obtain ⟨w1, hw1⟩ : ∃ u, w.alloc (.cells f.cells 40) = u := ⟨_, rfl⟩
  have hw1' : w.alloc (.cells #[.string f.nm, .slice f.PA f.pn f.pc, .slice f.IA f.iN f.ic, .slice f.DA f.dn f.dc, .slice f.KA f.kn f.kc, .slice f.QA f.qn f.qc, .slice f.OA f.n f.oc, .slice f.RA f.rn f.rc, .slice f.GA f.gn f.gc, .slice f.VA f.vn f.vc] 40) = w1 := hw1
  rw [hw1] at k1 P1 s1
  have k2 := (Below.refl w1.heap.size w1).alloc (Nat.le_refl _) (.cells #[.int .i64 (o : Nat)] 3)
  have P2 := Cells.new w1 #[.int .i64 (o : Nat)] 3
  have P1 := P1.keep k2
  have k2 := below_on k1 k2
  obtain ⟨w2, hw2⟩ : ∃ u, w1.alloc (.cells #[.int .i64 (o : Nat)] 3) = u := ⟨_, rfl⟩
  rw [hw2] at P1 P2 k2
  have HK := Lib.hid k2
  have HC := Lib.hid (check_ok f os rs gs vs ds w2 (h.keep k2))
  have HP1 := Lib.hid P1
  have HP2 := Lib.hid P2
  have HF := Lib.hid h
  clear k1 k2 P1 P2 s1
  have gl := h.gsl
  have g48 := h.g48
  have vl := h.vsl
  have v48 := h.v48
  have HG := Lib.hid h.gsL
  have HGn := Lib.hid h.gsn
  have HV := Lib.hid h.vsL
  have HVn := Lib.hid h.vsn
  clear h
  go_enter Try.func31, Try.ntmps31
  have c0 := HP1.out.at_ 0
  have c1 := HP1.out.at_ 1
  have c2 := HP1.out.at_ 2
  have c3 := HP1.out.at_ 3
  have c4 := HP1.out.at_ 4
  have c5 := HP1.out.at_ 5
  have c6 := HP1.out.at_ 6
  have c7 := HP1.out.at_ 7
  have c8 := HP1.out.at_ 8
  have c9 := HP1.out.at_ 9
  have d0 := HP2.out.at_ 0
  simp only [List.getElem?_cons_zero, List.getElem?_cons_succ] at c0 c1 c2 c3 c4 c5 c6 c7 c8 c9 d0
  go_wp2_with fail
  clear hw1 hw1' hw2
  refine HC.out.mono ?_
  rintro e w3 ⟨rfl, hb3⟩
  have P1 := Lib.hid (HP1.out.keep hb3)
  have P2 := Lib.hid (HP2.out.keep hb3)
  have B3 := Lib.hid (below_on HK.out hb3)
  have c0 := P1.out.at_ 0
  have c1 := P1.out.at_ 1
  have c2 := P1.out.at_ 2
  have c3 := P1.out.at_ 3
  have c4 := P1.out.at_ 4
  have c5 := P1.out.at_ 5
  have c6 := P1.out.at_ 6
  have c7 := P1.out.at_ 7
  have c8 := P1.out.at_ 8
  have c9 := P1.out.at_ 9
  have d0 := P2.out.at_ 0
  simp only [List.getElem?_cons_zero, List.getElem?_cons_succ] at c0 c1 c2 c3 c4 c5 c6 c7 c8 c9 d0
  clear hb3 HP1 HP2 HC HK
  have e1 : decide ((o : Int) < 0) = false := decide_eq_false (by omega)
  have e2 : decide ((f.n : Int) ≤ (o : Int)) = false := decide_eq_false (by omega)
  have e3 : ¬ ((o : Int) < 0) := by omega
  have e4 : ¬ ((f.n : Int) ≤ (o : Int)) := by omega
  have e5 : decide (f.n ≤ o) = false := decide_eq_false (by omega)
  go_wp2_with fail
  go_loopw [9, 11, 12, 33] (fun v _ _ i wr => ∃ j : Nat, i = .int .i64 (j : Nat) ∧ j ≤ f.gn ∧ wr.ownsRow w3.heap.size 3 1 v (useL (gs.map (·.2)) o j).length (natsV (useL (gs.map (·.2)) o j)) ∧ Below w3.heap.size w3 wr) (fun _ _ _ i _ => f.gn - (intOf i).toNat)
  case atStart => exact ⟨0, rfl, Nat.zero_le _, World.ownsRow_nil _ _ _ _, Below.refl _ _⟩
  case round =>
    obtain ⟨j, rfl, hj, hown, hb⟩ := hrel
    have Ow := Lib.hid hown
    have Bp := Lib.hid hb
    have hsz := hb.size
    clear hown hb
    by_cases hlt : j < f.gn
    · have Hlt := Lib.hid hlt
      have i1 : (j : Int) < (f.gn : Int) := by omega
      obtain ⟨g, bb, oo, A', d, hr, hGA, hbw, z0, z1, hl⟩ := HG.out.at_ (k := j) (by omega)
      have kb := below_on B3.out Bp.out
      have cg := (Bp.out.cell (p := ⟨w.heap.size, 8, none⟩) P1.out.lt).trans c8
      rw [hGA] at c8 cg ⊢
      have z0 := (kb.cell (p := ⟨bb, oo + j * 2, none⟩) hbw).trans z0
      have z1 := (kb.cell (p := ⟨bb, oo + j * 2 + 1, none⟩) hbw).trans z1
      obtain ⟨_, hn2, _⟩ := HGn.out g (List.mem_of_getElem? hr)
      have hls : (gs.map (·.2))[j]? = some g.2 := by rw [List.getElem?_map, hr]; rfl
      have Hl := Lib.hid (hl.keep B3.out)
      obtain ⟨gi, hgi⟩ : ∃ q, g.1 = q := ⟨_, rfl⟩
      obtain ⟨lr, hlr⟩ : ∃ q, g.2 = q := ⟨_, rfl⟩
      rw [hgi] at z0
      rw [hlr] at z1 hn2 Hl hls
      obtain ⟨ln, hln⟩ : ∃ q, lr.length = q := ⟨_, rfl⟩
      have Hln := Lib.hid hln
      rw [hln] at z1 hn2
      clear hl kb hr hgi hlr hln
      have kx := (Below.refl wr.heap.size wr).alloc (Nat.le_refl _) (.cells #[.int .i64 (gi : Nat), .slice A' ln d] 88)
      have Bq := Lib.hid (below_on Bp.out kx)
      have Px := Cells.new wr #[.int .i64 (gi : Nat), .slice A' ln d] 88
      obtain ⟨w4, hw4⟩ : ∃ u, wr.alloc (.cells #[.int .i64 (gi : Nat), .slice A' ln d] 88) = u := ⟨_, rfl⟩
      rw [hw4] at kx Bq Px
      have x0 := Px.at_ 0
      have x1 := Px.at_ 1
      simp only [List.getElem?_cons_zero, List.getElem?_cons_succ] at x0 x1
      have Ow4 := Lib.hid (own_keep Ow.out kx)
      have Sz4 := Lib.hid (Nat.le_trans hsz kx.size)
      have HU := Lib.hid (use1_any w1.heap.size o A' ln d lr w4 ((Bq.out.cell (p := ⟨w1.heap.size, 0, none⟩) P2.out.lt).trans (P2.out.at_ 0)) (Hl.out.keep Bq.out) Hln.out (by omega))
      have Hls := Lib.hid hls
      have Hlen := Lib.hid (Nat.le_trans (useL_len (gs.map (·.2)) o j) hj)
      obtain ⟨q, hq⟩ : ∃ q, (lr.any fun e => e.1 == o) = q := ⟨_, rfl⟩
      rw [hq] at HU
      have Hq := Lib.hid hq
      clear hq hls kx
      cases q
      · go_wp2_with fail
        refine HU.out.mono ?_
        rintro e w5 ⟨rfl, hb5⟩
        have B5 := Lib.hid (below_on Bq.out hb5)
        have O5 := Lib.hid (own_keep Ow4.out hb5)
        clear hb5
        go_wp2_with fail
        go_roundw
        case rel => exact ⟨j + 1, by go_num, Hlt.out, by rw [useL_no Hls.out Hq.out]; exact O5.out, B5.out⟩
        case measure => simp [intOf]; have := Hlt.out; omega
      · go_wp2_with fail
        refine HU.out.mono ?_
        rintro e w5 ⟨rfl, hb5⟩
        have B5 := Lib.hid (below_on Bq.out hb5)
        have O5 := Lib.hid (own_keep Ow4.out hb5)
        have S5 := Lib.hid (Nat.le_trans Sz4.out hb5.size)
        clear hb5 hw4
        go_wp2_with (at_builtin; refine wpList_append_own _ rfl _ _ 51 rfl w3.heap.size 3 i0 (.int .i64 0) 1 8 Try.underlying51 hi hz0 hz1 hz2 rfl (by decide) _ _ _ rfl (O5.out.alloc _) ⟨w5.heap.size, 0, none⟩ 1 1 [.int .i64 (j : Nat)] rfl rfl ?c1 ?c2 ?c3 ?c4 ?c5 ?_)
        case c2 => first | rfl | (intro u hu; simp at hu; subst hu; rfl)
        try any_goals first | exact cell_one_new _ _ _ | rfl
        case c3 => unfold maxLen; have := Hlen.out; omega
        case c4 => have := Hlen.out; omega
        case c5 => have := S5.out; first | omega | (simp; omega)
        intro v' w6 hown' hgrow _
        have O6 := Lib.hid (show w6.ownsRow w3.heap.size 3 1 v' (useL (gs.map (·.2)) o (j + 1)).length (natsV (useL (gs.map (·.2)) o (j + 1))) by
          rw [useL_yes Hls.out Hq.out, natsV_snoc, List.length_append]
          exact hown')
        have B6 := Lib.hid ((B5.out.alloc B5.out.size (.cells #[.int .i64 (j : Nat)] 3)).grown hgrow (by simp; have := S5.out; omega) (fun k hk => own_ge O5.out hk))
        clear hown' hgrow
        go_wp2
        go_roundw
        case rel => exact ⟨j + 1, by go_num, Hlt.out, O6.out, B6.out⟩
        case measure => simp [intOf]; have := Hlt.out; omega
    · have hjn : j = f.gn := by omega
      subst hjn
      obtain ⟨wz, rfl⟩ : ∃ x, x = wr := ⟨_, rfl⟩
      have Bz := Lib.hid (below_on B3.out Bp.out)
      have Pz := Lib.hid (P1.out.keep (Bp.out.mono (Nat.le_refl _)))
      have P2z := Lib.hid (P2.out.keep Bp.out)
      have Og := Lib.hid (own_down Ow.out (show w.heap.size ≤ w3.heap.size from B3.out.size))
      have c0 := Pz.out.at_ 0
      have c1 := Pz.out.at_ 1
      have c2 := Pz.out.at_ 2
      have c3 := Pz.out.at_ 3
      have c4 := Pz.out.at_ 4
      have c5 := Pz.out.at_ 5
      have c6 := Pz.out.at_ 6
      have c7 := Pz.out.at_ 7
      have c8 := Pz.out.at_ 8
      have c9 := Pz.out.at_ 9
      have d0 := P2z.out.at_ 0
      simp only [List.getElem?_cons_zero, List.getElem?_cons_succ] at c0 c1 c2 c3 c4 c5 c6 c7 c8 c9 d0
      clear Ow Bp P1 P2 B3 hsz
      go_wp2_with fail
      go_loopw [10, 13, 14, 50] (fun v _ _ i wr => ∃ j : Nat, i = .int .i64 (j : Nat) ∧ j ≤ f.vn ∧ wr.ownsRow wz.heap.size 3 1 v (useL (vs.map (·.all)) o j).length (natsV (useL (vs.map (·.all)) o j)) ∧ Below wz.heap.size wz wr) (fun _ _ _ i _ => f.vn - (intOf i).toNat)
      case atStart => exact ⟨0, rfl, Nat.zero_le _, World.ownsRow_nil _ _ _ _, Below.refl _ _⟩
      case round =>
        obtain ⟨j, rfl, hj, hown, hb⟩ := hrel
        have Ow := Lib.hid hown
        have Bp := Lib.hid hb
        have hsz := hb.size
        clear hown hb
        by_cases hlt : j < f.vn
        · have Hlt := Lib.hid hlt
          have i1 : (j : Int) < (f.vn : Int) := by omega
          obtain ⟨g, bb, oo, A', d, hr, hGA, hbw, z0, z1, z2, z3, z4, z5, hl⟩ := HV.out.at_ (k := j) (by omega)
          have kb := below_on Bz.out Bp.out
          have cg := (Bp.out.cell (p := ⟨w.heap.size, 9, none⟩) Pz.out.lt).trans c9
          rw [hGA] at c9 cg ⊢
          have z0 := (kb.cell (p := ⟨bb, oo + j * 6, none⟩) hbw).trans z0
          have z1 := (kb.cell (p := ⟨bb, oo + j * 6 + 1, none⟩) hbw).trans z1
          have z2 := (kb.cell (p := ⟨bb, oo + j * 6 + 2, none⟩) hbw).trans z2
          have z3 := (kb.cell (p := ⟨bb, oo + j * 6 + 3, none⟩) hbw).trans z3
          have z4 := (kb.cell (p := ⟨bb, oo + j * 6 + 4, none⟩) hbw).trans z4
          have z5 := (kb.cell (p := ⟨bb, oo + j * 6 + 5, none⟩) hbw).trans z5
          obtain ⟨hn2, _⟩ := HVn.out g (List.mem_of_getElem? hr)
          have hls : (vs.map (·.all))[j]? = some g.all := by rw [List.getElem?_map, hr]; rfl
          have Hl := Lib.hid (hl.keep Bz.out)
          obtain ⟨gi, hgi⟩ : ∃ q, g.dim = q := ⟨_, rfl⟩
          obtain ⟨n0, hn0⟩ : ∃ q, g.nw.nm = q := ⟨_, rfl⟩
          obtain ⟨n1, hn1⟩ : ∃ q, g.nw.no = q := ⟨_, rfl⟩
          obtain ⟨n3, hn3⟩ : ∃ q, g.nw.lo = q := ⟨_, rfl⟩
          obtain ⟨n4, hn4⟩ : ∃ q, g.nw.up = q := ⟨_, rfl⟩
          obtain ⟨lr, hlr⟩ : ∃ q, g.all = q := ⟨_, rfl⟩
          rw [hgi] at z1
          rw [hn0] at z2
          rw [hn1] at z3
          rw [hn3] at z4
          rw [hn4] at z5
          rw [hlr] at z0 hn2 Hl hls
          obtain ⟨ln, hln⟩ : ∃ q, lr.length = q := ⟨_, rfl⟩
          have Hln := Lib.hid hln
          rw [hln] at z0 hn2
          clear hl kb hr hgi hlr hln hn0 hn1 hn3 hn4
          have kx := (Below.refl wr.heap.size wr).alloc (Nat.le_refl _) (.cells #[.slice A' ln d, .int .i64 (gi : Nat), .string n0, .int .i64 n1, .int .i64 n3, .int .i64 n4] 92)
          have Bq := Lib.hid (below_on Bp.out kx)
          have Px := Cells.new wr #[.slice A' ln d, .int .i64 (gi : Nat), .string n0, .int .i64 n1, .int .i64 n3, .int .i64 n4] 92
          obtain ⟨w4, hw4⟩ : ∃ u, wr.alloc (.cells #[.slice A' ln d, .int .i64 (gi : Nat), .string n0, .int .i64 n1, .int .i64 n3, .int .i64 n4] 92) = u := ⟨_, rfl⟩
          rw [hw4] at kx Bq Px
          have x0 := Px.at_ 0
          have x1 := Px.at_ 1
          have x2 := Px.at_ 2
          have x3 := Px.at_ 3
          have x4 := Px.at_ 4
          have x5 := Px.at_ 5
          simp only [List.getElem?_cons_zero, List.getElem?_cons_succ] at x0 x1 x2 x3 x4 x5
          have Ow4 := Lib.hid (own_keep Ow.out kx)
          have Sz4 := Lib.hid (Nat.le_trans hsz kx.size)
          have HU := Lib.hid (use1_any w1.heap.size o A' ln d lr w4 ((Bq.out.cell (p := ⟨w1.heap.size, 0, none⟩) P2z.out.lt).trans (P2z.out.at_ 0)) (Hl.out.keep Bq.out) Hln.out (by omega))
          have Hls := Lib.hid hls
          have Hlen := Lib.hid (Nat.le_trans (useL_len (vs.map (·.all)) o j) hj)
          obtain ⟨q, hq⟩ : ∃ q, (lr.any fun e => e.1 == o) = q := ⟨_, rfl⟩
          rw [hq] at HU
          have Hq := Lib.hid hq
          clear hq hls kx
          cases q
          · go_wp2_with fail
            refine HU.out.mono ?_
            rintro e w5 ⟨rfl, hb5⟩
            have B5 := Lib.hid (below_on Bq.out hb5)
            have O5 := Lib.hid (own_keep Ow4.out hb5)
            clear hb5
            go_wp2_with fail
            go_roundw
            case rel => exact ⟨j + 1, by go_num, Hlt.out, by rw [useL_no Hls.out Hq.out]; exact O5.out, B5.out⟩
            case measure => simp [intOf]; have := Hlt.out; omega
          · go_wp2_with fail
            refine HU.out.mono ?_
            rintro e w5 ⟨rfl, hb5⟩
            have B5 := Lib.hid (below_on Bq.out hb5)
            have O5 := Lib.hid (own_keep Ow4.out hb5)
            have S5 := Lib.hid (Nat.le_trans Sz4.out hb5.size)
            clear hb5 hw4
            go_wp2_with (at_builtin; refine wpList_append_own _ rfl _ _ 51 rfl wz.heap.size 3 i0 (.int .i64 0) 1 8 Try.underlying51 hi hz0 hz1 hz2 rfl (by decide) _ _ _ rfl (O5.out.alloc _) ⟨w5.heap.size, 0, none⟩ 1 1 [.int .i64 (j : Nat)] rfl rfl ?e1 ?e2 ?e3 ?e4 ?e5 ?_)
            case e2 => first | rfl | (intro u hu; simp at hu; subst hu; rfl)
            try any_goals first | exact cell_one_new _ _ _ | rfl
            case e3 => unfold maxLen; have := Hlen.out; omega
            case e4 => have := Hlen.out; omega
            case e5 => have := S5.out; first | omega | (simp; omega)
            intro v' w6 hown' hgrow _
            have O6 := Lib.hid (show w6.ownsRow wz.heap.size 3 1 v' (useL (vs.map (·.all)) o (j + 1)).length (natsV (useL (vs.map (·.all)) o (j + 1))) by
              rw [useL_yes Hls.out Hq.out, natsV_snoc, List.length_append]
              exact hown')
            have B6 := Lib.hid ((B5.out.alloc B5.out.size (.cells #[.int .i64 (j : Nat)] 3)).grown hgrow (by simp; have := S5.out; omega) (fun k hk => own_ge O5.out hk))
            clear hown' hgrow
            go_wp2
            go_roundw
            case rel => exact ⟨j + 1, by go_num, Hlt.out, O6.out, B6.out⟩
            case measure => simp [intOf]; have := Hlt.out; omega
        · have hjn : j = f.vn := by omega
          subst hjn
          have OF := Lib.hid (own_down Ow.out (show w.heap.size ≤ wz.heap.size from Bz.out.size))
          have OG := Lib.hid (own_keep Og.out Bp.out)
          have BF := Lib.hid (below_on Bz.out Bp.out)
          clear Ow
          go_wp2_with fail
          go_ret3
          exact ⟨_, _, rfl, OG.out, OF.out, BF.out⟩
end Go.Proofs.Ytmfmpkihmadjmaa
