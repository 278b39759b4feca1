/- The reference: the allowed sets of a choice. -/
import Derived.Test.YtmfmpkihmadjmaaVaf
namespace Go.Proofs.Ytmfmpkihmadjmaa
open Go.RowKit Go.Shelf
theorem own_nats {w : World} {B : Nat} {v : Value} {n : Nat} {l : List Nat} (h : w.ownsRow B 3 1 v n (natsV l)) (_hl : l.length = n) : ∃ A c, v = .slice A n c ∧ NatL w A l := by
  obtain ⟨A, c, rfl, _, _, _, hx⟩ := own_row h
  refine ⟨A, c, rfl, fun k x hk => ?_⟩
  obtain ⟨g, e1, e2, e3, e4⟩ := hx k (.int .i64 (x : Nat)) (by unfold natsV; rw [List.getElem?_map, hk]; rfl)
  exact ⟨g, 0, e1, e3, by rw [Nat.zero_add]; exact e4⟩
theorem setsN_lt {n : Nat} (hn : n ≤ 6) : ∀ s ∈ setsN n, s < 64 := fun s hs => by
  unfold setsN setsU at hs
  obtain ⟨v, _, rfl⟩ := List.mem_map.1 hs
  exact Nat.lt_of_lt_of_le (setU_lt _ _ _) (Nat.pow_le_pow_right (by decide) hn : 2 ^ n ≤ 2 ^ 6)
/-- Whether a set is allowed, without the rules that are left out. -/
def okR (rs : List (ByteArray × List (Nat × Bool))) (out : List Bool) (ch : List (Nat × Bool)) (s : Nat) : Bool := ch.all (litR s) && decide (brkR rs out s < 0)
def alR (n : Nat) (rs : List (ByteArray × List (Nat × Bool))) (out : List Bool) (ch : List (Nat × Bool)) (j : Nat) : List Nat := ((setsN n).take j).filter (okR rs out ch)
def ALR (n : Nat) (rs : List (ByteArray × List (Nat × Bool))) (out : List Bool) (ch : List (Nat × Bool)) : List Nat := (setsN n).filter (okR rs out ch)
theorem alR_yes {n j x : Nat} {rs : List (ByteArray × List (Nat × Bool))} {out : List Bool} {ch : List (Nat × Bool)} (hx : (setsN n)[j]? = some x) (h : okR rs out ch x = true) : alR n rs out ch (j + 1) = alR n rs out ch j ++ [x] := by
  unfold alR
  rw [List.take_add_one, hx, List.filter_append]
  simp [h]
theorem alR_no {n j x : Nat} {rs : List (ByteArray × List (Nat × Bool))} {out : List Bool} {ch : List (Nat × Bool)} (hx : (setsN n)[j]? = some x) (h : okR rs out ch x = false) : alR n rs out ch (j + 1) = alR n rs out ch j := by
  unfold alR
  rw [List.take_add_one, hx, List.filter_append]
  simp [h]
theorem alR_len (n : Nat) (rs : List (ByteArray × List (Nat × Bool))) (out : List Bool) (ch : List (Nat × Bool)) (j : Nat) : (alR n rs out ch j).length ≤ j :=
  Nat.le_trans (List.length_filter_le _ _) (by rw [List.length_take]; exact Nat.min_le_left _ _)
set_option maxRecDepth 100000 in
set_option maxHeartbeats 8000000 in
theorem allowedR_any (f : Fm) (rs : List (ByteArray × List (Nat × Bool))) (XA : Option Addr) (xc : Nat) (out : List Bool) (A : Option Addr) (m d : Nat) (ch : List (Nat × Bool)) (w : World) (hn : 0 < f.n) (hn6 : f.n ≤ 6) (h : RuleL w f.RA rs) (hrl : rs.length = f.rn) (hrn : f.rn ≤ 1000) (hlow : ∀ r ∈ rs, (∀ l ∈ r.2, l.1 < 6) ∧ r.2.length ≤ 1000) (ho : BoolL w XA out) (hol : out.length = f.rn) (hch : LitL w A (lc ch)) (hcl : ch.length = m) (hcm : m ≤ 1000) (hclow : ∀ l ∈ ch, l.1 < 6) :
    Calls Try.prog 23 #[f.v, .slice XA f.rn xc, .slice A m d] w fun e w' => ∃ v, e = .returned v ∧ w'.ownsRow w.heap.size 3 1 v (ALR f.n rs out ch).length (natsV (ALR f.n rs out ch)) ∧ Below w.heap.size w w' := by
  have k1 := (Below.refl w.heap.size w).alloc (Nat.le_refl _) (.cells f.cells 40)
  have P1 := Cells.new w f.cells 40
  obtain ⟨w1, hw1⟩ : ∃ u, w.alloc (.cells f.cells 40) = u := ⟨_, rfl⟩
  have hw1' : w.alloc (.cells #[.string f.nm, .slice f.PA f.pn f.pc, .slice f.IA f.iN f.ic, .slice f.DA f.dn f.dc, .slice f.KA f.kn f.kc, .slice f.QA f.qn f.qc, .slice f.OA f.n f.oc, .slice f.RA f.rn f.rc, .slice f.GA f.gn f.gc, .slice f.VA f.vn f.vc] 40) = w1 := hw1
  rw [hw1] at k1 P1
  have c6 := P1.at_ 6
  simp only [List.getElem?_cons_zero, List.getElem?_cons_succ] at c6
  have HSets := Lib.hid (sets_any f.n w1 hn hn6)
  have K1 := Lib.hid k1
  have HP1 := Lib.hid P1
  obtain ⟨i0, hi, hz0, hz1, hz2⟩ := info_parts info_intV
  obtain ⟨N, hN⟩ : ∃ N, 2 ^ f.n = N := ⟨_, rfl⟩
  have hN64 : N ≤ 64 := by rw [← hN]; exact (Nat.pow_le_pow_right (by decide) hn6 : 2 ^ f.n ≤ 2 ^ 6)
  have hNl : (setsN f.n).length = N := by unfold setsN; rw [setsU_len, hN]
  rw [hN] at HSets
  clear k1 P1 hw1 hN
  go_enter Try.func23, Try.ntmps23
  go_wp2_with fail
  refine HSets.out.mono ?_
  rintro e w2 ⟨v, rfl, hown, hb2⟩
  obtain ⟨SA, sc, rfl, hSL⟩ := own_nats hown hNl
  have B2 := Lib.hid (below_on K1.out hb2)
  have P2 := Lib.hid (HP1.out.keep hb2)
  have HSL := Lib.hid hSL
  clear hown hSL hb2 c6
  go_wp2_with fail
  go_loopw [7, 9] (fun v i wr => ∃ j : Nat, i = .int .i64 (j : Nat) ∧ j ≤ N ∧ wr.ownsRow w2.heap.size 3 1 v (alR f.n rs out ch j).length (natsV (alR f.n rs out ch j)) ∧ Below w2.heap.size w2 wr) (fun _ i _ => N - (intOf i).toNat)
  case atStart => exact ⟨0, rfl, Nat.zero_le _, World.ownsRow_nil _ _ _ _, Below.refl _ _⟩
  case round =>
    obtain ⟨j, rfl, hj, hown, hb⟩ := hrel
    have Ow := Lib.hid hown
    have B1 := Lib.hid hb
    by_cases hlt : j < N
    · obtain ⟨x, hx⟩ : ∃ x, (setsN f.n)[j]? = some x := ⟨_, List.getElem?_eq_getElem (by omega)⟩
      obtain ⟨g, o, rfl, hg, hc⟩ := HSL.out j x hx
      have hx64 := setsN_lt hn6 x (List.mem_of_getElem? hx)
      have b0 := below_on B2.out hb
      have Hlen := Lib.hid (alR_len f.n rs out ch j)
      have HA := Lib.hid (fun w' (hb' : Below wr.heap.size wr w') => allR_any A m d x ch w' (hch.keep (below_on b0 hb')) hcl (by omega) hclow hx64)
      have HR := Lib.hid (fun w' (hb' : Below wr.heap.size wr w') => broken_any f rs XA f.rn xc out x w' (h.keep (below_on b0 hb')) hrl hrn hlow (ho.keep (below_on b0 hb')) hol rfl hx64)
      have P3 := Lib.hid (P2.out.keep hb)
      have HC := Lib.hid ((hb.cell (p := ⟨g, o + j, none⟩) hg).trans hc)
      have HG := Lib.hid (Nat.lt_of_lt_of_le hg hb.size)
      have Hx := Lib.hid hx
      have i1 : (j : Int) < (N : Int) := by omega
      have hokx : okR rs out ch x = (ch.all (litR x) && decide (brkR rs out x < 0)) := rfl
      obtain ⟨p, hp⟩ : ∃ p, ch.all (litR x) = p := ⟨_, rfl⟩
      obtain ⟨r, hr⟩ : ∃ r, brkR rs out x = r := ⟨_, rfl⟩
      rw [hp, hr] at hokx
      rw [hp] at HA
      rw [hr] at HR
      have Hok := Lib.hid hokx
      clear hx hc hb hown b0 h ho hch hlow hclow hp hr hrl hol hcl hokx
      have HS := Lib.hid (fun w' (hb : Below wr.heap.size wr w') => (⟨(hb.cell (p := ⟨g, o + j, none⟩) HG.out).trans HC.out, (P3.out.keep hb).at_ 0, (P3.out.keep hb).at_ 1, (P3.out.keep hb).at_ 2, (P3.out.keep hb).at_ 3, (P3.out.keep hb).at_ 4, (P3.out.keep hb).at_ 5, (P3.out.keep hb).at_ 6, (P3.out.keep hb).at_ 7, (P3.out.keep hb).at_ 8, (P3.out.keep hb).at_ 9⟩ : w'.cell? ⟨g, o + j, none⟩ = some (.int .i64 (x : Nat)) ∧ w'.cell? ⟨w.heap.size, 0, none⟩ = some (.string f.nm) ∧ w'.cell? ⟨w.heap.size, 1, none⟩ = some (.slice f.PA f.pn f.pc) ∧ w'.cell? ⟨w.heap.size, 2, none⟩ = some (.slice f.IA f.iN f.ic) ∧ w'.cell? ⟨w.heap.size, 3, none⟩ = some (.slice f.DA f.dn f.dc) ∧ w'.cell? ⟨w.heap.size, 4, none⟩ = some (.slice f.KA f.kn f.kc) ∧ w'.cell? ⟨w.heap.size, 5, none⟩ = some (.slice f.QA f.qn f.qc) ∧ w'.cell? ⟨w.heap.size, 6, none⟩ = some (.slice f.OA f.n f.oc) ∧ w'.cell? ⟨w.heap.size, 7, none⟩ = some (.slice f.RA f.rn f.rc) ∧ w'.cell? ⟨w.heap.size, 8, none⟩ = some (.slice f.GA f.gn f.gc) ∧ w'.cell? ⟨w.heap.size, 9, none⟩ = some (.slice f.VA f.vn f.vc)))
      cases p
      · replace Hok := Lib.hid (Hok.out.trans (Bool.false_and _))
        go_upto_region 6 with fail
        refine Till.begin 15 (fun w' => w'.cell? ⟨g, o + j, none⟩ = some (.int .i64 (x : Nat)) ∧ w'.cell? ⟨w.heap.size, 0, none⟩ = some (.string f.nm) ∧ w'.cell? ⟨w.heap.size, 1, none⟩ = some (.slice f.PA f.pn f.pc) ∧ w'.cell? ⟨w.heap.size, 2, none⟩ = some (.slice f.IA f.iN f.ic) ∧ w'.cell? ⟨w.heap.size, 3, none⟩ = some (.slice f.DA f.dn f.dc) ∧ w'.cell? ⟨w.heap.size, 4, none⟩ = some (.slice f.KA f.kn f.kc) ∧ w'.cell? ⟨w.heap.size, 5, none⟩ = some (.slice f.QA f.qn f.qc) ∧ w'.cell? ⟨w.heap.size, 6, none⟩ = some (.slice f.OA f.n f.oc) ∧ w'.cell? ⟨w.heap.size, 7, none⟩ = some (.slice f.RA f.rn f.rc) ∧ w'.cell? ⟨w.heap.size, 8, none⟩ = some (.slice f.GA f.gn f.gc) ∧ w'.cell? ⟨w.heap.size, 9, none⟩ = some (.slice f.VA f.vn f.vc)) (by kernel_rfl) (HS.out _ (Below.refl _ _).drew) (fun hH => ?_)
        clear hH
        have HB := Lib.hid (Below.refl wr.heap.size wr).drew
        generalize wr.drew = v0 at HB ⊢
        try simp only [List.setIfInBounds_toArray, List.set_cons_zero, List.set_cons_succ]
        refine Till.tL 0 [5, 6, 15] 20 (.slice A m d) (HS.out _ HB.out) ?_
        try simp only [Act.put, List.setIfInBounds_toArray, List.set_cons_zero, List.set_cons_succ]
        refine Till.tL 1 [3, 4, 5, 6, 15] 21 (.slice (some ⟨g, o, none⟩) N sc) (HS.out _ HB.out) ?_
        try simp only [Act.put, List.setIfInBounds_toArray, List.set_cons_zero, List.set_cons_succ]
        refine Till.one (i := 2) (by kernel_rfl) rfl (fun K hK => ?_)
        go_simp
        refine hK.out _ _ (fun _ => HS.out _ HB.out) ?_
        clear hK K
        try simp only [List.setIfInBounds_toArray, List.set_cons_zero, List.set_cons_succ]
        refine Till.one (i := 3) (by kernel_rfl) rfl (fun K hK => ?_)
        go_simp
        refine hK.out _ _ (fun _ => HS.out _ HB.out) ?_
        clear hK K
        try simp only [List.setIfInBounds_toArray, List.set_cons_zero, List.set_cons_succ]
        refine Till.tL 4 [5, 6, 15] 24 (.int .i64 (x : Nat)) (HS.out _ HB.out) ?_
        try simp only [Act.put, List.setIfInBounds_toArray, List.set_cons_zero, List.set_cons_succ]
        refine Till.one (i := 5) (by kernel_rfl) rfl (fun K hK => ?_)
        go_simp
        refine (HA.out _ HB.out).mono ?_
        rintro e v1 ⟨rfl, g⟩
        replace HB := Lib.hid (below_on HB.out g)
        clear g
        go_wp2_with fail
        refine hK.out _ _ (fun _ => HS.out _ HB.out) ?_
        clear hK K
        try simp only [List.setIfInBounds_toArray, List.set_cons_zero, List.set_cons_succ]
        refine Till.one (i := 6) (by kernel_rfl) rfl (fun K hK => ?_)
        go_simp
        refine hK.out _ _ (fun _ => HS.out _ HB.out) ?_
        clear hK K
        try simp only [List.setIfInBounds_toArray, List.set_cons_zero, List.set_cons_succ]
        refine Till.sL 7 [13, 14, 15] 27 (HS.out _ HB.out) ?_
        try simp only [Act.put, List.setIfInBounds_toArray, List.set_cons_zero, List.set_cons_succ]
        refine Till.sL 8 [13, 14, 15] 28 (HS.out _ HB.out) ?_
        try simp only [Act.put, List.setIfInBounds_toArray, List.set_cons_zero, List.set_cons_succ]
        refine Till.sL 9 [11, 12, 13, 14, 15] 29 (HS.out _ HB.out) ?_
        try simp only [Act.put, List.setIfInBounds_toArray, List.set_cons_zero, List.set_cons_succ]
        refine Till.one (i := 10) (by kernel_rfl) rfl (fun K hK => ?_)
        go_simp
        refine hK.out _ _ (fun _ => HS.out _ HB.out) ?_
        clear hK K
        try simp only [List.setIfInBounds_toArray, List.set_cons_zero, List.set_cons_succ]
        refine Till.one (i := 11) (by kernel_rfl) rfl (fun K hK => ?_)
        go_simp
        refine hK.out _ _ (fun _ => HS.out _ HB.out) ?_
        clear hK K
        try simp only [List.setIfInBounds_toArray, List.set_cons_zero, List.set_cons_succ]
        refine Till.one (i := 12) (by kernel_rfl) rfl (fun K hK => ?_)
        go_simp
        refine hK.out _ _ (fun _ => HS.out _ HB.out) ?_
        clear hK K
        try simp only [List.setIfInBounds_toArray, List.set_cons_zero, List.set_cons_succ]
        refine Till.one (i := 13) (by kernel_rfl) rfl (fun K hK => ?_)
        go_simp
        refine hK.out _ _ (fun _ => HS.out _ HB.out) ?_
        clear hK K
        try simp only [List.setIfInBounds_toArray, List.set_cons_zero, List.set_cons_succ]
        refine Till.one (i := 14) (by kernel_rfl) rfl (fun K hK => ?_)
        go_simp
        refine hK.out _ _ (fun _ => HS.out _ HB.out) ?_
        clear hK K
        try simp only [List.setIfInBounds_toArray, List.set_cons_zero, List.set_cons_succ]
        refine Till.one (i := 15) (by kernel_rfl) rfl (fun K hK => ?_)
        go_simp
        refine hK.out _ _ (fun h => absurd h (by simp)) ?_
        clear hK K
        try simp only [List.setIfInBounds_toArray, List.set_cons_zero, List.set_cons_succ]
        refine Till.done (by kernel_rfl) ?_ _
        have Ow4 := Lib.hid (own_keep Ow.out HB.out)
        have B4 := Lib.hid (B1.out.trans (HB.out.mono B1.out.size))
        go_wp2_with fail
        go_roundw
        case rel => exact ⟨j + 1, by go_num, by omega, by rw [alR_no Hx.out Hok.out]; exact Ow4.out, B4.out⟩
        case measure => simp [intOf]; omega
      · by_cases hr0 : r < 0
        · replace Hok := Lib.hid (Hok.out.trans (by rw [decide_eq_true hr0]; rfl) : okR rs out ch x = true)
          go_upto_region 6 with fail
          refine Till.begin 15 (fun w' => w'.cell? ⟨g, o + j, none⟩ = some (.int .i64 (x : Nat)) ∧ w'.cell? ⟨w.heap.size, 0, none⟩ = some (.string f.nm) ∧ w'.cell? ⟨w.heap.size, 1, none⟩ = some (.slice f.PA f.pn f.pc) ∧ w'.cell? ⟨w.heap.size, 2, none⟩ = some (.slice f.IA f.iN f.ic) ∧ w'.cell? ⟨w.heap.size, 3, none⟩ = some (.slice f.DA f.dn f.dc) ∧ w'.cell? ⟨w.heap.size, 4, none⟩ = some (.slice f.KA f.kn f.kc) ∧ w'.cell? ⟨w.heap.size, 5, none⟩ = some (.slice f.QA f.qn f.qc) ∧ w'.cell? ⟨w.heap.size, 6, none⟩ = some (.slice f.OA f.n f.oc) ∧ w'.cell? ⟨w.heap.size, 7, none⟩ = some (.slice f.RA f.rn f.rc) ∧ w'.cell? ⟨w.heap.size, 8, none⟩ = some (.slice f.GA f.gn f.gc) ∧ w'.cell? ⟨w.heap.size, 9, none⟩ = some (.slice f.VA f.vn f.vc)) (by kernel_rfl) (HS.out _ (Below.refl _ _).drew) (fun hH => ?_)
          clear hH
          have HB := Lib.hid (Below.refl wr.heap.size wr).drew
          generalize wr.drew = v0 at HB ⊢
          try simp only [List.setIfInBounds_toArray, List.set_cons_zero, List.set_cons_succ]
          refine Till.tL 0 [5, 6, 15] 20 (.slice A m d) (HS.out _ HB.out) ?_
          try simp only [Act.put, List.setIfInBounds_toArray, List.set_cons_zero, List.set_cons_succ]
          refine Till.tL 1 [3, 4, 5, 6, 15] 21 (.slice (some ⟨g, o, none⟩) N sc) (HS.out _ HB.out) ?_
          try simp only [Act.put, List.setIfInBounds_toArray, List.set_cons_zero, List.set_cons_succ]
          refine Till.one (i := 2) (by kernel_rfl) rfl (fun K hK => ?_)
          go_simp
          refine hK.out _ _ (fun _ => HS.out _ HB.out) ?_
          clear hK K
          try simp only [List.setIfInBounds_toArray, List.set_cons_zero, List.set_cons_succ]
          refine Till.one (i := 3) (by kernel_rfl) rfl (fun K hK => ?_)
          go_simp
          refine hK.out _ _ (fun _ => HS.out _ HB.out) ?_
          clear hK K
          try simp only [List.setIfInBounds_toArray, List.set_cons_zero, List.set_cons_succ]
          refine Till.tL 4 [5, 6, 15] 24 (.int .i64 (x : Nat)) (HS.out _ HB.out) ?_
          try simp only [Act.put, List.setIfInBounds_toArray, List.set_cons_zero, List.set_cons_succ]
          refine Till.one (i := 5) (by kernel_rfl) rfl (fun K hK => ?_)
          go_simp
          refine (HA.out _ HB.out).mono ?_
          rintro e v1 ⟨rfl, g⟩
          replace HB := Lib.hid (below_on HB.out g)
          clear g
          go_wp2_with fail
          refine hK.out _ _ (fun _ => HS.out _ HB.out) ?_
          clear hK K
          try simp only [List.setIfInBounds_toArray, List.set_cons_zero, List.set_cons_succ]
          refine Till.one (i := 6) (by kernel_rfl) rfl (fun K hK => ?_)
          go_simp
          refine hK.out _ _ (fun _ => HS.out _ HB.out) ?_
          clear hK K
          try simp only [List.setIfInBounds_toArray, List.set_cons_zero, List.set_cons_succ]
          refine Till.tL 7 [13, 14, 15] 27 (f.v) (HS.out _ HB.out) ?_
          try simp only [Act.put, List.setIfInBounds_toArray, List.set_cons_zero, List.set_cons_succ]
          refine Till.tL 8 [13, 14, 15] 28 (.slice XA f.rn xc) (HS.out _ HB.out) ?_
          try simp only [Act.put, List.setIfInBounds_toArray, List.set_cons_zero, List.set_cons_succ]
          refine Till.tL 9 [11, 12, 13, 14, 15] 29 (.slice (some ⟨g, o, none⟩) N sc) (HS.out _ HB.out) ?_
          try simp only [Act.put, List.setIfInBounds_toArray, List.set_cons_zero, List.set_cons_succ]
          refine Till.one (i := 10) (by kernel_rfl) rfl (fun K hK => ?_)
          go_simp
          refine hK.out _ _ (fun _ => HS.out _ HB.out) ?_
          clear hK K
          try simp only [List.setIfInBounds_toArray, List.set_cons_zero, List.set_cons_succ]
          refine Till.one (i := 11) (by kernel_rfl) rfl (fun K hK => ?_)
          go_simp
          refine hK.out _ _ (fun _ => HS.out _ HB.out) ?_
          clear hK K
          try simp only [List.setIfInBounds_toArray, List.set_cons_zero, List.set_cons_succ]
          refine Till.tL 12 [13, 14, 15] 32 (.int .i64 (x : Nat)) (HS.out _ HB.out) ?_
          try simp only [Act.put, List.setIfInBounds_toArray, List.set_cons_zero, List.set_cons_succ]
          refine Till.one (i := 13) (by kernel_rfl) rfl (fun K hK => ?_)
          go_simp
          refine (HR.out _ HB.out).mono ?_
          rintro e v2 ⟨rfl, g⟩
          replace HB := Lib.hid (below_on HB.out g)
          clear g
          go_wp2_with fail
          refine hK.out _ _ (fun _ => HS.out _ HB.out) ?_
          clear hK K
          try simp only [List.setIfInBounds_toArray, List.set_cons_zero, List.set_cons_succ]
          refine Till.one (i := 14) (by kernel_rfl) rfl (fun K hK => ?_)
          go_simp
          refine hK.out _ _ (fun _ => HS.out _ HB.out) ?_
          clear hK K
          try simp only [List.setIfInBounds_toArray, List.set_cons_zero, List.set_cons_succ]
          refine Till.one (i := 15) (by kernel_rfl) rfl (fun K hK => ?_)
          go_simp
          refine hK.out _ _ (fun h => absurd h (by simp)) ?_
          clear hK K
          try simp only [List.setIfInBounds_toArray, List.set_cons_zero, List.set_cons_succ]
          refine Till.done (by kernel_rfl) ?_ _
          have Ow4 := Lib.hid (own_keep Ow.out HB.out)
          have B4 := Lib.hid (B1.out.trans (HB.out.mono B1.out.size))
          have c0 := (HS.out _ HB.out).1
          go_wp2_with (at_builtin; refine wpList_append_own _ rfl _ _ 51 rfl w2.heap.size 3 i0 (.int .i64 0) 1 8 Try.underlying51 hi hz0 hz1 hz2 rfl (by decide) _ _ _ rfl (Ow4.out.alloc _) ⟨v2.heap.size, 0, none⟩ 1 1 [.int .i64 (x : Nat)] rfl rfl ?c1 ?c2 ?c3 ?c4 ?c5 ?_)
          case c2 => first | rfl | (intro u hu; simp at hu; subst hu; rfl)
          any_goals first | exact cell_one_new _ _ _ | rfl
          case c3 => unfold maxLen; have := Hlen.out; omega
          case c4 => have := Hlen.out; omega
          case c5 => have := B4.out.size; first | omega | (simp; omega)
          intro v' w5 hown' hgrow _
          have Ow5 := Lib.hid (show w5.ownsRow w2.heap.size 3 1 v' (alR f.n rs out ch (j + 1)).length (natsV (alR f.n rs out ch (j + 1))) by
            rw [alR_yes Hx.out Hok.out, natsV_snoc, List.length_append]
            exact hown')
          have B5 := Lib.hid ((B4.out.alloc B4.out.size (.cells #[.int .i64 (x : Nat)] 3)).grown hgrow (by simp; have := B4.out.size; omega) (fun k hk => own_ge Ow4.out hk))
          clear hown' hgrow
          go_wp2
          go_roundw
          case rel => exact ⟨j + 1, by go_num, by omega, Ow5.out, B5.out⟩
          case measure => simp [intOf]; omega
        · replace Hok := Lib.hid (Hok.out.trans (by rw [decide_eq_false hr0]; rfl) : okR rs out ch x = false)
          go_upto_region 6 with fail
          refine Till.begin 15 (fun w' => w'.cell? ⟨g, o + j, none⟩ = some (.int .i64 (x : Nat)) ∧ w'.cell? ⟨w.heap.size, 0, none⟩ = some (.string f.nm) ∧ w'.cell? ⟨w.heap.size, 1, none⟩ = some (.slice f.PA f.pn f.pc) ∧ w'.cell? ⟨w.heap.size, 2, none⟩ = some (.slice f.IA f.iN f.ic) ∧ w'.cell? ⟨w.heap.size, 3, none⟩ = some (.slice f.DA f.dn f.dc) ∧ w'.cell? ⟨w.heap.size, 4, none⟩ = some (.slice f.KA f.kn f.kc) ∧ w'.cell? ⟨w.heap.size, 5, none⟩ = some (.slice f.QA f.qn f.qc) ∧ w'.cell? ⟨w.heap.size, 6, none⟩ = some (.slice f.OA f.n f.oc) ∧ w'.cell? ⟨w.heap.size, 7, none⟩ = some (.slice f.RA f.rn f.rc) ∧ w'.cell? ⟨w.heap.size, 8, none⟩ = some (.slice f.GA f.gn f.gc) ∧ w'.cell? ⟨w.heap.size, 9, none⟩ = some (.slice f.VA f.vn f.vc)) (by kernel_rfl) (HS.out _ (Below.refl _ _).drew) (fun hH => ?_)
          clear hH
          have HB := Lib.hid (Below.refl wr.heap.size wr).drew
          generalize wr.drew = v0 at HB ⊢
          try simp only [List.setIfInBounds_toArray, List.set_cons_zero, List.set_cons_succ]
          refine Till.tL 0 [5, 6, 15] 20 (.slice A m d) (HS.out _ HB.out) ?_
          try simp only [Act.put, List.setIfInBounds_toArray, List.set_cons_zero, List.set_cons_succ]
          refine Till.tL 1 [3, 4, 5, 6, 15] 21 (.slice (some ⟨g, o, none⟩) N sc) (HS.out _ HB.out) ?_
          try simp only [Act.put, List.setIfInBounds_toArray, List.set_cons_zero, List.set_cons_succ]
          refine Till.one (i := 2) (by kernel_rfl) rfl (fun K hK => ?_)
          go_simp
          refine hK.out _ _ (fun _ => HS.out _ HB.out) ?_
          clear hK K
          try simp only [List.setIfInBounds_toArray, List.set_cons_zero, List.set_cons_succ]
          refine Till.one (i := 3) (by kernel_rfl) rfl (fun K hK => ?_)
          go_simp
          refine hK.out _ _ (fun _ => HS.out _ HB.out) ?_
          clear hK K
          try simp only [List.setIfInBounds_toArray, List.set_cons_zero, List.set_cons_succ]
          refine Till.tL 4 [5, 6, 15] 24 (.int .i64 (x : Nat)) (HS.out _ HB.out) ?_
          try simp only [Act.put, List.setIfInBounds_toArray, List.set_cons_zero, List.set_cons_succ]
          refine Till.one (i := 5) (by kernel_rfl) rfl (fun K hK => ?_)
          go_simp
          refine (HA.out _ HB.out).mono ?_
          rintro e v1 ⟨rfl, g⟩
          replace HB := Lib.hid (below_on HB.out g)
          clear g
          go_wp2_with fail
          refine hK.out _ _ (fun _ => HS.out _ HB.out) ?_
          clear hK K
          try simp only [List.setIfInBounds_toArray, List.set_cons_zero, List.set_cons_succ]
          refine Till.one (i := 6) (by kernel_rfl) rfl (fun K hK => ?_)
          go_simp
          refine hK.out _ _ (fun _ => HS.out _ HB.out) ?_
          clear hK K
          try simp only [List.setIfInBounds_toArray, List.set_cons_zero, List.set_cons_succ]
          refine Till.tL 7 [13, 14, 15] 27 (f.v) (HS.out _ HB.out) ?_
          try simp only [Act.put, List.setIfInBounds_toArray, List.set_cons_zero, List.set_cons_succ]
          refine Till.tL 8 [13, 14, 15] 28 (.slice XA f.rn xc) (HS.out _ HB.out) ?_
          try simp only [Act.put, List.setIfInBounds_toArray, List.set_cons_zero, List.set_cons_succ]
          refine Till.tL 9 [11, 12, 13, 14, 15] 29 (.slice (some ⟨g, o, none⟩) N sc) (HS.out _ HB.out) ?_
          try simp only [Act.put, List.setIfInBounds_toArray, List.set_cons_zero, List.set_cons_succ]
          refine Till.one (i := 10) (by kernel_rfl) rfl (fun K hK => ?_)
          go_simp
          refine hK.out _ _ (fun _ => HS.out _ HB.out) ?_
          clear hK K
          try simp only [List.setIfInBounds_toArray, List.set_cons_zero, List.set_cons_succ]
          refine Till.one (i := 11) (by kernel_rfl) rfl (fun K hK => ?_)
          go_simp
          refine hK.out _ _ (fun _ => HS.out _ HB.out) ?_
          clear hK K
          try simp only [List.setIfInBounds_toArray, List.set_cons_zero, List.set_cons_succ]
          refine Till.tL 12 [13, 14, 15] 32 (.int .i64 (x : Nat)) (HS.out _ HB.out) ?_
          try simp only [Act.put, List.setIfInBounds_toArray, List.set_cons_zero, List.set_cons_succ]
          refine Till.one (i := 13) (by kernel_rfl) rfl (fun K hK => ?_)
          go_simp
          refine (HR.out _ HB.out).mono ?_
          rintro e v2 ⟨rfl, g⟩
          replace HB := Lib.hid (below_on HB.out g)
          clear g
          go_wp2_with fail
          refine hK.out _ _ (fun _ => HS.out _ HB.out) ?_
          clear hK K
          try simp only [List.setIfInBounds_toArray, List.set_cons_zero, List.set_cons_succ]
          refine Till.one (i := 14) (by kernel_rfl) rfl (fun K hK => ?_)
          go_simp
          refine hK.out _ _ (fun _ => HS.out _ HB.out) ?_
          clear hK K
          try simp only [List.setIfInBounds_toArray, List.set_cons_zero, List.set_cons_succ]
          refine Till.one (i := 15) (by kernel_rfl) rfl (fun K hK => ?_)
          go_simp
          refine hK.out _ _ (fun h => absurd h (by simp)) ?_
          clear hK K
          try simp only [List.setIfInBounds_toArray, List.set_cons_zero, List.set_cons_succ]
          refine Till.done (by kernel_rfl) ?_ _
          have Ow4 := Lib.hid (own_keep Ow.out HB.out)
          have B4 := Lib.hid (B1.out.trans (HB.out.mono B1.out.size))
          go_wp2_with fail
          go_roundw
          case rel => exact ⟨j + 1, by go_num, by omega, by rw [alR_no Hx.out Hok.out]; exact Ow4.out, B4.out⟩
          case measure => simp [intOf]; omega
    · have hjN : j = N := by omega
      subst hjN
      have HF := Lib.hid (show alR f.n rs out ch j = ALR f.n rs out ch by unfold alR ALR; rw [← hNl, List.take_length])
      go_wp2_with fail
      go_ret
      exact ⟨_, rfl, by rw [← HF.out]; exact own_down Ow.out B2.out.size, below_on B2.out B1.out⟩
end Go.Proofs.Ytmfmpkihmadjmaa
