/- The reference: holds, all, one, none. -/
import Derived.Test.YtmfmpkihmadjmaaVy
namespace Go.Proofs.Ytmfmpkihmadjmaa
open Go.RowKit Go.Shelf
theorem ref_bit : ∀ s : Nat, s < 64 → ∀ x : Nat, x < 6 → bits .and .i64 ((s : Int) / 2 ^ x) 1 = (if s.testBit x then 1 else 0) := by decide +kernel
/-- Whether a literal holds in a set of options. -/
def litR (set : Nat) (l : Nat × Bool) : Bool := set.testBit l.1 == l.2
set_option maxRecDepth 100000 in
set_option maxHeartbeats 4000000 in
theorem holdsR_any (set x : Nat) (s : Bool) (w : World) (hx : x < 6) (hs : set < 64) :
    Calls Try.prog 68 #[.agg #[.int .i64 (x : Nat), .bool s], .int .i64 (set : Nat)] w fun e w' => e = .returned (.bool (litR set (x, s))) ∧ Below w.heap.size w w' := by
  have kx := (Below.refl w.heap.size w).alloc (Nat.le_refl _) (.cells #[.int .i64 (x : Nat), .bool s] 68)
  have P1 := Cells.new w #[.int .i64 (x : Nat), .bool s] 68
  obtain ⟨wm, hwm⟩ : ∃ u, w.alloc (.cells #[.int .i64 (x : Nat), .bool s] 68) = u := ⟨_, rfl⟩
  rw [hwm] at kx P1
  have B1 := Lib.hid kx
  have P1 := Lib.hid P1
  have HS := Lib.hid (fun w' (hb : Below wm.heap.size wm w') => (⟨(P1.out.keep hb).at_ 0, (P1.out.keep hb).at_ 1⟩ : w'.cell? ⟨w.heap.size, 0, none⟩ = some (.int .i64 (x : Nat)) ∧ w'.cell? ⟨w.heap.size, 1, none⟩ = some (.bool s)))
  have i0 : ¬ ((x : Int) < 0) := by omega
  have i1 : (0 : Int) ≤ (x : Int) := by omega
  have i2 : (x : Int) ≤ 64 := by omega
  have hZ := ref_bit set hs x hx
  obtain ⟨Y, hY⟩ : ∃ Y, (set : Int) / 2 ^ x = Y := ⟨_, rfl⟩
  rw [hY] at hZ
  clear kx
  by_cases hb : set.testBit x = true
  · have Hb := Lib.hid hb
    rw [if_pos hb] at hZ
    clear hb
    go_enter Try.func68, Try.ntmps68
    go_upto_region 1 with fail
    try rw [hwm]
    refine Till.begin 9 (fun w' => w'.cell? ⟨w.heap.size, 0, none⟩ = some (.int .i64 (x : Nat)) ∧ w'.cell? ⟨w.heap.size, 1, none⟩ = some (.bool s)) (by kernel_rfl) (HS.out _ (Below.refl _ _).drew) (fun hH => ?_)
    clear hH
    have HB := Lib.hid (Below.refl wm.heap.size wm).drew
    generalize wm.drew = v0 at HB ⊢
    try simp only [List.setIfInBounds_toArray, List.set_cons_zero, List.set_cons_succ]
    refine Till.tk 0 3 5 (.int .i64 (set : Nat)) (HS.out _ HB.out) ?_
    try simp only [Act.put, List.setIfInBounds_toArray, List.set_cons_zero, List.set_cons_succ]
    refine Till.tk 1 2 6 (.pointer (some ⟨w.heap.size, 0, none⟩)) (HS.out _ HB.out) ?_
    try simp only [Act.put, List.setIfInBounds_toArray, List.set_cons_zero, List.set_cons_succ]
    refine Till.tk 2 3 7 (.int .i64 (x : Nat)) (HS.out _ HB.out) ?_
    try simp only [Act.put, List.setIfInBounds_toArray, List.set_cons_zero, List.set_cons_succ]
    refine Till.tk 3 4 8 (.int .i64 Y) (HS.out _ HB.out) ?_
    try simp only [Act.put, List.setIfInBounds_toArray, List.set_cons_zero, List.set_cons_succ]
    refine Till.tk 4 5 9 (.int .i64 1) (HS.out _ HB.out) ?_
    try simp only [Act.put, List.setIfInBounds_toArray, List.set_cons_zero, List.set_cons_succ]
    refine Till.tk 5 8 10 (.bool true) (HS.out _ HB.out) ?_
    try simp only [Act.put, List.setIfInBounds_toArray, List.set_cons_zero, List.set_cons_succ]
    refine Till.one (i := 6) (by kernel_rfl) rfl (fun K hK => ?_)
    go_simp
    refine hK.out _ _ (fun _ => HS.out _ HB.out) ?_
    clear hK K
    try simp only [List.setIfInBounds_toArray, List.set_cons_zero, List.set_cons_succ]
    refine Till.tk 7 8 12 (.bool s) (HS.out _ HB.out) ?_
    try simp only [Act.put, List.setIfInBounds_toArray, List.set_cons_zero, List.set_cons_succ]
    refine Till.one (i := 8) (by kernel_rfl) rfl (fun K hK => ?_)
    go_simp
    refine hK.out _ _ (fun _ => HS.out _ HB.out) ?_
    clear hK K
    try simp only [List.setIfInBounds_toArray, List.set_cons_zero, List.set_cons_succ]
    refine Till.one (i := 9) (by kernel_rfl) rfl (fun K hK => ?_)
    go_simp
    refine hK.out _ _ (fun h => absurd h (by simp)) ?_
    clear hK K
    try simp only [List.setIfInBounds_toArray, List.set_cons_zero, List.set_cons_succ]
    refine Till.done (by kernel_rfl) ?_ _
    go_wp2_with fail
    go_ret
    refine ⟨?_, below_on B1.out HB.out⟩
    have h5 := Hb.out
    unfold litR
    rw [h5]
    cases s <;> rfl
  · have hb := Bool.eq_false_iff.2 hb
    have Hb := Lib.hid hb
    rw [hb, if_neg (by decide)] at hZ
    clear hb
    go_enter Try.func68, Try.ntmps68
    go_upto_region 1 with fail
    try rw [hwm]
    refine Till.begin 9 (fun w' => w'.cell? ⟨w.heap.size, 0, none⟩ = some (.int .i64 (x : Nat)) ∧ w'.cell? ⟨w.heap.size, 1, none⟩ = some (.bool s)) (by kernel_rfl) (HS.out _ (Below.refl _ _).drew) (fun hH => ?_)
    clear hH
    have HB := Lib.hid (Below.refl wm.heap.size wm).drew
    generalize wm.drew = v0 at HB ⊢
    try simp only [List.setIfInBounds_toArray, List.set_cons_zero, List.set_cons_succ]
    refine Till.tk 0 3 5 (.int .i64 (set : Nat)) (HS.out _ HB.out) ?_
    try simp only [Act.put, List.setIfInBounds_toArray, List.set_cons_zero, List.set_cons_succ]
    refine Till.tk 1 2 6 (.pointer (some ⟨w.heap.size, 0, none⟩)) (HS.out _ HB.out) ?_
    try simp only [Act.put, List.setIfInBounds_toArray, List.set_cons_zero, List.set_cons_succ]
    refine Till.tk 2 3 7 (.int .i64 (x : Nat)) (HS.out _ HB.out) ?_
    try simp only [Act.put, List.setIfInBounds_toArray, List.set_cons_zero, List.set_cons_succ]
    refine Till.tk 3 4 8 (.int .i64 Y) (HS.out _ HB.out) ?_
    try simp only [Act.put, List.setIfInBounds_toArray, List.set_cons_zero, List.set_cons_succ]
    refine Till.tk 4 5 9 (.int .i64 0) (HS.out _ HB.out) ?_
    try simp only [Act.put, List.setIfInBounds_toArray, List.set_cons_zero, List.set_cons_succ]
    refine Till.tk 5 8 10 (.bool false) (HS.out _ HB.out) ?_
    try simp only [Act.put, List.setIfInBounds_toArray, List.set_cons_zero, List.set_cons_succ]
    refine Till.one (i := 6) (by kernel_rfl) rfl (fun K hK => ?_)
    go_simp
    refine hK.out _ _ (fun _ => HS.out _ HB.out) ?_
    clear hK K
    try simp only [List.setIfInBounds_toArray, List.set_cons_zero, List.set_cons_succ]
    refine Till.tk 7 8 12 (.bool s) (HS.out _ HB.out) ?_
    try simp only [Act.put, List.setIfInBounds_toArray, List.set_cons_zero, List.set_cons_succ]
    refine Till.one (i := 8) (by kernel_rfl) rfl (fun K hK => ?_)
    go_simp
    refine hK.out _ _ (fun _ => HS.out _ HB.out) ?_
    clear hK K
    try simp only [List.setIfInBounds_toArray, List.set_cons_zero, List.set_cons_succ]
    refine Till.one (i := 9) (by kernel_rfl) rfl (fun K hK => ?_)
    go_simp
    refine hK.out _ _ (fun h => absurd h (by simp)) ?_
    clear hK K
    try simp only [List.setIfInBounds_toArray, List.set_cons_zero, List.set_cons_succ]
    refine Till.done (by kernel_rfl) ?_ _
    go_wp2_with fail
    go_ret
    refine ⟨?_, below_on B1.out HB.out⟩
    have h5 := Hb.out
    unfold litR
    rw [h5]
    cases s <;> rfl
set_option maxRecDepth 100000 in
set_option maxHeartbeats 4000000 in
theorem allR_any (A : Option Addr) (n c : Nat) (set : Nat) (ls : List (Nat × Bool)) (w : World) (h1 : LitL w A (lc ls)) (hn : ls.length = n) (hn2 : n ≤ 4611686018427387904) (hl : ∀ l ∈ ls, l.1 < 6) (hs : set < 64) :
    Calls Try.prog 47 #[.slice A n c, .int .i64 (set : Nat)] w fun e w' => e = .returned (.bool (ls.all (litR set))) ∧ Below w.heap.size w w' := by
  go_enter Try.func47, Try.ntmps47
  go_wp2_with fail
  go_loopw [5] (fun i wr => ∃ j : Nat, i = .int .i64 (j : Nat) ∧ j ≤ n ∧ Below w.heap.size w wr ∧ (ls.take j).all (litR set) = true) (fun i _ => n - (intOf i).toNat)
  case atStart => exact ⟨0, rfl, Nat.zero_le _, Below.refl _ _, rfl⟩
  case round =>
    obtain ⟨j, rfl, hj, hb, hpre⟩ := hrel
    have B1 := Lib.hid hb
    by_cases hlt : j < n
    · have Hlt := Lib.hid hlt
      obtain ⟨x0, b, o, hx0, rfl, _, hc1, hc2⟩ := (h1.keep hb).at_ (k := j) (by rw [lc_len]; omega)
      obtain ⟨x, s, hx, rfl⟩ := lc_at hx0
      have i1 : (j : Int) < (n : Int) := by omega
      have htk : (ls.take (j + 1)).all (litR set) = litR set (x, s) := by
        rw [List.take_add_one, hx, List.all_append, hpre]
        simp
      have Htk := Lib.hid htk
      have Hsp := Lib.hid (List.take_append_drop (j + 1) ls)
      have HH := holdsR_any set x s wr (hl _ (List.mem_of_getElem? hx)) hs
      obtain ⟨p, hp⟩ : ∃ p, litR set (x, s) = p := ⟨_, rfl⟩
      rw [hp] at HH
      have HH := Lib.hid HH
      have Hp := Lib.hid hp
      clear hpre h1 hx0 hx htk hp hb
      go_wp2_with fail
      refine HH.out.mono ?_
      rintro e w1 ⟨rfl, hb1⟩
      have B2 := Lib.hid (below_on B1.out hb1)
      clear hb1 hc1 hc2
      cases p
      · go_wp2_with fail
        go_ret
        refine ⟨?_, B2.out⟩
        rw [← Hsp.out, List.all_append, Htk.out, Hp.out]
        rfl
      · go_wp2_with fail
        go_roundw
        case rel => exact ⟨j + 1, by go_num, Hlt.out, B2.out, Htk.out.trans Hp.out⟩
        case measure => simp [intOf]; have := Hlt.out; omega
    · have hjn : j = n := by omega
      subst hjn
      rw [← hn, List.take_length] at hpre
      have HT := Lib.hid hpre
      clear hpre h1 hb
      go_wp2_with fail
      go_ret
      refine ⟨?_, B1.out⟩
      rw [HT.out]
      rfl
set_option maxRecDepth 100000 in
set_option maxHeartbeats 4000000 in
theorem oneR_any (A : Option Addr) (n c : Nat) (set : Nat) (ls : List (Nat × Bool)) (w : World) (h1 : LitL w A (lc ls)) (hn : ls.length = n) (hn2 : n ≤ 4611686018427387904) (hl : ∀ l ∈ ls, l.1 < 6) (hs : set < 64) :
    Calls Try.prog 43 #[.slice A n c, .int .i64 (set : Nat)] w fun e w' => e = .returned (.bool (ls.any (litR set))) ∧ Below w.heap.size w w' := by
  go_enter Try.func43, Try.ntmps43
  go_wp2_with fail
  go_loopw [5] (fun i wr => ∃ j : Nat, i = .int .i64 (j : Nat) ∧ j ≤ n ∧ Below w.heap.size w wr ∧ (ls.take j).any (litR set) = false) (fun i _ => n - (intOf i).toNat)
  case atStart => exact ⟨0, rfl, Nat.zero_le _, Below.refl _ _, rfl⟩
  case round =>
    obtain ⟨j, rfl, hj, hb, hpre⟩ := hrel
    have B1 := Lib.hid hb
    by_cases hlt : j < n
    · have Hlt := Lib.hid hlt
      obtain ⟨x0, b, o, hx0, rfl, _, hc1, hc2⟩ := (h1.keep hb).at_ (k := j) (by rw [lc_len]; omega)
      obtain ⟨x, s, hx, rfl⟩ := lc_at hx0
      have i1 : (j : Int) < (n : Int) := by omega
      have htk : (ls.take (j + 1)).any (litR set) = litR set (x, s) := by
        rw [List.take_add_one, hx, List.any_append, hpre]
        simp
      have Htk := Lib.hid htk
      have Hsp := Lib.hid (List.take_append_drop (j + 1) ls)
      have HH := holdsR_any set x s wr (hl _ (List.mem_of_getElem? hx)) hs
      obtain ⟨p, hp⟩ : ∃ p, litR set (x, s) = p := ⟨_, rfl⟩
      rw [hp] at HH
      have HH := Lib.hid HH
      have Hp := Lib.hid hp
      clear hpre h1 hx0 hx htk hp hb
      go_wp2_with fail
      refine HH.out.mono ?_
      rintro e w1 ⟨rfl, hb1⟩
      have B2 := Lib.hid (below_on B1.out hb1)
      clear hb1 hc1 hc2
      cases p
      · go_wp2_with fail
        go_roundw
        case rel => exact ⟨j + 1, by go_num, Hlt.out, B2.out, Htk.out.trans Hp.out⟩
        case measure => simp [intOf]; have := Hlt.out; omega
      · go_wp2_with fail
        go_ret
        refine ⟨?_, B2.out⟩
        rw [← Hsp.out, List.any_append, Htk.out, Hp.out]
        rfl
    · have hjn : j = n := by omega
      subst hjn
      rw [← hn, List.take_length] at hpre
      have HT := Lib.hid hpre
      clear hpre h1 hb
      go_wp2_with fail
      go_ret
      refine ⟨?_, B1.out⟩
      rw [HT.out]
      rfl
theorem info_bool : (Try.prog.info? 4).map (fun i => (i.zero, i.size, i.bytes)) = some (some (.bool false), 1, 1) := by kernel_rfl
set_option maxRecDepth 100000 in
set_option maxHeartbeats 4000000 in
theorem none_any (f : Fm) (w : World) (hn : f.rn ≤ 1000) :
    Calls Try.prog 17 #[f.v] w fun e w' => ∃ v, e = .returned v ∧ w'.ownsRow w.heap.size 4 1 v f.rn (List.replicate f.rn (.bool false)) ∧ Below w.heap.size w w' := by
  have k1 := (Below.refl w.heap.size w).alloc (Nat.le_refl _) (.cells f.cells 40)
  have P1 := Cells.new w f.cells 40
  obtain ⟨w1, hw1⟩ : ∃ u, w.alloc (.cells f.cells 40) = u := ⟨_, rfl⟩
  have hw1' : w.alloc (.cells #[.string f.nm, .slice f.PA f.pn f.pc, .slice f.IA f.iN f.ic, .slice f.DA f.dn f.dc, .slice f.KA f.kn f.kc, .slice f.QA f.qn f.qc, .slice f.OA f.n f.oc, .slice f.RA f.rn f.rc, .slice f.GA f.gn f.gc, .slice f.VA f.vn f.vc] 40) = w1 := hw1
  rw [hw1] at k1 P1
  have c0 := P1.at_ 0
  have c1 := P1.at_ 1
  have c2 := P1.at_ 2
  have c3 := P1.at_ 3
  have c4 := P1.at_ 4
  have c5 := P1.at_ 5
  have c6 := P1.at_ 6
  have c7 := P1.at_ 7
  have c8 := P1.at_ 8
  have c9 := P1.at_ 9
  simp only [List.getElem?_cons_zero, List.getElem?_cons_succ] at c0 c1 c2 c3 c4 c5 c6 c7 c8 c9
  obtain ⟨i0, hi, hz0, hz1, hz2⟩ := info_parts info_bool
  have K1 := Lib.hid k1
  have P1 := Lib.hid P1
  clear hw1 k1
  go_enter Try.func17, Try.ntmps17
  go_wp2_with (at_make; refine wpList_make_full _ rfl _ _ 49 rfl w1.heap.size 4 i0 (.bool false) 1 Try.underlying49 hi hz0 hz1 _ _ _ _ f.rn rfl rfl rfl rfl (by rw [hz2]; omega) (by unfold maxLen; omega) (Nat.le_refl _) ?_)
  intro w2 hown hgr
  have hm : (madeCells #[Value.bool false] f.rn).toList = List.replicate f.rn (.bool false) := by
    refine List.ext_getElem (by simp [madeCells]) fun i h1 h2 => ?_
    simp [madeCells, Nat.mod_one]
  rw [hm] at hown
  have OW := Lib.hid (own_down hown K1.out.size)
  have B2 := Lib.hid (below_on K1.out ((Below.refl w1.heap.size w1).grown hgr (Nat.le_refl _) (by simp)))
  clear hown hgr
  go_wp2_with fail
  go_ret
  exact ⟨_, rfl, OW.out, B2.out⟩
end Go.Proofs.Ytmfmpkihmadjmaa
