/- Liaisons: the parents of a hierarchy. -/
import Derived.Test.YtdpfoegcmngdfaaDoorLx
namespace Go.Proofs.YtdpfoegcmngdfaaDoor
open Go.RowKit
theorem GL.atS {w : World} {b o : Nat} {gs : List Grp} (h : GL w (some ⟨b, o, none⟩) gs) {k : Nat} {r : Grp} (hk : gs[k]? = some r) : ∃ P c, b < w.heap.size ∧ w.cell? ⟨b, o + k * 2, none⟩ = some (.string r.1) ∧ w.cell? ⟨b, o + k * 2 + 1, none⟩ = some (.slice P r.2.length c) ∧ IL w P r.2 := by
  obtain ⟨b', o', P, c, e, h1⟩ := h k r hk
  injection e with e
  injection e with e1 e2
  subst e1 e2
  exact ⟨P, c, h1⟩
def pI (m : Nat) (F : Nat → Int) : List Value := (List.range m).map fun i => .int .i64 (F i)
theorem pI_len (m : Nat) (F : Nat → Int) : (pI m F).length = m := by unfold pI; simp
theorem pI_at {m i : Nat} (F : Nat → Int) (h : i < m) : (pI m F)[i]? = some (.int .i64 (F i)) := by
  unfold pI; rw [List.getElem?_map, List.getElem?_range h]; rfl
theorem pI_congr {m : Nat} {F G : Nat → Int} (h : ∀ i, i < m → F i = G i) : pI m F = pI m G := by
  unfold pI; exact List.map_congr_left fun i hi => by rw [h i (List.mem_range.1 hi)]
theorem pI_set (m i : Nat) (F : Nat → Int) (v : Int) : (pI m F).set i (.int .i64 v) = pI m fun x => if x = i then v else F x := by
  apply List.ext_getElem?
  intro k
  rw [List.getElem?_set]
  by_cases hk : k < m
  · rw [pI_at _ hk, pI_at _ hk, pI_len]
    by_cases hi : i = k
    · subst hi; rw [if_pos rfl, if_pos hk, if_pos rfl]
    · rw [if_neg hi, if_neg (fun e => hi e.symm)]
  · rw [List.getElem?_eq_none (by rw [pI_len]; omega), List.getElem?_eq_none (by rw [pI_len]; omega), pI_len]
    split
    · rw [if_neg (by omega)]
    · rfl
theorem made_pI {w w1 : World} {n : Nat} (hown : w1.ownsRow w.heap.size 3 1 (.slice (some ⟨w.heap.size, 0, none⟩) n n) n (madeCells #[.int .i64 0] n).toList) : Cells w1 w.heap.size (pI n fun _ => 0) := by
  rcases hown.2 with ⟨h1, _⟩ | ⟨g', cap, cur, h1, hg, hh, hnc, hcm, hcs, hx⟩
  · cases h1
  · injection h1 with h1 _ h3
    injection h1 with h1
    injection h1 with h1
    subst h1 h3
    rw [List.take_of_length_le (by rw [Array.length_toList, hcs]; simp)] at hx
    have e : cur.toList = pI n fun _ => 0 := by
      rw [hx]
      apply List.ext_getElem?
      intro i
      by_cases hi : i < n
      · rw [pI_at _ hi]
        simp [madeCells, hi, Nat.mod_one]
      · rw [List.getElem?_eq_none (by simp [madeCells]; omega), List.getElem?_eq_none (by rw [pI_len]; omega)]
    rw [← e]
    exact Cells.of_row hh
def gAt (gs : List Grp) (k : Nat) : Grp := gs.getD k default
def parS (gs : List Grp) (i : Nat) : Nat → Int
  | 0 => -1
  | j + 1 => if insB (ofI (gAt gs i).2) (ofI (gAt gs j).2) && (decide (parS gs i j < 0) || decide ((gAt gs j).2.length < (gAt gs (parS gs i j).toNat).2.length)) then (j : Int) else parS gs i j
theorem parS_lt (gs : List Grp) (i : Nat) : ∀ j, parS gs i j = -1 ∨ ∃ y : Nat, parS gs i j = y ∧ y < j
  | 0 => .inl rfl
  | j + 1 => by
    rw [parS]
    split
    · exact .inr ⟨j, rfl, Nat.lt_succ_self j⟩
    · rcases parS_lt gs i j with h | ⟨y, h, hy⟩
      · exact .inl h
      · exact .inr ⟨y, h, Nat.lt_succ_of_lt hy⟩
def parF (gs : List Grp) (m i j : Nat) : Nat → Int := fun x => if x = i then parS gs i j else if x < i then parS gs x m else 0
def parO (gs : List Grp) (m i : Nat) : Nat → Int := fun x => if x < i then parS gs x m else 0
theorem parF_end (gs : List Grp) (m i : Nat) : parF gs m i m = parO gs m (i + 1) := by
  funext x
  unfold parF parO
  by_cases h : x = i
  · subst h; rw [if_pos rfl, if_pos (by omega)]
  · rw [if_neg h]
    by_cases h2 : x < i
    · rw [if_pos h2, if_pos (by omega)]
    · rw [if_neg h2, if_neg (by omega)]
theorem parF_set (gs : List Grp) (m i j : Nat) (v : Int) (h : parS gs i (j + 1) = v) : (pI m (parF gs m i j)).set i (.int .i64 v) = pI m (parF gs m i (j + 1)) := by
  rw [pI_set]
  refine pI_congr fun x _ => ?_
  unfold parF
  by_cases hx : x = i
  · rw [if_pos hx, if_pos hx, h]
  · rw [if_neg hx, if_neg hx, if_neg hx]
theorem parF_same (gs : List Grp) (m i j : Nat) (h : parS gs i (j + 1) = parS gs i j) : parF gs m i (j + 1) = parF gs m i j := by
  unfold parF; rw [h]
theorem parO_set (gs : List Grp) (m i : Nat) : (pI m (parO gs m i)).set i (.int .i64 (-1)) = pI m (parF gs m i 0) := by
  rw [pI_set]
  refine pI_congr fun x _ => ?_
  unfold parF parO parS
  rfl
set_option maxRecDepth 100000 in
set_option maxHeartbeats 8000000 in
theorem parents_bad (n : Int) (A : Option Addr) (m c : Nat) (gs : List Grp) (w : World) (h : GL w A gs) (hlen : gs.length = m) (hm : m ≤ 1000000) (hs : SmallG gs) (hmc : m ≤ c) (hb : grpsE n gs ≠ 0) :
    Calls Tryd.prog 33 #[.slice A m c, .int .i64 n] w fun e w' => e = .returned (.tuple #[.slice none 0 0, .int .i64 (grpsE n gs)]) ∧ Below w.heap.size w w' := by
  have HC := checkGroups_any n A m c gs w h hlen hm hs hmc
  obtain ⟨E, hE⟩ : ∃ E, grpsE n gs = E := ⟨_, rfl⟩
  rw [hE] at HC hb ⊢
  have HC := Lib.hid HC
  have t0 : (E != 0) = true := by simpa using hb
  clear h hlen hs hb hE
  go_enter Tryd.func33, Tryd.ntmps33
  go_wp2_with fail
  refine HC.out.mono ?_
  rintro e w2 ⟨rfl, hb2⟩
  have B2 := Lib.hid hb2
  clear hb2
  go_wp2_with fail
  go_ret2
  exact ⟨rfl, B2.out⟩
set_option maxRecDepth 100000 in
set_option maxHeartbeats 16000000 in
theorem parents_ok (n : Int) (A : Option Addr) (m c : Nat) (gs : List Grp) (w : World) (h : GL w A gs) (hlen : gs.length = m) (hm : m ≤ 1000000) (hs : SmallG gs) (hmc : m ≤ c) (hb : grpsE n gs = 0) :
    Calls Tryd.prog 33 #[.slice A m c, .int .i64 n] w fun e w' => ∃ g, e = .returned (.tuple #[.slice (some ⟨g, 0, none⟩) m m, .int .i64 0]) ∧ Cells w' g (pI m fun i => parS gs i m) ∧ Below w.heap.size w w' := by
  obtain ⟨i0, hi, hz0, hz1, hz2⟩ := info_parts info_int
  have HC := checkGroups_any n A m c gs w h hlen hm hs hmc
  rw [hb] at HC
  have HC := Lib.hid HC
  have E0 := Lib.hid h
  have Hlen := Lib.hid hlen
  have Hin := Lib.hid (show ∀ e ∈ gs, InG e.2 from by
    unfold grpsE at hb
    split at hb
    · cases hb
    · next h1 =>
      split at hb
      · cases hb
      · have := grps_in (firstE_ok hb) (n := n) (by omega) (fun e he => (hs e he).2)
        rwa [List.take_length] at this)
  clear h hlen hs hb
  go_enter Tryd.func33, Tryd.ntmps33
  go_wp2_with fail
  refine HC.out.mono ?_
  rintro e w2 ⟨rfl, hb2⟩
  have B2 := Lib.hid hb2
  have Hwg0 := Lib.hid hb2.size
  clear hb2
  go_wp2_with (at_make; refine wpList_make_full _ rfl _ _ 25 rfl w2.heap.size 3 i0 (.int .i64 0) 1 Tryd.underlying25 hi hz0 hz1 _ _ _ _ m rfl rfl rfl rfl (by rw [hz2]; omega) (by unfold maxLen; omega) (Nat.le_refl _) ?_)
  intro w3 hown hgr
  have b3 := Lib.hid (below_on B2.out ((Below.refl w2.heap.size w2).grown hgr (Nat.le_refl _) (by simp)))
  have I3 := Lib.hid (show Cells w3 w2.heap.size (pI m (parO gs m 0)) by
    have := made_pI hown
    rwa [pI_congr (G := parO gs m 0) (fun i _ => by unfold parO; rw [if_neg (Nat.not_lt_zero _)])] at this)
  clear hown hgr
  obtain ⟨g, hg⟩ : ∃ g, w2.heap.size = g := ⟨_, rfl⟩
  rw [hg] at I3 Hwg0 ⊢
  have Hwg := Hwg0
  clear hg Hwg0
  go_wp2_with fail
  go_loopw [23] (fun iv wr => ∃ i : Nat, iv = .int .i64 (i : Nat) ∧ i ≤ m ∧ Cells wr g (pI m (parO gs m i)) ∧ Below w.heap.size w wr) (fun iv _ => m - (intOf iv).toNat)
  case atStart => exact ⟨0, rfl, Nat.zero_le _, I3.out, b3.out⟩
  case round =>
    obtain ⟨i, rfl, him, hcg, hb4⟩ := hrel
    obtain ⟨wo, rfl⟩ : ∃ wo : World, wo = wr := ⟨_, rfl⟩
    have B4 := Lib.hid hb4
    have C4 := Lib.hid hcg
    clear hb4 hcg
    by_cases hi2 : i < m
    · obtain ⟨r, b, o, P, d, hr, rfl, hbl, c0', c1', hil⟩ := E0.out.at_ (k := i) (by rw [Hlen.out]; exact hi2)
      have Hr := Lib.hid hr
      have Hil := Lib.hid hil
      have c0 := (B4.out.cell (p := ⟨b, o + i * 2, none⟩) hbl).trans c0'
      have c1 := (B4.out.cell (p := ⟨b, o + i * 2 + 1, none⟩) hbl).trans c1'
      have kv := (Below.refl wo.heap.size wo).alloc (Nat.le_refl _) (.cells #[.string r.1, .slice P r.2.length d] 68)
      have P9 := Cells.new wo #[.string r.1, .slice P r.2.length d] 68
      have C5 := C4.out.keep kv
      have hgo := C4.out.lt
      have H9g := Lib.hid (show wo.heap.size ≠ g by omega)
      have x0 := C5.at_ i
      have f0 := C5.fz i
      rw [pI_at _ hi2] at x0
      have C6 := C5.set i (.int .i64 (-1)) (by rw [pI_len]; exact hi2)
      rw [parO_set] at C6
      have C6 := Lib.hid C6
      have P6 := Lib.hid (P9.other H9g.out i (.int .i64 (-1)))
      have W6 := Lib.hid ((B4.out.trans (kv.mono B4.out.size)).setCell (p := ⟨g, i, none⟩) Hwg.out (.int .i64 (-1)))
      have i9 : (i : Int) < (m : Int) := by omega
      obtain ⟨p9, hp9⟩ : ∃ p, wo.heap.size = p := ⟨_, rfl⟩
      rw [hp9] at H9g P6
      have Hp9 := Lib.hid hp9
      clear hr hil hbl c0' c1' kv P9 C5 hgo hp9
      go_wp2_with fail
      try simp only [Hp9.out]
      go_loopw [33] (fun jv wr => ∃ j : Nat, jv = .int .i64 (j : Nat) ∧ j ≤ m ∧ Cells wr g (pI m (parF gs m i j)) ∧ Cells wr p9 [.string r.1, .slice P r.2.length d] ∧ Below w.heap.size w wr) (fun jv _ => m - (intOf jv).toNat)
      case atStart => exact ⟨0, rfl, Nat.zero_le _, C6.out, P6.out, W6.out⟩
      case round =>
        clear x0 f0 c0 c1 C6 P6 W6
        obtain ⟨j, rfl, hj, hcg, hc9, hb5⟩ := hrel
        obtain ⟨wp, rfl⟩ : ∃ wp : World, wp = wr := ⟨_, rfl⟩
        have B5 := Lib.hid hb5
        have CG := Lib.hid hcg
        have C9 := Lib.hid hc9
        clear hb5 hcg hc9
        by_cases hltj : j < m
        · obtain ⟨x, hx⟩ : ∃ x, gs[j]? = some x := ⟨_, List.getElem?_eq_getElem (by rw [Hlen.out]; exact hltj)⟩
          obtain ⟨Px, dx, hbx, d0, d1, hilx⟩ := (E0.out.keep B5.out).atS hx
          have kv := (Below.refl wp.heap.size wp).alloc (Nat.le_refl _) (.cells #[.string x.1, .slice Px x.2.length dx] 68)
          have P0 := Cells.new wp #[.string x.1, .slice Px x.2.length dx] 68
          have B6 := Lib.hid (B5.out.trans (kv.mono B5.out.size))
          have CG6 := Lib.hid (CG.out.keep kv)
          have C96 := Lib.hid (C9.out.keep kv)
          have hilx2 := hilx.keep kv
          have hilr2 := Hil.out.keep B6.out
          have hg9 := C96.out.at_ 0
          have hg9' := C96.out.at_ 1
          have g0 := P0.at_ 0
          have g1 := P0.at_ 1
          simp only [List.getElem?_cons_zero, List.getElem?_cons_succ] at g0 g1 hg9 hg9'
          have hgi := CG6.out.at_ i
          rw [pI_at _ hi2] at hgi
          have hpf : parF gs m i j i = parS gs i j := by unfold parF; rw [if_pos rfl]
          rw [hpf] at hgi
          obtain ⟨wm, hwm⟩ : ∃ u, wp.alloc (.cells #[.string x.1, .slice Px x.2.length dx] 68) = u := ⟨_, rfl⟩
          have hz : wp.heap.size < wm.heap.size := by rw [← hwm]; simp
          have Hwm := Lib.hid hwm
          rw [hwm] at g0 g1 hg9 hg9' hgi hilx2 hilr2 B6 CG6 C96
          have HK := fun w' (hb : Below wm.heap.size wm w') => inside_any r.1 x.1 P Px d dx r.2 x.2 w' (hilr2.keep hb) (Hin.out r (List.mem_of_getElem? Hr.out)) (hilx2.keep hb) (Hin.out x (List.mem_of_getElem? hx))
          have hstep : parS gs i (j + 1) = if insB (ofI r.2) (ofI x.2) && (decide (parS gs i j < 0) || decide (x.2.length < (gAt gs (parS gs i j).toNat).2.length)) then (j : Int) else parS gs i j := by
            rw [parS]; unfold gAt; rw [grp_get Hr.out, grp_get hx]
          obtain ⟨q, hq⟩ : ∃ q, insB (ofI r.2) (ofI x.2) = q := ⟨_, rfl⟩
          rw [hq] at HK hstep
          have HK := Lib.hid HK
          have L9 := Lib.hid C96.out.lt
          have LG := Lib.hid CG6.out.lt
          clear hx hbx hilx kv P0 hilx2 hilr2 hpf hq hwm
          cases q
          · have Hst := Lib.hid (show parS gs i (j + 1) = parS gs i j by rw [hstep]; rfl)
            clear hstep
            have HS := Lib.hid (fun w' (hb : Below wm.heap.size wm w') => (⟨(hb.cell (p := ⟨p9, 0, none⟩) L9.out).trans hg9, (hb.cell (p := ⟨p9, 1, none⟩) L9.out).trans hg9', (hb.cell (p := ⟨wp.heap.size, 0, none⟩) hz).trans g0, (hb.cell (p := ⟨wp.heap.size, 1, none⟩) hz).trans g1⟩ : w'.cell? ⟨p9, 0, none⟩ = some (.string r.1) ∧ w'.cell? ⟨p9, 1, none⟩ = some (.slice P r.2.length d) ∧ w'.cell? ⟨wp.heap.size, 0, none⟩ = some (.string x.1) ∧ w'.cell? ⟨wp.heap.size, 1, none⟩ = some (.slice Px x.2.length dx)))
            clear hz g0 g1 hg9 hg9' hgi
            go_upto_region 12 with fail
            simp only [Hwm.out]
            clear d0 d1
            refine Till.begin 24 (fun w' => w'.cell? ⟨p9, 0, none⟩ = some (.string r.1) ∧ w'.cell? ⟨p9, 1, none⟩ = some (.slice P r.2.length d) ∧ w'.cell? ⟨wp.heap.size, 0, none⟩ = some (.string x.1) ∧ w'.cell? ⟨wp.heap.size, 1, none⟩ = some (.slice Px x.2.length dx)) (by kernel_rfl) (HS.out _ (Below.refl _ _).drew) (fun hH => ?_)
            clear hH
            have HB := Lib.hid (Below.refl wm.heap.size wm).drew
            generalize wm.drew = v0 at HB ⊢
            try simp only [List.setIfInBounds_toArray, List.set_cons_zero, List.set_cons_succ]
            refine Till.tL 0 [2, 3, 24] 38 (.agg #[.string r.1, .slice P r.2.length d]) (HS.out _ HB.out) ?_
            try simp only [Act.put, List.setIfInBounds_toArray, List.set_cons_zero, List.set_cons_succ]
            refine Till.tL 1 [2, 3, 24] 39 (.agg #[.string x.1, .slice Px x.2.length dx]) (HS.out _ HB.out) ?_
            try simp only [Act.put, List.setIfInBounds_toArray, List.set_cons_zero, List.set_cons_succ]
            refine Till.one (i := 2) (by kernel_rfl) rfl (fun K hK => ?_)
            go_simp
            refine (HK.out _ HB.out).mono ?_
            rintro e v1 ⟨rfl, g9⟩
            replace HB := Lib.hid (below_on HB.out g9)
            clear g9
            go_wp2_with fail
            refine hK.out _ _ (fun _ => HS.out _ HB.out) ?_
            clear hK K
            try simp only [List.setIfInBounds_toArray, List.set_cons_zero, List.set_cons_succ]
            refine Till.one (i := 3) (by kernel_rfl) rfl (fun K hK => ?_)
            go_simp
            refine hK.out _ _ (fun _ => HS.out _ HB.out) ?_
            clear hK K
            try simp only [List.setIfInBounds_toArray, List.set_cons_zero, List.set_cons_succ]
            refine Till.sL 4 [6, 7, 8, 9, 23, 24] 42 (HS.out _ HB.out) ?_
            try simp only [Act.put, List.setIfInBounds_toArray, List.set_cons_zero, List.set_cons_succ]
            refine Till.one (i := 5) (by kernel_rfl) rfl (fun K hK => ?_)
            go_simp
            refine hK.out _ _ (fun _ => HS.out _ HB.out) ?_
            clear hK K
            try simp only [List.setIfInBounds_toArray, List.set_cons_zero, List.set_cons_succ]
            refine Till.one (i := 6) (by kernel_rfl) rfl (fun K hK => ?_)
            go_simp
            refine hK.out _ _ (fun _ => HS.out _ HB.out) ?_
            clear hK K
            try simp only [List.setIfInBounds_toArray, List.set_cons_zero, List.set_cons_succ]
            refine Till.one (i := 7) (by kernel_rfl) rfl (fun K hK => ?_)
            go_simp
            refine hK.out _ _ (fun _ => HS.out _ HB.out) ?_
            clear hK K
            try simp only [List.setIfInBounds_toArray, List.set_cons_zero, List.set_cons_succ]
            refine Till.one (i := 8) (by kernel_rfl) rfl (fun K hK => ?_)
            go_simp
            refine hK.out _ _ (fun _ => HS.out _ HB.out) ?_
            clear hK K
            try simp only [List.setIfInBounds_toArray, List.set_cons_zero, List.set_cons_succ]
            refine Till.one (i := 9) (by kernel_rfl) rfl (fun K hK => ?_)
            go_simp
            refine hK.out _ _ (fun _ => HS.out _ HB.out) ?_
            clear hK K
            try simp only [List.setIfInBounds_toArray, List.set_cons_zero, List.set_cons_succ]
            refine Till.sL 10 [11, 12, 22, 23, 24] 48 (HS.out _ HB.out) ?_
            try simp only [Act.put, List.setIfInBounds_toArray, List.set_cons_zero, List.set_cons_succ]
            refine Till.sL 11 [12, 22, 23, 24] 49 (HS.out _ HB.out) ?_
            try simp only [Act.put, List.setIfInBounds_toArray, List.set_cons_zero, List.set_cons_succ]
            refine Till.sL 12 [22, 23, 24] 50 (HS.out _ HB.out) ?_
            try simp only [Act.put, List.setIfInBounds_toArray, List.set_cons_zero, List.set_cons_succ]
            refine Till.sL 13 [18, 19, 20, 21, 22, 23, 24] 51 (HS.out _ HB.out) ?_
            try simp only [Act.put, List.setIfInBounds_toArray, List.set_cons_zero, List.set_cons_succ]
            refine Till.sL 14 [16, 17, 18, 19, 20, 21, 22, 23, 24] 52 (HS.out _ HB.out) ?_
            try simp only [Act.put, List.setIfInBounds_toArray, List.set_cons_zero, List.set_cons_succ]
            refine Till.one (i := 15) (by kernel_rfl) rfl (fun K hK => ?_)
            go_simp
            refine hK.out _ _ (fun _ => HS.out _ HB.out) ?_
            clear hK K
            try simp only [List.setIfInBounds_toArray, List.set_cons_zero, List.set_cons_succ]
            refine Till.one (i := 16) (by kernel_rfl) rfl (fun K hK => ?_)
            go_simp
            refine hK.out _ _ (fun _ => HS.out _ HB.out) ?_
            clear hK K
            try simp only [List.setIfInBounds_toArray, List.set_cons_zero, List.set_cons_succ]
            refine Till.one (i := 17) (by kernel_rfl) rfl (fun K hK => ?_)
            go_simp
            refine hK.out _ _ (fun _ => HS.out _ HB.out) ?_
            clear hK K
            try simp only [List.setIfInBounds_toArray, List.set_cons_zero, List.set_cons_succ]
            refine Till.one (i := 18) (by kernel_rfl) rfl (fun K hK => ?_)
            go_simp
            refine hK.out _ _ (fun _ => HS.out _ HB.out) ?_
            clear hK K
            try simp only [List.setIfInBounds_toArray, List.set_cons_zero, List.set_cons_succ]
            refine Till.one (i := 19) (by kernel_rfl) rfl (fun K hK => ?_)
            go_simp
            refine hK.out _ _ (fun _ => HS.out _ HB.out) ?_
            clear hK K
            try simp only [List.setIfInBounds_toArray, List.set_cons_zero, List.set_cons_succ]
            refine Till.one (i := 20) (by kernel_rfl) rfl (fun K hK => ?_)
            go_simp
            refine hK.out _ _ (fun _ => HS.out _ HB.out) ?_
            clear hK K
            try simp only [List.setIfInBounds_toArray, List.set_cons_zero, List.set_cons_succ]
            refine Till.one (i := 21) (by kernel_rfl) rfl (fun K hK => ?_)
            go_simp
            refine hK.out _ _ (fun _ => HS.out _ HB.out) ?_
            clear hK K
            try simp only [List.setIfInBounds_toArray, List.set_cons_zero, List.set_cons_succ]
            refine Till.one (i := 22) (by kernel_rfl) rfl (fun K hK => ?_)
            go_simp
            refine hK.out _ _ (fun _ => HS.out _ HB.out) ?_
            clear hK K
            try simp only [List.setIfInBounds_toArray, List.set_cons_zero, List.set_cons_succ]
            refine Till.one (i := 23) (by kernel_rfl) rfl (fun K hK => ?_)
            go_simp
            refine hK.out _ _ (fun _ => HS.out _ HB.out) ?_
            clear hK K
            try simp only [List.setIfInBounds_toArray, List.set_cons_zero, List.set_cons_succ]
            refine Till.one (i := 24) (by kernel_rfl) rfl (fun K hK => ?_)
            go_simp
            refine hK.out _ _ (fun h => absurd h (by simp)) ?_
            clear hK K
            try simp only [List.setIfInBounds_toArray, List.set_cons_zero, List.set_cons_succ]
            refine Till.done (by kernel_rfl) ?_ _
            have B7 := Lib.hid (B6.out.trans (HB.out.mono B6.out.size))
            have CG7 := Lib.hid (CG6.out.keep HB.out)
            have C97 := Lib.hid (C96.out.keep HB.out)
            have CG8 := Lib.hid (show Cells _ g (pI m (parF gs m i (j + 1))) by rw [parF_same gs m i j Hst.out]; exact CG7.out)
            go_wp2_with fail
            go_roundw
            case rel => exact ⟨j + 1, by go_num, by omega, CG8.out, C97.out, B7.out⟩
            case measure => simp [intOf]; omega
          · rcases parS_lt gs i j with hp | ⟨y, hp, hy⟩
            · rw [hp] at hstep hgi
              have Hst := Lib.hid (show parS gs i (j + 1) = (j : Int) by rw [hstep]; rfl)
              have i9 : (i : Int) < (m : Int) := by omega
              clear hstep hp
              have HS := Lib.hid (fun w' (hb : Below wm.heap.size wm w') => (⟨(hb.cell (p := ⟨p9, 0, none⟩) L9.out).trans hg9, (hb.cell (p := ⟨p9, 1, none⟩) L9.out).trans hg9', (hb.cell (p := ⟨wp.heap.size, 0, none⟩) hz).trans g0, (hb.cell (p := ⟨wp.heap.size, 1, none⟩) hz).trans g1, (hb.cell (p := ⟨g, i, none⟩) LG.out).trans hgi⟩ : w'.cell? ⟨p9, 0, none⟩ = some (.string r.1) ∧ w'.cell? ⟨p9, 1, none⟩ = some (.slice P r.2.length d) ∧ w'.cell? ⟨wp.heap.size, 0, none⟩ = some (.string x.1) ∧ w'.cell? ⟨wp.heap.size, 1, none⟩ = some (.slice Px x.2.length dx) ∧ w'.cell? ⟨g, i, none⟩ = some (.int .i64 (-1))))
              clear hz g0 g1 hg9 hg9' hgi
              go_upto_region 12 with fail
              simp only [Hwm.out]
              clear d0 d1
              refine Till.begin 24 (fun w' => w'.cell? ⟨p9, 0, none⟩ = some (.string r.1) ∧ w'.cell? ⟨p9, 1, none⟩ = some (.slice P r.2.length d) ∧ w'.cell? ⟨wp.heap.size, 0, none⟩ = some (.string x.1) ∧ w'.cell? ⟨wp.heap.size, 1, none⟩ = some (.slice Px x.2.length dx) ∧ w'.cell? ⟨g, i, none⟩ = some (.int .i64 (-1))) (by kernel_rfl) (HS.out _ (Below.refl _ _).drew) (fun hH => ?_)
              clear hH
              have HB := Lib.hid (Below.refl wm.heap.size wm).drew
              generalize wm.drew = v0 at HB ⊢
              try simp only [List.setIfInBounds_toArray, List.set_cons_zero, List.set_cons_succ]
              refine Till.tL 0 [2, 3, 24] 38 (.agg #[.string r.1, .slice P r.2.length d]) (HS.out _ HB.out) ?_
              try simp only [Act.put, List.setIfInBounds_toArray, List.set_cons_zero, List.set_cons_succ]
              refine Till.tL 1 [2, 3, 24] 39 (.agg #[.string x.1, .slice Px x.2.length dx]) (HS.out _ HB.out) ?_
              try simp only [Act.put, List.setIfInBounds_toArray, List.set_cons_zero, List.set_cons_succ]
              refine Till.one (i := 2) (by kernel_rfl) rfl (fun K hK => ?_)
              go_simp
              refine (HK.out _ HB.out).mono ?_
              rintro e v1 ⟨rfl, g9⟩
              replace HB := Lib.hid (below_on HB.out g9)
              clear g9
              go_wp2_with fail
              refine hK.out _ _ (fun _ => HS.out _ HB.out) ?_
              clear hK K
              try simp only [List.setIfInBounds_toArray, List.set_cons_zero, List.set_cons_succ]
              refine Till.one (i := 3) (by kernel_rfl) rfl (fun K hK => ?_)
              go_simp
              refine hK.out _ _ (fun _ => HS.out _ HB.out) ?_
              clear hK K
              try simp only [List.setIfInBounds_toArray, List.set_cons_zero, List.set_cons_succ]
              refine Till.tL 4 [6, 7, 8, 9, 23, 24] 42 (.slice (some ⟨g, 0, none⟩) m m) (HS.out _ HB.out) ?_
              try simp only [Act.put, List.setIfInBounds_toArray, List.set_cons_zero, List.set_cons_succ]
              refine Till.one (i := 5) (by kernel_rfl) rfl (fun K hK => ?_)
              go_simp
              refine hK.out _ _ (fun _ => HS.out _ HB.out) ?_
              clear hK K
              try simp only [List.setIfInBounds_toArray, List.set_cons_zero, List.set_cons_succ]
              refine Till.one (i := 6) (by kernel_rfl) rfl (fun K hK => ?_)
              go_simp
              refine hK.out _ _ (fun _ => HS.out _ HB.out) ?_
              clear hK K
              try simp only [List.setIfInBounds_toArray, List.set_cons_zero, List.set_cons_succ]
              refine Till.tL 7 [8, 9, 23, 24] 45 (.int .i64 (-1)) (HS.out _ HB.out) ?_
              try simp only [Act.put, List.setIfInBounds_toArray, List.set_cons_zero, List.set_cons_succ]
              refine Till.one (i := 8) (by kernel_rfl) rfl (fun K hK => ?_)
              go_simp
              refine hK.out _ _ (fun _ => HS.out _ HB.out) ?_
              clear hK K
              try simp only [List.setIfInBounds_toArray, List.set_cons_zero, List.set_cons_succ]
              refine Till.one (i := 9) (by kernel_rfl) rfl (fun K hK => ?_)
              go_simp
              refine hK.out _ _ (fun _ => HS.out _ HB.out) ?_
              clear hK K
              try simp only [List.setIfInBounds_toArray, List.set_cons_zero, List.set_cons_succ]
              refine Till.sL 10 [11, 12, 22, 23, 24] 48 (HS.out _ HB.out) ?_
              try simp only [Act.put, List.setIfInBounds_toArray, List.set_cons_zero, List.set_cons_succ]
              refine Till.sL 11 [12, 22, 23, 24] 49 (HS.out _ HB.out) ?_
              try simp only [Act.put, List.setIfInBounds_toArray, List.set_cons_zero, List.set_cons_succ]
              refine Till.sL 12 [22, 23, 24] 50 (HS.out _ HB.out) ?_
              try simp only [Act.put, List.setIfInBounds_toArray, List.set_cons_zero, List.set_cons_succ]
              refine Till.sL 13 [18, 19, 20, 21, 22, 23, 24] 51 (HS.out _ HB.out) ?_
              try simp only [Act.put, List.setIfInBounds_toArray, List.set_cons_zero, List.set_cons_succ]
              refine Till.sL 14 [16, 17, 18, 19, 20, 21, 22, 23, 24] 52 (HS.out _ HB.out) ?_
              try simp only [Act.put, List.setIfInBounds_toArray, List.set_cons_zero, List.set_cons_succ]
              refine Till.one (i := 15) (by kernel_rfl) rfl (fun K hK => ?_)
              go_simp
              refine hK.out _ _ (fun _ => HS.out _ HB.out) ?_
              clear hK K
              try simp only [List.setIfInBounds_toArray, List.set_cons_zero, List.set_cons_succ]
              refine Till.one (i := 16) (by kernel_rfl) rfl (fun K hK => ?_)
              go_simp
              refine hK.out _ _ (fun _ => HS.out _ HB.out) ?_
              clear hK K
              try simp only [List.setIfInBounds_toArray, List.set_cons_zero, List.set_cons_succ]
              refine Till.one (i := 17) (by kernel_rfl) rfl (fun K hK => ?_)
              go_simp
              refine hK.out _ _ (fun _ => HS.out _ HB.out) ?_
              clear hK K
              try simp only [List.setIfInBounds_toArray, List.set_cons_zero, List.set_cons_succ]
              refine Till.one (i := 18) (by kernel_rfl) rfl (fun K hK => ?_)
              go_simp
              refine hK.out _ _ (fun _ => HS.out _ HB.out) ?_
              clear hK K
              try simp only [List.setIfInBounds_toArray, List.set_cons_zero, List.set_cons_succ]
              refine Till.one (i := 19) (by kernel_rfl) rfl (fun K hK => ?_)
              go_simp
              refine hK.out _ _ (fun _ => HS.out _ HB.out) ?_
              clear hK K
              try simp only [List.setIfInBounds_toArray, List.set_cons_zero, List.set_cons_succ]
              refine Till.one (i := 20) (by kernel_rfl) rfl (fun K hK => ?_)
              go_simp
              refine hK.out _ _ (fun _ => HS.out _ HB.out) ?_
              clear hK K
              try simp only [List.setIfInBounds_toArray, List.set_cons_zero, List.set_cons_succ]
              refine Till.one (i := 21) (by kernel_rfl) rfl (fun K hK => ?_)
              go_simp
              refine hK.out _ _ (fun _ => HS.out _ HB.out) ?_
              clear hK K
              try simp only [List.setIfInBounds_toArray, List.set_cons_zero, List.set_cons_succ]
              refine Till.one (i := 22) (by kernel_rfl) rfl (fun K hK => ?_)
              go_simp
              refine hK.out _ _ (fun _ => HS.out _ HB.out) ?_
              clear hK K
              try simp only [List.setIfInBounds_toArray, List.set_cons_zero, List.set_cons_succ]
              refine Till.one (i := 23) (by kernel_rfl) rfl (fun K hK => ?_)
              go_simp
              refine hK.out _ _ (fun _ => HS.out _ HB.out) ?_
              clear hK K
              try simp only [List.setIfInBounds_toArray, List.set_cons_zero, List.set_cons_succ]
              refine Till.one (i := 24) (by kernel_rfl) rfl (fun K hK => ?_)
              go_simp
              refine hK.out _ _ (fun h => absurd h (by simp)) ?_
              clear hK K
              try simp only [List.setIfInBounds_toArray, List.set_cons_zero, List.set_cons_succ]
              refine Till.done (by kernel_rfl) ?_ _
              have B7 := Lib.hid (B6.out.trans (HB.out.mono B6.out.size))
              have CG7 := Lib.hid (CG6.out.keep HB.out)
              have C97 := Lib.hid (C96.out.keep HB.out)
              have x0 := CG7.out.at_ i
              have f0 := CG7.out.fz i
              rw [pI_at _ hi2] at x0
              have CG8 := Lib.hid (show Cells _ g (pI m (parF gs m i (j + 1))) by rw [← parF_set gs m i j (j : Int) Hst.out]; exact CG7.out.set i (.int .i64 (j : Nat)) (by rw [pI_len]; exact hi2))
              have C98 := Lib.hid (C97.out.other H9g.out i (.int .i64 (j : Nat)))
              have B8 := Lib.hid (B7.out.setCell (p := ⟨g, i, none⟩) Hwg.out (.int .i64 (j : Nat)))
              have ij0 : (i : Int) < (m : Int) := by omega
              go_wp2_with fail
              go_roundw
              case rel => exact ⟨j + 1, by go_num, by omega, CG8.out, C98.out, B8.out⟩
              case measure => simp [intOf]; omega
            · obtain ⟨ry, hry⟩ : ∃ x, gs[y]? = some x := ⟨_, List.getElem?_eq_getElem (by rw [Hlen.out]; omega)⟩
              obtain ⟨Py, dy, hby, _, hcy, _⟩ := (E0.out.keep B6.out).atS hry
              have hgy : gAt gs y = ry := grp_get hry
              rw [hp] at hstep hgi
              rw [Int.toNat_natCast, hgy] at hstep
              have hneg : decide ((y : Int) < 0) = false := decide_eq_false (by omega)
              rw [hneg] at hstep
              have i8 : (y : Int) < (m : Int) := by omega
              have i9 : (i : Int) < (m : Int) := by omega
              have i7 : ¬ (y : Int) < 0 := by omega
              have hp2 := Lib.hid hp
              clear hp hgy hry
              by_cases hsh : x.2.length < ry.2.length
              · have ts : decide (x.2.length < ry.2.length) = true := decide_eq_true hsh
                have ts2 : decide ((x.2.length : Int) < (ry.2.length : Int)) = true := decide_eq_true (by omega)
                have Hst := Lib.hid (show parS gs i (j + 1) = (j : Int) by rw [hstep, ts]; rfl)
                clear hstep hsh
                have HS := Lib.hid (fun w' (hb : Below wm.heap.size wm w') => (⟨(hb.cell (p := ⟨p9, 0, none⟩) L9.out).trans hg9, (hb.cell (p := ⟨p9, 1, none⟩) L9.out).trans hg9', (hb.cell (p := ⟨wp.heap.size, 0, none⟩) hz).trans g0, (hb.cell (p := ⟨wp.heap.size, 1, none⟩) hz).trans g1, (hb.cell (p := ⟨g, i, none⟩) LG.out).trans hgi, (hb.cell (p := ⟨b, o + y * 2 + 1, none⟩) hby).trans hcy⟩ : w'.cell? ⟨p9, 0, none⟩ = some (.string r.1) ∧ w'.cell? ⟨p9, 1, none⟩ = some (.slice P r.2.length d) ∧ w'.cell? ⟨wp.heap.size, 0, none⟩ = some (.string x.1) ∧ w'.cell? ⟨wp.heap.size, 1, none⟩ = some (.slice Px x.2.length dx) ∧ w'.cell? ⟨g, i, none⟩ = some (.int .i64 (y : Nat)) ∧ w'.cell? ⟨b, o + y * 2 + 1, none⟩ = some (.slice Py ry.2.length dy)))
                clear hz g0 g1 hg9 hg9' hgi
                go_upto_region 12 with fail
                simp only [Hwm.out]
                clear d0 d1
                refine Till.begin 24 (fun w' => w'.cell? ⟨p9, 0, none⟩ = some (.string r.1) ∧ w'.cell? ⟨p9, 1, none⟩ = some (.slice P r.2.length d) ∧ w'.cell? ⟨wp.heap.size, 0, none⟩ = some (.string x.1) ∧ w'.cell? ⟨wp.heap.size, 1, none⟩ = some (.slice Px x.2.length dx) ∧ w'.cell? ⟨g, i, none⟩ = some (.int .i64 (y : Nat)) ∧ w'.cell? ⟨b, o + y * 2 + 1, none⟩ = some (.slice Py ry.2.length dy)) (by kernel_rfl) (HS.out _ (Below.refl _ _).drew) (fun hH => ?_)
                clear hH
                have HB := Lib.hid (Below.refl wm.heap.size wm).drew
                generalize wm.drew = v0 at HB ⊢
                try simp only [List.setIfInBounds_toArray, List.set_cons_zero, List.set_cons_succ]
                refine Till.tL 0 [2, 3, 24] 38 (.agg #[.string r.1, .slice P r.2.length d]) (HS.out _ HB.out) ?_
                try simp only [Act.put, List.setIfInBounds_toArray, List.set_cons_zero, List.set_cons_succ]
                refine Till.tL 1 [2, 3, 24] 39 (.agg #[.string x.1, .slice Px x.2.length dx]) (HS.out _ HB.out) ?_
                try simp only [Act.put, List.setIfInBounds_toArray, List.set_cons_zero, List.set_cons_succ]
                refine Till.one (i := 2) (by kernel_rfl) rfl (fun K hK => ?_)
                go_simp
                refine (HK.out _ HB.out).mono ?_
                rintro e v1 ⟨rfl, g9⟩
                replace HB := Lib.hid (below_on HB.out g9)
                clear g9
                go_wp2_with fail
                refine hK.out _ _ (fun _ => HS.out _ HB.out) ?_
                clear hK K
                try simp only [List.setIfInBounds_toArray, List.set_cons_zero, List.set_cons_succ]
                refine Till.one (i := 3) (by kernel_rfl) rfl (fun K hK => ?_)
                go_simp
                refine hK.out _ _ (fun _ => HS.out _ HB.out) ?_
                clear hK K
                try simp only [List.setIfInBounds_toArray, List.set_cons_zero, List.set_cons_succ]
                refine Till.tL 4 [6, 7, 8, 9, 23, 24] 42 (.slice (some ⟨g, 0, none⟩) m m) (HS.out _ HB.out) ?_
                try simp only [Act.put, List.setIfInBounds_toArray, List.set_cons_zero, List.set_cons_succ]
                refine Till.one (i := 5) (by kernel_rfl) rfl (fun K hK => ?_)
                go_simp
                refine hK.out _ _ (fun _ => HS.out _ HB.out) ?_
                clear hK K
                try simp only [List.setIfInBounds_toArray, List.set_cons_zero, List.set_cons_succ]
                refine Till.one (i := 6) (by kernel_rfl) rfl (fun K hK => ?_)
                go_simp
                refine hK.out _ _ (fun _ => HS.out _ HB.out) ?_
                clear hK K
                try simp only [List.setIfInBounds_toArray, List.set_cons_zero, List.set_cons_succ]
                refine Till.tL 7 [8, 9, 23, 24] 45 (.int .i64 (y : Nat)) (HS.out _ HB.out) ?_
                try simp only [Act.put, List.setIfInBounds_toArray, List.set_cons_zero, List.set_cons_succ]
                refine Till.one (i := 8) (by kernel_rfl) rfl (fun K hK => ?_)
                go_simp
                refine hK.out _ _ (fun _ => HS.out _ HB.out) ?_
                clear hK K
                try simp only [List.setIfInBounds_toArray, List.set_cons_zero, List.set_cons_succ]
                refine Till.one (i := 9) (by kernel_rfl) rfl (fun K hK => ?_)
                go_simp
                refine hK.out _ _ (fun _ => HS.out _ HB.out) ?_
                clear hK K
                try simp only [List.setIfInBounds_toArray, List.set_cons_zero, List.set_cons_succ]
                refine Till.tL 10 [11, 12, 22, 23, 24] 48 (.pointer (some ⟨wp.heap.size, 1, none⟩)) (HS.out _ HB.out) ?_
                try simp only [Act.put, List.setIfInBounds_toArray, List.set_cons_zero, List.set_cons_succ]
                refine Till.tL 11 [12, 22, 23, 24] 49 (.slice Px x.2.length dx) (HS.out _ HB.out) ?_
                try simp only [Act.put, List.setIfInBounds_toArray, List.set_cons_zero, List.set_cons_succ]
                refine Till.tL 12 [22, 23, 24] 50 (.int .i64 (x.2.length : Nat)) (HS.out _ HB.out) ?_
                try simp only [Act.put, List.setIfInBounds_toArray, List.set_cons_zero, List.set_cons_succ]
                refine Till.tL 13 [18, 19, 20, 21, 22, 23, 24] 51 (.slice (some ⟨b, o, none⟩) m c) (HS.out _ HB.out) ?_
                try simp only [Act.put, List.setIfInBounds_toArray, List.set_cons_zero, List.set_cons_succ]
                refine Till.tL 14 [16, 17, 18, 19, 20, 21, 22, 23, 24] 52 (.slice (some ⟨g, 0, none⟩) m m) (HS.out _ HB.out) ?_
                try simp only [Act.put, List.setIfInBounds_toArray, List.set_cons_zero, List.set_cons_succ]
                refine Till.one (i := 15) (by kernel_rfl) rfl (fun K hK => ?_)
                go_simp
                refine hK.out _ _ (fun _ => HS.out _ HB.out) ?_
                clear hK K
                try simp only [List.setIfInBounds_toArray, List.set_cons_zero, List.set_cons_succ]
                refine Till.one (i := 16) (by kernel_rfl) rfl (fun K hK => ?_)
                go_simp
                refine hK.out _ _ (fun _ => HS.out _ HB.out) ?_
                clear hK K
                try simp only [List.setIfInBounds_toArray, List.set_cons_zero, List.set_cons_succ]
                refine Till.tL 17 [18, 19, 20, 21, 22, 23, 24] 55 (.int .i64 (y : Nat)) (HS.out _ HB.out) ?_
                try simp only [Act.put, List.setIfInBounds_toArray, List.set_cons_zero, List.set_cons_succ]
                refine Till.one (i := 18) (by kernel_rfl) rfl (fun K hK => ?_)
                go_simp
                refine hK.out _ _ (fun _ => HS.out _ HB.out) ?_
                clear hK K
                try simp only [List.setIfInBounds_toArray, List.set_cons_zero, List.set_cons_succ]
                refine Till.one (i := 19) (by kernel_rfl) rfl (fun K hK => ?_)
                go_simp
                refine hK.out _ _ (fun _ => HS.out _ HB.out) ?_
                clear hK K
                try simp only [List.setIfInBounds_toArray, List.set_cons_zero, List.set_cons_succ]
                refine Till.tL 20 [21, 22, 23, 24] 58 (.slice Py ry.2.length dy) (HS.out _ HB.out) ?_
                try simp only [Act.put, List.setIfInBounds_toArray, List.set_cons_zero, List.set_cons_succ]
                refine Till.one (i := 21) (by kernel_rfl) rfl (fun K hK => ?_)
                go_simp
                refine hK.out _ _ (fun _ => HS.out _ HB.out) ?_
                clear hK K
                try simp only [List.setIfInBounds_toArray, List.set_cons_zero, List.set_cons_succ]
                refine Till.one (i := 22) (by kernel_rfl) rfl (fun K hK => ?_)
                go_simp
                refine hK.out _ _ (fun _ => HS.out _ HB.out) ?_
                clear hK K
                try simp only [List.setIfInBounds_toArray, List.set_cons_zero, List.set_cons_succ]
                refine Till.one (i := 23) (by kernel_rfl) rfl (fun K hK => ?_)
                go_simp
                refine hK.out _ _ (fun _ => HS.out _ HB.out) ?_
                clear hK K
                try simp only [List.setIfInBounds_toArray, List.set_cons_zero, List.set_cons_succ]
                refine Till.one (i := 24) (by kernel_rfl) rfl (fun K hK => ?_)
                go_simp
                refine hK.out _ _ (fun h => absurd h (by simp)) ?_
                clear hK K
                try simp only [List.setIfInBounds_toArray, List.set_cons_zero, List.set_cons_succ]
                refine Till.done (by kernel_rfl) ?_ _
                have B7 := Lib.hid (B6.out.trans (HB.out.mono B6.out.size))
                have CG7 := Lib.hid (CG6.out.keep HB.out)
                have C97 := Lib.hid (C96.out.keep HB.out)
                have x0 := CG7.out.at_ i
                have f0 := CG7.out.fz i
                rw [pI_at _ hi2] at x0
                have CG8 := Lib.hid (show Cells _ g (pI m (parF gs m i (j + 1))) by rw [← parF_set gs m i j (j : Int) Hst.out]; exact CG7.out.set i (.int .i64 (j : Nat)) (by rw [pI_len]; exact hi2))
                have C98 := Lib.hid (C97.out.other H9g.out i (.int .i64 (j : Nat)))
                have B8 := Lib.hid (B7.out.setCell (p := ⟨g, i, none⟩) Hwg.out (.int .i64 (j : Nat)))
                have ij0 : (i : Int) < (m : Int) := by omega
                go_wp2_with fail
                go_roundw
                case rel => exact ⟨j + 1, by go_num, by omega, CG8.out, C98.out, B8.out⟩
                case measure => simp [intOf]; omega
              · have ts : decide (x.2.length < ry.2.length) = false := decide_eq_false hsh
                have ts2 : decide ((x.2.length : Int) < (ry.2.length : Int)) = false := decide_eq_false (by omega)
                have Hst := Lib.hid (show parS gs i (j + 1) = parS gs i j by rw [hstep, ts, hp2.out]; rfl)
                clear hstep hsh
                have HS := Lib.hid (fun w' (hb : Below wm.heap.size wm w') => (⟨(hb.cell (p := ⟨p9, 0, none⟩) L9.out).trans hg9, (hb.cell (p := ⟨p9, 1, none⟩) L9.out).trans hg9', (hb.cell (p := ⟨wp.heap.size, 0, none⟩) hz).trans g0, (hb.cell (p := ⟨wp.heap.size, 1, none⟩) hz).trans g1, (hb.cell (p := ⟨g, i, none⟩) LG.out).trans hgi, (hb.cell (p := ⟨b, o + y * 2 + 1, none⟩) hby).trans hcy⟩ : w'.cell? ⟨p9, 0, none⟩ = some (.string r.1) ∧ w'.cell? ⟨p9, 1, none⟩ = some (.slice P r.2.length d) ∧ w'.cell? ⟨wp.heap.size, 0, none⟩ = some (.string x.1) ∧ w'.cell? ⟨wp.heap.size, 1, none⟩ = some (.slice Px x.2.length dx) ∧ w'.cell? ⟨g, i, none⟩ = some (.int .i64 (y : Nat)) ∧ w'.cell? ⟨b, o + y * 2 + 1, none⟩ = some (.slice Py ry.2.length dy)))
                clear hz g0 g1 hg9 hg9' hgi
                go_upto_region 12 with fail
                simp only [Hwm.out]
                clear d0 d1
                refine Till.begin 24 (fun w' => w'.cell? ⟨p9, 0, none⟩ = some (.string r.1) ∧ w'.cell? ⟨p9, 1, none⟩ = some (.slice P r.2.length d) ∧ w'.cell? ⟨wp.heap.size, 0, none⟩ = some (.string x.1) ∧ w'.cell? ⟨wp.heap.size, 1, none⟩ = some (.slice Px x.2.length dx) ∧ w'.cell? ⟨g, i, none⟩ = some (.int .i64 (y : Nat)) ∧ w'.cell? ⟨b, o + y * 2 + 1, none⟩ = some (.slice Py ry.2.length dy)) (by kernel_rfl) (HS.out _ (Below.refl _ _).drew) (fun hH => ?_)
                clear hH
                have HB := Lib.hid (Below.refl wm.heap.size wm).drew
                generalize wm.drew = v0 at HB ⊢
                try simp only [List.setIfInBounds_toArray, List.set_cons_zero, List.set_cons_succ]
                refine Till.tL 0 [2, 3, 24] 38 (.agg #[.string r.1, .slice P r.2.length d]) (HS.out _ HB.out) ?_
                try simp only [Act.put, List.setIfInBounds_toArray, List.set_cons_zero, List.set_cons_succ]
                refine Till.tL 1 [2, 3, 24] 39 (.agg #[.string x.1, .slice Px x.2.length dx]) (HS.out _ HB.out) ?_
                try simp only [Act.put, List.setIfInBounds_toArray, List.set_cons_zero, List.set_cons_succ]
                refine Till.one (i := 2) (by kernel_rfl) rfl (fun K hK => ?_)
                go_simp
                refine (HK.out _ HB.out).mono ?_
                rintro e v1 ⟨rfl, g9⟩
                replace HB := Lib.hid (below_on HB.out g9)
                clear g9
                go_wp2_with fail
                refine hK.out _ _ (fun _ => HS.out _ HB.out) ?_
                clear hK K
                try simp only [List.setIfInBounds_toArray, List.set_cons_zero, List.set_cons_succ]
                refine Till.one (i := 3) (by kernel_rfl) rfl (fun K hK => ?_)
                go_simp
                refine hK.out _ _ (fun _ => HS.out _ HB.out) ?_
                clear hK K
                try simp only [List.setIfInBounds_toArray, List.set_cons_zero, List.set_cons_succ]
                refine Till.tL 4 [6, 7, 8, 9, 23, 24] 42 (.slice (some ⟨g, 0, none⟩) m m) (HS.out _ HB.out) ?_
                try simp only [Act.put, List.setIfInBounds_toArray, List.set_cons_zero, List.set_cons_succ]
                refine Till.one (i := 5) (by kernel_rfl) rfl (fun K hK => ?_)
                go_simp
                refine hK.out _ _ (fun _ => HS.out _ HB.out) ?_
                clear hK K
                try simp only [List.setIfInBounds_toArray, List.set_cons_zero, List.set_cons_succ]
                refine Till.one (i := 6) (by kernel_rfl) rfl (fun K hK => ?_)
                go_simp
                refine hK.out _ _ (fun _ => HS.out _ HB.out) ?_
                clear hK K
                try simp only [List.setIfInBounds_toArray, List.set_cons_zero, List.set_cons_succ]
                refine Till.tL 7 [8, 9, 23, 24] 45 (.int .i64 (y : Nat)) (HS.out _ HB.out) ?_
                try simp only [Act.put, List.setIfInBounds_toArray, List.set_cons_zero, List.set_cons_succ]
                refine Till.one (i := 8) (by kernel_rfl) rfl (fun K hK => ?_)
                go_simp
                refine hK.out _ _ (fun _ => HS.out _ HB.out) ?_
                clear hK K
                try simp only [List.setIfInBounds_toArray, List.set_cons_zero, List.set_cons_succ]
                refine Till.one (i := 9) (by kernel_rfl) rfl (fun K hK => ?_)
                go_simp
                refine hK.out _ _ (fun _ => HS.out _ HB.out) ?_
                clear hK K
                try simp only [List.setIfInBounds_toArray, List.set_cons_zero, List.set_cons_succ]
                refine Till.tL 10 [11, 12, 22, 23, 24] 48 (.pointer (some ⟨wp.heap.size, 1, none⟩)) (HS.out _ HB.out) ?_
                try simp only [Act.put, List.setIfInBounds_toArray, List.set_cons_zero, List.set_cons_succ]
                refine Till.tL 11 [12, 22, 23, 24] 49 (.slice Px x.2.length dx) (HS.out _ HB.out) ?_
                try simp only [Act.put, List.setIfInBounds_toArray, List.set_cons_zero, List.set_cons_succ]
                refine Till.tL 12 [22, 23, 24] 50 (.int .i64 (x.2.length : Nat)) (HS.out _ HB.out) ?_
                try simp only [Act.put, List.setIfInBounds_toArray, List.set_cons_zero, List.set_cons_succ]
                refine Till.tL 13 [18, 19, 20, 21, 22, 23, 24] 51 (.slice (some ⟨b, o, none⟩) m c) (HS.out _ HB.out) ?_
                try simp only [Act.put, List.setIfInBounds_toArray, List.set_cons_zero, List.set_cons_succ]
                refine Till.tL 14 [16, 17, 18, 19, 20, 21, 22, 23, 24] 52 (.slice (some ⟨g, 0, none⟩) m m) (HS.out _ HB.out) ?_
                try simp only [Act.put, List.setIfInBounds_toArray, List.set_cons_zero, List.set_cons_succ]
                refine Till.one (i := 15) (by kernel_rfl) rfl (fun K hK => ?_)
                go_simp
                refine hK.out _ _ (fun _ => HS.out _ HB.out) ?_
                clear hK K
                try simp only [List.setIfInBounds_toArray, List.set_cons_zero, List.set_cons_succ]
                refine Till.one (i := 16) (by kernel_rfl) rfl (fun K hK => ?_)
                go_simp
                refine hK.out _ _ (fun _ => HS.out _ HB.out) ?_
                clear hK K
                try simp only [List.setIfInBounds_toArray, List.set_cons_zero, List.set_cons_succ]
                refine Till.tL 17 [18, 19, 20, 21, 22, 23, 24] 55 (.int .i64 (y : Nat)) (HS.out _ HB.out) ?_
                try simp only [Act.put, List.setIfInBounds_toArray, List.set_cons_zero, List.set_cons_succ]
                refine Till.one (i := 18) (by kernel_rfl) rfl (fun K hK => ?_)
                go_simp
                refine hK.out _ _ (fun _ => HS.out _ HB.out) ?_
                clear hK K
                try simp only [List.setIfInBounds_toArray, List.set_cons_zero, List.set_cons_succ]
                refine Till.one (i := 19) (by kernel_rfl) rfl (fun K hK => ?_)
                go_simp
                refine hK.out _ _ (fun _ => HS.out _ HB.out) ?_
                clear hK K
                try simp only [List.setIfInBounds_toArray, List.set_cons_zero, List.set_cons_succ]
                refine Till.tL 20 [21, 22, 23, 24] 58 (.slice Py ry.2.length dy) (HS.out _ HB.out) ?_
                try simp only [Act.put, List.setIfInBounds_toArray, List.set_cons_zero, List.set_cons_succ]
                refine Till.one (i := 21) (by kernel_rfl) rfl (fun K hK => ?_)
                go_simp
                refine hK.out _ _ (fun _ => HS.out _ HB.out) ?_
                clear hK K
                try simp only [List.setIfInBounds_toArray, List.set_cons_zero, List.set_cons_succ]
                refine Till.one (i := 22) (by kernel_rfl) rfl (fun K hK => ?_)
                go_simp
                refine hK.out _ _ (fun _ => HS.out _ HB.out) ?_
                clear hK K
                try simp only [List.setIfInBounds_toArray, List.set_cons_zero, List.set_cons_succ]
                refine Till.one (i := 23) (by kernel_rfl) rfl (fun K hK => ?_)
                go_simp
                refine hK.out _ _ (fun _ => HS.out _ HB.out) ?_
                clear hK K
                try simp only [List.setIfInBounds_toArray, List.set_cons_zero, List.set_cons_succ]
                refine Till.one (i := 24) (by kernel_rfl) rfl (fun K hK => ?_)
                go_simp
                refine hK.out _ _ (fun h => absurd h (by simp)) ?_
                clear hK K
                try simp only [List.setIfInBounds_toArray, List.set_cons_zero, List.set_cons_succ]
                refine Till.done (by kernel_rfl) ?_ _
                have B7 := Lib.hid (B6.out.trans (HB.out.mono B6.out.size))
                have CG7 := Lib.hid (CG6.out.keep HB.out)
                have C97 := Lib.hid (C96.out.keep HB.out)
                have CG8 := Lib.hid (show Cells _ g (pI m (parF gs m i (j + 1))) by rw [parF_same gs m i j Hst.out]; exact CG7.out)
                go_wp2_with fail
                go_roundw
                case rel => exact ⟨j + 1, by go_num, by omega, CG8.out, C97.out, B7.out⟩
                case measure => simp [intOf]; omega
        · have hjm : j = m := by omega
          subst hjm
          have C8 := CG.out
          rw [parF_end] at C8
          have C8 := Lib.hid C8
          go_wp2_with fail
          go_roundw
          case rel => exact ⟨i + 1, by go_num, by omega, C8.out, B5.out⟩
          case measure => simp [intOf]; omega
    · have him2 : i = m := by omega
      subst him2
      have C8 := C4.out
      rw [pI_congr (G := fun x => parS gs x i) (fun x hx => by unfold parO; rw [if_pos hx])] at C8
      have C8 := Lib.hid C8
      go_wp2_with fail
      go_ret2
      exact ⟨g, rfl, C8.out, B4.out⟩
end Go.Proofs.YtdpfoegcmngdfaaDoor
