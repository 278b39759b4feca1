/- Tree and Back. -/
import Derived.Test.YthocdmlacfejkaaDoorNds
namespace Go.Proofs.YthocdmlacfejkaaDoor
open Go.RowKit
/-- The node before v on the path from root; -1 if there is none. -/
def treeV (es : List (Nat × Nat)) (root v : Nat) : Int :=
  if dist (adjR es) (sing v) root ≤ 0 then -1 else ((wayM (adj es) (dist (adjR es) (sing v)) (dist (adjR es) (sing v) root).toNat root).getD ((dist (adjR es) (sing v) root).toNat - 1) 0 : Nat)
def backV (es : List (Nat × Nat)) (root v : Nat) : Int :=
  if dist (adjR es) (sing root) v ≤ 0 then -1 else ((wayM (adj es) (dist (adjR es) (sing root)) (dist (adjR es) (sing root) v).toNat v).getD 1 0 : Nat)
set_option maxRecDepth 100000 in
set_option maxHeartbeats 4000000 in
theorem tree1_any (n : Nat) (A : Option Addr) (m c : Nat) (es : List (Nat × Nat)) (p r root v : Nat) (w : World) (h : EL w A m (cast es)) (hg : Fine n es) (hr : root < n) (hv : v < n) (hw : Good w)
    (c0 : w.cell? ⟨p, 0, none⟩ = some (.int .i64 (n : Nat))) (c1 : w.cell? ⟨p, 1, none⟩ = some (.slice A m c)) (c2 : w.cell? ⟨r, 0, none⟩ = some (.int .i64 (root : Nat))) :
    Calls Tryd.prog 94 #[.int .i64 v, .pointer (some ⟨p, 0, none⟩), .pointer (some ⟨r, 0, none⟩)] w fun e w' => e = .returned (.int .i64 (treeV es root v)) ∧ Below w.heap.size w w' := by
  by_cases hd : dist (adjR es) (sing v) root < 0
  · have HP := Lib.hid (path_no n A m c es root v w h hg hr hv hd hw)
    have He : treeV es root v = -1 := by unfold treeV; rw [if_pos (by omega)]
    rw [He]
    clear h hg hw hd He
    go_enter Tryd.func94, Tryd.ntmps94
    go_wp2_with fail
    refine HP.out.mono ?_
    rintro e w1 ⟨rfl, hb1⟩
    have B1 := Lib.hid hb1
    clear hb1
    go_wp2_with fail
    go_ret
    exact ⟨rfl, B1.out⟩
  · obtain ⟨d, hdd⟩ : ∃ d : Nat, dist (adjR es) (sing v) root = (d : Int) := ⟨_, (Int.toNat_of_nonneg (by omega)).symm⟩
    have HP := path_yes n A m c es root v d w h hg hr hv hdd hw
    have hd64 : d ≤ 64 := by have := distTo_bd (adjR es) (sing v) 65 root; unfold dist at hdd; omega
    have hlen := wayM_len (adj es) (dist (adjR es) (sing v)) d root
    have hT : treeV es root v = if (d : Int) ≤ 0 then -1 else (((wayM (adj es) (dist (adjR es) (sing v)) d root).getD (d - 1) 0 : Nat) : Int) := by
      unfold treeV
      rw [hdd, Int.toNat_natCast]
    obtain ⟨l, hl⟩ : ∃ l, wayM (adj es) (dist (adjR es) (sing v)) d root = l := ⟨_, rfl⟩
    rw [hl] at HP hlen hT
    have HP := Lib.hid HP
    have hlen2 := Nat.le_of_eq hlen
    by_cases h0 : d = 0
    · subst h0
      rw [if_pos (by omega)] at hT
      rw [hT]
      have Hlen := Lib.hid hlen
      clear h hg hw hd hT hdd hl hlen
      go_enter Tryd.func94, Tryd.ntmps94
      go_wp2_with fail
      refine HP.out.mono ?_
      rintro e w1 ⟨u, rfl, hown, hb1⟩
      obtain ⟨A1, k1, rfl, hn1, _, _⟩ := own_nats hown
      have B1 := Lib.hid hb1
      have hl2 : ¬ (2 : Int) ≤ (l.length : Int) := by omega
      have hl3 : (l.length : Int) < 2 := by omega
      clear hown hn1 hb1
      go_wp2_with fail
      go_ret
      exact ⟨rfl, B1.out⟩
    · have hx : l[d - 1]? = some (l.getD (d - 1) 0) := by
        rw [List.getElem?_eq_getElem (show d - 1 < l.length by omega)]
        simp [List.getD, show d - 1 < l.length by omega]
      rw [if_neg (by omega)] at hT
      rw [hT]
      obtain ⟨x, hx0⟩ : ∃ x, l.getD (d - 1) 0 = x := ⟨_, rfl⟩
      rw [hx0] at hx ⊢
      have Hx := Lib.hid hx
      have Hlen := Lib.hid hlen
      have hlen3 := Nat.le_of_eq hlen.symm
      clear h hg hw hd hT hdd hl hlen hx hx0
      go_enter Tryd.func94, Tryd.ntmps94
      go_wp2_with fail
      refine HP.out.mono ?_
      rintro e w1 ⟨u, rfl, hown, hb1⟩
      obtain ⟨A1, k1, rfl, hn1, _, _⟩ := own_nats hown
      have B1 := Lib.hid hb1
      obtain ⟨b, o, rfl, _, _, hcell⟩ := hn1 _ _ Hx.out
      clear hown hn1 hb1
      have ew : IntKind.i64.wrap ((l.length : Int) - 2) = (l.length : Int) - 2 := IntWalk.i64_in _ (by omega)
      have i0 : (2 : Int) ≤ (l.length : Int) := by omega
      have i1 : ((l.length : Int) - 2).toNat = d - 1 := by omega
      have i2 : (0 : Int) ≤ (l.length : Int) - 2 := by omega
      have i3 : l.length - 2 = d - 1 := by omega
      go_wp2_with fail
      go_ret
      exact ⟨rfl, B1.out⟩
set_option maxRecDepth 100000 in
set_option maxHeartbeats 4000000 in
theorem back1_any (n : Nat) (A : Option Addr) (m c : Nat) (es : List (Nat × Nat)) (p r root v : Nat) (w : World) (h : EL w A m (cast es)) (hg : Fine n es) (hr : root < n) (hv : v < n) (hw : Good w)
    (c0 : w.cell? ⟨p, 0, none⟩ = some (.int .i64 (n : Nat))) (c1 : w.cell? ⟨p, 1, none⟩ = some (.slice A m c)) (c2 : w.cell? ⟨r, 0, none⟩ = some (.int .i64 (root : Nat))) :
    Calls Tryd.prog 95 #[.int .i64 v, .pointer (some ⟨p, 0, none⟩), .pointer (some ⟨r, 0, none⟩)] w fun e w' => e = .returned (.int .i64 (backV es root v)) ∧ Below w.heap.size w w' := by
  by_cases hd : dist (adjR es) (sing root) v < 0
  · have HP := Lib.hid (path_no n A m c es v root w h hg hv hr hd hw)
    have He : backV es root v = -1 := by unfold backV; rw [if_pos (by omega)]
    rw [He]
    clear h hg hw hd He
    go_enter Tryd.func95, Tryd.ntmps95
    go_wp2_with fail
    refine HP.out.mono ?_
    rintro e w1 ⟨rfl, hb1⟩
    have B1 := Lib.hid hb1
    clear hb1
    go_wp2_with fail
    go_ret
    exact ⟨rfl, B1.out⟩
  · obtain ⟨d, hdd⟩ : ∃ d : Nat, dist (adjR es) (sing root) v = (d : Int) := ⟨_, (Int.toNat_of_nonneg (by omega)).symm⟩
    have HP := path_yes n A m c es v root d w h hg hv hr hdd hw
    have hd64 : d ≤ 64 := by have := distTo_bd (adjR es) (sing root) 65 v; unfold dist at hdd; omega
    have hlen := wayM_len (adj es) (dist (adjR es) (sing root)) d v
    have hT : backV es root v = if (d : Int) ≤ 0 then -1 else (((wayM (adj es) (dist (adjR es) (sing root)) d v).getD 1 0 : Nat) : Int) := by
      unfold backV
      rw [hdd, Int.toNat_natCast]
    obtain ⟨l, hl⟩ : ∃ l, wayM (adj es) (dist (adjR es) (sing root)) d v = l := ⟨_, rfl⟩
    rw [hl] at HP hlen hT
    have HP := Lib.hid HP
    have hlen2 := Nat.le_of_eq hlen
    by_cases h0 : d = 0
    · subst h0
      rw [if_pos (by omega)] at hT
      rw [hT]
      have Hlen := Lib.hid hlen
      clear h hg hw hd hT hdd hl hlen
      go_enter Tryd.func95, Tryd.ntmps95
      go_wp2_with fail
      refine HP.out.mono ?_
      rintro e w1 ⟨u, rfl, hown, hb1⟩
      obtain ⟨A1, k1, rfl, hn1, _, _⟩ := own_nats hown
      have B1 := Lib.hid hb1
      have hl2 : ¬ (2 : Int) ≤ (l.length : Int) := by omega
      have hl3 : (l.length : Int) < 2 := by omega
      clear hown hn1 hb1
      go_wp2_with fail
      go_ret
      exact ⟨rfl, B1.out⟩
    · have hx : l[1]? = some (l.getD 1 0) := by
        rw [List.getElem?_eq_getElem (show 1 < l.length by omega)]
        simp [List.getD, show 1 < l.length by omega]
      rw [if_neg (by omega)] at hT
      rw [hT]
      obtain ⟨x, hx0⟩ : ∃ x, l.getD 1 0 = x := ⟨_, rfl⟩
      rw [hx0] at hx ⊢
      have Hx := Lib.hid hx
      have Hlen := Lib.hid hlen
      have hlen3 := Nat.le_of_eq hlen.symm
      clear h hg hw hd hT hdd hl hlen hx hx0
      go_enter Tryd.func95, Tryd.ntmps95
      go_wp2_with fail
      refine HP.out.mono ?_
      rintro e w1 ⟨u, rfl, hown, hb1⟩
      obtain ⟨A1, k1, rfl, hn1, _, _⟩ := own_nats hown
      have B1 := Lib.hid hb1
      obtain ⟨b, o, rfl, _, _, hcell⟩ := hn1 _ _ Hx.out
      clear hown hn1 hb1
      have i0 : (2 : Int) ≤ (l.length : Int) := by omega
      have i2 : (1 : Int) < (l.length : Int) := by omega
      have i3 : 1 < l.length := by omega
      go_wp2_with fail
      go_ret
      exact ⟨rfl, B1.out⟩
/-- n numbers. -/
def numsN (n : Nat) (f : Nat → Int) : List Value := (List.range n).map fun i => Value.int .i64 (f i)
theorem numsN_at {n : Nat} (f : Nat → Int) {i : Nat} (h : i < n) : (numsN n f)[i]? = some (.int .i64 (f i)) := by unfold numsN; simp [h]
theorem numsN_len (n : Nat) (f : Nat → Int) : (numsN n f).length = n := by unfold numsN; simp
theorem numsN_set {n : Nat} (f : Nat → Int) (i : Nat) (v : Int) : (numsN n f).set i (.int .i64 v) = numsN n fun j => if i = j then v else f j := by
  apply List.ext_getElem?
  intro j
  rw [List.getElem?_set]
  unfold numsN
  by_cases h : i = j
  · subst h
    by_cases h2 : i < n
    · simp [h2]
    · rw [if_pos rfl, if_neg (by simpa using h2), List.getElem?_eq_none (by simp; omega)]
  · rw [if_neg h]
    by_cases h2 : j < n
    · simp [h2, h]
    · rw [List.getElem?_eq_none (by simp; omega), List.getElem?_eq_none (by simp; omega)]
theorem numsN_congr {n : Nat} {f f' : Nat → Int} (h : ∀ i, i < n → f i = f' i) : numsN n f = numsN n f' := by
  unfold numsN
  exact List.map_congr_left fun i hi => by rw [h i (by simpa using hi)]
theorem made_ints {w w1 : World} {n : Nat} (hown : w1.ownsRow w.heap.size 3 1 (.slice (some ⟨w.heap.size, 0, none⟩) n n) n (madeCells #[.int .i64 0] n).toList) : Cells w1 w.heap.size (numsN n fun _ => 0) := by
  rcases hown.2 with ⟨h1, _⟩ | ⟨g', cap, cur, h1, hg, hh, hnc, hcm, hcs, hx⟩
  · cases h1
  · injection h1 with h1 _ h3
    injection h1 with h1
    injection h1 with h1
    subst h1 h3
    rw [List.take_of_length_le (by rw [Array.length_toList, hcs]; exact Nat.le_refl _)] at hx
    have e : cur.toList = numsN n fun _ => 0 := by
      rw [hx]
      apply List.ext_getElem?
      intro i
      by_cases hi : i < n
      · rw [numsN_at _ hi]; simp [madeCells, hi, Nat.mod_one]
      · rw [List.getElem?_eq_none (by simp [madeCells]; omega), List.getElem?_eq_none (by rw [numsN_len]; omega)]
    rw [← e]
    exact Cells.of_row hh
theorem numsN_il {w : World} {g n : Nat} {f : Nat → Int} (h : Cells w g (numsN n f)) : IL w (some ⟨g, 0, none⟩) ((List.range n).map f) := by
  intro k x hk
  rw [List.getElem?_map] at hk
  by_cases hkn : k < n
  · rw [List.getElem?_eq_getElem (by simpa using hkn)] at hk
    injection hk with hk
    simp at hk
    exact ⟨g, 0, rfl, h.lt, by rw [Nat.zero_add, h.at_ k, numsN_at f hkn, hk]⟩
  · rw [List.getElem?_eq_none (by simpa using hkn)] at hk; cases hk
def NbPost (n : Nat) (r : Nat → Int) (w : World) (e : Ending) (w' : World) : Prop :=
  (∃ g, e = .returned (.tuple #[.slice (some ⟨g, 0, none⟩) n n, .int .i64 0]) ∧ w.heap.size ≤ g ∧ IL w' (some ⟨g, 0, none⟩) ((List.range n).map r)) ∧ Below w.heap.size w w'
set_option maxRecDepth 100000 in
set_option maxHeartbeats 8000000 in
theorem neighbours_tree (n : Nat) (A : Option Addr) (m c : Nat) (es : List (Nat × Nat)) (root : Nat) (x y : Value) (r : Nat → Int) (w : World) (h : EL w A m (cast es)) (hg : Fine n es) (hr : root < n)
    (hF : ∀ w' v, Below w.heap.size w w' → v < n → Calls Tryd.prog 94 #[.int .i64 (v : Nat), x, y] w' fun e w2 => e = .returned (.int .i64 (r v)) ∧ Below w'.heap.size w' w2) :
    Calls Tryd.prog 93 #[gV n A m c, .int .i64 root, .func (.func 94) #[] #[x, y]] w (NbPost n r w) := by
  obtain ⟨i0, hi, hz0, hz1, hz2⟩ := info_parts info_int
  have hn64 := hg.n64
  have kv := (Below.refl w.heap.size w).alloc (Nat.le_refl _) (.cells #[.int .i64 (n : Nat), .slice A m c] 26)
  have G0 := Lib.hid (Cells.new w #[.int .i64 (n : Nat), .slice A m c] 26)
  have kx := kv.alloc (by simp) (.cells #[.int .i64 (root : Nat)] 3)
  have hl : IL ((w.alloc (.cells #[.int .i64 (n : Nat), .slice A m c] 26)).alloc (.cells #[.int .i64 (root : Nat)] 3)) (some ⟨w.heap.size + 1, 0, none⟩) [(root : Int)] := fun k u hk => by
    match k, hk with
    | 0, hk =>
      simp at hk
      subst hk
      exact ⟨_, 0, rfl, by simp, by simp [go_sem]⟩
  have HC := checkNodes_any n A m c es (some ⟨w.heap.size + 1, 0, none⟩) 1 [(root : Int)] _ (h.keep kx) hg hl (by simp)
  have hE : errN n [(root : Int)] = 0 := by
    unfold errN
    rw [if_neg, if_neg]
    · simp [incL]
    · simp [inN]; omega
  have HC := Lib.hid (HC.mono (R' := fun e w' => (∃ v : Value, e = .returned (.tuple #[v, .int .i64 0])) ∧ Below ((w.alloc (.cells #[.int .i64 (n : Nat), .slice A m c] 26)).alloc (.cells #[.int .i64 (root : Nat)] 3)).heap.size ((w.alloc (.cells #[.int .i64 (n : Nat), .slice A m c] 26)).alloc (.cells #[.int .i64 (root : Nat)] 3)) w') fun e w' ⟨h1, h2⟩ => ⟨by
    rcases h1 with ⟨h1, _⟩ | ⟨_, h1⟩
    · exact absurd hE h1
    · exact ⟨_, h1⟩, h2⟩)
  have HF := Lib.hid hF
  have kx := Lib.hid kx
  have GX := Lib.hid (G0.out.keep ((Below.refl _ _).alloc (Nat.le_refl _) (.cells #[.int .i64 (root : Nat)] 3)))
  clear h hg hl hE hF kv
  go_enter Tryd.func93, Tryd.ntmps93
  go_wp2_with fail
  refine HC.out.mono ?_
  rintro e w1 ⟨⟨sv, rfl⟩, hb1⟩
  have B1 := Lib.hid (below_on kx.out hb1)
  have G1 := Lib.hid (GX.out.keep hb1)
  have g0 := G1.out.at_ 0
  simp only [List.getElem?_cons_zero] at g0
  clear hb1
  go_wp2_with (at_make; refine wpList_make_full _ rfl _ _ 50 rfl w1.heap.size 3 i0 (.int .i64 0) 1 Tryd.underlying50 hi hz0 hz1 _ _ _ _ n rfl rfl rfl rfl (by rw [hz2]; omega) (by unfold maxLen; omega) (Nat.le_refl _) ?_)
  intro w2 hown hgr
  have I2 := made_ints hown
  rw [numsN_congr (f' := fun j => if j < 0 then r j else 0) (fun j _ => by simp)] at I2
  have I2 := Lib.hid I2
  have B2 := Lib.hid (below_on B1.out ((Below.refl w1.heap.size w1).grown hgr (Nat.le_refl _) (by simp)))
  have hsz := B1.out.size
  clear hown hgr
  go_wp2_with fail
  go_loopw [27] (fun i wr => ∃ k : Nat, i = .int .i64 (k : Nat) ∧ k ≤ n ∧ Cells wr w1.heap.size (numsN n fun j => if j < k then r j else 0) ∧ Below w.heap.size w wr) (fun i _ => n - (intOf i).toNat)
  case atStart => exact ⟨0, rfl, Nat.zero_le _, I2.out, B2.out⟩
  case round =>
    obtain ⟨k, rfl, hk, hc, hb⟩ := hrel
    have Hc := Lib.hid hc
    have Hb := Lib.hid hb
    clear hc hb
    by_cases hlt : k < n
    · have Hlt := Lib.hid hlt
      have HK := Lib.hid (HF.out wr k Hb.out hlt)
      go_wp2_with fail
      refine HK.out.mono ?_
      rintro e w3 ⟨rfl, hb3⟩
      have C3 := Hc.out.keep hb3
      have z0 := (C3.at_ k).trans (numsN_at _ hlt)
      have f0 := C3.fz k
      obtain ⟨x0, hx0⟩ : ∃ x : Int, (if k < k then r k else 0) = x := ⟨_, rfl⟩
      rw [hx0] at z0
      have C4 := C3.set k (.int .i64 (r k)) (by rw [numsN_len]; exact hlt)
      rw [numsN_set, numsN_congr (f' := fun j => if j < k + 1 then r j else 0) (fun j _ => by
        by_cases h : k = j
        · subst h; simp
        · by_cases h2 : j < k
          · simp [h, h2, show j < k + 1 by omega]
          · simp [h, h2, show ¬ j < k + 1 by omega])] at C4
      have C4 := Lib.hid C4
      have B4 := Lib.hid ((below_on Hb.out hb3).setCell (p := ⟨w1.heap.size, k, none⟩) hsz (.int .i64 (r k)))
      clear hb3 C3 hx0
      go_wp2_with fail
      go_roundw
      case rel => exact ⟨k + 1, by go_num, Hlt.out, C4.out, B4.out⟩
      case measure => simp [intOf]; have := Hlt.out; omega
    · have Cf := Hc.out
      rw [numsN_congr (f' := r) (fun j hj => by rw [if_pos (by omega)])] at Cf
      have Cf := Lib.hid (numsN_il Cf)
      go_wp2_with fail
      go_ret2
      exact ⟨⟨_, rfl, hsz, Cf.out⟩, Hb.out⟩
set_option maxRecDepth 100000 in
set_option maxHeartbeats 8000000 in
theorem neighbours_back (n : Nat) (A : Option Addr) (m c : Nat) (es : List (Nat × Nat)) (root : Nat) (x y : Value) (r : Nat → Int) (w : World) (h : EL w A m (cast es)) (hg : Fine n es) (hr : root < n)
    (hF : ∀ w' v, Below w.heap.size w w' → v < n → Calls Tryd.prog 95 #[.int .i64 (v : Nat), x, y] w' fun e w2 => e = .returned (.int .i64 (r v)) ∧ Below w'.heap.size w' w2) :
    Calls Tryd.prog 93 #[gV n A m c, .int .i64 root, .func (.func 95) #[] #[x, y]] w (NbPost n r w) := by
  obtain ⟨i0, hi, hz0, hz1, hz2⟩ := info_parts info_int
  have hn64 := hg.n64
  have kv := (Below.refl w.heap.size w).alloc (Nat.le_refl _) (.cells #[.int .i64 (n : Nat), .slice A m c] 26)
  have G0 := Lib.hid (Cells.new w #[.int .i64 (n : Nat), .slice A m c] 26)
  have kx := kv.alloc (by simp) (.cells #[.int .i64 (root : Nat)] 3)
  have hl : IL ((w.alloc (.cells #[.int .i64 (n : Nat), .slice A m c] 26)).alloc (.cells #[.int .i64 (root : Nat)] 3)) (some ⟨w.heap.size + 1, 0, none⟩) [(root : Int)] := fun k u hk => by
    match k, hk with
    | 0, hk =>
      simp at hk
      subst hk
      exact ⟨_, 0, rfl, by simp, by simp [go_sem]⟩
  have HC := checkNodes_any n A m c es (some ⟨w.heap.size + 1, 0, none⟩) 1 [(root : Int)] _ (h.keep kx) hg hl (by simp)
  have hE : errN n [(root : Int)] = 0 := by
    unfold errN
    rw [if_neg, if_neg]
    · simp [incL]
    · simp [inN]; omega
  have HC := Lib.hid (HC.mono (R' := fun e w' => (∃ v : Value, e = .returned (.tuple #[v, .int .i64 0])) ∧ Below ((w.alloc (.cells #[.int .i64 (n : Nat), .slice A m c] 26)).alloc (.cells #[.int .i64 (root : Nat)] 3)).heap.size ((w.alloc (.cells #[.int .i64 (n : Nat), .slice A m c] 26)).alloc (.cells #[.int .i64 (root : Nat)] 3)) w') fun e w' ⟨h1, h2⟩ => ⟨by
    rcases h1 with ⟨h1, _⟩ | ⟨_, h1⟩
    · exact absurd hE h1
    · exact ⟨_, h1⟩, h2⟩)
  have HF := Lib.hid hF
  have kx := Lib.hid kx
  have GX := Lib.hid (G0.out.keep ((Below.refl _ _).alloc (Nat.le_refl _) (.cells #[.int .i64 (root : Nat)] 3)))
  clear h hg hl hE hF kv
  go_enter Tryd.func93, Tryd.ntmps93
  go_wp2_with fail
  refine HC.out.mono ?_
  rintro e w1 ⟨⟨sv, rfl⟩, hb1⟩
  have B1 := Lib.hid (below_on kx.out hb1)
  have G1 := Lib.hid (GX.out.keep hb1)
  have g0 := G1.out.at_ 0
  simp only [List.getElem?_cons_zero] at g0
  clear hb1
  go_wp2_with (at_make; refine wpList_make_full _ rfl _ _ 50 rfl w1.heap.size 3 i0 (.int .i64 0) 1 Tryd.underlying50 hi hz0 hz1 _ _ _ _ n rfl rfl rfl rfl (by rw [hz2]; omega) (by unfold maxLen; omega) (Nat.le_refl _) ?_)
  intro w2 hown hgr
  have I2 := made_ints hown
  rw [numsN_congr (f' := fun j => if j < 0 then r j else 0) (fun j _ => by simp)] at I2
  have I2 := Lib.hid I2
  have B2 := Lib.hid (below_on B1.out ((Below.refl w1.heap.size w1).grown hgr (Nat.le_refl _) (by simp)))
  have hsz := B1.out.size
  clear hown hgr
  go_wp2_with fail
  go_loopw [27] (fun i wr => ∃ k : Nat, i = .int .i64 (k : Nat) ∧ k ≤ n ∧ Cells wr w1.heap.size (numsN n fun j => if j < k then r j else 0) ∧ Below w.heap.size w wr) (fun i _ => n - (intOf i).toNat)
  case atStart => exact ⟨0, rfl, Nat.zero_le _, I2.out, B2.out⟩
  case round =>
    obtain ⟨k, rfl, hk, hc, hb⟩ := hrel
    have Hc := Lib.hid hc
    have Hb := Lib.hid hb
    clear hc hb
    by_cases hlt : k < n
    · have Hlt := Lib.hid hlt
      have HK := Lib.hid (HF.out wr k Hb.out hlt)
      go_wp2_with fail
      refine HK.out.mono ?_
      rintro e w3 ⟨rfl, hb3⟩
      have C3 := Hc.out.keep hb3
      have z0 := (C3.at_ k).trans (numsN_at _ hlt)
      have f0 := C3.fz k
      obtain ⟨x0, hx0⟩ : ∃ x : Int, (if k < k then r k else 0) = x := ⟨_, rfl⟩
      rw [hx0] at z0
      have C4 := C3.set k (.int .i64 (r k)) (by rw [numsN_len]; exact hlt)
      rw [numsN_set, numsN_congr (f' := fun j => if j < k + 1 then r j else 0) (fun j _ => by
        by_cases h : k = j
        · subst h; simp
        · by_cases h2 : j < k
          · simp [h, h2, show j < k + 1 by omega]
          · simp [h, h2, show ¬ j < k + 1 by omega])] at C4
      have C4 := Lib.hid C4
      have B4 := Lib.hid ((below_on Hb.out hb3).setCell (p := ⟨w1.heap.size, k, none⟩) hsz (.int .i64 (r k)))
      clear hb3 C3 hx0
      go_wp2_with fail
      go_roundw
      case rel => exact ⟨k + 1, by go_num, Hlt.out, C4.out, B4.out⟩
      case measure => simp [intOf]; have := Hlt.out; omega
    · have Cf := Hc.out
      rw [numsN_congr (f' := r) (fun j hj => by rw [if_pos (by omega)])] at Cf
      have Cf := Lib.hid (numsN_il Cf)
      go_wp2_with fail
      go_ret2
      exact ⟨⟨_, rfl, hsz, Cf.out⟩, Hb.out⟩
set_option maxRecDepth 100000 in
set_option maxHeartbeats 4000000 in
theorem tree_any (n : Nat) (A : Option Addr) (m c : Nat) (es : List (Nat × Nat)) (root : Nat) (w : World) (h : EL w A m (cast es)) (hg : Fine n es) (hr : root < n) (hw : Good w) :
    Calls Tryd.prog 37 #[gV n A m c, .int .i64 root] w (NbPost n (treeV es root) w) := by
  have kv := ((Below.refl w.heap.size w).alloc (Nat.le_refl _) (.cells #[.int .i64 (n : Nat), .slice A m c] 26)).alloc (by simp) (.cells #[.int .i64 (root : Nat)] 3)
  have G0 := (Cells.new w #[.int .i64 (n : Nat), .slice A m c] 26).keep ((Below.refl _ _).alloc (Nat.le_refl _) (.cells #[.int .i64 (root : Nat)] 3))
  have R0 := Cells.new (w.alloc (.cells #[.int .i64 (n : Nat), .slice A m c] 26)) #[.int .i64 (root : Nat)] 3
  simp only [World.size_alloc] at R0
  have HN := Lib.hid (neighbours_tree n A m c es root (.pointer (some ⟨w.heap.size, 0, none⟩)) (.pointer (some ⟨w.heap.size + 1, 0, none⟩)) (treeV es root) _ (h.keep kv) hg hr (fun w' v hb hv => tree1_any n A m c es w.heap.size (w.heap.size + 1) root v w' (h.keep (below_on kv hb)) hg hr hv (hw.below (below_on kv hb) hw.size) ((G0.keep hb).at_ 0) ((G0.keep hb).at_ 1) ((R0.keep hb).at_ 0)))
  have kv := Lib.hid kv
  clear h hg hw G0 R0
  go_enter Tryd.func37, Tryd.ntmps37
  go_wp2_with fail
  refine HN.out.mono ?_
  rintro e w1 ⟨⟨g, rfl, hgs, hil⟩, hb1⟩
  have B1 := Lib.hid (below_on kv.out hb1)
  have I1 := Lib.hid hil
  have hg2 : w.heap.size ≤ g := by have := kv.out.size; simp at hgs; omega
  clear hb1 hil hgs
  go_wp2_with fail
  go_ret2
  exact ⟨⟨g, rfl, hg2, I1.out⟩, B1.out⟩
set_option maxRecDepth 100000 in
set_option maxHeartbeats 4000000 in
theorem back_any (n : Nat) (A : Option Addr) (m c : Nat) (es : List (Nat × Nat)) (root : Nat) (w : World) (h : EL w A m (cast es)) (hg : Fine n es) (hr : root < n) (hw : Good w) :
    Calls Tryd.prog 38 #[gV n A m c, .int .i64 root] w (NbPost n (backV es root) w) := by
  have kv := ((Below.refl w.heap.size w).alloc (Nat.le_refl _) (.cells #[.int .i64 (n : Nat), .slice A m c] 26)).alloc (by simp) (.cells #[.int .i64 (root : Nat)] 3)
  have G0 := (Cells.new w #[.int .i64 (n : Nat), .slice A m c] 26).keep ((Below.refl _ _).alloc (Nat.le_refl _) (.cells #[.int .i64 (root : Nat)] 3))
  have R0 := Cells.new (w.alloc (.cells #[.int .i64 (n : Nat), .slice A m c] 26)) #[.int .i64 (root : Nat)] 3
  simp only [World.size_alloc] at R0
  have HN := Lib.hid (neighbours_back n A m c es root (.pointer (some ⟨w.heap.size, 0, none⟩)) (.pointer (some ⟨w.heap.size + 1, 0, none⟩)) (backV es root) _ (h.keep kv) hg hr (fun w' v hb hv => back1_any n A m c es w.heap.size (w.heap.size + 1) root v w' (h.keep (below_on kv hb)) hg hr hv (hw.below (below_on kv hb) hw.size) ((G0.keep hb).at_ 0) ((G0.keep hb).at_ 1) ((R0.keep hb).at_ 0)))
  have kv := Lib.hid kv
  clear h hg hw G0 R0
  go_enter Tryd.func38, Tryd.ntmps38
  go_wp2_with fail
  refine HN.out.mono ?_
  rintro e w1 ⟨⟨g, rfl, hgs, hil⟩, hb1⟩
  have B1 := Lib.hid (below_on kv.out hb1)
  have I1 := Lib.hid hil
  have hg2 : w.heap.size ≤ g := by have := kv.out.size; simp at hgs; omega
  clear hb1 hil hgs
  go_wp2_with fail
  go_ret2
  exact ⟨⟨g, rfl, hg2, I1.out⟩, B1.out⟩
end Go.Proofs.YthocdmlacfejkaaDoor
