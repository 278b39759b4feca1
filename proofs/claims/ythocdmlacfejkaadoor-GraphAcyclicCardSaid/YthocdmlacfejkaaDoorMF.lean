/- Graph: Ins, Cyc, Cyl, Idx, Del, Snk, Exa, Kno. -/
import Derived.Test.YthocdmlacfejkaaDoorME
import Derived.Laws.IdiomCopy
import Derived.WalkSpells
import Derived.Laws.Cover3
import Derived.Lib.SliceRun
import Derived.Test.YthocdmlacfejkaaDoorMD
import Derived.Lib.LazyBuf
namespace Go.Proofs.YthocdmlacfejkaaDoor
open Go.RowKit
theorem below_cells {C g : Nat} (hg : C ≤ g) : ∀ (vs : List Value) (o : Nat) {w0 w : World}, Below C w0 w → Below C w0 (w.setCells g o vs)
  | [], _, _, _, h => h
  | v :: vs, o, _, _, h => below_cells hg vs (o + 1) (h.setCell (p := ⟨g, o, none⟩) hg v)
theorem size_cells (g : Nat) : ∀ (vs : List Value) (o : Nat) (w : World), (w.setCells g o vs).heap.size = w.heap.size
  | [], _, _ => rfl
  | v :: vs, o, w => by rw [World.setCells, size_cells g vs]; simp [World.setCell]
theorem isSome_cells (b : Nat) : ∀ (vs : List Value) (o : Nat) (w : World) (q : Addr), (w.cell? q).isSome = true → ((w.setCells b o vs).cell? q).isSome = true
  | [], _, _, _, h => h
  | v :: vs, o, w, q, h => by
    rw [World.setCells]
    refine isSome_cells b vs (o + 1) _ q ?_
    obtain ⟨u, hu⟩ := Option.isSome_iff_exists.1 h
    obtain ⟨v', hv⟩ := cell?_setCell_some (w := w) (p := ⟨b, o, none⟩) (x := v) (q := q) (v := u) hu
    rw [hv]; rfl
/-- A row as it lies. -/
theorem own_row {w : World} {C g cap n : Nat} {xs : List Value} {T : TypeId} (h : w.ownsRow C T 1 (.slice (some ⟨g, 0, none⟩) n cap) n xs) : ∃ cur : Array Value, C ≤ g ∧ w.heap[g]? = some (.cells cur T (0, 0)) ∧ n ≤ cap ∧ cap ≤ maxLen ∧ cur.size = cap ∧ cur.toList.take n = xs := by
  rcases h.2 with ⟨e, _⟩ | ⟨g', cap', cur, e, hg, hh, hnc, hcm, hcs, hx⟩
  · cases e
  · injection e with e1 _ e3
    injection e1 with e1
    injection e1 with e1
    subst e1 e3
    exact ⟨cur, hg, hh, hnc, hcm, by omega, by rwa [Nat.mul_one] at hx⟩
theorem own_cut' {w : World} {C g cap : Nat} {way : List Nat} (h : w.ownsRow C 3 1 (.slice (some ⟨g, 0, none⟩) way.length cap) way.length (nats way)) : w.ownsRow C 3 1 (.slice (some ⟨g, 0, none⟩) (way.length - 1) cap) (way.length - 1) (nats way.dropLast) := by
  refine ⟨by rw [nats_len, List.length_dropLast, Nat.mul_one], .inr ?_⟩
  rcases h.2 with ⟨e, _⟩ | ⟨g', cap', cur, e, hg, hh, hnc, hcm, hcs, hx⟩
  · cases e
  · injection e with e1 _ e3
    injection e1 with e1
    injection e1 with e1
    subst e1 e3
    refine ⟨g, cap, cur, rfl, hg, hh, by omega, hcm, hcs, ?_⟩
    rw [Nat.mul_one] at hx ⊢
    have : (cur.toList.take way.length).take (way.length - 1) = (nats way).take (way.length - 1) := by rw [hx]
    rw [List.take_take, Nat.min_eq_left (by omega)] at this
    rw [this]
    unfold nats
    rw [← List.map_take, List.dropLast_eq_take]
theorem own_some {w : World} {C n : Nat} {T : TypeId} {v : Value} {xs : List Value} (h : w.ownsRow C T 1 v n xs) (hn : 1 ≤ n) : ∃ g cap, v = .slice (some ⟨g, 0, none⟩) n cap ∧ g < w.heap.size ∧ n ≤ cap ∧ cap ≤ maxLen := by
  rcases h.2 with ⟨_, e⟩ | ⟨g, cap, cur, e, hg, hh, hnc, hcm, hcs, hx⟩
  · omega
  · refine ⟨g, cap, e, ?_, hnc, hcm⟩
    rcases Nat.lt_or_ge g w.heap.size with h1 | h1
    · exact h1
    · rw [Array.getElem?_eq_none h1] at hh; cases hh
theorem nats_one (l : List Nat) : ∀ v ∈ nats l, v.oneCell' = true := by
  intro v hv
  unfold nats at hv
  obtain ⟨n, _, rfl⟩ := List.mem_map.1 hv
  rfl
theorem nats_at {l : List Nat} {k : Nat} {v : Value} (h : (nats l)[k]? = some v) : ∃ n, l[k]? = some n ∧ v = .int .i64 (n : Nat) := by
  unfold nats at h
  rw [List.getElem?_map] at h
  cases e : l[k]? with
  | none => rw [e] at h; cases h
  | some n => rw [e] at h; injection h with h; exact ⟨n, rfl, h.symm⟩
theorem insert_any (C g cap a vb : Nat) (l : List Nat) (w : World) (h : w.ownsRow C 3 1 (.slice (some ⟨g, 0, none⟩) l.length cap) l.length (nats l)) (hroom : l.length + 1 ≤ cap) (hv : w.heap[vb]? = some (.cells #[.int .i64 (a : Nat)] 3 (0, 0))) (hne : vb ≠ g) :
    Calls Tryd.prog 115 #[.slice (some ⟨g, 0, none⟩) l.length cap, .int .i64 0, .slice (some ⟨vb, 0, none⟩) 1 1] w fun e w' => e = .returned (.slice (some ⟨g, 0, none⟩) (l.length + 1) cap) ∧ NL C w' (some ⟨g, 0, none⟩) (a :: l) ∧ Below C w w' := by
  obtain ⟨cur, hCg, hh, hnc, hcm, hcs, hx⟩ := own_row h
  unfold maxLen at hcm
  have hgl : g < w.heap.size := by
    rcases Nat.lt_or_ge g w.heap.size with h1 | h1
    · exact h1
    · rw [Array.getElem?_eq_none h1] at hh; cases hh
  have hsome : ∀ j, j < cap → (w.cell? ⟨g, j, none⟩).isSome = true := fun j hj => by
    rw [cell_of_row _ _ _ _ _ _ hh]; simp; omega
  have hfz : ∀ j, w.frozen? ⟨g, j, none⟩ = false := fun j => by simp [World.frozen?, hh]
  have hvz : ∀ j, w.frozen? ⟨vb, j, none⟩ = false := fun j => by simp [World.frozen?, hv]
  have hvs : ∀ j u, ([Value.int .i64 (a : Nat)] : List Value)[j]? = some u → w.cell? ⟨vb, 0 + j, none⟩ = some u := fun j u hu => by
    match j, hu with
    | 0, hu => simp at hu; subst hu; rw [cell_of_row _ _ _ _ _ _ hv]; rfl
  have hcell : ∀ k n, l[k]? = some n → w.cell? ⟨g, k, none⟩ = some (.int .i64 (n : Nat)) := fun k n hk => by
    rw [cell_of_row _ _ _ _ _ _ hh]
    have hkl : k < l.length := by
      rcases Nat.lt_or_ge k l.length with h1 | h1
      · exact h1
      · rw [List.getElem?_eq_none h1] at hk; cases hk
    have e1 : (cur.toList.take l.length)[k]? = cur.toList[k]? := List.getElem?_take_of_lt hkl
    rw [hx] at e1
    unfold nats at e1
    rw [List.getElem?_map, hk] at e1
    simpa using e1.symm
  by_cases h0 : l.length = 0
  · have hl : l = [] := List.eq_nil_of_length_eq_zero h0
    subst hl
    refine (Tryd.slices_Insert_int_end_room g 0 0 cap vb 0 1 1 [.int .i64 (a : Nat)] w (by decide) (by simpa using hroom) (by omega) rfl (fun j hj => by simpa using hsome j (by simp at hroom; omega)) (fun j hj => by simpa using hfz j) hvs (by simp [Value.oneCell'])).mono ?_
    rintro e w' ⟨rfl, rfl⟩
    refine ⟨rfl, fun k n hk => ?_, below_cells hCg _ _ (Below.refl _ _)⟩
    match k, hk with
    | 0, hk =>
      simp at hk
      subst hk
      exact ⟨g, 0, rfl, hCg, by rw [size_cells]; exact hgl, by simpa using World.cell?_setCells_in g [.int .i64 (a : Nat)] 0 w (fun j hj => by simp at hj; subst hj; simpa using hsome 0 (by simp at hroom; omega)) 0 (by simp)⟩
  · refine (Tryd.slices_Insert_int_shift g 0 l.length cap 0 vb 0 1 1 (nats l) [.int .i64 (a : Nat)] w (by omega) (by decide) hroom (by omega) hne (nats_len l) rfl (fun j u hu => ?_) (fun j hj => by simpa using hsome j (by omega)) (fun j hj => by simpa using hfz j) hvs (nats_one l) (by simp [Value.oneCell']) 3 3 1 cap (by simp [World.shape?, hv]) (by simp [World.shape?, hh, hcs]) (by omega) (hvz 0) (hvz 1)).mono ?_
    · obtain ⟨n, hn, rfl⟩ := nats_at hu
      simpa using hcell j n hn
    · rintro e w' ⟨rfl, rfl⟩
      have hs1 : ∀ j, j < cap → (w.drew.cell? ⟨g, j, none⟩).isSome = true := hsome
      have hs2 : ∀ j, j < cap → ((w.drew.setCells g (0 + (0 + 1)) ((nats l).drop 0)).cell? ⟨g, j, none⟩).isSome = true := fun j hj => isSome_cells g _ _ _ _ (hs1 j hj)
      refine ⟨rfl, fun k n hk => ⟨g, 0, rfl, hCg, by rw [size_cells, size_cells]; exact hgl, ?_⟩, below_cells hCg _ _ (below_cells hCg _ _ (Below.refl _ _).drew)⟩
      cases k with
      | zero =>
        simp at hk
        subst hk
        simpa using World.cell?_setCells_in g [.int .i64 (a : Nat)] 0 (w.drew.setCells g (0 + (0 + 1)) ((nats l).drop 0)) (fun j hj => by simp at hj; subst hj; simpa using hs2 0 (by omega)) 0 (by simp)
      | succ k =>
        have hk2 : l[k]? = some n := by simpa using hk
        have hkl : k < l.length := by
          rcases Nat.lt_or_ge k l.length with h1 | h1
          · exact h1
          · rw [List.getElem?_eq_none h1] at hk2; cases hk2
        rw [World.cell?_setCells_out g _ _ _ _ (by intro _ _; simp)]
        have := World.cell?_setCells_in g ((nats l).drop 0) (0 + (0 + 1)) w.drew (fun j hj => hs1 _ (by rw [List.drop_zero, nats_len] at hj; omega)) k (by rw [List.drop_zero, nats_len]; exact hkl)
        rw [show 0 + (k + 1) = 0 + (0 + 1) + k by omega, this]
        have e : (nats l)[k]? = some (.int .i64 (n : Nat)) := by unfold nats; rw [List.getElem?_map, hk2]; rfl
        rw [← List.getElem?_eq_getElem, List.drop_zero, e]
end Go.Proofs.YthocdmlacfejkaaDoor
namespace Go.Proofs.YthocdmlacfejkaaDoor
open Go.RowKit
/-- From which node the way back is the shortest one: the first of them. -/
def bestM (D : Nat → Int) (l : List Nat) : Option Nat := l.foldl (fun b n => if 0 ≤ D n then (match b with | none => some n | some x => if D n < D x then some n else some x) else b) none
theorem bestM_snoc (D : Nat → Int) (l : List Nat) (n : Nat) : bestM D (l ++ [n]) = if 0 ≤ D n then (match bestM D l with | none => some n | some x => if D n < D x then some n else some x) else bestM D l := by
  unfold bestM; rw [List.foldl_append]; rfl
theorem bestM_mem (D : Nat → Int) (l : List Nat) : ∀ x, bestM D l = some x → x ∈ l ∧ 0 ≤ D x := by
  have key : ∀ (l l0 : List Nat), (∀ x, bestM D l0 = some x → x ∈ l0 ∧ 0 ≤ D x) → ∀ x, bestM D (l0 ++ l) = some x → x ∈ l0 ++ l ∧ 0 ≤ D x := by
    intro l
    induction l with
    | nil => intro l0 h; simpa using h
    | cons n l ih =>
      intro l0 h
      have := ih (l0 ++ [n]) (fun x hx => by
        rw [bestM_snoc] at hx
        by_cases h0 : 0 ≤ D n
        · rw [if_pos h0] at hx
          cases hb : bestM D l0 with
          | none => rw [hb] at hx; injection hx with hx; subst hx; exact ⟨by simp, h0⟩
          | some y =>
            rw [hb] at hx
            simp only at hx
            obtain ⟨h1, h2⟩ := h y hb
            by_cases h3 : D n < D y
            · rw [if_pos h3] at hx; injection hx with hx; subst hx; exact ⟨by simp, h0⟩
            · rw [if_neg h3] at hx; injection hx with hx; subst hx; exact ⟨by simp [h1], h2⟩
        · rw [if_neg h0] at hx
          obtain ⟨h1, h2⟩ := h x hx
          exact ⟨by simp [h1], h2⟩)
      simpa using this
  have := key l [] (fun x hx => by cases hx)
  simpa using this
def bI : Option Nat → Int
  | none => -1
  | some x => x
/-- The first of the shortest cycles through a node, if there is one. -/
def cycM (es : List (Nat × Nat)) (node : Nat) : Option (List Nat) :=
  (bestM (dist (adjR es) (sing node)) (bitsOf (adj es node))).map fun b => node :: (wayM (adj es) (dist (adjR es) (sing node)) (dist (adjR es) (sing node) b).toNat b).dropLast
def CycPost (es : List (Nat × Nat)) (node : Nat) (w : World) (e : Ending) (w' : World) : Prop :=
  ((cycM es node = none ∧ e = .returned (.slice none 0 0)) ∨ ∃ l g c, cycM es node = some l ∧ e = .returned (.slice (some ⟨g, 0, none⟩) l.length c) ∧ NL w.heap.size w' (some ⟨g, 0, none⟩) l ∧ l.length ≤ c) ∧ Below w.heap.size w w'
attribute [local irreducible] wpStill
set_option maxRecDepth 100000 in
set_option maxHeartbeats 8000000 in
theorem cycleThrough_any (n : Nat) (A : Option Addr) (m c : Nat) (es : List (Nat × Nat)) (node : Nat) (w : World) (h : EL w A m (cast es)) (hg : Fine n es) (hv : node < n) (hw : Good w) :
    Calls Tryd.prog 87 #[gV n A m c, .int .i64 node] w (CycPost es node w) := by
  have hlen := h.len
  have hm : m ≤ 4096 := by have := hg.len; omega
  have hn64 := hg.n64
  have hv64 : node < 64 := by omega
  have hvi : (node : Int) < 64 := by omega
  have HL : ∀ i, Under 64 (adj es i) := fun i => adj_under hg.low64 i
  have kv := (Below.refl w.heap.size w).alloc (Nat.le_refl _) (.cells #[.int .i64 (n : Nat), .slice A m c] 26)
  have G0 := Lib.hid (Cells.new w #[.int .i64 (n : Nat), .slice A m c] 26)
  have HW := Lib.hid (fun w' (h : Below w.heap.size w w') => hw.below h hw.size)
  have HD := Lib.hid (fun w' (hb' : Below w.heap.size w w') => distances_any n A m c es node w' (h.keep hb') hg.low64 hm hv64 (hw.below hb' hw.size))
  have HN := Lib.hid (fun w' (hb' : Below w.heap.size w w') => next_any n A m c es w' (h.keep hb') hg.low64 hm)
  have HWk := Lib.hid (fun (a d : Nat) w' (ha : a < 64) (hd : dist (adjR es) (sing node) a = (d : Int)) (hb' : Below w.heap.size w w') => walk_any n A m c es (dist (adjR es) (sing node)) a d w' (h.keep hb') hg.low64 hm ha hd (by have := distTo_bd (adjR es) (sing node) 65 a; unfold dist at hd; omega) (fun _ _ _ hk => dist_down hg.low64 hk) (dist_bd _ _) (hw.below hb' hw.size))
  have Hbd := Lib.hid (dist_bd (adjR es) (sing node))
  have Hc := Lib.hid (show cycM es node = (bestM (dist (adjR es) (sing node)) (bitsOf (adj es node))).map fun b => node :: (wayM (adj es) (dist (adjR es) (sing node)) (dist (adjR es) (sing node) b).toNat b).dropLast from rfl)
  have kv := Lib.hid kv
  obtain ⟨D, hD⟩ : ∃ D, dist (adjR es) (sing node) = D := ⟨_, rfl⟩
  rw [hD] at HD HWk Hbd Hc
  have HL := Lib.hid HL
  clear h hg hw hD hlen
  go_enter Tryd.func87, Tryd.ntmps87
  go_wp2_with fail
  refine (HD.out _ kv.out).mono ?_
  rintro e w2 ⟨rfl, hb2⟩
  have B2 := Lib.hid (below_on kv.out hb2)
  have R2 := Lib.hid (Row.new w2 112 (nums D))
  have ka := (Below.refl w2.heap.size w2).alloc (Nat.le_refl _) (.cells (nums D).toArray 112)
  have B3 := Lib.hid (below_on B2.out ka)
  have G3 := Lib.hid ((G0.out.keep hb2).keep ka)
  obtain ⟨w3, hw3⟩ : ∃ u, w2.alloc (.cells (nums D).toArray 112) = u := ⟨_, rfl⟩
  obtain ⟨p3, hp3⟩ : ∃ p, w2.heap.size = p := ⟨_, rfl⟩
  rw [hw3] at R2 B3 G3
  rw [hp3] at R2
  have h0 := G3.out.at_ 0
  have h1 := G3.out.at_ 1
  simp only [List.getElem?_cons_zero, List.getElem?_cons_succ] at h0 h1
  clear hb2 ka
  go_wp2_with (first
    | (refine wpList_store_new rfl 112 (.tmp 5) (.tmp 12) rfl (nums D).toArray 112 _ (by first | rfl | (rw [hp3]; rfl)) rfl (by rw [info_nums]; simp [nums_len]) (by simp [nums_len]) (nums_one _) ?_; rw [hw3]))
  refine (HN.out _ B3.out).mono ?_
  rintro e w4 ⟨q, rfl, hq, hqs, hb4⟩
  have R4 := Lib.hid (R2.out.keep hb4)
  have B4 := Lib.hid (below_on B3.out hb4)
  have G4 := Lib.hid (G3.out.keep hb4)
  have a1 := (hq.at_ node).trans (sets_at (adj es) hv64)
  have HLs := list_any (adj es node) w4 (under_lt (HL.out node)) (HW.out _ B4.out)
  have Hm := Lib.hid (fun i n (hi : (bitsOf (adj es node))[i]? = some n) => (mem_bitsOf.1 (List.mem_of_getElem? hi)).1)
  have hl64 := bitsOf_len (adj es node)
  obtain ⟨l, hl⟩ : ∃ l, bitsOf (adj es node) = l := ⟨_, rfl⟩
  rw [hl] at HLs Hm hl64 Hc
  have HLs := Lib.hid HLs
  clear hq hqs hb4 hl h0 h1 hp3 hw3
  go_wp2_with fail
  refine HLs.out.mono ?_
  rintro e w5 ⟨v, rfl, hown, hb5⟩
  obtain ⟨A5, c5, rfl, hn5, _, _⟩ := own_nats hown
  have N5 := Lib.hid hn5
  have R5 := Lib.hid (R4.out.keep hb5)
  have B5 := Lib.hid (below_on B4.out hb5)
  have G5 := Lib.hid (G4.out.keep hb5)
  clear hown hn5 hb5 a1
  go_wp2_with fail
  go_loopw [21, 6] (fun i bv wr => ∃ j : Nat, i = .int .i64 (j : Nat) ∧ j ≤ l.length ∧ bv = .int .i64 (bI (bestM D (l.take j))) ∧ Row wr p3 112 (nums D) ∧ NL w4.heap.size wr A5 l ∧ Cells wr w.heap.size [.int .i64 (n : Nat), .slice A m c] ∧ Below w.heap.size w wr) (fun i _ _ => l.length - (intOf i).toNat)
  case atStart => exact ⟨0, rfl, Nat.zero_le _, rfl, R5.out, N5.out, G5.out, B5.out⟩
  case round =>
    obtain ⟨j, rfl, hj, rfl, hr, hn, hgc, hb⟩ := hrel
    have R6 := Lib.hid hr
    have N6 := Lib.hid hn
    have G6 := Lib.hid hgc
    have B6 := Lib.hid hb
    clear hr hn hgc hb
    by_cases hlt : j < l.length
    · obtain ⟨x, b, o, hx, rfl, _, _, hcell⟩ := N6.out.at_ hlt
      have hx64 := Hm.out _ _ hx
      have hxi : (x : Int) < 64 := by omega
      have Hlt := Lib.hid hlt
      have z0 := (R6.out.cells.at_ x).trans (nums_at D hx64)
      have hsn := bestM_snoc D (l.take j) x
      rw [show l.take j ++ [x] = l.take (j + 1) by rw [List.take_add_one, hx]; rfl] at hsn
      have hbx := Hbd.out x
      obtain ⟨dx, hdx⟩ : ∃ dx, D x = dx := ⟨_, rfl⟩
      rw [hdx] at z0 hsn hbx
      cases hbm : bestM D (l.take j) with
      | none =>
        rw [hbm] at hsn
        obtain ⟨s, hs, hs0⟩ : ∃ s : Int, bI none = s ∧ s < 0 := ⟨_, rfl, by decide⟩
        rw [hs]
        have Hs := Lib.hid hs
        have t1 : decide (s < 0) = true := decide_eq_true hs0
        clear hs
        by_cases h0 : 0 ≤ dx
        · rw [if_pos h0] at hsn
          have Hsn := Lib.hid hsn
          have t0 : decide (0 ≤ dx) = true := decide_eq_true h0
          clear hx hsn hdx hbm
          go_wp2_with fail
          go_still_tail 16, (by kernel_rfl)
          change wpList _ _ _ _ _ wr.drew
          go_wp2_with fail
          go_roundw
          case rel => exact ⟨j + 1, by go_num, Hlt.out, by rw [Hsn.out]; first | rfl | rw [Hs.out], R6.out, N6.out.keep (Below.refl _ _).drew, G6.out.drew, B6.out.drew⟩
          case measure => simp [intOf]; have := Hlt.out; omega
        · rw [if_neg h0] at hsn
          have Hsn := Lib.hid hsn
          have t0 : decide (0 ≤ dx) = false := decide_eq_false h0
          clear hx hsn hdx hbm
          go_wp2_with fail
          go_still_tail 16, (by kernel_rfl)
          change wpList _ _ _ _ _ wr.drew
          go_wp2_with fail
          go_roundw
          case rel => exact ⟨j + 1, by go_num, Hlt.out, by rw [Hsn.out]; first | rfl | rw [Hs.out], R6.out, N6.out.keep (Below.refl _ _).drew, G6.out.drew, B6.out.drew⟩
          case measure => simp [intOf]; have := Hlt.out; omega
      | some y =>
        rw [hbm] at hsn
        simp only at hsn
        have ebi : bI (some y) = (y : Int) := rfl
        rw [ebi]
        obtain ⟨hy1, hy2⟩ := bestM_mem D _ y hbm
        have hy64 : y < 64 := by
          obtain ⟨i, hi⟩ := List.getElem?_of_mem (List.mem_of_mem_take hy1)
          exact Hm.out i y hi
        have hyi : (y : Int) < 64 := by omega
        have z1 := (R6.out.cells.at_ y).trans (nums_at D hy64)
        have hby := Hbd.out y
        obtain ⟨dy, hdy⟩ : ∃ dy, D y = dy := ⟨_, rfl⟩
        rw [hdy] at z1 hsn hby
        by_cases h0 : 0 ≤ dx
        · rw [if_pos h0] at hsn
          have t0 : decide (0 ≤ dx) = true := decide_eq_true h0
          have t1 : decide ((y : Int) < 0) = false := decide_eq_false (by omega)
          by_cases h2 : dx < dy
          · rw [if_pos h2] at hsn
            have t2 : decide (dx < dy) = true := decide_eq_true h2
            have Hsn := Lib.hid hsn
            clear hx hsn hdx hbm hy1 hy2 hdy
            go_wp2_with fail
            go_still_tail 16, (by kernel_rfl)
            change wpList _ _ _ _ _ wr.drew
            go_wp2_with fail
            go_roundw
            case rel => exact ⟨j + 1, by go_num, Hlt.out, by rw [Hsn.out]; first | rfl | rw [Hs.out], R6.out, N6.out.keep (Below.refl _ _).drew, G6.out.drew, B6.out.drew⟩
            case measure => simp [intOf]; have := Hlt.out; omega
          · rw [if_neg h2] at hsn
            have t2 : decide (dx < dy) = false := decide_eq_false h2
            have Hsn := Lib.hid hsn
            clear hx hsn hdx hbm hy1 hy2 hdy
            go_wp2_with fail
            go_still_tail 16, (by kernel_rfl)
            change wpList _ _ _ _ _ wr.drew
            go_wp2_with fail
            go_roundw
            case rel => exact ⟨j + 1, by go_num, Hlt.out, by rw [Hsn.out]; first | rfl | rw [Hs.out], R6.out, N6.out.keep (Below.refl _ _).drew, G6.out.drew, B6.out.drew⟩
            case measure => simp [intOf]; have := Hlt.out; omega
        · rw [if_neg h0] at hsn
          have t0 : decide (0 ≤ dx) = false := decide_eq_false h0
          have Hsn := Lib.hid hsn
          clear hx hsn hdx hbm hy1 hy2 hdy
          go_wp2_with fail
          go_still_tail 16, (by kernel_rfl)
          change wpList _ _ _ _ _ wr.drew
          go_wp2_with fail
          go_roundw
          case rel => exact ⟨j + 1, by go_num, Hlt.out, by rw [Hsn.out]; first | rfl | rw [Hs.out], R6.out, N6.out.keep (Below.refl _ _).drew, G6.out.drew, B6.out.drew⟩
          case measure => simp [intOf]; have := Hlt.out; omega
    · have hall : bestM D (l.take j) = bestM D l := by rw [List.take_of_length_le (by omega)]
      rw [hall]
      cases hbm : bestM D l with
      | none =>
        rw [hbm] at Hc
        have ebi : bI none = -1 := rfl
        rw [ebi]
        have Hc := Lib.hid (show cycM es node = none from Hc.out)
        clear hall hbm
        go_wp2_with fail
        go_ret
        exact ⟨.inl ⟨Hc.out, rfl⟩, B6.out⟩
      | some y =>
        rw [hbm] at Hc
        have ebi : bI (some y) = (y : Int) := rfl
        rw [ebi]
        obtain ⟨hy1, hy2⟩ := bestM_mem D _ y hbm
        have hy64 : y < 64 := by
          obtain ⟨i, hi⟩ := List.getElem?_of_mem hy1
          exact Hm.out i y hi
        have t1 : decide ((y : Int) < 0) = false := decide_eq_false (by omega)
        obtain ⟨d, hd⟩ : ∃ d : Nat, D y = (d : Int) := ⟨_, (Int.toNat_of_nonneg hy2).symm⟩
        have Hc := Hc.out
        rw [Option.map_some, hd, Int.toNat_natCast] at Hc
        have HK := HWk.out y d wr hy64 hd B6.out
        have hwl := wayM_len (adj es) D d y
        have hd65 : d ≤ 65 := by have := Hbd.out y; omega
        obtain ⟨lw, hlw⟩ : ∃ lw, wayM (adj es) D d y = lw := ⟨_, rfl⟩
        rw [hlw] at HK Hc hwl
        have HK := Lib.hid HK
        have Hc := Lib.hid Hc
        have h0 := G6.out.at_ 0
        have h1 := G6.out.at_ 1
        simp only [List.getElem?_cons_zero, List.getElem?_cons_succ] at h0 h1
        have hwl := Lib.hid hwl
        have hws := Lib.hid B6.out.size
        clear hall hbm hy1 hy2 hd hlw
        go_wp2_with (first
          | (refine wpList_load_row rfl 112 (.tmp 5) rfl p3 rfl 112 _ (0, 0) _ R6.out Tryd.underlying112 rfl (by rw [info_nums]; simp [nums_len]) ?_))
        refine HK.out.mono ?_
        rintro e w7 ⟨v, rfl, hown, hb7⟩
        have hwl := hwl.out
        have hws := hws.out
        obtain ⟨g, cap, rfl, hgl, hlc, hcm⟩ := own_some hown (by omega)
        have B7 := Lib.hid (below_on B6.out hb7)
        have Cut := own_cut' hown
        rw [show lw.length - 1 = lw.dropLast.length by rw [List.length_dropLast]] at Cut
        have Cut := Lib.hid (own_below Cut ((Below.refl w7.heap.size w7).alloc (Nat.le_refl _) (.cells #[.int .i64 (node : Nat)] 3)))
        have hdl : lw.dropLast.length = d := by rw [List.length_dropLast, hwl]; rfl
        have HI := insert_any wr.heap.size g cap node w7.heap.size lw.dropLast (w7.alloc (.cells #[.int .i64 (node : Nat)] 3)) Cut.out (by rw [hdl]; omega) (heap_new w7 _) (by omega)
        have B8 := Lib.hid (B7.out.alloc B7.out.size (.cells #[.int .i64 (node : Nat)] 3))
        rw [hwl] at hlc ⊢
        rw [hdl] at HI
        have HI := Lib.hid HI
        have Hdl := Lib.hid hdl
        unfold maxLen at hcm
        have ew : IntKind.i64.wrap (((d + 1 : Nat) : Int) - 1) = (d : Int) := by rw [show ((d + 1 : Nat) : Int) - 1 = (d : Int) by omega]; exact IntWalk.i64_in _ (by omega)
        have i1 : (d : Int) ≤ (cap : Int) := by omega
        have Hcap := Lib.hid hlc
        clear hown hb7 hgl hdl h0 h1 hwl
        go_wp2_with fail
        refine HI.out.mono ?_
        rintro e w9 ⟨rfl, hnl, hb9⟩
        have Hnl := Lib.hid (hnl.down hws)
        have B9 := Lib.hid (B8.out.trans (hb9.mono hws))
        clear hnl hb9
        go_wp2_with fail
        go_ret
        refine ⟨.inr ⟨_, g, cap, Hc.out, ?_, Hnl.out, ?_⟩, B9.out⟩
        · rw [List.length_cons, Hdl.out]
          rfl
        · rw [List.length_cons, Hdl.out]
          exact Hcap.out
end Go.Proofs.YthocdmlacfejkaaDoor
namespace Go.Proofs.YthocdmlacfejkaaDoor
open Go.RowKit
/-- The first of the shortest cycles through the nodes below k. -/
def cycleM (es : List (Nat × Nat)) : Nat → Option (List Nat)
  | 0 => none
  | k + 1 => match cycM es k with
    | none => cycleM es k
    | some l => match cycleM es k with
      | none => some l
      | some b => if l.length < b.length then some l else some b
/-- A list of nodes that may be missing. -/
def SLv (lo : Nat) (w : World) (o : Option (List Nat)) (v : Value) : Prop :=
  (o = none ∧ v = .slice none 0 0) ∨ ∃ l g c, o = some l ∧ v = .slice (some ⟨g, 0, none⟩) l.length c ∧ NL lo w (some ⟨g, 0, none⟩) l ∧ l.length ≤ c
theorem SLv.keep {lo : Nat} {w w' : World} {o : Option (List Nat)} {v : Value} (h : SLv lo w o v) (hb : Below w.heap.size w w') : SLv lo w' o v := by
  rcases h with h | ⟨l, g, c, h1, h2, h3, h4⟩
  · exact .inl h
  · exact .inr ⟨l, g, c, h1, h2, h3.keep hb, h4⟩
theorem eql_nil_nil (w : World) : (binOp .eql 50 (.slice none 0 0) (.slice none 0 0)).run Tryd.prog w = .ok (.bool true) w := Lib.run_eql_slice_nil w 50 3 none 0 0 0 0 Tryd.underlying50
theorem eql_some_nil (w : World) (x : Addr) (n c : Nat) : (binOp .eql 50 (.slice (some x) n c) (.slice none 0 0)).run Tryd.prog w = .ok (.bool false) w := Lib.run_eql_slice_nil w 50 3 (some x) n c 0 0 Tryd.underlying50
def CylPost (es : List (Nat × Nat)) (n : Nat) (w : World) (e : Ending) (w' : World) : Prop :=
  ((cycleM es n = none ∧ e = .returned (.tuple #[.slice none 0 0, .int .i64 10])) ∨ ∃ l g c, cycleM es n = some l ∧ e = .returned (.tuple #[.slice (some ⟨g, 0, none⟩) l.length c, .int .i64 0]) ∧ NL w.heap.size w' (some ⟨g, 0, none⟩) l ∧ l.length ≤ c) ∧ Below w.heap.size w w'
set_option maxRecDepth 100000 in
set_option maxHeartbeats 8000000 in
theorem cycle_any (n : Nat) (A : Option Addr) (m c : Nat) (es : List (Nat × Nat)) (w : World) (h : EL w A m (cast es)) (hg : Fine n es) (hw : Good w) :
    Calls Tryd.prog 31 #[gV n A m c] w (CylPost es n w) := by
  have hlen := h.len
  have hm : m ≤ 4096 := by have := hg.len; omega
  have hn64 := hg.n64
  have kv := (Below.refl w.heap.size w).alloc (Nat.le_refl _) (.cells #[.int .i64 (n : Nat), .slice A m c] 26)
  have G0 := Lib.hid (Cells.new w #[.int .i64 (n : Nat), .slice A m c] 26)
  have HC := check_any (n : Int) A m c (cast es) (w.alloc (.cells #[.int .i64 (n : Nat), .slice A m c] 26)) (h.keep kv) (by omega)
  rw [hg.check] at HC
  have HC := Lib.hid HC
  have HT := Lib.hid (fun w' (i : Nat) (hi : i < n) (hb' : Below w.heap.size w w') => cycleThrough_any n A m c es i w' (h.keep hb') hg hi (hw.below hb' hw.size))
  have kv := Lib.hid kv
  clear h hg hw hlen
  have q0 := eql_nil_nil
  have q1 := eql_some_nil
  go_enter Tryd.func31, Tryd.ntmps31
  go_wp2_with fail
  refine HC.out.mono ?_
  rintro e w1 ⟨rfl, hb1⟩
  have G1 := Lib.hid (G0.out.keep hb1)
  have B1 := Lib.hid (below_on kv.out hb1)
  have g0 := G1.out.at_ 0
  have g1 := G1.out.at_ 1
  simp only [List.getElem?_cons_zero, List.getElem?_cons_succ] at g0 g1
  clear hb1
  go_wp2_with fail
  go_loopw [15, 5] (fun i bv wr => ∃ j : Nat, i = .int .i64 (j : Nat) ∧ j ≤ n ∧ SLv w.heap.size wr (cycleM es j) bv ∧ Cells wr w.heap.size [.int .i64 (n : Nat), .slice A m c] ∧ Below w.heap.size w wr) (fun i _ _ => n - (intOf i).toNat)
  case atStart => exact ⟨0, rfl, Nat.zero_le _, .inl ⟨rfl, rfl⟩, G1.out, B1.out⟩
  case round =>
    obtain ⟨j, rfl, hj, hsl, hgc, hb⟩ := hrel
    have S6 := Lib.hid hsl
    have G6 := Lib.hid hgc
    have B6 := Lib.hid hb
    have h0 := G6.out.at_ 0
    have h1 := G6.out.at_ 1
    simp only [List.getElem?_cons_zero, List.getElem?_cons_succ] at h0 h1
    clear hsl hgc hb g0 g1
    obtain ⟨wa, rfl⟩ : ∃ wa : World, wa = wr := ⟨_, rfl⟩
    by_cases hlt : j < n
    · have Hlt := Lib.hid hlt
      go_wp2_with fail
      refine (HT.out _ j Hlt.out B6.out).mono ?_
      rintro e w7 ⟨hc, hb7⟩
      have G7 := Lib.hid (G6.out.keep hb7)
      have B7 := Lib.hid (below_on B6.out hb7)
      have S7 := Lib.hid (S6.out.keep hb7)
      have Hs := Lib.hid (show cycleM es (j + 1) = (match cycM es j with | none => cycleM es j | some l => match cycleM es j with | none => some l | some b => if l.length < b.length then some l else some b) from rfl)
      rcases hc with ⟨hc, rfl⟩ | ⟨l, g, cap, hc, rfl, hl⟩
      · rw [hc] at Hs
        clear hb7 hc h0 h1
        go_wp2_with fail
        go_roundw
        case rel => exact ⟨j + 1, by go_num, Hlt.out, by rw [Hs.out]; exact S7.out, G7.out, B7.out⟩
        case measure => simp [intOf]; have := Hlt.out; omega
      · rw [hc] at Hs
        have L7 := Lib.hid (And.intro (hl.1.down B6.out.size) hl.2)
        clear hb7 hc hl h0 h1
        rcases S7.out with ⟨ho, hv⟩ | ⟨b, g2, cap2, ho, hv, hl2⟩
        · rw [ho] at Hs
          subst hv
          clear ho
          go_wp2_with fail
          go_roundw
          case rel => exact ⟨j + 1, by go_num, Hlt.out, by rw [Hs.out]; exact .inr ⟨l, g, cap, rfl, rfl, L7.out⟩, G7.out, B7.out⟩
          case measure => simp [intOf]; have := Hlt.out; omega
        · rw [ho] at Hs
          subst hv
          have M7 := Lib.hid hl2
          clear ho hl2
          by_cases hlb : l.length < b.length
          · have t1 : decide ((l.length : Int) < (b.length : Int)) = true := decide_eq_true (by omega)
            have t2 : decide (l.length < b.length) = true := decide_eq_true hlb
            have Hs := Lib.hid (Hs.out.trans (if_pos hlb))
            clear hlb
            go_wp2_with fail
            go_roundw
            case rel => exact ⟨j + 1, by go_num, Hlt.out, by rw [Hs.out]; exact .inr ⟨l, g, cap, rfl, rfl, L7.out⟩, G7.out, B7.out⟩
            case measure => simp [intOf]; have := Hlt.out; omega
          · have t1 : decide ((l.length : Int) < (b.length : Int)) = false := decide_eq_false (by omega)
            have t2 : decide (l.length < b.length) = false := decide_eq_false hlb
            have Hs := Lib.hid (Hs.out.trans (if_neg hlb))
            clear hlb
            go_wp2_with fail
            go_roundw
            case rel => exact ⟨j + 1, by go_num, Hlt.out, by rw [Hs.out]; exact .inr ⟨b, g2, cap2, rfl, rfl, M7.out⟩, G7.out, B7.out⟩
            case measure => simp [intOf]; have := Hlt.out; omega
    · have hjn : j = n := by omega
      subst hjn
      rcases S6.out with ⟨ho, hv⟩ | ⟨b, g2, cap2, ho, hv, hl2⟩
      · subst hv
        have Ho := Lib.hid ho
        clear ho
        go_wp2_with fail
        go_ret2
        exact ⟨.inl ⟨Ho.out, rfl⟩, B6.out⟩
      · subst hv
        have Ho := Lib.hid ho
        have M := Lib.hid hl2
        clear ho hl2
        go_wp2_with fail
        go_ret2
        exact ⟨.inr ⟨b, g2, cap2, Ho.out, rfl, M.out⟩, B6.out⟩
end Go.Proofs.YthocdmlacfejkaaDoor
namespace Go.Proofs.YthocdmlacfejkaaDoor
open Go.RowKit
def IdxPost (l : List Nat) (del : Nat → Bool) (w : World) (e : Ending) (w' : World) : Prop :=
  (((∀ x ∈ l, del x = false) ∧ e = .returned (.int .i64 (-1))) ∨ ∃ k x, l[k]? = some x ∧ del x = true ∧ (∀ y ∈ l.take k, del y = false) ∧ e = .returned (.int .i64 (k : Nat))) ∧ Below w.heap.size w w'
set_option maxRecDepth 100000 in
set_option maxHeartbeats 8000000 in
theorem index_any (B : Nat) (A : Option Addr) (c : Nat) (l : List Nat) (del : Nat → Bool) (y : Value) (w : World) (h : UL B w A l) (hl : ∀ x ∈ l, x < 18446744073709551616) (hn : l.length ≤ 1000)
    (hF : ∀ w' x, x < 18446744073709551616 → Below w.heap.size w w' → Calls Tryd.prog 98 #[.int .u64 (x : Nat), y] w' fun e w2 => e = .returned (.bool (del x)) ∧ Below w'.heap.size w' w2) :
    Calls Tryd.prog 117 #[.slice A l.length c, .func (.func 98) #[] #[y]] w (IdxPost l del w) := by
  have U0 := Lib.hid h
  have HF := Lib.hid hF
  have Hl := Lib.hid hl
  clear h hF hl
  go_enter Tryd.func117, Tryd.ntmps117
  go_wp2_with fail
  go_loopw [8] (fun i wr => ∃ j : Nat, i = .int .i64 (j : Nat) ∧ j ≤ l.length ∧ (∀ y ∈ l.take j, del y = false) ∧ Below w.heap.size w wr) (fun i _ => l.length - (intOf i).toNat)
  case atStart => exact ⟨0, rfl, Nat.zero_le _, fun y hy => by simp at hy, Below.refl _ _⟩
  case round =>
    obtain ⟨j, rfl, hj, hall, hb⟩ := hrel
    have Hall := Lib.hid hall
    have B6 := Lib.hid hb
    have U6 := Lib.hid (U0.out.keep hb)
    clear hall hb
    obtain ⟨wa, rfl⟩ : ∃ wa : World, wa = wr := ⟨_, rfl⟩
    by_cases hlt : j < l.length
    · obtain ⟨x, b, o, hx, rfl, _, _, hcell⟩ := U6.out.at_ hlt
      have Hlt := Lib.hid hlt
      have Hx := Lib.hid hx
      have hx64 := Hl.out x (List.mem_of_getElem? hx)
      have HFx := HF.out wa x hx64 B6.out
      obtain ⟨bx, hbx⟩ : ∃ bx, del x = bx := ⟨_, rfl⟩
      rw [hbx] at HFx
      have HFx := Lib.hid HFx
      have Hb := Lib.hid hbx
      clear hx hbx
      go_wp2_with fail
      refine HFx.out.mono ?_
      rintro e w7 ⟨rfl, hb7⟩
      have B7 := Lib.hid (below_on B6.out hb7)
      clear hb7
      cases bx
      · go_wp2_with fail
        go_roundw
        case rel => exact ⟨j + 1, by go_num, Hlt.out, fun y hy => by
          rw [List.take_add_one, Hx.out] at hy
          simp at hy
          rcases hy with hy | rfl
          · exact Hall.out y hy
          · exact Hb.out, B7.out⟩
        case measure => simp [intOf]; have := Hlt.out; omega
      · go_wp2_with fail
        go_ret
        exact ⟨.inr ⟨j, x, Hx.out, Hb.out, Hall.out, rfl⟩, B7.out⟩
    · have hjl : l.take j = l := List.take_of_length_le (by omega)
      rw [hjl] at Hall
      clear hjl
      go_wp2_with fail
      go_ret
      exact ⟨.inl ⟨Hall.out, rfl⟩, B6.out⟩
set_option maxRecDepth 100000 in
set_option maxHeartbeats 8000000 in
theorem leaves_any (p q : Nat) (L : Nat → Nat) (s : Nat) (w : World) (hc : Cells w p (sets L)) (hq : w.cell? ⟨q, 0, none⟩ = some (.pointer (some ⟨p, 0, none⟩))) (hL : ∀ i, Under 64 (L i)) (hs : s < 18446744073709551616) (hw : Good w) :
    Calls Tryd.prog 98 #[.int .u64 (s : Nat), .pointer (some ⟨q, 0, none⟩)] w fun e w' => e = .returned (.bool (!(lev L s 64 == s))) ∧ Below w.heap.size w w' := by
  have HR := Lib.hid (reach_any p L s w hc hL hs hw)
  obtain ⟨r, hr⟩ : ∃ r, lev L s 64 = r := ⟨_, rfl⟩
  rw [hr] at HR ⊢
  clear hc hL hs hw hr
  go_enter Tryd.func98, Tryd.ntmps98
  go_wp2_with fail
  refine HR.out.mono ?_
  rintro e w7 ⟨rfl, hb7⟩
  have B7 := Lib.hid hb7
  clear hb7
  go_wp2_with fail
  go_ret
  refine ⟨?_, B7.out⟩
  have h2 : ((r : Int) != (s : Int)) = !(r == s) := by
    rw [Bool.eq_iff_iff]
    simp
    omega
  rw [h2]
  rfl
end Go.Proofs.YthocdmlacfejkaaDoor
namespace Go.Proofs.YthocdmlacfejkaaDoor
open Go.RowKit
theorem u64s_len (l : List Nat) : (u64s l).length = l.length := by unfold u64s; simp
theorem u64s_set (l : List Nat) (tl : List Value) (i x : Nat) (hi : i < l.length) : (u64s l ++ tl).set i (.int .u64 (x : Nat)) = u64s (l.set i x) ++ tl := by
  rw [List.set_append_left _ _ (by rw [u64s_len]; exact hi)]
  unfold u64s
  rw [List.map_set]
theorem u64s_at {l : List Nat} (tl : List Value) {k x : Nat} (h : l[k]? = some x) : (u64s l ++ tl)[k]? = some (.int .u64 (x : Nat)) := by
  have hk : k < l.length := by
    rcases Nat.lt_or_ge k l.length with h1 | h1
    · exact h1
    · rw [List.getElem?_eq_none h1] at h; cases h
  rw [List.getElem?_append_left (by rw [u64s_len]; exact hk)]
  unfold u64s
  rw [List.getElem?_map, h]
  rfl
/-- A row of sets with room behind it. -/
theorem own_rowS {w : World} {base : Nat} {v : Value} {l : List Nat} (h : w.ownsRow base 98 1 v l.length (u64s l)) (h0 : l ≠ []) : ∃ g c tl, v = .slice (some ⟨g, 0, none⟩) l.length c ∧ base ≤ g ∧ Cells w g (u64s l ++ tl) ∧ l.length ≤ c := by
  rcases h.2 with ⟨rfl, h1⟩ | ⟨g, cap, cur, rfl, hg, hh, hnc, hcm, hcs, hx⟩
  · exact absurd (List.eq_nil_of_length_eq_zero h1) h0
  · refine ⟨g, cap, cur.toList.drop l.length, rfl, hg, ?_, hnc⟩
    have hc := Cells.of_row hh
    rw [Nat.mul_one] at hx
    rw [← hx, List.take_append_drop]
    exact hc
/-- The pass that keeps in place: what lies there behind j steps. -/
structure Pass (l : List Nat) (del : Nat → Bool) (j : Nat) (l' : List Nat) (i : Nat) : Prop where
  len : l'.length = l.length
  lt : i < j
  eq : i = ((l.take j).filter fun x => !del x).length
  took : l'.take i = (l.take j).filter fun x => !del x
  rest : ∀ k, j ≤ k → l'[k]? = l[k]?
theorem Pass.start {l : List Nat} {del : Nat → Bool} {k x : Nat} (hx : l[k]? = some x) (hd : del x = true) (hall : ∀ y ∈ l.take k, del y = false) : Pass l del (k + 1) l k := by
  have hk : k < l.length := by
    rcases Nat.lt_or_ge k l.length with h1 | h1
    · exact h1
    · rw [List.getElem?_eq_none h1] at hx; cases hx
  have hf : ((l.take (k + 1)).filter fun x => !del x) = l.take k := by
    rw [List.take_add_one, hx, List.filter_append]
    simp [hd]
    exact fun a ha => hall a ha
  refine ⟨rfl, Nat.lt_succ_self _, ?_, ?_, fun _ _ => rfl⟩
  · rw [hf, List.length_take]; omega
  · rw [hf]
theorem Pass.skip {l l' : List Nat} {del : Nat → Bool} {j i x : Nat} (h : Pass l del j l' i) (hx : l[j]? = some x) (hd : del x = true) : Pass l del (j + 1) l' i := by
  have hf : ((l.take (j + 1)).filter fun x => !del x) = (l.take j).filter fun x => !del x := by
    rw [List.take_add_one, hx, List.filter_append]
    simp [hd]
  exact ⟨h.len, by have := h.lt; omega, by rw [hf]; exact h.eq, by rw [hf]; exact h.took, fun k hk => h.rest k (by omega)⟩
theorem Pass.keep {l l' : List Nat} {del : Nat → Bool} {j i x : Nat} (h : Pass l del j l' i) (hx : l[j]? = some x) (hd : del x = false) (hj : j < l.length) : Pass l del (j + 1) (l'.set i x) (i + 1) := by
  have hf : ((l.take (j + 1)).filter fun x => !del x) = ((l.take j).filter fun x => !del x) ++ [x] := by
    rw [List.take_add_one, hx, List.filter_append]
    simp [hd]
  have hi := h.lt
  have hl := h.len
  refine ⟨by simpa using h.len, by omega, ?_, ?_, fun k hk => ?_⟩
  · rw [hf, List.length_append, ← h.eq]; rfl
  · rw [hf, ← h.took, List.take_add_one, List.take_set_of_le (Nat.le_refl _), List.getElem?_set_self (by omega)]
    rfl
  · rw [List.getElem?_set_ne (by omega)]
    exact h.rest k (by omega)
theorem set_zero (w : World) : (zeroValue 98).run Tryd.prog w = .ok (.int .u64 0) w := by
  obtain ⟨i, hi, hz, _, _⟩ := info_parts info_set
  simp [zeroValue, typeInfo, hi, hz]
set_option maxRecDepth 100000 in
set_option maxHeartbeats 8000000 in
theorem delete_any (B g c : Nat) (l : List Nat) (tl : List Value) (del : Nat → Bool) (y : Value) (w : World) (h : Cells w g (u64s l ++ tl)) (hB : B ≤ g) (hl : ∀ x ∈ l, x < 18446744073709551616) (hn : l.length ≤ 1000) (hc : l.length ≤ c)
    (hF : ∀ w' x, x < 18446744073709551616 → Below B w w' → Calls Tryd.prog 98 #[.int .u64 (x : Nat), y] w' fun e w2 => e = .returned (.bool (del x)) ∧ Below w'.heap.size w' w2) :
    Calls Tryd.prog 99 #[.slice (some ⟨g, 0, none⟩) l.length c, .func (.func 98) #[] #[y]] w fun e w' => ∃ k c', e = .returned (.slice (some ⟨g, 0, none⟩) k c') ∧ k = (l.filter fun x => !del x).length ∧ UL B w' (some ⟨g, 0, none⟩) (l.filter fun x => !del x) ∧ Below B w w' := by
  have hgl := h.lt
  have hU : UL B w (some ⟨g, 0, none⟩) l := fun k n hk => ⟨g, 0, rfl, hB, h.lt, by rw [h.at_, Nat.zero_add]; exact u64s_at tl hk⟩
  have HI := Lib.hid (index_any B (some ⟨g, 0, none⟩) c l del y w hU hl hn (fun w' x hx hb => hF w' x hx (hb.mono (by omega))))
  have HF := Lib.hid hF
  have Hl := Lib.hid hl
  have C0 := Lib.hid h
  have U0 := Lib.hid hU
  clear hF hl h hU
  go_enter Tryd.func99, Tryd.ntmps99
  go_wp2_with fail
  refine HI.out.mono ?_
  rintro e w1 ⟨hc1, hb1⟩
  have B1 := Lib.hid (hb1.mono (show B ≤ w.heap.size by omega))
  have C1 := Lib.hid (C0.out.keep hb1)
  rcases hc1 with ⟨hno, rfl⟩ | ⟨k, x, hx, hd, hall, rfl⟩
  · have hf : (l.filter fun x => !del x) = l := List.filter_eq_self.2 fun a ha => by rw [hno a ha]; rfl
    have Hf := Lib.hid hf
    have U1 := Lib.hid (U0.out.keep hb1)
    clear hb1 hno hf
    go_wp2_with fail
    go_ret
    exact ⟨_, _, rfl, by rw [Hf.out], by rw [Hf.out]; exact U1.out, B1.out⟩
  · have hk : k < l.length := by
      rcases Nat.lt_or_ge k l.length with h1 | h1
      · exact h1
      · rw [List.getElem?_eq_none h1] at hx; cases hx
    have P1 := Lib.hid (Pass.start hx hd hall)
    have tk : ((k : Int) == -1) = false := by simp
    have Hsz := Lib.hid hb1.size
    clear hb1 hx hd hall
    go_wp2_with fail
    go_loopw [6, 5] (fun jv iv wr => ∃ (j i : Nat) (l' : List Nat), jv = .int .i64 (j : Nat) ∧ iv = .int .i64 (i : Nat) ∧ j ≤ l.length ∧ Pass l del j l' i ∧ Cells wr g (u64s l' ++ tl) ∧ Below B w wr) (fun jv _ _ => l.length - (intOf jv).toNat)
    case atStart => exact ⟨k + 1, k, l, by go_num, rfl, hk, P1.out, C1.out, B1.out⟩
    case round =>
      obtain ⟨j, i, l', rfl, rfl, hj, hp, hcl, hb⟩ := hrel
      have P6 := Lib.hid hp
      have C6 := Lib.hid hcl
      have B6 := Lib.hid hb
      have hij := hp.lt
      have hll := hp.len
      obtain ⟨yy, hyy⟩ : ∃ yy, l'[i]? = some yy := ⟨_, List.getElem?_eq_getElem (by omega)⟩
      have ci := Lib.hid hyy
      clear hp hcl hb hyy
      obtain ⟨wa, rfl⟩ : ∃ wa : World, wa = wr := ⟨_, rfl⟩
      by_cases hlt : j < l.length
      · have hx := List.getElem?_eq_getElem hlt
        obtain ⟨x, hx0⟩ : ∃ x, l[j] = x := ⟨_, rfl⟩
        rw [hx0] at hx
        have Hlt := Lib.hid hlt
        have Hx := Lib.hid hx
        have hx64 := Hl.out x (List.mem_of_getElem? hx)
        have cj := (C6.out.at_ j).trans (u64s_at tl ((P6.out.rest j (Nat.le_refl _)).trans hx))
        have HFx := HF.out wa x hx64 B6.out
        obtain ⟨bx, hbx⟩ : ∃ bx, del x = bx := ⟨_, rfl⟩
        rw [hbx] at HFx
        have HFx := Lib.hid HFx
        have Hb := Lib.hid hbx
        have Hll := Lib.hid hll
        clear hx hx0 hbx hll
        go_wp2_with fail
        refine HFx.out.mono ?_
        rintro e w7 ⟨rfl, hb7⟩
        have B7 := Lib.hid (B6.out.trans (hb7.mono (by have := C6.out.lt; omega)))
        have C7 := Lib.hid (C6.out.keep hb7)
        clear hb7 cj
        cases bx
        · have ci := (C7.out.at_ i).trans (u64s_at tl ci.out)
          have fi := C7.out.fz i
          go_wp2_with fail
          go_roundw
          case rel => exact ⟨j + 1, i + 1, l'.set i x, by go_num, by go_num, Hlt.out, P6.out.keep Hx.out Hb.out Hlt.out, by rw [← u64s_set l' tl i x (by have := Hll.out; have := Hlt.out; omega)]; exact C7.out.set i _ (by rw [List.length_append, u64s_len]; have := Hll.out; have := Hlt.out; omega), B7.out.setCell hB _⟩
          case measure => simp [intOf]; have := Hlt.out; omega
        · go_wp2_with fail
          go_roundw
          case rel => exact ⟨j + 1, i, l', by go_num, rfl, Hlt.out, P6.out.skip Hx.out Hb.out, C7.out, B7.out⟩
          case measure => simp [intOf]; have := Hlt.out; omega
      · have hjl : j = l.length := by omega
        subst hjl
        have hd := Lib.hid (fun ty => Lib.run_clear_slice (P := Tryd.prog) wa 103 98 ty (.int .u64 0) Tryd.underlying103 set_zero rfl rfl g i (l.length - i) (c - i) (by omega) (fun q hq => by rw [C6.out.at_, List.getElem?_append_left (by rw [u64s_len]; omega), List.getElem?_eq_getElem (by rw [u64s_len]; omega)]; rfl) (fun q _ => C6.out.fz _))
        have hclr := hd.out
        have R6 := Lib.hid (show UL B (wa.setCells g i (List.replicate (l.length - i) (.int .u64 0))) (some ⟨g, 0, none⟩) (l'.take i) from fun q n hq => by
          have hqi : q < i := by
            rcases Nat.lt_or_ge q (l'.take i).length with h1 | h1
            · rw [List.length_take] at h1; omega
            · rw [List.getElem?_eq_none h1] at hq; cases hq
          refine ⟨g, 0, rfl, hB, ?_, ?_⟩
          · have := (Go.below_setCells (B := B) (a := wa) (b := g) hB (List.replicate (l.length - i) (.int .u64 0)) i wa (Below.refl B wa)).size
            have := C6.out.lt
            omega
          · rw [World.cell?_setCells_out g _ i wa _ (fun _ _ => .inl (by simp; omega)), Nat.zero_add, C6.out.at_]
            exact u64s_at tl (by rw [List.getElem?_take_of_lt hqi] at hq; exact hq))
        have hlf : (l.filter fun x => !del x) = l'.take i := by rw [P6.out.took, List.take_length]
        have Hlf := Lib.hid hlf
        have Hlen := Lib.hid (show i = (l.filter fun x => !del x).length by rw [hlf, List.length_take]; omega)
        have B8 := Lib.hid (Go.below_setCells (b := g) hB (List.replicate (l.length - i) (.int .u64 0)) i wa B6.out)
        clear hlf hd
        go_wp2_with fail
        go_ret
        refine ⟨_, _, rfl, Hlen.out, by rw [Hlf.out]; exact R6.out, B8.out⟩
end Go.Proofs.YthocdmlacfejkaaDoor
namespace Go.Proofs.YthocdmlacfejkaaDoor
open Go.RowKit
def sinkM (es : List (Nat × Nat)) (out : List Nat) : List Nat := out.filter fun s => lev (adj es) s 64 == s
theorem Cells.keepB {B : Nat} {w w' : World} {p : Nat} {vs : List Value} (h : Cells w p vs) (hb : Below B w w') (hp : p < B) : Cells w' p vs :=
  ⟨fun i => (hb.cell (p := ⟨p, i, none⟩) hp).trans (h.at_ i), fun i => (hb.frozen (p := ⟨p, i, none⟩) hp).trans (h.fz i), Nat.lt_of_lt_of_le h.lt hb.size⟩
set_option maxRecDepth 100000 in
set_option maxHeartbeats 8000000 in
theorem delete_own (B : Nat) (v : Value) (l : List Nat) (del : Nat → Bool) (y : Value) (w : World) (h : w.ownsRow B 98 1 v l.length (u64s l)) (hl : ∀ x ∈ l, x < 18446744073709551616) (hn : l.length ≤ 1000) (hBw : B ≤ w.heap.size)
    (hF : ∀ w' x, x < 18446744073709551616 → Below B w w' → Calls Tryd.prog 98 #[.int .u64 (x : Nat), y] w' fun e w2 => e = .returned (.bool (del x)) ∧ Below w'.heap.size w' w2) :
    Calls Tryd.prog 99 #[v, .func (.func 98) #[] #[y]] w fun e w' => ∃ A c, e = .returned (.slice A (l.filter fun x => !del x).length c) ∧ UL B w' A (l.filter fun x => !del x) ∧ Below B w w' := by
  by_cases h0 : l = []
  · subst h0
    obtain ⟨A, c, rfl, hU, _, _⟩ := own_sets h
    have HI := Lib.hid (index_any B A c [] del y w hU hl hn (fun w' x hx hb => hF w' x hx (hb.mono hBw)))
    have HU := Lib.hid hU
    have HB := Lib.hid hBw
    clear h hl hF hU hBw
    go_enter Tryd.func99, Tryd.ntmps99
    go_wp2_with fail
    refine HI.out.mono ?_
    rintro e w1 ⟨hc1, hb1⟩
    have U1 := Lib.hid (HU.out.keep hb1)
    have B1 := Lib.hid (hb1.mono HB.out)
    rcases hc1 with ⟨hno, rfl⟩ | ⟨k, x, hx, _⟩
    · clear hno hb1
      go_wp2_with fail
      go_ret
      exact ⟨_, _, rfl, U1.out, B1.out⟩
    · simp at hx
  · obtain ⟨g, c, tl, rfl, hBg, hc, hlc⟩ := own_rowS h h0
    refine (delete_any B g c l tl del y w hc hBg hl hn hlc hF).mono ?_
    rintro e w1 ⟨k, c', rfl, rfl, hU, hb⟩
    exact ⟨_, _, rfl, hU, hb⟩
set_option maxRecDepth 100000 in
set_option maxHeartbeats 8000000 in
theorem sinks_any (n : Nat) (A : Option Addr) (m c : Nat) (es : List (Nat × Nat)) (out : List Nat) (w : World) (h : EL w A m (cast es)) (hg : Fine n es) (hout : compM es n = some out) (ho64 : ∀ x ∈ out, x < 18446744073709551616) (hol : out.length ≤ 1000) (hw : Good w) :
    Calls Tryd.prog 49 #[gV n A m c] w fun e w' => ∃ A', e = .returned (.tuple #[.slice A' (sinkM es out).length (sinkM es out).length, .int .i64 0]) ∧ LL w.heap.size w' A' ((sinkM es out).map bitsOf) ∧ Below w.heap.size w w' := by
  have hlen := h.len
  have hm : m ≤ 4096 := by have := hg.len; omega
  have hn64 := hg.n64
  have HL : ∀ i, Under 64 (adj es i) := fun i => adj_under hg.low64 i
  have kv := (Below.refl w.heap.size w).alloc (Nat.le_refl _) (.cells #[.int .i64 (n : Nat), .slice A m c] 26)
  have G0 := Lib.hid (Cells.new w #[.int .i64 (n : Nat), .slice A m c] 26)
  have HC := check_any (n : Int) A m c (cast es) (w.alloc (.cells #[.int .i64 (n : Nat), .slice A m c] 26)) (h.keep kv) (by omega)
  rw [hg.check] at HC
  have HC := Lib.hid HC
  have HG := Lib.hid (fun w' (hb' : Below w.heap.size w w') => hw.below hb' hw.size)
  have HN := Lib.hid (fun w' (hb' : Below w.heap.size w w') => next_any n A m c es w' (h.keep hb') hg.low64 hm)
  have HM := Lib.hid (fun w' (hb' : Below w.heap.size w w') => components_any n A m c es out w' (h.keep hb') hg.low64 hm hn64 hout (hw.below hb' hw.size))
  have kv := Lib.hid kv
  have HL := Lib.hid HL
  have Ho := Lib.hid ho64
  have Hol := Lib.hid hol
  clear h hg hw hout hlen ho64 hol
  go_enter Tryd.func49, Tryd.ntmps49
  go_wp2_with fail
  refine HC.out.mono ?_
  rintro e w1 ⟨rfl, hb1⟩
  have G1 := Lib.hid (G0.out.keep hb1)
  have B1 := Lib.hid (below_on kv.out hb1)
  have g0 := G1.out.at_ 0
  have g1 := G1.out.at_ 1
  simp only [List.getElem?_cons_zero, List.getElem?_cons_succ] at g0 g1
  clear hb1
  go_wp2_with fail
  refine (HN.out _ B1.out).mono ?_
  rintro e w2 ⟨p, rfl, hp, hps, hb2⟩
  have G2 := Lib.hid (G1.out.keep hb2)
  have B2 := Lib.hid (below_on B1.out hb2)
  have P2 := Lib.hid (hp.keep ((Below.refl w2.heap.size w2).alloc (Nat.le_refl _) (.cells #[.pointer (some ⟨p, 0, none⟩)] 107)))
  have Q2 := Lib.hid (Cells.new w2 #[.pointer (some ⟨p, 0, none⟩)] 107)
  have G3 := Lib.hid (G2.out.keep ((Below.refl w2.heap.size w2).alloc (Nat.le_refl _) (.cells #[.pointer (some ⟨p, 0, none⟩)] 107)))
  have B3 := Lib.hid (B2.out.alloc B2.out.size (.cells #[.pointer (some ⟨p, 0, none⟩)] 107))
  have h0 := G3.out.at_ 0
  have h1 := G3.out.at_ 1
  simp only [List.getElem?_cons_zero, List.getElem?_cons_succ] at h0 h1
  clear hp hps hb2 g0 g1
  go_wp2_with fail
  refine (HM.out _ B3.out).mono ?_
  rintro e w4 ⟨v, rfl, hown, hb4⟩
  have B4 := Lib.hid (below_on B3.out hb4)
  have P4 := Lib.hid (P2.out.keep hb4)
  have Q4 := Lib.hid (Q2.out.keep hb4)
  have hq := Lib.hid hb4.size
  have HD := Lib.hid (delete_own (w2.heap.size + 1) v out (fun s => !(lev (adj es) s 64 == s)) (.pointer (some ⟨w2.heap.size, 0, none⟩)) w4 (by simpa using hown) Ho.out Hol.out (by have := hb4.size; simpa using this) (fun w' x hx hb => leaves_any p w2.heap.size (adj es) x w' (P4.out.keepB hb (by have := P2.out.lt; simpa using this)) ((hb.cell (by simp)).trans (Q4.out.at_ 0)) HL.out hx (HG.out w' (B4.out.trans (hb.mono (by have := B2.out.size; omega))))))
  have hflt : (out.filter fun x => !(fun s => !(lev (adj es) s 64 == s)) x) = sinkM es out := by
    unfold sinkM
    congr 1
    funext x
    simp
  rw [hflt] at HD
  clear hown hb4 h0 h1 hflt
  go_wp2_with fail
  refine HD.out.mono ?_
  rintro e w5 ⟨A5, c5, rfl, hU, hb5⟩
  have B5 := Lib.hid (B4.out.trans (hb5.mono (by have := B2.out.size; omega)))
  have HLs := Lib.hid (lists_any _ A5 c5 (sinkM es out) w5 hU (fun x hx => Ho.out x (List.mem_filter.1 hx).1) (Nat.le_trans (List.length_filter_le _ _) Hol.out) (HG.out _ B5.out))
  clear hU hb5
  go_wp2_with fail
  refine HLs.out.mono ?_
  rintro e w6 ⟨A6, rfl, hLL, hb6⟩
  have B6 := Lib.hid (below_on B5.out hb6)
  have L6 := Lib.hid (hLL.down B5.out.size)
  clear hLL hb6
  go_wp2_with fail
  go_ret2
  exact ⟨A6, rfl, L6.out, B6.out⟩
end Go.Proofs.YthocdmlacfejkaaDoor
namespace Go.Proofs.YthocdmlacfejkaaDoor
open Go.RowKit
set_option maxRecDepth 100000 in
set_option maxHeartbeats 8000000 in
theorem comps_any (n : Nat) (A : Option Addr) (m c : Nat) (es : List (Nat × Nat)) (out : List Nat) (w : World) (h : EL w A m (cast es)) (hg : Fine n es) (hout : compM es n = some out) (ho64 : ∀ x ∈ out, x < 18446744073709551616) (hol : out.length ≤ 1000) (hw : Good w) :
    Calls Tryd.prog 28 #[gV n A m c] w fun e w' => ∃ A', e = .returned (.tuple #[.slice A' out.length out.length, .int .i64 0]) ∧ LL w.heap.size w' A' (out.map bitsOf) ∧ Below w.heap.size w w' := by
  have hlen := h.len
  have hm : m ≤ 4096 := by have := hg.len; omega
  have hn64 := hg.n64
  have kv := (Below.refl w.heap.size w).alloc (Nat.le_refl _) (.cells #[.int .i64 (n : Nat), .slice A m c] 26)
  have G0 := Lib.hid (Cells.new w #[.int .i64 (n : Nat), .slice A m c] 26)
  have HC := check_any (n : Int) A m c (cast es) (w.alloc (.cells #[.int .i64 (n : Nat), .slice A m c] 26)) (h.keep kv) (by omega)
  rw [hg.check] at HC
  have HC := Lib.hid HC
  have HG := Lib.hid (fun w' (hb' : Below w.heap.size w w') => hw.below hb' hw.size)
  have HM := Lib.hid (fun w' (hb' : Below w.heap.size w w') => components_any n A m c es out w' (h.keep hb') hg.low64 hm hn64 hout (hw.below hb' hw.size))
  have kv := Lib.hid kv
  have Ho := Lib.hid ho64
  have Hol := Lib.hid hol
  clear h hg hw hout hlen ho64 hol
  go_enter Tryd.func28, Tryd.ntmps28
  go_wp2_with fail
  refine HC.out.mono ?_
  rintro e w1 ⟨rfl, hb1⟩
  have G1 := Lib.hid (G0.out.keep hb1)
  have B1 := Lib.hid (below_on kv.out hb1)
  have g0 := G1.out.at_ 0
  have g1 := G1.out.at_ 1
  simp only [List.getElem?_cons_zero, List.getElem?_cons_succ] at g0 g1
  clear hb1
  go_wp2_with fail
  refine (HM.out _ B1.out).mono ?_
  rintro e w4 ⟨v, rfl, hown, hb4⟩
  obtain ⟨A5, c5, rfl, hU, _, _⟩ := own_sets hown
  have B4 := Lib.hid (below_on B1.out hb4)
  have HLs := Lib.hid (lists_any _ A5 c5 out w4 hU Ho.out Hol.out (HG.out _ B4.out))
  clear hown hU hb4 g0 g1
  go_wp2_with fail
  refine HLs.out.mono ?_
  rintro e w6 ⟨A6, rfl, hLL, hb6⟩
  have B6 := Lib.hid (below_on B4.out hb6)
  have L6 := Lib.hid (hLL.down B4.out.size)
  clear hLL hb6
  go_wp2_with fail
  go_ret2
  exact ⟨A6, rfl, L6.out, B6.out⟩
theorem info_graph : (Tryd.prog.info? 26).map (·.size) = some 2 := by kernel_rfl
def exEs : List (Nat × Nat) := [(0, 1), (1, 0), (1, 2), (3, 2)]
set_option maxRecDepth 100000 in
set_option maxHeartbeats 8000000 in
theorem example_any (w : World) : Calls Tryd.prog 69 #[] w fun e w' => ∃ A, e = .returned (gV 4 A 4 4) ∧ EL w' A 4 (cast exEs) ∧ Below w.heap.size w w' := by
  go_enter Tryd.func69, Tryd.ntmps69
  go_wp2_with fail
  refine bodyPost_ret (v := gV 4 (some ⟨w.heap.size + 1, 0, none⟩) 4 4) (results_cell_row rfl _ _ w.heap.size 26 #[.int .i64 4, .slice (some ⟨w.heap.size + 1, 0, none⟩) 4 4] (0, 0) _ rfl ((heap_alloc_old _ _ (by simp)).trans (heap_new _ _)) Tryd.underlying26 rfl (by rw [info_graph]; rfl)) rfl ?_
  refine ⟨some ⟨w.heap.size + 1, 0, none⟩, ?_, ⟨rfl, ?_⟩, ?_⟩
  · rfl
  · intro k e hk
    refine ⟨w.heap.size + 1, 0, rfl, by simp, ?_⟩
    have hk4 : k < 4 := by
      rcases Nat.lt_or_ge k 4 with h1 | h1
      · exact h1
      · rw [List.getElem?_eq_none (by simpa [cast, exEs] using h1)] at hk; cases hk
    match k, hk4, hk with
    | 0, _, hk => simp [cast, exEs] at hk; subst hk; simp [go_sem]
    | 1, _, hk => simp [cast, exEs] at hk; subst hk; simp [go_sem]
    | 2, _, hk => simp [cast, exEs] at hk; subst hk; simp [go_sem]
    | 3, _, hk => simp [cast, exEs] at hk; subst hk; simp [go_sem]
  · exact ((Below.refl w.heap.size w).alloc (Nat.le_refl _) _).alloc (by simp) _
end Go.Proofs.YthocdmlacfejkaaDoor
namespace Go.Proofs.YthocdmlacfejkaaDoor
open Go.RowKit
theorem ex_fine : Fine 4 exEs := ⟨by decide +kernel, fun e he => by simp [exEs] at he; rcases he with rfl | rfl | rfl | rfl <;> simp, by decide, by decide⟩
theorem ex_comp : compM exEs 4 = some [3, 4, 8] := comp_example
theorem ex_sink : sinkM exEs [3, 4, 8] = [4] := by decide +kernel
theorem ex_tree : (List.range 4).map (treeV exEs 0) = [-1, 0, 1, -1] := by decide +kernel
theorem ex_cycle : cycleM exEs 4 = some [0, 1] := by decide +kernel
theorem ex_bits : [3, 4, 8].map bitsOf = [[0, 1], [2], [3]] := by decide +kernel
theorem ex_bits4 : [4].map bitsOf = [[2]] := by decide +kernel
abbrev wA (w : World) : World := (((w.alloc (.cells #[.int .i64 0, .int .i64 1] 3)).alloc (.cells #[.int .i64 2] 3)).alloc (.cells #[.int .i64 3] 3)).alloc (.cells #[.slice (some ⟨w.heap.size, 0, none⟩) 2 2, .slice (some ⟨w.heap.size + 1, 0, none⟩) 1 1, .slice (some ⟨w.heap.size + 1 + 1, 0, none⟩) 1 1] 50)
theorem wA_below (w : World) : Below w.heap.size w (wA w) := ((((Below.refl _ _).alloc (Nat.le_refl _) _).alloc (by simp) _).alloc (by simp; omega) _).alloc (by simp; omega) _
theorem nl_one (w : World) (p n : Nat) (hp : p < w.heap.size) (h : w.cell? ⟨p, 0, none⟩ = some (.int .i64 (n : Nat))) : NL 0 w (some ⟨p, 0, none⟩) [n] := fun k x hk => by
  match k, hk with
  | 0, hk => simp at hk; subst hk; exact ⟨p, 0, rfl, Nat.zero_le _, hp, h⟩
theorem nl_two (w : World) (p n m : Nat) (hp : p < w.heap.size) (h : w.cell? ⟨p, 0, none⟩ = some (.int .i64 (n : Nat))) (h1 : w.cell? ⟨p, 1, none⟩ = some (.int .i64 (m : Nat))) : NL 0 w (some ⟨p, 0, none⟩) [n, m] := fun k x hk => by
  match k, hk with
  | 0, hk => simp at hk; subst hk; exact ⟨p, 0, rfl, Nat.zero_le _, hp, h⟩
  | 1, hk => simp at hk; subst hk; exact ⟨p, 0, rfl, Nat.zero_le _, hp, h1⟩
theorem wA_ll (w : World) : LL 0 (wA w) (some ⟨w.heap.size + 1 + 1 + 1, 0, none⟩) [[0, 1], [2], [3]] := fun k l hk => by
  match k, hk with
  | 0, hk => simp at hk; subst hk; exact ⟨_, 0, _, 2, rfl, Nat.zero_le _, by simp, by simp [go_sem], nl_two _ w.heap.size 0 1 (by simp; omega) (by simp [go_sem]) (by simp [go_sem])⟩
  | 1, hk => simp at hk; subst hk; exact ⟨_, 0, _, 1, rfl, Nat.zero_le _, by simp, by simp [go_sem], nl_one _ (w.heap.size + 1) 2 (by simp) (by simp [go_sem])⟩
  | 2, hk => simp at hk; subst hk; exact ⟨_, 0, _, 1, rfl, Nat.zero_le _, by simp, by simp [go_sem], nl_one _ (w.heap.size + 1 + 1) 3 (by simp) (by simp [go_sem])⟩
abbrev wB (w : World) : World := (w.alloc (.cells #[.int .i64 2] 3)).alloc (.cells #[.slice (some ⟨w.heap.size, 0, none⟩) 1 1] 50)
theorem wB_below (w : World) : Below w.heap.size w (wB w) := ((Below.refl _ _).alloc (Nat.le_refl _) _).alloc (by simp) _
theorem wB_ll (w : World) : LL 0 (wB w) (some ⟨w.heap.size + 1, 0, none⟩) [[2]] := fun k l hk => by
  match k, hk with
  | 0, hk => simp at hk; subst hk; exact ⟨_, 0, _, 1, rfl, Nat.zero_le _, by simp, by simp [go_sem], nl_one _ w.heap.size 2 (by simp; omega) (by simp [go_sem])⟩
abbrev wC (w : World) : World := w.alloc (.cells #[.int .i64 (-1), .int .i64 0, .int .i64 1, .int .i64 (-1)] 3)
theorem wC_below (w : World) : Below w.heap.size w (wC w) := (Below.refl _ _).alloc (Nat.le_refl _) _
theorem wC_il (w : World) : IL (wC w) (some ⟨w.heap.size, 0, none⟩) [-1, 0, 1, -1] := fun k x hk => by
  match k, hk with
  | 0, hk => simp at hk; subst hk; exact ⟨_, 0, rfl, by simp, by simp [go_sem]⟩
  | 1, hk => simp at hk; subst hk; exact ⟨_, 0, rfl, by simp, by simp [go_sem]⟩
  | 2, hk => simp at hk; subst hk; exact ⟨_, 0, rfl, by simp, by simp [go_sem]⟩
  | 3, hk => simp at hk; subst hk; exact ⟨_, 0, rfl, by simp, by simp [go_sem]⟩
abbrev wE (w : World) : World := w.alloc (.cells #[.int .i64 0, .int .i64 1] 3)
theorem wE_below (w : World) : Below w.heap.size w (wE w) := (Below.refl _ _).alloc (Nat.le_refl _) _
theorem wE_il (w : World) : IL (wE w) (some ⟨w.heap.size, 0, none⟩) [0, 1] := fun k x hk => by
  match k, hk with
  | 0, hk => simp at hk; subst hk; exact ⟨_, 0, rfl, by simp, by simp [go_sem]⟩
  | 1, hk => simp at hk; subst hk; exact ⟨_, 0, rfl, by simp, by simp [go_sem]⟩
set_option maxRecDepth 100000 in
set_option maxHeartbeats 8000000 in
theorem known_any (w : World) (hw : Good w) : Calls Tryd.prog 14 #[] w fun e w' => e = .returned (.bool true) ∧ Below w.heap.size w w' := by
  have HX := Lib.hid (fun w' => example_any w')
  have HG := Lib.hid (fun w' (hb' : Below w.heap.size w w') => hw.below hb' hw.size)
  have HK := Lib.hid (fun A w' (h : EL w' A 4 (cast exEs)) (hb' : Below w.heap.size w w') => comps_any 4 A 4 4 exEs [3, 4, 8] w' h ex_fine ex_comp (by decide) (by decide) (hw.below hb' hw.size))
  have HS := Lib.hid (fun A w' (h : EL w' A 4 (cast exEs)) (hb' : Below w.heap.size w w') => sinks_any 4 A 4 4 exEs [3, 4, 8] w' h ex_fine ex_comp (by decide) (by decide) (hw.below hb' hw.size))
  have HT := Lib.hid (fun A w' (h : EL w' A 4 (cast exEs)) (hb' : Below w.heap.size w w') => tree_any 4 A 4 4 exEs 0 w' h ex_fine (by decide) (hw.below hb' hw.size))
  have HC := Lib.hid (fun A w' (h : EL w' A 4 (cast exEs)) (hb' : Below w.heap.size w w') => cycle_any 4 A 4 4 exEs w' h ex_fine (hw.below hb' hw.size))
  rw [ex_bits] at HK
  rw [ex_sink, ex_bits4] at HS
  clear hw
  go_enter Tryd.func14, Tryd.ntmps14
  go_wp2_with fail
  refine (HX.out _).mono ?_
  rintro e w1 ⟨A1, rfl, hE1, hb1⟩
  have E1 := Lib.hid hE1
  have B1 := Lib.hid hb1
  clear hE1 hb1
  go_wp2_with fail
  refine (HK.out _ _ E1.out B1.out).mono ?_
  rintro e w2 ⟨K2, rfl, hL2, hb2⟩
  have B2 := Lib.hid (below_on B1.out hb2)
  have L2 := Lib.hid (hL2.down B1.out.size)
  clear hL2 hb2
  go_wp2_with fail
  refine (HX.out _).mono ?_
  rintro e w3 ⟨A3, rfl, hE3, hb3⟩
  have E3 := Lib.hid hE3
  have B3 := Lib.hid (below_on B2.out hb3)
  have L3 := Lib.hid (L2.out.keep hb3)
  clear hE3 hb3
  go_wp2_with fail
  refine (HS.out _ _ E3.out B3.out).mono ?_
  rintro e w4 ⟨K4, rfl, hM4, hb4⟩
  have B4 := Lib.hid (below_on B3.out hb4)
  have L4 := Lib.hid (L3.out.keep hb4)
  have M4 := Lib.hid (hM4.down B3.out.size)
  clear hM4 hb4
  go_wp2_with fail
  refine (HX.out _).mono ?_
  rintro e w5 ⟨A5, rfl, hE5, hb5⟩
  have E5 := Lib.hid hE5
  have B5 := Lib.hid (below_on B4.out hb5)
  have L5 := Lib.hid (L4.out.keep hb5)
  have M5 := Lib.hid (M4.out.keep hb5)
  clear hE5 hb5
  go_wp2_with fail
  refine (HT.out _ _ E5.out B5.out).mono ?_
  rintro e w6 ⟨⟨g6, rfl, hg6, hI6⟩, hb6⟩
  rw [ex_tree] at hI6
  have B6 := Lib.hid (below_on B5.out hb6)
  have L6 := Lib.hid (L5.out.keep hb6)
  have M6 := Lib.hid (M5.out.keep hb6)
  have I6 := Lib.hid hI6
  clear hI6 hb6 hg6
  go_wp2_with fail
  refine (HX.out _).mono ?_
  rintro e w7 ⟨A7, rfl, hE7, hb7⟩
  have E7 := Lib.hid hE7
  have B7 := Lib.hid (below_on B6.out hb7)
  have L7 := Lib.hid (L6.out.keep hb7)
  have M7 := Lib.hid (M6.out.keep hb7)
  have I7 := Lib.hid (I6.out.keep hb7)
  clear hE7 hb7
  go_wp2_with fail
  refine (HC.out _ _ E7.out B7.out).mono ?_
  rintro e w8 ⟨hcy, hb8⟩
  rcases hcy with ⟨hno, _⟩ | ⟨lc, g8, c8, hyes, rfl, hN8⟩
  · rw [ex_cycle] at hno; cases hno
  · rw [ex_cycle] at hyes
    injection hyes with hyes
    subst hyes
    have B8 := Lib.hid (below_on B7.out hb8)
    have L8 := Lib.hid (L7.out.keep hb8)
    have M8 := Lib.hid (M7.out.keep hb8)
    have I8 := Lib.hid (I7.out.keep hb8)
    have N8 := Lib.hid hN8.1
    clear hN8 hb8
    go_wp2_with fail
    refine (lawLists_any _ 0 K2 (some ⟨w8.heap.size + 1 + 1 + 1, 0, none⟩) 3 3 [[0, 1], [2], [3]] [[0, 1], [2], [3]] (wA w8) (L8.out.keep (wA_below w8)) (wA_ll w8) (by decide) (by decide) (by decide) (by decide)).mono ?_
    rintro e w9 ⟨rfl, hb9⟩
    have b9 := below_on (wA_below w8) hb9
    have B9 := Lib.hid (below_on B8.out b9)
    have M9 := Lib.hid (M8.out.keep b9)
    have I9 := Lib.hid (I8.out.keep b9)
    have N9 := Lib.hid (N8.out.keep b9)
    rw [show (([[0, 1], [2], [3]] : List (List Nat)) == [[0, 1], [2], [3]]) = true by decide]
    clear hb9 b9
    go_wp2_with fail
    refine (lawLists_any _ 0 K4 (some ⟨w9.heap.size + 1, 0, none⟩) 1 1 [[2]] [[2]] (wB w9) (M9.out.keep (wB_below w9)) (wB_ll w9) (by decide) (by decide) (by decide) (by decide)).mono ?_
    rintro e w10 ⟨rfl, hb10⟩
    have b10 := below_on (wB_below w9) hb10
    have B10 := Lib.hid (below_on B9.out b10)
    have I10 := Lib.hid (I9.out.keep b10)
    have N10 := Lib.hid (N9.out.keep b10)
    rw [show (([[2]] : List (List Nat)) == [[2]]) = true by decide]
    clear hb10 b10
    go_wp2_with fail
    refine (equal_any (some ⟨g6, 0, none⟩) (some ⟨w10.heap.size, 0, none⟩) 4 4 [-1, 0, 1, -1] [-1, 0, 1, -1] (wC w10) (I10.out.keep (wC_below w10)) (wC_il w10) (by decide) (by decide)).mono ?_
    rintro e w11 ⟨rfl, hb11⟩
    have b11 := below_on (wC_below w10) hb11
    have B11 := Lib.hid (below_on B10.out b11)
    have N11 := Lib.hid (N10.out.keep b11)
    rw [show (([-1, 0, 1, -1] : List Int) == [-1, 0, 1, -1]) = true by decide]
    clear hb11 b11
    go_wp2_with fail
    refine (equal_any (some ⟨g8, 0, none⟩) (some ⟨w11.heap.size, 0, none⟩) c8 2 [0, 1] [0, 1] (wE w11) (N11.out.il.keep (wE_below w11)) (wE_il w11) (by decide) (by decide)).mono ?_
    rintro e w12 ⟨rfl, hb12⟩
    have b12 := below_on (wE_below w11) hb12
    have B12 := Lib.hid (below_on B11.out b12)
    rw [show (([0, 1] : List Int) == [0, 1]) = true by decide]
    clear hb12 b12
    go_wp2_with fail
    go_ret
    exact ⟨rfl, B12.out⟩
end Go.Proofs.YthocdmlacfejkaaDoor
