/- The first of the shortest cycles through a node. -/
import Derived.Test.YthocdmlacfejkaaDoorIns
namespace Go.Proofs.YthocdmlacfejkaaDoor
open Go.RowKit
/-- From which node the way back is the shortest one: the first of them. -/
def bestM (D : Nat → Int) (l : List Nat) : Option Nat := l.foldl (fun b n => if 0 ≤ D n then (match b with | none => some n | some x => if D n < D x then some n else some x) else b) none
theorem bestM_snoc (D : Nat → Int) (l : List Nat) (n : Nat) : bestM D (l ++ [n]) = if 0 ≤ D n then (match bestM D l with | none => some n | some x => if D n < D x then some n else some x) else bestM D l := by
  unfold bestM; rw [List.foldl_append]; rfl
theorem bestM_mem (D : Nat → Int) (l : List Nat) : ∀ x, bestM D l = some x → x ∈ l ∧ 0 ≤ D x := by
  have key : ∀ (l l0 : List Nat), (∀ x, bestM D l0 = some x → x ∈ l0 ∧ 0 ≤ D x) → ∀ x, bestM D (l0 ++ l) = some x → x ∈ l0 ++ l ∧ 0 ≤ D x := by
    intro l
    induction l with
    | nil => intro l0 h; simpa using h
    | cons n l ih =>
      intro l0 h
      have := ih (l0 ++ [n]) (fun x hx => by
        rw [bestM_snoc] at hx
        by_cases h0 : 0 ≤ D n
        · rw [if_pos h0] at hx
          cases hb : bestM D l0 with
          | none => rw [hb] at hx; injection hx with hx; subst hx; exact ⟨by simp, h0⟩
          | some y =>
            rw [hb] at hx
            simp only at hx
            obtain ⟨h1, h2⟩ := h y hb
            by_cases h3 : D n < D y
            · rw [if_pos h3] at hx; injection hx with hx; subst hx; exact ⟨by simp, h0⟩
            · rw [if_neg h3] at hx; injection hx with hx; subst hx; exact ⟨by simp [h1], h2⟩
        · rw [if_neg h0] at hx
          obtain ⟨h1, h2⟩ := h x hx
          exact ⟨by simp [h1], h2⟩)
      simpa using this
  have := key l [] (fun x hx => by cases hx)
  simpa using this
def bI : Option Nat → Int
  | none => -1
  | some x => x
/-- The first of the shortest cycles through a node, if there is one. -/
def cycM (es : List (Nat × Nat)) (node : Nat) : Option (List Nat) :=
  (bestM (dist (adjR es) (sing node)) (bitsOf (adj es node))).map fun b => node :: (wayM (adj es) (dist (adjR es) (sing node)) (dist (adjR es) (sing node) b).toNat b).dropLast
def CycPost (es : List (Nat × Nat)) (node : Nat) (w : World) (e : Ending) (w' : World) : Prop :=
  ((cycM es node = none ∧ e = .returned (.slice none 0 0)) ∨ ∃ l g c, cycM es node = some l ∧ e = .returned (.slice (some ⟨g, 0, none⟩) l.length c) ∧ NL w.heap.size w' (some ⟨g, 0, none⟩) l) ∧ Below w.heap.size w w'
attribute [local irreducible] wpStill
set_option maxRecDepth 100000 in
set_option maxHeartbeats 8000000 in
theorem cycleThrough_any (n : Nat) (A : Option Addr) (m c : Nat) (es : List (Nat × Nat)) (node : Nat) (w : World) (h : EL w A m (cast es)) (hg : Fine n es) (hv : node < n) (hw : Good w) :
    Calls Tryd.prog 87 #[gV n A m c, .int .i64 node] w (CycPost es node w) := by
  have hlen := h.len
  have hm : m ≤ 4096 := by have := hg.len; omega
  have hn64 := hg.n64
  have hv64 : node < 64 := by omega
  have hvi : (node : Int) < 64 := by omega
  have HL : ∀ i, Under 64 (adj es i) := fun i => adj_under hg.low64 i
  have kv := (Below.refl w.heap.size w).alloc (Nat.le_refl _) (.cells #[.int .i64 (n : Nat), .slice A m c] 26)
  have G0 := Lib.hid (Cells.new w #[.int .i64 (n : Nat), .slice A m c] 26)
  have HW := Lib.hid (fun w' (h : Below w.heap.size w w') => hw.below h hw.size)
  have HD := Lib.hid (fun w' (hb' : Below w.heap.size w w') => distances_any n A m c es node w' (h.keep hb') hg.low64 hm hv64 (hw.below hb' hw.size))
  have HN := Lib.hid (fun w' (hb' : Below w.heap.size w w') => next_any n A m c es w' (h.keep hb') hg.low64 hm)
  have HWk := Lib.hid (fun (a d : Nat) w' (ha : a < 64) (hd : dist (adjR es) (sing node) a = (d : Int)) (hb' : Below w.heap.size w w') => walk_any n A m c es (dist (adjR es) (sing node)) a d w' (h.keep hb') hg.low64 hm ha hd (by have := distTo_bd (adjR es) (sing node) 65 a; unfold dist at hd; omega) (fun _ _ _ hk => dist_down hg.low64 hk) (dist_bd _ _) (hw.below hb' hw.size))
  have Hbd := Lib.hid (dist_bd (adjR es) (sing node))
  have Hc := Lib.hid (show cycM es node = (bestM (dist (adjR es) (sing node)) (bitsOf (adj es node))).map fun b => node :: (wayM (adj es) (dist (adjR es) (sing node)) (dist (adjR es) (sing node) b).toNat b).dropLast from rfl)
  have kv := Lib.hid kv
  obtain ⟨D, hD⟩ : ∃ D, dist (adjR es) (sing node) = D := ⟨_, rfl⟩
  rw [hD] at HD HWk Hbd Hc
  have HL := Lib.hid HL
  clear h hg hw hD hlen
  go_enter Tryd.func87, Tryd.ntmps87
  go_wp2_with fail
  refine (HD.out _ kv.out).mono ?_
  rintro e w2 ⟨rfl, hb2⟩
  have B2 := Lib.hid (below_on kv.out hb2)
  have R2 := Lib.hid (Row.new w2 112 (nums D))
  have ka := (Below.refl w2.heap.size w2).alloc (Nat.le_refl _) (.cells (nums D).toArray 112)
  have B3 := Lib.hid (below_on B2.out ka)
  have G3 := Lib.hid ((G0.out.keep hb2).keep ka)
  obtain ⟨w3, hw3⟩ : ∃ u, w2.alloc (.cells (nums D).toArray 112) = u := ⟨_, rfl⟩
  obtain ⟨p3, hp3⟩ : ∃ p, w2.heap.size = p := ⟨_, rfl⟩
  rw [hw3] at R2 B3 G3
  rw [hp3] at R2
  have h0 := G3.out.at_ 0
  have h1 := G3.out.at_ 1
  simp only [List.getElem?_cons_zero, List.getElem?_cons_succ] at h0 h1
  clear hb2 ka
  go_wp2_with (first
    | (refine wpList_store_new rfl 112 (.tmp 5) (.tmp 12) rfl (nums D).toArray 112 _ (by first | rfl | (rw [hp3]; rfl)) rfl (by rw [info_nums]; simp [nums_len]) (by simp [nums_len]) (nums_one _) ?_; rw [hw3]))
  refine (HN.out _ B3.out).mono ?_
  rintro e w4 ⟨q, rfl, hq, hqs, hb4⟩
  have R4 := Lib.hid (R2.out.keep hb4)
  have B4 := Lib.hid (below_on B3.out hb4)
  have G4 := Lib.hid (G3.out.keep hb4)
  have a1 := (hq.at_ node).trans (sets_at (adj es) hv64)
  have HLs := list_any (adj es node) w4 (under_lt (HL.out node)) (HW.out _ B4.out)
  have Hm := Lib.hid (fun i n (hi : (bitsOf (adj es node))[i]? = some n) => (mem_bitsOf.1 (List.mem_of_getElem? hi)).1)
  have hl64 := bitsOf_len (adj es node)
  obtain ⟨l, hl⟩ : ∃ l, bitsOf (adj es node) = l := ⟨_, rfl⟩
  rw [hl] at HLs Hm hl64 Hc
  have HLs := Lib.hid HLs
  clear hq hqs hb4 hl h0 h1 hp3 hw3
  go_wp2_with fail
  refine HLs.out.mono ?_
  rintro e w5 ⟨v, rfl, hown, hb5⟩
  obtain ⟨A5, c5, rfl, hn5, _, _⟩ := own_nats hown
  have N5 := Lib.hid hn5
  have R5 := Lib.hid (R4.out.keep hb5)
  have B5 := Lib.hid (below_on B4.out hb5)
  have G5 := Lib.hid (G4.out.keep hb5)
  clear hown hn5 hb5 a1
  go_wp2_with fail
  go_loopw [21, 6] (fun i bv wr => ∃ j : Nat, i = .int .i64 (j : Nat) ∧ j ≤ l.length ∧ bv = .int .i64 (bI (bestM D (l.take j))) ∧ Row wr p3 112 (nums D) ∧ NL w4.heap.size wr A5 l ∧ Cells wr w.heap.size [.int .i64 (n : Nat), .slice A m c] ∧ Below w.heap.size w wr) (fun i _ _ => l.length - (intOf i).toNat)
  case atStart => exact ⟨0, rfl, Nat.zero_le _, rfl, R5.out, N5.out, G5.out, B5.out⟩
  case round =>
    obtain ⟨j, rfl, hj, rfl, hr, hn, hgc, hb⟩ := hrel
    have R6 := Lib.hid hr
    have N6 := Lib.hid hn
    have G6 := Lib.hid hgc
    have B6 := Lib.hid hb
    clear hr hn hgc hb
    by_cases hlt : j < l.length
    · obtain ⟨x, b, o, hx, rfl, _, _, hcell⟩ := N6.out.at_ hlt
      have hx64 := Hm.out _ _ hx
      have hxi : (x : Int) < 64 := by omega
      have Hlt := Lib.hid hlt
      have z0 := (R6.out.cells.at_ x).trans (nums_at D hx64)
      have hsn := bestM_snoc D (l.take j) x
      rw [show l.take j ++ [x] = l.take (j + 1) by rw [List.take_add_one, hx]; rfl] at hsn
      have hbx := Hbd.out x
      obtain ⟨dx, hdx⟩ : ∃ dx, D x = dx := ⟨_, rfl⟩
      rw [hdx] at z0 hsn hbx
      cases hbm : bestM D (l.take j) with
      | none =>
        rw [hbm] at hsn
        obtain ⟨s, hs, hs0⟩ : ∃ s : Int, bI none = s ∧ s < 0 := ⟨_, rfl, by decide⟩
        rw [hs]
        have Hs := Lib.hid hs
        have t1 : decide (s < 0) = true := decide_eq_true hs0
        clear hs
        by_cases h0 : 0 ≤ dx
        · rw [if_pos h0] at hsn
          have Hsn := Lib.hid hsn
          have t0 : decide (0 ≤ dx) = true := decide_eq_true h0
          clear hx hsn hdx hbm
          go_wp2_with fail
          go_still_tail 16, (by kernel_rfl)
          change wpList _ _ _ _ _ wr.drew
          go_wp2_with fail
          go_roundw
          case rel => exact ⟨j + 1, by go_num, Hlt.out, by rw [Hsn.out]; first | rfl | rw [Hs.out], R6.out, N6.out.keep (Below.refl _ _).drew, G6.out.drew, B6.out.drew⟩
          case measure => simp [intOf]; have := Hlt.out; omega
        · rw [if_neg h0] at hsn
          have Hsn := Lib.hid hsn
          have t0 : decide (0 ≤ dx) = false := decide_eq_false h0
          clear hx hsn hdx hbm
          go_wp2_with fail
          go_still_tail 16, (by kernel_rfl)
          change wpList _ _ _ _ _ wr.drew
          go_wp2_with fail
          go_roundw
          case rel => exact ⟨j + 1, by go_num, Hlt.out, by rw [Hsn.out]; first | rfl | rw [Hs.out], R6.out, N6.out.keep (Below.refl _ _).drew, G6.out.drew, B6.out.drew⟩
          case measure => simp [intOf]; have := Hlt.out; omega
      | some y =>
        rw [hbm] at hsn
        simp only at hsn
        have ebi : bI (some y) = (y : Int) := rfl
        rw [ebi]
        obtain ⟨hy1, hy2⟩ := bestM_mem D _ y hbm
        have hy64 : y < 64 := by
          obtain ⟨i, hi⟩ := List.getElem?_of_mem (List.mem_of_mem_take hy1)
          exact Hm.out i y hi
        have hyi : (y : Int) < 64 := by omega
        have z1 := (R6.out.cells.at_ y).trans (nums_at D hy64)
        have hby := Hbd.out y
        obtain ⟨dy, hdy⟩ : ∃ dy, D y = dy := ⟨_, rfl⟩
        rw [hdy] at z1 hsn hby
        by_cases h0 : 0 ≤ dx
        · rw [if_pos h0] at hsn
          have t0 : decide (0 ≤ dx) = true := decide_eq_true h0
          have t1 : decide ((y : Int) < 0) = false := decide_eq_false (by omega)
          by_cases h2 : dx < dy
          · rw [if_pos h2] at hsn
            have t2 : decide (dx < dy) = true := decide_eq_true h2
            have Hsn := Lib.hid hsn
            clear hx hsn hdx hbm hy1 hy2 hdy
            go_wp2_with fail
            go_still_tail 16, (by kernel_rfl)
            change wpList _ _ _ _ _ wr.drew
            go_wp2_with fail
            go_roundw
            case rel => exact ⟨j + 1, by go_num, Hlt.out, by rw [Hsn.out]; first | rfl | rw [Hs.out], R6.out, N6.out.keep (Below.refl _ _).drew, G6.out.drew, B6.out.drew⟩
            case measure => simp [intOf]; have := Hlt.out; omega
          · rw [if_neg h2] at hsn
            have t2 : decide (dx < dy) = false := decide_eq_false h2
            have Hsn := Lib.hid hsn
            clear hx hsn hdx hbm hy1 hy2 hdy
            go_wp2_with fail
            go_still_tail 16, (by kernel_rfl)
            change wpList _ _ _ _ _ wr.drew
            go_wp2_with fail
            go_roundw
            case rel => exact ⟨j + 1, by go_num, Hlt.out, by rw [Hsn.out]; first | rfl | rw [Hs.out], R6.out, N6.out.keep (Below.refl _ _).drew, G6.out.drew, B6.out.drew⟩
            case measure => simp [intOf]; have := Hlt.out; omega
        · rw [if_neg h0] at hsn
          have t0 : decide (0 ≤ dx) = false := decide_eq_false h0
          have Hsn := Lib.hid hsn
          clear hx hsn hdx hbm hy1 hy2 hdy
          go_wp2_with fail
          go_still_tail 16, (by kernel_rfl)
          change wpList _ _ _ _ _ wr.drew
          go_wp2_with fail
          go_roundw
          case rel => exact ⟨j + 1, by go_num, Hlt.out, by rw [Hsn.out]; first | rfl | rw [Hs.out], R6.out, N6.out.keep (Below.refl _ _).drew, G6.out.drew, B6.out.drew⟩
          case measure => simp [intOf]; have := Hlt.out; omega
    · have hall : bestM D (l.take j) = bestM D l := by rw [List.take_of_length_le (by omega)]
      rw [hall]
      cases hbm : bestM D l with
      | none =>
        rw [hbm] at Hc
        have ebi : bI none = -1 := rfl
        rw [ebi]
        have Hc := Lib.hid (show cycM es node = none from Hc.out)
        clear hall hbm
        go_wp2_with fail
        go_ret
        exact ⟨.inl ⟨Hc.out, rfl⟩, B6.out⟩
      | some y =>
        rw [hbm] at Hc
        have ebi : bI (some y) = (y : Int) := rfl
        rw [ebi]
        obtain ⟨hy1, hy2⟩ := bestM_mem D _ y hbm
        have hy64 : y < 64 := by
          obtain ⟨i, hi⟩ := List.getElem?_of_mem hy1
          exact Hm.out i y hi
        have t1 : decide ((y : Int) < 0) = false := decide_eq_false (by omega)
        obtain ⟨d, hd⟩ : ∃ d : Nat, D y = (d : Int) := ⟨_, (Int.toNat_of_nonneg hy2).symm⟩
        have Hc := Hc.out
        rw [Option.map_some, hd, Int.toNat_natCast] at Hc
        have HK := HWk.out y d wr hy64 hd B6.out
        have hwl := wayM_len (adj es) D d y
        have hd65 : d ≤ 65 := by have := Hbd.out y; omega
        obtain ⟨lw, hlw⟩ : ∃ lw, wayM (adj es) D d y = lw := ⟨_, rfl⟩
        rw [hlw] at HK Hc hwl
        have HK := Lib.hid HK
        have Hc := Lib.hid Hc
        have h0 := G6.out.at_ 0
        have h1 := G6.out.at_ 1
        simp only [List.getElem?_cons_zero, List.getElem?_cons_succ] at h0 h1
        have hwl := Lib.hid hwl
        have hws := Lib.hid B6.out.size
        clear hall hbm hy1 hy2 hd hlw
        go_wp2_with (first
          | (refine wpList_load_row rfl 112 (.tmp 5) rfl p3 rfl 112 _ (0, 0) _ R6.out Tryd.underlying112 rfl (by rw [info_nums]; simp [nums_len]) ?_))
        refine HK.out.mono ?_
        rintro e w7 ⟨v, rfl, hown, hb7⟩
        have hwl := hwl.out
        have hws := hws.out
        obtain ⟨g, cap, rfl, hgl, hlc, hcm⟩ := own_some hown (by omega)
        have B7 := Lib.hid (below_on B6.out hb7)
        have Cut := own_cut' hown
        rw [show lw.length - 1 = lw.dropLast.length by rw [List.length_dropLast]] at Cut
        have Cut := Lib.hid (own_below Cut ((Below.refl w7.heap.size w7).alloc (Nat.le_refl _) (.cells #[.int .i64 (node : Nat)] 3)))
        have hdl : lw.dropLast.length = d := by rw [List.length_dropLast, hwl]; rfl
        have HI := insert_any wr.heap.size g cap node w7.heap.size lw.dropLast (w7.alloc (.cells #[.int .i64 (node : Nat)] 3)) Cut.out (by rw [hdl]; omega) (heap_new w7 _) (by omega)
        have B8 := Lib.hid (B7.out.alloc B7.out.size (.cells #[.int .i64 (node : Nat)] 3))
        rw [hwl] at hlc ⊢
        rw [hdl] at HI
        have HI := Lib.hid HI
        have Hdl := Lib.hid hdl
        unfold maxLen at hcm
        have ew : IntKind.i64.wrap (((d + 1 : Nat) : Int) - 1) = (d : Int) := by rw [show ((d + 1 : Nat) : Int) - 1 = (d : Int) by omega]; exact IntWalk.i64_in _ (by omega)
        have i1 : (d : Int) ≤ (cap : Int) := by omega
        clear hown hb7 hgl hdl h0 h1 hwl
        go_wp2_with fail
        refine HI.out.mono ?_
        rintro e w9 ⟨rfl, hnl, hb9⟩
        have Hnl := Lib.hid (hnl.down hws)
        have B9 := Lib.hid (B8.out.trans (hb9.mono hws))
        clear hnl hb9
        go_wp2_with fail
        go_ret
        refine ⟨.inr ⟨_, g, cap, Hc.out, ?_, Hnl.out⟩, B9.out⟩
        rw [List.length_cons, Hdl.out]
        rfl
end Go.Proofs.YthocdmlacfejkaaDoor
