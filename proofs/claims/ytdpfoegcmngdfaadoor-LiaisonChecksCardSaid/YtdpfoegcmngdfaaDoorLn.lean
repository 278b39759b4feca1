/- Liaisons: Cuts of a connected set. -/
import Derived.Test.YtdpfoegcmngdfaaDoorLl
namespace Go.Proofs.YtdpfoegcmngdfaaDoor
open Go.RowKit Go.Shelf
section
attribute [local go_sem] Oper.semAt_some
set_option maxRecDepth 100000 in
set_option maxHeartbeats 8000000 in
theorem cutsF_ok (gn ge : Value) (SA : Option Addr) (SN SC : Nat) (L : Nat → Nat) (s f : Nat) (w : World) (hR : ∀ w', Below w.heap.size w w' → Calls Tryd.prog 47 #[.agg #[gn, ge], .slice SA SN SC] w' fun e w1 => e = .returned (.tuple #[lvV L, .int .u64 (s : Nat), .int .i64 0]) ∧ Below w'.heap.size w' w1) (_hgn : gn.oneCell' = true) (_hge : ge.oneCell' = true) (hL : ∀ i, Under 64 (L i)) (hs : s < 4096) (hw : Good w) (hc : conM L s = true) (hSN : 1 ≤ SN) (hS12 : SN ≤ 12) (hSB : (sbs s (SN - 1)).length ≤ 100000) (hf12 : f < 64) (hset : ∀ w', Below w.heap.size w w' → ∃ b o, SA = some ⟨b, o, none⟩ ∧ w'.cell? ⟨b, o, none⟩ = some (.int .i64 (f : Nat))) :
    Calls Tryd.prog 27 #[.agg #[gn, ge], .slice SA SN SC] w fun e w' => ∃ v, e = .returned (.tuple #[v, .int .i64 0]) ∧ OutC w.heap.size w' v (((sbs s (SN - 1)).filter (isCut L s f)).map fun x => (bitsOf x, bitsOf (diff s x))) ∧ Below w.heap.size w w' := by
  have kv := ((Below.refl w.heap.size w).alloc (Nat.le_refl _) (.cells #[gn, ge] 24)).alloc (by simp) (.cells #[.slice SA SN SC] 25)
  have P0 := (Cells.new w #[gn, ge] 24).keep ((Below.refl _ _).alloc (Nat.le_refl _) (.cells #[.slice SA SN SC] 25))
  have HR := Lib.hid (hR _ kv)
  have g0 := P0.at_ 0
  have g1 := P0.at_ 1
  simp only [List.getElem?_cons_zero, List.getElem?_cons_succ] at g0 g1
  have hb0 := heap_new (w.alloc (.cells #[gn, ge] 24)) (.cells #[.slice SA SN SC] 25)
  simp only [World.size_alloc] at hb0
  have cB0 := cell_one hb0
  have HB0 := Lib.hid hb0
  have hz0 : ((w.alloc (.cells #[gn, ge] 24)).alloc (.cells #[.slice SA SN SC] 25)).heap.size = w.heap.size + 1 + 1 := by simp
  have kv := Lib.hid kv
  have HL := Lib.hid hL
  have HW := Lib.hid (fun w' (h : Below w.heap.size w w') => hw.below h hw.size)
  have HCN := Lib.hid (fun w1 (h : Below w.heap.size w w1) => conn_any L s ((w1.alloc (.cells (lvC L) 80)).alloc (.cells #[.int .u64 (s : Nat)] 78)) hL hs (hw.below ((h.alloc h.size _).alloc (Nat.le_trans h.size (by simp)) _) hw.size))
  rw [hc] at HCN
  obtain ⟨j0, hj, jz0, jz1, jz2⟩ := info_parts info_cut
  have HSB := Lib.hid hSB
  have HT := Lib.hid hset
  have em : (SN : Int) - 1 = ((SN - 1 : Nat) : Int) := by omega
  clear hR hL hw P0 hSB hset
  refine (callsIn_wide (n := 6)).1 ?_
  refine callsIn_of_wp_marks Tryd.func27 rfl trivial ?_ rfl
  simp only [Tryd.ntmps27, List.size_toArray, List.length_cons, List.length_nil, Nat.reduceAdd, Nat.reduceSub, Array.replicate_succ, Array.replicate_zero, List.push_toArray, List.append_toArray, List.nil_append, List.cons_append]
  gi_wp2_with (first
    | (refine ⟨trivial, ?_⟩; gi_at_call 47; refine (callsIn_wide.2 HR.out).mono ?_; rintro e w1 ⟨rfl, hb1⟩; have B1 := Lib.hid (below_on kv.out hb1); have hS1 := (hb1.block (w.heap.size + 1) (by omega)).trans HB0.out; have cB1 := cell_one hS1; have z1 := Lib.hid (show w.heap.size + 1 + 1 ≤ w1.heap.size by have := hb1.size; omega); clear hb1 g0 g1 kv HR cB0 hb0)
    | (refine ⟨trivial, ?_⟩; gi_at_call 48; refine (callsIn_wide.2 (HCN.out w1 B1.out)).mono ?_; rintro e w2 ⟨rfl, hb2⟩; clear cB1; have hL2 := (hb2.block w1.heap.size (by simp; omega)).trans (heap_old (o := (.cells #[.int .u64 (s : Nat)] 78)) (heap_new w1 (.cells (lvC L) 80))); have hs2 := (hb2.block (w1.heap.size + 1) (by simp)).trans (show ((w1.alloc (.cells (lvC L) 80)).alloc (.cells #[.int .u64 (s : Nat)] 78)).heap[w1.heap.size + 1]? = some (.cells #[.int .u64 (s : Nat)] 78) from by simpa using heap_new (w1.alloc (.cells (lvC L) 80)) (.cells #[.int .u64 (s : Nat)] 78)); have hS2 := (hb2.block (w.heap.size + 1) (by simp; have := z1.out; omega)).trans (heap_old (o := (.cells #[.int .u64 (s : Nat)] 78)) (heap_old (o := (.cells (lvC L) 80)) hS1)); have cs2 := cell_one hs2; have cB2 := cell_one hS2; have cs3 := cell_one (heap_old (o := (.cells #[.slice none 0 0] 50)) hs2); have cB3 := cell_one (heap_old (o := (.cells #[.slice none 0 0] 50)) hS2); have B2 := Lib.hid (((B1.out.alloc B1.out.size (.cells (lvC L) 80)).alloc (Nat.le_trans B1.out.size (by simp)) (.cells #[.int .u64 (s : Nat)] 78)).trans (hb2.mono (Nat.le_trans B1.out.size (by simp; omega)))); have z2 := Lib.hid (show w1.heap.size + 1 + 1 ≤ w2.heap.size by have := hb2.size; simp at this; omega); clear hb2)
    | (refine ⟨trivial, ?_⟩; gi_at_call 52; refine (callsIn_wide.2 (subsets_any _ _ _)).mono ?_; rintro e w' ⟨rfl, rfl⟩))
  obtain ⟨p, hp⟩ : ∃ p, w1.heap.size = p := ⟨_, rfl⟩
  obtain ⟨q, hq⟩ : ∃ q, w2.heap.size = q := ⟨_, rfl⟩
  have hwp : w.heap.size + 1 + 1 ≤ p := by rw [← hp]; exact z1.out
  have hpq : p + 1 + 1 ≤ q := by rw [← hp, ← hq]; exact z2.out
  rw [hp] at hL2 hs2
  have K4 := ((B2.out.alloc B2.out.size (.cells #[.slice none 0 0] 50)).alloc (by simp; omega) (.cells #[.int .u64 (s : Nat)] 78)).alloc (by simp; omega) (.cells #[.int .i64 ((SN - 1 : Nat) : Nat)] 3)
  have A0 := heap_old (o := (.cells #[.int .i64 ((SN - 1 : Nat) : Nat)] 3)) (heap_old (o := (.cells #[.int .u64 (s : Nat)] 78)) (heap_old (o := (.cells #[.slice none 0 0] 50)) hS2))
  have A1 := heap_old (o := (.cells #[.int .i64 ((SN - 1 : Nat) : Nat)] 3)) (heap_old (o := (.cells #[.int .u64 (s : Nat)] 78)) (heap_old (o := (.cells #[.slice none 0 0] 50)) hL2))
  have A2 := heap_old (o := (.cells #[.int .i64 ((SN - 1 : Nat) : Nat)] 3)) (heap_old (o := (.cells #[.int .u64 (s : Nat)] 78)) (heap_old (o := (.cells #[.slice none 0 0] 50)) hs2))
  have A3 := heap_old (o := (.cells #[.int .i64 ((SN - 1 : Nat) : Nat)] 3)) (heap_old (o := (.cells #[.int .u64 (s : Nat)] 78)) (heap_new w2 (.cells #[.slice none 0 0] 50)))
  have A4 := heap_old (o := (.cells #[.int .i64 ((SN - 1 : Nat) : Nat)] 3)) (heap_new (w2.alloc (.cells #[.slice none 0 0] 50)) (.cells #[.int .u64 (s : Nat)] 78))
  have A5 := heap_new ((w2.alloc (.cells #[.slice none 0 0] 50)).alloc (.cells #[.int .u64 (s : Nat)] 78)) (.cells #[.int .i64 ((SN - 1 : Nat) : Nat)] 3)
  have zz : (((w2.alloc (.cells #[.slice none 0 0] 50)).alloc (.cells #[.int .u64 (s : Nat)] 78)).alloc (.cells #[.int .i64 ((SN - 1 : Nat) : Nat)] 3)).heap.size = q + 1 + 1 + 1 := by simp [hq]
  simp only [World.size_alloc, hq] at A3 A4 A5
  rw [hp, hq]
  obtain ⟨u, hu⟩ : ∃ u, ((w2.alloc (.cells #[.slice none 0 0] 50)).alloc (.cells #[.int .u64 (s : Nat)] 78)).alloc (.cells #[.int .i64 ((SN - 1 : Nat) : Nat)] 3) = u := ⟨_, rfl⟩
  rw [hu] at K4 A0 A1 A2 A3 A4 A5 zz
  try rw [hu]
  clear hu cs2 cB2 cs3 cB3
  refine wpIn_rangeFunc_ownF rfl (by omega) (gf := 74) (lb := #[.pointer (some ⟨q + 1 + 1, 0, none⟩), .pointer (some ⟨q + 1, 0, none⟩)]) rfl trivial (enters_of Tryd.func74 (by kernel_rfl) rfl)
    (subs_stops w u s (SN - 1) (fun k => k = q ∨ q + 1 + 1 + 1 ≤ k) (q + 1) (q + 1 + 1) _ _ K4 hs (by omega) A4 A5 (fun k h => by rcases h with h | h <;> omega) _) kpV_t (kpV_b (by omega)) (Below.refl _ _) (fun _ => rfl)
    (fun pre W => (W.heap[w.heap.size + 1]? = some (.cells #[.slice SA SN SC] 25) ∧ W.heap[p]? = some (.cells (lvC L) 80) ∧ W.heap[p + 1]? = some (.cells #[.int .u64 (s : Nat)] 78) ∧ (∃ v, W.heap[q]? = some (.cells #[v] 50) ∧ OutC (q + 1 + 1 + 1) W v (cutsL L s f pre)) ∧ q + 1 + 1 + 1 ≤ W.heap.size) ∧ Below w.heap.size w W)
    (fun _ _ _ => False)
    (fun st W W' row hst hg hr => by
      obtain ⟨⟨h1, h2, h3, ⟨v, h4, h5⟩, h6⟩, hB⟩ := hst
      have hr' := fun r e => (hr r e).2
      exact ⟨⟨obj_kept h1 hg hr', obj_kept h2 hg hr', obj_kept h3 hg hr', ⟨v, obj_kept h4 hg hr', h5.kept hg hr'⟩, Nat.le_trans h6 hg.size⟩, ownFrom_below (β := List Cf) (Nat.le_refl _) (by omega) st W W' row hB hg hr⟩)
    (fun _ _ _ _ _ hs _ _ => hs)
    ⟨⟨A0, A1, A2, ⟨_, A3, OutC.nil _ _⟩, by omega⟩, K4⟩
    (fun x : Cf => { tmps := #[.agg #[gn, ge], .slice SA SN SC, .pointer (some ⟨w.heap.size, 0, none⟩), .pointer (some ⟨w.heap.size + 1, 0, none⟩), .slice none 0 0, .int .i64 0, .pointer (some ⟨p, 0, none⟩), .pointer (some ⟨p + 1, 0, none⟩), .int .i64 0, .pointer (some ⟨q, 0, none⟩), .int .u64 (x.1 : Nat), undef, .tuple #[lvV L, .int .u64 (s : Nat), .int .i64 0], .agg #[gn, ge], .slice SA SN SC, .tuple #[lvV L, .int .u64 (s : Nat), .int .i64 0], lvV L, .int .u64 (s : Nat), .int .i64 0, .int .i64 0, .bool false, undef, lvV L, .int .u64 (s : Nat), .bool true, .bool false, .int .u64 (s : Nat), .slice SA SN SC, .int .i64 (SN : Nat), .int .i64 ((SN - 1 : Nat) : Nat), .func (.func 74) #[] #[.pointer (some ⟨q + 1 + 1, 0, none⟩), .pointer (some ⟨q + 1, 0, none⟩)], .int .u64 (x.1 : Nat), undef, undef, undef, undef, undef, undef, undef, undef, undef, undef, undef, undef, undef, undef, undef, undef, undef, undef, undef, undef, undef, undef, undef, undef, undef, undef, undef], defers := [] }) ?assign ?body ?done ?stop
  case assign =>
    intro l x W K hK
    gi_wp2
    first | exact hK | (simp; exact hK) | simpa using hK
  case body =>
    rintro l pre x W ⟨⟨hSW, hLW, hsW, ⟨v, hf, ho⟩, hz⟩, hB⟩ hlen
    have HS0 := Lib.hid hSW
    have HL0 := Lib.hid hLW
    have Hs0 := Lib.hid hsW
    have HF0 := Lib.hid hf
    have QW := Cells.of_row hLW
    rw [lvC_list] at QW
    have y0 := QW.at_ 0
    have y1 := QW.at_ 1
    have y2 := QW.at_ 2
    have y3 := QW.at_ 3
    have y4 := QW.at_ 4
    have y5 := QW.at_ 5
    have y6 := QW.at_ 6
    have y7 := QW.at_ 7
    have y8 := QW.at_ 8
    have y9 := QW.at_ 9
    have y10 := QW.at_ 10
    have y11 := QW.at_ 11
    simp only [sets12, List.range, List.range.loop, List.map_cons, List.map_nil, List.getElem?_cons_zero, List.getElem?_cons_succ] at y0 y1 y2 y3 y4 y5 y6 y7 y8 y9 y10 y11
    have cs := cell_one hsW
    have cB := cell_one hSW
    obtain ⟨ba, oa, rfl, cf⟩ := HT.out W hB
    have hx := x.2
    have hdx : diff s x.1 < 4096 := diff_lt hs
    have hdx64 : diff s x.1 < 18446744073709551616 := by omega
    have e0 : bits .andNot .u64 (s : Int) ((x.1 : Nat) : Int) = ((diff s x.1 : Nat) : Int) := bits_diff _ _ (by omega) (by omega)
    have HH := Lib.hid (fun w' => has_any x.1 f w' hf12 (by omega))
    have H1 := conn_any L x.1 W HL.out hx (HW.out _ hB)
    have H2 := fun w' (hb : Below W.heap.size W w') => conn_any L (diff s x.1) w' HL.out hdx (HW.out _ (hB.trans (hb.mono hB.size)))
    have HS := Lib.hid (cutsL_snoc L s f pre x)
    have hCt : isCut L s f x.1 = (x.1.testBit f && conM L x.1 && conM L (diff s x.1)) := rfl
    have Hln := Lib.hid (show (cutsL L s f pre).length ≤ 100000 by have := cutsL_len L s f pre; have := HSB.out; omega)
    obtain ⟨b0, hb0⟩ : ∃ b, x.1.testBit f = b := ⟨_, rfl⟩
    obtain ⟨b1, hb1⟩ : ∃ b, conM L x.1 = b := ⟨_, rfl⟩
    obtain ⟨b2, hb2⟩ : ∃ b, conM L (diff s x.1) = b := ⟨_, rfl⟩
    rw [hb0, hb1, hb2] at hCt
    rw [hb0] at HH
    rw [hb1] at H1
    rw [hb2] at H2
    have H1 := Lib.hid H1
    have H2 := Lib.hid H2
    have HCt := Lib.hid hCt
    clear hb0 hb1 hb2 hSW hLW hsW hf QW hCt
    have hqW : q < W.heap.size := by omega
    cases b0
    · gi_wp2_with (refine ⟨trivial, ?_⟩; gi_at_call 55; refine (CallsIn.inRound l (callsIn_wide.2 (HH.out _))).mono ?_; rintro e w2 ⟨rfl, rfl⟩)
      refine ⟨trivial, ?_⟩
      gi_wp2
      refine ⟨trivial, ?_⟩
      gi_wp2
      have hbd : Below W.heap.size W W := Below.refl _ _
      have e1 : cutsL L s f (pre ++ [x]) = cutsL L s f pre := by rw [HS.out, HCt.out]; rfl
      refine ⟨KeepsOthers.of_grownBy (grown_below hbd) (fun j o e => by cases e), kpV_below hbd (by omega), ⟨⟨(hbd.block _ (by omega)).trans HS0.out, (hbd.block _ (by omega)).trans HL0.out, (hbd.block _ (by omega)).trans Hs0.out, ⟨v, (hbd.block _ (by omega)).trans HF0.out, ?_⟩, Nat.le_trans hz hbd.size⟩, hB.trans (hbd.mono hB.size)⟩⟩
      rw [e1]; exact ho.keep hbd
    · cases b1
      · gi_wp2_with (first | (refine ⟨trivial, ?_⟩; gi_at_call 55; refine (CallsIn.inRound l (callsIn_wide.2 (HH.out _))).mono ?_; rintro e w2 ⟨rfl, rfl⟩) | (refine ⟨trivial, ?_⟩; gi_at_call 48; refine (CallsIn.inRound l (callsIn_wide.2 H1.out)).mono ?_; clear H1; rintro e w3 ⟨rfl, hb3⟩; have hL3 := (hb3.block p (by omega)).trans HL0.out; have QW3 := Cells.of_row hL3; rw [lvC_list] at QW3; have z0 := QW3.at_ 0; have z1 := QW3.at_ 1; have z2 := QW3.at_ 2; have z3 := QW3.at_ 3; have z4 := QW3.at_ 4; have z5 := QW3.at_ 5; have z6 := QW3.at_ 6; have z7 := QW3.at_ 7; have z8 := QW3.at_ 8; have z9 := QW3.at_ 9; have z10 := QW3.at_ 10; have z11 := QW3.at_ 11; simp only [sets12, List.range, List.range.loop, List.map_cons, List.map_nil, List.getElem?_cons_zero, List.getElem?_cons_succ] at z0 z1 z2 z3 z4 z5 z6 z7 z8 z9 z10 z11; clear QW3; clear y0 y1 y2 y3 y4 y5 y6 y7 y8 y9 y10 y11))
        refine ⟨trivial, ?_⟩
        gi_wp2
        have hbd : Below W.heap.size W w3 := hb3
        have e1 : cutsL L s f (pre ++ [x]) = cutsL L s f pre := by rw [HS.out, HCt.out]; rfl
        refine ⟨KeepsOthers.of_grownBy (grown_below hbd) (fun j o e => by cases e), kpV_below hbd (by omega), ⟨⟨(hbd.block _ (by omega)).trans HS0.out, (hbd.block _ (by omega)).trans HL0.out, (hbd.block _ (by omega)).trans Hs0.out, ⟨v, (hbd.block _ (by omega)).trans HF0.out, ?_⟩, Nat.le_trans hz hbd.size⟩, hB.trans (hbd.mono hB.size)⟩⟩
        rw [e1]; exact ho.keep hbd
      · cases b2
        · gi_wp2_with (first | (refine ⟨trivial, ?_⟩; gi_at_call 55; refine (CallsIn.inRound l (callsIn_wide.2 (HH.out _))).mono ?_; rintro e w2 ⟨rfl, rfl⟩) | (refine ⟨trivial, ?_⟩; gi_at_call 48; refine (CallsIn.inRound l (callsIn_wide.2 H1.out)).mono ?_; clear H1; rintro e w3 ⟨rfl, hb3⟩; have hL3 := (hb3.block p (by omega)).trans HL0.out; have QW3 := Cells.of_row hL3; rw [lvC_list] at QW3; have z0 := QW3.at_ 0; have z1 := QW3.at_ 1; have z2 := QW3.at_ 2; have z3 := QW3.at_ 3; have z4 := QW3.at_ 4; have z5 := QW3.at_ 5; have z6 := QW3.at_ 6; have z7 := QW3.at_ 7; have z8 := QW3.at_ 8; have z9 := QW3.at_ 9; have z10 := QW3.at_ 10; have z11 := QW3.at_ 11; simp only [sets12, List.range, List.range.loop, List.map_cons, List.map_nil, List.getElem?_cons_zero, List.getElem?_cons_succ] at z0 z1 z2 z3 z4 z5 z6 z7 z8 z9 z10 z11; clear QW3; clear y0 y1 y2 y3 y4 y5 y6 y7 y8 y9 y10 y11) | (refine ⟨trivial, ?_⟩; gi_at_call 48; refine (CallsIn.inRound l (callsIn_wide.2 (H2.out _ hb3))).mono ?_; clear H2; rintro e w4 ⟨rfl, hb4⟩))
          have hbd : Below W.heap.size W w4 := hb3.trans (hb4.mono hb3.size)
          have e1 : cutsL L s f (pre ++ [x]) = cutsL L s f pre := by rw [HS.out, HCt.out]; rfl
          refine ⟨KeepsOthers.of_grownBy (grown_below hbd) (fun j o e => by cases e), kpV_below hbd (by omega), ⟨⟨(hbd.block _ (by omega)).trans HS0.out, (hbd.block _ (by omega)).trans HL0.out, (hbd.block _ (by omega)).trans Hs0.out, ⟨v, (hbd.block _ (by omega)).trans HF0.out, ?_⟩, Nat.le_trans hz hbd.size⟩, hB.trans (hbd.mono hB.size)⟩⟩
          rw [e1]; exact ho.keep hbd
        · gi_wp2_with (first | (refine ⟨trivial, ?_⟩; gi_at_call 55; refine (CallsIn.inRound l (callsIn_wide.2 (HH.out _))).mono ?_; rintro e w2 ⟨rfl, rfl⟩) | (refine ⟨trivial, ?_⟩; gi_at_call 48; refine (CallsIn.inRound l (callsIn_wide.2 H1.out)).mono ?_; clear H1; rintro e w3 ⟨rfl, hb3⟩; have hL3 := (hb3.block p (by omega)).trans HL0.out; have QW3 := Cells.of_row hL3; rw [lvC_list] at QW3; have z0 := QW3.at_ 0; have z1 := QW3.at_ 1; have z2 := QW3.at_ 2; have z3 := QW3.at_ 3; have z4 := QW3.at_ 4; have z5 := QW3.at_ 5; have z6 := QW3.at_ 6; have z7 := QW3.at_ 7; have z8 := QW3.at_ 8; have z9 := QW3.at_ 9; have z10 := QW3.at_ 10; have z11 := QW3.at_ 11; simp only [sets12, List.range, List.range.loop, List.map_cons, List.map_nil, List.getElem?_cons_zero, List.getElem?_cons_succ] at z0 z1 z2 z3 z4 z5 z6 z7 z8 z9 z10 z11; clear QW3; clear y0 y1 y2 y3 y4 y5 y6 y7 y8 y9 y10 y11) | (refine ⟨trivial, ?_⟩; gi_at_call 48; refine (CallsIn.inRound l (callsIn_wide.2 (H2.out _ hb3))).mono ?_; clear H2; rintro e w4 ⟨rfl, hb4⟩))
          have hbd := (hb3.trans (hb4.mono hb3.size)).drew
          have HKO4 := Lib.hid (KeepsOthers.of_grownBy (grown_below hbd) (fun j o e => by cases e))
          have HKP4 := Lib.hid (kpV_below (X := fun k => k = q ∨ q + 1 + 1 + 1 ≤ k) (n₀ := w.heap.size) hbd (by omega))
          have HB4 := Lib.hid (hB.trans (hbd.mono hB.size))
          have hz4 : q + 1 + 1 + 1 ≤ w4.drew.heap.size := Nat.le_trans hz hbd.size
          have HS4 := Lib.hid ((hbd.block _ (by omega)).trans HS0.out)
          have HL4 := Lib.hid ((hbd.block _ (by omega)).trans HL0.out)
          have Hs4 := Lib.hid ((hbd.block _ (by omega)).trans Hs0.out)
          have hf4 := (hbd.block q (by omega)).trans HF0.out
          have c4 := cell_one hf4
          have HF4 := Lib.hid hf4
          have HO4 := Lib.hid (ho.keep hbd)
          have HLa := Lib.hid (list_any x.1 w4.drew (by omega) (HW.out _ HB4.out))
          clear z0 z1 z2 z3 z4 z5 z6 z7 z8 z9 z10 z11 hf4
          have hmx : Tryd.prog.follows .mixedOrders = true := by kernel_rfl
          refine round_any hmx (by kernel_rfl) ?_
          obtain ⟨wd, hwd⟩ : ∃ u, w4.drew = u := ⟨_, rfl⟩
          rw [hwd] at HB4 hz4 HS4 HL4 Hs4 c4 HF4 HO4 HLa HKO4 HKP4
          rw [hwd]
          clear hwd hbd
          refine wpAnyIn_take (i := 1) (v := .int .u64 (x.1 : Nat)) rfl rfl (by kernel_rfl) (by kernel_rfl) (by kernel_rfl) (fun _ _ _ h => h) ⟨.inl ⟨by kernel_rfl, fun w => by go_simp⟩, fun w => rfl⟩ ?_
          refine wpAnyIn_take (i := 3) (v := .int .u64 (diff s x.1 : Nat)) rfl rfl (by kernel_rfl) (by kernel_rfl) (by kernel_rfl) (fun _ _ _ h => h) ⟨.inl ⟨by kernel_rfl, fun w => by go_simp⟩, fun w => rfl⟩ ?_
          refine wpAnyIn_ready (rs := [0, 2]) (by kernel_rfl) (by simp) (BigFrame.allReadyIn_want rfl (by kernel_rfl) (fun K hK => ?_) (BigFrame.allReadyIn_want rfl (by kernel_rfl) (fun K hK => ?_) AllReadyIn.nil))
          · go_simp
            refine hK _ _ ?_
            clear hK K
            refine wpAnyIn_ready (rs := [2]) (by kernel_rfl) (by simp) (BigFrame.allReadyIn_want rfl (by kernel_rfl) (fun K hK => ?_) AllReadyIn.nil)
            go_simp
            refine ⟨trivial, ?_⟩
            refine (callsIn_wide.2 HLa.out).mono ?_
            rintro e w5 ⟨v5, rfl, hown5, hb5⟩
            obtain ⟨A5, c5, rfl, hl5⟩ := RowL.of_own hown5
            have hf5 := (hb5.block q (by show q < wd.heap.size; omega)).trans HF4.out
            have hc5 := cell_one hf5
            refine hK _ _ ?_
            clear hK K
            refine wpAnyIn_ready (rs := [4]) (by kernel_rfl) (by simp) (BigFrame.allReadyIn_want rfl (by kernel_rfl) (fun K hK => ?_) AllReadyIn.nil)
            go_simp
            refine ⟨trivial, ?_⟩
            refine (callsIn_wide.2 (list_any (diff s x.1) w5 hdx64 (HW.out _ (HB4.out.trans (hb5.mono HB4.out.size))))).mono ?_
            rintro e w6 ⟨v6, rfl, hown6, hb6⟩
            obtain ⟨A6, c6, rfl, hl6⟩ := RowL.of_own hown6
            have hl5' := hl5.keep hb6
            have hz5 : q + 1 + 1 + 1 ≤ w5.heap.size := Nat.le_trans hz4 hb5.size
            have hf6 := (hb6.block q (by omega)).trans hf5
            have hc6 := cell_one hf6
            have hc6' := cell_one (heap_old (o := .cells #[.slice A5 (bitsOf x.1).length c5, .slice A6 (bitsOf (diff s x.1)).length c6] 56) hf6)
            obtain ⟨qs, hqs, ho6, hr6⟩ := (HO4.out.keep hb5).keep hb6
            have hz6 : q + 1 + 1 + 1 ≤ w6.heap.size := Nat.le_trans hz5 hb6.size
            have hql : qs.length ≤ 100000 := by have := Hln.out; have h9 := congrArg List.length hqs; rw [List.length_map] at h9; omega
            obtain ⟨v7, w7, hrun, own7, grw7, _⟩ := run_append_own (P := Tryd.prog) (w := w6.alloc (.cells #[.slice A5 (bitsOf x.1).length c5, .slice A6 (bitsOf (diff s x.1)).length c6] 56)) (q + 1 + 1 + 1) 50 50 56 j0 (.agg #[.slice none 0 0, .slice none 0 0]) 2 48 Tryd.underlying50 hj jz0 jz1 jz2 rfl (by decide) v _ (cflat qs) (ho6.alloc _) ⟨w6.heap.size, 0, none⟩ 1 1 [.slice A5 (bitsOf x.1).length c5, .slice A6 (bitsOf (diff s x.1)).length c6] rfl (by
              intro k u hu
              match k, hu with
              | 0, hu => simp at hu; subst hu; simp [Addr.add]
              | 1, hu => simp at hu; subst hu; simp [Addr.add]) (by intro u hu; simp at hu; rcases hu with rfl | rfl <;> rfl) (by unfold maxLen; omega) (by omega) (by simp; omega)
            have hb7 := Lib.hid (fun (B : Nat) (hB : B ≤ q + 1 + 1 + 1) => ((Below.refl B w6).alloc (Nat.le_trans hB hz6) (.cells #[.slice A5 (bitsOf x.1).length c5, .slice A6 (bitsOf (diff s x.1)).length c6] 56)).grown grw7 (by simp; omega) (fun k hk => Nat.le_trans hB (own_ge ho6 hk)))
            have hf7 := Lib.hid (((hb7.out (q + 1) (by omega)).block q (by omega)).trans hf6)
            have c7 := cell_one hf7.out
            have f7 := froz_one hf7.out 0
            have HO7 := Lib.hid (OutC.grow ho6 rfl hr6 hl5' hl6 own7 grw7)
            rw [hqs] at HO7
            obtain ⟨A8, n8, c8, rfl⟩ := own_slice own7
            refine hK _ _ ?_
            clear hK K
            refine wpAnyIn_ready (rs := [5]) (by kernel_rfl) (by simp) (BigFrame.allReadyIn_want rfl (by kernel_rfl) (fun K hK => ?_) AllReadyIn.nil)
            go_simp
            refine hK _ _ ?_
            clear hK K
            refine wpAnyIn_ready (rs := [6]) (by kernel_rfl) (by simp) (BigFrame.allReadyIn_want rfl (by kernel_rfl) (fun K hK => ?_) AllReadyIn.nil)
            go_simp
            refine hK _ _ ?_
            clear hK K
            refine wpAnyIn_ready (rs := [7]) (by kernel_rfl) (by simp) (BigFrame.allReadyIn_want rfl (by kernel_rfl) (fun K hK => ?_) AllReadyIn.nil)
            refine opIn_append rfl rfl rfl hrun ?_
            refine hK _ _ ?_
            clear hK K
            refine wpAnyIn_ready (rs := [8]) (by kernel_rfl) (by simp) (BigFrame.allReadyIn_want rfl (by kernel_rfl) (fun K hK => ?_) AllReadyIn.nil)
            go_simp
            refine hK _ _ ?_
            clear hK K
            refine wpAnyIn_done (by kernel_rfl) ?_ _
            gi_wp2
            have e1 : cutsL L s f (pre ++ [x]) = cutsL L s f pre ++ [(bitsOf x.1, bitsOf (diff s x.1))] := by rw [HS.out, HCt.out]; rfl
            have k3 : w.heap.size ≤ W.heap.size := hB.size
            have k4 : w.heap.size ≤ wd.heap.size := HB4.out.size
            refine ⟨HKO4.out.trans ((KeepsOthers.of_grownBy (grown_below hb5) (fun j o e => by cases e)).trans ((KeepsOthers.of_grownBy (grown_below hb6) (fun j o e => by cases e)).trans ((KeepsOthers.alloc _ _).trans ((KeepsOthers.of_grownBy grw7 (fun j o e h => own_cellsN (ho6.alloc _) e h)).trans (KeepsOthers.setCell _ _ _))))), kpV_t HKP4.out (kpV_t (kpV_below hb5 k4) (kpV_t (kpV_below hb6 (Nat.le_trans k4 hb5.size)) (kpV_t (kpV_below ((Below.refl _ w6).alloc (Nat.le_refl _) _) (by omega)) (kpV_t (kpV_grown ((Below.refl w.heap.size _).grown grw7 (by simp; omega) (fun k hk => by have := own_ge ho6 hk; omega)) grw7 (fun r e => .inr (own_ge ho6 e))) (kpV_set _ q 0 _ (by omega) (.inl rfl)))))), ⟨⟨?_, ?_, ?_, ⟨_, set_one hf7.out, ?_⟩, ?_⟩, ?_⟩⟩
            · exact (Below.heap_setCell w7 ⟨q, 0, none⟩ _ (w.heap.size + 1) (by simp; omega)).trans (((hb7.out q (by omega)).block _ (by omega)).trans ((hb6.block _ (by omega)).trans ((hb5.block _ (by show _ < wd.heap.size; omega)).trans HS4.out)))
            · exact (Below.heap_setCell w7 ⟨q, 0, none⟩ _ p (by simp; omega)).trans (((hb7.out q (by omega)).block _ (by omega)).trans ((hb6.block _ (by omega)).trans ((hb5.block _ (by show _ < wd.heap.size; omega)).trans HL4.out)))
            · exact (Below.heap_setCell w7 ⟨q, 0, none⟩ _ (p + 1) (by simp; omega)).trans (((hb7.out q (by omega)).block _ (by omega)).trans ((hb6.block _ (by omega)).trans ((hb5.block _ (by show _ < wd.heap.size; omega)).trans Hs4.out)))
            · rw [e1]; exact HO7.out.set (by omega) hf7.out (by decide)
            · simp; exact Nat.le_trans hz6 (hb7.out 0 (by omega)).size
            · exact (HB4.out.trans (hb5.mono k4)).trans ((hb6.mono (Nat.le_trans k4 hb5.size)).trans ((hb7.out w.heap.size (by omega)).setCell (p := ⟨q, 0, none⟩) (by simp; omega) _))
          · go_simp
            refine ⟨trivial, ?_⟩
            refine (callsIn_wide.2 HLa.out).mono ?_
            rintro e w5 ⟨v5, rfl, hown5, hb5⟩
            obtain ⟨A5, c5, rfl, hl5⟩ := RowL.of_own hown5
            have hf5 := (hb5.block q (by show q < wd.heap.size; omega)).trans HF4.out
            have hc5 := cell_one hf5
            refine hK _ _ ?_
            clear hK K
            refine wpAnyIn_ready (rs := [0, 4]) (by kernel_rfl) (by simp) (BigFrame.allReadyIn_want rfl (by kernel_rfl) (fun K hK => ?_) (BigFrame.allReadyIn_want rfl (by kernel_rfl) (fun K hK => ?_) AllReadyIn.nil))
            · go_simp
              refine hK _ _ ?_
              clear hK K
              refine wpAnyIn_ready (rs := [4]) (by kernel_rfl) (by simp) (BigFrame.allReadyIn_want rfl (by kernel_rfl) (fun K hK => ?_) AllReadyIn.nil)
              go_simp
              refine ⟨trivial, ?_⟩
              refine (callsIn_wide.2 (list_any (diff s x.1) w5 hdx64 (HW.out _ (HB4.out.trans (hb5.mono HB4.out.size))))).mono ?_
              rintro e w6 ⟨v6, rfl, hown6, hb6⟩
              obtain ⟨A6, c6, rfl, hl6⟩ := RowL.of_own hown6
              have hl5' := hl5.keep hb6
              have hz5 : q + 1 + 1 + 1 ≤ w5.heap.size := Nat.le_trans hz4 hb5.size
              have hf6 := (hb6.block q (by omega)).trans hf5
              have hc6 := cell_one hf6
              have hc6' := cell_one (heap_old (o := .cells #[.slice A5 (bitsOf x.1).length c5, .slice A6 (bitsOf (diff s x.1)).length c6] 56) hf6)
              obtain ⟨qs, hqs, ho6, hr6⟩ := (HO4.out.keep hb5).keep hb6
              have hz6 : q + 1 + 1 + 1 ≤ w6.heap.size := Nat.le_trans hz5 hb6.size
              have hql : qs.length ≤ 100000 := by have := Hln.out; have h9 := congrArg List.length hqs; rw [List.length_map] at h9; omega
              obtain ⟨v7, w7, hrun, own7, grw7, _⟩ := run_append_own (P := Tryd.prog) (w := w6.alloc (.cells #[.slice A5 (bitsOf x.1).length c5, .slice A6 (bitsOf (diff s x.1)).length c6] 56)) (q + 1 + 1 + 1) 50 50 56 j0 (.agg #[.slice none 0 0, .slice none 0 0]) 2 48 Tryd.underlying50 hj jz0 jz1 jz2 rfl (by decide) v _ (cflat qs) (ho6.alloc _) ⟨w6.heap.size, 0, none⟩ 1 1 [.slice A5 (bitsOf x.1).length c5, .slice A6 (bitsOf (diff s x.1)).length c6] rfl (by
                intro k u hu
                match k, hu with
                | 0, hu => simp at hu; subst hu; simp [Addr.add]
                | 1, hu => simp at hu; subst hu; simp [Addr.add]) (by intro u hu; simp at hu; rcases hu with rfl | rfl <;> rfl) (by unfold maxLen; omega) (by omega) (by simp; omega)
              have hb7 := Lib.hid (fun (B : Nat) (hB : B ≤ q + 1 + 1 + 1) => ((Below.refl B w6).alloc (Nat.le_trans hB hz6) (.cells #[.slice A5 (bitsOf x.1).length c5, .slice A6 (bitsOf (diff s x.1)).length c6] 56)).grown grw7 (by simp; omega) (fun k hk => Nat.le_trans hB (own_ge ho6 hk)))
              have hf7 := Lib.hid (((hb7.out (q + 1) (by omega)).block q (by omega)).trans hf6)
              have c7 := cell_one hf7.out
              have f7 := froz_one hf7.out 0
              have HO7 := Lib.hid (OutC.grow ho6 rfl hr6 hl5' hl6 own7 grw7)
              rw [hqs] at HO7
              obtain ⟨A8, n8, c8, rfl⟩ := own_slice own7
              refine hK _ _ ?_
              clear hK K
              refine wpAnyIn_ready (rs := [5]) (by kernel_rfl) (by simp) (BigFrame.allReadyIn_want rfl (by kernel_rfl) (fun K hK => ?_) AllReadyIn.nil)
              go_simp
              refine hK _ _ ?_
              clear hK K
              refine wpAnyIn_ready (rs := [6]) (by kernel_rfl) (by simp) (BigFrame.allReadyIn_want rfl (by kernel_rfl) (fun K hK => ?_) AllReadyIn.nil)
              go_simp
              refine hK _ _ ?_
              clear hK K
              refine wpAnyIn_ready (rs := [7]) (by kernel_rfl) (by simp) (BigFrame.allReadyIn_want rfl (by kernel_rfl) (fun K hK => ?_) AllReadyIn.nil)
              refine opIn_append rfl rfl rfl hrun ?_
              refine hK _ _ ?_
              clear hK K
              refine wpAnyIn_ready (rs := [8]) (by kernel_rfl) (by simp) (BigFrame.allReadyIn_want rfl (by kernel_rfl) (fun K hK => ?_) AllReadyIn.nil)
              go_simp
              refine hK _ _ ?_
              clear hK K
              refine wpAnyIn_done (by kernel_rfl) ?_ _
              gi_wp2
              have e1 : cutsL L s f (pre ++ [x]) = cutsL L s f pre ++ [(bitsOf x.1, bitsOf (diff s x.1))] := by rw [HS.out, HCt.out]; rfl
              have k3 : w.heap.size ≤ W.heap.size := hB.size
              have k4 : w.heap.size ≤ wd.heap.size := HB4.out.size
              refine ⟨HKO4.out.trans ((KeepsOthers.of_grownBy (grown_below hb5) (fun j o e => by cases e)).trans ((KeepsOthers.of_grownBy (grown_below hb6) (fun j o e => by cases e)).trans ((KeepsOthers.alloc _ _).trans ((KeepsOthers.of_grownBy grw7 (fun j o e h => own_cellsN (ho6.alloc _) e h)).trans (KeepsOthers.setCell _ _ _))))), kpV_t HKP4.out (kpV_t (kpV_below hb5 k4) (kpV_t (kpV_below hb6 (Nat.le_trans k4 hb5.size)) (kpV_t (kpV_below ((Below.refl _ w6).alloc (Nat.le_refl _) _) (by omega)) (kpV_t (kpV_grown ((Below.refl w.heap.size _).grown grw7 (by simp; omega) (fun k hk => by have := own_ge ho6 hk; omega)) grw7 (fun r e => .inr (own_ge ho6 e))) (kpV_set _ q 0 _ (by omega) (.inl rfl)))))), ⟨⟨?_, ?_, ?_, ⟨_, set_one hf7.out, ?_⟩, ?_⟩, ?_⟩⟩
              · exact (Below.heap_setCell w7 ⟨q, 0, none⟩ _ (w.heap.size + 1) (by simp; omega)).trans (((hb7.out q (by omega)).block _ (by omega)).trans ((hb6.block _ (by omega)).trans ((hb5.block _ (by show _ < wd.heap.size; omega)).trans HS4.out)))
              · exact (Below.heap_setCell w7 ⟨q, 0, none⟩ _ p (by simp; omega)).trans (((hb7.out q (by omega)).block _ (by omega)).trans ((hb6.block _ (by omega)).trans ((hb5.block _ (by show _ < wd.heap.size; omega)).trans HL4.out)))
              · exact (Below.heap_setCell w7 ⟨q, 0, none⟩ _ (p + 1) (by simp; omega)).trans (((hb7.out q (by omega)).block _ (by omega)).trans ((hb6.block _ (by omega)).trans ((hb5.block _ (by show _ < wd.heap.size; omega)).trans Hs4.out)))
              · rw [e1]; exact HO7.out.set (by omega) hf7.out (by decide)
              · simp; exact Nat.le_trans hz6 (hb7.out 0 (by omega)).size
              · exact (HB4.out.trans (hb5.mono k4)).trans ((hb6.mono (Nat.le_trans k4 hb5.size)).trans ((hb7.out w.heap.size (by omega)).setCell (p := ⟨q, 0, none⟩) (by simp; omega) _))
            · go_simp
              refine ⟨trivial, ?_⟩
              refine (callsIn_wide.2 (list_any (diff s x.1) w5 hdx64 (HW.out _ (HB4.out.trans (hb5.mono HB4.out.size))))).mono ?_
              rintro e w6 ⟨v6, rfl, hown6, hb6⟩
              obtain ⟨A6, c6, rfl, hl6⟩ := RowL.of_own hown6
              have hl5' := hl5.keep hb6
              have hz5 : q + 1 + 1 + 1 ≤ w5.heap.size := Nat.le_trans hz4 hb5.size
              have hf6 := (hb6.block q (by omega)).trans hf5
              have hc6 := cell_one hf6
              have hc6' := cell_one (heap_old (o := .cells #[.slice A5 (bitsOf x.1).length c5, .slice A6 (bitsOf (diff s x.1)).length c6] 56) hf6)
              obtain ⟨qs, hqs, ho6, hr6⟩ := (HO4.out.keep hb5).keep hb6
              have hz6 : q + 1 + 1 + 1 ≤ w6.heap.size := Nat.le_trans hz5 hb6.size
              have hql : qs.length ≤ 100000 := by have := Hln.out; have h9 := congrArg List.length hqs; rw [List.length_map] at h9; omega
              obtain ⟨v7, w7, hrun, own7, grw7, _⟩ := run_append_own (P := Tryd.prog) (w := w6.alloc (.cells #[.slice A5 (bitsOf x.1).length c5, .slice A6 (bitsOf (diff s x.1)).length c6] 56)) (q + 1 + 1 + 1) 50 50 56 j0 (.agg #[.slice none 0 0, .slice none 0 0]) 2 48 Tryd.underlying50 hj jz0 jz1 jz2 rfl (by decide) v _ (cflat qs) (ho6.alloc _) ⟨w6.heap.size, 0, none⟩ 1 1 [.slice A5 (bitsOf x.1).length c5, .slice A6 (bitsOf (diff s x.1)).length c6] rfl (by
                intro k u hu
                match k, hu with
                | 0, hu => simp at hu; subst hu; simp [Addr.add]
                | 1, hu => simp at hu; subst hu; simp [Addr.add]) (by intro u hu; simp at hu; rcases hu with rfl | rfl <;> rfl) (by unfold maxLen; omega) (by omega) (by simp; omega)
              have hb7 := Lib.hid (fun (B : Nat) (hB : B ≤ q + 1 + 1 + 1) => ((Below.refl B w6).alloc (Nat.le_trans hB hz6) (.cells #[.slice A5 (bitsOf x.1).length c5, .slice A6 (bitsOf (diff s x.1)).length c6] 56)).grown grw7 (by simp; omega) (fun k hk => Nat.le_trans hB (own_ge ho6 hk)))
              have hf7 := Lib.hid (((hb7.out (q + 1) (by omega)).block q (by omega)).trans hf6)
              have c7 := cell_one hf7.out
              have f7 := froz_one hf7.out 0
              have HO7 := Lib.hid (OutC.grow ho6 rfl hr6 hl5' hl6 own7 grw7)
              rw [hqs] at HO7
              obtain ⟨A8, n8, c8, rfl⟩ := own_slice own7
              refine hK _ _ ?_
              clear hK K
              refine wpAnyIn_ready (rs := [0, 5]) (by kernel_rfl) (by simp) (BigFrame.allReadyIn_want rfl (by kernel_rfl) (fun K hK => ?_) (BigFrame.allReadyIn_want rfl (by kernel_rfl) (fun K hK => ?_) AllReadyIn.nil))
              · go_simp
                refine hK _ _ ?_
                clear hK K
                refine wpAnyIn_ready (rs := [5]) (by kernel_rfl) (by simp) (BigFrame.allReadyIn_want rfl (by kernel_rfl) (fun K hK => ?_) AllReadyIn.nil)
                go_simp
                refine hK _ _ ?_
                clear hK K
                refine wpAnyIn_ready (rs := [6]) (by kernel_rfl) (by simp) (BigFrame.allReadyIn_want rfl (by kernel_rfl) (fun K hK => ?_) AllReadyIn.nil)
                go_simp
                refine hK _ _ ?_
                clear hK K
                refine wpAnyIn_ready (rs := [7]) (by kernel_rfl) (by simp) (BigFrame.allReadyIn_want rfl (by kernel_rfl) (fun K hK => ?_) AllReadyIn.nil)
                refine opIn_append rfl rfl rfl hrun ?_
                refine hK _ _ ?_
                clear hK K
                refine wpAnyIn_ready (rs := [8]) (by kernel_rfl) (by simp) (BigFrame.allReadyIn_want rfl (by kernel_rfl) (fun K hK => ?_) AllReadyIn.nil)
                go_simp
                refine hK _ _ ?_
                clear hK K
                refine wpAnyIn_done (by kernel_rfl) ?_ _
                gi_wp2
                have e1 : cutsL L s f (pre ++ [x]) = cutsL L s f pre ++ [(bitsOf x.1, bitsOf (diff s x.1))] := by rw [HS.out, HCt.out]; rfl
                have k3 : w.heap.size ≤ W.heap.size := hB.size
                have k4 : w.heap.size ≤ wd.heap.size := HB4.out.size
                refine ⟨HKO4.out.trans ((KeepsOthers.of_grownBy (grown_below hb5) (fun j o e => by cases e)).trans ((KeepsOthers.of_grownBy (grown_below hb6) (fun j o e => by cases e)).trans ((KeepsOthers.alloc _ _).trans ((KeepsOthers.of_grownBy grw7 (fun j o e h => own_cellsN (ho6.alloc _) e h)).trans (KeepsOthers.setCell _ _ _))))), kpV_t HKP4.out (kpV_t (kpV_below hb5 k4) (kpV_t (kpV_below hb6 (Nat.le_trans k4 hb5.size)) (kpV_t (kpV_below ((Below.refl _ w6).alloc (Nat.le_refl _) _) (by omega)) (kpV_t (kpV_grown ((Below.refl w.heap.size _).grown grw7 (by simp; omega) (fun k hk => by have := own_ge ho6 hk; omega)) grw7 (fun r e => .inr (own_ge ho6 e))) (kpV_set _ q 0 _ (by omega) (.inl rfl)))))), ⟨⟨?_, ?_, ?_, ⟨_, set_one hf7.out, ?_⟩, ?_⟩, ?_⟩⟩
                · exact (Below.heap_setCell w7 ⟨q, 0, none⟩ _ (w.heap.size + 1) (by simp; omega)).trans (((hb7.out q (by omega)).block _ (by omega)).trans ((hb6.block _ (by omega)).trans ((hb5.block _ (by show _ < wd.heap.size; omega)).trans HS4.out)))
                · exact (Below.heap_setCell w7 ⟨q, 0, none⟩ _ p (by simp; omega)).trans (((hb7.out q (by omega)).block _ (by omega)).trans ((hb6.block _ (by omega)).trans ((hb5.block _ (by show _ < wd.heap.size; omega)).trans HL4.out)))
                · exact (Below.heap_setCell w7 ⟨q, 0, none⟩ _ (p + 1) (by simp; omega)).trans (((hb7.out q (by omega)).block _ (by omega)).trans ((hb6.block _ (by omega)).trans ((hb5.block _ (by show _ < wd.heap.size; omega)).trans Hs4.out)))
                · rw [e1]; exact HO7.out.set (by omega) hf7.out (by decide)
                · simp; exact Nat.le_trans hz6 (hb7.out 0 (by omega)).size
                · exact (HB4.out.trans (hb5.mono k4)).trans ((hb6.mono (Nat.le_trans k4 hb5.size)).trans ((hb7.out w.heap.size (by omega)).setCell (p := ⟨q, 0, none⟩) (by simp; omega) _))
              · go_simp
                refine hK _ _ ?_
                clear hK K
                refine wpAnyIn_ready (rs := [0, 6]) (by kernel_rfl) (by simp) (BigFrame.allReadyIn_want rfl (by kernel_rfl) (fun K hK => ?_) (BigFrame.allReadyIn_want rfl (by kernel_rfl) (fun K hK => ?_) AllReadyIn.nil))
                · go_simp
                  refine hK _ _ ?_
                  clear hK K
                  refine wpAnyIn_ready (rs := [6]) (by kernel_rfl) (by simp) (BigFrame.allReadyIn_want rfl (by kernel_rfl) (fun K hK => ?_) AllReadyIn.nil)
                  go_simp
                  refine hK _ _ ?_
                  clear hK K
                  refine wpAnyIn_ready (rs := [7]) (by kernel_rfl) (by simp) (BigFrame.allReadyIn_want rfl (by kernel_rfl) (fun K hK => ?_) AllReadyIn.nil)
                  refine opIn_append rfl rfl rfl hrun ?_
                  refine hK _ _ ?_
                  clear hK K
                  refine wpAnyIn_ready (rs := [8]) (by kernel_rfl) (by simp) (BigFrame.allReadyIn_want rfl (by kernel_rfl) (fun K hK => ?_) AllReadyIn.nil)
                  go_simp
                  refine hK _ _ ?_
                  clear hK K
                  refine wpAnyIn_done (by kernel_rfl) ?_ _
                  gi_wp2
                  have e1 : cutsL L s f (pre ++ [x]) = cutsL L s f pre ++ [(bitsOf x.1, bitsOf (diff s x.1))] := by rw [HS.out, HCt.out]; rfl
                  have k3 : w.heap.size ≤ W.heap.size := hB.size
                  have k4 : w.heap.size ≤ wd.heap.size := HB4.out.size
                  refine ⟨HKO4.out.trans ((KeepsOthers.of_grownBy (grown_below hb5) (fun j o e => by cases e)).trans ((KeepsOthers.of_grownBy (grown_below hb6) (fun j o e => by cases e)).trans ((KeepsOthers.alloc _ _).trans ((KeepsOthers.of_grownBy grw7 (fun j o e h => own_cellsN (ho6.alloc _) e h)).trans (KeepsOthers.setCell _ _ _))))), kpV_t HKP4.out (kpV_t (kpV_below hb5 k4) (kpV_t (kpV_below hb6 (Nat.le_trans k4 hb5.size)) (kpV_t (kpV_below ((Below.refl _ w6).alloc (Nat.le_refl _) _) (by omega)) (kpV_t (kpV_grown ((Below.refl w.heap.size _).grown grw7 (by simp; omega) (fun k hk => by have := own_ge ho6 hk; omega)) grw7 (fun r e => .inr (own_ge ho6 e))) (kpV_set _ q 0 _ (by omega) (.inl rfl)))))), ⟨⟨?_, ?_, ?_, ⟨_, set_one hf7.out, ?_⟩, ?_⟩, ?_⟩⟩
                  · exact (Below.heap_setCell w7 ⟨q, 0, none⟩ _ (w.heap.size + 1) (by simp; omega)).trans (((hb7.out q (by omega)).block _ (by omega)).trans ((hb6.block _ (by omega)).trans ((hb5.block _ (by show _ < wd.heap.size; omega)).trans HS4.out)))
                  · exact (Below.heap_setCell w7 ⟨q, 0, none⟩ _ p (by simp; omega)).trans (((hb7.out q (by omega)).block _ (by omega)).trans ((hb6.block _ (by omega)).trans ((hb5.block _ (by show _ < wd.heap.size; omega)).trans HL4.out)))
                  · exact (Below.heap_setCell w7 ⟨q, 0, none⟩ _ (p + 1) (by simp; omega)).trans (((hb7.out q (by omega)).block _ (by omega)).trans ((hb6.block _ (by omega)).trans ((hb5.block _ (by show _ < wd.heap.size; omega)).trans Hs4.out)))
                  · rw [e1]; exact HO7.out.set (by omega) hf7.out (by decide)
                  · simp; exact Nat.le_trans hz6 (hb7.out 0 (by omega)).size
                  · exact (HB4.out.trans (hb5.mono k4)).trans ((hb6.mono (Nat.le_trans k4 hb5.size)).trans ((hb7.out w.heap.size (by omega)).setCell (p := ⟨q, 0, none⟩) (by simp; omega) _))
                · go_simp
                  refine hK _ _ ?_
                  clear hK K
                  refine wpAnyIn_ready (rs := [0]) (by kernel_rfl) (by simp) (BigFrame.allReadyIn_want rfl (by kernel_rfl) (fun K hK => ?_) AllReadyIn.nil)
                  go_simp
                  refine hK _ _ ?_
                  clear hK K
                  refine wpAnyIn_ready (rs := [7]) (by kernel_rfl) (by simp) (BigFrame.allReadyIn_want rfl (by kernel_rfl) (fun K hK => ?_) AllReadyIn.nil)
                  refine opIn_append rfl rfl rfl hrun ?_
                  refine hK _ _ ?_
                  clear hK K
                  refine wpAnyIn_ready (rs := [8]) (by kernel_rfl) (by simp) (BigFrame.allReadyIn_want rfl (by kernel_rfl) (fun K hK => ?_) AllReadyIn.nil)
                  go_simp
                  refine hK _ _ ?_
                  clear hK K
                  refine wpAnyIn_done (by kernel_rfl) ?_ _
                  gi_wp2
                  have e1 : cutsL L s f (pre ++ [x]) = cutsL L s f pre ++ [(bitsOf x.1, bitsOf (diff s x.1))] := by rw [HS.out, HCt.out]; rfl
                  have k3 : w.heap.size ≤ W.heap.size := hB.size
                  have k4 : w.heap.size ≤ wd.heap.size := HB4.out.size
                  refine ⟨HKO4.out.trans ((KeepsOthers.of_grownBy (grown_below hb5) (fun j o e => by cases e)).trans ((KeepsOthers.of_grownBy (grown_below hb6) (fun j o e => by cases e)).trans ((KeepsOthers.alloc _ _).trans ((KeepsOthers.of_grownBy grw7 (fun j o e h => own_cellsN (ho6.alloc _) e h)).trans (KeepsOthers.setCell _ _ _))))), kpV_t HKP4.out (kpV_t (kpV_below hb5 k4) (kpV_t (kpV_below hb6 (Nat.le_trans k4 hb5.size)) (kpV_t (kpV_below ((Below.refl _ w6).alloc (Nat.le_refl _) _) (by omega)) (kpV_t (kpV_grown ((Below.refl w.heap.size _).grown grw7 (by simp; omega) (fun k hk => by have := own_ge ho6 hk; omega)) grw7 (fun r e => .inr (own_ge ho6 e))) (kpV_set _ q 0 _ (by omega) (.inl rfl)))))), ⟨⟨?_, ?_, ?_, ⟨_, set_one hf7.out, ?_⟩, ?_⟩, ?_⟩⟩
                  · exact (Below.heap_setCell w7 ⟨q, 0, none⟩ _ (w.heap.size + 1) (by simp; omega)).trans (((hb7.out q (by omega)).block _ (by omega)).trans ((hb6.block _ (by omega)).trans ((hb5.block _ (by show _ < wd.heap.size; omega)).trans HS4.out)))
                  · exact (Below.heap_setCell w7 ⟨q, 0, none⟩ _ p (by simp; omega)).trans (((hb7.out q (by omega)).block _ (by omega)).trans ((hb6.block _ (by omega)).trans ((hb5.block _ (by show _ < wd.heap.size; omega)).trans HL4.out)))
                  · exact (Below.heap_setCell w7 ⟨q, 0, none⟩ _ (p + 1) (by simp; omega)).trans (((hb7.out q (by omega)).block _ (by omega)).trans ((hb6.block _ (by omega)).trans ((hb5.block _ (by show _ < wd.heap.size; omega)).trans Hs4.out)))
                  · rw [e1]; exact HO7.out.set (by omega) hf7.out (by decide)
                  · simp; exact Nat.le_trans hz6 (hb7.out 0 (by omega)).size
                  · exact (HB4.out.trans (hb5.mono k4)).trans ((hb6.mono (Nat.le_trans k4 hb5.size)).trans ((hb7.out w.heap.size (by omega)).setCell (p := ⟨q, 0, none⟩) (by simp; omega) _))
  case done =>
    rintro D ys W hD hys ⟨⟨hSW, hLW, hsW, ⟨v, hf, ho⟩, hz⟩, hB⟩ hK
    have c2 := cell_one hf
    have e1 : cutsL L s f ys = ((sbs s (SN - 1)).filter (isCut L s f)).map fun x => (bitsOf x, bitsOf (diff s x)) := by unfold cutsL; rw [hys, sbs_cF hs]
    have HO := Lib.hid ho
    have HB := Lib.hid hB
    clear ho hSW hLW hsW hf
    gi_wp2
    refine ⟨by simp, .inl ⟨_, _, rfl, run_takeDeferred hK, ?_⟩⟩
    refine ⟨.tuple #[v, .int .i64 0], by simp [results, Tryd.f27, go_sem], v, rfl, ?_, HB.out.trans (belowK_b (w := w) (Nat.le_refl _) W D _ _ (by omega) hK rfl rfl)⟩
    rw [← e1]
    exact (HO.out.kept (grownBy_putObj' W D (.deferred none)) (fun r e => by cases e; exact ⟨_, hK, rfl⟩)).down (by omega)
  case stop =>
    rintro D c pre W _ _ hx
    exact hx.elim
end
end Go.Proofs.YtdpfoegcmngdfaaDoor
