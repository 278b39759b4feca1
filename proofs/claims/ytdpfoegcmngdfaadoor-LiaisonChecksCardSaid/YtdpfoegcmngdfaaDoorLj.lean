/- Liaisons: Subsets. -/
import Derived.Test.YtdpfoegcmngdfaaDoorLk
namespace Go.Proofs.YtdpfoegcmngdfaaDoor
open Go.RowKit Go.Shelf
theorem OutN.kept {C : Nat} {W W' : World} {row : Option Nat} {v : Value} {ls : List (List Nat)} (h : OutN C W v ls) (hg : W.grownBy W' row) (hr : ∀ r, row = some r → ∃ o : Obj, W.heap[r]? = some o ∧ o.isCells = false) : OutN C W' v ls := by
  obtain ⟨vs, h1, h2⟩ := h
  refine ⟨vs, h1.kept hg ?_, fun k l hk => ?_⟩
  · rcases h1.2 with ⟨rfl, _⟩ | ⟨g, cap, cur, rfl, _, hgb, _⟩
    · exact .inl rfl
    · refine .inr fun e' => ?_
      obtain ⟨o, ho, hc⟩ := hr g (by simpa [Value.ownBlock] using e'.symm)
      rw [hgb] at ho; cases ho; cases hc
  · obtain ⟨A, c, e, hrow⟩ := h2 k l hk
    refine ⟨A, c, e, hrow.imp id fun ⟨g, vs', e1, hg1, hc⟩ => ⟨g, vs', e1, ?_, hc⟩⟩
    unfold Row at hg1 ⊢
    refine (hg.block g (Array.getElem?_eq_some_iff.1 hg1).1 fun e' => ?_).trans hg1
    obtain ⟨o, ho, hc'⟩ := hr g e'.symm
    rw [hg1] at ho; cases ho; cases hc'
theorem kpV_grown {n₀ : Nat} {X : Nat → Prop} {W W' : World} {row : Option Nat} (hb : Below n₀ W W') (hg : W.grownBy W' row) (hX : ∀ r, row = some r → X r) : KpV n₀ X W W' :=
  ⟨hb, fun k _o hk _ hx => (hg.block k (Array.getElem?_eq_some_iff.1 hk).1 fun e => hx (hX k e.symm)).trans hk⟩
theorem own_cells {C n : Nat} {W : World} {v : Value} {xs : List Value} {e : TypeId} (h : W.ownsRow C e 1 v n xs) {j : Nat} {o : Obj} (hj : v.ownBlock = some j) (ho : W.heap[j]? = some o) : o.isCells = true := by
  rcases h.2 with ⟨rfl, _⟩ | ⟨g, cap, cur, rfl, _, hgb, _⟩
  · cases hj
  · simp only [Value.ownBlock, Option.some.injEq] at hj
    subst hj
    rw [hgb] at ho; cases ho; rfl
theorem own_slice {C n sz : Nat} {W : World} {v : Value} {xs : List Value} {e : TypeId} (h : W.ownsRow C e sz v n xs) : ∃ A m c, v = .slice A m c := by
  rcases h.2 with ⟨rfl, _⟩ | ⟨g, cap, cur, rfl, _, hgb, _⟩
  · exact ⟨_, _, _, rfl⟩
  · exact ⟨_, _, _, rfl⟩
theorem OutN.set {C : Nat} {w : World} {v u : Value} {ls : List (List Nat)} {p i : Nat} {us : Array Value} {T : TypeId} (h : OutN C w v ls) (hp : p < C) (ho : w.heap[p]? = some (.cells us T)) (hT : T ≠ 3) : OutN C (w.setCell ⟨p, i, none⟩ u) v ls := by
  obtain ⟨vs, h1, h2⟩ := h
  refine ⟨vs, ⟨h1.1, ?_⟩, fun k l hk => ?_⟩
  · rcases h1.2 with h0 | ⟨g, cap, cur, h3, hgC, hh, hrest⟩
    · exact .inl h0
    · exact .inr ⟨g, cap, cur, h3, hgC, (Below.heap_setCell w ⟨p, i, none⟩ u g (by simp; omega)).trans hh, hrest⟩
  · obtain ⟨A, c, e, hrow⟩ := h2 k l hk
    refine ⟨A, c, e, hrow.imp id fun ⟨g, vs', e1, hg1, hc⟩ => ⟨g, vs', e1, ?_, hc⟩⟩
    unfold Row at hg1 ⊢
    refine (Below.heap_setCell w ⟨p, i, none⟩ u g fun e => ?_).trans hg1
    rw [e, ho] at hg1
    injection hg1 with hg1
    injection hg1 with _ h4
    exact hT h4
/-- The connected ones among some subsets. -/
def cons (L : Nat → Nat) (pre : List Cf) : List (List Nat) := ((pre.map (·.1)).filter (conM L)).map bitsOf
theorem cons_snoc (L : Nat → Nat) (pre : List Cf) (x : Cf) : cons L (pre ++ [x]) = if conM L x.1 then cons L pre ++ [bitsOf x.1] else cons L pre := by
  unfold cons
  rw [List.map_append, List.filter_append, List.map_append]
  cases h : conM L x.1 <;> simp [h]
theorem cons_len (L : Nat → Nat) (pre : List Cf) : (cons L pre).length ≤ pre.length := by
  unfold cons
  rw [List.length_map]
  exact Nat.le_trans (List.length_filter_le _ _) (by rw [List.length_map]; exact Nat.le_refl _)
theorem set_one {W : World} {p : Nat} {u v : Value} {T : TypeId} (h : W.heap[p]? = some (.cells #[u] T)) : (W.setCell ⟨p, 0, none⟩ v).heap[p]? = some (.cells #[v] T) := by
  have hp : p < W.heap.size := (Array.getElem?_eq_some_iff.1 h).1
  simp [World.setCell, Array.getElem?_modify, h]
theorem cell_one {W : World} {p : Nat} {u : Value} {T : TypeId} (h : W.heap[p]? = some (.cells #[u] T)) : W.cell? ⟨p, 0, none⟩ = some u := by simp [World.cell?, h]
theorem froz_one {W : World} {p : Nat} {us : Array Value} {T : TypeId} (h : W.heap[p]? = some (.cells us T)) (i : Nat) : W.frozen? ⟨p, i, none⟩ = false := by simp [World.frozen?, h]
theorem obj_kept {W W' : World} {row : Option Nat} {p : Nat} {us : Array Value} {T : TypeId} (h : W.heap[p]? = some (.cells us T)) (hg : W.grownBy W' row) (hr : ∀ r, row = some r → ∃ o : Obj, W.heap[r]? = some o ∧ o.isCells = false) : W'.heap[p]? = some (.cells us T) := by
  refine (hg.block p (Array.getElem?_eq_some_iff.1 h).1 fun e' => ?_).trans h
  obtain ⟨o, ho, hc⟩ := hr p e'.symm
  rw [h] at ho; cases ho; cases hc
theorem chL_lt : ∀ {F : List Nat} {c k : Nat}, (∀ x ∈ F, x < 12) → c < 4096 → ∀ t ∈ chL F c k, t < 4096
  | F, c, 0, _, hc, t, ht => by rw [chL_zero] at ht; rw [List.mem_singleton.1 ht]; exact hc
  | [], c, k + 1, _, _, t, ht => by cases ht
  | x :: F, c, k + 1, hF, hc, t, ht => by
    rw [chL] at ht
    rcases List.mem_append.1 ht with h | h
    · exact chL_lt (fun y hy => hF y (List.mem_cons_of_mem _ hy)) (Nat.or_lt_two_pow (n := 12) hc (Nat.pow_lt_pow_right (by decide) (hF x (List.mem_cons_self ..)))) t h
    · exact chL_lt (fun y hy => hF y (List.mem_cons_of_mem _ hy)) hc t h
theorem sbs_lt {s m : Nat} (hs : s < 4096) : ∀ t ∈ sbs s m, t < 4096 := fun t ht => by
  unfold sbs at ht
  obtain ⟨k, _, h⟩ := List.mem_flatMap.1 ht
  exact chL_lt (fun x hx => lt_under (k := 12) hs x (mem_bitsOf.1 hx).2) (by decide) t h
theorem sbs_cF {s m : Nat} (hs : s < 4096) : ((sbs s m).map cF).map (·.1) = sbs s m := by
  rw [List.map_map]
  conv => rhs; rw [← List.map_id (sbs s m)]
  exact List.map_congr_left fun t ht => cF_val (sbs_lt hs t ht)
section
attribute [local go_sem] Oper.semAt_some
set_option maxRecDepth 100000 in
set_option maxHeartbeats 8000000 in
theorem subsetsF_ok (gn ge : Value) (SA : Option Addr) (SN SC : Nat) (L : Nat → Nat) (s m : Nat) (w : World) (hR : ∀ w', Below w.heap.size w w' → Calls Tryd.prog 47 #[.agg #[gn, ge], .slice SA SN SC] w' fun e w1 => e = .returned (.tuple #[lvV L, .int .u64 (s : Nat), .int .i64 0]) ∧ Below w'.heap.size w' w1) (_hgn : gn.oneCell' = true) (_hge : ge.oneCell' = true) (hL : ∀ i, Under 64 (L i)) (hs : s < 4096) (hw : Good w) (hm : m ≤ 12) (hm1 : 1 ≤ m) (hmn : m ≤ SN) (hSB : (sbs s m).length ≤ 100000) :
    Calls Tryd.prog 17 #[.agg #[gn, ge], .slice SA SN SC, .int .i64 (m : Nat)] w fun e w' => ∃ v, e = .returned (.tuple #[v, .int .i64 0]) ∧ OutN w.heap.size w' v (((sbs s m).filter (conM L)).map bitsOf) ∧ Below w.heap.size w w' := by
  have kv := (Below.refl w.heap.size w).alloc (Nat.le_refl _) (.cells #[gn, ge] 24)
  have P0 := Cells.new w #[gn, ge] 24
  have HR := Lib.hid (hR _ kv)
  have g0 := P0.at_ 0
  have g1 := P0.at_ 1
  simp only [List.getElem?_cons_zero, List.getElem?_cons_succ] at g0 g1
  have kv := Lib.hid kv
  have HL := Lib.hid hL
  have HW := Lib.hid (fun w' (h : Below w.heap.size w w') => hw.below h hw.size)
  have t1 : decide ((m : Int) < 1) = false := decide_eq_false (by omega)
  have t2 : decide ((SN : Int) < (m : Int)) = false := decide_eq_false (by omega)
  have t3 : decide (SN < m) = false := decide_eq_false (by omega)
  have HSB := Lib.hid hSB
  obtain ⟨j0, hj, jz0, jz1, jz2⟩ := info_parts info_ints
  clear hR hL hw P0 hSB
  refine (callsIn_wide (n := 6)).1 ?_
  refine callsIn_of_wp_marks Tryd.func17 rfl trivial ?_ rfl
  simp only [Tryd.ntmps17, List.size_toArray, List.length_cons, List.length_nil, Nat.reduceAdd, Nat.reduceSub, Array.replicate_succ, Array.replicate_zero, List.push_toArray, List.append_toArray, List.nil_append, List.cons_append]
  gi_wp2_with (first
    | (refine ⟨trivial, ?_⟩; gi_at_call 47; refine (callsIn_wide.2 HR.out).mono ?_; rintro e w1 ⟨rfl, hb1⟩; have B1 := Lib.hid (below_on kv.out hb1); clear hb1 g0 g1 kv HR)
    | (refine ⟨trivial, ?_⟩; gi_at_call 52; refine (callsIn_wide.2 (subsets_any _ _ _)).mono ?_; rintro e w' ⟨rfl, rfl⟩))
  obtain ⟨q, hq⟩ : ∃ q, w1.heap.size = q := ⟨_, rfl⟩
  have hwq : w.heap.size ≤ q := by rw [← hq]; exact B1.out.size
  have K4 := (((B1.out.alloc B1.out.size (.cells (lvC L) 80)).alloc (by simp; omega) (.cells #[.slice none 0 0] 32)).alloc (by simp; omega) (.cells #[.int .u64 (s : Nat)] 78)).alloc (by simp; omega) (.cells #[.int .i64 (m : Nat)] 3)
  have A1 := heap_new w1 (.cells (lvC L) 80)
  have A2 := heap_new (w1.alloc (.cells (lvC L) 80)) (.cells #[.slice none 0 0] 32)
  have A3 := heap_new ((w1.alloc (.cells (lvC L) 80)).alloc (.cells #[.slice none 0 0] 32)) (.cells #[.int .u64 (s : Nat)] 78)
  have A4 := heap_new (((w1.alloc (.cells (lvC L) 80)).alloc (.cells #[.slice none 0 0] 32)).alloc (.cells #[.int .u64 (s : Nat)] 78)) (.cells #[.int .i64 (m : Nat)] 3)
  have A1 := heap_old (o := (.cells #[.int .i64 (m : Nat)] 3)) (heap_old (o := (.cells #[.int .u64 (s : Nat)] 78)) (heap_old (o := (.cells #[.slice none 0 0] 32)) A1))
  have A2 := heap_old (o := (.cells #[.int .i64 (m : Nat)] 3)) (heap_old (o := (.cells #[.int .u64 (s : Nat)] 78)) A2)
  have A3 := heap_old (o := (.cells #[.int .i64 (m : Nat)] 3)) A3
  have zz : ((((w1.alloc (.cells (lvC L) 80)).alloc (.cells #[.slice none 0 0] 32)).alloc (.cells #[.int .u64 (s : Nat)] 78)).alloc (.cells #[.int .i64 (m : Nat)] 3)).heap.size = q + 1 + 1 + 1 + 1 := by simp [hq]
  simp only [World.size_alloc, hq] at A1 A2 A3 A4
  obtain ⟨u, hu⟩ : ∃ u, (((w1.alloc (.cells (lvC L) 80)).alloc (.cells #[.slice none 0 0] 32)).alloc (.cells #[.int .u64 (s : Nat)] 78)).alloc (.cells #[.int .i64 (m : Nat)] 3) = u := ⟨_, rfl⟩
  rw [hu] at K4 A1 A2 A3 A4 zz
  try rw [hu]
  rw [hq]
  clear hu
  refine wpIn_rangeFunc_ownF rfl (by omega) (gf := 74) (lb := #[.pointer (some ⟨q + 1 + 1 + 1, 0, none⟩), .pointer (some ⟨q + 1 + 1, 0, none⟩)]) rfl trivial (enters_of Tryd.func74 (by kernel_rfl) rfl)
    (subs_stops w u s m (fun k => k = q + 1 ∨ q + 1 + 1 + 1 + 1 ≤ k) (q + 1 + 1) (q + 1 + 1 + 1) _ _ K4 hs hm A3 A4 (fun k h => by rcases h with h | h <;> omega) _) kpV_t (kpV_b (by omega)) (Below.refl _ _) (fun _ => rfl)
    (fun pre W => (W.heap[q]? = some (.cells (lvC L) 80) ∧ (∃ v, W.heap[q + 1]? = some (.cells #[v] 32) ∧ OutN (q + 1 + 1 + 1 + 1) W v (cons L pre)) ∧ q + 1 + 1 + 1 + 1 ≤ W.heap.size) ∧ Below w.heap.size w W)
    (fun _ _ _ => False)
    (fun s W W' row hs hg hr => by
      obtain ⟨⟨h1, ⟨v, h2, h3⟩, h4⟩, hB⟩ := hs
      have hr' := fun r e => (hr r e).2
      exact ⟨⟨obj_kept h1 hg hr', ⟨v, obj_kept h2 hg hr', h3.kept hg hr'⟩, Nat.le_trans h4 hg.size⟩, ownFrom_below (β := List Cf) (Nat.le_refl _) (by omega) s W W' row hB hg hr⟩)
    (fun _ _ _ _ _ hs _ _ => hs)
    ⟨⟨A1, ⟨_, A2, OutN.nil _ _⟩, by omega⟩, K4⟩
    (fun x : Cf => { tmps := #[.agg #[gn, ge], .slice SA SN SC, .int .i64 (m : Nat), .pointer (some ⟨w.heap.size, 0, none⟩), undef, undef, .slice none 0 0, .int .i64 0, .pointer (some ⟨q, 0, none⟩), .int .u64 (s : Nat), .int .i64 0, .pointer (some ⟨q + 1, 0, none⟩), .int .u64 (x.1 : Nat), .tuple #[lvV L, .int .u64 (s : Nat), .int .i64 0], .agg #[gn, ge], .slice SA SN SC, .tuple #[lvV L, .int .u64 (s : Nat), .int .i64 0], lvV L, .int .u64 (s : Nat), .int .i64 0, .int .i64 0, .bool false, undef, .int .i64 (m : Nat), .bool false, .bool false, .int .i64 (m : Nat), .slice SA SN SC, .int .i64 (SN : Nat), .bool false, .bool false, .int .u64 (s : Nat), .int .i64 (m : Nat), .func (.func 74) #[] #[.pointer (some ⟨q + 1 + 1 + 1, 0, none⟩), .pointer (some ⟨q + 1 + 1, 0, none⟩)], .int .u64 (x.1 : Nat), undef, undef, undef, undef, undef, undef, undef, undef, undef], defers := [] }) ?assign ?body ?done ?stop
  case assign =>
    intro l x W K hK
    gi_wp2
    first | exact hK | (simp; exact hK) | simpa using hK
  case body =>
    rintro l pre x W ⟨⟨hk, ⟨v, hf, ho⟩, hz⟩, hB⟩ hlen
    have Hk := Lib.hid hk
    have QW := Cells.of_row hk
    rw [lvC_list] at QW
    have y0 := QW.at_ 0
    have y1 := QW.at_ 1
    have y2 := QW.at_ 2
    have y3 := QW.at_ 3
    have y4 := QW.at_ 4
    have y5 := QW.at_ 5
    have y6 := QW.at_ 6
    have y7 := QW.at_ 7
    have y8 := QW.at_ 8
    have y9 := QW.at_ 9
    have y10 := QW.at_ 10
    have y11 := QW.at_ 11
    simp only [sets12, List.range, List.range.loop, List.map_cons, List.map_nil, List.getElem?_cons_zero, List.getElem?_cons_succ] at y0 y1 y2 y3 y4 y5 y6 y7 y8 y9 y10 y11
    have hqW : q < W.heap.size := by omega
    have HC := conn_any L x.1 W HL.out x.2 (HW.out _ hB)
    have HS := Lib.hid (cons_snoc L pre x)
    have Hln := Lib.hid (show (cons L pre).length ≤ 100000 by have := cons_len L pre; have := HSB.out; omega)
    have hle := Lib.hid (show w.heap.size ≤ q by omega)
    obtain ⟨b, hb⟩ : ∃ b, conM L x.1 = b := ⟨_, rfl⟩
    rw [hb] at HC HS
    have HC := Lib.hid HC
    clear hb hk QW
    cases b
    · gi_wp2_with (refine ⟨trivial, ?_⟩; gi_at_call 48; refine (CallsIn.inRound l (callsIn_wide.2 HC.out)).mono ?_; rintro e w2 ⟨rfl, hb2⟩)
      have e1 : cons L (pre ++ [x]) = cons L pre := by have := HS.out; simpa using this
      refine ⟨KeepsOthers.of_grownBy (grown_below hb2) (fun j o e => by cases e), kpV_below hb2 (by omega), ⟨⟨(hb2.block q hqW).trans Hk.out, ⟨v, (hb2.block (q + 1) (by omega)).trans hf, ?_⟩, Nat.le_trans hz hb2.size⟩, hB.trans (hb2.mono hB.size)⟩⟩
      rw [e1]; exact ho.keep hb2
    · gi_wp2_with (refine ⟨trivial, ?_⟩; gi_at_call 48; refine (CallsIn.inRound l (callsIn_wide.2 HC.out)).mono ?_; clear HC; rintro e w2 ⟨rfl, hb2⟩)
      clear y0 y1 y2 y3 y4 y5 y6 y7 y8 y9 y10 y11
      have hf2 := (hb2.block (q + 1) (by omega)).trans hf
      have c2 := cell_one hf2
      have f2 := froz_one hf2 0
      have hbd := hb2.drew
      have HL2 := list_any x.1 w2.drew (by have := x.2; omega) (HW.out _ (hB.trans (hbd.mono hB.size)))
      have HO2 := ho.keep hbd
      have hf2 := (hbd.block (q + 1) (by omega)).trans hf
      have HL2 := Lib.hid HL2
      have HO2 := Lib.hid HO2
      have HF2 := Lib.hid hf2
      have hmx : Tryd.prog.follows .mixedOrders = true := by kernel_rfl
      refine round_any hmx (by kernel_rfl) ?_
      refine wpAnyIn_ready (rs := [0, 1]) (by kernel_rfl) (by simp) (BigFrame.allReadyIn_want rfl (by kernel_rfl) (fun K hK => ?_) (BigFrame.allReadyIn_want rfl (by kernel_rfl) (fun K hK => ?_) AllReadyIn.nil))
      · go_simp
        refine hK _ _ ?_
        clear hK K
        refine wpAnyIn_ready (rs := [1]) (by kernel_rfl) (by simp) (BigFrame.allReadyIn_want rfl (by kernel_rfl) (fun K hK => ?_) AllReadyIn.nil)
        go_simp
        refine hK _ _ ?_
        clear hK K
        refine wpAnyIn_ready (rs := [2]) (by kernel_rfl) (by simp) (BigFrame.allReadyIn_want rfl (by kernel_rfl) (fun K hK => ?_) AllReadyIn.nil)
        go_simp
        refine ⟨trivial, ?_⟩
        refine (callsIn_wide.2 HL2.out).mono ?_
        rintro e w3 ⟨v3, rfl, hown, hb3⟩
        obtain ⟨A3, c3, rfl, hl3⟩ := RowL.of_own hown
        have hf3 := (hb3.block (q + 1) (by show q + 1 < w2.heap.size; have := hb2.size; omega)).trans HF2.out
        have hc3 := cell_one hf3
        have hc3' := cell_one (heap_old (o := .cells #[.slice A3 (bitsOf x.1).length c3] 25) hf3)
        obtain ⟨vs, ho3, hr3⟩ := HO2.out.keep hb3
        have hz3 : q + 1 + 1 + 1 + 1 ≤ w3.heap.size := Nat.le_trans (Nat.le_trans hz hbd.size) hb3.size
        obtain ⟨v4, w4, hrun, own4, grw4, _⟩ := run_append_own (P := Tryd.prog) (w := w3.alloc (.cells #[.slice A3 (bitsOf x.1).length c3] 25)) (q + 1 + 1 + 1 + 1) 32 32 25 j0 (.slice none 0 0) 1 24 Tryd.underlying32 hj jz0 jz1 jz2 rfl (by decide) v _ vs (ho3.alloc _) ⟨w3.heap.size, 0, none⟩ 1 1 [.slice A3 (bitsOf x.1).length c3] rfl (by
          intro k u hu
          match k, hu with
          | 0, hu => simp at hu; subst hu; simp [Addr.add]) (by intro u hu; simp at hu; subst hu; rfl) (by unfold maxLen; have := Hln.out; omega) (by have := Hln.out; omega) (by simp; omega)
        have hb4 := Lib.hid (fun (B : Nat) (hB : B ≤ q + 1 + 1 + 1 + 1) => ((Below.refl B w3).alloc (Nat.le_trans hB hz3) (.cells #[.slice A3 (bitsOf x.1).length c3] 25)).grown grw4 (by simp; omega) (fun k hk => Nat.le_trans hB (own_ge ho3 hk)))
        have hf4 := Lib.hid (((hb4.out (q + 1 + 1) (by omega)).block (q + 1) (by omega)).trans hf3)
        have c4 := cell_one hf4.out
        have f4 := froz_one hf4.out 0
        have HO4 := Lib.hid (OutN.push ho3 hr3 hl3 own4 grw4)
        obtain ⟨A5, n5, c5, rfl⟩ := own_slice own4
        refine hK _ _ ?_
        clear hK K
        refine wpAnyIn_ready (rs := [3]) (by kernel_rfl) (by simp) (BigFrame.allReadyIn_want rfl (by kernel_rfl) (fun K hK => ?_) AllReadyIn.nil)
        go_simp
        refine hK _ _ ?_
        clear hK K
        refine wpAnyIn_ready (rs := [4]) (by kernel_rfl) (by simp) (BigFrame.allReadyIn_want rfl (by kernel_rfl) (fun K hK => ?_) AllReadyIn.nil)
        refine opIn_append rfl rfl rfl hrun ?_
        refine hK _ _ ?_
        clear hK K
        refine wpAnyIn_ready (rs := [5]) (by kernel_rfl) (by simp) (BigFrame.allReadyIn_want rfl (by kernel_rfl) (fun K hK => ?_) AllReadyIn.nil)
        go_simp
        refine hK _ _ ?_
        clear hK K
        refine wpAnyIn_done (by kernel_rfl) ?_ _
        gi_wp2
        have e1 : cons L (pre ++ [x]) = cons L pre ++ [bitsOf x.1] := by have := HS.out; simpa using this
        have k3 : w.heap.size ≤ W.heap.size := hB.size
        refine ⟨(KeepsOthers.of_grownBy (grown_below hbd) (fun j o e => by cases e)).trans ((KeepsOthers.of_grownBy (grown_below hb3) (fun j o e => by cases e)).trans ((KeepsOthers.alloc _ _).trans ((KeepsOthers.of_grownBy grw4 (fun j o e h => own_cells (ho3.alloc _) e h)).trans (KeepsOthers.setCell _ _ _)))), kpV_t (kpV_below hbd k3) (kpV_t (kpV_below hb3 (Nat.le_trans k3 hbd.size)) (kpV_t (kpV_below ((Below.refl _ w3).alloc (Nat.le_refl _) _) (by omega)) (kpV_t (kpV_grown ((Below.refl w.heap.size _).grown grw4 (by simp; omega) (fun k hk => by have := own_ge ho3 hk; omega)) grw4 (fun r e => .inr (own_ge ho3 e))) (kpV_set _ (q + 1) 0 _ (by omega) (.inl rfl))))), ⟨⟨?_, ⟨_, set_one hf4.out, ?_⟩, ?_⟩, ?_⟩⟩
        · exact (Below.heap_setCell w4 ⟨q + 1, 0, none⟩ _ q (by simp)).trans (((hb4.out (q + 1) (by omega)).block q (by omega)).trans ((hb3.block q (by show q < w2.heap.size; have := hb2.size; omega)).trans ((hbd.block q hqW).trans Hk.out)))
        · rw [e1]; exact HO4.out.set (by omega) hf4.out (by decide)
        · simp; exact Nat.le_trans hz3 (hb4.out 0 (by omega)).size
        · exact (hB.trans (hbd.mono hB.size)).trans ((hb3.mono (Nat.le_trans hB.size hbd.size)).trans ((hb4.out w.heap.size (by omega)).setCell (p := ⟨q + 1, 0, none⟩) (by simp; omega) _))
      · go_simp
        refine hK _ _ ?_
        clear hK K
        refine wpAnyIn_ready (rs := [0, 2]) (by kernel_rfl) (by simp) (BigFrame.allReadyIn_want rfl (by kernel_rfl) (fun K hK => ?_) (BigFrame.allReadyIn_want rfl (by kernel_rfl) (fun K hK => ?_) AllReadyIn.nil))
        · go_simp
          refine hK _ _ ?_
          clear hK K
          refine wpAnyIn_ready (rs := [2]) (by kernel_rfl) (by simp) (BigFrame.allReadyIn_want rfl (by kernel_rfl) (fun K hK => ?_) AllReadyIn.nil)
          go_simp
          refine ⟨trivial, ?_⟩
          refine (callsIn_wide.2 HL2.out).mono ?_
          rintro e w3 ⟨v3, rfl, hown, hb3⟩
          obtain ⟨A3, c3, rfl, hl3⟩ := RowL.of_own hown
          have hf3 := (hb3.block (q + 1) (by show q + 1 < w2.heap.size; have := hb2.size; omega)).trans HF2.out
          have hc3 := cell_one hf3
          have hc3' := cell_one (heap_old (o := .cells #[.slice A3 (bitsOf x.1).length c3] 25) hf3)
          obtain ⟨vs, ho3, hr3⟩ := HO2.out.keep hb3
          have hz3 : q + 1 + 1 + 1 + 1 ≤ w3.heap.size := Nat.le_trans (Nat.le_trans hz hbd.size) hb3.size
          obtain ⟨v4, w4, hrun, own4, grw4, _⟩ := run_append_own (P := Tryd.prog) (w := w3.alloc (.cells #[.slice A3 (bitsOf x.1).length c3] 25)) (q + 1 + 1 + 1 + 1) 32 32 25 j0 (.slice none 0 0) 1 24 Tryd.underlying32 hj jz0 jz1 jz2 rfl (by decide) v _ vs (ho3.alloc _) ⟨w3.heap.size, 0, none⟩ 1 1 [.slice A3 (bitsOf x.1).length c3] rfl (by
            intro k u hu
            match k, hu with
            | 0, hu => simp at hu; subst hu; simp [Addr.add]) (by intro u hu; simp at hu; subst hu; rfl) (by unfold maxLen; have := Hln.out; omega) (by have := Hln.out; omega) (by simp; omega)
          have hb4 := Lib.hid (fun (B : Nat) (hB : B ≤ q + 1 + 1 + 1 + 1) => ((Below.refl B w3).alloc (Nat.le_trans hB hz3) (.cells #[.slice A3 (bitsOf x.1).length c3] 25)).grown grw4 (by simp; omega) (fun k hk => Nat.le_trans hB (own_ge ho3 hk)))
          have hf4 := Lib.hid (((hb4.out (q + 1 + 1) (by omega)).block (q + 1) (by omega)).trans hf3)
          have c4 := cell_one hf4.out
          have f4 := froz_one hf4.out 0
          have HO4 := Lib.hid (OutN.push ho3 hr3 hl3 own4 grw4)
          obtain ⟨A5, n5, c5, rfl⟩ := own_slice own4
          refine hK _ _ ?_
          clear hK K
          refine wpAnyIn_ready (rs := [3]) (by kernel_rfl) (by simp) (BigFrame.allReadyIn_want rfl (by kernel_rfl) (fun K hK => ?_) AllReadyIn.nil)
          go_simp
          refine hK _ _ ?_
          clear hK K
          refine wpAnyIn_ready (rs := [4]) (by kernel_rfl) (by simp) (BigFrame.allReadyIn_want rfl (by kernel_rfl) (fun K hK => ?_) AllReadyIn.nil)
          refine opIn_append rfl rfl rfl hrun ?_
          refine hK _ _ ?_
          clear hK K
          refine wpAnyIn_ready (rs := [5]) (by kernel_rfl) (by simp) (BigFrame.allReadyIn_want rfl (by kernel_rfl) (fun K hK => ?_) AllReadyIn.nil)
          go_simp
          refine hK _ _ ?_
          clear hK K
          refine wpAnyIn_done (by kernel_rfl) ?_ _
          gi_wp2
          have e1 : cons L (pre ++ [x]) = cons L pre ++ [bitsOf x.1] := by have := HS.out; simpa using this
          have k3 : w.heap.size ≤ W.heap.size := hB.size
          refine ⟨(KeepsOthers.of_grownBy (grown_below hbd) (fun j o e => by cases e)).trans ((KeepsOthers.of_grownBy (grown_below hb3) (fun j o e => by cases e)).trans ((KeepsOthers.alloc _ _).trans ((KeepsOthers.of_grownBy grw4 (fun j o e h => own_cells (ho3.alloc _) e h)).trans (KeepsOthers.setCell _ _ _)))), kpV_t (kpV_below hbd k3) (kpV_t (kpV_below hb3 (Nat.le_trans k3 hbd.size)) (kpV_t (kpV_below ((Below.refl _ w3).alloc (Nat.le_refl _) _) (by omega)) (kpV_t (kpV_grown ((Below.refl w.heap.size _).grown grw4 (by simp; omega) (fun k hk => by have := own_ge ho3 hk; omega)) grw4 (fun r e => .inr (own_ge ho3 e))) (kpV_set _ (q + 1) 0 _ (by omega) (.inl rfl))))), ⟨⟨?_, ⟨_, set_one hf4.out, ?_⟩, ?_⟩, ?_⟩⟩
          · exact (Below.heap_setCell w4 ⟨q + 1, 0, none⟩ _ q (by simp)).trans (((hb4.out (q + 1) (by omega)).block q (by omega)).trans ((hb3.block q (by show q < w2.heap.size; have := hb2.size; omega)).trans ((hbd.block q hqW).trans Hk.out)))
          · rw [e1]; exact HO4.out.set (by omega) hf4.out (by decide)
          · simp; exact Nat.le_trans hz3 (hb4.out 0 (by omega)).size
          · exact (hB.trans (hbd.mono hB.size)).trans ((hb3.mono (Nat.le_trans hB.size hbd.size)).trans ((hb4.out w.heap.size (by omega)).setCell (p := ⟨q + 1, 0, none⟩) (by simp; omega) _))
        · go_simp
          refine ⟨trivial, ?_⟩
          refine (callsIn_wide.2 HL2.out).mono ?_
          rintro e w3 ⟨v3, rfl, hown, hb3⟩
          obtain ⟨A3, c3, rfl, hl3⟩ := RowL.of_own hown
          have hf3 := (hb3.block (q + 1) (by show q + 1 < w2.heap.size; have := hb2.size; omega)).trans HF2.out
          have hc3 := cell_one hf3
          have hc3' := cell_one (heap_old (o := .cells #[.slice A3 (bitsOf x.1).length c3] 25) hf3)
          obtain ⟨vs, ho3, hr3⟩ := HO2.out.keep hb3
          have hz3 : q + 1 + 1 + 1 + 1 ≤ w3.heap.size := Nat.le_trans (Nat.le_trans hz hbd.size) hb3.size
          obtain ⟨v4, w4, hrun, own4, grw4, _⟩ := run_append_own (P := Tryd.prog) (w := w3.alloc (.cells #[.slice A3 (bitsOf x.1).length c3] 25)) (q + 1 + 1 + 1 + 1) 32 32 25 j0 (.slice none 0 0) 1 24 Tryd.underlying32 hj jz0 jz1 jz2 rfl (by decide) v _ vs (ho3.alloc _) ⟨w3.heap.size, 0, none⟩ 1 1 [.slice A3 (bitsOf x.1).length c3] rfl (by
            intro k u hu
            match k, hu with
            | 0, hu => simp at hu; subst hu; simp [Addr.add]) (by intro u hu; simp at hu; subst hu; rfl) (by unfold maxLen; have := Hln.out; omega) (by have := Hln.out; omega) (by simp; omega)
          have hb4 := Lib.hid (fun (B : Nat) (hB : B ≤ q + 1 + 1 + 1 + 1) => ((Below.refl B w3).alloc (Nat.le_trans hB hz3) (.cells #[.slice A3 (bitsOf x.1).length c3] 25)).grown grw4 (by simp; omega) (fun k hk => Nat.le_trans hB (own_ge ho3 hk)))
          have hf4 := Lib.hid (((hb4.out (q + 1 + 1) (by omega)).block (q + 1) (by omega)).trans hf3)
          have c4 := cell_one hf4.out
          have f4 := froz_one hf4.out 0
          have HO4 := Lib.hid (OutN.push ho3 hr3 hl3 own4 grw4)
          obtain ⟨A5, n5, c5, rfl⟩ := own_slice own4
          refine hK _ _ ?_
          clear hK K
          refine wpAnyIn_ready (rs := [0, 3]) (by kernel_rfl) (by simp) (BigFrame.allReadyIn_want rfl (by kernel_rfl) (fun K hK => ?_) (BigFrame.allReadyIn_want rfl (by kernel_rfl) (fun K hK => ?_) AllReadyIn.nil))
          · go_simp
            refine hK _ _ ?_
            clear hK K
            refine wpAnyIn_ready (rs := [3]) (by kernel_rfl) (by simp) (BigFrame.allReadyIn_want rfl (by kernel_rfl) (fun K hK => ?_) AllReadyIn.nil)
            go_simp
            refine hK _ _ ?_
            clear hK K
            refine wpAnyIn_ready (rs := [4]) (by kernel_rfl) (by simp) (BigFrame.allReadyIn_want rfl (by kernel_rfl) (fun K hK => ?_) AllReadyIn.nil)
            refine opIn_append rfl rfl rfl hrun ?_
            refine hK _ _ ?_
            clear hK K
            refine wpAnyIn_ready (rs := [5]) (by kernel_rfl) (by simp) (BigFrame.allReadyIn_want rfl (by kernel_rfl) (fun K hK => ?_) AllReadyIn.nil)
            go_simp
            refine hK _ _ ?_
            clear hK K
            refine wpAnyIn_done (by kernel_rfl) ?_ _
            gi_wp2
            have e1 : cons L (pre ++ [x]) = cons L pre ++ [bitsOf x.1] := by have := HS.out; simpa using this
            have k3 : w.heap.size ≤ W.heap.size := hB.size
            refine ⟨(KeepsOthers.of_grownBy (grown_below hbd) (fun j o e => by cases e)).trans ((KeepsOthers.of_grownBy (grown_below hb3) (fun j o e => by cases e)).trans ((KeepsOthers.alloc _ _).trans ((KeepsOthers.of_grownBy grw4 (fun j o e h => own_cells (ho3.alloc _) e h)).trans (KeepsOthers.setCell _ _ _)))), kpV_t (kpV_below hbd k3) (kpV_t (kpV_below hb3 (Nat.le_trans k3 hbd.size)) (kpV_t (kpV_below ((Below.refl _ w3).alloc (Nat.le_refl _) _) (by omega)) (kpV_t (kpV_grown ((Below.refl w.heap.size _).grown grw4 (by simp; omega) (fun k hk => by have := own_ge ho3 hk; omega)) grw4 (fun r e => .inr (own_ge ho3 e))) (kpV_set _ (q + 1) 0 _ (by omega) (.inl rfl))))), ⟨⟨?_, ⟨_, set_one hf4.out, ?_⟩, ?_⟩, ?_⟩⟩
            · exact (Below.heap_setCell w4 ⟨q + 1, 0, none⟩ _ q (by simp)).trans (((hb4.out (q + 1) (by omega)).block q (by omega)).trans ((hb3.block q (by show q < w2.heap.size; have := hb2.size; omega)).trans ((hbd.block q hqW).trans Hk.out)))
            · rw [e1]; exact HO4.out.set (by omega) hf4.out (by decide)
            · simp; exact Nat.le_trans hz3 (hb4.out 0 (by omega)).size
            · exact (hB.trans (hbd.mono hB.size)).trans ((hb3.mono (Nat.le_trans hB.size hbd.size)).trans ((hb4.out w.heap.size (by omega)).setCell (p := ⟨q + 1, 0, none⟩) (by simp; omega) _))
          · go_simp
            refine hK _ _ ?_
            clear hK K
            refine wpAnyIn_ready (rs := [0]) (by kernel_rfl) (by simp) (BigFrame.allReadyIn_want rfl (by kernel_rfl) (fun K hK => ?_) AllReadyIn.nil)
            go_simp
            refine hK _ _ ?_
            clear hK K
            refine wpAnyIn_ready (rs := [4]) (by kernel_rfl) (by simp) (BigFrame.allReadyIn_want rfl (by kernel_rfl) (fun K hK => ?_) AllReadyIn.nil)
            refine opIn_append rfl rfl rfl hrun ?_
            refine hK _ _ ?_
            clear hK K
            refine wpAnyIn_ready (rs := [5]) (by kernel_rfl) (by simp) (BigFrame.allReadyIn_want rfl (by kernel_rfl) (fun K hK => ?_) AllReadyIn.nil)
            go_simp
            refine hK _ _ ?_
            clear hK K
            refine wpAnyIn_done (by kernel_rfl) ?_ _
            gi_wp2
            have e1 : cons L (pre ++ [x]) = cons L pre ++ [bitsOf x.1] := by have := HS.out; simpa using this
            have k3 : w.heap.size ≤ W.heap.size := hB.size
            refine ⟨(KeepsOthers.of_grownBy (grown_below hbd) (fun j o e => by cases e)).trans ((KeepsOthers.of_grownBy (grown_below hb3) (fun j o e => by cases e)).trans ((KeepsOthers.alloc _ _).trans ((KeepsOthers.of_grownBy grw4 (fun j o e h => own_cells (ho3.alloc _) e h)).trans (KeepsOthers.setCell _ _ _)))), kpV_t (kpV_below hbd k3) (kpV_t (kpV_below hb3 (Nat.le_trans k3 hbd.size)) (kpV_t (kpV_below ((Below.refl _ w3).alloc (Nat.le_refl _) _) (by omega)) (kpV_t (kpV_grown ((Below.refl w.heap.size _).grown grw4 (by simp; omega) (fun k hk => by have := own_ge ho3 hk; omega)) grw4 (fun r e => .inr (own_ge ho3 e))) (kpV_set _ (q + 1) 0 _ (by omega) (.inl rfl))))), ⟨⟨?_, ⟨_, set_one hf4.out, ?_⟩, ?_⟩, ?_⟩⟩
            · exact (Below.heap_setCell w4 ⟨q + 1, 0, none⟩ _ q (by simp)).trans (((hb4.out (q + 1) (by omega)).block q (by omega)).trans ((hb3.block q (by show q < w2.heap.size; have := hb2.size; omega)).trans ((hbd.block q hqW).trans Hk.out)))
            · rw [e1]; exact HO4.out.set (by omega) hf4.out (by decide)
            · simp; exact Nat.le_trans hz3 (hb4.out 0 (by omega)).size
            · exact (hB.trans (hbd.mono hB.size)).trans ((hb3.mono (Nat.le_trans hB.size hbd.size)).trans ((hb4.out w.heap.size (by omega)).setCell (p := ⟨q + 1, 0, none⟩) (by simp; omega) _))
  case done =>
    rintro D ys W hD hys ⟨⟨hk, ⟨v, hf, ho⟩, hz⟩, hB⟩ hK
    have c2 := cell_one hf
    have e1 : cons L ys = ((sbs s m).filter (conM L)).map bitsOf := by unfold cons; rw [hys, sbs_cF hs]
    have HO := Lib.hid ho
    have HB := Lib.hid hB
    clear ho hk hf
    gi_wp2
    refine ⟨by simp, .inl ⟨_, _, rfl, run_takeDeferred hK, ?_⟩⟩
    refine ⟨.tuple #[v, .int .i64 0], by simp [results, Tryd.f17, go_sem], v, rfl, ?_, HB.out.trans (belowK_b (w := w) (Nat.le_refl _) W D _ _ (by omega) hK rfl rfl)⟩
    rw [← e1]
    exact (HO.out.kept (grownBy_putObj' W D (.deferred none)) (fun r e => by cases e; exact ⟨_, hK, rfl⟩)).down (by omega)
  case stop =>
    rintro D c pre W _ _ hx
    exact hx.elim
end
end Go.Proofs.YtdpfoegcmngdfaaDoor
