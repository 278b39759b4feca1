/- Liaisons: the links of a graph, and pieces. -/
import Derived.Test.YtdpfoegcmngdfaaDoorLc
namespace Go.Proofs.YtdpfoegcmngdfaaDoor
open Go.RowKit
/-- Links as a value: for each of twelve nodes the set of its neighbours. -/
abbrev lvC (L : Nat → Nat) : Array Value := #[.int .u64 (L 0 : Nat), .int .u64 (L 1 : Nat), .int .u64 (L 2 : Nat), .int .u64 (L 3 : Nat), .int .u64 (L 4 : Nat), .int .u64 (L 5 : Nat), .int .u64 (L 6 : Nat), .int .u64 (L 7 : Nat), .int .u64 (L 8 : Nat), .int .u64 (L 9 : Nat), .int .u64 (L 10 : Nat), .int .u64 (L 11 : Nat)]
abbrev lvV (L : Nat → Nat) : Value := .agg (lvC L)
def sets12 (L : Nat → Nat) : List Value := (List.range 12).map fun i => Value.int .u64 (L i : Nat)
theorem lvC_list (L : Nat → Nat) : (lvC L).toList = sets12 L := rfl
theorem sets12_at (f : Nat → Nat) {i : Nat} (h : i < 12) : (sets12 f)[i]? = some (.int .u64 (f i : Nat)) := by
  unfold sets12; rw [List.getElem?_map, List.getElem?_range h]; rfl
theorem sets12_len (f : Nat → Nat) : (sets12 f).length = 12 := by unfold sets12; simp
theorem sets12_set (f : Nat → Nat) (i v : Nat) : (sets12 f).set i (.int .u64 (v : Nat)) = sets12 fun j => if i = j then v else f j := by
  apply List.ext_getElem?
  intro j
  rw [List.getElem?_set]
  rcases Nat.lt_or_ge j 12 with hj | hj
  · rw [sets12_at _ hj, sets12_at _ hj, sets12_len]
    by_cases h : i = j
    · subst h; rw [if_pos rfl, if_pos hj, if_pos rfl]
    · rw [if_neg h, if_neg h]
  · rw [List.getElem?_eq_none (by rw [sets12_len]; exact hj), List.getElem?_eq_none (by rw [sets12_len]; exact hj), sets12_len]
    by_cases h : i = j
    · subst h; rw [if_pos rfl, if_neg (by omega)]
    · rw [if_neg h]
theorem lnk_step {w : World} {p k x y : Nat} {es : List (Nat × Nat)} (hk : es[k]? = some (x, y)) (hc : Cells w p (sets12 (adj (es.take k)))) (hx : x < 12) :
    Cells (w.setCell ⟨p, x, none⟩ (.int .u64 (adj (es.take k) x ||| sing y : Nat))) p (sets12 (adj (es.take (k + 1)))) := by
  have h := hc.set x (.int .u64 (adj (es.take k) x ||| sing y : Nat)) (by rw [sets12_len]; exact hx)
  rw [sets12_set] at h
  have e : (fun j => if x = j then adj (es.take k) x ||| sing y else adj (es.take k) j) = adj (es.take (k + 1)) := by
    funext j
    rw [List.take_add_one, hk]
    show _ = adj (es.take k ++ [(x, y)]) j
    rw [adj_snoc]
    by_cases h : x = j
    · subst h; simp [sing]
    · simp [h]
  rw [e] at h
  exact h
theorem lt_under' {s : Nat} : Under 64 s ↔ s < 18446744073709551616 := ⟨under_lt, lt_under (k := 64)⟩
theorem low_take' {n : Nat} {es : List (Nat × Nat)} (h : Low n es) (k : Nat) : Low n (es.take k) := fun e he => h e (List.mem_of_mem_take he)
theorem low_up {n m : Nat} {es : List (Nat × Nat)} (h : Low n es) (hm : n ≤ m) : Low m es := fun e he => ⟨Nat.lt_of_lt_of_le (h e he).1 hm, Nat.lt_of_lt_of_le (h e he).2 hm⟩
theorem Calls.still {P : Program} {f : FuncId} {args : Array Value} {w : World} {v : Value} (h : Calls P f args w fun e w' => e = .returned v ∧ w = w') : Calls P f args w fun e w' => e = .returned v ∧ w' = w :=
  h.mono fun _ _ ⟨h1, h2⟩ => ⟨h1, h2.symm⟩
def LnkInv (w : World) (es : List (Nat × Nat)) (i : Value) (wr : World) : Prop :=
  ∃ k : Nat, k ≤ es.length ∧ i = .int .i64 (k : Nat) ∧ Cells wr (w.heap.size + 1 + 1) (sets12 (adj (es.take k))) ∧ Cells wr (w.heap.size + 1) (sets12 fun _ => 0) ∧ Below w.heap.size w wr
set_option maxRecDepth 100000 in
set_option maxHeartbeats 4000000 in
theorem linksOf_any (g : Int) (A : Option Addr) (n c : Nat) (es : List (Nat × Nat)) (w : World) (h : EL w A n (cast es)) (hl : Low 12 es) (hn : n ≤ 4096) :
    Calls Tryd.prog 64 #[gV g A n c] w fun e w' => e = .returned (lvV (adj es)) ∧ Below w.heap.size w w' := by
  have hlen : es.length = n := by have := h.1; unfold cast at this; simpa using this
  have H := Lib.hid h
  have HL := Lib.hid hl
  have H0 := Lib.hid (Cells.new (w.alloc (.cells #[.int .i64 g, .slice A n c] 24)) (sets12 fun _ => 0).toArray 80)
  have H1 := Lib.hid (Cells.new ((w.alloc (.cells #[.int .i64 g, .slice A n c] 24)).alloc (.cells (sets12 fun _ => 0).toArray 80)) (sets12 fun _ => 0).toArray 80)
  have B0 := Lib.hid ((((Below.refl w.heap.size w).alloc (Nat.le_refl _) (.cells #[.int .i64 g, .slice A n c] 24)).alloc (by simp) (.cells (sets12 fun _ => 0).toArray 80)).alloc (by simp <;> omega) (.cells (sets12 fun _ => 0).toArray 80))
  have H0 := Lib.hid (H0.out.keep ((Below.refl _ _).alloc (Nat.le_refl _) (.cells (sets12 fun _ => 0).toArray 80)))
  have H0 : RowKit.Hid (Cells (((w.alloc (.cells #[.int .i64 g, .slice A n c] 24)).alloc (.cells (sets12 fun _ => 0).toArray 80)).alloc (.cells (sets12 fun _ => 0).toArray 80)) (w.heap.size + 1) (sets12 fun _ => 0)) := by simpa using H0
  have H1 : RowKit.Hid (Cells (((w.alloc (.cells #[.int .i64 g, .slice A n c] 24)).alloc (.cells (sets12 fun _ => 0).toArray 80)).alloc (.cells (sets12 fun _ => 0).toArray 80)) (w.heap.size + 1 + 1) (sets12 (adj (es.take 0)))) := by
    show RowKit.Hid (Cells (((w.alloc (.cells #[.int .i64 g, .slice A n c] 24)).alloc (.cells (sets12 fun _ => 0).toArray 80)).alloc (.cells (sets12 fun _ => 0).toArray 80)) (w.heap.size + 1 + 1) (sets12 fun _ => 0))
    simpa using H1
  have hnl := Nat.le_of_eq hlen
  have hnl2 := Nat.le_of_eq hlen.symm
  clear h hl hlen
  go_enter Tryd.func64, Tryd.ntmps64
  go_wp2_with fail
  go_loopw [9] (fun i wr => LnkInv w es i wr) (fun i _ => n - (intOf i).toNat)
  case atStart => exact ⟨0, Nat.zero_le _, rfl, H1.out, H0.out, B0.out⟩
  case round =>
    obtain ⟨k, hk, rfl, hc, hr, hb⟩ := hrel
    have Hc := Lib.hid hc
    have Hr := Lib.hid hr
    have Hb := Lib.hid hb
    clear hc hb hr
    by_cases hlt : k < n
    · obtain ⟨e, b, o, he, rfl, hbl, c0, c1⟩ := (H.out.keep Hb.out).at_ hlt
      obtain ⟨x, y, hxy, rfl⟩ := cast_at he
      obtain ⟨hx, hy⟩ := HL.out _ (List.mem_of_getElem? hxy)
      have Hxy := Lib.hid hxy
      simp only at c0 c1 hx hy
      have kv := (Below.refl wr.heap.size wr).alloc (Nat.le_refl _) (.cells #[.int .i64 (x : Int), .int .i64 (y : Int)] 75)
      have HE := Lib.hid (Cells.new wr #[.int .i64 (x : Int), .int .i64 (y : Int)] 75)
      have Hc := Lib.hid (Hc.out.keep kv)
      have Hr := Lib.hid (Hr.out.keep kv)
      have Hb := Lib.hid (below_on Hb.out kv)
      obtain ⟨x2, hx2⟩ : ∃ u, wr.alloc (.cells #[.int .i64 (x : Int), .int .i64 (y : Int)] 75) = u := ⟨_, rfl⟩
      obtain ⟨p2, hp2⟩ : ∃ p, wr.heap.size = p := ⟨_, rfl⟩
      rw [hx2] at HE Hc Hb Hr
      rw [hp2] at HE
      clear he hxy kv
      have hxi : (x : Int) < 12 := by omega
      have d0 : x2.cell? ⟨p2, 0, none⟩ = some (.int .i64 (x : Int)) := HE.out.at_ 0
      have d1 : x2.cell? ⟨p2, 1, none⟩ = some (.int .i64 (y : Int)) := HE.out.at_ 1
      have l0 : x2.cell? ⟨w.heap.size + 1 + 1, x, none⟩ = some (.int .u64 (adj (es.take k) x : Nat)) := (Hc.out.at_ x).trans (sets12_at _ hx)
      have l1 : x2.frozen? ⟨w.heap.size + 1 + 1, x, none⟩ = false := Hc.out.fz x
      have ub := lt_under'.1 (adj_under (low_up (low_take' HL.out k) (by decide : 12 ≤ 64)) x)
      have hy64 : y < 64 := by omega
      have sy := sing_lt hy64
      have e1 : bits .or .u64 ((adj (es.take k) x : Nat) : Int) ((sing y : Nat) : Int) = ((adj (es.take k) x ||| sing y : Nat) : Int) := bits_or_u64_nat _ _ ub sy
      have Hfin := Lib.hid (lnk_step Hxy.out Hc.out hx)
      have Hr := Lib.hid (Hr.out.other (by omega : w.heap.size + 1 ≠ w.heap.size + 1 + 1) x (.int .u64 (adj (es.take k) x ||| sing y : Nat)))
      have Hb := Lib.hid (Hb.out.setCell (p := ⟨w.heap.size + 1 + 1, x, none⟩) (by simp <;> omega) (.int .u64 (adj (es.take k) x ||| sing y : Nat)))
      go_wp2_with fail
      go_still_tail 9, (by kernel_rfl)
      still_call (Calls.still (single_any _ _ (by assumption)))
      repeat still_step
      change wpList _ _ _ _ _ x2.drew
      go_wp2_with fail
      go_roundw
      case rel => exact ⟨k + 1, by omega, by go_num, Hfin.out.drew, Hr.out.drew, Hb.out.drew⟩
      case measure => simp [intOf]; omega
    · have hkn : k = n := by omega
      subst hkn
      have Hf := Lib.hid (show Cells wr (w.heap.size + 1 + 1) (sets12 (adj es)) by have := Hc.out; rwa [List.take_of_length_le (by omega)] at this)
      clear Hc
      have z0 := Hf.out.at_ 0
      have z1 := Hf.out.at_ 1
      have z2 := Hf.out.at_ 2
      have z3 := Hf.out.at_ 3
      have z4 := Hf.out.at_ 4
      have z5 := Hf.out.at_ 5
      have z6 := Hf.out.at_ 6
      have z7 := Hf.out.at_ 7
      have z8 := Hf.out.at_ 8
      have z9 := Hf.out.at_ 9
      have z10 := Hf.out.at_ 10
      have z11 := Hf.out.at_ 11
      have y0 := Hr.out.at_ 0
      have f0 := Hr.out.fz 0
      have y1 := Hr.out.at_ 1
      have f1 := Hr.out.fz 1
      have y2 := Hr.out.at_ 2
      have f2 := Hr.out.fz 2
      have y3 := Hr.out.at_ 3
      have f3 := Hr.out.fz 3
      have y4 := Hr.out.at_ 4
      have f4 := Hr.out.fz 4
      have y5 := Hr.out.at_ 5
      have f5 := Hr.out.fz 5
      have y6 := Hr.out.at_ 6
      have f6 := Hr.out.fz 6
      have y7 := Hr.out.at_ 7
      have f7 := Hr.out.fz 7
      have y8 := Hr.out.at_ 8
      have f8 := Hr.out.fz 8
      have y9 := Hr.out.at_ 9
      have f9 := Hr.out.fz 9
      have y10 := Hr.out.at_ 10
      have f10 := Hr.out.fz 10
      have y11 := Hr.out.at_ 11
      have f11 := Hr.out.fz 11
      simp only [sets12, List.range, List.range.loop, List.map_cons, List.map_nil, List.getElem?_cons_zero, List.getElem?_cons_succ] at z0 y0 z1 y1 z2 y2 z3 y3 z4 y4 z5 y5 z6 y6 z7 y7 z8 y8 z9 y9 z10 y10 z11 y11
      go_wp2_with fail
      refine bodyPost_ret (v := lvV (adj es)) (by simp [results, Tryd.results64, go_sem, y0, y1, y2, y3, y4, y5, y6, y7, y8, y9, y10, y11]) rfl ⟨rfl, ((((((((((((Hb.out.setCell (p := ⟨w.heap.size + 1, 0, none⟩) (Nat.le_succ _) (.int .u64 (adj es 0 : Nat))).setCell (p := ⟨w.heap.size + 1, 1, none⟩) (Nat.le_succ _) (.int .u64 (adj es 1 : Nat))).setCell (p := ⟨w.heap.size + 1, 2, none⟩) (Nat.le_succ _) (.int .u64 (adj es 2 : Nat))).setCell (p := ⟨w.heap.size + 1, 3, none⟩) (Nat.le_succ _) (.int .u64 (adj es 3 : Nat))).setCell (p := ⟨w.heap.size + 1, 4, none⟩) (Nat.le_succ _) (.int .u64 (adj es 4 : Nat))).setCell (p := ⟨w.heap.size + 1, 5, none⟩) (Nat.le_succ _) (.int .u64 (adj es 5 : Nat))).setCell (p := ⟨w.heap.size + 1, 6, none⟩) (Nat.le_succ _) (.int .u64 (adj es 6 : Nat))).setCell (p := ⟨w.heap.size + 1, 7, none⟩) (Nat.le_succ _) (.int .u64 (adj es 7 : Nat))).setCell (p := ⟨w.heap.size + 1, 8, none⟩) (Nat.le_succ _) (.int .u64 (adj es 8 : Nat))).setCell (p := ⟨w.heap.size + 1, 9, none⟩) (Nat.le_succ _) (.int .u64 (adj es 9 : Nat))).setCell (p := ⟨w.heap.size + 1, 10, none⟩) (Nat.le_succ _) (.int .u64 (adj es 10 : Nat))).setCell (p := ⟨w.heap.size + 1, 11, none⟩) (Nat.le_succ _) (.int .u64 (adj es 11 : Nat)))⟩
set_option maxRecDepth 100000 in
set_option maxHeartbeats 2000000 in
theorem next_any (L : Nat → Nat) (s : Nat) (w : World) (hL : ∀ i, Under 64 (L i)) (hs : s < 4096) (hw : Good w) :
    Calls Tryd.prog 51 #[lvV L, .int .u64 s] w fun e w' => e = .returned (.int .u64 (stepM L s : Nat)) ∧ Below w.heap.size w w' := by
  have kv := (Below.refl w.heap.size w).alloc (Nat.le_refl _) (.cells (lvC L) 80)
  have Hc := Cells.new w (lvC L) 80
  rw [lvC_list] at Hc
  have Hc := Lib.hid Hc
  have HL := Lib.hid hL
  have hb0 := bitsOf_len s
  have Hl := list_any s (w.alloc (.cells (lvC L) 80)) (by omega) (hw.below kv hw.size)
  have Hm := Lib.hid (fun i n (hi : (bitsOf s)[i]? = some n) => lt_under (k := 12) (by omega) n (mem_bitsOf.1 (List.mem_of_getElem? hi)).2)
  have He := Lib.hid (orTo_end L s)
  obtain ⟨l, hl⟩ : ∃ l, bitsOf s = l := ⟨_, rfl⟩
  rw [hl] at Hm He hb0 Hl
  have Hl := Lib.hid Hl
  have K0 := Lib.hid kv
  clear hL hw hl kv
  go_enter Tryd.func51, Tryd.ntmps51
  go_wp2_with fail
  refine Hl.out.mono ?_
  rintro e w1 ⟨v, rfl, hown, hb⟩
  obtain ⟨A, c, rfl, hn, hc1, hc2⟩ := own_nats hown
  have Hn := Lib.hid hn
  have Hc := Lib.hid (Hc.out.keep hb)
  have Hb := Lib.hid (below_on K0.out hb)
  clear hown hn hb
  go_wp2_with fail
  go_loop [11, 5] (fun i t => ∃ k : Nat, k ≤ l.length ∧ i = .int .i64 (k : Nat) ∧ t = .int .u64 (orTo L l k : Nat)) (fun i _ => l.length - (intOf i).toNat)
  case atStart => exact ⟨0, Nat.zero_le _, rfl, rfl⟩
  case round =>
    obtain ⟨k, hk, rfl, rfl⟩ := hrel
    by_cases hlt : k < l.length
    · obtain ⟨n, b, o, hkn, rfl, hB, hbl, hcell⟩ := Hn.out.at_ hlt
      have hn12 := Hm.out _ _ hkn
      have hni : (n : Int) < 12 := by omega
      have l0 : w1.cell? ⟨w.heap.size, n, none⟩ = some (.int .u64 (L n : Nat)) := (Hc.out.at_ n).trans (sets12_at _ hn12)
      have e1 : bits .or .u64 ((orTo L l k : Nat) : Int) ((L n : Nat) : Int) = ((orTo L l k ||| L n : Nat) : Int) := bits_or_u64_nat _ _ (orTo_lt HL.out l k) (under_lt (HL.out n))
      have Hup := Lib.hid (orTo_up (L := L) hkn)
      clear hkn
      go_wp2
      go_round
      case rel => exact ⟨k + 1, by omega, by go_num, by rw [Hup.out]⟩
      case measure => simp [intOf]; omega
    · have hf := Lib.hid (He.out k (by omega))
      go_wp2
      go_ret
      exact ⟨ret_int (congrArg _ hf.out), Hb.out⟩
theorem neg_low {s : Nat} (h : s < 18446744073709551616) : bits .and .u64 (s : Int) (IntKind.u64.wrap (-(s : Int))) = ((lowB s : Nat) : Int) := by
  by_cases h0 : s = 0
  · subst h0; decide
  · have e : IntKind.u64.wrap (-(s : Int)) = ((18446744073709551616 - s : Nat) : Int) := by rw [IntKind.wrap_u64]; omega
    rw [e, bits_and_u64_nat _ _ h (by omega), lowB_and h0 h]
set_option maxRecDepth 100000 in
set_option maxHeartbeats 4000000 in
theorem piece_any (L : Nat → Nat) (s : Nat) (w : World) (hL : ∀ i, Under 64 (L i)) (hs : s < 4096) (hw : Good w) :
    Calls Tryd.prog 49 #[lvV L, .int .u64 s] w fun e w' => e = .returned (.int .u64 (pieceM L s : Nat)) ∧ Below w.heap.size w w' := by
  have kv := (Below.refl w.heap.size w).alloc (Nat.le_refl _) (.cells (lvC L) 80)
  have Hc := Cells.new w (lvC L) 80
  rw [lvC_list] at Hc
  have hs64 : s < 18446744073709551616 := by omega
  have n0 := neg_low hs64
  have P := Lib.hid (fun k => pl_lt (L := L) hs64 k)
  have PI := Lib.hid (fun k v => pl_in (L := L) hs64 k v)
  have PE := Lib.hid (fun k => piece_end (L := L) (k := k) hs64)
  have PS := Lib.hid (fun t => step_in L s t)
  have PU := Lib.hid (lev_le' (inL L s) (lowB s))
  have PT := Lib.hid (fun t => under_lt (step_under (k := 64) hL t))
  obtain ⟨F, hF⟩ : ∃ F, F = lev (inL L s) (lowB s) := ⟨_, rfl⟩
  have F1 : RowKit.Hid (∀ k, F (k + 1) = F k ||| (stepM L (F k) &&& s)) := by rw [hF]; exact Lib.hid fun k => by rw [lev, PS.out]
  have F0 : RowKit.Hid (F 0 = lowB s) := by rw [hF]; exact Lib.hid rfl
  rw [← hF] at P PI PE PU
  have P12 : RowKit.Hid (∀ k, F k < 4096) := Lib.hid fun k => under_lt (k := 12) fun v hv => lt_under (k := 12) (by omega) v (PI.out k v hv)
  have HL := Lib.hid hL
  have HW := Lib.hid (fun w' (h : Below w.heap.size w w') => hw.below h hw.size)
  have C0 := Lib.hid Hc
  have K0 := Lib.hid kv
  clear hL hw kv Hc hF
  go_enter Tryd.func49, Tryd.ntmps49
  go_wp2_with fail
  go_loopw [5] (fun t wr => ∃ k : Nat, t = .int .u64 (F k : Nat) ∧ Cells wr w.heap.size (sets12 L) ∧ Below w.heap.size w wr) (fun t _ => 18446744073709551616 - (intOf t).toNat)
  case atStart => exact ⟨0, by rw [F0.out], C0.out, K0.out⟩
  case round =>
    obtain ⟨k, rfl, hc, hb⟩ := hrel
    have Hb := Lib.hid hb
    have Hc := Lib.hid hc
    clear hb hc
    have u0 := P.out k
    have u1 := P.out (k + 1)
    have p12 := P12.out k
    have HN := Lib.hid (next_any L (F k) wr HL.out p12 (HW.out _ Hb.out))
    have e1 : bits .and .u64 ((stepM L (F k) : Nat) : Int) (s : Int) = ((stepM L (F k) &&& s : Nat) : Int) := bits_and_u64_nat _ _ (PT.out _) hs64
    have e2 : bits .or .u64 ((F k : Nat) : Int) ((stepM L (F k) &&& s : Nat) : Int) = ((F (k + 1) : Nat) : Int) := by
      rw [bits_or_u64_nat _ _ u0 (Nat.lt_of_le_of_lt Nat.and_le_right hs64), F1.out]
    have Hm := Lib.hid (PU.out k)
    have HP := Lib.hid (PE.out k)
    have z0 := Hc.out.at_ 0
    have z1 := Hc.out.at_ 1
    have z2 := Hc.out.at_ 2
    have z3 := Hc.out.at_ 3
    have z4 := Hc.out.at_ 4
    have z5 := Hc.out.at_ 5
    have z6 := Hc.out.at_ 6
    have z7 := Hc.out.at_ 7
    have z8 := Hc.out.at_ 8
    have z9 := Hc.out.at_ 9
    have z10 := Hc.out.at_ 10
    have z11 := Hc.out.at_ 11
    simp only [sets12, List.range, List.range.loop, List.map_cons, List.map_nil, List.getElem?_cons_zero, List.getElem?_cons_succ] at z0 z1 z2 z3 z4 z5 z6 z7 z8 z9 z10 z11
    clear u0
    by_cases h0 : F (k + 1) = F k
    · have hf := Lib.hid (HP.out h0)
      have t0 : (((F (k + 1) : Nat) : Int) == ((F k : Nat) : Int)) = true := by rw [h0]; simp
      clear h0
      go_wp2_with fail
      refine HN.out.mono ?_
      rintro e w2 ⟨rfl, hb2⟩
      have Hb := Lib.hid (below_on Hb.out hb2)
      clear hb2
      go_wp2_with fail
      go_ret
      exact ⟨ret_int (congrArg _ hf.out), Hb.out⟩
    · have t0 : (((F (k + 1) : Nat) : Int) == ((F k : Nat) : Int)) = false := by simp; omega
      have Hlt := Lib.hid (show F k < F (k + 1) by have := Hm.out; omega)
      clear h0
      go_wp2_with fail
      refine HN.out.mono ?_
      rintro e w2 ⟨rfl, hb2⟩
      have Hb := Lib.hid (below_on Hb.out hb2)
      have Hc := Lib.hid (Hc.out.keep hb2)
      clear hb2 z0 z1 z2 z3 z4 z5 z6 z7 z8 z9 z10 z11
      go_wp2_with fail
      go_roundw
      case rel => exact ⟨k + 1, rfl, Hc.out, Hb.out⟩
      case measure => simp [intOf]; have := Hlt.out; omega
set_option maxRecDepth 100000 in
theorem conn_any (L : Nat → Nat) (s : Nat) (w : World) (hL : ∀ i, Under 64 (L i)) (hs : s < 4096) (hw : Good w) :
    Calls Tryd.prog 48 #[lvV L, .int .u64 s] w fun e w' => e = .returned (.bool (conM L s)) ∧ Below w.heap.size w w' := by
  have kv := (Below.refl w.heap.size w).alloc (Nat.le_refl _) (.cells (lvC L) 80)
  have Hc := Cells.new w (lvC L) 80
  rw [lvC_list] at Hc
  have HP := Lib.hid (piece_any L s _ hL hs (hw.below kv hw.size))
  have K0 := Lib.hid kv
  have z0 := Hc.at_ 0
  have z1 := Hc.at_ 1
  have z2 := Hc.at_ 2
  have z3 := Hc.at_ 3
  have z4 := Hc.at_ 4
  have z5 := Hc.at_ 5
  have z6 := Hc.at_ 6
  have z7 := Hc.at_ 7
  have z8 := Hc.at_ 8
  have z9 := Hc.at_ 9
  have z10 := Hc.at_ 10
  have z11 := Hc.at_ 11
  simp only [sets12, List.range, List.range.loop, List.map_cons, List.map_nil, List.getElem?_cons_zero, List.getElem?_cons_succ] at z0 z1 z2 z3 z4 z5 z6 z7 z8 z9 z10 z11
  have hf := Lib.hid (show (((pieceM L s : Nat) : Int) == (s : Int)) = conM L s by unfold conM; rw [Bool.eq_iff_iff]; simp; omega)
  clear hL hw kv Hc hs
  go_enter Tryd.func48, Tryd.ntmps48
  go_wp2_with fail
  refine HP.out.mono ?_
  rintro e w2 ⟨rfl, hb2⟩
  have Hb := Lib.hid (below_on K0.out hb2)
  clear hb2
  go_wp2_with fail
  go_ret
  exact ⟨ret_bool hf.out, Hb.out⟩
end Go.Proofs.YtdpfoegcmngdfaaDoor
