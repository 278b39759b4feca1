/- distances. -/
import Derived.Test.YthocdmlacfejkaaDoorStp
import Derived.Deep.WholeRow
namespace Go.Proofs.YthocdmlacfejkaaDoor
open Go.RowKit
/-- A block known whole. -/
def Row (w : World) (p : Nat) (T : TypeId) (vs : List Value) : Prop := w.heap[p]? = some (.cells vs.toArray T (0, 0))
theorem Row.cells {w : World} {p : Nat} {T : TypeId} {vs : List Value} (h : Row w p T vs) : Cells w p vs := by simpa using Cells.of_row h
theorem Row.set {w : World} {p : Nat} {T : TypeId} {vs : List Value} (h : Row w p T vs) (i : Nat) (u : Value) : Row (w.setCell ⟨p, i, none⟩ u) p T (vs.set i u) := by
  unfold Row at *
  rw [setCell_eq_setRow w p i vs.toArray T (0, 0) u h, setRow_heap w p vs.toArray _ T (0, 0) h]
  simp
theorem Row.keep {w w' : World} {p : Nat} {T : TypeId} {vs : List Value} (h : Row w p T vs) (hb : Below w.heap.size w w') : Row w' p T vs := by
  have hp := h.cells.lt
  unfold Row at *
  rw [hb.block p hp, h]
theorem Row.new (w : World) (T : TypeId) (vs : List Value) : Row (w.alloc (.cells vs.toArray T)) w.heap.size T vs := heap_new w _
theorem wpList_store_row {P : Program} {ops : Array Oper} {rest : List Oper} {o : Oper} {a : Act} {w : World} {Q : Exit → Act → World → Prop} (hgd : o.guard = none) (ty : TypeId) (x y : Operand) (ho : o.op = .store ty x y)
    (g : Nat) (cells : Array Value) (hx : a.eval x = .pointer (some ⟨g, 0, none⟩)) (hy : a.eval y = .agg cells) (t : TypeId) (old : Array Value) (hg : w.heap[g]? = some (.cells old t (0, 0))) (hi : (P.info? ty).map (·.size) = some cells.size)
    (hold : old.size = cells.size) (h1 : cells.all (·.oneCell') = true) (h : wpList P ops Q rest (a.put o.dst undef) (w.setRow g cells)) : wpList P ops Q (o :: rest) a w :=
  wpList_plain hgd fun _ hK => wp_store_row ty x y ho g cells hx hy t old hg hi hold h1 (hK _ _ h)
/-- 64 numbers. -/
def nums (f : Nat → Int) : List Value := (List.range 64).map fun i => Value.int .i64 (f i)
theorem nums_at (f : Nat → Int) {i : Nat} (h : i < 64) : (nums f)[i]? = some (.int .i64 (f i)) := by unfold nums; simp [h]
theorem nums_len (f : Nat → Int) : (nums f).length = 64 := by unfold nums; simp
theorem nums_congr {f f' : Nat → Int} (h : ∀ i, i < 64 → f i = f' i) : nums f = nums f' := by
  unfold nums
  exact List.map_congr_left fun i hi => by rw [h i (by simpa using hi)]
theorem nums_set (f : Nat → Int) (i : Nat) (v : Int) : (nums f).set i (.int .i64 v) = nums fun j => if i = j then v else f j := by
  apply List.ext_getElem?
  intro j
  rw [List.getElem?_set]
  unfold nums
  by_cases h : i = j
  · subst h
    by_cases h2 : i < 64
    · simp [h2]
    · rw [if_pos rfl, if_neg (by simpa using h2), List.getElem?_eq_none (by simp; omega)]
  · rw [if_neg h]
    by_cases h2 : j < 64
    · simp [h2, h]
    · rw [List.getElem?_eq_none (by simp; omega), List.getElem?_eq_none (by simp; omega)]
theorem nums_one (f : Nat → Int) : (nums f).toArray.all (·.oneCell') = true := by
  rw [Array.all_eq_true_iff_forall_mem]
  intro x hx
  unfold nums at hx
  simp at hx
  obtain ⟨i, _, rfl⟩ := hx
  rfl
theorem info_nums : (Tryd.prog.info? 112).map (·.size) = some 64 := by kernel_rfl
theorem NL.put' {B : Nat} {w : World} {A : Option Addr} {l : List Nat} (h : NL B w A l) {g i : Nat} {u : Value} (hg : g < B) : NL B (w.setCell ⟨g, i, none⟩ u) A l :=
  fun k n hk => let ⟨b, o, e1, h1, hlt, hc⟩ := h k n hk; ⟨b, o, e1, h1, by simpa [World.setCell] using hlt, (World.cell?_of_block (a := ⟨b, o + k, none⟩) (Below.heap_setCell w ⟨g, i, none⟩ u b (by simp; omega))).trans hc⟩
/-- Distances, as far as k, of some nodes one further. -/
def away (L : Nat → Nat) (s k : Nat) (l : List Nat) (n : Nat) : Int := if n ∈ l then (k : Int) else distTo L s k n
theorem away_nil (L : Nat → Nat) (s k : Nat) : away L s k [] = distTo L s k := by funext n; unfold away; rw [if_neg (by simp)]
theorem away_snoc (L : Nat → Nat) (s k : Nat) (l : List Nat) (x : Nat) : (fun j => if x = j then (k : Int) else away L s k l j) = away L s k (l ++ [x]) := by
  funext j
  unfold away
  by_cases h : x = j
  · subst h; simp
  · by_cases h2 : j ∈ l
    · simp [h, h2]
    · have : j ≠ x := fun e => h e.symm
      simp [h, h2, this]
theorem away_all (L : Nat → Nat) (s k : Nat) {n : Nat} (hn : n < 64) : away L s k (bitsOf (fr L s k)) n = distTo L s (k + 1) n := by
  unfold away
  rw [distTo_succ]
  by_cases h : n ∈ bitsOf (fr L s k)
  · obtain ⟨_, h1⟩ := mem_bitsOf.1 h
    obtain ⟨h2, h3⟩ := fr_bit.1 h1
    have h4 : distTo L s k n < 0 := distTo_neg.2 h3
    rw [if_pos h, if_neg (by omega), if_pos h2]
  · rw [if_neg h]
    by_cases h1 : 0 ≤ distTo L s k n
    · rw [if_pos h1]
    · rw [if_neg h1]
      have h2 := distTo_neg.1 (show distTo L s k n < 0 by omega)
      have h3 : (lev L s k).testBit n = false := by
        cases e : (lev L s k).testBit n with
        | false => rfl
        | true => exact absurd (mem_bitsOf.2 ⟨hn, fr_bit.2 ⟨e, h2⟩⟩) h
      rw [if_neg (by simp [h3])]
      have := distTo_bd L s k n
      omega
theorem fr_far {L : Nat → Nat} {s k : Nat} (hL : ∀ i, Under 64 (L i)) (hs : Under 64 s) (hk : 65 ≤ k) : fr L s k = 0 := by
  obtain ⟨j, rfl⟩ : ∃ j, k = j + 1 := ⟨k - 1, by omega⟩
  exact fr_same (by rw [lev_full hL hs (j + 1) (by omega), lev_full hL hs j (by omega)])
theorem dist_end {L : Nat → Nat} {s k n : Nat} (hL : ∀ i, Under 64 (L i)) (hs : Under 64 s) (h0 : s ≠ 0) (h : fr L s k = 0) : distTo L s k n = dist L s n := by
  have hk : k ≠ 0 := fun e => by
    subst e
    unfold fr at h
    rw [if_pos rfl] at h
    exact h0 h
  obtain ⟨j, rfl⟩ : ∃ j, k = j + 1 := ⟨k - 1, by omega⟩
  have e : lev L s (j + 1) = lev L s j := by rw [← fr_or, h]; simp
  rcases Nat.le_total (j + 1) 65 with h1 | h1
  · exact (distTo_stay e n h1).symm
  · exact dist_full hL hs (Nat.le_refl 64) n h1
def DistInv (L : Nat → Nat) (s p q C : Nat) (w : World) (fv tv kv : Value) (wr : World) : Prop :=
  ∃ k : Nat, tv = .int .u64 (lev L s k : Nat) ∧ fv = .int .u64 (fr L s k : Nat) ∧ kv = .int .i64 (k : Nat) ∧ k ≤ 65 ∧ Row wr (p + 1 + 1) 112 (nums (distTo L s k)) ∧ Row wr (p + 1) 112 (nums fun _ => 0) ∧ Cells wr q (sets L) ∧ Below C w wr
theorem below_row {C p : Nat} {w w' : World} (h : Below C w w') (hp : C ≤ p) (cs : Array Value) : Below C w (w'.setRow p cs) :=
  h.trans ⟨rfl, rfl, rfl, by simp [World.setRow], fun k hk => setRow_other w' p k cs (by omega)⟩
set_option maxRecDepth 100000 in
set_option maxHeartbeats 8000000 in
theorem distances_any (g : Int) (A : Option Addr) (m c : Nat) (es : List (Nat × Nat)) (to : Nat) (w : World) (h : EL w A m (cast es)) (hl : Low 64 es) (hm : m ≤ 4096) (ht : to < 64) (hw : Good w) :
    Calls Tryd.prog 91 #[gV g A m c, .int .i64 to] w fun e w' => e = .returned (.agg (nums (dist (adjR es) (sing to))).toArray) ∧ Below w.heap.size w w' := by
  have HL : ∀ i, Under 64 (adjR es i) := fun i => adjR_under hl i
  have HU : Under 64 (sing to) := lt_under (k := 64) (sing_lt ht)
  have h0 : sing to ≠ 0 := Nat.ne_of_gt (Nat.pow_pos (by decide))
  obtain ⟨L, hLe⟩ : ∃ L, adjR es = L := ⟨_, rfl⟩
  obtain ⟨s, hse⟩ : ∃ s, sing to = s := ⟨_, rfl⟩
  have kv := (((Below.refl w.heap.size w).alloc (Nat.le_refl _) (.cells #[.int .i64 g, .slice A m c] 26)).alloc (by simp) (.cells (nums fun _ => 0).toArray 112)).alloc (by simp; omega) (.cells (nums fun _ => 0).toArray 112)
  have G0 := ((Cells.new w #[.int .i64 g, .slice A m c] 26).keep ((Below.refl _ _).alloc (Nat.le_refl _) (.cells (nums fun _ => 0).toArray 112))).keep ((Below.refl _ _).alloc (Nat.le_refl _) (.cells (nums fun _ => 0).toArray 112))
  have R1 := (Row.new (w.alloc (.cells #[.int .i64 g, .slice A m c] 26)) 112 (nums fun _ => 0)).keep ((Below.refl _ _).alloc (Nat.le_refl _) (.cells (nums fun _ => 0).toArray 112))
  have R2 := Row.new ((w.alloc (.cells #[.int .i64 g, .slice A m c] 26)).alloc (.cells (nums fun _ => 0).toArray 112)) 112 (nums fun _ => 0)
  have HP := Lib.hid (fun w' (hb : Below w.heap.size w w') => previous_any g A m c es w' (h.keep hb) hl hm)
  rw [hLe] at HP HL ⊢
  rw [hse] at HU h0 ⊢
  obtain ⟨p, hp⟩ : ∃ p, w.heap.size = p := ⟨_, rfl⟩
  simp only [World.size_alloc] at R1 R2
  rw [hp] at R1 R2 G0
  have G0 := Lib.hid G0
  have R1 := Lib.hid R1
  have R2 := Lib.hid R2
  have kv := Lib.hid kv
  have HL := Lib.hid HL
  have HU := Lib.hid HU
  have HW := Lib.hid (fun w' (h : Below w.heap.size w w') => hw.below h hw.size)
  have HSg := Lib.hid (fun w => single_any to w ht)
  rw [hse] at HSg
  clear h hl hw hLe
  go_enter Tryd.func91, Tryd.ntmps91
  go_wp2_with fail
  go_loopw [13] (fun i wr => ∃ k : Nat, i = .int .i64 (k : Nat) ∧ k ≤ 64 ∧ Row wr (p + 1 + 1) 112 (nums fun j => if j < k then -1 else 0) ∧ Row wr (p + 1) 112 (nums fun _ => 0) ∧ Cells wr p [.int .i64 g, .slice A m c] ∧ Below w.heap.size w wr) (fun i _ => 64 - (intOf i).toNat)
  case atStart => exact ⟨0, rfl, Nat.zero_le _, R2.out, R1.out, G0.out, kv.out⟩
  case round =>
    obtain ⟨k, rfl, hk, hr2, hr1, hg0, hb⟩ := hrel
    have X2 := Lib.hid hr2
    have X1 := Lib.hid hr1
    have X0 := Lib.hid hg0
    have XB := Lib.hid hb
    clear hr2 hr1 hg0 hb
    by_cases hlt : k < 64
    · have Hlt := Lib.hid hlt
      have hki : (k : Int) < 64 := by omega
      have z0 := (X2.out.cells.at_ k).trans (nums_at _ hlt)
      have f0 := X2.out.cells.fz k
      obtain ⟨x0, hx0⟩ : ∃ x : Int, (if k < k then (-1 : Int) else 0) = x := ⟨_, rfl⟩
      rw [hx0] at z0
      have Y2 := Lib.hid (X2.out.set k (.int .i64 (-1)))
      rw [nums_set, nums_congr (f' := fun j => if j < k + 1 then -1 else 0) (fun j _ => by by_cases h : k = j <;> by_cases h2 : j < k <;> by_cases h3 : j < k + 1 <;> simp [h, h2, h3] <;> omega)] at Y2
      have Y1 := Lib.hid (show Row (wr.setCell ⟨p + 1 + 1, k, none⟩ (.int .i64 (-1))) (p + 1) 112 (nums fun _ => 0) from (Below.heap_setCell wr ⟨p + 1 + 1, k, none⟩ (.int .i64 (-1)) (p + 1) (by simp)).trans X1.out)
      have Y0 := Lib.hid (X0.out.other (q := p + 1 + 1) (by omega) k (.int .i64 (-1)))
      have YB := Lib.hid (XB.out.setCell (p := ⟨p + 1 + 1, k, none⟩) (by rw [hp]; simp; omega) (.int .i64 (-1)))
      clear hx0
      go_wp2_with fail
      go_roundw
      case rel => exact ⟨k + 1, by go_num, Hlt.out, Y2.out, Y1.out, Y0.out, YB.out⟩
      case measure => simp [intOf]; have := Hlt.out; omega
    · obtain rfl : k = 64 := by omega
      obtain ⟨wa, rfl⟩ : ∃ wa : World, wa = wr := ⟨_, rfl⟩
      have Z2 := X2.out
      rw [nums_congr (f' := distTo L s 0) (fun j hj => by rw [if_pos hj, distTo_zero])] at Z2
      have Z2 := Lib.hid Z2
      have HPa := Lib.hid (HP.out wa XB.out)
      have g0 := X0.out.at_ 0
      have g1 := X0.out.at_ 1
      simp only [List.getElem?_cons_zero, List.getElem?_cons_succ] at g0 g1
      go_wp2_with fail
      refine HPa.out.mono ?_
      rintro e w1 ⟨q, rfl, hq, hqs, hb1⟩
      have D2 := Lib.hid (Z2.out.keep hb1)
      have D1 := Lib.hid (X1.out.keep hb1)
      have Q1 := Lib.hid hq
      have BD := Lib.hid (below_on XB.out hb1)
      have hqp : p + 1 + 1 < q := by have := X2.out.cells.lt; omega
      clear hq hqs hb1 X2 X1 X0 XB Z2 g0 g1
      go_wp2_with fail
      refine (HSg.out _).mono ?_
      rintro e w2 ⟨rfl, rfl⟩
      go_wp2_with fail
      go_loopw [9, 8, 10] (fun fv tv kv wr => DistInv L s p q w.heap.size w fv tv kv wr) (fun fv tv _ _ => 2 * (18446744073709551616 - (intOf tv).toNat) + m01 (intOf fv).toNat)
      case atStart => exact ⟨0, rfl, rfl, rfl, by omega, D2.out, D1.out, Q1.out, BD.out⟩
      case round =>
        obtain ⟨k, rfl, rfl, rfl, hk, hr2, hr1, hq, hb⟩ := hrel
        have X2 := Lib.hid hr2
        have X1 := Lib.hid hr1
        have XQ := Lib.hid hq
        have XB := Lib.hid hb
        have u0 := under_lt (lev_under HL.out HU.out k)
        have u1 := under_lt (lev_under HL.out HU.out (k + 1))
        have u2 : fr L s k < 18446744073709551616 := lt_under'.1 fun v hv => lev_under HL.out HU.out k v (fr_bit.1 hv).1
        have u3 : fr L s (k + 1) < 18446744073709551616 := lt_under'.1 fun v hv => lev_under HL.out HU.out (k + 1) v (fr_bit.1 hv).1
        have hk64 : fr L s k ≠ 0 → k + 1 ≤ 65 := fun h => by
          rcases Nat.lt_or_ge k 65 with h1 | h1
          · omega
          · exact absurd (fr_far HL.out HU.out h1) h
        clear hr2 hr1 hq hb
        obtain ⟨wb, rfl⟩ : ∃ wb : World, wb = wr := ⟨_, rfl⟩
        by_cases h0f : fr L s k = 0
        · have Zf := X2.out
          rw [nums_congr (f' := dist L s) (fun j _ => dist_end HL.out HU.out h0 h0f)] at Zf
          have t0 : ((fr L s k : Int) != 0) = false := by simp [h0f]
          have Zf := Lib.hid Zf
          have Z1 := Lib.hid (show (wb.setRow (p + 1) (nums (dist L s)).toArray).heap[p + 1]? = some (.cells (nums (dist L s)).toArray 112 (0, 0)) from setRow_heap wb (p + 1) _ _ _ _ X1.out)
          have BZ := Lib.hid (below_row (p := p + 1) XB.out (by omega) (nums (dist L s)).toArray)
          clear h0f hk64 u0 u1 u2 u3 X2
          go_wp2_with (first
            | (refine wpList_load_row rfl 112 (.tmp 5) rfl (p + 1 + 1) rfl 112 _ (0, 0) _ Zf.out Tryd.underlying112 rfl (by rw [info_nums]; simp [nums_len]) ?_)
            | (refine wpList_store_row rfl 112 (.tmp 4) (.tmp 47) rfl (p + 1) (nums (dist L s)).toArray rfl rfl 112 _ X1.out (by rw [info_nums]; simp [nums_len]) (by simp [nums_len]) (nums_one _) ?_))
          exact bodyPost_ret (v := .agg (nums (dist L s)).toArray) (results_cell_row rfl _ _ (p + 1) 112 _ (0, 0) _ rfl Z1.out Tryd.underlying112 rfl (by rw [info_nums]; simp [nums_len])) rfl ⟨rfl, BZ.out⟩
        · have t0 := u64_neq _ h0f
          have Hk := Lib.hid (hk64 h0f)
          have H0 := Lib.hid (meas_up (lev_le L s k) u1 h0f (fun e => fr_same e))
          have e1 : bits .andNot .u64 ((stepM L (fr L s k) : Nat) : Int) ((lev L s k : Nat) : Int) = ((fr L s (k + 1) : Nat) : Int) := by
            rw [bits_diff _ _ (lt_under'.1 (step_under HL.out _)) u0, fr_step]
          have e2 : bits .or .u64 ((lev L s k : Nat) : Int) ((fr L s (k + 1) : Nat) : Int) = ((lev L s (k + 1) : Nat) : Int) := by
            rw [bits_or_u64_nat _ _ u0 u3, fr_or]
          have HLs := list_any (fr L s k) wb u2 (HW.out _ XB.out)
          have Hm := Lib.hid (fun i n (hi : (bitsOf (fr L s k))[i]? = some n) => (mem_bitsOf.1 (List.mem_of_getElem? hi)).1)
          have hl64 := bitsOf_len (fr L s k)
          have Hall := Lib.hid (fun n (hn : n < 64) => away_all L s k hn)
          have HSt := Lib.hid (fun w' (hc : Cells w' q (sets L)) (hb : Below w.heap.size w w') => step_any q L (fr L s k) w' hc HL.out u2 (HW.out _ hb))
          obtain ⟨l, hl⟩ : ∃ l, bitsOf (fr L s k) = l := ⟨_, rfl⟩
          rw [hl] at HLs Hm hl64 Hall
          have HLs := Lib.hid HLs
          have hpv := X2.out.cells.lt
          clear h0f hk64 u0 u1 u2 u3 hl
          go_wp2_with fail
          refine HLs.out.mono ?_
          rintro e w3 ⟨v, rfl, hown, hb3⟩
          obtain ⟨A3, c3, rfl, hn3, _, _⟩ := own_nats hown
          have N3 := Lib.hid hn3
          have E2 := Lib.hid (X2.out.keep hb3)
          have E1 := Lib.hid (X1.out.keep hb3)
          have EQ := Lib.hid (XQ.out.keep hb3)
          have EB := Lib.hid (below_on XB.out hb3)
          clear hown hn3 hb3
          go_wp2_with fail
          go_loopw [31] (fun i wr => ∃ j : Nat, i = .int .i64 (j : Nat) ∧ j ≤ l.length ∧ Row wr (p + 1 + 1) 112 (nums (away L s k (l.take j))) ∧ Row wr (p + 1) 112 (nums fun _ => 0) ∧ Cells wr q (sets L) ∧ NL wb.heap.size wr A3 l ∧ Below w.heap.size w wr) (fun i _ => l.length - (intOf i).toNat)
          case atStart => exact ⟨0, rfl, Nat.zero_le _, by rw [List.take_zero, away_nil]; exact E2.out, E1.out, EQ.out, N3.out, EB.out⟩
          case round =>
            obtain ⟨j, rfl, hj, hr2, hr1, hq, hn, hb⟩ := hrel
            have Y2 := Lib.hid hr2
            have Y1 := Lib.hid hr1
            have YQ := Lib.hid hq
            have YN := Lib.hid hn
            have YB := Lib.hid hb
            clear hr2 hr1 hq hn hb
            by_cases hlt : j < l.length
            · obtain ⟨n, b, o, hjn, rfl, _, hbl, hcell⟩ := YN.out.at_ hlt
              have hn64 := Hm.out _ _ hjn
              have hni : (n : Int) < 64 := by omega
              have Hlt := Lib.hid hlt
              have z0 := (Y2.out.cells.at_ n).trans (nums_at _ hn64)
              have f0 := Y2.out.cells.fz n
              obtain ⟨x0, hx0⟩ : ∃ x : Int, away L s k (l.take j) n = x := ⟨_, rfl⟩
              rw [hx0] at z0
              have V2 := Y2.out.set n (.int .i64 (k : Nat))
              rw [nums_set, away_snoc, show l.take j ++ [n] = l.take (j + 1) by rw [List.take_add_one, hjn]; rfl] at V2
              have V2 := Lib.hid V2
              have V1 := Lib.hid (show Row (wr.setCell ⟨p + 1 + 1, n, none⟩ (.int .i64 (k : Nat))) (p + 1) 112 (nums fun _ => 0) from (Below.heap_setCell wr ⟨p + 1 + 1, n, none⟩ (.int .i64 (k : Nat)) (p + 1) (by simp)).trans Y1.out)
              have VQ := Lib.hid (YQ.out.other (q := p + 1 + 1) (by omega) n (.int .i64 (k : Nat)))
              have VN := Lib.hid (YN.out.put' (g := p + 1 + 1) (i := n) (u := .int .i64 (k : Nat)) hpv)
              have VB := Lib.hid (YB.out.setCell (p := ⟨p + 1 + 1, n, none⟩) (by rw [hp]; simp; omega) (.int .i64 (k : Nat)))
              clear hjn hx0
              go_wp2_with fail
              go_roundw
              case rel => exact ⟨j + 1, by go_num, Hlt.out, V2.out, V1.out, VQ.out, VN.out, VB.out⟩
              case measure => simp [intOf]; have := Hlt.out; omega
            · have Yf := Y2.out
              rw [List.take_of_length_le (by omega), nums_congr (f' := distTo L s (k + 1)) (fun n hn => Hall.out n hn)] at Yf
              have Yf := Lib.hid Yf
              have hkb := Hk.out
              go_wp2_with fail
              refine (HSt.out _ YQ.out YB.out).mono ?_
              rintro e w4 ⟨rfl, hb4⟩
              have T2 := Lib.hid (Yf.out.keep hb4)
              have T1 := Lib.hid (Y1.out.keep hb4)
              have TQ := Lib.hid (YQ.out.keep hb4)
              have TB := Lib.hid (below_on YB.out hb4)
              clear hb4
              go_wp2_with fail
              go_roundw
              case rel => exact ⟨k + 1, rfl, rfl, by go_num, Hk.out, T2.out, T1.out, TQ.out, TB.out⟩
              case measure => simpa [intOf] using H0.out
end Go.Proofs.YthocdmlacfejkaaDoor
