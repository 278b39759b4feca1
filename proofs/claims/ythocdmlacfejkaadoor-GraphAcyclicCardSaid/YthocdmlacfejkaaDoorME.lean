/- Graph: Dst, Wlk, Pth, Eq, Nds, Tre. -/
import Derived.Test.YthocdmlacfejkaaDoorMB
import Derived.Deep.WholeRow
import Derived.StillTailTactics
import Derived.Test.YthocdmlacfejkaaDoorMD
namespace Go.Proofs.YthocdmlacfejkaaDoor
open Go.RowKit
/-- A block known whole. -/
def Row (w : World) (p : Nat) (T : TypeId) (vs : List Value) : Prop := w.heap[p]? = some (.cells vs.toArray T (0, 0))
theorem Row.cells {w : World} {p : Nat} {T : TypeId} {vs : List Value} (h : Row w p T vs) : Cells w p vs := by simpa using Cells.of_row h
theorem Row.set {w : World} {p : Nat} {T : TypeId} {vs : List Value} (h : Row w p T vs) (i : Nat) (u : Value) : Row (w.setCell ⟨p, i, none⟩ u) p T (vs.set i u) := by
  unfold Row at *
  rw [setCell_eq_setRow w p i vs.toArray T (0, 0) u h, setRow_heap w p vs.toArray _ T (0, 0) h]
  simp
theorem Row.keep {w w' : World} {p : Nat} {T : TypeId} {vs : List Value} (h : Row w p T vs) (hb : Below w.heap.size w w') : Row w' p T vs := by
  have hp := h.cells.lt
  unfold Row at *
  rw [hb.block p hp, h]
theorem Row.new (w : World) (T : TypeId) (vs : List Value) : Row (w.alloc (.cells vs.toArray T)) w.heap.size T vs := heap_new w _
theorem wpList_store_row {P : Program} {ops : Array Oper} {rest : List Oper} {o : Oper} {a : Act} {w : World} {Q : Exit → Act → World → Prop} (hgd : o.guard = none) (ty : TypeId) (x y : Operand) (ho : o.op = .store ty x y)
    (g : Nat) (cells : Array Value) (hx : a.eval x = .pointer (some ⟨g, 0, none⟩)) (hy : a.eval y = .agg cells) (t : TypeId) (old : Array Value) (hg : w.heap[g]? = some (.cells old t (0, 0))) (hi : (P.info? ty).map (·.size) = some cells.size)
    (hold : old.size = cells.size) (h1 : cells.all (·.oneCell') = true) (h : wpList P ops Q rest (a.put o.dst undef) (w.setRow g cells)) : wpList P ops Q (o :: rest) a w :=
  wpList_plain hgd fun _ hK => wp_store_row ty x y ho g cells hx hy t old hg hi hold h1 (hK _ _ h)
/-- 64 numbers. -/
def nums (f : Nat → Int) : List Value := (List.range 64).map fun i => Value.int .i64 (f i)
theorem nums_at (f : Nat → Int) {i : Nat} (h : i < 64) : (nums f)[i]? = some (.int .i64 (f i)) := by unfold nums; simp [h]
theorem nums_len (f : Nat → Int) : (nums f).length = 64 := by unfold nums; simp
theorem nums_congr {f f' : Nat → Int} (h : ∀ i, i < 64 → f i = f' i) : nums f = nums f' := by
  unfold nums
  exact List.map_congr_left fun i hi => by rw [h i (by simpa using hi)]
theorem nums_set (f : Nat → Int) (i : Nat) (v : Int) : (nums f).set i (.int .i64 v) = nums fun j => if i = j then v else f j := by
  apply List.ext_getElem?
  intro j
  rw [List.getElem?_set]
  unfold nums
  by_cases h : i = j
  · subst h
    by_cases h2 : i < 64
    · simp [h2]
    · rw [if_pos rfl, if_neg (by simpa using h2), List.getElem?_eq_none (by simp; omega)]
  · rw [if_neg h]
    by_cases h2 : j < 64
    · simp [h2, h]
    · rw [List.getElem?_eq_none (by simp; omega), List.getElem?_eq_none (by simp; omega)]
theorem nums_one (f : Nat → Int) : (nums f).toArray.all (·.oneCell') = true := by
  rw [Array.all_eq_true_iff_forall_mem]
  intro x hx
  unfold nums at hx
  simp at hx
  obtain ⟨i, _, rfl⟩ := hx
  rfl
theorem info_nums : (Tryd.prog.info? 112).map (·.size) = some 64 := by kernel_rfl
theorem NL.put' {B : Nat} {w : World} {A : Option Addr} {l : List Nat} (h : NL B w A l) {g i : Nat} {u : Value} (hg : g < B) : NL B (w.setCell ⟨g, i, none⟩ u) A l :=
  fun k n hk => let ⟨b, o, e1, h1, hlt, hc⟩ := h k n hk; ⟨b, o, e1, h1, by simpa [World.setCell] using hlt, (World.cell?_of_block (a := ⟨b, o + k, none⟩) (Below.heap_setCell w ⟨g, i, none⟩ u b (by simp; omega))).trans hc⟩
/-- Distances, as far as k, of some nodes one further. -/
def away (L : Nat → Nat) (s k : Nat) (l : List Nat) (n : Nat) : Int := if n ∈ l then (k : Int) else distTo L s k n
theorem away_nil (L : Nat → Nat) (s k : Nat) : away L s k [] = distTo L s k := by funext n; unfold away; rw [if_neg (by simp)]
theorem away_snoc (L : Nat → Nat) (s k : Nat) (l : List Nat) (x : Nat) : (fun j => if x = j then (k : Int) else away L s k l j) = away L s k (l ++ [x]) := by
  funext j
  unfold away
  by_cases h : x = j
  · subst h; simp
  · by_cases h2 : j ∈ l
    · simp [h, h2]
    · have : j ≠ x := fun e => h e.symm
      simp [h, h2, this]
theorem away_all (L : Nat → Nat) (s k : Nat) {n : Nat} (hn : n < 64) : away L s k (bitsOf (fr L s k)) n = distTo L s (k + 1) n := by
  unfold away
  rw [distTo_succ]
  by_cases h : n ∈ bitsOf (fr L s k)
  · obtain ⟨_, h1⟩ := mem_bitsOf.1 h
    obtain ⟨h2, h3⟩ := fr_bit.1 h1
    have h4 : distTo L s k n < 0 := distTo_neg.2 h3
    rw [if_pos h, if_neg (by omega), if_pos h2]
  · rw [if_neg h]
    by_cases h1 : 0 ≤ distTo L s k n
    · rw [if_pos h1]
    · rw [if_neg h1]
      have h2 := distTo_neg.1 (show distTo L s k n < 0 by omega)
      have h3 : (lev L s k).testBit n = false := by
        cases e : (lev L s k).testBit n with
        | false => rfl
        | true => exact absurd (mem_bitsOf.2 ⟨hn, fr_bit.2 ⟨e, h2⟩⟩) h
      rw [if_neg (by simp [h3])]
      have := distTo_bd L s k n
      omega
theorem fr_far {L : Nat → Nat} {s k : Nat} (hL : ∀ i, Under 64 (L i)) (hs : Under 64 s) (hk : 65 ≤ k) : fr L s k = 0 := by
  obtain ⟨j, rfl⟩ : ∃ j, k = j + 1 := ⟨k - 1, by omega⟩
  exact fr_same (by rw [lev_full hL hs (j + 1) (by omega), lev_full hL hs j (by omega)])
theorem dist_end {L : Nat → Nat} {s k n : Nat} (hL : ∀ i, Under 64 (L i)) (hs : Under 64 s) (h0 : s ≠ 0) (h : fr L s k = 0) : distTo L s k n = dist L s n := by
  have hk : k ≠ 0 := fun e => by
    subst e
    unfold fr at h
    rw [if_pos rfl] at h
    exact h0 h
  obtain ⟨j, rfl⟩ : ∃ j, k = j + 1 := ⟨k - 1, by omega⟩
  have e : lev L s (j + 1) = lev L s j := by rw [← fr_or, h]; simp
  rcases Nat.le_total (j + 1) 65 with h1 | h1
  · exact (distTo_stay e n h1).symm
  · exact dist_full hL hs (Nat.le_refl 64) n h1
def DistInv (L : Nat → Nat) (s p q C : Nat) (w : World) (fv tv kv : Value) (wr : World) : Prop :=
  ∃ k : Nat, tv = .int .u64 (lev L s k : Nat) ∧ fv = .int .u64 (fr L s k : Nat) ∧ kv = .int .i64 (k : Nat) ∧ k ≤ 65 ∧ Row wr (p + 1 + 1) 112 (nums (distTo L s k)) ∧ Row wr (p + 1) 112 (nums fun _ => 0) ∧ Cells wr q (sets L) ∧ Below C w wr
theorem below_row {C p : Nat} {w w' : World} (h : Below C w w') (hp : C ≤ p) (cs : Array Value) : Below C w (w'.setRow p cs) :=
  h.trans ⟨rfl, rfl, rfl, by simp [World.setRow], fun k hk => setRow_other w' p k cs (by omega)⟩
set_option maxRecDepth 100000 in
set_option maxHeartbeats 8000000 in
theorem distances_any (g : Int) (A : Option Addr) (m c : Nat) (es : List (Nat × Nat)) (tgt : Nat) (w : World) (h : EL w A m (cast es)) (hl : Low 64 es) (hm : m ≤ 4096) (ht : tgt < 64) (hw : Good w) :
    Calls Tryd.prog 91 #[gV g A m c, .int .i64 tgt] w fun e w' => e = .returned (.agg (nums (dist (adjR es) (sing tgt))).toArray) ∧ Below w.heap.size w w' := by
  have HL : ∀ i, Under 64 (adjR es i) := fun i => adjR_under hl i
  have HU : Under 64 (sing tgt) := lt_under (k := 64) (sing_lt ht)
  have h0 : sing tgt ≠ 0 := Nat.ne_of_gt (Nat.pow_pos (by decide))
  obtain ⟨L, hLe⟩ : ∃ L, adjR es = L := ⟨_, rfl⟩
  obtain ⟨s, hse⟩ : ∃ s, sing tgt = s := ⟨_, rfl⟩
  have kv := (((Below.refl w.heap.size w).alloc (Nat.le_refl _) (.cells #[.int .i64 g, .slice A m c] 26)).alloc (by simp) (.cells (nums fun _ => 0).toArray 112)).alloc (by simp; omega) (.cells (nums fun _ => 0).toArray 112)
  have G0 := ((Cells.new w #[.int .i64 g, .slice A m c] 26).keep ((Below.refl _ _).alloc (Nat.le_refl _) (.cells (nums fun _ => 0).toArray 112))).keep ((Below.refl _ _).alloc (Nat.le_refl _) (.cells (nums fun _ => 0).toArray 112))
  have R1 := (Row.new (w.alloc (.cells #[.int .i64 g, .slice A m c] 26)) 112 (nums fun _ => 0)).keep ((Below.refl _ _).alloc (Nat.le_refl _) (.cells (nums fun _ => 0).toArray 112))
  have R2 := Row.new ((w.alloc (.cells #[.int .i64 g, .slice A m c] 26)).alloc (.cells (nums fun _ => 0).toArray 112)) 112 (nums fun _ => 0)
  have HP := Lib.hid (fun w' (hb : Below w.heap.size w w') => previous_any g A m c es w' (h.keep hb) hl hm)
  rw [hLe] at HP HL ⊢
  rw [hse] at HU h0 ⊢
  obtain ⟨p, hp⟩ : ∃ p, w.heap.size = p := ⟨_, rfl⟩
  simp only [World.size_alloc] at R1 R2
  rw [hp] at R1 R2 G0
  have G0 := Lib.hid G0
  have R1 := Lib.hid R1
  have R2 := Lib.hid R2
  have kv := Lib.hid kv
  have HL := Lib.hid HL
  have HU := Lib.hid HU
  have HW := Lib.hid (fun w' (h : Below w.heap.size w w') => hw.below h hw.size)
  have HSg := Lib.hid (fun w => single_any tgt w ht)
  rw [hse] at HSg
  clear h hl hw hLe
  go_enter Tryd.func91, Tryd.ntmps91
  go_wp2_with fail
  go_loopw [13] (fun i wr => ∃ k : Nat, i = .int .i64 (k : Nat) ∧ k ≤ 64 ∧ Row wr (p + 1 + 1) 112 (nums fun j => if j < k then -1 else 0) ∧ Row wr (p + 1) 112 (nums fun _ => 0) ∧ Cells wr p [.int .i64 g, .slice A m c] ∧ Below w.heap.size w wr) (fun i _ => 64 - (intOf i).toNat)
  case atStart => exact ⟨0, rfl, Nat.zero_le _, R2.out, R1.out, G0.out, kv.out⟩
  case round =>
    obtain ⟨k, rfl, hk, hr2, hr1, hg0, hb⟩ := hrel
    have X2 := Lib.hid hr2
    have X1 := Lib.hid hr1
    have X0 := Lib.hid hg0
    have XB := Lib.hid hb
    clear hr2 hr1 hg0 hb
    by_cases hlt : k < 64
    · have Hlt := Lib.hid hlt
      have hki : (k : Int) < 64 := by omega
      have z0 := (X2.out.cells.at_ k).trans (nums_at _ hlt)
      have f0 := X2.out.cells.fz k
      obtain ⟨x0, hx0⟩ : ∃ x : Int, (if k < k then (-1 : Int) else 0) = x := ⟨_, rfl⟩
      rw [hx0] at z0
      have Y2 := Lib.hid (X2.out.set k (.int .i64 (-1)))
      rw [nums_set, nums_congr (f' := fun j => if j < k + 1 then -1 else 0) (fun j _ => by by_cases h : k = j <;> by_cases h2 : j < k <;> by_cases h3 : j < k + 1 <;> simp [h, h2, h3] <;> omega)] at Y2
      have Y1 := Lib.hid (show Row (wr.setCell ⟨p + 1 + 1, k, none⟩ (.int .i64 (-1))) (p + 1) 112 (nums fun _ => 0) from (Below.heap_setCell wr ⟨p + 1 + 1, k, none⟩ (.int .i64 (-1)) (p + 1) (by simp)).trans X1.out)
      have Y0 := Lib.hid (X0.out.other (q := p + 1 + 1) (by omega) k (.int .i64 (-1)))
      have YB := Lib.hid (XB.out.setCell (p := ⟨p + 1 + 1, k, none⟩) (by rw [hp]; simp; omega) (.int .i64 (-1)))
      clear hx0
      go_wp2_with fail
      go_roundw
      case rel => exact ⟨k + 1, by go_num, Hlt.out, Y2.out, Y1.out, Y0.out, YB.out⟩
      case measure => simp [intOf]; have := Hlt.out; omega
    · obtain rfl : k = 64 := by omega
      obtain ⟨wa, rfl⟩ : ∃ wa : World, wa = wr := ⟨_, rfl⟩
      have Z2 := X2.out
      rw [nums_congr (f' := distTo L s 0) (fun j hj => by rw [if_pos hj, distTo_zero])] at Z2
      have Z2 := Lib.hid Z2
      have HPa := Lib.hid (HP.out wa XB.out)
      have g0 := X0.out.at_ 0
      have g1 := X0.out.at_ 1
      simp only [List.getElem?_cons_zero, List.getElem?_cons_succ] at g0 g1
      go_wp2_with fail
      refine HPa.out.mono ?_
      rintro e w1 ⟨q, rfl, hq, hqs, hb1⟩
      have D2 := Lib.hid (Z2.out.keep hb1)
      have D1 := Lib.hid (X1.out.keep hb1)
      have Q1 := Lib.hid hq
      have BD := Lib.hid (below_on XB.out hb1)
      have hqp : p + 1 + 1 < q := by have := X2.out.cells.lt; omega
      clear hq hqs hb1 X2 X1 X0 XB Z2 g0 g1
      go_wp2_with fail
      refine (HSg.out _).mono ?_
      rintro e w2 ⟨rfl, rfl⟩
      go_wp2_with fail
      go_loopw [9, 8, 10] (fun fv tv kv wr => DistInv L s p q w.heap.size w fv tv kv wr) (fun fv tv _ _ => 2 * (18446744073709551616 - (intOf tv).toNat) + m01 (intOf fv).toNat)
      case atStart => exact ⟨0, rfl, rfl, rfl, by omega, D2.out, D1.out, Q1.out, BD.out⟩
      case round =>
        obtain ⟨k, rfl, rfl, rfl, hk, hr2, hr1, hq, hb⟩ := hrel
        have X2 := Lib.hid hr2
        have X1 := Lib.hid hr1
        have XQ := Lib.hid hq
        have XB := Lib.hid hb
        have u0 := under_lt (lev_under HL.out HU.out k)
        have u1 := under_lt (lev_under HL.out HU.out (k + 1))
        have u2 : fr L s k < 18446744073709551616 := lt_under'.1 fun v hv => lev_under HL.out HU.out k v (fr_bit.1 hv).1
        have u3 : fr L s (k + 1) < 18446744073709551616 := lt_under'.1 fun v hv => lev_under HL.out HU.out (k + 1) v (fr_bit.1 hv).1
        have hk64 : fr L s k ≠ 0 → k + 1 ≤ 65 := fun h => by
          rcases Nat.lt_or_ge k 65 with h1 | h1
          · omega
          · exact absurd (fr_far HL.out HU.out h1) h
        clear hr2 hr1 hq hb
        obtain ⟨wb, rfl⟩ : ∃ wb : World, wb = wr := ⟨_, rfl⟩
        by_cases h0f : fr L s k = 0
        · have Zf := X2.out
          rw [nums_congr (f' := dist L s) (fun j _ => dist_end HL.out HU.out h0 h0f)] at Zf
          have t0 : ((fr L s k : Int) != 0) = false := by simp [h0f]
          have Zf := Lib.hid Zf
          have Z1 := Lib.hid (show (wb.setRow (p + 1) (nums (dist L s)).toArray).heap[p + 1]? = some (.cells (nums (dist L s)).toArray 112 (0, 0)) from setRow_heap wb (p + 1) _ _ _ _ X1.out)
          have BZ := Lib.hid (below_row (p := p + 1) XB.out (by omega) (nums (dist L s)).toArray)
          clear h0f hk64 u0 u1 u2 u3 X2
          go_wp2_with (first
            | (refine wpList_load_row rfl 112 (.tmp 5) rfl (p + 1 + 1) rfl 112 _ (0, 0) _ Zf.out Tryd.underlying112 rfl (by rw [info_nums]; simp [nums_len]) ?_)
            | (refine wpList_store_row rfl 112 (.tmp 4) (.tmp 47) rfl (p + 1) (nums (dist L s)).toArray rfl rfl 112 _ X1.out (by rw [info_nums]; simp [nums_len]) (by simp [nums_len]) (nums_one _) ?_))
          exact bodyPost_ret (v := .agg (nums (dist L s)).toArray) (results_cell_row rfl _ _ (p + 1) 112 _ (0, 0) _ rfl Z1.out Tryd.underlying112 rfl (by rw [info_nums]; simp [nums_len])) rfl ⟨rfl, BZ.out⟩
        · have t0 := u64_neq _ h0f
          have Hk := Lib.hid (hk64 h0f)
          have H0 := Lib.hid (meas_up (lev_le L s k) u1 h0f (fun e => fr_same e))
          have e1 : bits .andNot .u64 ((stepM L (fr L s k) : Nat) : Int) ((lev L s k : Nat) : Int) = ((fr L s (k + 1) : Nat) : Int) := by
            rw [bits_diff _ _ (lt_under'.1 (step_under HL.out _)) u0, fr_step]
          have e2 : bits .or .u64 ((lev L s k : Nat) : Int) ((fr L s (k + 1) : Nat) : Int) = ((lev L s (k + 1) : Nat) : Int) := by
            rw [bits_or_u64_nat _ _ u0 u3, fr_or]
          have HLs := list_any (fr L s k) wb u2 (HW.out _ XB.out)
          have Hm := Lib.hid (fun i n (hi : (bitsOf (fr L s k))[i]? = some n) => (mem_bitsOf.1 (List.mem_of_getElem? hi)).1)
          have hl64 := bitsOf_len (fr L s k)
          have Hall := Lib.hid (fun n (hn : n < 64) => away_all L s k hn)
          have HSt := Lib.hid (fun w' (hc : Cells w' q (sets L)) (hb : Below w.heap.size w w') => step_any q L (fr L s k) w' hc HL.out u2 (HW.out _ hb))
          obtain ⟨l, hl⟩ : ∃ l, bitsOf (fr L s k) = l := ⟨_, rfl⟩
          rw [hl] at HLs Hm hl64 Hall
          have HLs := Lib.hid HLs
          have hpv := X2.out.cells.lt
          clear h0f hk64 u0 u1 u2 u3 hl
          go_wp2_with fail
          refine HLs.out.mono ?_
          rintro e w3 ⟨v, rfl, hown, hb3⟩
          obtain ⟨A3, c3, rfl, hn3, _, _⟩ := own_nats hown
          have N3 := Lib.hid hn3
          have E2 := Lib.hid (X2.out.keep hb3)
          have E1 := Lib.hid (X1.out.keep hb3)
          have EQ := Lib.hid (XQ.out.keep hb3)
          have EB := Lib.hid (below_on XB.out hb3)
          clear hown hn3 hb3
          go_wp2_with fail
          go_loopw [31] (fun i wr => ∃ j : Nat, i = .int .i64 (j : Nat) ∧ j ≤ l.length ∧ Row wr (p + 1 + 1) 112 (nums (away L s k (l.take j))) ∧ Row wr (p + 1) 112 (nums fun _ => 0) ∧ Cells wr q (sets L) ∧ NL wb.heap.size wr A3 l ∧ Below w.heap.size w wr) (fun i _ => l.length - (intOf i).toNat)
          case atStart => exact ⟨0, rfl, Nat.zero_le _, by rw [List.take_zero, away_nil]; exact E2.out, E1.out, EQ.out, N3.out, EB.out⟩
          case round =>
            obtain ⟨j, rfl, hj, hr2, hr1, hq, hn, hb⟩ := hrel
            have Y2 := Lib.hid hr2
            have Y1 := Lib.hid hr1
            have YQ := Lib.hid hq
            have YN := Lib.hid hn
            have YB := Lib.hid hb
            clear hr2 hr1 hq hn hb
            by_cases hlt : j < l.length
            · obtain ⟨n, b, o, hjn, rfl, _, hbl, hcell⟩ := YN.out.at_ hlt
              have hn64 := Hm.out _ _ hjn
              have hni : (n : Int) < 64 := by omega
              have Hlt := Lib.hid hlt
              have z0 := (Y2.out.cells.at_ n).trans (nums_at _ hn64)
              have f0 := Y2.out.cells.fz n
              obtain ⟨x0, hx0⟩ : ∃ x : Int, away L s k (l.take j) n = x := ⟨_, rfl⟩
              rw [hx0] at z0
              have V2 := Y2.out.set n (.int .i64 (k : Nat))
              rw [nums_set, away_snoc, show l.take j ++ [n] = l.take (j + 1) by rw [List.take_add_one, hjn]; rfl] at V2
              have V2 := Lib.hid V2
              have V1 := Lib.hid (show Row (wr.setCell ⟨p + 1 + 1, n, none⟩ (.int .i64 (k : Nat))) (p + 1) 112 (nums fun _ => 0) from (Below.heap_setCell wr ⟨p + 1 + 1, n, none⟩ (.int .i64 (k : Nat)) (p + 1) (by simp)).trans Y1.out)
              have VQ := Lib.hid (YQ.out.other (q := p + 1 + 1) (by omega) n (.int .i64 (k : Nat)))
              have VN := Lib.hid (YN.out.put' (g := p + 1 + 1) (i := n) (u := .int .i64 (k : Nat)) hpv)
              have VB := Lib.hid (YB.out.setCell (p := ⟨p + 1 + 1, n, none⟩) (by rw [hp]; simp; omega) (.int .i64 (k : Nat)))
              clear hjn hx0
              go_wp2_with fail
              go_roundw
              case rel => exact ⟨j + 1, by go_num, Hlt.out, V2.out, V1.out, VQ.out, VN.out, VB.out⟩
              case measure => simp [intOf]; have := Hlt.out; omega
            · have Yf := Y2.out
              rw [List.take_of_length_le (by omega), nums_congr (f' := distTo L s (k + 1)) (fun n hn => Hall.out n hn)] at Yf
              have Yf := Lib.hid Yf
              have hkb := Hk.out
              go_wp2_with fail
              refine (HSt.out _ YQ.out YB.out).mono ?_
              rintro e w4 ⟨rfl, hb4⟩
              have T2 := Lib.hid (Yf.out.keep hb4)
              have T1 := Lib.hid (Y1.out.keep hb4)
              have TQ := Lib.hid (YQ.out.keep hb4)
              have TB := Lib.hid (below_on YB.out hb4)
              clear hb4
              go_wp2_with fail
              go_roundw
              case rel => exact ⟨k + 1, rfl, rfl, by go_num, Hk.out, T2.out, T1.out, TQ.out, TB.out⟩
              case measure => simpa [intOf] using H0.out
end Go.Proofs.YthocdmlacfejkaaDoor
namespace Go.Proofs.YthocdmlacfejkaaDoor
open Go.RowKit
/-- The first way down. -/
def wayM (L : Nat → Nat) (f : Nat → Int) : Nat → Nat → List Nat
  | 0, a => [a]
  | d + 1, a => a :: wayM L f d (((bitsOf (L a)).find? (fun n => f n == (d : Int))).getD a)
theorem wayM_len (L : Nat → Nat) (f : Nat → Int) : ∀ (d a : Nat), (wayM L f d a).length = d + 1
  | 0, _ => rfl
  | d + 1, a => by rw [wayM, List.length_cons, wayM_len L f d]
theorem wayM_head (L : Nat → Nat) (f : Nat → Int) (d a : Nat) : wayM L f d a = a :: (wayM L f d a).drop 1 := by
  cases d <;> rfl
theorem find_at {α : Type} {p : α → Bool} {l : List α} {j : Nat} {n : α} (h : ∀ x ∈ l.take j, p x = false) (hj : l[j]? = some n) (hn : p n = true) : l.find? p = some n := by
  have hlt : j < l.length := by
    rcases Nat.lt_or_ge j l.length with h1 | h1
    · exact h1
    · rw [List.getElem?_eq_none h1] at hj; cases hj
  rw [← List.take_append_drop j l, List.find?_append, List.find?_eq_none.2 (fun x hx => by simp [h x hx]), List.drop_eq_getElem_cons hlt]
  rw [List.getElem?_eq_getElem hlt] at hj
  injection hj with hj
  rw [hj]
  simp [hn]
theorem own_one {C : Nat} (w : World) (a : Nat) (hC : C ≤ w.heap.size) : (w.alloc (.cells #[.int .i64 (a : Nat)] 3)).ownsRow C 3 1 (.slice (some ⟨w.heap.size, 0, none⟩) 1 1) [a].length (nats [a]) :=
  ⟨rfl, .inr ⟨w.heap.size, 1, #[.int .i64 (a : Nat)], rfl, hC, heap_new w _, Nat.le_refl _, by unfold maxLen; omega, rfl, rfl⟩⟩
theorem own_below {w w' : World} {C n : Nat} {e : TypeId} {v : Value} {xs : List Value} (h : w.ownsRow C e 1 v n xs) (hb : Below w.heap.size w w') : w'.ownsRow C e 1 v n xs :=
  h.kept (row := none) ⟨hb.os, hb.tape, hb.output, hb.size, fun k hk _ => hb.block k hk⟩ (by cases v.ownBlock <;> simp)
theorem own_drew {w : World} {C n : Nat} {e : TypeId} {v : Value} {xs : List Value} (h : w.ownsRow C e 1 v n xs) : w.drew.ownsRow C e 1 v n xs := own_below h (Below.refl _ _).drew
theorem own_down' {w : World} {B C : Nat} {e : TypeId} {v : Value} {n : Nat} {xs : List Value} (h : w.ownsRow B e 1 v n xs) (hC : C ≤ B) : w.ownsRow C e 1 v n xs :=
  ⟨h.1, h.2.imp id fun ⟨g, cap, cur, e, hg, r⟩ => ⟨g, cap, cur, e, Nat.le_trans hC hg, r⟩⟩
theorem Cells.of_blk {w w' : World} {p : Nat} {vs : List Value} (h : Cells w p vs) (hb : w'.heap[p]? = w.heap[p]?) (hs : w.heap.size ≤ w'.heap.size) : Cells w' p vs :=
  ⟨fun i => (World.cell?_of_block (a := ⟨p, i, none⟩) hb).trans (h.at_ i), fun i => (World.frozen?_of_block (a := ⟨p, i, none⟩) hb).trans (h.fz i), Nat.lt_of_lt_of_le h.lt hs⟩
theorem no_up {α : Type} {p : α → Bool} {l : List α} {j : Nat} {n : α} (h : ∀ x ∈ l.take j, p x = false) (hj : l[j]? = some n) (hn : p n = false) : ∀ x ∈ l.take (j + 1), p x = false := by
  rw [List.take_add_one, hj]
  intro x hx
  rcases List.mem_append.1 hx with h1 | h1
  · exact h x h1
  · have e : x = n := by simpa using h1
    rw [e]; exact hn
def WayInv (L : Nat → Nat) (f : Nat → Int) (d a D C q p : Nat) (w : World) (av pv : Value) (wr : World) : Prop :=
  ∃ (d' a' : Nat) (pre : List Nat), av = .int .i64 (a' : Nat) ∧ a' < 64 ∧ d' ≤ d ∧ f a' = (d' : Int) ∧ pre ++ (wayM L f d' a').drop 1 = wayM L f d a ∧ wr.ownsRow D 3 1 pv pre.length (nats pre) ∧ Below C w wr ∧ Cells wr q (sets L) ∧ Cells wr p (nums f)
theorem way_len {L : Nat → Nat} {f : Nat → Int} {d d' a a' : Nat} {pre : List Nat} (h : pre ++ (wayM L f d' a').drop 1 = wayM L f d a) : pre.length ≤ d + 1 := by
  have := congrArg List.length h
  rw [List.length_append, wayM_len] at this
  omega
theorem way_step {L : Nat → Nat} {f : Nat → Int} {d k a a' n : Nat} {pre : List Nat} (h : pre ++ (wayM L f (k + 1) a').drop 1 = wayM L f d a) (hn : (bitsOf (L a')).find? (fun n => f n == (k : Int)) = some n) : (pre ++ [n]) ++ (wayM L f k n).drop 1 = wayM L f d a := by
  rw [← h, wayM, hn, Option.getD_some, List.drop_succ_cons, List.drop_zero, List.append_assoc]
  congr 1
  exact (wayM_head L f k n).symm
set_option maxRecDepth 100000 in
set_option maxHeartbeats 8000000 in
theorem walk_any (g : Int) (A : Option Addr) (m c : Nat) (es : List (Nat × Nat)) (f : Nat → Int) (a d : Nat) (w : World) (h : EL w A m (cast es)) (hl : Low 64 es) (hm : m ≤ 4096) (ha : a < 64) (hd : f a = (d : Int)) (hd64 : d ≤ 64) (hdown : ∀ a k, a < 64 → f a = ((k + 1 : Nat) : Int) → ∃ n, n ∈ bitsOf (adj es a) ∧ f n = (k : Int)) (hf : ∀ n, -1 ≤ f n ∧ f n ≤ 65) (hw : Good w) :
    Calls Tryd.prog 92 #[gV g A m c, .agg (nums f).toArray, .int .i64 a] w fun e w' => ∃ v, e = .returned v ∧ w'.ownsRow w.heap.size 3 1 v (wayM (adj es) f d a).length (nats (wayM (adj es) f d a)) ∧ Below w.heap.size w w' := by
  obtain ⟨i0, hi0, hz0, hz1, hz2⟩ := info_parts info_int
  have HL : ∀ i, Under 64 (adj es i) := fun i => adj_under hl i
  have HN := Lib.hid (fun w' (hb : Below w.heap.size w w') => next_any g A m c es w' (h.keep hb) hl hm)
  obtain ⟨L, hLe⟩ : ∃ L, adj es = L := ⟨_, rfl⟩
  rw [hLe] at HN HL hdown ⊢
  have kv := ((Below.refl w.heap.size w).alloc (Nat.le_refl _) (.cells #[.int .i64 g, .slice A m c] 26)).alloc (by simp) (.cells (nums f).toArray 112)
  have F0 := Cells.new (w.alloc (.cells #[.int .i64 g, .slice A m c] 26)) (nums f).toArray 112
  simp only [World.size_alloc] at F0
  have HW := Lib.hid (fun w' (h : Below w.heap.size w w') => hw.below h hw.size)
  have HL := Lib.hid HL
  have Hdown := Lib.hid hdown
  have Hf := Lib.hid hf
  have Hd := Lib.hid hd
  have kv := Lib.hid kv
  have F0 := Lib.hid F0
  clear h hl hw hLe hdown hf hd
  go_enter Tryd.func92, Tryd.ntmps92
  go_wp2_with fail
  refine (HN.out _ kv.out).mono ?_
  rintro e w1 ⟨q, rfl, hq, hqs, hb1⟩
  have Q1 := Lib.hid hq
  have F1 := Lib.hid (F0.out.keep hb1)
  have B1 := Lib.hid (below_on kv.out hb1)
  have hsz := B1.out.size
  clear hq hqs hb1
  have O1 := Lib.hid (own_one (C := w1.heap.size) w1 a (Nat.le_refl _))
  have hq1 := Q1.out.lt
  have hp1 := F1.out.lt
  have Bx := (Below.refl w1.heap.size w1).alloc (Nat.le_refl _) (.cells #[.int .i64 (a : Nat)] 3)
  have Q2 := Lib.hid (Q1.out.keep Bx)
  have F2 := Lib.hid (F1.out.keep Bx)
  have B2 := Lib.hid (below_on B1.out Bx)
  clear Bx
  go_wp2_with fail
  go_loopw [2, 8] (fun av pv wr => WayInv L f d a w1.heap.size w.heap.size q (w.heap.size + 1) w av pv wr ∧ w1.heap.size ≤ wr.heap.size) (fun av _ _ => (f (intOf av).toNat).toNat)
  case atStart => exact ⟨⟨d, a, [a], rfl, ha, Nat.le_refl _, Hd.out, (wayM_head L f d a).symm, O1.out, B2.out, Q2.out, F2.out⟩, by simp⟩
  case round =>
    obtain ⟨⟨d', a', pre, rfl, ha', hdd, hfa, hpre, hown, hb, hq, hff⟩, hw1r⟩ := hrel
    have Own := Lib.hid hown
    have Hb := Lib.hid hb
    have Hq := Lib.hid hq
    have Hff := Lib.hid hff
    have Hpre := Lib.hid hpre
    have hplen := way_len hpre
    have hai : (a' : Int) < 64 := by omega
    have z0 := (hff.at_ a').trans (nums_at _ ha')
    rw [hfa] at z0
    have Hfa := Lib.hid hfa
    have hsr := hb.size
    clear hown hb hq hff hpre hfa
    cases d' with
    | zero =>
      have hfin := Hpre.out
      rw [wayM, List.drop_succ_cons, List.drop_zero, List.append_nil] at hfin
      have Of := Own.out
      rw [hfin] at Of
      have Of := Lib.hid (own_down' Of hsz)
      clear hfin
      go_wp2_with fail
      go_ret
      exact ⟨_, rfl, Of.out, Hb.out⟩
    | succ k =>
      have hk0 : (0 : Int) < ((k + 1 : Nat) : Int) := by omega
      have a1 := (Hq.out.at_ a').trans (sets_at L ha')
      have HLs := list_any (L a') wr (under_lt (HL.out a')) (HW.out _ Hb.out)
      have Hm := Lib.hid (fun i n (hi : (bitsOf (L a'))[i]? = some n) => (mem_bitsOf.1 (List.mem_of_getElem? hi)).1)
      have hl64 := bitsOf_len (L a')
      have Hex := Hdown.out a' k ha' Hfa.out
      have Hst := Lib.hid (fun n => way_step (n := n) Hpre.out)
      obtain ⟨l, hl⟩ : ∃ l, bitsOf (L a') = l := ⟨_, rfl⟩
      rw [hl] at HLs Hm hl64 Hex Hst
      have HLs := Lib.hid HLs
      have Hex := Lib.hid Hex
      obtain ⟨wa, rfl⟩ : ∃ wa : World, wa = wr := ⟨_, rfl⟩
      clear hl
      go_wp2_with fail
      refine HLs.out.mono ?_
      rintro e w3 ⟨v, rfl, hown, hb3⟩
      obtain ⟨A3, c3, rfl, hn3, _, _⟩ := own_nats hown
      have N3 := Lib.hid hn3
      have Own3 := Lib.hid (own_below Own.out hb3)
      have E3 := Lib.hid (below_on Hb.out hb3)
      have EQ := Lib.hid (Hq.out.keep hb3)
      have EF := Lib.hid (Hff.out.keep hb3)
      have hsz3 := hb3.size
      clear hown hn3 hb3 z0 a1
      go_wp2_with fail
      go_loopw [26, 2] (fun i av wr => av = .int .i64 (a' : Nat) ∧ ∃ j : Nat, i = .int .i64 (j : Nat) ∧ j ≤ l.length ∧ (∀ x ∈ l.take j, (f x == (k : Int)) = false) ∧ w1.heap.size ≤ wr.heap.size ∧ wr.ownsRow w1.heap.size 3 1 u8 pre.length (nats pre) ∧ Below w.heap.size w wr ∧ Cells wr q (sets L) ∧ Cells wr (w.heap.size + 1) (nums f) ∧ NL wa.heap.size wr A3 l) (fun i _ _ => l.length - (intOf i).toNat)
      case atStart => exact ⟨rfl, 0, rfl, Nat.zero_le _, by simp, by omega, Own3.out, E3.out, EQ.out, EF.out, N3.out⟩
      case round =>
        obtain ⟨rfl, j, rfl, hj, hno, hwr4, hown, hb, hq, hff, hn⟩ := hrel
        have Hno := Lib.hid hno
        have O4 := Lib.hid hown
        have B4 := Lib.hid hb
        have Q4 := Lib.hid hq
        have F4 := Lib.hid hff
        have N4 := Lib.hid hn
        have hs4 := hb.size
        clear hno hown hb hq hff hn
        by_cases hlt : j < l.length
        · obtain ⟨n, b, o, hjn, rfl, _, hbl, hcell⟩ := N4.out.at_ hlt
          have hn64 := Hm.out _ _ hjn
          have hni : (n : Int) < 64 := by omega
          have Hlt := Lib.hid hlt
          have z1 := (F4.out.at_ n).trans (nums_at _ hn64)
          have z0 := (F4.out.at_ a').trans (nums_at _ ha')
          rw [Hfa.out] at z0
          have hb1 := Hf.out n
          have ek : IntKind.i64.wrap (((k + 1 : Nat) : Int) - 1) = (k : Int) := by rw [show ((k + 1 : Nat) : Int) - 1 = (k : Int) by omega]; exact IntWalk.i64_in _ (by omega)
          obtain ⟨x1, hx1⟩ : ∃ x, f n = x := ⟨_, rfl⟩
          rw [hx1] at z1 hb1
          by_cases hz : x1 = (k : Int)
          · subst hz
            have Hfind := Lib.hid (Hst.out n (find_at Hno.out hjn (by rw [hx1]; simp)))
            have Hx1 := Lib.hid hx1
            clear hjn hx1
            go_wp2_with fail
            go_still_tail 7, (by kernel_rfl)
            change wpList _ _ _ _ _ wr.drew
            go_wp2_with (at_builtin; refine wpList_append_own _ rfl _ _ 50 rfl w1.heap.size 3 i0 (.int .i64 0) 1 8 Tryd.underlying50 hi0 hz0 hz1 hz2 rfl (by decide) _ _ _ rfl ((own_drew O4.out).alloc _) ⟨wr.heap.size, 0, none⟩ 1 1 [.int .i64 (n : Nat)] rfl rfl ?c1 ?c2 ?c3 ?c4 ?c5 ?_)
            case c1 =>
              intro k u hu
              match k, hu with
              | 0, hu => simp at hu; subst hu; simp [Addr.add]
            case c2 => intro u hu; simp at hu; subst hu; rfl
            case c3 => unfold maxLen; omega
            case c4 => omega
            case c5 => simp; omega
            intro v' w6 hown' hgrow _
            have O6 := Lib.hid (show w6.ownsRow w1.heap.size 3 1 v' (pre ++ [n]).length (nats (pre ++ [n])) by rw [nats_snoc, List.length_append]; exact hown')
            have hbw : Below w1.heap.size wr w6 := (((Below.refl w1.heap.size wr).drew).alloc hwr4 _).grown hgrow (by simp; omega) (fun k hk => own_ge O4.out hk)
            have B6 := Lib.hid (B4.out.trans (hbw.mono hsz))
            have Q6 := Lib.hid (Q4.out.of_blk (hbw.block q hq1) hbw.size)
            have F6 := Lib.hid (F4.out.of_blk (hbw.block (w.heap.size + 1) hp1) hbw.size)
            have hs6 := hbw.size
            clear hown' hgrow hbw
            go_wp2_with fail
            go_roundw
            case rel => exact ⟨⟨k, n, pre ++ [n], rfl, hn64, by omega, Hx1.out, Hfind.out, O6.out, B6.out, Q6.out, F6.out⟩, by omega⟩
            case measure => simp [intOf, Hx1.out, Hfa.out]
          · have tz : (x1 == (k : Int)) = false := by simpa using hz
            have Hnn := Lib.hid (no_up (p := fun x => f x == (k : Int)) Hno.out hjn (by rw [hx1]; exact tz))
            clear hjn hx1 hz
            go_wp2_with fail
            go_still_tail 7, (by kernel_rfl)
            change wpList _ _ _ _ _ wr.drew
            go_wp2_with fail
            go_roundw
            case rel => exact ⟨rfl, j + 1, by go_num, Hlt.out, Hnn.out, by simpa using hwr4, own_drew O4.out, B4.out.drew, Q4.out.drew, F4.out.drew, N4.out.keep (Below.refl _ _).drew⟩
            case measure => simp [intOf]; have := Hlt.out; omega
        · obtain ⟨n, hn1, hn2⟩ := Hex.out
          have := Hno.out n (by rw [List.take_of_length_le (by omega)]; exact hn1)
          rw [hn2] at this
          simp at this
end Go.Proofs.YthocdmlacfejkaaDoor
namespace Go.Proofs.YthocdmlacfejkaaDoor
open Go.RowKit
theorem wpList_store_new {P : Program} {ops : Array Oper} {rest : List Oper} {o : Oper} {a : Act} {w : World} {Q : Exit → Act → World → Prop} (hgd : o.guard = none) (ty : TypeId) (x y : Operand) (ho : o.op = .store ty x y)
    (cells : Array Value) (T : TypeId) (old : Array Value) (hx : a.eval x = .pointer (some ⟨w.heap.size, 0, none⟩)) (hy : a.eval y = .agg cells) (hi : (P.info? ty).map (·.size) = some cells.size)
    (hold : old.size = cells.size) (h1 : cells.all (·.oneCell') = true) (h : wpList P ops Q rest (a.put o.dst undef) (w.alloc (.cells cells T))) : wpList P ops Q (o :: rest) a (w.alloc (.cells old T)) :=
  wpList_store_row hgd ty x y ho w.heap.size cells hx hy T old (heap_new w _) hi hold h1 (by rw [World.setRow_alloc_new]; exact h)
theorem dist_down {es : List (Nat × Nat)} (_hl : Low 64 es) {s a k : Nat} (h : dist (adjR es) s a = ((k + 1 : Nat) : Int)) : ∃ n, n ∈ bitsOf (adj es a) ∧ dist (adjR es) s n = (k : Int) := by
  obtain ⟨h1, h2, h3⟩ := distTo_iff.1 h
  have h4 := h3 k (Nat.lt_succ_self k)
  rw [lev, Nat.testBit_or, h4, Bool.false_or] at h2
  obtain ⟨n, hn, h5, h6⟩ := step_bit.1 h2
  have he := adjR_bit.1 h6
  refine ⟨n, mem_bitsOf.2 ⟨hn, adj_bit.2 he⟩, distTo_iff.2 ⟨by omega, h5, fun i hi => ?_⟩⟩
  cases e : (lev (adjR es) s i).testBit n with
  | false => rfl
  | true =>
    have : (lev (adjR es) s (i + 1)).testBit a = true := by
      rw [lev, Nat.testBit_or, Bool.or_eq_true, step_bit]
      exact .inr ⟨n, hn, e, h6⟩
    rw [h3 (i + 1) (by omega)] at this
    cases this
theorem dist_bd (L : Nat → Nat) (s n : Nat) : -1 ≤ dist L s n ∧ dist L s n ≤ 65 := by
  have := distTo_bd L s 65 n
  unfold dist
  omega
/-- A graph without an error. -/
structure Fine (n : Nat) (es : List (Nat × Nat)) : Prop where
  check : checkG (n : Int) (cast es) = 0
  low : Low n es
  n64 : n ≤ 64
  len : es.length ≤ 4096
theorem Fine.low64 {n : Nat} {es : List (Nat × Nat)} (h : Fine n es) : Low 64 es := fun e he => ⟨Nat.lt_of_lt_of_le (h.low e he).1 h.n64, Nat.lt_of_lt_of_le (h.low e he).2 h.n64⟩
theorem cast_len (es : List (Nat × Nat)) : (cast es).length = es.length := by unfold cast; simp
theorem EL.len {w : World} {A : Option Addr} {m : Nat} {es : List (Nat × Nat)} (h : EL w A m (cast es)) : es.length = m := by rw [← cast_len]; exact h.1
theorem fine_of {n : Int} {es : List (Int × Int)} (h : checkG n es = 0) : ∃ (k : Nat) (l : List (Nat × Nat)), n = k ∧ es = cast l ∧ Fine k l := by
  have h0 := h
  unfold checkG at h
  by_cases h1 : n < 0 ∨ 64 < n
  · rw [if_pos h1] at h; cases h
  · rw [if_neg h1] at h
    by_cases h2 : n * n < es.length
    · rw [if_pos h2] at h; cases h
    · rw [if_neg h2] at h
      by_cases h3 : es.all (okE n) = false
      · rw [if_pos h3] at h; cases h
      · rw [Bool.not_eq_false, List.all_eq_true] at h3
        have h4 : ∀ e ∈ es, 0 ≤ e.1 ∧ e.1 < n ∧ 0 ≤ e.2 ∧ e.2 < n := fun e he => by
          have := h3 e he
          simp only [okE, Bool.and_eq_true, decide_eq_true_eq] at this
          omega
        have hc : es = cast (es.map fun e => (e.1.toNat, e.2.toNat)) := by
          unfold cast
          rw [List.map_map]
          conv => lhs; rw [← List.map_id es]
          apply List.map_congr_left
          intro e he
          obtain ⟨a, _, b, _⟩ := h4 e he
          obtain ⟨x, y⟩ := e
          simp at a b ⊢
          omega
        obtain ⟨q0, q1⟩ := sq_bd (n := n) (by omega) (by omega)
        refine ⟨n.toNat, _, by omega, hc, ?_, ?_, by omega, by rw [List.length_map]; omega⟩
        · rw [← hc, show ((n.toNat : Nat) : Int) = n by omega]; exact h0
        · intro e he
          obtain ⟨x, hx, rfl⟩ := List.mem_map.1 he
          have := h4 x hx
          exact ⟨by simp; omega, by simp; omega⟩
set_option maxRecDepth 100000 in
set_option maxHeartbeats 8000000 in
theorem path_no (n : Nat) (A : Option Addr) (m c : Nat) (es : List (Nat × Nat)) (a b : Nat) (w : World) (h : EL w A m (cast es)) (hg : Fine n es) (ha : a < n) (hb : b < n) (hd : dist (adjR es) (sing b) a < 0) (hw : Good w) :
    Calls Tryd.prog 36 #[gV n A m c, .int .i64 a, .int .i64 b] w fun e w' => e = .returned (.tuple #[.slice none 0 0, .int .i64 10]) ∧ Below w.heap.size w w' := by
  have hlen := h.len
  have hm : m ≤ 4096 := by have := hg.len; omega
  have hn64 := hg.n64
  have kv := (Below.refl w.heap.size w).alloc (Nat.le_refl _) (.cells #[.int .i64 (n : Nat), .slice A m c] 26)
  have G0 := Lib.hid (Cells.new w #[.int .i64 (n : Nat), .slice A m c] 26)
  have HC := check_any (n : Int) A m c (cast es) (w.alloc (.cells #[.int .i64 (n : Nat), .slice A m c] 26)) (h.keep kv) (by omega)
  rw [hg.check] at HC
  have HC := Lib.hid HC
  have HD := Lib.hid (fun w' (hb' : Below w.heap.size w w') => distances_any n A m c es b w' (h.keep hb') hg.low64 hm (by omega) (hw.below hb' hw.size))
  have kv := Lib.hid kv
  obtain ⟨D, hD⟩ : ∃ D, dist (adjR es) (sing b) = D := ⟨_, rfl⟩
  rw [hD] at HD hd
  have t1 : decide ((a : Int) < 0) = false := decide_eq_false (by omega)
  have t2 : decide ((n : Int) ≤ (a : Int)) = false := decide_eq_false (by omega)
  have t3 : decide ((b : Int) < 0) = false := decide_eq_false (by omega)
  have t4 : decide ((n : Int) ≤ (b : Int)) = false := decide_eq_false (by omega)
  have hai : (a : Int) < 64 := by omega
  have ha64 : a < 64 := by omega
  clear h hg hw hD hlen
  go_enter Tryd.func36, Tryd.ntmps36
  go_wp2_with fail
  refine HC.out.mono ?_
  rintro e w1 ⟨rfl, hb1⟩
  have G1 := Lib.hid (G0.out.keep hb1)
  have B1 := Lib.hid (below_on kv.out hb1)
  have g0 := G1.out.at_ 0
  have g1 := G1.out.at_ 1
  simp only [List.getElem?_cons_zero, List.getElem?_cons_succ] at g0 g1
  clear hb1
  go_wp2_with fail
  refine (HD.out _ B1.out).mono ?_
  rintro e w2 ⟨rfl, hb2⟩
  have B2 := Lib.hid (below_on B1.out hb2)
  have R2 := Lib.hid (Cells.new w2 (nums D).toArray 112)
  have z0 := (R2.out.at_ a).trans (by simpa using nums_at D ha64)
  have B3 := Lib.hid (B2.out.alloc B2.out.size (.cells (nums D).toArray 112))
  have td : decide (D a < 0) = true := decide_eq_true hd
  clear hb2 g0 g1
  go_wp2_with (refine wpList_store_new rfl 112 (.tmp 9) (.tmp 35) rfl (nums D).toArray 112 _ rfl rfl (by rw [info_nums]; simp [nums_len]) (by simp [nums_len]) (nums_one _) ?_)
  go_ret2
  exact ⟨rfl, B3.out⟩
set_option maxRecDepth 100000 in
set_option maxHeartbeats 8000000 in
theorem path_yes (n : Nat) (A : Option Addr) (m c : Nat) (es : List (Nat × Nat)) (a b d : Nat) (w : World) (h : EL w A m (cast es)) (hg : Fine n es) (ha : a < n) (hb : b < n) (hd : dist (adjR es) (sing b) a = (d : Int)) (hw : Good w) :
    Calls Tryd.prog 36 #[gV n A m c, .int .i64 a, .int .i64 b] w fun e w' => ∃ v, e = .returned (.tuple #[v, .int .i64 0]) ∧ w'.ownsRow w.heap.size 3 1 v (wayM (adj es) (dist (adjR es) (sing b)) d a).length (nats (wayM (adj es) (dist (adjR es) (sing b)) d a)) ∧ Below w.heap.size w w' := by
  have hlen := h.len
  have hm : m ≤ 4096 := by have := hg.len; omega
  have hn64 := hg.n64
  have hd64 : d ≤ 64 := by have := distTo_bd (adjR es) (sing b) 65 a; unfold dist at hd; omega
  have kv := (Below.refl w.heap.size w).alloc (Nat.le_refl _) (.cells #[.int .i64 (n : Nat), .slice A m c] 26)
  have G0 := Lib.hid (Cells.new w #[.int .i64 (n : Nat), .slice A m c] 26)
  have HC := check_any (n : Int) A m c (cast es) (w.alloc (.cells #[.int .i64 (n : Nat), .slice A m c] 26)) (h.keep kv) (by omega)
  rw [hg.check] at HC
  have HC := Lib.hid HC
  have HD := Lib.hid (fun w' (hb' : Below w.heap.size w w') => distances_any n A m c es b w' (h.keep hb') hg.low64 hm (by omega) (hw.below hb' hw.size))
  have HWk := Lib.hid (fun w' (hb' : Below w.heap.size w w') => walk_any n A m c es (dist (adjR es) (sing b)) a d w' (h.keep hb') hg.low64 hm (by omega) hd hd64 (fun _ _ _ hk => dist_down hg.low64 hk) (dist_bd _ _) (hw.below hb' hw.size))
  have kv := Lib.hid kv
  obtain ⟨D, hD⟩ : ∃ D, dist (adjR es) (sing b) = D := ⟨_, rfl⟩
  rw [hD] at HD hd HWk ⊢
  have Hdd := Lib.hid hd
  have t1 : decide ((a : Int) < 0) = false := decide_eq_false (by omega)
  have t2 : decide ((n : Int) ≤ (a : Int)) = false := decide_eq_false (by omega)
  have t3 : decide ((b : Int) < 0) = false := decide_eq_false (by omega)
  have t4 : decide ((n : Int) ≤ (b : Int)) = false := decide_eq_false (by omega)
  have hai : (a : Int) < 64 := by omega
  have ha64 : a < 64 := by omega
  clear h hg hw hD hlen hd
  go_enter Tryd.func36, Tryd.ntmps36
  go_wp2_with fail
  refine HC.out.mono ?_
  rintro e w1 ⟨rfl, hb1⟩
  have G1 := Lib.hid (G0.out.keep hb1)
  have B1 := Lib.hid (below_on kv.out hb1)
  have g0 := G1.out.at_ 0
  have g1 := G1.out.at_ 1
  simp only [List.getElem?_cons_zero, List.getElem?_cons_succ] at g0 g1
  clear hb1
  go_wp2_with fail
  refine (HD.out _ B1.out).mono ?_
  rintro e w2 ⟨rfl, hb2⟩
  have B2 := Lib.hid (below_on B1.out hb2)
  have R2 := Lib.hid (Row.new w2 112 (nums D))
  have z0 := (R2.out.cells.at_ a).trans (nums_at D ha64)
  rw [Hdd.out] at z0
  have B3 := Lib.hid (B2.out.alloc B2.out.size (.cells (nums D).toArray 112))
  have G3 := Lib.hid ((G1.out.keep hb2).keep ((Below.refl _ _).alloc (Nat.le_refl _) (.cells (nums D).toArray 112)))
  obtain ⟨w3, hw3⟩ : ∃ u, w2.alloc (.cells (nums D).toArray 112) = u := ⟨_, rfl⟩
  obtain ⟨p3, hp3⟩ : ∃ p, w2.heap.size = p := ⟨_, rfl⟩
  rw [hw3] at R2 z0 B3 G3
  rw [hp3] at R2 z0
  have td : decide ((d : Int) < 0) = false := decide_eq_false (by omega)
  have h0 := G3.out.at_ 0
  have h1 := G3.out.at_ 1
  simp only [List.getElem?_cons_zero, List.getElem?_cons_succ] at h0 h1
  clear hb2 g0 g1
  go_wp2_with (first
    | (refine wpList_store_new rfl 112 (.tmp 9) (.tmp 35) rfl (nums D).toArray 112 _ (by first | rfl | (rw [hp3]; rfl)) rfl (by rw [info_nums]; simp [nums_len]) (by simp [nums_len]) (nums_one _) ?_; rw [hw3])
    | (refine wpList_load_row rfl 112 (.tmp 9) rfl p3 rfl 112 _ (0, 0) _ R2.out Tryd.underlying112 rfl (by rw [info_nums]; simp [nums_len]) ?_))
  refine (HWk.out _ B3.out).mono ?_
  rintro e w4 ⟨v, rfl, hown, hb4⟩
  have O4 := Lib.hid (own_down' hown B3.out.size)
  have B4 := Lib.hid (below_on B3.out hb4)
  clear hown hb4
  go_wp2_with fail
  go_ret2
  exact ⟨_, rfl, O4.out, B4.out⟩
end Go.Proofs.YthocdmlacfejkaaDoor
namespace Go.Proofs.YthocdmlacfejkaaDoor
open Go.RowKit
/-- A slice of ints. -/
def IL (w : World) (A : Option Addr) (l : List Int) : Prop :=
  ∀ k x, l[k]? = some x → ∃ b o, A = some ⟨b, o, none⟩ ∧ b < w.heap.size ∧ w.cell? ⟨b, o + k, none⟩ = some (.int .i64 x)
theorem IL.keep {w w' : World} {A : Option Addr} {l : List Int} (h : IL w A l) (hb : Below w.heap.size w w') : IL w' A l :=
  fun k x hk => let ⟨b, o, e1, hlt, hc⟩ := h k x hk; ⟨b, o, e1, Nat.lt_of_lt_of_le hlt hb.size, (hb.cell (p := ⟨b, o + k, none⟩) hlt).trans hc⟩
/-- Nodes, as ints. -/
def zs (l : List Nat) : List Int := l.map Int.ofNat
theorem zs_len (l : List Nat) : (zs l).length = l.length := by unfold zs; simp
theorem zs_inj : ∀ {a b : List Nat}, zs a = zs b → a = b
  | [], [], _ => rfl
  | [], _ :: _, h => by cases h
  | _ :: _, [], h => by cases h
  | x :: a, y :: b, h => by
    unfold zs at h
    simp only [List.map_cons, List.cons.injEq] at h
    obtain ⟨h1, h2⟩ := h
    rw [zs_inj (a := a) (b := b) h2, Int.ofNat.inj h1]
theorem NL.il {B : Nat} {w : World} {A : Option Addr} {l : List Nat} (h : NL B w A l) : IL w A (zs l) := by
  intro k x hk
  unfold zs at hk
  rw [List.getElem?_map] at hk
  cases e : l[k]? with
  | none => rw [e] at hk; cases hk
  | some n =>
    rw [e] at hk
    injection hk with hk
    obtain ⟨b, o, h1, _, h2, h3⟩ := h k n e
    exact ⟨b, o, h1, h2, by rw [h3, ← hk]; rfl⟩
theorem IL.flat {w : World} {A : Option Addr} {l : List Int} (h : IL w A l) (hl : 0 < l.length) : ∃ b o, A = some ⟨b, o, none⟩ ∧ ∀ j, j < l.length → w.cell? ⟨b, o + j, none⟩ = some (.int .i64 (l.getD j 0)) := by
  obtain ⟨b, o, e, _, _⟩ := h 0 _ (List.getElem?_eq_getElem hl)
  refine ⟨b, o, e, fun j hj => ?_⟩
  obtain ⟨b', o', e', _, hc⟩ := h j _ (List.getElem?_eq_getElem hj)
  rw [e] at e'
  injection e' with e'
  injection e' with e1 e2
  subst e1 e2
  rw [hc]
  simp [List.getD, hj]
theorem equal_any (A B : Option Addr) (c d : Nat) (xs ys : List Int) (w : World) (hx : IL w A xs) (hy : IL w B ys) (hxl : xs.length ≤ 1000000) (hyl : ys.length ≤ 1000000) :
    Calls Tryd.prog 41 #[.slice A xs.length c, .slice B ys.length d] w fun e w' => e = .returned (.bool (xs == ys)) ∧ Below w.heap.size w w' := by
  by_cases hl : xs.length = ys.length
  · by_cases h0 : xs.length = 0
    · have e1 : xs = [] := List.eq_nil_of_length_eq_zero h0
      have e2 : ys = [] := List.eq_nil_of_length_eq_zero (by omega)
      subst e1 e2
      exact (Tryd.slices_Equal_int_empty A B c 0 d w (by decide)).mono fun e w' ⟨h1, h2⟩ => ⟨h1, by rw [h2]; exact Below.refl _ _⟩
    · obtain ⟨b1, o1, rfl, h1⟩ := hx.flat (by omega)
      obtain ⟨b2, o2, rfl, h2⟩ := hy.flat (by omega)
      refine (Tryd.slices_Equal_int b1 o1 xs.length c b2 o2 ys.length d xs ys w (Nat.le_refl _) (Nat.le_refl _) (by omega) (by omega) h1 h2).mono fun e w' ⟨h3, q, h4⟩ => ⟨?_, ?_⟩
      · rw [h3, List.take_length, List.take_length]
      · rw [h4]; exact below_drewN (Below.refl _ _) q
  · refine (Tryd.slices_Equal_int_lens A B xs.length c ys.length d w hl).mono fun e w' ⟨h1, h2⟩ => ⟨?_, by rw [h2]; exact Below.refl _ _⟩
    rw [h1]
    have : (xs == ys) = false := by
      rw [beq_eq_false_iff_ne]
      intro e
      exact hl (by rw [e])
    rw [this]
set_option maxRecDepth 100000 in
set_option maxHeartbeats 2000000 in
theorem equalF_any (B1 B2 : Nat) (A B : Option Addr) (c d : Nat) (xs ys : List (List Nat)) (w : World) (hx : LL B1 w A xs) (hy : LL B2 w B ys) (hxl : xs.length ≤ 1000000) (_hyl : ys.length ≤ 1000000) (hxs : ∀ l ∈ xs, l.length ≤ 1000000) (hys : ∀ l ∈ ys, l.length ≤ 1000000) :
    Calls Tryd.prog 97 #[.slice A xs.length c, .slice B ys.length d, .func (.func 41) #[] #[]] w fun e w' => e = .returned (.bool (xs == ys)) ∧ Below w.heap.size w w' := by
  have Hx := Lib.hid hx
  have Hy := Lib.hid hy
  have Hxs := Lib.hid hxs
  have Hys := Lib.hid hys
  clear hx hy hxs hys
  by_cases hl : xs.length = ys.length
  · have t0 : ((xs.length : Int) != (ys.length : Int)) = false := by simp [hl]
    obtain ⟨r, hr⟩ : ∃ r, (xs == ys) = r := ⟨_, rfl⟩
    have Hr := Lib.hid hr
    rw [hr]
    have hl1 := Nat.le_of_eq hl
    have hl2 := Nat.le_of_eq hl.symm
    obtain ⟨n, hn⟩ : ∃ n, xs.length = n := ⟨_, rfl⟩
    obtain ⟨m, hm⟩ : ∃ m, ys.length = m := ⟨_, rfl⟩
    have Hn := Lib.hid hn
    have Hm := Lib.hid hm
    have Hl := Lib.hid hl
    rw [hn, hm] at t0 hl1 hl2
    rw [hn] at hxl
    rw [hm] at _hyl
    rw [hn, hm]
    clear hr hn hm hl
    go_enter Tryd.func97, Tryd.ntmps97
    go_wp2_with fail
    go_loopw [17] (fun i wr => ∃ k : Nat, i = .int .i64 (k : Nat) ∧ k ≤ n ∧ xs.take k = ys.take k ∧ Below w.heap.size w wr) (fun i _ => n - (intOf i).toNat)
    case atStart => exact ⟨0, rfl, Nat.zero_le _, by simp, Below.refl _ _⟩
    case round =>
      obtain ⟨k, rfl, hk, he, hb⟩ := hrel
      have He := Lib.hid he
      have Hb := Lib.hid hb
      clear he hb
      by_cases hlt : k < n
      · obtain ⟨x, b, o, Ak, ck, hxk, rfl, _, hbl, hc1, hn1⟩ := (Hx.out.keep Hb.out).at_ (show k < xs.length by rw [Hn.out]; exact hlt)
        obtain ⟨y, b', o', Bk, dk, hyk, rfl, _, hbl', hc2, hn2⟩ := (Hy.out.keep Hb.out).at_ (show k < ys.length by rw [Hm.out]; omega)
        have HE := Lib.hid (equal_any Ak Bk ck dk (zs x) (zs y) wr hn1.il hn2.il (by rw [zs_len]; exact Hxs.out x (List.mem_of_getElem? hxk)) (by rw [zs_len]; exact Hys.out y (List.mem_of_getElem? hyk)))
        rw [zs_len, zs_len] at HE
        have hlx : (x.length : Int) ≤ 1000000 := by have := Hxs.out x (List.mem_of_getElem? hxk); omega
        have hly : (y.length : Int) ≤ 1000000 := by have := Hys.out y (List.mem_of_getElem? hyk); omega
        have Hlt := Lib.hid hlt
        have Hxk := Lib.hid hxk
        have Hyk := Lib.hid hyk
        have hkm : k < m := by omega
        clear hxk hyk hn1 hn2
        by_cases hxy : x = y
        · subst hxy
          rw [show (zs x == zs x) = true by simp] at HE
          go_wp2_with fail
          refine HE.out.mono ?_
          rintro e w2 ⟨rfl, hb2⟩
          have B2 := Lib.hid (below_on Hb.out hb2)
          clear hb2
          go_wp2_with fail
          go_roundw
          case rel => exact ⟨k + 1, by go_num, Hlt.out, by rw [List.take_add_one, List.take_add_one, He.out, Hxk.out, Hyk.out], B2.out⟩
          case measure => simp [intOf]; have := Hlt.out; omega
        · have hz : (zs x == zs y) = false := by
            rw [beq_eq_false_iff_ne]
            intro e
            exact hxy (zs_inj e)
          rw [hz] at HE
          have Hf := Lib.hid (show r = false by
            rw [← Hr.out, beq_eq_false_iff_ne]
            intro e
            have h1 := Hxk.out
            rw [e, Hyk.out] at h1
            injection h1 with h1
            exact hxy h1.symm)
          clear hxy hz
          go_wp2_with fail
          refine HE.out.mono ?_
          rintro e w2 ⟨rfl, hb2⟩
          have B2 := Lib.hid (below_on Hb.out hb2)
          clear hb2
          go_wp2_with fail
          go_ret
          exact ⟨ret_bool Hf.out.symm, B2.out⟩
      · have Hf := Lib.hid (show r = true by
          have h1 := He.out
          rw [List.take_of_length_le (by rw [Hn.out]; omega), List.take_of_length_le (by rw [Hm.out]; omega)] at h1
          rw [← Hr.out, h1]; simp)
        go_wp2_with fail
        go_ret
        exact ⟨ret_bool Hf.out.symm, Hb.out⟩
  · have t0 : ((xs.length : Int) != (ys.length : Int)) = true := by simp; omega
    have hz : (xs == ys) = false := by
      rw [beq_eq_false_iff_ne]
      intro e
      exact hl (by rw [e])
    rw [hz]
    clear hz hl
    go_enter Tryd.func97, Tryd.ntmps97
    go_wp2_with fail
    go_ret
    exact ⟨rfl, Below.refl _ _⟩
theorem lawLists_any (B1 B2 : Nat) (A B : Option Addr) (c d : Nat) (xs ys : List (List Nat)) (w : World) (hx : LL B1 w A xs) (hy : LL B2 w B ys) (hxl : xs.length ≤ 1000000) (hyl : ys.length ≤ 1000000) (hxs : ∀ l ∈ xs, l.length ≤ 1000000) (hys : ∀ l ∈ ys, l.length ≤ 1000000) :
    Calls Tryd.prog 43 #[.slice A xs.length c, .slice B ys.length d] w fun e w' => e = .returned (.bool (xs == ys)) ∧ Below w.heap.size w w' := by
  have HE := Lib.hid (equalF_any B1 B2 A B c d xs ys w hx hy hxl hyl hxs hys)
  clear hx hy hxs hys
  go_enter Tryd.func43, Tryd.ntmps43
  go_wp2_with fail
  refine HE.out.mono ?_
  rintro e w2 ⟨rfl, hb⟩
  have B2 := Lib.hid hb
  clear hb
  go_wp2_with fail
  go_ret
  exact ⟨rfl, B2.out⟩
end Go.Proofs.YthocdmlacfejkaaDoor
namespace Go.Proofs.YthocdmlacfejkaaDoor
open Go.RowKit
theorem IL.at_ {w : World} {A : Option Addr} {l : List Int} (h : IL w A l) {k : Nat} (hk : k < l.length) : ∃ x b o, l[k]? = some x ∧ A = some ⟨b, o, none⟩ ∧ b < w.heap.size ∧ w.cell? ⟨b, o + k, none⟩ = some (.int .i64 x) := by
  obtain ⟨b, o, e, hb⟩ := h k l[k] (List.getElem?_eq_getElem hk)
  exact ⟨_, b, o, List.getElem?_eq_getElem hk, e, hb⟩
def inN (n : Nat) (x : Int) : Bool := decide (0 ≤ x) && decide (x < n)
def incL : List Int → Bool
  | a :: b :: l => decide (a < b) && incL (b :: l)
  | _ => true
theorem incL_iff : ∀ (l : List Int), incL l = true ↔ ∀ i a b, l[i]? = some a → l[i + 1]? = some b → a < b
  | [] => by simp [incL]
  | [x] => by simp [incL]
  | x :: y :: l => by
    rw [incL, Bool.and_eq_true, decide_eq_true_eq, incL_iff (y :: l)]
    constructor
    · rintro ⟨h1, h2⟩ i a b ha hb
      cases i with
      | zero => simp at ha hb; subst ha hb; exact h1
      | succ i => exact h2 i a b (by simpa using ha) (by simpa using hb)
    · intro h
      exact ⟨h 0 x y rfl rfl, fun i a b ha hb => h (i + 1) a b (by simpa using ha) (by simpa using hb)⟩
/-- The first error of a list of nodes. -/
def errN (n : Nat) (l : List Int) : Int := if l.all (inN n) = false then 2 else if incL l = false then 8 else 0
def setI (l : List Int) : Nat := l.foldl (fun s x => s ||| sing x.toNat) 0
theorem setI_snoc (l : List Int) (x : Int) : setI (l ++ [x]) = setI l ||| sing x.toNat := by unfold setI; simp
theorem setI_lt {l : List Int} (h : l.all (inN 64) = true) : setI l < 18446744073709551616 := by
  unfold setI
  have : ∀ (l : List Int) (s : Nat), l.all (inN 64) = true → s < 18446744073709551616 → l.foldl (fun s x => s ||| sing x.toNat) s < 18446744073709551616 := by
    intro l
    induction l with
    | nil => intro s _ h; exact h
    | cons x l ih =>
      intro s h hs
      rw [List.all_cons, Bool.and_eq_true] at h
      have hx := h.1
      simp only [inN, Bool.and_eq_true, decide_eq_true_eq] at hx
      exact ih _ h.2 (or_lt hs (sing_lt (by omega)))
  exact this l 0 h (by decide)
theorem all_mono {n : Nat} (hn : n ≤ 64) {l : List Int} (h : l.all (inN n) = true) : l.all (inN 64) = true := by
  rw [List.all_eq_true] at h ⊢
  intro x hx
  have := h x hx
  simp only [inN, Bool.and_eq_true, decide_eq_true_eq] at this ⊢
  omega
def NdsPost (n : Nat) (l : List Int) (w : World) (e : Ending) (w' : World) : Prop :=
  ((errN n l ≠ 0 ∧ e = .returned (.tuple #[.int .u64 0, .int .i64 (errN n l)])) ∨ (errN n l = 0 ∧ e = .returned (.tuple #[.int .u64 (setI l : Nat), .int .i64 0]))) ∧ Below w.heap.size w w'
theorem nds_bad {n : Nat} {l : List Int} {x : Int} {k : Nat} (hk : l[k]? = some x) (hx : inN n x = false) : errN n l = 2 := by
  unfold errN
  rw [if_pos]
  rw [List.all_eq_false]
  exact ⟨x, List.mem_of_getElem? hk, by simp [hx]⟩
theorem nds_order {n k : Nat} {l : List Int} {x y : Int} (h : l.all (inN n) = true) (hx : l[k]? = some x) (hy : l[k + 1]? = some y) (hxy : y ≤ x) : errN n l = 8 := by
  unfold errN
  rw [if_neg (by simp [h]), if_pos]
  cases e : incL l with
  | false => rfl
  | true => have := (incL_iff l).1 e k x y hx hy; omega
theorem nds_ok {n k : Nat} {l : List Int} (h : l.all (inN n) = true) (hk : l.length ≤ k) (ho : ∀ i a b, i + 1 < k → l[i]? = some a → l[i + 1]? = some b → a < b) : errN n l = 0 := by
  unfold errN
  rw [if_neg (by simp [h]), if_neg]
  rw [Bool.not_eq_false, incL_iff]
  intro i a b ha hb
  refine ho i a b ?_ ha hb
  rcases Nat.lt_or_ge (i + 1) l.length with h4 | h4
  · omega
  · rw [List.getElem?_eq_none h4] at hb; cases hb
theorem nds_up {k : Nat} {l : List Int} {a b : Int} (h0 : 0 < k) (ha : l[k - 1]? = some a) (hb : l[k]? = some b) (hc : a < b) (ho : ∀ i a b, i + 1 < k → l[i]? = some a → l[i + 1]? = some b → a < b) :
    ∀ i a b, i + 1 < k + 1 → l[i]? = some a → l[i + 1]? = some b → a < b := by
  intro i x y hi hx hy
  by_cases h : i + 1 = k
  · obtain rfl : i = k - 1 := by omega
    rw [ha] at hx
    rw [h, hb] at hy
    injection hx with hx
    injection hy with hy
    subst hx hy
    exact hc
  · exact ho i x y (by omega) hx hy
set_option maxRecDepth 100000 in
set_option maxHeartbeats 8000000 in
theorem checkNodes_any (n : Nat) (A : Option Addr) (m c : Nat) (es : List (Nat × Nat)) (B : Option Addr) (d : Nat) (l : List Int) (w : World) (h : EL w A m (cast es)) (hg : Fine n es) (hl : IL w B l) (hll : l.length ≤ 1000000) :
    Calls Tryd.prog 78 #[gV n A m c, .slice B l.length d] w (NdsPost n l w) := by
  have hm : m ≤ 4096 := by have := hg.len; have := h.len; omega
  have hn64 := hg.n64
  have kv := (Below.refl w.heap.size w).alloc (Nat.le_refl _) (.cells #[.int .i64 (n : Nat), .slice A m c] 26)
  have G0 := Lib.hid (Cells.new w #[.int .i64 (n : Nat), .slice A m c] 26)
  have HC := check_any (n : Int) A m c (cast es) (w.alloc (.cells #[.int .i64 (n : Nat), .slice A m c] 26)) (h.keep kv) (by omega)
  rw [hg.check] at HC
  have HC := Lib.hid HC
  have H1 := Lib.hid (fun w' (hb : Below w.heap.size w w') => hl.keep hb)
  have kv := Lib.hid kv
  clear h hg hl
  go_enter Tryd.func78, Tryd.ntmps78
  go_wp2_with fail
  refine HC.out.mono ?_
  rintro e w1 ⟨rfl, hb1⟩
  have G1 := Lib.hid (G0.out.keep hb1)
  have B1 := Lib.hid (below_on kv.out hb1)
  have g0 := G1.out.at_ 0
  simp only [List.getElem?_cons_zero] at g0
  clear hb1
  have I1 := Lib.hid (H1.out _ B1.out)
  go_wp2_with fail
  go_loop [18, 7] (fun i sv => ∃ k : Nat, i = .int .i64 (k : Nat) ∧ k ≤ l.length ∧ (l.take k).all (inN n) = true ∧ sv = .int .u64 (setI (l.take k) : Nat)) (fun i _ => l.length - (intOf i).toNat)
  case atStart => exact ⟨0, rfl, Nat.zero_le _, by simp, rfl⟩
  case round =>
    obtain ⟨k, rfl, hk, ha, rfl⟩ := hrel
    have Ha := Lib.hid ha
    clear ha
    by_cases hlt : k < l.length
    · obtain ⟨x, b, o, hx, rfl, hbl, hcell⟩ := I1.out.at_ hlt
      have Hx := Lib.hid hx
      clear hx
      by_cases h1 : x < 0
      · have t1 : decide (x < 0) = true := decide_eq_true h1
        have Hf := Lib.hid (nds_bad (n := n) Hx.out (by simp [inN]; omega))
        clear h1
        go_wp2_with fail
        go_ret2
        exact ⟨.inl ⟨by rw [Hf.out]; decide, congrArg (fun z => Ending.returned (.tuple #[.int .u64 0, .int .i64 z])) Hf.out.symm⟩, B1.out⟩
      · have t1 : decide (x < 0) = false := decide_eq_false h1
        by_cases h2 : (n : Int) ≤ x
        · have t2 : decide ((n : Int) ≤ x) = true := decide_eq_true h2
          have Hf := Lib.hid (nds_bad (n := n) Hx.out (by simp [inN]; omega))
          clear h1 h2
          go_wp2_with fail
          go_ret2
          exact ⟨.inl ⟨by rw [Hf.out]; decide, congrArg (fun z => Ending.returned (.tuple #[.int .u64 0, .int .i64 z])) Hf.out.symm⟩, B1.out⟩
        · have t2 : decide ((n : Int) ≤ x) = false := decide_eq_false h2
          obtain ⟨y, rfl⟩ : ∃ y : Nat, x = y := ⟨x.toNat, by omega⟩
          have hy : y < 64 := by omega
          have t2' : decide (n ≤ y) = false := decide_eq_false (by omega)
          have Hf := Lib.hid (all_take Hx.out Ha.out (show inN n (y : Int) = true by simp [inN]; omega))
          have Hs := Lib.hid (show setI (l.take (k + 1)) = setI (l.take k) ||| sing y by rw [List.take_add_one, Hx.out]; exact setI_snoc _ _)
          have e1 : bits .or .u64 ((setI (l.take k) : Nat) : Int) ((sing y : Nat) : Int) = ((setI (l.take k) ||| sing y : Nat) : Int) := bits_or_u64_nat _ _ (setI_lt (all_mono hn64 Ha.out)) (sing_lt hy)
          have HSg := Lib.hid (fun w => single_any y w hy)
          have Hlt := Lib.hid hlt
          clear h1 h2
          go_wp2_with fail
          refine (HSg.out _).mono ?_
          rintro e w2 ⟨rfl, rfl⟩
          go_wp2_with fail
          go_round
          case rel => exact ⟨k + 1, by go_num, Hlt.out, Hf.out, by rw [Hs.out]⟩
          case measure => simp [intOf]; have := Hlt.out; omega
    · have Hall := Ha.out
      rw [List.take_of_length_le (by omega)] at Hall
      have Hall := Lib.hid Hall
      obtain rfl : k = l.length := by omega
      go_wp2_with fail
      go_loopw [10] (fun i wr => ∃ j : Nat, 0 < j ∧ i = .int .i64 (j : Nat) ∧ (1 < j → j ≤ l.length) ∧ (∀ i a b, i + 1 < j → l[i]? = some a → l[i + 1]? = some b → a < b) ∧ Below w.heap.size w wr) (fun i _ => l.length - (intOf i).toNat)
      case atStart => exact ⟨1, by omega, rfl, by omega, fun i a b h => by omega, B1.out⟩
      case round =>
        obtain ⟨j, hj0, rfl, hjm, ho, hb⟩ := hrel
        have Ho := Lib.hid ho
        have Hb := Lib.hid hb
        clear ho hb
        by_cases hlt : j < l.length
        · obtain ⟨a, b, o, hea, rfl, _, a0⟩ := (H1.out _ Hb.out).at_ (show j - 1 < l.length by omega)
          obtain ⟨a', b', o', heb, hA, _, b0⟩ := (H1.out _ Hb.out).at_ hlt
          injection hA with hA
          injection hA with hA1 hA2
          subst hA1 hA2
          have Hea := Lib.hid hea
          have Heb := Lib.hid heb
          have ew : IntKind.i64.wrap ((j : Int) - 1) = (j : Int) - 1 := IntWalk.i64_in _ (by omega)
          have i0 : (1 : Int) ≤ (j : Int) := by omega
          have i2 : (j : Int) - 1 < l.length := by omega
          have Hlt := Lib.hid hlt
          clear hea heb
          by_cases hc : a < a'
          · have Hs := Lib.hid (nds_up hj0 Hea.out Heb.out hc Ho.out)
            have tc : decide (a' ≤ a) = false := decide_eq_false (by omega)
            go_wp2_with fail
            go_still_tail 9, (by kernel_rfl)
            change wpList _ _ _ _ _ wr.drew
            go_wp2_with fail
            go_roundw
            case rel => exact ⟨j + 1, by omega, by go_num, fun _ => Hlt.out, Hs.out, Hb.out.drew⟩
            case measure => simp [intOf]; have := Hlt.out; omega
          · have tc : decide (a' ≤ a) = true := decide_eq_true (by omega)
            have Hf := Lib.hid (nds_order Hall.out Hea.out (by rw [show j - 1 + 1 = j by omega]; exact Heb.out) (by omega : a' ≤ a))
            clear hc
            go_wp2_with fail
            go_still_tail 9, (by kernel_rfl)
            change wpList _ _ _ _ _ wr.drew
            go_wp2_with fail
            go_ret2
            exact ⟨.inl ⟨by rw [Hf.out]; decide, congrArg (fun z => Ending.returned (.tuple #[.int .u64 0, .int .i64 z])) Hf.out.symm⟩, Hb.out.drew⟩
        · have Hf := Lib.hid (nds_ok (k := j) Hall.out (by omega) Ho.out)
          go_wp2_with fail
          go_ret2
          exact ⟨.inr ⟨Hf.out, rfl⟩, Hb.out⟩
end Go.Proofs.YthocdmlacfejkaaDoor
namespace Go.Proofs.YthocdmlacfejkaaDoor
open Go.RowKit
/-- The node before v on the path from root; -1 if there is none. -/
def treeV (es : List (Nat × Nat)) (root v : Nat) : Int :=
  if dist (adjR es) (sing v) root ≤ 0 then -1 else ((wayM (adj es) (dist (adjR es) (sing v)) (dist (adjR es) (sing v) root).toNat root).getD ((dist (adjR es) (sing v) root).toNat - 1) 0 : Nat)
def backV (es : List (Nat × Nat)) (root v : Nat) : Int :=
  if dist (adjR es) (sing root) v ≤ 0 then -1 else ((wayM (adj es) (dist (adjR es) (sing root)) (dist (adjR es) (sing root) v).toNat v).getD 1 0 : Nat)
set_option maxRecDepth 100000 in
set_option maxHeartbeats 4000000 in
theorem tree1_any (n : Nat) (A : Option Addr) (m c : Nat) (es : List (Nat × Nat)) (p r root v : Nat) (w : World) (h : EL w A m (cast es)) (hg : Fine n es) (hr : root < n) (hv : v < n) (hw : Good w)
    (c0 : w.cell? ⟨p, 0, none⟩ = some (.int .i64 (n : Nat))) (c1 : w.cell? ⟨p, 1, none⟩ = some (.slice A m c)) (c2 : w.cell? ⟨r, 0, none⟩ = some (.int .i64 (root : Nat))) :
    Calls Tryd.prog 94 #[.int .i64 v, .pointer (some ⟨p, 0, none⟩), .pointer (some ⟨r, 0, none⟩)] w fun e w' => e = .returned (.int .i64 (treeV es root v)) ∧ Below w.heap.size w w' := by
  by_cases hd : dist (adjR es) (sing v) root < 0
  · have HP := Lib.hid (path_no n A m c es root v w h hg hr hv hd hw)
    have He : treeV es root v = -1 := by unfold treeV; rw [if_pos (by omega)]
    rw [He]
    clear h hg hw hd He
    go_enter Tryd.func94, Tryd.ntmps94
    go_wp2_with fail
    refine HP.out.mono ?_
    rintro e w1 ⟨rfl, hb1⟩
    have B1 := Lib.hid hb1
    clear hb1
    go_wp2_with fail
    go_ret
    exact ⟨rfl, B1.out⟩
  · obtain ⟨d, hdd⟩ : ∃ d : Nat, dist (adjR es) (sing v) root = (d : Int) := ⟨_, (Int.toNat_of_nonneg (by omega)).symm⟩
    have HP := path_yes n A m c es root v d w h hg hr hv hdd hw
    have hd64 : d ≤ 64 := by have := distTo_bd (adjR es) (sing v) 65 root; unfold dist at hdd; omega
    have hlen := wayM_len (adj es) (dist (adjR es) (sing v)) d root
    have hT : treeV es root v = if (d : Int) ≤ 0 then -1 else (((wayM (adj es) (dist (adjR es) (sing v)) d root).getD (d - 1) 0 : Nat) : Int) := by
      unfold treeV
      rw [hdd, Int.toNat_natCast]
    obtain ⟨l, hl⟩ : ∃ l, wayM (adj es) (dist (adjR es) (sing v)) d root = l := ⟨_, rfl⟩
    rw [hl] at HP hlen hT
    have HP := Lib.hid HP
    have hlen2 := Nat.le_of_eq hlen
    by_cases h0 : d = 0
    · subst h0
      rw [if_pos (by omega)] at hT
      rw [hT]
      have Hlen := Lib.hid hlen
      clear h hg hw hd hT hdd hl hlen
      go_enter Tryd.func94, Tryd.ntmps94
      go_wp2_with fail
      refine HP.out.mono ?_
      rintro e w1 ⟨u, rfl, hown, hb1⟩
      obtain ⟨A1, k1, rfl, hn1, _, _⟩ := own_nats hown
      have B1 := Lib.hid hb1
      have hl2 : ¬ (2 : Int) ≤ (l.length : Int) := by omega
      have hl3 : (l.length : Int) < 2 := by omega
      clear hown hn1 hb1
      go_wp2_with fail
      go_ret
      exact ⟨rfl, B1.out⟩
    · have hx : l[d - 1]? = some (l.getD (d - 1) 0) := by
        rw [List.getElem?_eq_getElem (show d - 1 < l.length by omega)]
        simp [List.getD, show d - 1 < l.length by omega]
      rw [if_neg (by omega)] at hT
      rw [hT]
      obtain ⟨x, hx0⟩ : ∃ x, l.getD (d - 1) 0 = x := ⟨_, rfl⟩
      rw [hx0] at hx ⊢
      have Hx := Lib.hid hx
      have Hlen := Lib.hid hlen
      have hlen3 := Nat.le_of_eq hlen.symm
      clear h hg hw hd hT hdd hl hlen hx hx0
      go_enter Tryd.func94, Tryd.ntmps94
      go_wp2_with fail
      refine HP.out.mono ?_
      rintro e w1 ⟨u, rfl, hown, hb1⟩
      obtain ⟨A1, k1, rfl, hn1, _, _⟩ := own_nats hown
      have B1 := Lib.hid hb1
      obtain ⟨b, o, rfl, _, _, hcell⟩ := hn1 _ _ Hx.out
      clear hown hn1 hb1
      have ew : IntKind.i64.wrap ((l.length : Int) - 2) = (l.length : Int) - 2 := IntWalk.i64_in _ (by omega)
      have i0 : (2 : Int) ≤ (l.length : Int) := by omega
      have i1 : ((l.length : Int) - 2).toNat = d - 1 := by omega
      have i2 : (0 : Int) ≤ (l.length : Int) - 2 := by omega
      have i3 : l.length - 2 = d - 1 := by omega
      go_wp2_with fail
      go_ret
      exact ⟨rfl, B1.out⟩
set_option maxRecDepth 100000 in
set_option maxHeartbeats 4000000 in
theorem back1_any (n : Nat) (A : Option Addr) (m c : Nat) (es : List (Nat × Nat)) (p r root v : Nat) (w : World) (h : EL w A m (cast es)) (hg : Fine n es) (hr : root < n) (hv : v < n) (hw : Good w)
    (c0 : w.cell? ⟨p, 0, none⟩ = some (.int .i64 (n : Nat))) (c1 : w.cell? ⟨p, 1, none⟩ = some (.slice A m c)) (c2 : w.cell? ⟨r, 0, none⟩ = some (.int .i64 (root : Nat))) :
    Calls Tryd.prog 95 #[.int .i64 v, .pointer (some ⟨p, 0, none⟩), .pointer (some ⟨r, 0, none⟩)] w fun e w' => e = .returned (.int .i64 (backV es root v)) ∧ Below w.heap.size w w' := by
  by_cases hd : dist (adjR es) (sing root) v < 0
  · have HP := Lib.hid (path_no n A m c es v root w h hg hv hr hd hw)
    have He : backV es root v = -1 := by unfold backV; rw [if_pos (by omega)]
    rw [He]
    clear h hg hw hd He
    go_enter Tryd.func95, Tryd.ntmps95
    go_wp2_with fail
    refine HP.out.mono ?_
    rintro e w1 ⟨rfl, hb1⟩
    have B1 := Lib.hid hb1
    clear hb1
    go_wp2_with fail
    go_ret
    exact ⟨rfl, B1.out⟩
  · obtain ⟨d, hdd⟩ : ∃ d : Nat, dist (adjR es) (sing root) v = (d : Int) := ⟨_, (Int.toNat_of_nonneg (by omega)).symm⟩
    have HP := path_yes n A m c es v root d w h hg hv hr hdd hw
    have hd64 : d ≤ 64 := by have := distTo_bd (adjR es) (sing root) 65 v; unfold dist at hdd; omega
    have hlen := wayM_len (adj es) (dist (adjR es) (sing root)) d v
    have hT : backV es root v = if (d : Int) ≤ 0 then -1 else (((wayM (adj es) (dist (adjR es) (sing root)) d v).getD 1 0 : Nat) : Int) := by
      unfold backV
      rw [hdd, Int.toNat_natCast]
    obtain ⟨l, hl⟩ : ∃ l, wayM (adj es) (dist (adjR es) (sing root)) d v = l := ⟨_, rfl⟩
    rw [hl] at HP hlen hT
    have HP := Lib.hid HP
    have hlen2 := Nat.le_of_eq hlen
    by_cases h0 : d = 0
    · subst h0
      rw [if_pos (by omega)] at hT
      rw [hT]
      have Hlen := Lib.hid hlen
      clear h hg hw hd hT hdd hl hlen
      go_enter Tryd.func95, Tryd.ntmps95
      go_wp2_with fail
      refine HP.out.mono ?_
      rintro e w1 ⟨u, rfl, hown, hb1⟩
      obtain ⟨A1, k1, rfl, hn1, _, _⟩ := own_nats hown
      have B1 := Lib.hid hb1
      have hl2 : ¬ (2 : Int) ≤ (l.length : Int) := by omega
      have hl3 : (l.length : Int) < 2 := by omega
      clear hown hn1 hb1
      go_wp2_with fail
      go_ret
      exact ⟨rfl, B1.out⟩
    · have hx : l[1]? = some (l.getD 1 0) := by
        rw [List.getElem?_eq_getElem (show 1 < l.length by omega)]
        simp [List.getD, show 1 < l.length by omega]
      rw [if_neg (by omega)] at hT
      rw [hT]
      obtain ⟨x, hx0⟩ : ∃ x, l.getD 1 0 = x := ⟨_, rfl⟩
      rw [hx0] at hx ⊢
      have Hx := Lib.hid hx
      have Hlen := Lib.hid hlen
      have hlen3 := Nat.le_of_eq hlen.symm
      clear h hg hw hd hT hdd hl hlen hx hx0
      go_enter Tryd.func95, Tryd.ntmps95
      go_wp2_with fail
      refine HP.out.mono ?_
      rintro e w1 ⟨u, rfl, hown, hb1⟩
      obtain ⟨A1, k1, rfl, hn1, _, _⟩ := own_nats hown
      have B1 := Lib.hid hb1
      obtain ⟨b, o, rfl, _, _, hcell⟩ := hn1 _ _ Hx.out
      clear hown hn1 hb1
      have i0 : (2 : Int) ≤ (l.length : Int) := by omega
      have i2 : (1 : Int) < (l.length : Int) := by omega
      have i3 : 1 < l.length := by omega
      go_wp2_with fail
      go_ret
      exact ⟨rfl, B1.out⟩
/-- n numbers. -/
def numsN (n : Nat) (f : Nat → Int) : List Value := (List.range n).map fun i => Value.int .i64 (f i)
theorem numsN_at {n : Nat} (f : Nat → Int) {i : Nat} (h : i < n) : (numsN n f)[i]? = some (.int .i64 (f i)) := by unfold numsN; simp [h]
theorem numsN_len (n : Nat) (f : Nat → Int) : (numsN n f).length = n := by unfold numsN; simp
theorem numsN_set {n : Nat} (f : Nat → Int) (i : Nat) (v : Int) : (numsN n f).set i (.int .i64 v) = numsN n fun j => if i = j then v else f j := by
  apply List.ext_getElem?
  intro j
  rw [List.getElem?_set]
  unfold numsN
  by_cases h : i = j
  · subst h
    by_cases h2 : i < n
    · simp [h2]
    · rw [if_pos rfl, if_neg (by simpa using h2), List.getElem?_eq_none (by simp; omega)]
  · rw [if_neg h]
    by_cases h2 : j < n
    · simp [h2, h]
    · rw [List.getElem?_eq_none (by simp; omega), List.getElem?_eq_none (by simp; omega)]
theorem numsN_congr {n : Nat} {f f' : Nat → Int} (h : ∀ i, i < n → f i = f' i) : numsN n f = numsN n f' := by
  unfold numsN
  exact List.map_congr_left fun i hi => by rw [h i (by simpa using hi)]
theorem made_ints {w w1 : World} {n : Nat} (hown : w1.ownsRow w.heap.size 3 1 (.slice (some ⟨w.heap.size, 0, none⟩) n n) n (madeCells #[.int .i64 0] n).toList) : Cells w1 w.heap.size (numsN n fun _ => 0) := by
  rcases hown.2 with ⟨h1, _⟩ | ⟨g', cap, cur, h1, hg, hh, hnc, hcm, hcs, hx⟩
  · cases h1
  · injection h1 with h1 _ h3
    injection h1 with h1
    injection h1 with h1
    subst h1 h3
    rw [List.take_of_length_le (by rw [Array.length_toList, hcs]; exact Nat.le_refl _)] at hx
    have e : cur.toList = numsN n fun _ => 0 := by
      rw [hx]
      apply List.ext_getElem?
      intro i
      by_cases hi : i < n
      · rw [numsN_at _ hi]; simp [madeCells, hi, Nat.mod_one]
      · rw [List.getElem?_eq_none (by simp [madeCells]; omega), List.getElem?_eq_none (by rw [numsN_len]; omega)]
    rw [← e]
    exact Cells.of_row hh
theorem numsN_il {w : World} {g n : Nat} {f : Nat → Int} (h : Cells w g (numsN n f)) : IL w (some ⟨g, 0, none⟩) ((List.range n).map f) := by
  intro k x hk
  rw [List.getElem?_map] at hk
  by_cases hkn : k < n
  · rw [List.getElem?_eq_getElem (by simpa using hkn)] at hk
    injection hk with hk
    simp at hk
    exact ⟨g, 0, rfl, h.lt, by rw [Nat.zero_add, h.at_ k, numsN_at f hkn, hk]⟩
  · rw [List.getElem?_eq_none (by simpa using hkn)] at hk; cases hk
def NbPost (n : Nat) (r : Nat → Int) (w : World) (e : Ending) (w' : World) : Prop :=
  (∃ g, e = .returned (.tuple #[.slice (some ⟨g, 0, none⟩) n n, .int .i64 0]) ∧ w.heap.size ≤ g ∧ IL w' (some ⟨g, 0, none⟩) ((List.range n).map r)) ∧ Below w.heap.size w w'
set_option maxRecDepth 100000 in
set_option maxHeartbeats 8000000 in
theorem neighbours_tree (n : Nat) (A : Option Addr) (m c : Nat) (es : List (Nat × Nat)) (root : Nat) (x y : Value) (r : Nat → Int) (w : World) (h : EL w A m (cast es)) (hg : Fine n es) (hr : root < n)
    (hF : ∀ w' v, Below w.heap.size w w' → v < n → Calls Tryd.prog 94 #[.int .i64 (v : Nat), x, y] w' fun e w2 => e = .returned (.int .i64 (r v)) ∧ Below w'.heap.size w' w2) :
    Calls Tryd.prog 93 #[gV n A m c, .int .i64 root, .func (.func 94) #[] #[x, y]] w (NbPost n r w) := by
  obtain ⟨i0, hi, hz0, hz1, hz2⟩ := info_parts info_int
  have hn64 := hg.n64
  have kv := (Below.refl w.heap.size w).alloc (Nat.le_refl _) (.cells #[.int .i64 (n : Nat), .slice A m c] 26)
  have G0 := Lib.hid (Cells.new w #[.int .i64 (n : Nat), .slice A m c] 26)
  have kx := kv.alloc (by simp) (.cells #[.int .i64 (root : Nat)] 3)
  have hl : IL ((w.alloc (.cells #[.int .i64 (n : Nat), .slice A m c] 26)).alloc (.cells #[.int .i64 (root : Nat)] 3)) (some ⟨w.heap.size + 1, 0, none⟩) [(root : Int)] := fun k u hk => by
    match k, hk with
    | 0, hk =>
      simp at hk
      subst hk
      exact ⟨_, 0, rfl, by simp, by simp [go_sem]⟩
  have HC := checkNodes_any n A m c es (some ⟨w.heap.size + 1, 0, none⟩) 1 [(root : Int)] _ (h.keep kx) hg hl (by simp)
  have hE : errN n [(root : Int)] = 0 := by
    unfold errN
    rw [if_neg, if_neg]
    · simp [incL]
    · simp [inN]; omega
  have HC := Lib.hid (HC.mono (R' := fun e w' => (∃ v : Value, e = .returned (.tuple #[v, .int .i64 0])) ∧ Below ((w.alloc (.cells #[.int .i64 (n : Nat), .slice A m c] 26)).alloc (.cells #[.int .i64 (root : Nat)] 3)).heap.size ((w.alloc (.cells #[.int .i64 (n : Nat), .slice A m c] 26)).alloc (.cells #[.int .i64 (root : Nat)] 3)) w') fun e w' ⟨h1, h2⟩ => ⟨by
    rcases h1 with ⟨h1, _⟩ | ⟨_, h1⟩
    · exact absurd hE h1
    · exact ⟨_, h1⟩, h2⟩)
  have HF := Lib.hid hF
  have kx := Lib.hid kx
  have GX := Lib.hid (G0.out.keep ((Below.refl _ _).alloc (Nat.le_refl _) (.cells #[.int .i64 (root : Nat)] 3)))
  clear h hg hl hE hF kv
  go_enter Tryd.func93, Tryd.ntmps93
  go_wp2_with fail
  refine HC.out.mono ?_
  rintro e w1 ⟨⟨sv, rfl⟩, hb1⟩
  have B1 := Lib.hid (below_on kx.out hb1)
  have G1 := Lib.hid (GX.out.keep hb1)
  have g0 := G1.out.at_ 0
  simp only [List.getElem?_cons_zero] at g0
  clear hb1
  go_wp2_with (at_make; refine wpList_make_full _ rfl _ _ 50 rfl w1.heap.size 3 i0 (.int .i64 0) 1 Tryd.underlying50 hi hz0 hz1 _ _ _ _ n rfl rfl rfl rfl (by rw [hz2]; omega) (by unfold maxLen; omega) (Nat.le_refl _) ?_)
  intro w2 hown hgr
  have I2 := made_ints hown
  rw [numsN_congr (f' := fun j => if j < 0 then r j else 0) (fun j _ => by simp)] at I2
  have I2 := Lib.hid I2
  have B2 := Lib.hid (below_on B1.out ((Below.refl w1.heap.size w1).grown hgr (Nat.le_refl _) (by simp)))
  have hsz := B1.out.size
  clear hown hgr
  go_wp2_with fail
  go_loopw [27] (fun i wr => ∃ k : Nat, i = .int .i64 (k : Nat) ∧ k ≤ n ∧ Cells wr w1.heap.size (numsN n fun j => if j < k then r j else 0) ∧ Below w.heap.size w wr) (fun i _ => n - (intOf i).toNat)
  case atStart => exact ⟨0, rfl, Nat.zero_le _, I2.out, B2.out⟩
  case round =>
    obtain ⟨k, rfl, hk, hc, hb⟩ := hrel
    have Hc := Lib.hid hc
    have Hb := Lib.hid hb
    clear hc hb
    by_cases hlt : k < n
    · have Hlt := Lib.hid hlt
      have HK := Lib.hid (HF.out wr k Hb.out hlt)
      go_wp2_with fail
      refine HK.out.mono ?_
      rintro e w3 ⟨rfl, hb3⟩
      have C3 := Hc.out.keep hb3
      have z0 := (C3.at_ k).trans (numsN_at _ hlt)
      have f0 := C3.fz k
      obtain ⟨x0, hx0⟩ : ∃ x : Int, (if k < k then r k else 0) = x := ⟨_, rfl⟩
      rw [hx0] at z0
      have C4 := C3.set k (.int .i64 (r k)) (by rw [numsN_len]; exact hlt)
      rw [numsN_set, numsN_congr (f' := fun j => if j < k + 1 then r j else 0) (fun j _ => by
        by_cases h : k = j
        · subst h; simp
        · by_cases h2 : j < k
          · simp [h, h2, show j < k + 1 by omega]
          · simp [h, h2, show ¬ j < k + 1 by omega])] at C4
      have C4 := Lib.hid C4
      have B4 := Lib.hid ((below_on Hb.out hb3).setCell (p := ⟨w1.heap.size, k, none⟩) hsz (.int .i64 (r k)))
      clear hb3 C3 hx0
      go_wp2_with fail
      go_roundw
      case rel => exact ⟨k + 1, by go_num, Hlt.out, C4.out, B4.out⟩
      case measure => simp [intOf]; have := Hlt.out; omega
    · have Cf := Hc.out
      rw [numsN_congr (f' := r) (fun j hj => by rw [if_pos (by omega)])] at Cf
      have Cf := Lib.hid (numsN_il Cf)
      go_wp2_with fail
      go_ret2
      exact ⟨⟨_, rfl, hsz, Cf.out⟩, Hb.out⟩
set_option maxRecDepth 100000 in
set_option maxHeartbeats 8000000 in
theorem neighbours_back (n : Nat) (A : Option Addr) (m c : Nat) (es : List (Nat × Nat)) (root : Nat) (x y : Value) (r : Nat → Int) (w : World) (h : EL w A m (cast es)) (hg : Fine n es) (hr : root < n)
    (hF : ∀ w' v, Below w.heap.size w w' → v < n → Calls Tryd.prog 95 #[.int .i64 (v : Nat), x, y] w' fun e w2 => e = .returned (.int .i64 (r v)) ∧ Below w'.heap.size w' w2) :
    Calls Tryd.prog 93 #[gV n A m c, .int .i64 root, .func (.func 95) #[] #[x, y]] w (NbPost n r w) := by
  obtain ⟨i0, hi, hz0, hz1, hz2⟩ := info_parts info_int
  have hn64 := hg.n64
  have kv := (Below.refl w.heap.size w).alloc (Nat.le_refl _) (.cells #[.int .i64 (n : Nat), .slice A m c] 26)
  have G0 := Lib.hid (Cells.new w #[.int .i64 (n : Nat), .slice A m c] 26)
  have kx := kv.alloc (by simp) (.cells #[.int .i64 (root : Nat)] 3)
  have hl : IL ((w.alloc (.cells #[.int .i64 (n : Nat), .slice A m c] 26)).alloc (.cells #[.int .i64 (root : Nat)] 3)) (some ⟨w.heap.size + 1, 0, none⟩) [(root : Int)] := fun k u hk => by
    match k, hk with
    | 0, hk =>
      simp at hk
      subst hk
      exact ⟨_, 0, rfl, by simp, by simp [go_sem]⟩
  have HC := checkNodes_any n A m c es (some ⟨w.heap.size + 1, 0, none⟩) 1 [(root : Int)] _ (h.keep kx) hg hl (by simp)
  have hE : errN n [(root : Int)] = 0 := by
    unfold errN
    rw [if_neg, if_neg]
    · simp [incL]
    · simp [inN]; omega
  have HC := Lib.hid (HC.mono (R' := fun e w' => (∃ v : Value, e = .returned (.tuple #[v, .int .i64 0])) ∧ Below ((w.alloc (.cells #[.int .i64 (n : Nat), .slice A m c] 26)).alloc (.cells #[.int .i64 (root : Nat)] 3)).heap.size ((w.alloc (.cells #[.int .i64 (n : Nat), .slice A m c] 26)).alloc (.cells #[.int .i64 (root : Nat)] 3)) w') fun e w' ⟨h1, h2⟩ => ⟨by
    rcases h1 with ⟨h1, _⟩ | ⟨_, h1⟩
    · exact absurd hE h1
    · exact ⟨_, h1⟩, h2⟩)
  have HF := Lib.hid hF
  have kx := Lib.hid kx
  have GX := Lib.hid (G0.out.keep ((Below.refl _ _).alloc (Nat.le_refl _) (.cells #[.int .i64 (root : Nat)] 3)))
  clear h hg hl hE hF kv
  go_enter Tryd.func93, Tryd.ntmps93
  go_wp2_with fail
  refine HC.out.mono ?_
  rintro e w1 ⟨⟨sv, rfl⟩, hb1⟩
  have B1 := Lib.hid (below_on kx.out hb1)
  have G1 := Lib.hid (GX.out.keep hb1)
  have g0 := G1.out.at_ 0
  simp only [List.getElem?_cons_zero] at g0
  clear hb1
  go_wp2_with (at_make; refine wpList_make_full _ rfl _ _ 50 rfl w1.heap.size 3 i0 (.int .i64 0) 1 Tryd.underlying50 hi hz0 hz1 _ _ _ _ n rfl rfl rfl rfl (by rw [hz2]; omega) (by unfold maxLen; omega) (Nat.le_refl _) ?_)
  intro w2 hown hgr
  have I2 := made_ints hown
  rw [numsN_congr (f' := fun j => if j < 0 then r j else 0) (fun j _ => by simp)] at I2
  have I2 := Lib.hid I2
  have B2 := Lib.hid (below_on B1.out ((Below.refl w1.heap.size w1).grown hgr (Nat.le_refl _) (by simp)))
  have hsz := B1.out.size
  clear hown hgr
  go_wp2_with fail
  go_loopw [27] (fun i wr => ∃ k : Nat, i = .int .i64 (k : Nat) ∧ k ≤ n ∧ Cells wr w1.heap.size (numsN n fun j => if j < k then r j else 0) ∧ Below w.heap.size w wr) (fun i _ => n - (intOf i).toNat)
  case atStart => exact ⟨0, rfl, Nat.zero_le _, I2.out, B2.out⟩
  case round =>
    obtain ⟨k, rfl, hk, hc, hb⟩ := hrel
    have Hc := Lib.hid hc
    have Hb := Lib.hid hb
    clear hc hb
    by_cases hlt : k < n
    · have Hlt := Lib.hid hlt
      have HK := Lib.hid (HF.out wr k Hb.out hlt)
      go_wp2_with fail
      refine HK.out.mono ?_
      rintro e w3 ⟨rfl, hb3⟩
      have C3 := Hc.out.keep hb3
      have z0 := (C3.at_ k).trans (numsN_at _ hlt)
      have f0 := C3.fz k
      obtain ⟨x0, hx0⟩ : ∃ x : Int, (if k < k then r k else 0) = x := ⟨_, rfl⟩
      rw [hx0] at z0
      have C4 := C3.set k (.int .i64 (r k)) (by rw [numsN_len]; exact hlt)
      rw [numsN_set, numsN_congr (f' := fun j => if j < k + 1 then r j else 0) (fun j _ => by
        by_cases h : k = j
        · subst h; simp
        · by_cases h2 : j < k
          · simp [h, h2, show j < k + 1 by omega]
          · simp [h, h2, show ¬ j < k + 1 by omega])] at C4
      have C4 := Lib.hid C4
      have B4 := Lib.hid ((below_on Hb.out hb3).setCell (p := ⟨w1.heap.size, k, none⟩) hsz (.int .i64 (r k)))
      clear hb3 C3 hx0
      go_wp2_with fail
      go_roundw
      case rel => exact ⟨k + 1, by go_num, Hlt.out, C4.out, B4.out⟩
      case measure => simp [intOf]; have := Hlt.out; omega
    · have Cf := Hc.out
      rw [numsN_congr (f' := r) (fun j hj => by rw [if_pos (by omega)])] at Cf
      have Cf := Lib.hid (numsN_il Cf)
      go_wp2_with fail
      go_ret2
      exact ⟨⟨_, rfl, hsz, Cf.out⟩, Hb.out⟩
set_option maxRecDepth 100000 in
set_option maxHeartbeats 4000000 in
theorem tree_any (n : Nat) (A : Option Addr) (m c : Nat) (es : List (Nat × Nat)) (root : Nat) (w : World) (h : EL w A m (cast es)) (hg : Fine n es) (hr : root < n) (hw : Good w) :
    Calls Tryd.prog 37 #[gV n A m c, .int .i64 root] w (NbPost n (treeV es root) w) := by
  have kv := ((Below.refl w.heap.size w).alloc (Nat.le_refl _) (.cells #[.int .i64 (n : Nat), .slice A m c] 26)).alloc (by simp) (.cells #[.int .i64 (root : Nat)] 3)
  have G0 := (Cells.new w #[.int .i64 (n : Nat), .slice A m c] 26).keep ((Below.refl _ _).alloc (Nat.le_refl _) (.cells #[.int .i64 (root : Nat)] 3))
  have R0 := Cells.new (w.alloc (.cells #[.int .i64 (n : Nat), .slice A m c] 26)) #[.int .i64 (root : Nat)] 3
  simp only [World.size_alloc] at R0
  have HN := Lib.hid (neighbours_tree n A m c es root (.pointer (some ⟨w.heap.size, 0, none⟩)) (.pointer (some ⟨w.heap.size + 1, 0, none⟩)) (treeV es root) _ (h.keep kv) hg hr (fun w' v hb hv => tree1_any n A m c es w.heap.size (w.heap.size + 1) root v w' (h.keep (below_on kv hb)) hg hr hv (hw.below (below_on kv hb) hw.size) ((G0.keep hb).at_ 0) ((G0.keep hb).at_ 1) ((R0.keep hb).at_ 0)))
  have kv := Lib.hid kv
  clear h hg hw G0 R0
  go_enter Tryd.func37, Tryd.ntmps37
  go_wp2_with fail
  refine HN.out.mono ?_
  rintro e w1 ⟨⟨g, rfl, hgs, hil⟩, hb1⟩
  have B1 := Lib.hid (below_on kv.out hb1)
  have I1 := Lib.hid hil
  have hg2 : w.heap.size ≤ g := by have := kv.out.size; simp at hgs; omega
  clear hb1 hil hgs
  go_wp2_with fail
  go_ret2
  exact ⟨⟨g, rfl, hg2, I1.out⟩, B1.out⟩
set_option maxRecDepth 100000 in
set_option maxHeartbeats 4000000 in
theorem back_any (n : Nat) (A : Option Addr) (m c : Nat) (es : List (Nat × Nat)) (root : Nat) (w : World) (h : EL w A m (cast es)) (hg : Fine n es) (hr : root < n) (hw : Good w) :
    Calls Tryd.prog 38 #[gV n A m c, .int .i64 root] w (NbPost n (backV es root) w) := by
  have kv := ((Below.refl w.heap.size w).alloc (Nat.le_refl _) (.cells #[.int .i64 (n : Nat), .slice A m c] 26)).alloc (by simp) (.cells #[.int .i64 (root : Nat)] 3)
  have G0 := (Cells.new w #[.int .i64 (n : Nat), .slice A m c] 26).keep ((Below.refl _ _).alloc (Nat.le_refl _) (.cells #[.int .i64 (root : Nat)] 3))
  have R0 := Cells.new (w.alloc (.cells #[.int .i64 (n : Nat), .slice A m c] 26)) #[.int .i64 (root : Nat)] 3
  simp only [World.size_alloc] at R0
  have HN := Lib.hid (neighbours_back n A m c es root (.pointer (some ⟨w.heap.size, 0, none⟩)) (.pointer (some ⟨w.heap.size + 1, 0, none⟩)) (backV es root) _ (h.keep kv) hg hr (fun w' v hb hv => back1_any n A m c es w.heap.size (w.heap.size + 1) root v w' (h.keep (below_on kv hb)) hg hr hv (hw.below (below_on kv hb) hw.size) ((G0.keep hb).at_ 0) ((G0.keep hb).at_ 1) ((R0.keep hb).at_ 0)))
  have kv := Lib.hid kv
  clear h hg hw G0 R0
  go_enter Tryd.func38, Tryd.ntmps38
  go_wp2_with fail
  refine HN.out.mono ?_
  rintro e w1 ⟨⟨g, rfl, hgs, hil⟩, hb1⟩
  have B1 := Lib.hid (below_on kv.out hb1)
  have I1 := Lib.hid hil
  have hg2 : w.heap.size ≤ g := by have := kv.out.size; simp at hgs; omega
  clear hb1 hil hgs
  go_wp2_with fail
  go_ret2
  exact ⟨⟨g, rfl, hg2, I1.out⟩, B1.out⟩
end Go.Proofs.YthocdmlacfejkaaDoor
