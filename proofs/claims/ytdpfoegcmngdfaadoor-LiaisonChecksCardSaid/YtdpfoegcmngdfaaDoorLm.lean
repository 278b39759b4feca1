/- Graph: Make. -/
import Derived.Test.YtdpfoegcmngdfaaDoorLb
import Derived.Test.YtdpfoegcmngdfaaDoorSortS

namespace Go.Proofs.YtdpfoegcmngdfaaDoor
open Go.RowKit Go.Shelf
theorem grow_three (w : World) (a b c : Obj) : (((w.alloc a).alloc b).drew).alloc c = Go.Sort.grow (w.drewN 1) #[a, b, c] := by
  rw [Go.Sort.alloc_eq_grow w a, Go.Sort.alloc_eq_grow (Go.Sort.grow w #[a]) b, Go.Sort.grow_grow, Go.Sort.drew_grow, Go.Sort.alloc_eq_grow _ c, Go.Sort.grow_grow]
  rfl
set_option maxRecDepth 100000 in
set_option maxHeartbeats 2000000 in
theorem compare_grow (a b : Int × Int) (w : World) :
    Calls Tryd.prog 68 #[.agg #[.int .i64 a.1, .int .i64 a.2], .agg #[.int .i64 b.1, .int .i64 b.2]] w fun e w' => e = .returned (.int .i64 (cmpE a b)) ∧ ∃ q os, w' = Go.Sort.grow (w.drewN q) os := by
  obtain ⟨a1, a2⟩ := a
  obtain ⟨b1, b2⟩ := b
  have H := Lib.hid (show cmpE (a1, a2) (b1, b2) = orI (Lib.compareInt a1 b1) (Lib.compareInt a2 b2) from rfl)
  obtain ⟨c, hc⟩ : ∃ c, cmpE (a1, a2) (b1, b2) = c := ⟨_, rfl⟩
  rw [hc] at H
  rw [hc]
  have HC := Lib.hid (fun x y w => Tryd.cmp_Compare_int x y w)
  obtain ⟨f, hf⟩ : ∃ f, Lib.compareInt = f := ⟨_, rfl⟩
  rw [hf] at H HC
  clear hc hf
  simp only
  have E1 := Lib.hid ((Cells.new w #[.int .i64 a1, .int .i64 a2] 75).keep ((Below.refl _ _).alloc (Nat.le_refl _) (.cells #[.int .i64 b1, .int .i64 b2] 75)))
  have E2 := Lib.hid (Cells.new (w.alloc (.cells #[.int .i64 a1, .int .i64 a2] 75)) #[.int .i64 b1, .int .i64 b2] 75)
  have HB := Lib.hid (((Below.refl w.heap.size w).alloc (Nat.le_refl _) (.cells #[.int .i64 a1, .int .i64 a2] 75)).alloc (by simp) (.cells #[.int .i64 b1, .int .i64 b2] 75))
  obtain ⟨w2, hw2⟩ : ∃ u, (w.alloc (.cells #[.int .i64 a1, .int .i64 a2] 75)).alloc (.cells #[.int .i64 b1, .int .i64 b2] 75) = u := ⟨_, rfl⟩
  have HW := Lib.hid hw2
  rw [hw2] at E1 E2 HB
  have hs1 : (w.alloc (.cells #[.int .i64 a1, .int .i64 a2] 75)).heap.size = w.heap.size + 1 := by simp
  rw [hs1] at E2
  clear hs1
  have c0 := E1.out.at_ 0
  have c1 := E1.out.at_ 1
  have c2 := E2.out.at_ 0
  have c3 := E2.out.at_ 1
  simp only [List.getElem?_cons_zero, List.getElem?_cons_succ] at c0 c1 c2 c3
  go_enter Tryd.func68, Tryd.ntmps68
  go_wp2_with fail
  go_still_tail 10, (by kernel_rfl)
  still_call (HC.out _ _ _)
  repeat still_step
  still_call (HC.out _ _ _)
  repeat still_step
  refine wpStill_nil ?_
  change wpList _ _ _ _ _ w2.drew
  go_wp2_with fail
  refine (or_any _ (f a1 b1) (f a2 b2) _ (by simp [go_sem]) (by simp [go_sem])).mono ?_
  rintro e w' ⟨rfl, rfl⟩
  go_wp2_with fail
  go_ret
  refine ⟨ret_int H.out.symm, 1, #[.cells #[.int .i64 a1, .int .i64 a2] 75, .cells #[.int .i64 b1, .int .i64 b2] 75, .cells #[.int .i64 (f a1 b1), .int .i64 (f a2 b2)] 3], ?_⟩
  rw [← HW.out]
  exact grow_three _ _ _ _
def encE (x : Int × Int) : List Value := [.int .i64 x.1, .int .i64 x.2]
theorem ltE (x y : Int × Int) : ltOf cmpE x y = (decide (x.1 < y.1) || (x.1 == y.1 && decide (x.2 < y.2))) := by
  unfold ltOf
  exact cmpE_lt x y
theorem ltE_iff (x y : Int × Int) : ltOf cmpE x y = true ↔ x.1 < y.1 ∨ (x.1 = y.1 ∧ x.2 < y.2) := by
  rw [ltE]; simp
theorem ltE_not (x y : Int × Int) : ltOf cmpE x y = false ↔ ¬ (x.1 < y.1 ∨ (x.1 = y.1 ∧ x.2 < y.2)) := by
  rw [← ltE_iff]; simp
theorem swoE : Go.Sort.SWO (ltOf cmpE) where
  irrefl x := by rw [ltE_not]; omega
  trans x y z h1 h2 := by rw [ltE_iff] at *; omega
  ntrans x y z h1 h2 := by rw [ltE_not] at *; omega
theorem encE_len (x : Int × Int) : (encE x).length = 2 := rfl
theorem encE_one (x : Int × Int) : ∀ v ∈ encE x, v.oneCell' = true := fun v hv => by
  simp [encE] at hv
  rcases hv with rfl | rfl <;> rfl
theorem compare_lays (blk off size : Nat) (w : World) : CmpLays Tryd.prog 68 #[] encE 2 cmpE blk off size w :=
  fun _ _ _ _ x y => compare_grow x y _
theorem enters_compare : ∀ args w, (callFunc 68 args).run Tryd.prog w = .ok (.enter 68 args) w := enters_of Tryd.func68 (by kernel_rfl) rfl
theorem flat_get (d : List (Int × Int)) (t : Nat) (ht : t < d.length * 2) : (flat d)[t]? = some ((encE d.toArray[t / 2]!)[t % 2]!) := by
  have hk : t / 2 < d.length := by omega
  have he : d[t / 2]? = some d[t / 2] := List.getElem?_eq_getElem hk
  have e1 : d.toArray[t / 2]! = d[t / 2] := by
    rw [getElem!_pos _ _ (by simpa using hk)]; rfl
  obtain ⟨h0, h1⟩ := flat_at he
  rw [e1]
  rcases (by omega : t = t / 2 * 2 ∨ t = t / 2 * 2 + 1) with h | h
  · have e2 : t % 2 = 0 := by omega
    rw [e2]
    rw [← h] at h0
    rw [h0]; rfl
  · have e2 : t % 2 = 1 := by omega
    rw [e2]
    rw [← h] at h1
    rw [h1]; rfl
theorem flatK_list (d : List (Int × Int)) : (Go.Sort.flatK encE 2 d.toArray).toList = flat d := by
  apply List.ext_getElem?
  intro t
  by_cases ht : t < d.length * 2
  · rw [flat_get d t ht]
    unfold Go.Sort.flatK
    simp [ht]
  · rw [List.getElem?_eq_none (by simp [Go.Sort.flatK]; omega), List.getElem?_eq_none (by rw [flat_len]; omega)]
def SrtPost (g : Nat) (T : TypeId) (es : List (Int × Int)) (cur : Array Value) (w : World) (w' : World) : Prop :=
  ∃ (cur' : Array Value) (ss : List (Int × Int)), ss.Perm es ∧ (∀ i j, i < j → j < ss.length → ltOf cmpE ss.toArray[j]! ss.toArray[i]! = false) ∧ w'.heap[g]? = some (.cells cur' T (0, 0)) ∧ cur'.size = cur.size ∧ cur'.toList.take (es.length * 2) = flat ss ∧ Go.RowKit.Below g w w'
theorem sortF_any (g cap : Nat) (T : TypeId) (es : List (Int × Int)) (cur : Array Value) (w : World) (hh : w.heap[g]? = some (.cells cur T (0, 0))) (hc : cur.toList.take (es.length * 2) = flat es) (hl : es.length ≤ 100000) :
    Calls Tryd.prog 67 #[.slice (some ⟨g, 0, none⟩) es.length cap, .func (.func 68) #[] #[]] w fun e w' => e = .returned (.tuple #[]) ∧ SrtPost g T es cur w w' := by
  have hgl : g < w.heap.size := by
    rcases Nat.lt_or_ge g w.heap.size with h1 | h1
    · exact h1
    · rw [Array.getElem?_eq_none h1] at hh; cases hh
  have hcs : es.length * 2 ≤ cur.size := by
    have := congrArg List.length hc
    rw [List.length_take, flat_len] at this
    have h5 : cur.toList.length = cur.size := Array.length_toList
    clear hh
    omega
  have hH : Go.Sort.HoldsK encE 2 w g 0 es.toArray := fun j hj => by
    have hj2 : j < es.length * 2 := by simpa [Go.Sort.flatK] using hj
    have e1 : (Go.Sort.flatK encE 2 es.toArray)[j]? = cur[j]? := by
      rw [← Array.getElem?_toList, flatK_list, ← hc, List.getElem?_take_of_lt hj2, Array.getElem?_toList]
    refine ⟨?_, by simp [World.frozen?, hh]⟩
    rw [cell_of_row _ _ _ _ _ _ hh, Nat.zero_add, ← e1, Array.getElem?_eq_getElem hj]
    show some _ = some ((Go.Sort.flatK encE 2 es.toArray)[j]!)
    rw [getElem!_pos (Go.Sort.flatK encE 2 es.toArray) j hj]
  have hcon := AnyQ.slices_SortFunc Tryd.sortE 2 Tryd.isAgg75 Tryd.sizeOf75 encE encE_len encE_one cmpE swoE 68 #[] g 0 cap es.toArray w enters_compare (compare_lays g 0 es.toArray.size w) hH hgl (by simp; omega)
  change Calls Tryd.prog 67 #[.slice (some ⟨g, 0, none⟩) es.length cap, .func (.func 68) #[] #[]] w _ at hcon
  refine hcon.mono fun e w' ⟨he, d', n, os, hp, hs, hw⟩ => ⟨he, ?_⟩
  obtain ⟨hp1, _, hp3⟩ := hp
  have hd : d'.size = es.length := by rw [hp1]; simp
  have hfl : (Go.Sort.flatK encE 2 d').size = es.length * 2 := by rw [Go.Sort.size_flatK, hd]
  refine ⟨Go.Sort.putCells id 0 (Go.Sort.flatK encE 2 d') cur, d'.toList, ?_, ?_, ?_, ?_, ?_, ?_⟩
  · have e1 : d'.extract 0 es.toArray.size = d' := by rw [← hp1]; simp
    have e2 : es.toArray.extract 0 es.toArray.size = es.toArray := by simp
    rw [e1, e2] at hp3
    simpa using hp3
  · intro i j hij hj
    have := hs i j (Nat.zero_le _) hij (by simpa [hd] using hj)
    simpa using this
  · rw [hw]
    unfold sortWorldK
    rw [Go.Sort.heap_grow_old _ _ (by unfold Go.Sort.putRowK; rw [size_putRow]; exact hgl)]
    unfold Go.Sort.putRowK Go.Sort.putRow Go.Sort.mapBlock
    show ((Go.Sort.ahead w n).heap.modify g _)[g]? = _
    rw [Array.getElem?_modify, if_pos rfl]
    show Option.map _ (w.heap[g]?) = _
    rw [hh]
    rfl
  · unfold Go.Sort.putCells; simp
  · have e3 : flat d'.toList = (Go.Sort.flatK encE 2 d').toList := by rw [← flatK_list]
    rw [e3]
    apply List.ext_getElem?
    intro t
    by_cases ht : t < es.length * 2
    · rw [List.getElem?_take_of_lt ht]
      unfold Go.Sort.putCells
      have hf : t < (Go.Sort.flatK encE 2 d').size := by omega
      have hcu : t < cur.size := by omega
      rw [Array.getElem?_toList, Array.getElem?_mapIdx, Array.getElem?_eq_getElem hcu, Option.map_some, if_pos (by omega), Array.getElem?_toList, Array.getElem?_eq_getElem hf]
      show some ((Go.Sort.flatK encE 2 d')[t - 0]!) = _
      rw [Nat.sub_zero, getElem!_pos (Go.Sort.flatK encE 2 d') t hf]
    · rw [List.getElem?_eq_none (by rw [List.length_take]; omega), List.getElem?_eq_none (by rw [Array.length_toList]; omega)]
  · rw [hw]
    refine ⟨rfl, rfl, rfl, ?_, fun k hk => ?_⟩
    · unfold sortWorldK
      rw [Go.Sort.size_grow]
      unfold Go.Sort.putRowK
      rw [size_putRow]
      exact Nat.le_add_right _ _
    · unfold sortWorldK
      rw [Go.Sort.heap_grow_old _ _ (by unfold Go.Sort.putRowK; rw [size_putRow]; show k < w.heap.size; omega)]
      unfold Go.Sort.putRowK Go.Sort.putRow Go.Sort.mapBlock
      show ((Go.Sort.ahead w n).heap.modify g _)[k]? = _
      rw [Array.getElem?_modify, if_neg (by omega)]
      rfl
end Go.Proofs.YtdpfoegcmngdfaaDoor
namespace Go.Proofs.YtdpfoegcmngdfaaDoor
open Go.RowKit
attribute [local irreducible] wpStill
def compT (d : List (Int × Int)) : Nat → List (Int × Int)
  | 0 => []
  | i + 1 => compT d i ++ match d[i]? with | none => [] | some y => if i = 0 ∨ d[i - 1]? ≠ some y then [y] else []
theorem compT_new {d : List (Int × Int)} {i : Nat} {x y : Int × Int} (_h0 : 0 < i) (hx : d[i - 1]? = some x) (hy : d[i]? = some y) (h : x ≠ y) : compT d (i + 1) = compT d i ++ [y] := by
  rw [compT, hy]
  simp only
  rw [if_pos (.inr (by rw [hx]; intro e; injection e with e; exact h e))]
theorem compT_old {d : List (Int × Int)} {i : Nat} {x : Int × Int} (h0 : 0 < i) (hx : d[i - 1]? = some x) (hy : d[i]? = some x) : compT d (i + 1) = compT d i := by
  rw [compT, hy]
  simp only
  rw [if_neg (by rw [hx]; simp; omega), List.append_nil]
theorem compT_start {d : List (Int × Int)} {y : Int × Int} (hy : d[0]? = some y) : compT d 1 = d.take 1 := by
  rw [compT, hy, List.take_add_one, hy]
  simp [compT]
theorem flat_set {d : List (Int × Int)} {tl : List Value} {k : Nat} {y : Int × Int} (hk : k < d.length) : ((flat d ++ tl).set (k * 2) (.int .i64 y.1)).set (k * 2 + 1) (.int .i64 y.2) = flat (d.set k y) ++ tl := by
  rw [List.set_append_left _ _ (by rw [flat_len]; omega), List.set_append_left _ _ (by rw [List.length_set, flat_len]; omega)]
  congr 1
  apply List.ext_getElem?
  intro j
  rcases (by omega : j = j / 2 * 2 ∨ j = j / 2 * 2 + 1) with hj | hj
  · by_cases hl : j / 2 < d.length
    · obtain ⟨h0, h1⟩ := flat_at (List.getElem?_eq_getElem (l := d.set k y) (i := j / 2) (by rw [List.length_set]; exact hl))
      rw [← hj] at h0
      rw [h0, List.getElem?_set_ne (by omega), List.getElem?_set]
      by_cases e : k * 2 = j
      · have e2 : k = j / 2 := by omega
        rw [if_pos e, if_pos (by rw [flat_len]; omega)]
        simp [e2]
      · have e2 : k ≠ j / 2 := by omega
        obtain ⟨g0, g1⟩ := flat_at (List.getElem?_eq_getElem (l := d) (i := j / 2) hl)
        rw [← hj] at g0
        rw [if_neg e, g0, List.getElem_set_ne e2]
    · rw [List.getElem?_eq_none (by rw [List.length_set, List.length_set, flat_len]; omega), List.getElem?_eq_none (by rw [flat_len, List.length_set]; omega)]
  · by_cases hl : j / 2 < d.length
    · obtain ⟨h0, h1⟩ := flat_at (List.getElem?_eq_getElem (l := d.set k y) (i := j / 2) (by rw [List.length_set]; exact hl))
      rw [← hj] at h1
      rw [h1, List.getElem?_set]
      by_cases e : k * 2 + 1 = j
      · have e2 : k = j / 2 := by omega
        rw [if_pos e, if_pos (by rw [List.length_set, flat_len]; omega)]
        simp [e2]
      · have e2 : k ≠ j / 2 := by omega
        obtain ⟨g0, g1⟩ := flat_at (List.getElem?_eq_getElem (l := d) (i := j / 2) hl)
        rw [← hj] at g1
        rw [if_neg e, List.getElem?_set_ne (by omega), g1, List.getElem_set_ne e2]
    · rw [List.getElem?_eq_none (by rw [List.length_set, List.length_set, flat_len]; omega), List.getElem?_eq_none (by rw [flat_len, List.length_set]; omega)]
theorem flat_cell {w : World} {g : Nat} {d : List (Int × Int)} {tl : List Value} {k : Nat} {y : Int × Int} (h : Cells w g (flat d ++ tl)) (hk : d[k]? = some y) : w.cell? ⟨g, k * 2, none⟩ = some (.int .i64 y.1) ∧ w.cell? ⟨g, k * 2 + 1, none⟩ = some (.int .i64 y.2) := by
  have hl : k < d.length := by
    rcases Nat.lt_or_ge k d.length with h1 | h1
    · exact h1
    · rw [List.getElem?_eq_none h1] at hk; cases hk
  obtain ⟨h0, h1⟩ := flat_at hk
  exact ⟨(h.at_ _).trans (by rw [List.getElem?_append_left (by rw [flat_len]; omega)]; exact h0), (h.at_ _).trans (by rw [List.getElem?_append_left (by rw [flat_len]; omega)]; exact h1)⟩
def zers (n : Nat) : List Value := (Builtin.zeroCells (Value.agg #[.int .i64 0, .int .i64 0]).cells n).toList
theorem zers_len (n : Nat) : (zers n).length = n * 2 := by unfold zers Builtin.zeroCells; simp [Value.cells]
theorem zers_one (n : Nat) : ∀ v ∈ zers n, v.oneCell' = true := fun v hv => by
  unfold zers Builtin.zeroCells at hv
  simp [Value.cells] at hv
  obtain ⟨a, ha, rfl⟩ := hv
  rcases (by omega : a % 2 = 0 ∨ a % 2 = 1) with h | h <;> rw [h] <;> rfl
theorem run_clear_edges (w : World) (ty : TypeId) (b o n c : Nat) (hn : 0 < n) (hc : ∀ j, j < n * 2 → (w.cell? ⟨b, o + j, none⟩).isSome = true) (hf : ∀ j, j < n * 2 → w.frozen? ⟨b, o + j, none⟩ = false) :
    (Builtin.clear_ #[22] ty #[.slice (some ⟨b, o, none⟩) n c]).run Tryd.prog w = .ok (.tuple #[]) (w.setCells b o (zers n)) := by
  have hst := run_storeCells_cells (P := Tryd.prog) b o (zers n) 0 w (by rw [zers_len]; simpa using hc) (by rw [zers_len]; simpa using hf) (zers_one n)
  simp only [Nat.add_zero] at hst
  have hzc : (Builtin.zeroCells (Value.agg #[.int .i64 0, .int .i64 0]).cells n).toList = zers n := rfl
  obtain ⟨m, rfl⟩ : ∃ m, n = m + 1 := ⟨n - 1, by omega⟩
  simp [Builtin.clear_, run_underlying Tryd.underlying22, hzc, hst]
theorem compact_few (A : Option Addr) (n c : Nat) (w : World) (h : n < 2) :
    Calls Tryd.prog 69 #[.slice A n c] w fun e w' => e = .returned (.slice A n c) ∧ Below w.heap.size w w' := by
  have t0 : decide ((n : Int) < 2) = true := decide_eq_true (by omega)
  have t1 : (n : Int) < 2 := by omega
  go_enter Tryd.func69, Tryd.ntmps69
  go_wp2_with fail
  go_ret
  exact ⟨rfl, Below.refl _ _⟩
def CptPost (g cap : Nat) (l : List (Int × Int)) (w : World) (e : Ending) (w' : World) : Prop :=
  e = .returned (.slice (some ⟨g, 0, none⟩) l.length cap) ∧ EL w' (some ⟨g, 0, none⟩) l.length l ∧ Below g w w'
theorem el_cells {w : World} {g : Nat} {d : List (Int × Int)} {tl : List Value} (h : Cells w g (flat d ++ tl)) : EL w (some ⟨g, 0, none⟩) d.length d :=
  ⟨rfl, fun k e hk => ⟨g, 0, rfl, h.lt, by rw [Nat.zero_add]; exact (flat_cell h hk).1, by rw [Nat.zero_add]; exact (flat_cell h hk).2⟩⟩
set_option maxRecDepth 100000 in
set_option maxHeartbeats 8000000 in
theorem compact_any (g cap : Nat) (d : List (Int × Int)) (tl : List Value) (w : World) (h : Cells w g (flat d ++ tl)) (h2 : 2 ≤ d.length) (hl : d.length ≤ 100000) (hcap : d.length ≤ cap) :
    Calls Tryd.prog 69 #[.slice (some ⟨g, 0, none⟩) d.length cap] w (CptPost g cap (compT d d.length) w) := by
  have C0 := Lib.hid h
  obtain ⟨n, hn⟩ : ∃ n, d.length = n := ⟨_, rfl⟩
  rw [hn] at h2 hl hcap ⊢
  have Hn := Lib.hid hn
  have t0 : decide ((n : Int) < 2) = false := decide_eq_false (by omega)
  have t1 : ¬ (n : Int) < 2 := by omega
  obtain ⟨y0, hy0⟩ : ∃ y0, d[0]? = some y0 := ⟨_, List.getElem?_eq_getElem (by omega)⟩
  have H0 := Lib.hid (compT_start hy0)
  clear h hn hy0
  go_enter Tryd.func69, Tryd.ntmps69
  go_wp2_with fail
  go_loopw [3] (fun kv wr => ∃ k : Nat, kv = .int .i64 (k : Nat) ∧ 1 ≤ k ∧ k ≤ n ∧ compT d k = d.take k ∧ Cells wr g (flat d ++ tl) ∧ Below g w wr) (fun kv _ => n - (intOf kv).toNat)
  case atStart => exact ⟨1, rfl, Nat.le_refl _, by omega, H0.out, C0.out, Below.refl _ _⟩
  case round =>
    obtain ⟨k, rfl, hk1, hk2, hc, hcell, hb⟩ := hrel
    have Hc := Lib.hid hc
    have C6 := Lib.hid hcell
    have B6 := Lib.hid hb
    clear hc hcell hb
    obtain ⟨wa, rfl⟩ : ∃ wa : World, wa = wr := ⟨_, rfl⟩
    by_cases hlt : k < n
    · obtain ⟨⟨x0, x1⟩, hx⟩ : ∃ x, d[k - 1]? = some x := ⟨_, List.getElem?_eq_getElem (by rw [Hn.out]; omega)⟩
      obtain ⟨⟨z0, z1⟩, hz⟩ : ∃ z, d[k]? = some z := ⟨_, List.getElem?_eq_getElem (by rw [Hn.out]; exact hlt)⟩
      obtain ⟨c0, c1⟩ := flat_cell C6.out hx
      obtain ⟨d0, d1⟩ := flat_cell C6.out hz
      simp only at c0 c1 d0 d1
      have ew : IntKind.i64.wrap ((k : Int) - 1) = (k : Int) - 1 := IntWalk.i64_in _ (by omega)
      have i1 : (1 : Int) ≤ (k : Int) := by omega
      have i2 : (k : Int) - 1 < n := by omega
      have i3 : ((k : Int) - 1).toNat = k - 1 := by omega
      have Hx := Lib.hid hx
      have Hz := Lib.hid hz
      have Hlt := Lib.hid hlt
      clear hx hz
      by_cases he : z0 = x0 ∧ z1 = x1
      · obtain ⟨rfl, rfl⟩ := he
        have Hst := Lib.hid (show compT d (k + 1) = d.take k by rw [compT_old (by omega) Hx.out Hz.out]; exact Hc.out)
        go_wp2_with fail
        go_still_tail 9, (by kernel_rfl)
        change wpList _ _ _ _ _ wa.drew
        obtain ⟨r, hr⟩ : ∃ r, n - k = r := ⟨_, rfl⟩
        obtain ⟨cr, hcr⟩ : ∃ cr, cap - k = cr := ⟨_, rfl⟩
        have Hr := Lib.hid hr
        have Hr1 := Lib.hid (show 1 ≤ r by omega)
        go_wp2_with fail
        clear c0 c1 d0 d1 ew i1 i2 i3 hlt
        go_loopw [3, 5] (fun kv jv wr => ∃ (k' j : Nat) (c : List (Int × Int)), kv = .int .i64 (k' : Nat) ∧ jv = .int .i64 (j : Nat) ∧ 1 ≤ j ∧ j ≤ r ∧ 1 ≤ k' ∧ k' + 1 ≤ k + j ∧ c.length = n ∧ c.take k' = compT d (k + j) ∧ (∀ i, k + j ≤ i + 1 → c[i]? = d[i]?) ∧ Cells wr g (flat c ++ tl) ∧ Below g w wr) (fun _ jv _ => r - (intOf jv).toNat)
        case atStart => exact ⟨k, 1, d, rfl, rfl, Nat.le_refl _, Hr1.out, hk1, by omega, Hn.out, Hst.out.symm, fun _ _ => rfl, C6.out.drew, B6.out.drew⟩
        case round =>
          obtain ⟨k', j, c, rfl, rfl, hj1, hj2, hk1', hkj, hcl, htk, heq, hcell, hb⟩ := hrel
          have Hcl := Lib.hid hcl
          have Htk := Lib.hid htk
          have Heq := Lib.hid heq
          have C7 := Lib.hid hcell
          have B7 := Lib.hid hb
          clear hcl htk heq hcell hb
          obtain ⟨wb, rfl⟩ : ∃ wb : World, wb = wr := ⟨_, rfl⟩
          by_cases hjr : j < r
          · obtain ⟨⟨x0, x1⟩, hx⟩ : ∃ x, d[k + j - 1]? = some x := ⟨_, List.getElem?_eq_getElem (by rw [Hn.out]; have := Hr.out; omega)⟩
            obtain ⟨⟨y0, y1⟩, hy⟩ : ∃ y, d[k + j]? = some y := ⟨_, List.getElem?_eq_getElem (by rw [Hn.out]; have := Hr.out; omega)⟩
            obtain ⟨c0, c1⟩ := flat_cell C7.out ((Heq.out (k + j - 1) (by omega)).trans hx)
            obtain ⟨d0, d1⟩ := flat_cell C7.out ((Heq.out (k + j) (by omega)).trans hy)
            rw [show (k + j - 1) * 2 = k * 2 + (j - 1) * 2 by omega] at c0 c1
            rw [Nat.add_mul] at d0 d1
            simp only at c0 c1 d0 d1
            have ew : IntKind.i64.wrap ((j : Int) - 1) = (j : Int) - 1 := IntWalk.i64_in _ (by have := Hr.out; omega)
            have i1 : (1 : Int) ≤ (j : Int) := by omega
            have i2 : (j : Int) - 1 < r := by omega
            have i3 : ((j : Int) - 1).toNat = j - 1 := by omega
            have Hx := Lib.hid hx
            have Hy := Lib.hid hy
            have Hjr := Lib.hid hjr
            clear hx hy
            by_cases he2 : y0 = x0 ∧ y1 = x1
            · obtain ⟨rfl, rfl⟩ := he2
              have Hst2 := Lib.hid (show compT d (k + j + 1) = c.take k' by rw [compT_old (by omega) Hx.out Hy.out]; exact Htk.out.symm)
              have Heq2 := Lib.hid (fun i (hi : k + (j + 1) ≤ i + 1) => Heq.out i (by omega))
              go_wp2_with fail
              go_still_tail 9, (by kernel_rfl)
              change wpList _ _ _ _ _ wb.drew
              go_wp2_with fail
              go_roundw
              case rel => exact ⟨k', j + 1, c, rfl, by go_num, by omega, Hjr.out, hk1', by omega, Hcl.out, Hst2.out.symm, Heq2.out, C7.out.drew, B7.out.drew⟩
              case measure => simp [intOf]; have := Hjr.out; omega
            · have hne : ((x0, x1) : Int × Int) ≠ (y0, y1) := fun e => by injection e with e1 e2; exact he2 ⟨e1.symm, e2.symm⟩
              have hk'n : k' < n := by have := Hr.out; omega
              have Hst2 := Lib.hid (show compT d (k + j + 1) = (c.set k' (y0, y1)).take (k' + 1) by
                rw [compT_new (by omega) Hx.out Hy.out hne, ← Htk.out, List.take_add_one, List.take_set_of_le (Nat.le_refl _), List.getElem?_set_self (by rw [Hcl.out]; exact hk'n)]
                rfl)
              have Heq2 := Lib.hid (fun i (hi : k + (j + 1) ≤ i + 1) => show (c.set k' (y0, y1))[i]? = d[i]? by rw [List.getElem?_set_ne (by omega)]; exact Heq.out i (by omega))
              have hk'i : (k' : Int) < n := by omega
              obtain ⟨⟨u0, u1⟩, hu⟩ : ∃ u, c[k']? = some u := ⟨_, List.getElem?_eq_getElem (by rw [Hcl.out]; exact hk'n)⟩
              obtain ⟨e0, e1⟩ := flat_cell C7.out hu
              have f0 := C7.out.fz (k' * 2)
              have f1 := C7.out.fz (k' * 2 + 1)
              simp only at e0 e1
              have hls : (flat c ++ tl).length = n * 2 + tl.length := by rw [List.length_append, flat_len, Hcl.out]
              have C8 := (C7.out.drew.set (k' * 2) (.int .i64 y0) (by rw [hls]; omega)).set (k' * 2 + 1) (.int .i64 y1) (by rw [List.length_set, hls]; omega)
              rw [show ((flat c ++ tl).set (k' * 2) (.int .i64 y0)).set (k' * 2 + 1) (.int .i64 y1) = flat (c.set k' (y0, y1)) ++ tl from flat_set (y := (y0, y1)) (by rw [Hcl.out]; exact hk'n)] at C8
              have C8 := Lib.hid C8
              have B8 := Lib.hid ((B7.out.drew.setCell (p := ⟨g, k' * 2, none⟩) (Nat.le_refl _) (.int .i64 y0)).setCell (p := ⟨g, k' * 2 + 1, none⟩) (Nat.le_refl _) (.int .i64 y1))
              have Hcl2 := Lib.hid (show (c.set k' (y0, y1)).length = n by rw [List.length_set]; exact Hcl.out)
              clear hu hls hne
              by_cases h1 : y0 = x0
              · subst h1
                have h2 : ¬ y1 = x1 := fun e => he2 ⟨rfl, e⟩
                have t2 : (y1 == x1) = false := by rw [beq_eq_false_iff_ne]; exact h2
                clear he2
                go_wp2_with fail
                go_still_tail 9, (by kernel_rfl)
                change wpList _ _ _ _ _ wb.drew
                go_wp2_with fail
                go_roundw
                case rel => exact ⟨k' + 1, j + 1, _, by go_num, by go_num, by omega, Hjr.out, by omega, by omega, Hcl2.out, Hst2.out.symm, Heq2.out, C8.out, B8.out⟩
                case measure => simp [intOf]; have := Hjr.out; omega
              · have t2 : (y0 == x0) = false := by rw [beq_eq_false_iff_ne]; exact h1
                clear he2
                go_wp2_with fail
                go_still_tail 9, (by kernel_rfl)
                change wpList _ _ _ _ _ wb.drew
                go_wp2_with fail
                go_roundw
                case rel => exact ⟨k' + 1, j + 1, _, by go_num, by go_num, by omega, Hjr.out, by omega, by omega, Hcl2.out, Hst2.out.symm, Heq2.out, C8.out, B8.out⟩
                case measure => simp [intOf]; have := Hjr.out; omega
          · have hjr' : k + j = n := by have := Hr.out; omega
            have Hf := Lib.hid (show c.take k' = compT d n by rw [← hjr']; exact Htk.out)
            have hk'n : k' < n := by omega
            have Hl := Lib.hid (show (compT d n).length = k' by rw [← Hf.out, List.length_take, Hcl.out]; omega)
            have hls : (flat c ++ tl).length = n * 2 + tl.length := by rw [List.length_append, flat_len, Hcl.out]
            have hd := Lib.hid (fun ty => run_clear_edges wb ty g (k' * 2) (n - k') (cap - k') (by omega) (fun q hq => by rw [C7.out.at_, List.getElem?_eq_getElem (by rw [hls]; omega)]; rfl) (fun q _ => C7.out.fz _))
            have hclr := hd.out
            have R8 := Lib.hid (show EL (wb.setCells g (k' * 2) (zers (n - k'))) (some ⟨g, 0, none⟩) k' (compT d n) from ⟨Hl.out, fun q e hq => by
              have hqk : q < k' := by
                rcases Nat.lt_or_ge q (compT d n).length with h1 | h1
                · rw [Hl.out] at h1; exact h1
                · rw [List.getElem?_eq_none h1] at hq; cases hq
              rw [← Hf.out, List.getElem?_take_of_lt hqk] at hq
              obtain ⟨c0, c1⟩ := flat_cell C7.out hq
              refine ⟨g, 0, rfl, ?_, ?_, ?_⟩
              · have := (Go.below_setCells (B := g) (a := wb) (b := g) (Nat.le_refl _) (zers (n - k')) (k' * 2) wb (Below.refl g wb)).size
                have := C7.out.lt
                omega
              · rw [World.cell?_setCells_out g _ (k' * 2) wb _ (fun _ _ => .inl (by simp; omega)), Nat.zero_add]; exact c0
              · rw [World.cell?_setCells_out g _ (k' * 2) wb _ (fun _ _ => .inl (by simp; omega)), Nat.zero_add]; exact c1⟩)
            have B8 := Lib.hid (Go.below_setCells (b := g) (Nat.le_refl _) (zers (n - k')) (k' * 2) wb B7.out)
            have hk'i : (k' : Int) ≤ n := by omega
            clear hls hd hjr'
            go_wp2_with fail
            go_ret
            refine ⟨by rw [Hl.out]; rfl, by rw [Hl.out]; exact R8.out, B8.out⟩
      · have hne : ((x0, x1) : Int × Int) ≠ (z0, z1) := fun e => by injection e with e1 e2; exact he ⟨e1.symm, e2.symm⟩
        have Hst := Lib.hid (show compT d (k + 1) = d.take (k + 1) by rw [compT_new (by omega) Hx.out Hz.out hne, Hc.out, List.take_add_one, Hz.out]; rfl)
        clear hne
        by_cases h1 : z0 = x0
        · subst h1
          have h2 : ¬ z1 = x1 := fun e => he ⟨rfl, e⟩
          have t2 : (z1 == x1) = false := by rw [beq_eq_false_iff_ne]; exact h2
          clear he
          go_wp2_with fail
          go_still_tail 9, (by kernel_rfl)
          change wpList _ _ _ _ _ wa.drew
          go_wp2_with fail
          go_roundw
          case rel => exact ⟨k + 1, by go_num, by omega, Hlt.out, Hst.out, C6.out.drew, B6.out.drew⟩
          case measure => simp [intOf]; have := Hlt.out; omega
        · have t2 : (z0 == x0) = false := by rw [beq_eq_false_iff_ne]; exact h1
          clear he
          go_wp2_with fail
          go_still_tail 9, (by kernel_rfl)
          change wpList _ _ _ _ _ wa.drew
          go_wp2_with fail
          go_roundw
          case rel => exact ⟨k + 1, by go_num, by omega, Hlt.out, Hst.out, C6.out.drew, B6.out.drew⟩
          case measure => simp [intOf]; have := Hlt.out; omega
    · have hkn : k = n := by omega
      have Hf := Lib.hid (show compT d n = d by rw [← hkn, Hc.out, List.take_of_length_le (by rw [Hn.out]; omega)])
      have He := Lib.hid (el_cells C6.out)
      rw [Hn.out] at He
      clear hkn
      go_wp2_with fail
      go_ret
      refine ⟨by rw [Hf.out, Hn.out]; rfl, by rw [Hf.out, Hn.out]; exact He.out, B6.out⟩
end Go.Proofs.YtdpfoegcmngdfaaDoor
namespace Go.Proofs.YtdpfoegcmngdfaaDoor
open Go.RowKit
def hasE (es : List (Nat × Nat)) (a b : Nat) : Bool := es.any fun e => e.1 == a && e.2 == b
theorem hasE_iff {es : List (Nat × Nat)} {a b : Nat} : hasE es a b = true ↔ (adj es a).testBit b = true := by
  unfold hasE
  rw [adj_bit, List.any_eq_true]
  constructor
  · rintro ⟨⟨x, y⟩, he, h⟩
    simp only [Bool.and_eq_true, beq_iff_eq] at h
    obtain ⟨rfl, rfl⟩ := h
    exact he
  · intro h
    exact ⟨_, h, by simp⟩
def TabA (B : Nat) (w : World) (T : Option Addr) (n : Nat) (F : Nat → Nat → Int) : Prop :=
  ∀ a, a < n → ∃ g p, T = some ⟨g, 0, none⟩ ∧ g < B ∧ p < B ∧ g < w.heap.size ∧ w.cell? ⟨g, a, none⟩ = some (.slice (some ⟨p, 0, none⟩) n n) ∧ Cells w p (numsN n (F a))
theorem TabA.keepB {B B' : Nat} {w w' : World} {T : Option Addr} {n : Nat} {F : Nat → Nat → Int} (h : TabA B w T n F) (hb : Below B' w w') (hB : B ≤ B') : TabA B w' T n F :=
  fun a ha => let ⟨g, p, e, h1, h2, h3, h4, h5⟩ := h a ha; ⟨g, p, e, h1, h2, Nat.lt_of_lt_of_le h3 hb.size, (hb.cell (p := ⟨g, a, none⟩) (show g < B' by omega)).trans h4, h5.keepB hb (by omega)⟩
theorem TabA.keep {B : Nat} {w w' : World} {T : Option Addr} {n : Nat} {F : Nat → Nat → Int} (h : TabA B w T n F) (hb : Below w.heap.size w w') : TabA B w' T n F :=
  fun a ha => let ⟨g, p, e, h1, h2, h3, h4, h5⟩ := h a ha; ⟨g, p, e, h1, h2, Nat.lt_of_lt_of_le h3 hb.size, (hb.cell (p := ⟨g, a, none⟩) h3).trans h4, h5.keep hb⟩
end Go.Proofs.YtdpfoegcmngdfaaDoor
namespace Go.Proofs.YtdpfoegcmngdfaaDoor
open Go.RowKit
set_option maxRecDepth 100000 in
set_option maxHeartbeats 8000000 in
theorem clone_own (A : Option Addr) (m c : Nat) (es : List (Int × Int)) (w : World) (h : EL w A m es) (hm : m ≤ 100000) :
    Calls Tryd.prog 66 #[.slice A m c] w fun e w' => ∃ v, e = .returned v ∧ w'.ownsRow w.heap.size 75 2 v es.length (Go.Proofs.YtdpfoegcmngdfaaDoor.flat es) ∧ Below w.heap.size w w' := by
  obtain ⟨i0, hi, hz0, hz1, hz2⟩ := info_parts info_edge
  have hel := h.1
  cases A with
  | none =>
    have hes : es = [] := by
      cases es with
      | nil => rfl
      | cons x l => obtain ⟨b, o, e1, _⟩ := h.2 0 x rfl; cases e1
    subst hes
    have hm0 : m = 0 := hel.symm
    subst hm0
    have t0 := fun w' => eql_edges_nil w' none 0 c
    simp only [Option.isNone_none] at t0
    clear h hm hel
    go_enter Tryd.func66, Tryd.ntmps66
    go_wp2_with fail
    go_ret
    exact ⟨_, rfl, World.ownsRow_nil _ _ _ _, Below.refl _ _⟩
  | some ad =>
    have hF := Lib.hid ((h.keep ((Below.refl w.heap.size w).alloc (Nat.le_refl _) (.cells #[] 75))).flat)
    have hfl := Lib.hid (show (Go.Proofs.YtdpfoegcmngdfaaDoor.flat es).length = m * 2 from by
      rw [← hel]; exact flat_len es)
    have hone := Lib.hid (show ∀ u ∈ Go.Proofs.YtdpfoegcmngdfaaDoor.flat es, u.oneCell' = true from fun u hu => by
      unfold Go.Proofs.YtdpfoegcmngdfaaDoor.flat at hu
      obtain ⟨e, _, he⟩ := List.mem_flatMap.1 hu
      simp at he
      rcases he with rfl | rfl <;> rfl)
    have t0 := fun w' => eql_edges_nil w' (some ad) m c
    simp only [Option.isNone_some] at t0
    have O0 := Lib.hid (show (w.alloc (.cells #[] 75)).ownsRow w.heap.size 75 2 (.slice (some ⟨w.heap.size, 0, none⟩) 0 0) 0 [] from ⟨rfl, .inr ⟨w.heap.size, 0, #[], rfl, Nat.le_refl _, heap_new w _, Nat.le_refl _, by unfold maxLen; omega, rfl, rfl⟩⟩)
    have hel := Lib.hid hel
    clear h
    go_enter Tryd.func66, Tryd.ntmps66
    go_wp2_with (at_builtin; refine wpList_append_own_wide _ rfl (.tmp 5) (.tmp 6) 22 rfl w.heap.size 75 i0 (.agg #[.int .i64 0, .int .i64 0]) 2 16 Tryd.underlying22 hi hz0 hz1 hz2 rfl (by decide) _ 0 [] rfl O0.out ad m c (Go.Proofs.YtdpfoegcmngdfaaDoor.flat es) rfl hfl.out hF.out hone.out (by unfold maxLen; omega) (by omega) (by simp) ?_)
    intro v' w3 hown' hgrow _
    have B8 := Lib.hid (((Below.refl w.heap.size w).alloc (Nat.le_refl _) (.cells #[] 75)).grown hgrow (by simp) (fun k hk => own_ge O0.out hk))
    (try simp only [List.nil_append, Nat.zero_add] at hown')
    rw [← hel.out] at hown'
    have O8 := Lib.hid hown'
    clear hown' hgrow
    go_wp2_with fail
    go_ret
    exact ⟨_, rfl, O8.out, B8.out⟩
def makeL (n : Nat) (es : List (Nat × Nat)) : List (Nat × Nat) := (List.range n).flatMap fun a => ((List.range n).filter (hasE es a)).map fun b => (a, b)
def rE (x y : Int × Int) : Prop := x.1 < y.1 ∨ (x.1 = y.1 ∧ x.2 < y.2)
theorem sorted_same : ∀ {l1 l2 : List (Int × Int)}, l1.Pairwise rE → l2.Pairwise rE → (∀ x, x ∈ l1 ↔ x ∈ l2) → l1 = l2
  | [], [], _, _, _ => rfl
  | [], b :: l2, _, _, h => by have := (h b).2 (List.mem_cons_self ..); cases this
  | a :: l1, [], _, _, h => by have := (h a).1 (List.mem_cons_self ..); cases this
  | a :: l1, b :: l2, h1, h2, h => by
    rw [List.pairwise_cons] at h1 h2
    have irr : ∀ x, ¬ rE x x := fun x hx => by unfold rE at hx; omega
    have asy : ∀ x y, rE x y → ¬ rE y x := fun x y h1 h2 => by unfold rE at h1 h2; omega
    have e : a = b := by
      rcases List.mem_cons.1 ((h a).1 (List.mem_cons_self ..)) with h3 | h3
      · exact h3
      · rcases List.mem_cons.1 ((h b).2 (List.mem_cons_self ..)) with h4 | h4
        · exact h4.symm
        · exact absurd (h1.1 b h4) (asy _ _ (h2.1 a h3))
    subst e
    rw [sorted_same h1.2 h2.2 fun x => ?_]
    constructor
    · intro hx
      rcases List.mem_cons.1 ((h x).1 (List.mem_cons_of_mem _ hx)) with h3 | h3
      · rw [h3] at hx; exact absurd (h1.1 a hx) (irr a)
      · exact h3
    · intro hx
      rcases List.mem_cons.1 ((h x).2 (List.mem_cons_of_mem _ hx)) with h3 | h3
      · rw [h3] at hx; exact absurd (h2.1 a hx) (irr a)
      · exact h3
theorem mem_make {n : Nat} {es : List (Nat × Nat)} (hl : Low n es) {e : Nat × Nat} : e ∈ makeL n es ↔ e ∈ es := by
  obtain ⟨x, y⟩ := e
  unfold makeL
  rw [List.mem_flatMap]
  constructor
  · rintro ⟨a, ha, h⟩
    obtain ⟨b, hb, e⟩ := List.mem_map.1 h
    injection e with e1 e2
    subst e1 e2
    exact adj_bit.1 (hasE_iff.1 (List.mem_filter.1 hb).2)
  · intro h
    have := hl _ h
    exact ⟨x, List.mem_range.2 this.1, List.mem_map.2 ⟨y, List.mem_filter.2 ⟨List.mem_range.2 this.2, hasE_iff.2 (adj_bit.2 h)⟩, rfl⟩⟩
theorem make_sorted (n : Nat) (es : List (Nat × Nat)) : (cast (makeL n es)).Pairwise rE := by
  unfold cast makeL
  rw [List.pairwise_map, List.pairwise_flatMap]
  constructor
  · intro a _
    rw [List.pairwise_map]
    refine (List.Pairwise.filter _ List.pairwise_lt_range).imp fun h => ?_
    unfold rE
    simp
    exact h
  · refine List.pairwise_lt_range.imp fun h x hx y hy => ?_
    obtain ⟨p, _, rfl⟩ := List.mem_map.1 hx
    obtain ⟨q, _, rfl⟩ := List.mem_map.1 hy
    unfold rE
    simp
    omega
theorem compT_sorted {ss : List (Int × Int)} (hs : ∀ i j, i < j → j < ss.length → ltOf cmpE ss.toArray[j]! ss.toArray[i]! = false) : ∀ i, i ≤ ss.length →
    (∀ x, x ∈ compT ss i ↔ x ∈ ss.take i) ∧ (compT ss i).Pairwise rE ∧ ∀ x ∈ compT ss i, ∀ z, 0 < i → ss[i - 1]? = some z → x = z ∨ rE x z
  | 0, _ => ⟨fun x => by simp [compT], by simp [compT], fun x hx => by simp [compT] at hx⟩
  | i + 1, hi => by
    obtain ⟨h1, h2, h3⟩ := compT_sorted hs i (by omega)
    obtain ⟨y, hy⟩ : ∃ y, ss[i]? = some y := ⟨_, List.getElem?_eq_getElem (by omega)⟩
    have ht : ss.take (i + 1) = ss.take i ++ [y] := by rw [List.take_add_one, hy]; rfl
    rcases Nat.eq_zero_or_pos i with h0 | h0
    · subst h0
      have e : compT ss (0 + 1) = [y] := by rw [compT, hy]; simp [compT]
      rw [e, ht]
      refine ⟨fun x => by simp, List.pairwise_singleton _ _, fun x hx z _ hz => ?_⟩
      rw [show 0 + 1 - 1 = 0 from rfl, hy] at hz
      injection hz with hz
      exact .inl (by rw [List.mem_singleton.1 hx, hz])
    · obtain ⟨x0, hx0⟩ : ∃ x0, ss[i - 1]? = some x0 := ⟨_, List.getElem?_eq_getElem (by omega)⟩
      have hno := hs (i - 1) i (by omega) (by omega)
      have ga : ss.toArray[i]! = y := by
        rw [getElem!_pos ss.toArray i (by simp; omega)]
        have := hy
        rw [List.getElem?_eq_getElem (by omega)] at this
        injection this
      have gb : ss.toArray[i - 1]! = x0 := by
        rw [getElem!_pos ss.toArray (i - 1) (by simp; omega)]
        have := hx0
        rw [List.getElem?_eq_getElem (by omega)] at this
        injection this
      rw [ga, gb, ltE_not] at hno
      by_cases e : x0 = y
      · subst e
        rw [compT_old h0 hx0 hy, ht]
        refine ⟨fun x => ?_, h2, fun x hx z _ hz => ?_⟩
        · rw [h1, List.mem_append, List.mem_singleton]
          constructor
          · exact .inl
          · rintro (h | h)
            · exact h
            · rw [h]
              refine List.mem_of_getElem? (i := i - 1) ?_
              rw [List.getElem?_take_of_lt (by omega)]
              exact hx0
        · rw [show i + 1 - 1 = i from rfl, hy] at hz
          injection hz with hz
          rw [← hz]
          exact h3 x hx x0 h0 hx0
      · have hlt : rE x0 y := by
          obtain ⟨a, b⟩ := x0
          obtain ⟨p, q⟩ := y
          unfold rE
          simp only at hno ⊢
          have : ¬ (a = p ∧ b = q) := fun ⟨e1, e2⟩ => e (by rw [e1, e2])
          omega
        have hall : ∀ x ∈ compT ss i, rE x y := fun x hx => by
          rcases h3 x hx x0 h0 hx0 with h4 | h4
          · rw [h4]; exact hlt
          · unfold rE at h4 hlt ⊢; omega
        rw [compT_new h0 hx0 hy e, ht]
        refine ⟨fun x => by rw [List.mem_append, List.mem_append, h1], ?_, fun x hx z _ hz => ?_⟩
        · rw [List.pairwise_append]
          refine ⟨h2, List.pairwise_singleton _ _, fun a ha b hb => ?_⟩
          rw [List.mem_singleton.1 hb]
          exact hall a ha
        · rw [show i + 1 - 1 = i from rfl, hy] at hz
          injection hz with hz
          rcases List.mem_append.1 hx with h4 | h4
          · exact .inr (by rw [← hz]; exact hall x h4)
          · exact .inl (by rw [List.mem_singleton.1 h4, hz])
theorem cast_mem {es : List (Nat × Nat)} {x : Int × Int} : x ∈ cast es ↔ ∃ e ∈ es, x = ((e.1 : Int), (e.2 : Int)) := by
  unfold cast
  rw [List.mem_map]
  exact ⟨fun ⟨e, h, he⟩ => ⟨e, h, he.symm⟩, fun ⟨e, h, he⟩ => ⟨e, h, he.symm⟩⟩
theorem comp_make {n : Nat} {es : List (Nat × Nat)} {ss : List (Int × Int)} (hl : Low n es) (hp : ss.Perm (cast es)) (hs : ∀ i j, i < j → j < ss.length → ltOf cmpE ss.toArray[j]! ss.toArray[i]! = false) : compT ss ss.length = cast (makeL n es) := by
  obtain ⟨h1, h2, _⟩ := compT_sorted hs ss.length (Nat.le_refl _)
  refine sorted_same h2 (make_sorted n es) fun x => ?_
  rw [h1, List.take_length, hp.mem_iff, cast_mem, cast_mem]
  constructor
  · rintro ⟨e, he, rfl⟩; exact ⟨e, (mem_make hl).2 he, rfl⟩
  · rintro ⟨e, he, rfl⟩; exact ⟨e, (mem_make hl).1 he, rfl⟩
def OwnE (base : Nat) (w : World) (v : Value) (ss : List (Int × Int)) : Prop :=
  (ss = [] ∧ ∃ p c, v = .slice p 0 c) ∨ ∃ g cap cur, v = .slice (some ⟨g, 0, none⟩) ss.length cap ∧ base ≤ g ∧ w.heap[g]? = some (.cells cur 75 (0, 0)) ∧ cur.toList.take (ss.length * 2) = flat ss ∧ ss.length ≤ cap
theorem OwnE.of_own {base : Nat} {w : World} {v : Value} {es : List (Int × Int)} (h : w.ownsRow base 75 2 v es.length (flat es)) : OwnE base w v es := by
  rcases h.2 with ⟨rfl, h0⟩ | ⟨g, cap, cur, rfl, hg, hh, hnc, hcm, hcs, hx⟩
  · exact .inl ⟨List.eq_nil_of_length_eq_zero h0, none, 0, rfl⟩
  · exact .inr ⟨g, cap, cur, rfl, hg, hh, hx, hnc⟩
theorem sort_all {base : Nat} {w : World} {v : Value} {es : List (Int × Int)} (h : OwnE base w v es) (hl : es.length ≤ 100000) :
    Calls Tryd.prog 67 #[v, .func (.func 68) #[] #[]] w fun e w' => e = .returned (.tuple #[]) ∧ ∃ ss, ss.Perm es ∧ (∀ i j, i < j → j < ss.length → ltOf cmpE ss.toArray[j]! ss.toArray[i]! = false) ∧ OwnE base w' v ss ∧ Below base w w' := by
  rcases h with ⟨rfl, p, c, rfl⟩ | ⟨g, cap, cur, rfl, hg, hh, hc, hcap⟩
  · refine (AnyF.slices_SortFunc_none Tryd.sortE p c _ w).mono fun e w' ⟨h1, h2⟩ => ⟨h1, [], List.Perm.refl _, fun i j _ hj => by simp at hj, .inl ⟨rfl, p, c, rfl⟩, by rw [h2]; exact Below.refl _ _⟩
  · refine (sortF_any g cap _ es cur w hh hc hl).mono fun e w' ⟨h1, cur', ss, hp, hs, hh', _, hc', hb⟩ => ⟨h1, ss, hp, hs, .inr ⟨g, cap, cur', ?_, hg, hh', ?_, ?_⟩, hb.mono hg⟩
    · rw [hp.length_eq]
    · rw [hp.length_eq]; exact hc'
    · rw [hp.length_eq]; exact hcap
theorem compact_all {base : Nat} {w : World} {v : Value} {ss : List (Int × Int)} (h : OwnE base w v ss) (hl : ss.length ≤ 100000) (hbw : base ≤ w.heap.size) :
    Calls Tryd.prog 69 #[v] w fun e w' => ∃ B c, e = .returned (.slice B (compT ss ss.length).length c) ∧ EL w' B (compT ss ss.length).length (compT ss ss.length) ∧ (∀ b o, B = some ⟨b, o, none⟩ → base ≤ b ∨ (compT ss ss.length) = []) ∧ Below base w w' := by
  rcases h with ⟨rfl, p, c, rfl⟩ | ⟨g, cap, cur, rfl, hg, hh, hc, hcap⟩
  · exact (compact_few p 0 c w (by decide)).mono fun e w' ⟨h1, h2⟩ => ⟨p, c, h1, ⟨rfl, fun k e hk => by simp [compT] at hk⟩, fun b o _ => .inr rfl, h2.mono hbw⟩
  · have hcl : Cells w g (flat ss ++ cur.toList.drop (ss.length * 2)) := by
      rw [← hc, List.take_append_drop]
      exact Cells.of_row hh
    by_cases h2 : ss.length < 2
    · have e : compT ss ss.length = ss := by
        match ss, h2 with
        | [], _ => rfl
        | [x], _ => rfl
      rw [e]
      exact (compact_few _ _ cap w h2).mono fun e w' ⟨h1, h2⟩ => ⟨_, cap, h1, (el_cells hcl).keep h2, fun b o hb => by cases hb; exact .inl hg, h2.mono hbw⟩
    · exact (compact_any g cap ss _ w hcl (by omega) hl hcap).mono fun e w' ⟨h1, h2, h3⟩ => ⟨_, cap, h1, h2, fun b o hb => by cases hb; exact .inl hg, h3.mono hg⟩
theorem edges_cast {k : Nat} {l : List (Nat × Nat)} (hl : Low k l) : edgesE (k : Int) (cast l) = 0 := by
  unfold edgesE
  rw [if_pos]
  rw [List.all_eq_true]
  intro x hx
  obtain ⟨e, he, rfl⟩ := cast_mem.1 hx
  have := hl e he
  unfold okE
  simp
  omega
theorem make_len {n : Nat} {es : List (Nat × Nat)} : (makeL n es).length ≤ n * n := by
  unfold makeL
  have : ∀ l : List Nat, (l.flatMap fun a => ((List.range n).filter (hasE es a)).map fun b => (a, b)).length ≤ l.length * n := by
    intro l
    induction l with
    | nil => simp
    | cons a l ih =>
      rw [List.flatMap_cons, List.length_append, List.length_map, List.length_cons, Nat.add_mul]
      have := List.length_filter_le (hasE es a) (List.range n)
      rw [List.length_range] at this
      omega
  have := this (List.range n)
  rwa [List.length_range] at this
def MakPost (k : Nat) (l : List (Nat × Nat)) (w : World) (e : Ending) (w' : World) : Prop :=
  (∃ B c, e = .returned (.tuple #[gV k B (makeL k l).length c, .int .i64 0]) ∧ EL w' B (makeL k l).length (cast (makeL k l)) ∧ ∀ b o, B = some ⟨b, o, none⟩ → w.heap.size ≤ b ∨ makeL k l = []) ∧ Below w.heap.size w w'
set_option maxRecDepth 100000 in
set_option maxHeartbeats 8000000 in
theorem make_ok (k : Nat) (A : Option Addr) (m c : Nat) (l : List (Nat × Nat)) (w : World) (h : EL w A m (cast l)) (hm : m ≤ 100000) (hl : Low k l) (hk : k ≤ 64) :
    Calls Tryd.prog 44 #[.int .i64 (k : Nat), .slice A m c] w (MakPost k l w) := by
  have kv := (Below.refl w.heap.size w).alloc (Nat.le_refl _) (.cells #[.int .i64 0, .slice none 0 0] 24)
  have X0 := Lib.hid (Cells.new w #[.int .i64 0, .slice none 0 0] 24)
  have HE := checkEdges_any (k : Int) A m c (cast l) (w.alloc (.cells #[.int .i64 0, .slice none 0 0] 24)) (h.keep kv) (by omega)
  rw [edges_cast hl] at HE
  have HE := Lib.hid HE
  have HC := Lib.hid (fun w' (hb : Below w.heap.size w w') => clone_own A m c (cast l) w' (h.keep hb) hm)
  have hml := h.1
  have Hcm := Lib.hid (fun ss hp hs => comp_make (ss := ss) hl hp hs)
  have t0 : decide ((k : Int) < 0) = false := decide_eq_false (by omega)
  have t1 : decide ((64 : Int) < (k : Int)) = false := decide_eq_false (by omega)
  have Kv := Lib.hid kv
  clear h hl kv
  go_enter Tryd.func44, Tryd.ntmps44
  go_wp2_with fail
  refine HE.out.mono ?_
  rintro e w1 ⟨rfl, hb1⟩
  have X1 := Lib.hid (X0.out.keep hb1)
  have B1 := Lib.hid (below_on Kv.out hb1)
  clear hb1
  go_wp2_with fail
  refine (HC.out _ B1.out).mono ?_
  rintro e w2 ⟨v, rfl, hown, hb2⟩
  have O2 := Lib.hid (OwnE.of_own hown)
  have X2 := Lib.hid (X1.out.keep hb2)
  have B2 := Lib.hid (below_on B1.out hb2)
  have hs12 := hb2.size
  have hx1 := X1.out.lt
  have HS := Lib.hid (sort_all O2.out (by omega))
  clear hown hb2
  go_wp2_with fail
  refine HS.out.mono ?_
  rintro e w3 ⟨rfl, ss, hp, hs, ho, hb3⟩
  have X3 := Lib.hid (X2.out.keepB hb3 hx1)
  have B3 := Lib.hid (B2.out.trans (hb3.mono B1.out.size))
  have hs23 := hb3.size
  have hsl : ss.length ≤ 100000 := by rw [hp.length_eq]; omega
  have HQ := compact_all ho hsl (by omega)
  rw [Hcm.out ss hp hs, cast_len] at HQ
  have HQ := Lib.hid HQ
  clear hp hs ho hb3
  go_wp2_with fail
  refine HQ.out.mono ?_
  rintro e w4 ⟨B, cB, rfl, hE, hBb, hb4⟩
  have X4 := Lib.hid (X3.out.keepB hb4 hx1)
  have B4 := B3.out.trans (hb4.mono B1.out.size)
  have x0 := X4.out.at_ 0
  have x1 := X4.out.at_ 1
  have f0 := X4.out.fz 0
  have f1 := X4.out.fz 1
  simp only [List.getElem?_cons_zero, List.getElem?_cons_succ] at x0 x1
  have X5 := Lib.hid ((X4.out.set 0 (.int .i64 (k : Nat)) (by simp)).set 1 (.slice B (makeL k l).length cB) (by simp))
  have E5 : EL ((w4.setCell ⟨w.heap.size, 0, none⟩ (.int .i64 (k : Nat))).setCell ⟨w.heap.size, 1, none⟩ (.slice B (makeL k l).length cB)) B (makeL k l).length (cast (makeL k l)) := by
    by_cases h0 : cast (makeL k l) = []
    · rw [h0] at hE ⊢
      exact ⟨hE.1, fun k e hk => by simp at hk⟩
    · have HBn : ∀ b o, B = some ⟨b, o, none⟩ → b ≠ w.heap.size := fun b o hb hh => by
        rcases hBb b o hb with h1 | h1
        · omega
        · exact h0 h1
      exact (hE.other HBn 0 _).other HBn 1 _
  have E5 := Lib.hid E5
  have HB5 := Lib.hid (show ∀ b o, B = some ⟨b, o, none⟩ → w.heap.size ≤ b ∨ makeL k l = [] from fun b o hb => by
    rcases hBb b o hb with h1 | h1
    · exact .inl (by omega)
    · right
      have := congrArg List.length h1
      rw [cast_len] at this
      exact List.eq_nil_of_length_eq_zero this)
  have B5 := Lib.hid ((B4.setCell (p := ⟨w.heap.size, 0, none⟩) (by simp) (.int .i64 (k : Nat))).setCell (p := ⟨w.heap.size, 1, none⟩) (by simp) (.slice B (makeL k l).length cB))
  clear hE hBb hb4 B4
  go_wp2_with fail
  exact bodyPost_ret (ret_graph rfl _ _ w.heap.size _ _ rfl X5.out) rfl ⟨⟨B, cB, rfl, E5.out, HB5.out⟩, B5.out⟩
end Go.Proofs.YtdpfoegcmngdfaaDoor
namespace Go.Proofs.YtdpfoegcmngdfaaDoor
open Go.RowKit
set_option maxRecDepth 100000 in
set_option maxHeartbeats 8000000 in
theorem make_bad (n : Int) (A : Option Addr) (m c : Nat) (es : List (Int × Int)) (w : World) (h : EL w A m es) (hm : m ≤ 100000) (hb : n < 0 ∨ 64 < n ∨ es.all (okE n) = false) :
    Calls Tryd.prog 44 #[.int .i64 n, .slice A m c] w fun e w' => e = .returned (.tuple #[gV 0 none 0 0, .int .i64 2]) ∧ Below w.heap.size w w' := by
  have kv := (Below.refl w.heap.size w).alloc (Nat.le_refl _) (.cells #[.int .i64 0, .slice none 0 0] 24)
  have X0 := Cells.new w #[.int .i64 0, .slice none 0 0] 24
  have HE := checkEdges_any n A m c es (w.alloc (.cells #[.int .i64 0, .slice none 0 0] 24)) (h.keep kv) (by omega)
  by_cases h0 : n < 0
  · have t0 : decide (n < 0) = true := decide_eq_true h0
    clear h hm hb HE h0
    have X2 := Lib.hid X0
    have B2 := Lib.hid kv
    clear X0 kv
    go_enter Tryd.func44, Tryd.ntmps44
    go_wp2_with fail
    exact bodyPost_ret (ret_graph rfl _ _ w.heap.size _ _ rfl X2.out) rfl ⟨rfl, B2.out⟩
  by_cases h1 : 64 < n
  · have t0 : decide (n < 0) = false := decide_eq_false h0
    have t1 : decide ((64 : Int) < n) = true := decide_eq_true h1
    clear h hm hb HE h0 h1
    have X2 := Lib.hid X0
    have B2 := Lib.hid kv
    clear X0 kv
    go_enter Tryd.func44, Tryd.ntmps44
    go_wp2_with fail
    exact bodyPost_ret (ret_graph rfl _ _ w.heap.size _ _ rfl X2.out) rfl ⟨rfl, B2.out⟩
  · have t0 : decide (n < 0) = false := decide_eq_false h0
    have t1 : decide ((64 : Int) < n) = false := decide_eq_false h1
    have ha : es.all (okE n) = false := (hb.resolve_left h0).resolve_left h1
    unfold edgesE at HE
    rw [ha, if_neg (by simp)] at HE
    have HE := Lib.hid HE
    have X0 := Lib.hid X0
    have kv := Lib.hid kv
    clear h hm hb ha h0 h1
    go_enter Tryd.func44, Tryd.ntmps44
    go_wp2_with fail
    refine HE.out.mono ?_
    rintro e w1 ⟨rfl, hb1⟩
    have X1 := X0.out.keep hb1
    have B1 := below_on kv.out hb1
    have x0 := X1.at_ 0
    have x1 := X1.at_ 1
    have f0 := X1.fz 0
    have f1 := X1.fz 1
    simp only [List.getElem?_cons_zero, List.getElem?_cons_succ] at x0 x1
    have X2 := Lib.hid ((X1.set 0 (.int .i64 0) (by simp)).set 1 (.slice none 0 0) (by simp))
    have B2 := Lib.hid ((B1.setCell (p := ⟨w.heap.size, 0, none⟩) (by simp) (.int .i64 0)).setCell (p := ⟨w.heap.size, 1, none⟩) (by simp) (.slice none 0 0))
    clear X1 B1 hb1
    go_wp2_with fail
    exact bodyPost_ret (ret_graph rfl _ _ w.heap.size _ _ rfl X2.out) rfl ⟨rfl, B2.out⟩
theorem made_check {k : Nat} {l : List (Nat × Nat)} (hl : Low k l) (hk : k ≤ 64) : checkG (k : Int) (cast (makeL k l)) = 0 := by
  have hp := make_sorted k l
  have hall : (cast (makeL k l)).all (okE (k : Int)) = true := by
    rw [List.all_eq_true]
    intro x hx
    obtain ⟨e, he, rfl⟩ := cast_mem.1 hx
    have := hl e ((mem_make hl).1 he)
    unfold okE
    simp
    omega
  have hle := make_len (n := k) (es := l)
  refine checkG_ok (by omega) (by rw [cast_len]; exact_mod_cast hle) hall (Nat.le_refl _) fun i a b hi ha hb => ?_
  have h1 := List.pairwise_iff_getElem.1 hp i (i + 1) (by omega) hi (by omega)
  rw [List.getElem?_eq_getElem (by omega)] at ha
  rw [List.getElem?_eq_getElem hi] at hb
  injection ha with ha
  injection hb with hb
  rw [ha, hb] at h1
  have := (ltE_iff a b).2 h1
  unfold ltOf at this
  exact of_decide_eq_true this
theorem low_split {n : Int} {m : Nat} {es : List (Int × Int)} (hf : fewG n m = true) (h : ¬ (n < 0 ∨ 64 < n ∨ es.all (okE n) = false)) : ∃ (k : Nat) (l : List (Nat × Nat)), n = k ∧ es = cast l ∧ Low k l ∧ k ≤ 8 := by
  have hall : es.all (okE n) = true := by
    cases e : es.all (okE n) with
    | true => rfl
    | false => exact absurd (.inr (.inr e)) h
  unfold fewG at hf
  simp only [Bool.and_eq_true, Bool.or_eq_true, decide_eq_true_eq] at hf
  obtain ⟨k, rfl⟩ : ∃ k : Nat, n = k := ⟨n.toNat, by omega⟩
  rw [List.all_eq_true] at hall
  refine ⟨k, es.map fun e => (e.1.toNat, e.2.toNat), rfl, ?_, ?_, by omega⟩
  · unfold cast
    rw [List.map_map]
    rw [List.map_congr_left (g := id) fun x hx => ?_, List.map_id]
    have := hall x hx
    unfold okE at this
    simp only [Bool.and_eq_true, decide_eq_true_eq] at this
    obtain ⟨a, b⟩ := x
    simp only [Function.comp_apply, id] at this ⊢
    rw [Int.toNat_of_nonneg (by omega), Int.toNat_of_nonneg (by omega)]
  · intro e he
    obtain ⟨x, hx, rfl⟩ := List.mem_map.1 he
    have := hall x hx
    unfold okE at this
    simp only [Bool.and_eq_true, decide_eq_true_eq] at this
    simp only
    omega
end Go.Proofs.YtdpfoegcmngdfaaDoor
