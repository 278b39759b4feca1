/- Sorting edges. -/
import Derived.Test.YthocdmlacfejkaaDoorSortS
import Derived.Test.YthocdmlacfejkaaDoorMFb
import Derived.Test.YthocdmlacfejkaaDoorMB
namespace Go.Proofs.YthocdmlacfejkaaDoor
open Go.RowKit Go.Shelf
theorem grow_three (w : World) (a b c : Obj) : (((w.alloc a).alloc b).drew).alloc c = Go.Sort.grow (w.drewN 1) #[a, b, c] := by
  rw [Go.Sort.alloc_eq_grow w a, Go.Sort.alloc_eq_grow (Go.Sort.grow w #[a]) b, Go.Sort.grow_grow, Go.Sort.drew_grow, Go.Sort.alloc_eq_grow _ c, Go.Sort.grow_grow]
  rfl
set_option maxRecDepth 100000 in
set_option maxHeartbeats 2000000 in
theorem compare_grow (a b : Int × Int) (w : World) :
    Calls Tryd.prog 72 #[.agg #[.int .i64 a.1, .int .i64 a.2], .agg #[.int .i64 b.1, .int .i64 b.2]] w fun e w' => e = .returned (.int .i64 (cmpE a b)) ∧ ∃ q os, w' = Go.Sort.grow (w.drewN q) os := by
  obtain ⟨a1, a2⟩ := a
  obtain ⟨b1, b2⟩ := b
  have H := Lib.hid (show cmpE (a1, a2) (b1, b2) = orI (Lib.compareInt a1 b1) (Lib.compareInt a2 b2) from rfl)
  obtain ⟨c, hc⟩ : ∃ c, cmpE (a1, a2) (b1, b2) = c := ⟨_, rfl⟩
  rw [hc] at H
  rw [hc]
  have HC := Lib.hid (fun x y w => Tryd.cmp_Compare_int x y w)
  obtain ⟨f, hf⟩ : ∃ f, Lib.compareInt = f := ⟨_, rfl⟩
  rw [hf] at H HC
  clear hc hf
  simp only
  have E1 := Lib.hid ((Cells.new w #[.int .i64 a1, .int .i64 a2] 32).keep ((Below.refl _ _).alloc (Nat.le_refl _) (.cells #[.int .i64 b1, .int .i64 b2] 32)))
  have E2 := Lib.hid (Cells.new (w.alloc (.cells #[.int .i64 a1, .int .i64 a2] 32)) #[.int .i64 b1, .int .i64 b2] 32)
  have HB := Lib.hid (((Below.refl w.heap.size w).alloc (Nat.le_refl _) (.cells #[.int .i64 a1, .int .i64 a2] 32)).alloc (by simp) (.cells #[.int .i64 b1, .int .i64 b2] 32))
  obtain ⟨w2, hw2⟩ : ∃ u, (w.alloc (.cells #[.int .i64 a1, .int .i64 a2] 32)).alloc (.cells #[.int .i64 b1, .int .i64 b2] 32) = u := ⟨_, rfl⟩
  have HW := Lib.hid hw2
  rw [hw2] at E1 E2 HB
  have hs1 : (w.alloc (.cells #[.int .i64 a1, .int .i64 a2] 32)).heap.size = w.heap.size + 1 := by simp
  rw [hs1] at E2
  clear hs1
  have c0 := E1.out.at_ 0
  have c1 := E1.out.at_ 1
  have c2 := E2.out.at_ 0
  have c3 := E2.out.at_ 1
  simp only [List.getElem?_cons_zero, List.getElem?_cons_succ] at c0 c1 c2 c3
  go_enter Tryd.func72, Tryd.ntmps72
  go_wp2_with fail
  go_still_tail 10, (by kernel_rfl)
  still_call (HC.out _ _ _)
  repeat still_step
  still_call (HC.out _ _ _)
  repeat still_step
  refine wpStill_nil ?_
  change wpList _ _ _ _ _ w2.drew
  go_wp2_with fail
  refine (or_any _ (f a1 b1) (f a2 b2) _ (by simp [go_sem]) (by simp [go_sem])).mono ?_
  rintro e w' ⟨rfl, rfl⟩
  go_wp2_with fail
  go_ret
  refine ⟨ret_int H.out.symm, 1, #[.cells #[.int .i64 a1, .int .i64 a2] 32, .cells #[.int .i64 b1, .int .i64 b2] 32, .cells #[.int .i64 (f a1 b1), .int .i64 (f a2 b2)] 3], ?_⟩
  rw [← HW.out]
  exact grow_three _ _ _ _
def encE (x : Int × Int) : List Value := [.int .i64 x.1, .int .i64 x.2]
theorem ltE (x y : Int × Int) : ltOf cmpE x y = (decide (x.1 < y.1) || (x.1 == y.1 && decide (x.2 < y.2))) := by
  unfold ltOf
  exact cmpE_lt x y
theorem ltE_iff (x y : Int × Int) : ltOf cmpE x y = true ↔ x.1 < y.1 ∨ (x.1 = y.1 ∧ x.2 < y.2) := by
  rw [ltE]; simp
theorem ltE_not (x y : Int × Int) : ltOf cmpE x y = false ↔ ¬ (x.1 < y.1 ∨ (x.1 = y.1 ∧ x.2 < y.2)) := by
  rw [← ltE_iff]; simp
theorem swoE : Go.Sort.SWO (ltOf cmpE) where
  irrefl x := by rw [ltE_not]; omega
  trans x y z h1 h2 := by rw [ltE_iff] at *; omega
  ntrans x y z h1 h2 := by rw [ltE_not] at *; omega
theorem encE_len (x : Int × Int) : (encE x).length = 2 := rfl
theorem encE_one (x : Int × Int) : ∀ v ∈ encE x, v.oneCell' = true := fun v hv => by
  simp [encE] at hv
  rcases hv with rfl | rfl <;> rfl
theorem compare_lays (blk off size : Nat) (w : World) : CmpLays Tryd.prog 72 #[] encE 2 cmpE blk off size w :=
  fun _ _ _ _ x y => compare_grow x y _
theorem enters_compare : ∀ args w, (callFunc 72 args).run Tryd.prog w = .ok (.enter 72 args) w := enters_of Tryd.func72 (by kernel_rfl) rfl
theorem flat_get (d : List (Int × Int)) (t : Nat) (ht : t < d.length * 2) : (flat d)[t]? = some ((encE d.toArray[t / 2]!)[t % 2]!) := by
  have hk : t / 2 < d.length := by omega
  have he : d[t / 2]? = some d[t / 2] := List.getElem?_eq_getElem hk
  have e1 : d.toArray[t / 2]! = d[t / 2] := by
    rw [getElem!_pos _ _ (by simpa using hk)]; rfl
  obtain ⟨h0, h1⟩ := flat_at he
  rw [e1]
  rcases (by omega : t = t / 2 * 2 ∨ t = t / 2 * 2 + 1) with h | h
  · have e2 : t % 2 = 0 := by omega
    rw [e2]
    rw [← h] at h0
    rw [h0]; rfl
  · have e2 : t % 2 = 1 := by omega
    rw [e2]
    rw [← h] at h1
    rw [h1]; rfl
theorem flatK_list (d : List (Int × Int)) : (Go.Sort.flatK encE 2 d.toArray).toList = flat d := by
  apply List.ext_getElem?
  intro t
  by_cases ht : t < d.length * 2
  · rw [flat_get d t ht]
    unfold Go.Sort.flatK
    simp [ht]
  · rw [List.getElem?_eq_none (by simp [Go.Sort.flatK]; omega), List.getElem?_eq_none (by rw [flat_len]; omega)]
/-- What sorting leaves: the edges in order, in the same block. -/
def SrtPost (g : Nat) (T : TypeId) (es : List (Int × Int)) (cur : Array Value) (w : World) (w' : World) : Prop :=
  ∃ (cur' : Array Value) (ss : List (Int × Int)), ss.Perm es ∧ (∀ i j, i < j → j < ss.length → ltOf cmpE ss.toArray[j]! ss.toArray[i]! = false) ∧ w'.heap[g]? = some (.cells cur' T (0, 0)) ∧ cur'.size = cur.size ∧ cur'.toList.take (es.length * 2) = flat ss ∧ Go.RowKit.Below g w w'
theorem sortF_any (g cap : Nat) (T : TypeId) (es : List (Int × Int)) (cur : Array Value) (w : World) (hh : w.heap[g]? = some (.cells cur T (0, 0))) (hc : cur.toList.take (es.length * 2) = flat es) (hl : es.length ≤ 100000) :
    Calls Tryd.prog 71 #[.slice (some ⟨g, 0, none⟩) es.length cap, .func (.func 72) #[] #[]] w fun e w' => e = .returned (.tuple #[]) ∧ SrtPost g T es cur w w' := by
  have hgl : g < w.heap.size := by
    rcases Nat.lt_or_ge g w.heap.size with h1 | h1
    · exact h1
    · rw [Array.getElem?_eq_none h1] at hh; cases hh
  have hcs : es.length * 2 ≤ cur.size := by
    have := congrArg List.length hc
    rw [List.length_take, flat_len] at this
    have h5 : cur.toList.length = cur.size := Array.length_toList
    clear hh
    omega
  have hH : Go.Sort.HoldsK encE 2 w g 0 es.toArray := fun j hj => by
    have hj2 : j < es.length * 2 := by simpa [Go.Sort.flatK] using hj
    have e1 : (Go.Sort.flatK encE 2 es.toArray)[j]? = cur[j]? := by
      rw [← Array.getElem?_toList, flatK_list, ← hc, List.getElem?_take_of_lt hj2, Array.getElem?_toList]
    refine ⟨?_, by simp [World.frozen?, hh]⟩
    rw [cell_of_row _ _ _ _ _ _ hh, Nat.zero_add, ← e1, Array.getElem?_eq_getElem hj]
    show some _ = some ((Go.Sort.flatK encE 2 es.toArray)[j]!)
    rw [getElem!_pos (Go.Sort.flatK encE 2 es.toArray) j hj]
  have hcon := AnyQ.slices_SortFunc Tryd.sortE 2 Tryd.isAgg32 Tryd.sizeOf32 encE encE_len encE_one cmpE swoE 72 #[] g 0 cap es.toArray w enters_compare (compare_lays g 0 es.toArray.size w) hH hgl (by simp; omega)
  change Calls Tryd.prog 71 #[.slice (some ⟨g, 0, none⟩) es.length cap, .func (.func 72) #[] #[]] w _ at hcon
  refine hcon.mono fun e w' ⟨he, d', n, os, hp, hs, hw⟩ => ⟨he, ?_⟩
  obtain ⟨hp1, _, hp3⟩ := hp
  have hd : d'.size = es.length := by rw [hp1]; simp
  have hfl : (Go.Sort.flatK encE 2 d').size = es.length * 2 := by rw [Go.Sort.size_flatK, hd]
  refine ⟨Go.Sort.putCells id 0 (Go.Sort.flatK encE 2 d') cur, d'.toList, ?_, ?_, ?_, ?_, ?_, ?_⟩
  · have e1 : d'.extract 0 es.toArray.size = d' := by rw [← hp1]; simp
    have e2 : es.toArray.extract 0 es.toArray.size = es.toArray := by simp
    rw [e1, e2] at hp3
    simpa using hp3
  · intro i j hij hj
    have := hs i j (Nat.zero_le _) hij (by simpa [hd] using hj)
    simpa using this
  · rw [hw]
    unfold sortWorldK
    rw [Go.Sort.heap_grow_old _ _ (by unfold Go.Sort.putRowK; rw [size_putRow]; exact hgl)]
    unfold Go.Sort.putRowK Go.Sort.putRow Go.Sort.mapBlock
    show ((Go.Sort.ahead w n).heap.modify g _)[g]? = _
    rw [Array.getElem?_modify, if_pos rfl]
    show Option.map _ (w.heap[g]?) = _
    rw [hh]
    rfl
  · unfold Go.Sort.putCells; simp
  · have e3 : flat d'.toList = (Go.Sort.flatK encE 2 d').toList := by rw [← flatK_list]
    rw [e3]
    apply List.ext_getElem?
    intro t
    by_cases ht : t < es.length * 2
    · rw [List.getElem?_take_of_lt ht]
      unfold Go.Sort.putCells
      have hf : t < (Go.Sort.flatK encE 2 d').size := by omega
      have hcu : t < cur.size := by omega
      rw [Array.getElem?_toList, Array.getElem?_mapIdx, Array.getElem?_eq_getElem hcu, Option.map_some, if_pos (by omega), Array.getElem?_toList, Array.getElem?_eq_getElem hf]
      show some ((Go.Sort.flatK encE 2 d')[t - 0]!) = _
      rw [Nat.sub_zero, getElem!_pos (Go.Sort.flatK encE 2 d') t hf]
    · rw [List.getElem?_eq_none (by rw [List.length_take]; omega), List.getElem?_eq_none (by rw [Array.length_toList]; omega)]
  · rw [hw]
    refine ⟨rfl, rfl, rfl, ?_, fun k hk => ?_⟩
    · unfold sortWorldK
      rw [Go.Sort.size_grow]
      unfold Go.Sort.putRowK
      rw [size_putRow]
      exact Nat.le_add_right _ _
    · unfold sortWorldK
      rw [Go.Sort.heap_grow_old _ _ (by unfold Go.Sort.putRowK; rw [size_putRow]; show k < w.heap.size; omega)]
      unfold Go.Sort.putRowK Go.Sort.putRow Go.Sort.mapBlock
      show ((Go.Sort.ahead w n).heap.modify g _)[k]? = _
      rw [Array.getElem?_modify, if_neg (by omega)]
      rfl
end Go.Proofs.YthocdmlacfejkaaDoor
