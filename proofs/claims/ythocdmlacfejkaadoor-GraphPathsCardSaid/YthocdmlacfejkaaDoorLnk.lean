/- Edges in memory; to which nodes they lead. -/
import Derived.Test.YthocdmlacfejkaaDoorList
import Derived.Test.YthocdmlacfejkaaDoorGd
import Derived.StillTailTactics
namespace Go.Proofs.YthocdmlacfejkaaDoor
open Go.RowKit
theorem heap_new (w : World) (o : Obj) : (w.alloc o).heap[w.heap.size]? = some o := by
  show (w.heap.push o)[w.heap.size]? = some o
  rw [Array.getElem?_push, if_pos rfl]
theorem below_on {w0 w w' : World} (h : Below w0.heap.size w0 w) (h' : Below w.heap.size w w') : Below w0.heap.size w0 w' := h.trans (h'.mono h.size)
/-- A block and what its cells hold; it may be written. -/
structure Cells (w : World) (p : Nat) (vs : List Value) : Prop where
  at_ : ∀ i, w.cell? ⟨p, i, none⟩ = vs[i]?
  fz : ∀ i, w.frozen? ⟨p, i, none⟩ = false
  lt : p < w.heap.size
theorem Cells.keep {w w' : World} {p : Nat} {vs : List Value} (h : Cells w p vs) (hb : Below w.heap.size w w') : Cells w' p vs :=
  ⟨fun i => (hb.cell (p := ⟨p, i, none⟩) h.lt).trans (h.at_ i), fun i => (hb.frozen (p := ⟨p, i, none⟩) h.lt).trans (h.fz i), Nat.lt_of_lt_of_le h.lt hb.size⟩
theorem Cells.of_row {w : World} {p : Nat} {vs : Array Value} {T : TypeId} (h : w.heap[p]? = some (.cells vs T (0, 0))) : Cells w p vs.toList := by
  refine ⟨fun i => by rw [cell_of_row _ _ _ _ _ _ h]; simp, fun i => by simp [World.frozen?, h], ?_⟩
  rcases Nat.lt_or_ge p w.heap.size with h1 | h1
  · exact h1
  · rw [Array.getElem?_eq_none h1] at h; cases h
theorem Cells.new (w : World) (vs : Array Value) (T : TypeId) : Cells (w.alloc (.cells vs T)) w.heap.size vs.toList := Cells.of_row (heap_new w _)
theorem Cells.set {w : World} {p : Nat} {vs : List Value} (h : Cells w p vs) (i : Nat) (u : Value) (hi : i < vs.length) : Cells (w.setCell ⟨p, i, none⟩ u) p (vs.set i u) := by
  refine ⟨fun k => ?_, fun k => by rw [World.frozen?_setCell]; exact h.fz k, by simpa [World.setCell] using h.lt⟩
  by_cases hk : k = i
  · subst hk
    rw [World.cell?_setCell_same _ _ _ ((h.at_ k).trans (List.getElem?_eq_getElem hi))]
    simp [hi]
  · rw [World.cell?_setCell_other _ _ _ _ (by simp <;> omega), h.at_ k, List.getElem?_set_ne (by omega)]
theorem Cells.other {w : World} {p q : Nat} {vs : List Value} (h : Cells w p vs) (hq : p ≠ q) (i : Nat) (u : Value) : Cells (w.setCell ⟨q, i, none⟩ u) p vs := by
  have hb := Below.heap_setCell w ⟨q, i, none⟩ u p hq
  exact ⟨fun k => (World.cell?_of_block hb).trans (h.at_ k), fun k => by rw [World.frozen?_setCell]; exact h.fz k, by simpa [World.setCell] using h.lt⟩

/-- A slice of edges. -/
def EL (w : World) (A : Option Addr) (n : Nat) (es : List (Int × Int)) : Prop :=
  es.length = n ∧ ∀ k e, es[k]? = some e → ∃ b o, A = some ⟨b, o, none⟩ ∧ b < w.heap.size ∧ w.cell? ⟨b, o + k * 2, none⟩ = some (.int .i64 e.1) ∧ w.cell? ⟨b, o + k * 2 + 1, none⟩ = some (.int .i64 e.2)
theorem EL.keep {w w' : World} {n : Nat} {A : Option Addr} {es : List (Int × Int)} (h : EL w A n es) (hb : Below w.heap.size w w') : EL w' A n es :=
  ⟨h.1, fun k e hk => let ⟨b, o, e1, hlt, hc, hd⟩ := h.2 k e hk; ⟨b, o, e1, Nat.lt_of_lt_of_le hlt hb.size, (hb.cell (p := ⟨b, o + k * 2, none⟩) hlt).trans hc, (hb.cell (p := ⟨b, o + k * 2 + 1, none⟩) hlt).trans hd⟩⟩
theorem EL.at_ {w : World} {A : Option Addr} {n : Nat} {es : List (Int × Int)} (h : EL w A n es) {k : Nat} (hk : k < n) : ∃ e b o, es[k]? = some e ∧ A = some ⟨b, o, none⟩ ∧ b < w.heap.size ∧ w.cell? ⟨b, o + k * 2, none⟩ = some (.int .i64 e.1) ∧ w.cell? ⟨b, o + k * 2 + 1, none⟩ = some (.int .i64 e.2) := by
  have hl : k < es.length := by rw [h.1]; exact hk
  obtain ⟨b, o, e, hb, hc⟩ := h.2 k es[k] (List.getElem?_eq_getElem hl)
  exact ⟨_, b, o, List.getElem?_eq_getElem hl, e, hb, hc⟩
/-- Nodes as ints. -/
def cast (es : List (Nat × Nat)) : List (Int × Int) := es.map fun e => ((e.1 : Int), (e.2 : Int))
theorem cast_at {es : List (Nat × Nat)} {k : Nat} {e : Int × Int} (h : (cast es)[k]? = some e) : ∃ x y : Nat, es[k]? = some (x, y) ∧ e = ((x : Int), (y : Int)) := by
  unfold cast at h
  rw [List.getElem?_map] at h
  cases h1 : es[k]? with
  | none => rw [h1] at h; cases h
  | some p => rw [h1] at h; injection h with h; exact ⟨p.1, p.2, rfl, h.symm⟩
abbrev gV (n : Int) (A : Option Addr) (m c : Nat) : Value := .agg #[.int .i64 n, .slice A m c]
/-- 64 sets. -/
def sets (f : Nat → Nat) : List Value := (List.range 64).map fun i => Value.int .u64 (f i : Nat)
theorem sets_at (f : Nat → Nat) {i : Nat} (h : i < 64) : (sets f)[i]? = some (.int .u64 (f i : Nat)) := by
  unfold sets; simp [h]
theorem sets_set (f : Nat → Nat) (i v : Nat) : (sets f).set i (.int .u64 (v : Nat)) = sets fun j => if i = j then v else f j := by
  apply List.ext_getElem?
  intro j
  rw [List.getElem?_set]
  unfold sets
  by_cases h : i = j
  · subst h
    by_cases h2 : i < 64
    · simp [h2]
    · rw [if_pos rfl, if_neg (by simpa using h2), List.getElem?_eq_none (by simp; omega)]
  · rw [if_neg h]
    by_cases h2 : j < 64
    · simp [h2, h]
    · rw [List.getElem?_eq_none (by simp; omega), List.getElem?_eq_none (by simp; omega)]
theorem sets_len (f : Nat → Nat) : (sets f).length = 64 := by unfold sets; simp
theorem Calls.still {P : Program} {f : FuncId} {args : Array Value} {w : World} {v : Value} (h : Calls P f args w fun e w' => e = .returned v ∧ w = w') : Calls P f args w fun e w' => e = .returned v ∧ w' = w :=
  h.mono fun _ _ ⟨h1, h2⟩ => ⟨h1, h2.symm⟩
theorem lt_under' {s : Nat} : Under 64 s ↔ s < 18446744073709551616 := ⟨under_lt, lt_under (k := 64)⟩
theorem low_take {n : Nat} {es : List (Nat × Nat)} (h : Low n es) (k : Nat) : Low n (es.take k) := fun e he => h e (List.mem_of_mem_take he)
theorem next_step {w : World} {p k x y : Nat} {es : List (Nat × Nat)} (hk : es[k]? = some (x, y)) (hc : Cells w p (sets (adj (es.take k)))) (hx : x < 64) :
    Cells (w.setCell ⟨p, x, none⟩ (.int .u64 (adj (es.take k) x ||| sing y : Nat))) p (sets (adj (es.take (k + 1)))) := by
  have h := hc.set x (.int .u64 (adj (es.take k) x ||| sing y : Nat)) (by rw [sets_len]; exact hx)
  rw [sets_set] at h
  have e : (fun j => if x = j then adj (es.take k) x ||| sing y else adj (es.take k) j) = adj (es.take (k + 1)) := by
    funext j
    rw [List.take_add_one, hk]
    show _ = adj (es.take k ++ [(x, y)]) j
    rw [adj_snoc]
    by_cases h : x = j
    · subst h; simp [sing]
    · simp [h]
  rw [e] at h
  exact h
theorem prev_step {w : World} {p k x y : Nat} {es : List (Nat × Nat)} (hk : es[k]? = some (x, y)) (hc : Cells w p (sets (adjR (es.take k)))) (hx : y < 64) :
    Cells (w.setCell ⟨p, y, none⟩ (.int .u64 (adjR (es.take k) y ||| sing x : Nat))) p (sets (adjR (es.take (k + 1)))) := by
  have h := hc.set y (.int .u64 (adjR (es.take k) y ||| sing x : Nat)) (by rw [sets_len]; exact hx)
  rw [sets_set] at h
  have e : (fun j => if y = j then adjR (es.take k) y ||| sing x else adjR (es.take k) j) = adjR (es.take (k + 1)) := by
    funext j
    rw [List.take_add_one, hk]
    show _ = adjR (es.take k ++ [(x, y)]) j
    rw [adjR_snoc]
    by_cases h : y = j
    · subst h; simp [sing]
    · simp [h]
  rw [e] at h
  exact h
theorem Cells.drew {w : World} {p : Nat} {vs : List Value} (h : Cells w p vs) : Cells w.drew p vs := ⟨h.at_, h.fz, h.lt⟩
theorem next_done {w : World} {p k : Nat} {es : List (Nat × Nat)} (hc : Cells w p (sets (adj (es.take k)))) (hk : es.length ≤ k) : Cells w p (sets (adj es)) := by
  rwa [List.take_of_length_le hk] at hc
theorem prev_done {w : World} {p k : Nat} {es : List (Nat × Nat)} (hc : Cells w p (sets (adjR (es.take k)))) (hk : es.length ≤ k) : Cells w p (sets (adjR es)) := by
  rwa [List.take_of_length_le hk] at hc
def NextInv (w : World) (es : List (Nat × Nat)) (f : List (Nat × Nat) → Nat → Nat) (i : Value) (wr : World) : Prop :=
  ∃ k : Nat, k ≤ es.length ∧ i = .int .i64 (k : Nat) ∧ Cells wr (w.heap.size + 1) (sets (f (es.take k))) ∧ Below w.heap.size w wr
set_option maxRecDepth 100000 in
set_option maxHeartbeats 2000000 in
theorem next_any (g : Int) (A : Option Addr) (n c : Nat) (es : List (Nat × Nat)) (w : World) (h : EL w A n (cast es)) (hl : Low 64 es) (hn : n ≤ 4096) :
    Calls Tryd.prog 88 #[gV g A n c] w fun e w' => ∃ p, e = .returned (.pointer (some ⟨p, 0, none⟩)) ∧ Cells w' p (sets (adj es)) ∧ w.heap.size ≤ p ∧ Below w.heap.size w w' := by
  have hlen : es.length = n := by have := h.1; unfold cast at this; simpa using this
  have H := Lib.hid h
  have HL := Lib.hid hl
  have H1 := Lib.hid (show Cells ((w.alloc (.cells #[.int .i64 g, .slice A n c] 26)).alloc (.cells (sets fun _ => 0).toArray 138)) (w.heap.size + 1) (sets (adj (es.take 0))) from by
    show Cells _ (w.heap.size + 1) (sets fun _ => 0)
    have := Cells.new (w.alloc (.cells #[.int .i64 g, .slice A n c] 26)) (sets fun _ => 0).toArray 138
    simpa using this)
  have B0 := Lib.hid (((Below.refl w.heap.size w).alloc (Nat.le_refl _) (.cells #[.int .i64 g, .slice A n c] 26)).alloc (by simp) (.cells (sets fun _ => 0).toArray 138))
  have hnl := Nat.le_of_eq hlen
  have hnl2 := Nat.le_of_eq hlen.symm
  clear h hl hlen
  go_enter Tryd.func88, Tryd.ntmps88
  go_wp2_with fail
  go_loopw [10] (fun i wr => NextInv w es adj i wr) (fun i _ => n - (intOf i).toNat)
  case atStart => exact ⟨0, Nat.zero_le _, rfl, H1.out, B0.out⟩
  case round =>
    obtain ⟨k, hk, rfl, hc, hb⟩ := hrel
    have Hc := Lib.hid hc
    have Hb := Lib.hid hb
    clear hc hb
    by_cases hlt : k < n
    · obtain ⟨e, b, o, he, rfl, hbl, c0, c1⟩ := (H.out.keep Hb.out).at_ hlt
      obtain ⟨x, y, hxy, rfl⟩ := cast_at he
      obtain ⟨hx, hy⟩ := HL.out _ (List.mem_of_getElem? hxy)
      have Hxy := Lib.hid hxy
      simp only at c0 c1 hx hy
      have kv := (Below.refl wr.heap.size wr).alloc (Nat.le_refl _) (.cells #[.int .i64 (x : Int), .int .i64 (y : Int)] 32)
      have HE := Lib.hid (Cells.new wr #[.int .i64 (x : Int), .int .i64 (y : Int)] 32)
      have Hc := Lib.hid (Hc.out.keep kv)
      have Hb := Lib.hid (below_on Hb.out kv)
      obtain ⟨x2, hx2⟩ : ∃ u, wr.alloc (.cells #[.int .i64 (x : Int), .int .i64 (y : Int)] 32) = u := ⟨_, rfl⟩
      obtain ⟨p2, hp2⟩ : ∃ p, wr.heap.size = p := ⟨_, rfl⟩
      rw [hx2] at HE Hc Hb
      rw [hp2] at HE
      clear he hxy kv
      have hxi : (x : Int) < 64 := by omega
      have d0 : x2.cell? ⟨p2, 0, none⟩ = some (.int .i64 (x : Int)) := HE.out.at_ 0
      have d1 : x2.cell? ⟨p2, 1, none⟩ = some (.int .i64 (y : Int)) := HE.out.at_ 1
      have l0 : x2.cell? ⟨w.heap.size + 1, x, none⟩ = some (.int .u64 (adj (es.take k) x : Nat)) := (Hc.out.at_ x).trans (sets_at _ hx)
      have l1 : x2.frozen? ⟨w.heap.size + 1, x, none⟩ = false := Hc.out.fz x
      have ub := lt_under'.1 (adj_under (low_take HL.out k) x)
      have sy := sing_lt hy
      have e1 : bits .or .u64 ((adj (es.take k) x : Nat) : Int) ((sing y : Nat) : Int) = ((adj (es.take k) x ||| sing y : Nat) : Int) := bits_or_u64_nat _ _ ub sy
      have Hfin := Lib.hid (next_step Hxy.out Hc.out hx)
      have Hb := Lib.hid (Hb.out.setCell (p := ⟨w.heap.size + 1, x, none⟩) (Nat.le_succ _) (.int .u64 (adj (es.take k) x ||| sing y : Nat)))
      go_wp2_with fail
      go_still_tail 12, (by kernel_rfl)
      still_call (Calls.still (single_any _ _ (by assumption)))
      repeat still_step
      change wpList _ _ _ _ _ x2.drew
      go_wp2_with fail
      go_roundw
      case rel => exact ⟨k + 1, by omega, by go_num, Hfin.out.drew, Hb.out.drew⟩
      case measure => simp [intOf]; omega
    · have Hf := Lib.hid (next_done Hc.out (by omega))
      have hkn : k = n := by omega
      subst hkn
      go_wp2_with fail
      go_ret
      exact ⟨_, rfl, Hf.out, Nat.le_succ _, Hb.out⟩
set_option maxRecDepth 100000 in
set_option maxHeartbeats 2000000 in
theorem previous_any (g : Int) (A : Option Addr) (n c : Nat) (es : List (Nat × Nat)) (w : World) (h : EL w A n (cast es)) (hl : Low 64 es) (hn : n ≤ 4096) :
    Calls Tryd.prog 84 #[gV g A n c] w fun e w' => ∃ p, e = .returned (.pointer (some ⟨p, 0, none⟩)) ∧ Cells w' p (sets (adjR es)) ∧ w.heap.size ≤ p ∧ Below w.heap.size w w' := by
  have hlen : es.length = n := by have := h.1; unfold cast at this; simpa using this
  have H := Lib.hid h
  have HL := Lib.hid hl
  have H1 := Lib.hid (show Cells ((w.alloc (.cells #[.int .i64 g, .slice A n c] 26)).alloc (.cells (sets fun _ => 0).toArray 138)) (w.heap.size + 1) (sets (adjR (es.take 0))) from by
    show Cells _ (w.heap.size + 1) (sets fun _ => 0)
    have := Cells.new (w.alloc (.cells #[.int .i64 g, .slice A n c] 26)) (sets fun _ => 0).toArray 138
    simpa using this)
  have B0 := Lib.hid (((Below.refl w.heap.size w).alloc (Nat.le_refl _) (.cells #[.int .i64 g, .slice A n c] 26)).alloc (by simp) (.cells (sets fun _ => 0).toArray 138))
  have hnl := Nat.le_of_eq hlen
  have hnl2 := Nat.le_of_eq hlen.symm
  clear h hl hlen
  go_enter Tryd.func84, Tryd.ntmps84
  go_wp2_with fail
  go_loopw [10] (fun i wr => NextInv w es adjR i wr) (fun i _ => n - (intOf i).toNat)
  case atStart => exact ⟨0, Nat.zero_le _, rfl, H1.out, B0.out⟩
  case round =>
    obtain ⟨k, hk, rfl, hc, hb⟩ := hrel
    have Hc := Lib.hid hc
    have Hb := Lib.hid hb
    clear hc hb
    by_cases hlt : k < n
    · obtain ⟨e, b, o, he, rfl, hbl, c0, c1⟩ := (H.out.keep Hb.out).at_ hlt
      obtain ⟨x, y, hxy, rfl⟩ := cast_at he
      obtain ⟨hx, hy⟩ := HL.out _ (List.mem_of_getElem? hxy)
      have Hxy := Lib.hid hxy
      simp only at c0 c1 hx hy
      have kv := (Below.refl wr.heap.size wr).alloc (Nat.le_refl _) (.cells #[.int .i64 (x : Int), .int .i64 (y : Int)] 32)
      have HE := Lib.hid (Cells.new wr #[.int .i64 (x : Int), .int .i64 (y : Int)] 32)
      have Hc := Lib.hid (Hc.out.keep kv)
      have Hb := Lib.hid (below_on Hb.out kv)
      obtain ⟨x2, hx2⟩ : ∃ u, wr.alloc (.cells #[.int .i64 (x : Int), .int .i64 (y : Int)] 32) = u := ⟨_, rfl⟩
      obtain ⟨p2, hp2⟩ : ∃ p, wr.heap.size = p := ⟨_, rfl⟩
      rw [hx2] at HE Hc Hb
      rw [hp2] at HE
      clear he hxy kv
      have hxi : (y : Int) < 64 := by omega
      have d0 : x2.cell? ⟨p2, 0, none⟩ = some (.int .i64 (x : Int)) := HE.out.at_ 0
      have d1 : x2.cell? ⟨p2, 1, none⟩ = some (.int .i64 (y : Int)) := HE.out.at_ 1
      have l0 : x2.cell? ⟨w.heap.size + 1, y, none⟩ = some (.int .u64 (adjR (es.take k) y : Nat)) := (Hc.out.at_ y).trans (sets_at _ hy)
      have l1 : x2.frozen? ⟨w.heap.size + 1, y, none⟩ = false := Hc.out.fz y
      have ub := lt_under'.1 (adjR_under (low_take HL.out k) y)
      have sy := sing_lt hx
      have e1 : bits .or .u64 ((adjR (es.take k) y : Nat) : Int) ((sing x : Nat) : Int) = ((adjR (es.take k) y ||| sing x : Nat) : Int) := bits_or_u64_nat _ _ ub sy
      have Hfin := Lib.hid (prev_step Hxy.out Hc.out hy)
      have Hb := Lib.hid (Hb.out.setCell (p := ⟨w.heap.size + 1, y, none⟩) (Nat.le_succ _) (.int .u64 (adjR (es.take k) y ||| sing x : Nat)))
      go_wp2_with fail
      go_still_tail 12, (by kernel_rfl)
      still_call (Calls.still (single_any _ _ (by assumption)))
      repeat still_step
      change wpList _ _ _ _ _ x2.drew
      go_wp2_with fail
      go_roundw
      case rel => exact ⟨k + 1, by omega, by go_num, Hfin.out.drew, Hb.out.drew⟩
      case measure => simp [intOf]; omega
    · have Hf := Lib.hid (prev_done Hc.out (by omega))
      have hkn : k = n := by omega
      subst hkn
      go_wp2_with fail
      go_ret
      exact ⟨_, rfl, Hf.out, Nat.le_succ _, Hb.out⟩
end Go.Proofs.YthocdmlacfejkaaDoor
