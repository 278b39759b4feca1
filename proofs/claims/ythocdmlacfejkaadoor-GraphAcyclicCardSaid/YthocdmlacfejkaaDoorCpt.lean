/- Neighbours that are alike are struck. -/
import Derived.Test.YthocdmlacfejkaaDoorMFb
namespace Go.Proofs.YthocdmlacfejkaaDoor
open Go.RowKit
attribute [local irreducible] wpStill
/-- The first i, without those that are like the one ahead of them. -/
def compT (d : List (Int × Int)) : Nat → List (Int × Int)
  | 0 => []
  | i + 1 => compT d i ++ match d[i]? with | none => [] | some y => if i = 0 ∨ d[i - 1]? ≠ some y then [y] else []
theorem compT_new {d : List (Int × Int)} {i : Nat} {x y : Int × Int} (_h0 : 0 < i) (hx : d[i - 1]? = some x) (hy : d[i]? = some y) (h : x ≠ y) : compT d (i + 1) = compT d i ++ [y] := by
  rw [compT, hy]
  simp only
  rw [if_pos (.inr (by rw [hx]; intro e; injection e with e; exact h e))]
theorem compT_old {d : List (Int × Int)} {i : Nat} {x : Int × Int} (h0 : 0 < i) (hx : d[i - 1]? = some x) (hy : d[i]? = some x) : compT d (i + 1) = compT d i := by
  rw [compT, hy]
  simp only
  rw [if_neg (by rw [hx]; simp; omega), List.append_nil]
theorem compT_start {d : List (Int × Int)} {y : Int × Int} (hy : d[0]? = some y) : compT d 1 = d.take 1 := by
  rw [compT, hy, List.take_add_one, hy]
  simp [compT]
theorem compT_len (d : List (Int × Int)) : ∀ i, (compT d i).length ≤ i
  | 0 => by simp [compT]
  | i + 1 => by
    rw [compT, List.length_append]
    have := compT_len d i
    cases d[i]? with
    | none => simp; omega
    | some y =>
      simp only
      split <;> simp <;> omega
theorem flat_set {d : List (Int × Int)} {tl : List Value} {k : Nat} {y : Int × Int} (hk : k < d.length) : ((flat d ++ tl).set (k * 2) (.int .i64 y.1)).set (k * 2 + 1) (.int .i64 y.2) = flat (d.set k y) ++ tl := by
  rw [List.set_append_left _ _ (by rw [flat_len]; omega), List.set_append_left _ _ (by rw [List.length_set, flat_len]; omega)]
  congr 1
  apply List.ext_getElem?
  intro j
  rcases (by omega : j = j / 2 * 2 ∨ j = j / 2 * 2 + 1) with hj | hj
  · by_cases hl : j / 2 < d.length
    · obtain ⟨h0, h1⟩ := flat_at (List.getElem?_eq_getElem (l := d.set k y) (i := j / 2) (by rw [List.length_set]; exact hl))
      rw [← hj] at h0
      rw [h0, List.getElem?_set_ne (by omega), List.getElem?_set]
      by_cases e : k * 2 = j
      · have e2 : k = j / 2 := by omega
        rw [if_pos e, if_pos (by rw [flat_len]; omega)]
        simp [e2]
      · have e2 : k ≠ j / 2 := by omega
        obtain ⟨g0, g1⟩ := flat_at (List.getElem?_eq_getElem (l := d) (i := j / 2) hl)
        rw [← hj] at g0
        rw [if_neg e, g0, List.getElem_set_ne e2]
    · rw [List.getElem?_eq_none (by rw [List.length_set, List.length_set, flat_len]; omega), List.getElem?_eq_none (by rw [flat_len, List.length_set]; omega)]
  · by_cases hl : j / 2 < d.length
    · obtain ⟨h0, h1⟩ := flat_at (List.getElem?_eq_getElem (l := d.set k y) (i := j / 2) (by rw [List.length_set]; exact hl))
      rw [← hj] at h1
      rw [h1, List.getElem?_set]
      by_cases e : k * 2 + 1 = j
      · have e2 : k = j / 2 := by omega
        rw [if_pos e, if_pos (by rw [List.length_set, flat_len]; omega)]
        simp [e2]
      · have e2 : k ≠ j / 2 := by omega
        obtain ⟨g0, g1⟩ := flat_at (List.getElem?_eq_getElem (l := d) (i := j / 2) hl)
        rw [← hj] at g1
        rw [if_neg e, List.getElem?_set_ne (by omega), g1, List.getElem_set_ne e2]
    · rw [List.getElem?_eq_none (by rw [List.length_set, List.length_set, flat_len]; omega), List.getElem?_eq_none (by rw [flat_len, List.length_set]; omega)]
theorem flat_cell {w : World} {g : Nat} {d : List (Int × Int)} {tl : List Value} {k : Nat} {y : Int × Int} (h : Cells w g (flat d ++ tl)) (hk : d[k]? = some y) : w.cell? ⟨g, k * 2, none⟩ = some (.int .i64 y.1) ∧ w.cell? ⟨g, k * 2 + 1, none⟩ = some (.int .i64 y.2) := by
  have hl : k < d.length := by
    rcases Nat.lt_or_ge k d.length with h1 | h1
    · exact h1
    · rw [List.getElem?_eq_none h1] at hk; cases hk
  obtain ⟨h0, h1⟩ := flat_at hk
  exact ⟨(h.at_ _).trans (by rw [List.getElem?_append_left (by rw [flat_len]; omega)]; exact h0), (h.at_ _).trans (by rw [List.getElem?_append_left (by rw [flat_len]; omega)]; exact h1)⟩
theorem edge_zero (w : World) : (zeroValue 32).run Tryd.prog w = .ok (.agg #[.int .i64 0, .int .i64 0]) w := by
  obtain ⟨i, hi, hz, _, _⟩ := info_parts info_edge
  simp [zeroValue, typeInfo, hi, hz]
def zers (n : Nat) : List Value := (Builtin.zeroCells (Value.agg #[.int .i64 0, .int .i64 0]).cells n).toList
theorem zers_len (n : Nat) : (zers n).length = n * 2 := by unfold zers Builtin.zeroCells; simp [Value.cells]
theorem zers_one (n : Nat) : ∀ v ∈ zers n, v.oneCell' = true := fun v hv => by
  unfold zers Builtin.zeroCells at hv
  simp [Value.cells] at hv
  obtain ⟨a, ha, rfl⟩ := hv
  rcases (by omega : a % 2 = 0 ∨ a % 2 = 1) with h | h <;> rw [h] <;> rfl
theorem run_clear_edges (w : World) (ty : TypeId) (b o n c : Nat) (hn : 0 < n) (hc : ∀ j, j < n * 2 → (w.cell? ⟨b, o + j, none⟩).isSome = true) (hf : ∀ j, j < n * 2 → w.frozen? ⟨b, o + j, none⟩ = false) :
    (Builtin.clear_ #[22] ty #[.slice (some ⟨b, o, none⟩) n c]).run Tryd.prog w = .ok (.tuple #[]) (w.setCells b o (zers n)) := by
  have hst := run_storeCells_cells (P := Tryd.prog) b o (zers n) 0 w (by rw [zers_len]; simpa using hc) (by rw [zers_len]; simpa using hf) (zers_one n)
  simp only [Nat.add_zero] at hst
  have hzc : (Builtin.zeroCells (Value.agg #[.int .i64 0, .int .i64 0]).cells n).toList = zers n := rfl
  obtain ⟨m, rfl⟩ : ∃ m, n = m + 1 := ⟨n - 1, by omega⟩
  simp [Builtin.clear_, run_underlying Tryd.underlying22, hzc, hst]
theorem compact_few (A : Option Addr) (n c : Nat) (w : World) (h : n < 2) :
    Calls Tryd.prog 73 #[.slice A n c] w fun e w' => e = .returned (.slice A n c) ∧ Below w.heap.size w w' := by
  have t0 : decide ((n : Int) < 2) = true := decide_eq_true (by omega)
  have t1 : (n : Int) < 2 := by omega
  go_enter Tryd.func73, Tryd.ntmps73
  go_wp2_with fail
  go_ret
  exact ⟨rfl, Below.refl _ _⟩
def CptPost (g cap : Nat) (l : List (Int × Int)) (w : World) (e : Ending) (w' : World) : Prop :=
  e = .returned (.slice (some ⟨g, 0, none⟩) l.length cap) ∧ EL w' (some ⟨g, 0, none⟩) l.length l ∧ Below g w w'
theorem el_cells {w : World} {g : Nat} {d : List (Int × Int)} {tl : List Value} (h : Cells w g (flat d ++ tl)) : EL w (some ⟨g, 0, none⟩) d.length d :=
  ⟨rfl, fun k e hk => ⟨g, 0, rfl, h.lt, by rw [Nat.zero_add]; exact (flat_cell h hk).1, by rw [Nat.zero_add]; exact (flat_cell h hk).2⟩⟩
set_option maxRecDepth 100000 in
set_option maxHeartbeats 8000000 in
theorem compact_any (g cap : Nat) (d : List (Int × Int)) (tl : List Value) (w : World) (h : Cells w g (flat d ++ tl)) (h2 : 2 ≤ d.length) (hl : d.length ≤ 100000) (hcap : d.length ≤ cap) :
    Calls Tryd.prog 73 #[.slice (some ⟨g, 0, none⟩) d.length cap] w (CptPost g cap (compT d d.length) w) := by
  have C0 := Lib.hid h
  obtain ⟨n, hn⟩ : ∃ n, d.length = n := ⟨_, rfl⟩
  rw [hn] at h2 hl hcap ⊢
  have Hn := Lib.hid hn
  have t0 : decide ((n : Int) < 2) = false := decide_eq_false (by omega)
  have t1 : ¬ (n : Int) < 2 := by omega
  obtain ⟨y0, hy0⟩ : ∃ y0, d[0]? = some y0 := ⟨_, List.getElem?_eq_getElem (by omega)⟩
  have H0 := Lib.hid (compT_start hy0)
  clear h hn hy0
  go_enter Tryd.func73, Tryd.ntmps73
  go_wp2_with fail
  go_loopw [3] (fun kv wr => ∃ k : Nat, kv = .int .i64 (k : Nat) ∧ 1 ≤ k ∧ k ≤ n ∧ compT d k = d.take k ∧ Cells wr g (flat d ++ tl) ∧ Below g w wr) (fun kv _ => n - (intOf kv).toNat)
  case atStart => exact ⟨1, rfl, Nat.le_refl _, by omega, H0.out, C0.out, Below.refl _ _⟩
  case round =>
    obtain ⟨k, rfl, hk1, hk2, hc, hcell, hb⟩ := hrel
    have Hc := Lib.hid hc
    have C6 := Lib.hid hcell
    have B6 := Lib.hid hb
    clear hc hcell hb
    obtain ⟨wa, rfl⟩ : ∃ wa : World, wa = wr := ⟨_, rfl⟩
    by_cases hlt : k < n
    · obtain ⟨⟨x0, x1⟩, hx⟩ : ∃ x, d[k - 1]? = some x := ⟨_, List.getElem?_eq_getElem (by rw [Hn.out]; omega)⟩
      obtain ⟨⟨z0, z1⟩, hz⟩ : ∃ z, d[k]? = some z := ⟨_, List.getElem?_eq_getElem (by rw [Hn.out]; exact hlt)⟩
      obtain ⟨c0, c1⟩ := flat_cell C6.out hx
      obtain ⟨d0, d1⟩ := flat_cell C6.out hz
      simp only at c0 c1 d0 d1
      have ew : IntKind.i64.wrap ((k : Int) - 1) = (k : Int) - 1 := IntWalk.i64_in _ (by omega)
      have i1 : (1 : Int) ≤ (k : Int) := by omega
      have i2 : (k : Int) - 1 < n := by omega
      have i3 : ((k : Int) - 1).toNat = k - 1 := by omega
      have Hx := Lib.hid hx
      have Hz := Lib.hid hz
      have Hlt := Lib.hid hlt
      clear hx hz
      by_cases he : z0 = x0 ∧ z1 = x1
      · obtain ⟨rfl, rfl⟩ := he
        have Hst := Lib.hid (show compT d (k + 1) = d.take k by rw [compT_old (by omega) Hx.out Hz.out]; exact Hc.out)
        go_wp2_with fail
        go_still_tail 9, (by kernel_rfl)
        change wpList _ _ _ _ _ wa.drew
        obtain ⟨r, hr⟩ : ∃ r, n - k = r := ⟨_, rfl⟩
        obtain ⟨cr, hcr⟩ : ∃ cr, cap - k = cr := ⟨_, rfl⟩
        have Hr := Lib.hid hr
        have Hr1 := Lib.hid (show 1 ≤ r by omega)
        go_wp2_with fail
        clear c0 c1 d0 d1 ew i1 i2 i3 hlt
        go_loopw [3, 5] (fun kv jv wr => ∃ (k' j : Nat) (c : List (Int × Int)), kv = .int .i64 (k' : Nat) ∧ jv = .int .i64 (j : Nat) ∧ 1 ≤ j ∧ j ≤ r ∧ 1 ≤ k' ∧ k' + 1 ≤ k + j ∧ c.length = n ∧ c.take k' = compT d (k + j) ∧ (∀ i, k + j ≤ i + 1 → c[i]? = d[i]?) ∧ Cells wr g (flat c ++ tl) ∧ Below g w wr) (fun _ jv _ => r - (intOf jv).toNat)
        case atStart => exact ⟨k, 1, d, rfl, rfl, Nat.le_refl _, Hr1.out, hk1, by omega, Hn.out, Hst.out.symm, fun _ _ => rfl, C6.out.drew, B6.out.drew⟩
        case round =>
          obtain ⟨k', j, c, rfl, rfl, hj1, hj2, hk1', hkj, hcl, htk, heq, hcell, hb⟩ := hrel
          have Hcl := Lib.hid hcl
          have Htk := Lib.hid htk
          have Heq := Lib.hid heq
          have C7 := Lib.hid hcell
          have B7 := Lib.hid hb
          clear hcl htk heq hcell hb
          obtain ⟨wb, rfl⟩ : ∃ wb : World, wb = wr := ⟨_, rfl⟩
          by_cases hjr : j < r
          · obtain ⟨⟨x0, x1⟩, hx⟩ : ∃ x, d[k + j - 1]? = some x := ⟨_, List.getElem?_eq_getElem (by rw [Hn.out]; have := Hr.out; omega)⟩
            obtain ⟨⟨y0, y1⟩, hy⟩ : ∃ y, d[k + j]? = some y := ⟨_, List.getElem?_eq_getElem (by rw [Hn.out]; have := Hr.out; omega)⟩
            obtain ⟨c0, c1⟩ := flat_cell C7.out ((Heq.out (k + j - 1) (by omega)).trans hx)
            obtain ⟨d0, d1⟩ := flat_cell C7.out ((Heq.out (k + j) (by omega)).trans hy)
            rw [show (k + j - 1) * 2 = k * 2 + (j - 1) * 2 by omega] at c0 c1
            rw [Nat.add_mul] at d0 d1
            simp only at c0 c1 d0 d1
            have ew : IntKind.i64.wrap ((j : Int) - 1) = (j : Int) - 1 := IntWalk.i64_in _ (by have := Hr.out; omega)
            have i1 : (1 : Int) ≤ (j : Int) := by omega
            have i2 : (j : Int) - 1 < r := by omega
            have i3 : ((j : Int) - 1).toNat = j - 1 := by omega
            have Hx := Lib.hid hx
            have Hy := Lib.hid hy
            have Hjr := Lib.hid hjr
            clear hx hy
            by_cases he2 : y0 = x0 ∧ y1 = x1
            · obtain ⟨rfl, rfl⟩ := he2
              have Hst2 := Lib.hid (show compT d (k + j + 1) = c.take k' by rw [compT_old (by omega) Hx.out Hy.out]; exact Htk.out.symm)
              have Heq2 := Lib.hid (fun i (hi : k + (j + 1) ≤ i + 1) => Heq.out i (by omega))
              go_wp2_with fail
              go_still_tail 9, (by kernel_rfl)
              change wpList _ _ _ _ _ wb.drew
              go_wp2_with fail
              go_roundw
              case rel => exact ⟨k', j + 1, c, rfl, by go_num, by omega, Hjr.out, hk1', by omega, Hcl.out, Hst2.out.symm, Heq2.out, C7.out.drew, B7.out.drew⟩
              case measure => simp [intOf]; have := Hjr.out; omega
            · have hne : ((x0, x1) : Int × Int) ≠ (y0, y1) := fun e => by injection e with e1 e2; exact he2 ⟨e1.symm, e2.symm⟩
              have hk'n : k' < n := by have := Hr.out; omega
              have Hst2 := Lib.hid (show compT d (k + j + 1) = (c.set k' (y0, y1)).take (k' + 1) by
                rw [compT_new (by omega) Hx.out Hy.out hne, ← Htk.out, List.take_add_one, List.take_set_of_le (Nat.le_refl _), List.getElem?_set_self (by rw [Hcl.out]; exact hk'n)]
                rfl)
              have Heq2 := Lib.hid (fun i (hi : k + (j + 1) ≤ i + 1) => show (c.set k' (y0, y1))[i]? = d[i]? by rw [List.getElem?_set_ne (by omega)]; exact Heq.out i (by omega))
              have hk'i : (k' : Int) < n := by omega
              obtain ⟨⟨u0, u1⟩, hu⟩ : ∃ u, c[k']? = some u := ⟨_, List.getElem?_eq_getElem (by rw [Hcl.out]; exact hk'n)⟩
              obtain ⟨e0, e1⟩ := flat_cell C7.out hu
              have f0 := C7.out.fz (k' * 2)
              have f1 := C7.out.fz (k' * 2 + 1)
              simp only at e0 e1
              have hls : (flat c ++ tl).length = n * 2 + tl.length := by rw [List.length_append, flat_len, Hcl.out]
              have C8 := (C7.out.drew.set (k' * 2) (.int .i64 y0) (by rw [hls]; omega)).set (k' * 2 + 1) (.int .i64 y1) (by rw [List.length_set, hls]; omega)
              rw [show ((flat c ++ tl).set (k' * 2) (.int .i64 y0)).set (k' * 2 + 1) (.int .i64 y1) = flat (c.set k' (y0, y1)) ++ tl from flat_set (y := (y0, y1)) (by rw [Hcl.out]; exact hk'n)] at C8
              have C8 := Lib.hid C8
              have B8 := Lib.hid ((B7.out.drew.setCell (p := ⟨g, k' * 2, none⟩) (Nat.le_refl _) (.int .i64 y0)).setCell (p := ⟨g, k' * 2 + 1, none⟩) (Nat.le_refl _) (.int .i64 y1))
              have Hcl2 := Lib.hid (show (c.set k' (y0, y1)).length = n by rw [List.length_set]; exact Hcl.out)
              clear hu hls hne
              by_cases h1 : y0 = x0
              · subst h1
                have h2 : ¬ y1 = x1 := fun e => he2 ⟨rfl, e⟩
                have t2 : (y1 == x1) = false := by rw [beq_eq_false_iff_ne]; exact h2
                clear he2
                go_wp2_with fail
                go_still_tail 9, (by kernel_rfl)
                change wpList _ _ _ _ _ wb.drew
                go_wp2_with fail
                go_roundw
                case rel => exact ⟨k' + 1, j + 1, _, by go_num, by go_num, by omega, Hjr.out, by omega, by omega, Hcl2.out, Hst2.out.symm, Heq2.out, C8.out, B8.out⟩
                case measure => simp [intOf]; have := Hjr.out; omega
              · have t2 : (y0 == x0) = false := by rw [beq_eq_false_iff_ne]; exact h1
                clear he2
                go_wp2_with fail
                go_still_tail 9, (by kernel_rfl)
                change wpList _ _ _ _ _ wb.drew
                go_wp2_with fail
                go_roundw
                case rel => exact ⟨k' + 1, j + 1, _, by go_num, by go_num, by omega, Hjr.out, by omega, by omega, Hcl2.out, Hst2.out.symm, Heq2.out, C8.out, B8.out⟩
                case measure => simp [intOf]; have := Hjr.out; omega
          · have hjr' : k + j = n := by have := Hr.out; omega
            have Hf := Lib.hid (show c.take k' = compT d n by rw [← hjr']; exact Htk.out)
            have hk'n : k' < n := by omega
            have Hl := Lib.hid (show (compT d n).length = k' by rw [← Hf.out, List.length_take, Hcl.out]; omega)
            have hls : (flat c ++ tl).length = n * 2 + tl.length := by rw [List.length_append, flat_len, Hcl.out]
            have hd := Lib.hid (fun ty => run_clear_edges wb ty g (k' * 2) (n - k') (cap - k') (by omega) (fun q hq => by rw [C7.out.at_, List.getElem?_eq_getElem (by rw [hls]; omega)]; rfl) (fun q _ => C7.out.fz _))
            have hclr := hd.out
            have R8 := Lib.hid (show EL (wb.setCells g (k' * 2) (zers (n - k'))) (some ⟨g, 0, none⟩) k' (compT d n) from ⟨Hl.out, fun q e hq => by
              have hqk : q < k' := by
                rcases Nat.lt_or_ge q (compT d n).length with h1 | h1
                · rw [Hl.out] at h1; exact h1
                · rw [List.getElem?_eq_none h1] at hq; cases hq
              rw [← Hf.out, List.getElem?_take_of_lt hqk] at hq
              obtain ⟨c0, c1⟩ := flat_cell C7.out hq
              refine ⟨g, 0, rfl, ?_, ?_, ?_⟩
              · have := (Go.below_setCells (B := g) (a := wb) (b := g) (Nat.le_refl _) (zers (n - k')) (k' * 2) wb (Below.refl g wb)).size
                have := C7.out.lt
                omega
              · rw [World.cell?_setCells_out g _ (k' * 2) wb _ (fun _ _ => .inl (by simp; omega)), Nat.zero_add]; exact c0
              · rw [World.cell?_setCells_out g _ (k' * 2) wb _ (fun _ _ => .inl (by simp; omega)), Nat.zero_add]; exact c1⟩)
            have B8 := Lib.hid (Go.below_setCells (b := g) (Nat.le_refl _) (zers (n - k')) (k' * 2) wb B7.out)
            have hk'i : (k' : Int) ≤ n := by omega
            clear hls hd hjr'
            go_wp2_with fail
            go_ret
            refine ⟨by rw [Hl.out]; rfl, by rw [Hl.out]; exact R8.out, B8.out⟩
      · have hne : ((x0, x1) : Int × Int) ≠ (z0, z1) := fun e => by injection e with e1 e2; exact he ⟨e1.symm, e2.symm⟩
        have Hst := Lib.hid (show compT d (k + 1) = d.take (k + 1) by rw [compT_new (by omega) Hx.out Hz.out hne, Hc.out, List.take_add_one, Hz.out]; rfl)
        clear hne
        by_cases h1 : z0 = x0
        · subst h1
          have h2 : ¬ z1 = x1 := fun e => he ⟨rfl, e⟩
          have t2 : (z1 == x1) = false := by rw [beq_eq_false_iff_ne]; exact h2
          clear he
          go_wp2_with fail
          go_still_tail 9, (by kernel_rfl)
          change wpList _ _ _ _ _ wa.drew
          go_wp2_with fail
          go_roundw
          case rel => exact ⟨k + 1, by go_num, by omega, Hlt.out, Hst.out, C6.out.drew, B6.out.drew⟩
          case measure => simp [intOf]; have := Hlt.out; omega
        · have t2 : (z0 == x0) = false := by rw [beq_eq_false_iff_ne]; exact h1
          clear he
          go_wp2_with fail
          go_still_tail 9, (by kernel_rfl)
          change wpList _ _ _ _ _ wa.drew
          go_wp2_with fail
          go_roundw
          case rel => exact ⟨k + 1, by go_num, by omega, Hlt.out, Hst.out, C6.out.drew, B6.out.drew⟩
          case measure => simp [intOf]; have := Hlt.out; omega
    · have hkn : k = n := by omega
      have Hf := Lib.hid (show compT d n = d by rw [← hkn, Hc.out, List.take_of_length_le (by rw [Hn.out]; omega)])
      have He := Lib.hid (el_cells C6.out)
      rw [Hn.out] at He
      clear hkn
      go_wp2_with fail
      go_ret
      refine ⟨by rw [Hf.out, Hn.out]; rfl, by rw [Hf.out, Hn.out]; exact He.out, B6.out⟩
end Go.Proofs.YthocdmlacfejkaaDoor
