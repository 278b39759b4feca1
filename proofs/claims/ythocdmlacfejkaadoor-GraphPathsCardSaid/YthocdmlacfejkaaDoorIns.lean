/- Insert a node in front. -/
import Derived.Test.YthocdmlacfejkaaDoorNds
import Derived.Laws.IdiomCopy
namespace Go.Proofs.YthocdmlacfejkaaDoor
open Go.RowKit
theorem below_cells {C g : Nat} (hg : C ≤ g) : ∀ (vs : List Value) (o : Nat) {w0 w : World}, Below C w0 w → Below C w0 (w.setCells g o vs)
  | [], _, _, _, h => h
  | v :: vs, o, _, _, h => below_cells hg vs (o + 1) (h.setCell (p := ⟨g, o, none⟩) hg v)
theorem size_cells (g : Nat) : ∀ (vs : List Value) (o : Nat) (w : World), (w.setCells g o vs).heap.size = w.heap.size
  | [], _, _ => rfl
  | v :: vs, o, w => by rw [World.setCells, size_cells g vs]; simp [World.setCell]
theorem isSome_cells (b : Nat) : ∀ (vs : List Value) (o : Nat) (w : World) (q : Addr), (w.cell? q).isSome = true → ((w.setCells b o vs).cell? q).isSome = true
  | [], _, _, _, h => h
  | v :: vs, o, w, q, h => by
    rw [World.setCells]
    refine isSome_cells b vs (o + 1) _ q ?_
    obtain ⟨u, hu⟩ := Option.isSome_iff_exists.1 h
    obtain ⟨v', hv⟩ := cell?_setCell_some (w := w) (p := ⟨b, o, none⟩) (x := v) (q := q) (v := u) hu
    rw [hv]; rfl
/-- A row as it lies. -/
theorem own_row {w : World} {C g cap n : Nat} {xs : List Value} {T : TypeId} (h : w.ownsRow C T 1 (.slice (some ⟨g, 0, none⟩) n cap) n xs) : ∃ cur : Array Value, C ≤ g ∧ w.heap[g]? = some (.cells cur T (0, 0)) ∧ n ≤ cap ∧ cap ≤ maxLen ∧ cur.size = cap ∧ cur.toList.take n = xs := by
  rcases h.2 with ⟨e, _⟩ | ⟨g', cap', cur, e, hg, hh, hnc, hcm, hcs, hx⟩
  · cases e
  · injection e with e1 _ e3
    injection e1 with e1
    injection e1 with e1
    subst e1 e3
    exact ⟨cur, hg, hh, hnc, hcm, by omega, by rwa [Nat.mul_one] at hx⟩
theorem own_cut' {w : World} {C g cap : Nat} {way : List Nat} (h : w.ownsRow C 3 1 (.slice (some ⟨g, 0, none⟩) way.length cap) way.length (nats way)) : w.ownsRow C 3 1 (.slice (some ⟨g, 0, none⟩) (way.length - 1) cap) (way.length - 1) (nats way.dropLast) := by
  refine ⟨by rw [nats_len, List.length_dropLast, Nat.mul_one], .inr ?_⟩
  rcases h.2 with ⟨e, _⟩ | ⟨g', cap', cur, e, hg, hh, hnc, hcm, hcs, hx⟩
  · cases e
  · injection e with e1 _ e3
    injection e1 with e1
    injection e1 with e1
    subst e1 e3
    refine ⟨g, cap, cur, rfl, hg, hh, by omega, hcm, hcs, ?_⟩
    rw [Nat.mul_one] at hx ⊢
    have : (cur.toList.take way.length).take (way.length - 1) = (nats way).take (way.length - 1) := by rw [hx]
    rw [List.take_take, Nat.min_eq_left (by omega)] at this
    rw [this]
    unfold nats
    rw [← List.map_take, List.dropLast_eq_take]
theorem own_some {w : World} {C n : Nat} {T : TypeId} {v : Value} {xs : List Value} (h : w.ownsRow C T 1 v n xs) (hn : 1 ≤ n) : ∃ g cap, v = .slice (some ⟨g, 0, none⟩) n cap ∧ g < w.heap.size ∧ n ≤ cap ∧ cap ≤ maxLen := by
  rcases h.2 with ⟨_, e⟩ | ⟨g, cap, cur, e, hg, hh, hnc, hcm, hcs, hx⟩
  · omega
  · refine ⟨g, cap, e, ?_, hnc, hcm⟩
    rcases Nat.lt_or_ge g w.heap.size with h1 | h1
    · exact h1
    · rw [Array.getElem?_eq_none h1] at hh; cases hh
theorem nats_one (l : List Nat) : ∀ v ∈ nats l, v.oneCell' = true := by
  intro v hv
  unfold nats at hv
  obtain ⟨n, _, rfl⟩ := List.mem_map.1 hv
  rfl
theorem nats_at {l : List Nat} {k : Nat} {v : Value} (h : (nats l)[k]? = some v) : ∃ n, l[k]? = some n ∧ v = .int .i64 (n : Nat) := by
  unfold nats at h
  rw [List.getElem?_map] at h
  cases e : l[k]? with
  | none => rw [e] at h; cases h
  | some n => rw [e] at h; injection h with h; exact ⟨n, rfl, h.symm⟩
theorem insert_any (C g cap a vb : Nat) (l : List Nat) (w : World) (h : w.ownsRow C 3 1 (.slice (some ⟨g, 0, none⟩) l.length cap) l.length (nats l)) (hroom : l.length + 1 ≤ cap) (hv : w.heap[vb]? = some (.cells #[.int .i64 (a : Nat)] 3 (0, 0))) (hne : vb ≠ g) :
    Calls Tryd.prog 115 #[.slice (some ⟨g, 0, none⟩) l.length cap, .int .i64 0, .slice (some ⟨vb, 0, none⟩) 1 1] w fun e w' => e = .returned (.slice (some ⟨g, 0, none⟩) (l.length + 1) cap) ∧ NL C w' (some ⟨g, 0, none⟩) (a :: l) ∧ Below C w w' := by
  obtain ⟨cur, hCg, hh, hnc, hcm, hcs, hx⟩ := own_row h
  unfold maxLen at hcm
  have hgl : g < w.heap.size := by
    rcases Nat.lt_or_ge g w.heap.size with h1 | h1
    · exact h1
    · rw [Array.getElem?_eq_none h1] at hh; cases hh
  have hsome : ∀ j, j < cap → (w.cell? ⟨g, j, none⟩).isSome = true := fun j hj => by
    rw [cell_of_row _ _ _ _ _ _ hh]; simp; omega
  have hfz : ∀ j, w.frozen? ⟨g, j, none⟩ = false := fun j => by simp [World.frozen?, hh]
  have hvz : ∀ j, w.frozen? ⟨vb, j, none⟩ = false := fun j => by simp [World.frozen?, hv]
  have hvs : ∀ j u, ([Value.int .i64 (a : Nat)] : List Value)[j]? = some u → w.cell? ⟨vb, 0 + j, none⟩ = some u := fun j u hu => by
    match j, hu with
    | 0, hu => simp at hu; subst hu; rw [cell_of_row _ _ _ _ _ _ hv]; rfl
  have hcell : ∀ k n, l[k]? = some n → w.cell? ⟨g, k, none⟩ = some (.int .i64 (n : Nat)) := fun k n hk => by
    rw [cell_of_row _ _ _ _ _ _ hh]
    have hkl : k < l.length := by
      rcases Nat.lt_or_ge k l.length with h1 | h1
      · exact h1
      · rw [List.getElem?_eq_none h1] at hk; cases hk
    have e1 : (cur.toList.take l.length)[k]? = cur.toList[k]? := List.getElem?_take_of_lt hkl
    rw [hx] at e1
    unfold nats at e1
    rw [List.getElem?_map, hk] at e1
    simpa using e1.symm
  by_cases h0 : l.length = 0
  · have hl : l = [] := List.eq_nil_of_length_eq_zero h0
    subst hl
    refine (Tryd.slices_Insert_int_end_room g 0 0 cap vb 0 1 1 [.int .i64 (a : Nat)] w (by decide) (by simpa using hroom) (by omega) rfl (fun j hj => by simpa using hsome j (by simp at hroom; omega)) (fun j hj => by simpa using hfz j) hvs (by simp [Value.oneCell'])).mono ?_
    rintro e w' ⟨rfl, rfl⟩
    refine ⟨rfl, fun k n hk => ?_, below_cells hCg _ _ (Below.refl _ _)⟩
    match k, hk with
    | 0, hk =>
      simp at hk
      subst hk
      exact ⟨g, 0, rfl, hCg, by rw [size_cells]; exact hgl, by simpa using World.cell?_setCells_in g [.int .i64 (a : Nat)] 0 w (fun j hj => by simp at hj; subst hj; simpa using hsome 0 (by simp at hroom; omega)) 0 (by simp)⟩
  · refine (Tryd.slices_Insert_int_shift g 0 l.length cap 0 vb 0 1 1 (nats l) [.int .i64 (a : Nat)] w (by omega) (by decide) hroom (by omega) hne (nats_len l) rfl (fun j u hu => ?_) (fun j hj => by simpa using hsome j (by omega)) (fun j hj => by simpa using hfz j) hvs (nats_one l) (by simp [Value.oneCell']) 3 3 1 cap (by simp [World.shape?, hv]) (by simp [World.shape?, hh, hcs]) (by omega) (hvz 0) (hvz 1)).mono ?_
    · obtain ⟨n, hn, rfl⟩ := nats_at hu
      simpa using hcell j n hn
    · rintro e w' ⟨rfl, rfl⟩
      have hs1 : ∀ j, j < cap → (w.drew.cell? ⟨g, j, none⟩).isSome = true := hsome
      have hs2 : ∀ j, j < cap → ((w.drew.setCells g (0 + (0 + 1)) ((nats l).drop 0)).cell? ⟨g, j, none⟩).isSome = true := fun j hj => isSome_cells g _ _ _ _ (hs1 j hj)
      refine ⟨rfl, fun k n hk => ⟨g, 0, rfl, hCg, by rw [size_cells, size_cells]; exact hgl, ?_⟩, below_cells hCg _ _ (below_cells hCg _ _ (Below.refl _ _).drew)⟩
      cases k with
      | zero =>
        simp at hk
        subst hk
        simpa using World.cell?_setCells_in g [.int .i64 (a : Nat)] 0 (w.drew.setCells g (0 + (0 + 1)) ((nats l).drop 0)) (fun j hj => by simp at hj; subst hj; simpa using hs2 0 (by omega)) 0 (by simp)
      | succ k =>
        have hk2 : l[k]? = some n := by simpa using hk
        have hkl : k < l.length := by
          rcases Nat.lt_or_ge k l.length with h1 | h1
          · exact h1
          · rw [List.getElem?_eq_none h1] at hk2; cases hk2
        rw [World.cell?_setCells_out g _ _ _ _ (by intro _ _; simp)]
        have := World.cell?_setCells_in g ((nats l).drop 0) (0 + (0 + 1)) w.drew (fun j hj => hs1 _ (by rw [List.drop_zero, nats_len] at hj; omega)) k (by rw [List.drop_zero, nats_len]; exact hkl)
        rw [show 0 + (k + 1) = 0 + (0 + 1) + k by omega, this]
        have e : (nats l)[k]? = some (.int .i64 (n : Nat)) := by unfold nats; rw [List.getElem?_map, hk2]; rfl
        rw [← List.getElem?_eq_getElem, List.drop_zero, e]
end Go.Proofs.YthocdmlacfejkaaDoor
