/- Whether a choice has an allowed configuration. -/
import Derived.Test.YtmfmpkihmadjmaaVs
namespace Go.Proofs.Ytmfmpkihmadjmaa
open Go.RowKit Go.Shelf
theorem heap_old {w : World} {o : Obj} {k : Nat} {p : Obj} (h : w.heap[k]? = some p) : (w.alloc o).heap[k]? = some p := by
  have hk : k < w.heap.size := by
    rcases Nat.lt_or_ge k w.heap.size with h1 | h1
    · exact h1
    · rw [Array.getElem?_eq_none h1] at h; cases h
  exact (Below.heap_alloc w o k hk).trans h
section
attribute [local go_sem] Oper.semAt_some
set_option maxRecDepth 100000 in
set_option maxHeartbeats 4000000 in
theorem isPossible_any (f : Fm) (CA : Option Addr) (cn cd : Nat) (rs : List (ByteArray × List (Nat × Bool))) (ch : List (Nat × Bool)) (w : World)
    (hn : f.n ≤ 12) (hch : LitL w CA (lc ch)) (hcl : ch.length = cn) (hcw : LowL ch) (hcm : cn ≤ 4611686018427387904) (hrs : RuleL w f.RA rs) (hrl : rs.length = f.rn) (hrw : LowR rs) (hrm : f.rn ≤ 4611686018427387904) :
    Calls Try.prog 50 #[f.v, .slice CA cn cd] w fun e w' => e = .returned (.bool (!(AL f.n rs ch).isEmpty)) ∧ Below w.heap.size w w' := by
  refine (callsIn_wide (n := 6)).1 ?_
  refine callsIn_of_wp_marks Try.func50 rfl trivial ?_ rfl
  simp only [Try.ntmps50, List.size_toArray, List.length_cons, List.length_nil, Nat.reduceAdd, Nat.reduceSub, Array.replicate_succ, Array.replicate_zero, List.push_toArray, List.append_toArray, List.nil_append, List.cons_append]
  gi_wp2_with (refine ⟨trivial, ?_⟩; gi_at_call 45; refine (callsIn_wide.2 (allowed_any f CA cn cd _)).mono ?_; rintro e w' ⟨rfl, rfl⟩)
  have k1 := (Below.refl w.heap.size w).alloc (Nat.le_refl _) (.cells f.cells 40)
  have s1 : (w.alloc (.cells f.cells 40)).heap.size = w.heap.size + 1 := by simp
  obtain ⟨w1, hw1⟩ : ∃ u, w.alloc (.cells f.cells 40) = u := ⟨_, rfl⟩
  have hw1' : w.alloc (.cells #[.string f.nm, .slice f.PA f.pn f.pc, .slice f.IA f.iN f.ic, .slice f.DA f.dn f.dc, .slice f.KA f.kn f.kc, .slice f.QA f.qn f.qc, .slice f.OA f.n f.oc, .slice f.RA f.rn f.rc, .slice f.GA f.gn f.gc, .slice f.VA f.vn f.vc] 40) = w1 := hw1
  rw [hw1] at k1 s1
  rw [hw1']
  have k2 := k1.alloc (by omega) (.cells #[.bool false] 4)
  have C2 := Cells.new w1 #[.bool false] 4
  have s2 : (w1.alloc (.cells #[.bool false] 4)).heap.size = w.heap.size + 1 + 1 := by simp [s1]
  rw [s1] at C2
  obtain ⟨w2, hw2⟩ : ∃ u, w1.alloc (.cells #[.bool false] 4) = u := ⟨_, rfl⟩
  rw [hw2] at k2 C2 s2 ⊢
  have k3 := k2.alloc (by omega) (.cells f.cells 40)
  have hF := heap_new w2 (.cells f.cells 40)
  have s3 : (w2.alloc (.cells f.cells 40)).heap.size = w.heap.size + 1 + 1 + 1 := by simp [s2]
  have C3 := C2.keep ((Below.refl w2.heap.size w2).alloc (Nat.le_refl _) (.cells f.cells 40))
  rw [s2] at hF
  obtain ⟨w3, hw3⟩ : ∃ u, w2.alloc (.cells f.cells 40) = u := ⟨_, rfl⟩
  rw [hw3] at k3 C3 s3 hF ⊢
  have k4 := k3.alloc (by omega) (.cells #[.slice CA cn cd] 55)
  have hC := heap_new w3 (.cells #[.slice CA cn cd] 55)
  have hF := heap_old (o := .cells #[.slice CA cn cd] 55) hF
  have s4 : (w3.alloc (.cells #[.slice CA cn cd] 55)).heap.size = w.heap.size + 1 + 1 + 1 + 1 := by simp [s3]
  have C4 := C3.keep ((Below.refl w3.heap.size w3).alloc (Nat.le_refl _) (.cells #[.slice CA cn cd] 55))
  rw [s3] at hC
  obtain ⟨w4, hw4⟩ : ∃ u, w3.alloc (.cells #[.slice CA cn cd] 55) = u := ⟨_, rfl⟩
  rw [hw4] at k4 C4 s4 hC hF ⊢
  clear hw1 hw1' hw2 hw3 hw4 k1 k2 k3 C2 C3 s1 s2 s3
  refine wpIn_rangeFunc_ownF rfl (by omega) (gf := 69) (lb := #[.pointer (some ⟨w.heap.size + 1 + 1, 0, none⟩), .pointer (some ⟨w.heap.size + 1 + 1 + 1, 0, none⟩)]) rfl trivial (enters_of Try.func69 (by kernel_rfl) rfl)
    (allowed_stops w w4 f CA cn cd rs ch (fun k => k = w.heap.size + 1) (w.heap.size + 1 + 1) (w.heap.size + 1 + 1 + 1) _ _ k4 hn hch hcl hcw hcm hrs hrl hrw hrm hF hC (fun k h => by subst h; omega) _) kpV_t (kpV_b (by omega)) (Below.refl _ _) (fun _ => rfl)
    (fun pre W => (pre = [] ∧ W.cell? ⟨w.heap.size + 1, 0, none⟩ = some (.bool false) ∧ W.frozen? ⟨w.heap.size + 1, 0, none⟩ = false) ∧ Below w.heap.size w W)
    (fun c pre W => (c = .ret ∧ pre ≠ [] ∧ W.cell? ⟨w.heap.size + 1, 0, none⟩ = some (.bool true)) ∧ Below w.heap.size w W)
    (OwnFrom.and (Own.from (fun s A B row hs hg hr => ⟨hs.1, cell_kept hs.2.1 hg hr, (frozen_kept hs.2.1 hg hr).trans hs.2.2⟩) _) (ownFrom_below (Nat.le_refl _) (by omega)))
    (fun c => OwnFrom.and (Own.from (fun s A B row hs hg hr => ⟨hs.1, hs.2.1, cell_kept hs.2.2 hg hr⟩) _) (ownFrom_below (Nat.le_refl _) (by omega)))
    ⟨⟨rfl, C4.at_ 0, C4.fz 0⟩, k4⟩
    (fun x : Cf => { tmps := #[f.v, .slice CA cn cd, .pointer (some ⟨w.heap.size, 0, none⟩), undef, .pointer (some ⟨w.heap.size + 1, 0, none⟩), f.v, .slice CA cn cd, .func (.func 69) #[] #[.pointer (some ⟨w.heap.size + 1 + 1, 0, none⟩), .pointer (some ⟨w.heap.size + 1 + 1 + 1, 0, none⟩)], .int .u64 (x.1 : Nat)], defers := [] }) ?assign ?body ?done ?stop
  case assign =>
    intro l x W K hK
    gi_wp2
    exact hK
  case body =>
    rintro l pre x W ⟨⟨hp, hc, hf⟩, hB⟩ _
    gi_wp2
    exact ⟨KeepsOthers.setCell _ _ _, ⟨rfl, by simp, World.cell?_setCell_same' _ _ _ (by rw [hc]; rfl)⟩, hB.setCell (p := ⟨w.heap.size + 1, 0, none⟩) (by simp) _⟩
  case done =>
    rintro D ys W hD hys ⟨⟨hp, hcr, hfr⟩, hB⟩ hK
    have hAL : AL f.n rs ch = [] := List.map_eq_nil_iff.1 (hys.symm.trans hp)
    gi_wp2
    have hK' := (KeepsOthers.setCell W ⟨w.heap.size + 1, 0, none⟩ (.bool false)).same D _ hK rfl
    refine ⟨by simp, .inl ⟨_, _, rfl, run_takeDeferred hK', ?_⟩⟩
    have hc5 := cell_kept (World.cell?_setCell_same' W ⟨w.heap.size + 1, 0, none⟩ (.bool false) (by rw [hcr]; rfl)) (grownBy_putObj' _ D (.deferred none)) (fun r e => by cases e; exact ⟨_, hK', rfl⟩)
    refine ⟨.bool false, ?_, by first | rfl | (rw [hAL]; rfl), (hB.setCell (p := ⟨w.heap.size + 1, 0, none⟩) (by simp) _).trans (belowK_b (w := w) (Nat.le_refl _) _ D _ _ (by omega) hK' rfl rfl)⟩
    simp [results, Try.f50, go_sem, hc5]
  case stop =>
    rintro D c pre W hD ⟨hpre, hne⟩ ⟨⟨rfl, _, hcr⟩, hB⟩ hK
    have hAL : (AL f.n rs ch).isEmpty = false := by
      obtain ⟨q, hq⟩ := hpre
      cases hA : AL f.n rs ch with
      | nil =>
        rw [hA] at hq
        exact absurd (List.append_eq_nil_iff.1 hq).1 hne
      | cons a b => rfl
    gi_wp2
    refine ⟨by simp, .inl ⟨_, _, rfl, run_takeDeferred hK, ?_⟩⟩
    have hc5 := cell_kept hcr (grownBy_putObj' _ D (.deferred none)) (fun r e => by cases e; exact ⟨_, hK, rfl⟩)
    refine ⟨.bool true, ?_, by first | rfl | (rw [hAL]; rfl), hB.trans (belowK_b (w := w) (Nat.le_refl _) W D _ _ (by omega) hK rfl rfl)⟩
    simp [results, Try.f50, go_sem, hc5]
end
end Go.Proofs.Ytmfmpkihmadjmaa
