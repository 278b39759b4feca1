/- Regions: what a guard leaves out; an operation that others wait for by way of a chain is taken first. -/
import Derived.Test.YtdpfoegcmngdfaaDoorLb
namespace Go.Proofs.YtdpfoegcmngdfaaDoor
open Go.RowKit
section
variable {P : Program} {md : Region.Mode} {ops : Array Oper} {Q : Exit → Act → World → Prop} {S : World → Prop} {k : Nat}
theorem Till.sk (i m : Nat) (d : Tmp) {oi : Oper} {n : Nat} {l : Array Bool} {a : Act} {w : World} (hS : S w) (h : Till P md ops Q S k n (l.setIfInBounds i true) (a.put (some d) undef) w) (hi : ops[i]? = some oi := by exact rfl) (hd : oi.dst = some d := by exact rfl) (hs : Region.noSelect ops = true := by kernel_rfl) (hf : Region.free md ops l i = true := by kernel_rfl) (hr : (Region.ready md ops l).contains i = true := by kernel_rfl) (hm : waits md ops m i = true := by kernel_rfl) (hmk : (m == k || waits md ops k m) = true := by kernel_rfl) (hik : (i == k || i == m) = false := by kernel_rfl) (hkl : (l.getD k true || l.getD m true) = false := by kernel_rfl)
    (hQ : ∀ c a w, Q (.panic c) (a.put (some d) undef) w → Q (.panic c) a w := by exact fun _ _ _ h => h) (hw : Region.wanted oi (yielded ops a.tmps) = false := by kernel_rfl) : Till P md ops Q S k (n + 1) l a w := by
  rw [Bool.or_eq_false_iff] at hkl hik
  rw [← hd] at h hQ
  exact Till.first hi hs hQ hm (by simpa using hmk) (by simpa using hik.1) (by simpa using hik.2) n l a w hkl.2 (Region.free_spec hi hf) (by simpa using hr) hkl.1 (Or.inr ⟨hw, rfl⟩) hS h
theorem Till.rek {k' : Nat} : ∀ (n : Nat) (l : Array Bool) (a : Act) (w : World), l.getD k true = true → Till P md ops Q S k' n l a w → Till P md ops Q S k n l a w
  | 0, _, _, _, _, h => h
  | n + 1, l, a, w, hk, h => ⟨h.1, fun i hi => wpOp_mono (fun b v hb => by
      have e : (l.setIfInBounds i true).getD k true = true := by
        rw [Array.getD_eq_getD_getElem?, Array.getElem?_setIfInBounds]
        rw [Array.getD_eq_getD_getElem?] at hk
        split
        · split <;> rfl
        · exact hk
      exact ⟨fun hf => absurd (e.symm.trans hf) (by decide), Till.rek n _ b v e hb.2⟩) (h.2 i hi)⟩
end
section
variable {P : Program} {md : Region.Mode} {ops : Array Oper} {Q : Exit → Act → World → Prop} {S : World → Prop} {k : Nat}
theorem Till.firstL {i : Nat} {oi : Oper} {u : Value} (hi : ops[i]? = some oi) (hs : Region.noSelect ops = true) (hQ : ∀ c a w, Q (.panic c) (a.put oi.dst u) w → Q (.panic c) a w) {L : List Nat} (hL : ∀ m ∈ L, waits md ops m i = true ∨ ∃ m' ∈ L, waits md ops m m' = true) (hkL : k ∈ L) (hiL : i ∉ L) (n : Nat) :
    ∀ (l : Array Bool) (a : Act) (w : World), (∀ m ∈ L, l.getD m true = false) → (∀ j oj, ops[j]? = some oj → j ≠ i → l.getD j true = false → (∀ e ∈ oj.after, Region.binds md e = true → e.on ≠ i) → oi.apart ops oj = true) →
      i ∈ Region.ready md ops l → YieldsIf P ops S oi u a → S w → Till P md ops Q S k n (l.setIfInBounds i true) (a.put oi.dst u) w → Till P md ops Q S k (n + 1) l a w := by
  have hik : i ≠ k := fun e => hiL (e ▸ hkL)
  induction n with
  | zero =>
    intro l a w _ _ hr hy hS H
    refine ⟨fun h0 => absurd hr (by rw [h0]; simp), fun j hj => ?_⟩
    rcases Nat.decEq j i with hne | heq
    · have := ready_mono hj hne
      rw [H.1] at this
      cases this
    · subst heq
      exact hy.wpOp hi hS ⟨fun _ => hS, H⟩
  | succ n ih =>
    intro l a w hl0 hfree hr hy hS H
    have hi0 := (mem_ready.1 hr).1
    refine ⟨fun h0 => absurd hr (by rw [h0]; simp), fun j hj => ?_⟩
    rcases Nat.decEq j i with hne | heq
    · obtain ⟨hj0, oj, hoj, hafter⟩ := mem_ready.1 hj
      have open_ : ∀ m' : Nat, l.getD m' true = false → ∀ e ∈ oj.after, Region.binds md e = true → e.on ≠ m' := by
        intro m' hm0 e he hb h1
        have h2 := hafter e he hb
        rw [h1] at h2
        cases hl : l[m']? with
        | none => simp [Array.getD_eq_getD_getElem?, hl] at h2
        | some t => simp [Array.getD_eq_getD_getElem?, hl] at h2 hm0; rw [h2] at hm0; cases hm0
      have hnone := open_ i hi0
      have apart : ∀ m' : Nat, l.getD m' true = false → waits md ops j m' = true → False := by
        intro m' hm0 hw
        unfold waits at hw
        rw [hoj] at hw
        obtain ⟨e, he, h2⟩ := Array.any_eq_true'.1 hw
        simp only [Bool.and_eq_true, beq_iff_eq] at h2
        exact open_ m' hm0 e he h2.1 h2.2
      have hjL : j ∉ L := fun hj' => by
        rcases hL j hj' with h1 | ⟨m', hm', h1⟩
        · exact apart i hi0 h1
        · exact apart m' (hl0 m' hm') h1
      have hjk : j ≠ k := fun e => hjL (e ▸ hkL)
      have hl2 : ∀ m ∈ L, (l.setIfInBounds j true).getD m true = false := fun m hm => by
        rw [getD_set_ne true (show j ≠ m from fun e => hjL (by rw [e]; exact hm))]
        exact hl0 m hm
      have step := wpOp_putIf hoj (hfree j oj hoj hne hj0 hnone) (fun cs b => Region.noSelect_spec hs i oi cs b hi) (fun cs b => Region.noSelect_spec hs j oj cs b hoj) hQ hy (H.2 j (ready_mono hj hne))
      refine wpOp_mono (fun b v hb => ?_) step
      have hSv : S v := hb.2.1 (by rw [getD_set_ne true hjk, getD_set_ne true hik]; exact hl0 k hkL)
      refine ⟨fun _ => hSv, ih (l.setIfInBounds j true) b v hl2 (fun m om hm hmi hml hmn => hfree m om hm hmi ?_ hmn) (ready_mono hr (Ne.symm hne)) hb.1 hSv ?_⟩
      · rcases Nat.decEq j m with h1 | h1
        · rwa [getD_set_ne true h1] at hml
        · subst h1; exact hj0
      · rw [Array.setIfInBounds_comm _ _ hne]
        exact hb.2.2
    · subst heq
      exact hy.wpOp hi hS ⟨fun _ => hS, H⟩
theorem chain_all {L : List Nat} {i : Nat} (h : (L.all fun m => waits md ops m i || L.any fun m' => waits md ops m m') = true) : ∀ m ∈ L, waits md ops m i = true ∨ ∃ m' ∈ L, waits md ops m m' = true := fun m hm => by
  have h1 := List.all_eq_true.1 h m hm
  rw [Bool.or_eq_true] at h1
  exact h1.imp id fun h2 => List.any_eq_true.1 h2
theorem Till.tL (i : Nat) (L : List Nat) (d : Tmp) (u : Value) {oi : Oper} {n : Nat} {l : Array Bool} {a : Act} {w : World} (hS : S w) (h : Till P md ops Q S k n (l.setIfInBounds i true) (a.put (some d) u) w) (hi : ops[i]? = some oi := by exact rfl) (hd : oi.dst = some d := by exact rfl) (hs : Region.noSelect ops = true := by kernel_rfl) (hf : Region.free md ops l i = true := by kernel_rfl) (hr : (Region.ready md ops l).contains i = true := by kernel_rfl) (hL : (L.all fun m => waits md ops m i || L.any fun m' => waits md ops m m') = true := by kernel_rfl) (hkL : L.contains k = true := by kernel_rfl) (hiL : L.contains i = false := by kernel_rfl) (hl0 : (L.all fun m => !l.getD m true) = true := by kernel_rfl)
    (hQ : ∀ c a w, Q (.panic c) (a.put (some d) u) w → Q (.panic c) a w := by exact fun _ _ _ h => h) (hw : Region.wanted oi (yielded ops a.tmps) = true := by kernel_rfl) (hy : ∀ w, S w → (execOp a.eval oi).run P w = .ok (.value u) w := by (intro w hSw; (try dsimp only at hSw); go_split_ands; go_simp)) : Till P md ops Q S k (n + 1) l a w := by
  rw [← hd] at h hQ
  exact Till.firstL hi hs hQ (chain_all hL) (by simpa using hkL) (by simpa using hiL) n l a w (fun m hm => by simpa using List.all_eq_true.1 hl0 m hm) (Region.free_spec hi hf) (by simpa using hr) (Or.inl ⟨hw, hy⟩) hS h
theorem Till.sL (i : Nat) (L : List Nat) (d : Tmp) {oi : Oper} {n : Nat} {l : Array Bool} {a : Act} {w : World} (hS : S w) (h : Till P md ops Q S k n (l.setIfInBounds i true) (a.put (some d) undef) w) (hi : ops[i]? = some oi := by exact rfl) (hd : oi.dst = some d := by exact rfl) (hs : Region.noSelect ops = true := by kernel_rfl) (hf : Region.free md ops l i = true := by kernel_rfl) (hr : (Region.ready md ops l).contains i = true := by kernel_rfl) (hL : (L.all fun m => waits md ops m i || L.any fun m' => waits md ops m m') = true := by kernel_rfl) (hkL : L.contains k = true := by kernel_rfl) (hiL : L.contains i = false := by kernel_rfl) (hl0 : (L.all fun m => !l.getD m true) = true := by kernel_rfl)
    (hQ : ∀ c a w, Q (.panic c) (a.put (some d) undef) w → Q (.panic c) a w := by exact fun _ _ _ h => h) (hw : Region.wanted oi (yielded ops a.tmps) = false := by kernel_rfl) : Till P md ops Q S k (n + 1) l a w := by
  rw [← hd] at h hQ
  exact Till.firstL hi hs hQ (chain_all hL) (by simpa using hkL) (by simpa using hiL) n l a w (fun m hm => by simpa using List.all_eq_true.1 hl0 m hm) (Region.free_spec hi hf) (by simpa using hr) (Or.inr ⟨hw, rfl⟩) hS h
theorem Till.bH {id : Nat} {a : Act} {w : World} (k : Nat) {S : World → Prop} (HS : RowKit.Hid (∀ w', Below w.heap.size w w' → S w')) (h : ∀ v, RowKit.Hid (Below w.heap.size w v) → Till P .any ops Q S k ops.size (Array.replicate ops.size false) a v) (hm : P.follows .mixedOrders = true := by kernel_rfl) : (Code.region id ops true).wp P Q a w :=
  Till.begin k S hm (HS _ (Below.refl _ _).drew) (fun _ => h _ (Lib.hid (Below.refl _ _).drew))
theorem Till.oY {i : Nat} {o : Oper} {u : Value} {n : Nat} {l : Array Bool} {a : Act} {w : World} (hr : Region.ready md ops l = [i]) (ho : ops[i]? = some o) (hy : YieldsIf P ops S o u a) (hS : S w) (h : Till P md ops Q S k n (l.setIfInBounds i true) (a.put o.dst u) w) : Till P md ops Q S k (n + 1) l a w := by
  refine ⟨fun h0 => absurd (hr.symm.trans h0) (by simp), fun j hj => ?_⟩
  rw [hr] at hj
  obtain rfl : j = i := by simpa using hj
  exact hy.wpOp ho hS ⟨fun _ => hS, h⟩
theorem Till.oN (i : Nat) (d : Tmp) {o : Oper} {n : Nat} {l : Array Bool} {a : Act} {w : World} (hS : S w) (h : Till P md ops Q S k n (l.setIfInBounds i true) (a.put (some d) undef) w) (hr : Region.ready md ops l = [i] := by kernel_rfl) (ho : ops[i]? = some o := by exact rfl) (hd : o.dst = some d := by exact rfl) (hw : Region.wanted o (yielded ops a.tmps) = false := by kernel_rfl) : Till P md ops Q S k (n + 1) l a w := by
  rw [← hd] at h
  exact Till.oY hr ho (Or.inr ⟨hw, rfl⟩) hS h
theorem Till.oP (i : Nat) (d : Tmp) (u : Value) {o : Oper} {n : Nat} {l : Array Bool} {a : Act} {w : World} (hS : S w) (h : Till P md ops Q S k n (l.setIfInBounds i true) (a.put (some d) u) w) (hr : Region.ready md ops l = [i] := by kernel_rfl) (ho : ops[i]? = some o := by exact rfl) (hd : o.dst = some d := by exact rfl) (hw : Region.wanted o (yielded ops a.tmps) = true := by kernel_rfl) (hy : ∀ w, S w → (execOp a.eval o).run P w = .ok (.value u) w := by (intro w hSw; (try dsimp only at hSw); go_split_ands; go_simp)) : Till P md ops Q S k (n + 1) l a w := by
  rw [← hd] at h
  exact Till.oY hr ho (Or.inl ⟨hw, hy⟩) hS h
end
end Go.Proofs.YtdpfoegcmngdfaaDoor
