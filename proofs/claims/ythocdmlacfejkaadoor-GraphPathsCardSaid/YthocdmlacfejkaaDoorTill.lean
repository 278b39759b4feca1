/- Drawn regions, operation by operation. -/
import Derived.Test.YthocdmlacfejkaaDoorSet
import Derived.Deep.RegionHeld3
import Derived.Deep.RegionWith
namespace Go.Proofs.YthocdmlacfejkaaDoor
open Go.RowKit
section
variable {P : Program} {md : Region.Mode} {ops : Array Oper} {Q : Exit → Act → World → Prop} {S : World → Prop} {k : Nat}
/-- What is left of the region, in whatever order; S is shown behind each operation as long as number k has not come up. -/
def Till (P : Program) (md : Region.Mode) (ops : Array Oper) (Q : Exit → Act → World → Prop) (S : World → Prop) (k : Nat) : Nat → Array Bool → Act → World → Prop
  | 0, l, a, w => Region.ready md ops l = [] ∧ Q .normal a w
  | n + 1, l, a, w => (Region.ready md ops l = [] → Q .normal a w) ∧ ∀ i ∈ Region.ready md ops l, wpOp P ops Q i (fun b v => ((l.setIfInBounds i true).getD k true = false → S v) ∧ Till P md ops Q S k n (l.setIfInBounds i true) b v) a w
theorem Till.any : ∀ (n : Nat) (l : Array Bool) (a : Act) (w : World), Till P md ops Q S k n l a w → wpAny P md ops Q n l a w
  | 0, _, _, _, h => h
  | n + 1, _, _, _, h => ⟨h.1, fun i hi => wpOp_mono (fun b v hb => Till.any n _ b v hb.2) (h.2 i hi)⟩
def waits (md : Region.Mode) (ops : Array Oper) (k i : Nat) : Bool :=
  match ops[k]? with
  | some o => o.after.any fun e => Region.binds md e && e.on == i
  | none => false
theorem Till.first {i : Nat} {oi : Oper} {u : Value} (hi : ops[i]? = some oi) (hs : Region.noSelect ops = true) (hQ : ∀ c a w, Q (.panic c) (a.put oi.dst u) w → Q (.panic c) a w) {m : Nat} (hm : waits md ops m i = true) (hmk : m = k ∨ waits md ops k m = true) (hik : i ≠ k) (him : i ≠ m) (n : Nat) :
    ∀ (l : Array Bool) (a : Act) (w : World), l.getD m true = false → (∀ j oj, ops[j]? = some oj → j ≠ i → l.getD j true = false → (∀ e ∈ oj.after, Region.binds md e = true → e.on ≠ i) → oi.apart ops oj = true) →
      i ∈ Region.ready md ops l → l.getD k true = false → YieldsIf P ops S oi u a → S w → Till P md ops Q S k n (l.setIfInBounds i true) (a.put oi.dst u) w → Till P md ops Q S k (n + 1) l a w := by
  induction n with
  | zero =>
    intro l a w _ _ hr _ hy hS H
    refine ⟨fun h0 => absurd hr (by rw [h0]; simp), fun j hj => ?_⟩
    rcases Nat.decEq j i with hne | heq
    · have := ready_mono hj hne
      rw [H.1] at this
      cases this
    · subst heq
      exact hy.wpOp hi hS ⟨fun _ => hS, H⟩
  | succ n ih =>
    intro l a w hml0 hfree hr hkl hy hS H
    have hi0 := (mem_ready.1 hr).1
    refine ⟨fun h0 => absurd hr (by rw [h0]; simp), fun j hj => ?_⟩
    rcases Nat.decEq j i with hne | heq
    · obtain ⟨hj0, oj, hoj, hafter⟩ := mem_ready.1 hj
      have open_ : ∀ m' : Nat, l.getD m' true = false → ∀ e ∈ oj.after, Region.binds md e = true → e.on ≠ m' := by
        intro m' hm0 e he hb h1
        have h2 := hafter e he hb
        rw [h1] at h2
        cases hl : l[m']? with
        | none => simp [Array.getD_eq_getD_getElem?, hl] at h2
        | some t => simp [Array.getD_eq_getD_getElem?, hl] at h2 hm0; rw [h2] at hm0; cases hm0
      have hnone := open_ i hi0
      have apart : ∀ k' m' : Nat, l.getD m' true = false → waits md ops k' m' = true → j ≠ k' := by
        intro k' m' hm0 hw h1
        subst h1
        unfold waits at hw
        rw [hoj] at hw
        obtain ⟨e, he, h2⟩ := Array.any_eq_true'.1 hw
        simp only [Bool.and_eq_true, beq_iff_eq] at h2
        exact open_ m' hm0 e he h2.1 h2.2
      have hjm : j ≠ m := apart m i hi0 hm
      have hjk : j ≠ k := by
        rcases hmk with h1 | h1
        · rw [← h1]; exact hjm
        · exact apart k m hml0 h1
      have hkl2 : (l.setIfInBounds j true).getD k true = false := by rw [getD_set_ne true hjk]; exact hkl
      have step := wpOp_putIf hoj (hfree j oj hoj hne hj0 hnone) (fun cs b => Region.noSelect_spec hs i oi cs b hi) (fun cs b => Region.noSelect_spec hs j oj cs b hoj) hQ hy (H.2 j (ready_mono hj hne))
      refine wpOp_mono (fun b v hb => ?_) step
      have hSv : S v := hb.2.1 (by rw [getD_set_ne true hjk, getD_set_ne true hik]; exact hkl)
      refine ⟨fun _ => hSv, ih (l.setIfInBounds j true) b v (by rw [getD_set_ne true hjm]; exact hml0) (fun m om hm hmi hml hmn => hfree m om hm hmi ?_ hmn) (ready_mono hr (Ne.symm hne)) hkl2 hb.1 hSv ?_⟩
      · rcases Nat.decEq j m with h1 | h1
        · rwa [getD_set_ne true h1] at hml
        · subst h1; exact hj0
      · rw [Array.setIfInBounds_comm _ _ hne]
        exact hb.2.2
    · subst heq
      exact hy.wpOp hi hS ⟨fun _ => hS, H⟩
theorem Till.take {i m : Nat} {oi : Oper} {d : Option Tmp} {u : Value} {n : Nat} {l : Array Bool} {a : Act} {w : World} (hi : ops[i]? = some oi) (hd : oi.dst = d) (hs : Region.noSelect ops = true) (hf : Region.free md ops l i = true) (hr : (Region.ready md ops l).contains i = true) (hm : waits md ops m i = true) (hmk : (m == k || waits md ops k m) = true) (hik : (i == k || i == m) = false) (hkl : (l.getD k true || l.getD m true) = false)
    (hQ : ∀ c a w, Q (.panic c) (a.put d u) w → Q (.panic c) a w) (hw : Region.wanted oi (yielded ops a.tmps) = true) (hy : ∀ w, S w → (execOp a.eval oi).run P w = .ok (.value u) w) (hS : S w) (h : Till P md ops Q S k n (l.setIfInBounds i true) (a.put d u) w) : Till P md ops Q S k (n + 1) l a w := by
  subst hd
  rw [Bool.or_eq_false_iff] at hkl hik
  exact Till.first hi hs hQ hm (by simpa using hmk) (by simpa using hik.1) (by simpa using hik.2) n l a w hkl.2 (Region.free_spec hi hf) (by simpa using hr) hkl.1 (Or.inl ⟨hw, hy⟩) hS h
/-- A load that is taken first: what the kernel can tell is told by itself. -/
theorem Till.tk (i m : Nat) (d : Tmp) (u : Value) {oi : Oper} {n : Nat} {l : Array Bool} {a : Act} {w : World} (hS : S w) (h : Till P md ops Q S k n (l.setIfInBounds i true) (a.put (some d) u) w) (hi : ops[i]? = some oi := by exact rfl) (hd : oi.dst = some d := by exact rfl) (hs : Region.noSelect ops = true := by kernel_rfl) (hf : Region.free md ops l i = true := by kernel_rfl) (hr : (Region.ready md ops l).contains i = true := by kernel_rfl) (hm : waits md ops m i = true := by kernel_rfl) (hmk : (m == k || waits md ops k m) = true := by kernel_rfl) (hik : (i == k || i == m) = false := by kernel_rfl) (hkl : (l.getD k true || l.getD m true) = false := by kernel_rfl)
    (hQ : ∀ c a w, Q (.panic c) (a.put (some d) u) w → Q (.panic c) a w := by exact fun _ _ _ h => h) (hw : Region.wanted oi (yielded ops a.tmps) = true := by kernel_rfl) (hy : ∀ w, S w → (execOp a.eval oi).run P w = .ok (.value u) w := by (intro w hSw; (try dsimp only at hSw); go_split_ands; go_simp)) : Till P md ops Q S k (n + 1) l a w :=
  Till.take hi hd hs hf hr hm hmk hik hkl hQ hw hy hS h
theorem Till.one {i : Nat} {o : Oper} {n : Nat} {l : Array Bool} {a : Act} {w : World} (hr : Region.ready md ops l = [i]) (ho : ops[i]? = some o)
    (h : ∀ K : Act → World → Prop, Shut (∀ b v, ((l.setIfInBounds i true).getD k true = false → S v) → Till P md ops Q S k n (l.setIfInBounds i true) b v → K b v) → if Region.wanted o (yielded ops a.tmps) = true then Oper.wp P o a w K Q else K (a.put o.dst undef) w) : Till P md ops Q S k (n + 1) l a w := by
  refine ⟨fun h0 => absurd (hr.symm.trans h0) (by simp), fun j hj => ?_⟩
  rw [hr] at hj
  obtain rfl : j = i := by simpa using hj
  exact wpOp_step ho fun K hK => h K fun b v h1 h2 => hK b v ⟨h1, h2⟩
theorem Till.done {l : Array Bool} {a : Act} {w : World} (hr : Region.ready md ops l = []) (h : Q .normal a w) : ∀ n, Till P md ops Q S k n l a w
  | 0 => ⟨hr, h⟩
  | _ + 1 => ⟨fun _ => h, by rw [hr]; simp⟩
theorem Till.begin {id : Nat} {a : Act} {w : World} (k : Nat) (S : World → Prop) (hm : P.follows .mixedOrders = true) (hS : S w.drew) (h : S w.drew → Till P .any ops Q S k ops.size (Array.replicate ops.size false) a w.drew) : (Code.region id ops true).wp P Q a w :=
  wp_region_any hm (Till.any _ _ _ _ (h hS))
end
section
variable {P : Program} {md : Region.Mode} {ops : Array Oper} {Q : Exit → Act → World → Prop} {S : World → Prop} {k : Nat}
/-- One way on of a drawn region. -/
def Arm (P : Program) (md : Region.Mode) (ops : Array Oper) (Q : Exit → Act → World → Prop) (S : World → Prop) (k n : Nat) (l : Array Bool) (a : Act) (w : World) (i : Nat) (o : Oper) : Prop :=
  ∀ K : Act → World → Prop, Shut (∀ b v, ((l.setIfInBounds i true).getD k true = false → S v) → Till P md ops Q S k n (l.setIfInBounds i true) b v → K b v) → if Region.wanted o (yielded ops a.tmps) = true then Oper.wp P o a w K Q else K (a.put o.dst undef) w
theorem Arm.op {i : Nat} {o : Oper} {n : Nat} {l : Array Bool} {a : Act} {w : World} (ho : ops[i]? = some o) (h : Arm P md ops Q S k n l a w i o) : wpOp P ops Q i (fun b v => ((l.setIfInBounds i true).getD k true = false → S v) ∧ Till P md ops Q S k n (l.setIfInBounds i true) b v) a w :=
  wpOp_step ho fun K hK => h K fun b v h1 h2 => hK b v ⟨h1, h2⟩
theorem Till.two {i j : Nat} {o o' : Oper} {n : Nat} {l : Array Bool} {a : Act} {w : World} (hr : Region.ready md ops l = [i, j]) (ho : ops[i]? = some o) (ho' : ops[j]? = some o')
    (h : Arm P md ops Q S k n l a w i o) (h' : Arm P md ops Q S k n l a w j o') : Till P md ops Q S k (n + 1) l a w := by
  refine ⟨fun h0 => absurd (hr.symm.trans h0) (by simp), fun m hm => ?_⟩
  rw [hr] at hm
  rcases List.mem_cons.1 hm with rfl | hm
  · exact h.op ho
  · obtain rfl := List.mem_singleton.1 hm
    exact h'.op ho'
theorem Till.three {i j g : Nat} {o o' o2 : Oper} {n : Nat} {l : Array Bool} {a : Act} {w : World} (hr : Region.ready md ops l = [i, j, g]) (ho : ops[i]? = some o) (ho' : ops[j]? = some o') (ho2 : ops[g]? = some o2)
    (h : Arm P md ops Q S k n l a w i o) (h' : Arm P md ops Q S k n l a w j o') (h2 : Arm P md ops Q S k n l a w g o2) : Till P md ops Q S k (n + 1) l a w := by
  refine ⟨fun h0 => absurd (hr.symm.trans h0) (by simp), fun m hm => ?_⟩
  rw [hr] at hm
  rcases List.mem_cons.1 hm with rfl | hm
  · exact h.op ho
  rcases List.mem_cons.1 hm with rfl | hm
  · exact h'.op ho'
  · obtain rfl := List.mem_singleton.1 hm
    exact h2.op ho2
end
end Go.Proofs.YthocdmlacfejkaaDoor
