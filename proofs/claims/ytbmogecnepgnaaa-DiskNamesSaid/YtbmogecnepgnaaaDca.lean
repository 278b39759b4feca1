/- The model: rows in memory. -/
import Derived.Test.YtbmogecnepgnaaaDba
import Derived.Deep.DeepAppendWide
import Derived.Deep.Upon
namespace Go.Proofs.Ytbmogecnepgnaaa
open Go.RowKit Go.Maps Go.Shelf
/-- A slice whose elements (k cells each) can be read. -/
def RowAt (w : World) (T : TypeId) (k : Nat) (v : Value) (n : Nat) (xs : List Value) : Prop :=
  xs.length = n * k ∧ ((v = .slice none 0 0 ∧ n = 0) ∨ ∃ g o c us fz, v = .slice (some ⟨g, o, none⟩) n c ∧ n ≤ c ∧ c ≤ maxLen ∧ w.heap[g]? = some (.cells us T fz) ∧ ∀ i x, xs[i]? = some x → us[o + i]? = some x)
section
variable {w w' : World} {T : TypeId} {k : Nat} {v : Value} {n : Nat} {xs : List Value}
theorem RowAt.keep (h : RowAt w T k v n xs) (hb : Below w.heap.size w w') : RowAt w' T k v n xs :=
  ⟨h.1, h.2.imp id fun ⟨g, o, c, us, fz, e, h1, h2, h3, h4⟩ => ⟨g, o, c, us, fz, e, h1, h2, row_keep h3 hb, h4⟩⟩
theorem RowAt.fr (h : RowAt w T k v n xs) (hT : dsk T = false) (hf : Fr (fun j => w.heap[j]?) w') : RowAt w' T k v n xs :=
  ⟨h.1, h.2.imp id fun ⟨g, o, c, us, fz, e, h1, h2, h3, h4⟩ => ⟨g, o, c, us, fz, e, h1, h2, hf g us T fz h3 hT, h4⟩⟩
theorem RowAt.stay (h : RowAt w T k v n xs) {q : Option Nat} (hg : w.grownBy w' q) (hq : ∀ j, q = some j → ∃ us T' fz, w.heap[j]? = some (.cells us T' fz) ∧ T' ≠ T) : RowAt w' T k v n xs :=
  ⟨h.1, h.2.imp id fun ⟨g, o, c, us, fz, e, h1, h2, h3, h4⟩ => ⟨g, o, c, us, fz, e, h1, h2, heap_stay h3 hg (fun e => by
    obtain ⟨us', T', fz', h5, h6⟩ := hq g e
    rw [h3] at h5
    injection h5 with h5
    injection h5 with _ h5
    exact h6 h5.symm), h4⟩⟩
theorem RowAt.nil (w : World) (T : TypeId) (k : Nat) : RowAt w T k (.slice none 0 0) 0 [] := ⟨by simp, .inl ⟨rfl, rfl⟩⟩
theorem RowAt.of_own {B : Nat} (h : w.ownsRow B T k v n xs) : RowAt w T k v n xs :=
  ⟨h.1, h.2.imp id fun ⟨g, cap, cur, e, _, hh, h1, h2, h3, h4⟩ => ⟨g, 0, cap, cur, (0, 0), e, h1, h2, hh, fun i x hx => by
    rw [Nat.zero_add, ← Array.getElem?_toList]
    have hi : i < n * k := by rw [← h.1]; exact (List.getElem?_eq_some_iff.1 hx).1
    rw [← h4, List.getElem?_take_of_lt hi] at hx
    exact hx⟩⟩
theorem RowAt.slice (h : RowAt w T k v n xs) : ∃ A c, v = .slice A n c ∧ n ≤ c ∧ c ≤ maxLen ∧ (0 < n → ∃ g o, A = some ⟨g, o, none⟩ ∧ g < w.heap.size) ∧ ∀ i x, xs[i]? = some x → ∃ g o, A = some ⟨g, o, none⟩ ∧ g < w.heap.size ∧ w.cell? ⟨g, o + i, none⟩ = some x := by
  rcases h.2 with ⟨rfl, rfl⟩ | ⟨g, o, c, us, fz, rfl, h1, h2, h3, h4⟩
  · have h0 := h.1
    rw [Nat.zero_mul] at h0
    have := List.eq_nil_of_length_eq_zero h0
    subst this
    exact ⟨none, 0, rfl, Nat.le_refl _, by unfold maxLen; omega, fun h => absurd h (Nat.lt_irrefl _), fun i x hx => by simp at hx⟩
  · refine ⟨_, c, rfl, h1, h2, fun _ => ⟨g, o, rfl, row_lt h3⟩, fun i x hx => ⟨g, o, rfl, row_lt h3, ?_⟩⟩
    rw [cell_of_row _ _ _ _ _ _ h3]
    exact h4 i x hx
/-- A part of it. -/
theorem RowAt.take {A : Option Addr} {c : Nat} (h : RowAt w T k (.slice A n c) n xs) {m : Nat} (hm : m ≤ n) : RowAt w T k (.slice A m c) m (xs.take (m * k)) := by
  refine ⟨by rw [List.length_take, h.1]; exact Nat.min_eq_left (Nat.mul_le_mul_right k hm), ?_⟩
  rcases h.2 with ⟨e, rfl⟩ | ⟨g, o, c', us, fz, e, h1, h2, h3, h4⟩
  · injection e with e1 e2 e3
    subst e1 e3
    exact .inl ⟨by rw [Nat.le_zero.1 hm], Nat.le_zero.1 hm⟩
  · injection e with e1 e2 e3
    subst e1 e3
    exact .inr ⟨g, o, c, us, fz, rfl, by omega, h2, h3, fun i x hx => h4 i x (by
      have hi : i < m * k := by
        have := (List.getElem?_eq_some_iff.1 hx).1
        rw [List.length_take] at this
        omega
      rwa [List.getElem?_take_of_lt hi] at hx)⟩
end
/-- append, from a row that can be read; nothing is left out. -/
theorem run_append_row {w : World} (base : Nat) (t ty e : TypeId) (i : TypeInfo) (z : Value) (size bytes : Nat) (ht : Try.prog.underlying t = some (.slice e)) (hi : Try.prog.info? e = some i) (hz : i.zero = some z)
    (hsize : i.size = size) (hby : i.bytes = bytes) (hzs : z.cells.size = size) (hsz : 0 < size)
    {v : Value} {n : Nat} {xs : List Value} (hown : w.ownsRow base e size v n xs) {x : Value} {T : TypeId} {m : Nat} {news : List Value} (hx : RowAt w T size x m news) (h1 : ∀ u ∈ news, u.oneCell' = true)
    (h63 : n + m ≤ 1000000) (hb : bytes ≤ 1000) (hbase : base ≤ w.heap.size) :
    ∃ v' w', (Builtin.append_ #[t, t] ty #[v, x]).run Try.prog w = .ok v' w' ∧ w'.ownsRow base e size v' (n + m) (xs ++ news) ∧ w.grownBy w' v.ownBlock := by
  rcases hx.2 with ⟨rfl, rfl⟩ | ⟨g, o, c, us, fz, rfl, h2, h3, h4, h5⟩
  · have h0 := hx.1
    rw [Nat.zero_mul] at h0
    have := List.eq_nil_of_length_eq_zero h0
    subst this
    refine ⟨v, w, ?_, by simpa using hown, World.grownBy.refl w _⟩
    rcases hown.2 with ⟨rfl, rfl⟩ | ⟨g, cap, cur, rfl, _, hh, hc, _⟩
    · simp [Builtin.append_, run_underlying ht, sizeOf, typeInfo, hi, Builtin.lenOf, Builtin.firstCells]
    · simp [Builtin.append_, run_underlying ht, sizeOf, typeInfo, hi, Builtin.lenOf, Builtin.firstCells, loadCells, storeCells, hc]
  · have hcell : ∀ j u, news[j]? = some u → w.cell? ((⟨g, o, none⟩ : Addr).add j) = some u := fun j u hu => by
      have : (⟨g, o, none⟩ : Addr).add j = ⟨g, o + j, none⟩ := by cases j <;> rfl
      rw [this, cell_of_row _ _ _ _ _ _ h4]
      exact h5 j u hu
    obtain ⟨v', w', hr, ho, hg, _⟩ := run_append_own_wide (P := Try.prog) w base t ty e i z size bytes ht hi hz hsize hby hzs hsz v n xs hown ⟨g, o, none⟩ m c news hx.1 hcell h1 (by unfold maxLen; omega) (Nat.le_trans (Nat.mul_le_mul_left _ hb) (by omega)) hbase
    exact ⟨v', w', hr, ho, hg⟩
/-- The same for the walk. -/
theorem wpList_append_row {w : World} {ops : Array Oper} {rest : List Oper} {o : Oper} {a : Act} {Q : Exit → Act → World → Prop} (hgd : o.guard = none) (sl x : Operand) (t : TypeId)
    (ho : o.op = .call { callee := .builtin .append, args := #[sl, x], argTypes := #[t, t] }) (base : Nat) (e : TypeId) (i : TypeInfo) (z : Value) (size bytes : Nat) (ht : Try.prog.underlying t = some (.slice e)) (hi : Try.prog.info? e = some i) (hz : i.zero = some z)
    (hsize : i.size = size) (hby : i.bytes = bytes) (hzs : z.cells.size = size) (hsz : 0 < size)
    {v : Value} {n : Nat} {xs : List Value} (hs : a.eval sl = v) (hown : w.ownsRow base e size v n xs) {y : Value} {T : TypeId} {m : Nat} {news : List Value} (hy : a.eval x = y) (hx : RowAt w T size y m news) (h1 : ∀ u ∈ news, u.oneCell' = true)
    (h63 : n + m ≤ 1000000) (hb : bytes ≤ 1000) (hbase : base ≤ w.heap.size)
    (hK : ∀ v' w', w'.ownsRow base e size v' (n + m) (xs ++ news) → w.grownBy w' v.ownBlock → wpList Try.prog ops Q rest (a.put o.dst v') w') : wpList Try.prog ops Q (o :: rest) a w := by
  refine wpList_plain hgd fun K hK' => ?_
  obtain ⟨v', w', hr, h2, h3⟩ := run_append_row base t o.type e i z size bytes ht hi hz hsize hby hzs hsz hown hx h1 h63 hb hbase
  unfold Oper.wp execOp
  simp only [ho, resolve, invoke, builtin, Sem.run_bind, Sem.run_pure, Result.andThen_ok, List.map_toArray, List.map_cons, List.map_nil, hs, hy, hr]
  exact hK' _ _ (hK v' w' h2 h3)
/-- The cells of pairs of a text and a number (entries, files). -/
def entC (l : List (ByteArray × Nat)) : List Value := l.flatMap fun e => [.string e.1, .int .i64 (e.2 : Nat)]
theorem entC_len (l : List (ByteArray × Nat)) : (entC l).length = l.length * 2 := by
  unfold entC
  induction l with
  | nil => rfl
  | cons a l ih => simp only [List.flatMap_cons, List.length_append, ih, List.length_cons, List.length_nil]; omega
theorem entC_at : ∀ (l : List (ByteArray × Nat)) (i : Nat) (e : ByteArray × Nat), l[i]? = some e → (entC l)[i * 2]? = some (.string e.1) ∧ (entC l)[i * 2 + 1]? = some (.int .i64 (e.2 : Nat))
  | [], _, _, h => by cases h
  | a :: l, 0, e, h => by
    have : a = e := by simpa using h
    subst this
    exact ⟨rfl, rfl⟩
  | a :: l, i + 1, e, h => by
    have h1 := entC_at l i e (by simpa using h)
    have hc : entC (a :: l) = .string a.1 :: .int .i64 (a.2 : Nat) :: entC l := rfl
    rw [hc, show (i + 1) * 2 = i * 2 + 1 + 1 by omega, List.getElem?_cons_succ, List.getElem?_cons_succ, List.getElem?_cons_succ, List.getElem?_cons_succ]
    exact h1
theorem entC_one (l : List (ByteArray × Nat)) : ∀ u ∈ entC l, u.oneCell' = true := fun u hu => by
  obtain ⟨e, _, he⟩ := List.mem_flatMap.1 hu
  rcases List.mem_cons.1 he with rfl | he
  · rfl
  · rw [List.mem_singleton.1 he]; rfl
theorem entC_app (a b : List (ByteArray × Nat)) : entC (a ++ b) = entC a ++ entC b := by unfold entC; rw [List.flatMap_append]
theorem entC_take (l : List (ByteArray × Nat)) (k : Nat) : (entC l).take (k * 2) = entC (l.take k) := by
  induction l generalizing k with
  | nil => simp [entC]
  | cons a l ih =>
    cases k with
    | zero => simp [entC]
    | succ k =>
      have hc : entC (a :: l) = .string a.1 :: .int .i64 (a.2 : Nat) :: entC l := rfl
      rw [hc, show (k + 1) * 2 = k * 2 + 1 + 1 by omega, List.take_succ_cons, List.take_succ_cons, ih k, List.take_succ_cons]
      rfl
theorem entC_drop (l : List (ByteArray × Nat)) (k : Nat) : (entC l).drop (k * 2) = entC (l.drop k) := by
  induction l generalizing k with
  | nil => simp [entC]
  | cons a l ih =>
    cases k with
    | zero => simp
    | succ k =>
      have hc : entC (a :: l) = .string a.1 :: .int .i64 (a.2 : Nat) :: entC l := rfl
      rw [hc, show (k + 1) * 2 = k * 2 + 1 + 1 by omega, List.drop_succ_cons, List.drop_succ_cons, ih k, List.drop_succ_cons]
/-- The cells of changes. -/
def chC (l : List (ByteArray × ByteArray × Nat)) : List Value := l.flatMap fun e => [.string e.1, .string e.2.1, .int .i64 (e.2.2 : Nat)]
theorem chC_len (l : List (ByteArray × ByteArray × Nat)) : (chC l).length = l.length * 3 := by
  unfold chC
  induction l with
  | nil => rfl
  | cons a l ih => simp only [List.flatMap_cons, List.length_append, ih, List.length_cons, List.length_nil]; omega
theorem chC_at : ∀ (l : List (ByteArray × ByteArray × Nat)) (i : Nat) (e : ByteArray × ByteArray × Nat), l[i]? = some e → (chC l)[i * 3]? = some (.string e.1) ∧ (chC l)[i * 3 + 1]? = some (.string e.2.1) ∧ (chC l)[i * 3 + 2]? = some (.int .i64 (e.2.2 : Nat))
  | [], _, _, h => by cases h
  | a :: l, 0, e, h => by
    have : a = e := by simpa using h
    subst this
    exact ⟨rfl, rfl, rfl⟩
  | a :: l, i + 1, e, h => by
    have h1 := chC_at l i e (by simpa using h)
    have hc : chC (a :: l) = .string a.1 :: .string a.2.1 :: .int .i64 (a.2.2 : Nat) :: chC l := rfl
    rw [hc, show (i + 1) * 3 = i * 3 + 1 + 1 + 1 by omega]
    simp only [List.getElem?_cons_succ]
    exact h1
theorem chC_one (l : List (ByteArray × ByteArray × Nat)) : ∀ u ∈ chC l, u.oneCell' = true := fun u hu => by
  obtain ⟨e, _, he⟩ := List.mem_flatMap.1 hu
  rcases List.mem_cons.1 he with rfl | he
  · rfl
  · rcases List.mem_cons.1 he with rfl | he
    · rfl
    · rw [List.mem_singleton.1 he]; rfl
theorem chC_app (a b : List (ByteArray × ByteArray × Nat)) : chC (a ++ b) = chC a ++ chC b := by unfold chC; rw [List.flatMap_append]
end Go.Proofs.Ytbmogecnepgnaaa
