/- Rules are taken out of a row and put into it again, in place: Clone, Delete, Insert. -/
import Derived.Deep.RegionLaw
import Derived.Laws.IdiomCopy
import Derived.Lib.Overlaps
import Derived.Laws.Externs
import Derived.Laws.LoneSync
import Derived.Lib.LazyBuf
import Derived.Deep.Upon
import Derived.Test.YtmfmpkihmadjmaaVr
namespace Go.Proofs.Ytmfmpkihmadjmaa
open Go.RowKit Go.Shelf
theorem size_cells (g : Nat) : ∀ (vs : List Value) (o : Nat) (w : World), (w.setCells g o vs).heap.size = w.heap.size
  | [], _, _ => rfl
  | v :: vs, o, w => by rw [World.setCells, size_cells g vs (o + 1)]; simp [World.setCell]
theorem grown_cells (g : Nat) : ∀ (vs : List Value) (o : Nat) (w : World), w.grownBy (w.setCells g o vs) (some g)
  | [], _, w => World.grownBy.refl w _
  | v :: vs, o, w => by
    rw [World.setCells]
    have h := grown_cells g vs (o + 1) (w.setCell ⟨g, o, none⟩ v)
    exact ⟨h.os.trans rfl, h.tape.trans rfl, h.output.trans rfl, Nat.le_trans (by simp [World.setCell]) h.size, fun k hk hne => (h.block k (by simpa [World.setCell] using hk) hne).trans (Below.heap_setCell w ⟨g, o, none⟩ v k (fun e => hne (by rw [e])))⟩
theorem grown_trans {a b c : World} {g : Nat} (h : a.grownBy b (some g)) (k : b.grownBy c (some g)) : a.grownBy c (some g) :=
  ⟨k.os.trans h.os, k.tape.trans h.tape, k.output.trans h.output, Nat.le_trans h.size k.size, fun i hi hne => (k.block i (Nat.lt_of_lt_of_le hi h.size) hne).trans (h.block i hi hne)⟩
theorem grown_drew (w : World) (r : Option Nat) : w.grownBy w.drew r := ⟨rfl, rfl, rfl, Nat.le_refl _, fun _ _ _ => rfl⟩
/-- Cells behind a write of several. -/
def wrote (us : List Value) (o : Nat) (vs : List Value) : List Value := us.take o ++ vs ++ us.drop (o + vs.length)
theorem wrote_len {us vs : List Value} {o : Nat} (h : o + vs.length ≤ us.length) : (wrote us o vs).length = us.length := by
  unfold wrote
  rw [List.length_append, List.length_append, List.length_take, List.length_drop]
  omega
theorem Cells.wrote {w : World} {g : Nat} {us : List Value} (h : Cells w g us) (o : Nat) (vs : List Value) (hl : o + vs.length ≤ us.length) : Cells (w.setCells g o vs) g (wrote us o vs) := by
  have hsome : ∀ j, j < us.length → (w.cell? ⟨g, j, none⟩).isSome = true := fun j hj => by rw [h.at_ j, List.getElem?_eq_getElem hj]; rfl
  refine ⟨fun i => ?_, fun i => by rw [World.frozen?_setCells]; exact h.fz i, by rw [size_cells]; exact h.lt⟩
  unfold Go.Proofs.Ytmfmpkihmadjmaa.wrote
  by_cases h1 : i < o
  · rw [World.cell?_setCells_out g vs o w ⟨g, i, none⟩ (fun _ _ => .inl h1), h.at_ i, List.append_assoc, List.getElem?_append_left (by rw [List.length_take]; omega), List.getElem?_take_of_lt h1]
  · by_cases h2 : i < o + vs.length
    · have := World.cell?_setCells_in g vs o w (fun j hj => hsome (o + j) (by omega)) (i - o) (by omega)
      rw [show o + (i - o) = i by omega] at this
      rw [this, List.getElem?_append_left (by rw [List.length_append, List.length_take]; omega), List.getElem?_append_right (by rw [List.length_take]; omega), List.length_take, Nat.min_eq_left (by omega), List.getElem?_eq_getElem (by omega)]
    · rw [World.cell?_setCells_out g vs o w ⟨g, i, none⟩ (fun _ _ => .inr (by show o + vs.length ≤ i; omega)), h.at_ i, List.getElem?_append_right (by rw [List.length_append, List.length_take]; omega), List.length_append, List.length_take, Nat.min_eq_left (by omega), List.getElem?_drop]
      congr 1
      omega
/-- The zero values of n rules. -/
def zerR (n : Nat) : List Value := (Builtin.zeroCells (Value.agg #[.string ByteArray.empty, .slice none 0 0]).cells n).toList
theorem zerR_len (n : Nat) : (zerR n).length = n * 2 := by unfold zerR Builtin.zeroCells; simp [Value.cells]
theorem zerR_one (n : Nat) : ∀ v ∈ zerR n, v.oneCell' = true := fun v hv => by
  unfold zerR Builtin.zeroCells at hv
  simp [Value.cells] at hv
  obtain ⟨a, ha, rfl⟩ := hv
  rcases (by omega : a % 2 = 0 ∨ a % 2 = 1) with h | h <;> rw [h] <;> rfl
theorem run_clear_rules (w : World) (ty : TypeId) (b o n c : Nat) (hn : 0 < n) (hc : ∀ j, j < n * 2 → (w.cell? ⟨b, o + j, none⟩).isSome = true) (hf : ∀ j, j < n * 2 → w.frozen? ⟨b, o + j, none⟩ = false) :
    (Builtin.clear_ #[36] ty #[.slice (some ⟨b, o, none⟩) n c]).run Try.prog w = .ok (.tuple #[]) (w.setCells b o (zerR n)) := by
  have hst := run_storeCells_cells (P := Try.prog) b o (zerR n) 0 w (by rw [zerR_len]; simpa using hc) (by rw [zerR_len]; simpa using hf) (zerR_one n)
  simp only [Nat.add_zero] at hst
  have hzc : (Builtin.zeroCells (Value.agg #[.string ByteArray.empty, .slice none 0 0]).cells n).toList = zerR n := rfl
  have hzc2 : (Builtin.zeroCells (Value.agg #[.string { data := #[] }, .slice none 0 0]).cells n).toList = zerR n := rfl
  obtain ⟨m, rfl⟩ : ∃ m, n = m + 1 := ⟨n - 1, by omega⟩
  simp [Builtin.clear_, run_underlying Try.underlying36, hzc2, hst]
theorem info_rule : (Try.prog.info? 76).map (fun i => (i.zero, i.size, i.bytes)) = some (some (.agg #[.string ByteArray.empty, .slice none 0 0]), 2, 40) := by kernel_rfl
theorem run_copy2 (w : World) (ty : TypeId) (b o dLen dCap : Nat) (a : Addr) (sLen sCap : Nat) (cs : List Value) (hn : cs.length = Nat.min sLen dLen * 2)
    (hsrc : ∀ j v, cs[j]? = some v → w.cell? (a.add j) = some v) (hc : ∀ j, j < cs.length → (w.cell? ⟨b, o + j, none⟩).isSome = true) (hf : ∀ j, j < cs.length → w.frozen? ⟨b, o + j, none⟩ = false) (h1 : ∀ v ∈ cs, v.oneCell' = true) :
    (Builtin.copy_ #[36, 36] ty #[.slice (some ⟨b, o, none⟩) dLen dCap, .slice (some a) sLen sCap]).run Try.prog w = .ok (goInt (Nat.min sLen dLen)) (w.setCells b o cs) := by
  have hl := run_loadCells_list (P := Try.prog) w a cs hsrc
  have hst := run_storeCells_cells (P := Try.prog) b o cs 0 w (by simpa using hc) (by simpa using hf) h1
  obtain ⟨i, hi, hz0, hz1, hz2⟩ := info_parts info_rule
  simp [Builtin.copy_, run_underlying Try.underlying36, Builtin.lenOf, Builtin.firstCells, sizeOf, typeInfo, hi, hz1, ← hn, hl, hst]
set_option maxRecDepth 100000 in
set_option maxHeartbeats 8000000 in
theorem delete_any (g cap L i j : Nat) (us : List Value) (w : World) (h : Cells w g us) (hul : us.length = cap * 2) (hL : L ≤ cap) (hij : i < j) (hj : j ≤ L) (_hcap : cap ≤ 9223372036854775807) (_hn2 : L ≤ 1000000) (h1 : ∀ v ∈ us.take (L * 2), v.oneCell' = true) :
    Calls Try.prog 51 #[.slice (some ⟨g, 0, none⟩) L cap, .int .i64 (i : Nat), .int .i64 (j : Nat)] w fun e w' => e = .returned (.slice (some ⟨g, 0, none⟩) (i + (L - j)) cap) ∧
      (∃ us', us'.length = us.length ∧ us'.take ((i + (L - j)) * 2) = us.take (i * 2) ++ (us.take (L * 2)).drop (j * 2) ∧ Cells w' g us') ∧ w.grownBy w' (some g) := by
  obtain ⟨i0, hi0, hz0, hz1, hz2⟩ := info_parts info_rule
  obtain ⟨news, hnews⟩ : ∃ news, (us.take (L * 2)).drop (j * 2) = news := ⟨_, rfl⟩
  have hlen : news.length = (L - j) * 2 := by rw [← hnews, List.length_drop, List.length_take]; omega
  have hget : ∀ t u, news[t]? = some u → us[j * 2 + t]? = some u := fun t u hu => by
    rw [← hnews, List.getElem?_drop] at hu
    rcases Nat.lt_or_ge (j * 2 + t) (L * 2) with hlt | hge
    · rwa [List.getElem?_take_of_lt hlt] at hu
    · rw [List.getElem?_take_eq_none hge] at hu; cases hu
  obtain ⟨A, hA, hsrc⟩ : ∃ A : Addr, (if cap = j then some (⟨g, 0, none⟩ : Addr) else some ⟨g, j * 2, none⟩) = some A ∧ RowKit.Hid (∀ t u, news[t]? = some u → w.drew.cell? (A.add t) = some u) := by
    by_cases hc : cap = j
    · refine ⟨⟨g, 0, none⟩, by simp [hc], Lib.hid fun t u hu => ?_⟩
      have h0 : news.length = 0 := by rw [hlen]; omega
      rw [List.length_eq_zero_iff.1 h0] at hu
      simp at hu
    · refine ⟨⟨g, j * 2, none⟩, by simp [hc], Lib.hid fun t u hu => ?_⟩
      rw [Addr.add_lit]
      exact (h.at_ (j * 2 + t)).trans (hget t u hu)
  have s1 := Lib.hid hlen
  have s2 : RowKit.Hid (∀ u ∈ news, u.oneCell' = true) := Lib.hid fun u hu => h1 u (by rw [← hnews] at hu; exact List.mem_of_mem_drop hu)
  have s3 : RowKit.Hid (∀ t, t < news.length → (w.drew.cell? ⟨g, 0 + i * 2 + t, none⟩).isSome = true ∧ w.drew.frozen? ⟨g, 0 + i * 2 + t, none⟩ = false) := Lib.hid fun t ht => by
    rw [hlen] at ht
    refine ⟨?_, h.fz _⟩
    show (w.cell? _).isSome = true
    rw [h.at_, List.getElem?_eq_getElem (by omega)]; rfl
  have hw1l : i * 2 + news.length ≤ us.length := by rw [hlen]; omega
  have C1 : Cells (w.drew.setCells g (0 + i * 2) news) g (wrote us (i * 2) news) := by rw [Nat.zero_add]; exact Cells.wrote (w := w.drew) h.drew (i * 2) news hw1l
  obtain ⟨us1, hus1⟩ : ∃ u, wrote us (i * 2) news = u := ⟨_, rfl⟩
  have hus1l : us1.length = us.length := by rw [← hus1]; exact wrote_len hw1l
  rw [hus1] at C1
  have G1 := grown_trans (grown_drew w (some g)) (grown_cells g news (0 + i * 2) w.drew)
  obtain ⟨W1, hW1⟩ : ∃ W1, w.drew.setCells g (0 + i * 2) news = W1 := ⟨_, rfl⟩
  rw [hW1] at C1 G1
  have hW := Lib.hid hW1.symm
  obtain ⟨k, hk⟩ : ∃ k, i + (L - j) = k := ⟨_, rfl⟩
  have hkL : k < L := by omega
  have hzl : k * 2 + (zerR (L - k)).length ≤ us1.length := by rw [zerR_len]; omega
  have hcl : ∀ ty, (Builtin.clear_ #[36] ty #[.slice (some ⟨g, k * 2, none⟩) (L - k) (cap - k)]).run Try.prog W1 = .ok (.tuple #[]) (W1.setCells g (k * 2) (zerR (L - k))) := fun ty =>
    run_clear_rules W1 ty g (k * 2) (L - k) (cap - k) (by omega) (fun t ht => by rw [C1.at_, List.getElem?_eq_getElem (by omega)]; rfl) (fun t _ => C1.fz _)
  have C2 := Cells.wrote C1 (k * 2) (zerR (L - k)) hzl
  have G2 := grown_trans G1 (grown_cells g (zerR (L - k)) (k * 2) W1)
  have hfin : (wrote us1 (k * 2) (zerR (L - k))).take (k * 2) = us.take (i * 2) ++ news := by
    unfold wrote
    rw [List.append_assoc, List.take_append_of_le_length (by rw [List.length_take]; omega), List.take_take, Nat.min_self, ← hus1]
    unfold wrote
    rw [List.take_append_of_le_length (by rw [List.length_append, List.length_take, hlen]; omega), List.take_of_length_le (by rw [List.length_append, List.length_take, hlen]; omega)]
  have F := Lib.hid (show (∃ us', us'.length = us.length ∧ us'.take (k * 2) = us.take (i * 2) ++ news ∧ Cells (W1.setCells g (k * 2) (zerR (L - k))) g us') ∧ w.grownBy (W1.setCells g (k * 2) (zerR (L - k))) (some g) from ⟨⟨_, (wrote_len hzl).trans hus1l, hfin, C2⟩, G2⟩)
  have hic : i ≤ cap := by omega
  have hjc : j ≤ cap := by omega
  have mixed : Try.prog.follows .mixedOrders = true := by kernel_rfl
  have tne : ((i : Int) == (j : Int)) = false := by simp; omega
  have tne2 : ¬ (cap = k) := by omega
  have Hk := Lib.hid hk
  rw [hnews, hk]
  clear h hul h1 hget hlen hw1l C1 hus1 hus1l G1 C2 G2 hfin hzl hnews hW1
  go_enter Try.func51, Try.ntmps51
  go_wp2_with fail
  go_region_law (refine step_append_room rfl (.tmp 22) (.tmp 25) 36 rfl 76 i0 2 Try.underlying36 hi0 hz1 g 0 i cap (by simp [Act.eval, Act.put]) A (L - j) (cap - j) news (by simp [Act.eval, Act.put]) s1.out hsrc.out s2.out (by omega) s3.out ?_; rw [← hW.out])
  go_wp2_with fail
  go_ret
  exact ⟨rfl, F.out⟩
end Go.Proofs.Ytmfmpkihmadjmaa
