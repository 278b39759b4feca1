/- Liaisons: the iterator over subsets. -/
import Derived.RangeFuncBox
import Derived.Test.YtdpfoegcmngdfaaDoorLh
namespace Go.Proofs.YtdpfoegcmngdfaaDoor
open Go.RowKit Go.Shelf
/-- What a round keeps: what lay below n₀, and all cells but those of X. -/
def KpV (n₀ : Nat) (X : Nat → Prop) (W W' : World) : Prop := Below n₀ W W' ∧ ∀ k o, W.heap[k]? = some o → o.isCells = true → ¬ X k → W'.heap[k]? = some o
theorem kpV_t {n₀ : Nat} {X : Nat → Prop} {A B C : World} (h : KpV n₀ X A B) (k : KpV n₀ X B C) : KpV n₀ X A C := ⟨h.1.trans k.1, fun i o hi ho hx => k.2 i o (h.2 i o hi ho hx) ho hx⟩
theorem kpV_b {n₀ : Nat} {X : Nat → Prop} {w : World} (hn : n₀ ≤ w.heap.size) (W : World) (l : Nat) (o o' : Obj) (hl : w.heap.size ≤ l) (h : W.heap[l]? = some o) (h1 : o.isCells = false) (h2 : o.isWalk = false) : KpV n₀ X W (W.putObj l o') := by
  refine ⟨belowK_b hn W l o o' hl h h1 h2, fun k p hk hp _ => ?_⟩
  have hne : k ≠ l := fun e => by subst e; rw [h] at hk; injection hk with hk; rw [← hk, h1] at hp; cases hp
  exact (World.putObj_heap_other hne).trans hk
theorem kpV_refl {n₀ : Nat} {X : Nat → Prop} (W : World) : KpV n₀ X W W := ⟨Below.refl _ _, fun _ _ h _ _ => h⟩
theorem kpV_below {n₀ : Nat} {X : Nat → Prop} {W W' : World} (h : Below W.heap.size W W') (hn : n₀ ≤ W.heap.size) : KpV n₀ X W W' :=
  ⟨h.mono hn, fun k o hk _ _ => (h.block k (by
    rcases Nat.lt_or_ge k W.heap.size with h1 | h1
    · exact h1
    · rw [Array.getElem?_eq_none h1] at hk; cases hk)).trans hk⟩
theorem kpV_set {n₀ : Nat} {X : Nat → Prop} (W : World) (p o : Nat) (v : Value) (hn : n₀ ≤ p) (hX : X p) : KpV n₀ X W (W.setCell ⟨p, o, none⟩ v) :=
  ⟨(Below.refl n₀ W).setCell (p := ⟨p, o, none⟩) hn v, fun k ob hk _ hx => (Below.heap_setCell W ⟨p, o, none⟩ v k (fun e => hx (by rw [e]; exact hX))).trans hk⟩
theorem kpV_drew {n₀ : Nat} {X : Nat → Prop} (W : World) : KpV n₀ X W W.drew := ⟨(Below.refl n₀ W).drew, fun _ _ h _ _ => h⟩
theorem heap_old {w : World} {o : Obj} {k : Nat} {p : Obj} (h : w.heap[k]? = some p) : (w.alloc o).heap[k]? = some p := by
  have hk : k < w.heap.size := by
    rcases Nat.lt_or_ge k w.heap.size with h1 | h1
    · exact h1
    · rw [Array.getElem?_eq_none h1] at h; cases h
  exact (Below.heap_alloc w o k hk).trans h
theorem sbs_succ (s k : Nat) : sbs s (k + 1) = sbs s k ++ chL (bitsOf s) 0 (k + 1) := by
  unfold sbs
  rw [List.range_succ, List.flatMap_append]
  simp
theorem sbs_pre (s k j : Nat) : sbs s k <+: sbs s (k + j) := by
  induction j with
  | zero => exact List.prefix_refl _
  | succ j ih => rw [← Nat.add_assoc, sbs_succ]; exact ih.trans (List.prefix_append _ _)
theorem sbs_le {s k m : Nat} (h : k ≤ m) : sbs s k <+: sbs s m := by
  obtain ⟨j, rfl⟩ := Nat.exists_eq_add_of_le h
  exact sbs_pre s k j
set_option maxRecDepth 100000 in
set_option maxHeartbeats 4000000 in
theorem subs_loop (l s m pS pM : Nat) (S : Nat → List Cf) (J Jx : List Cf → World → Prop) (W : World) (R : Ending → World → Prop) (hm : m ≤ 12)
    (hC : ∀ k wr, k < m → J (S k) wr → Calls Tryd.prog 75 #[.int .u64 (s : Nat), .int .u64 0, .int .i64 ((k + 1 : Nat) : Nat), .func (.yield l) #[] #[]] wr fun e W' => (e = .returned (.bool true) ∧ J (S (k + 1)) W') ∨ (e = .returned (.bool false) ∧ ∃ q, q <+: S m ∧ q ≠ [] ∧ Jx q W'))
    (hJ : ∀ pre W2, J pre W2 → W2.cell? ⟨pS, 0, none⟩ = some (.int .u64 (s : Nat)) ∧ W2.cell? ⟨pM, 0, none⟩ = some (.int .i64 (m : Nat)))
    (h0 : J (S 0) W) (hR1 : ∀ v W', J (S m) W' → R (.returned v) W') (hR2 : ∀ v W' q, q <+: S m → q ≠ [] → Jx q W' → R (.returned v) W') :
    Calls Tryd.prog 74 #[.func (.yield l) #[] #[], .pointer (some ⟨pM, 0, none⟩), .pointer (some ⟨pS, 0, none⟩)] W R := by
  have HC := Lib.hid hC
  have JC := Lib.hid hJ
  have J0 := Lib.hid h0
  have R1 := Lib.hid hR1
  have R2 := Lib.hid hR2
  clear hC hJ h0 hR1 hR2
  go_enter Tryd.func74, Tryd.ntmps74
  go_wp2_with fail
  go_loopw [4] (fun a wr => ∃ k : Nat, a = .int .i64 ((k + 1 : Nat) : Nat) ∧ k ≤ m ∧ J (S k) wr) (fun a _ => m + 1 - (intOf a).toNat)
  case atStart => exact ⟨0, rfl, Nat.zero_le _, J0.out⟩
  case round =>
    obtain ⟨k, rfl, hk, hj⟩ := hrel
    have Hj := Lib.hid hj
    obtain ⟨c0, c1⟩ := JC.out _ _ hj
    clear hj
    by_cases hlt : k < m
    · have t1 : decide (((k + 1 : Nat) : Int) ≤ ((m : Nat) : Int)) = true := decide_eq_true (by omega)
      have t2 : decide (k + 1 ≤ m) = true := decide_eq_true (by omega)
      have HR := HC.out k wr hlt Hj.out
      obtain ⟨K, hK⟩ : ∃ K, k + 1 = K := ⟨_, rfl⟩
      rw [hK] at t1 t2 HR ⊢
      have HR := Lib.hid HR
      have HKm := Lib.hid (show K ≤ m by omega)
      have hK12 : K ≤ 12 := by omega
      clear hK hlt hk
      go_wp2_with fail
      refine HR.out.mono ?_
      rintro e w2 (⟨rfl, hj⟩ | ⟨rfl, q, hq, hne, hjx⟩)
      · have Hj2 := Lib.hid hj
        clear hj c0 c1
        go_wp2_with fail
        go_roundw
        case rel => exact ⟨K, by go_num, HKm.out, Hj2.out⟩
        case measure => simp [intOf]; have := HKm.out; omega
      · have Hq := Lib.hid hq
        have Hjx := Lib.hid hjx
        have Hne := Lib.hid hne
        clear hq hjx hne c0 c1
        go_wp2_with fail
        refine bodyPost_ret (results_none rfl _ _ _) rfl ?_
        exact R2.out _ _ q Hq.out Hne.out Hjx.out
    · obtain rfl : k = m := by omega
      have t1 : decide (((k + 1 : Nat) : Int) ≤ ((k : Nat) : Int)) = false := decide_eq_false (by omega)
      have t2 : decide (k + 1 ≤ k) = false := decide_eq_false (by omega)
      go_wp2_with fail
      go_end0
      exact R1.out _ _ Hj.out
set_option maxRecDepth 100000 in
set_option maxHeartbeats 4000000 in
theorem subs_stops (w0 w : World) (s m : Nat) (X : Nat → Prop) (pS pM : Nat) (TS TM : TypeId) (hb0 : Below w0.heap.size w0 w) (hs : s < 4096) (hm : m ≤ 12)
    (hS : w.heap[pS]? = some (.cells #[.int .u64 (s : Nat)] TS)) (hM : w.heap[pM]? = some (.cells #[.int .i64 (m : Nat)] TM)) (hX : ∀ k, X k → k ≠ pS ∧ k ≠ pM) (md : Nat) :
    SeqStopsK Fence.wide md Tryd.prog 74 #[.pointer (some ⟨pM, 0, none⟩), .pointer (some ⟨pS, 0, none⟩)] (fun c : Cf => #[.int .u64 (c.1 : Nat)]) (KpV w0.heap.size X) (fun xs => xs = (sbs s m).map cF) (fun pre => pre <+: (sbs s m).map cF ∧ pre ≠ []) (sbs s m).length w := by
  intro l J Jx W hW hJ hJx hY hJ0
  have hpS : pS < w.heap.size := by
    rcases Nat.lt_or_ge pS w.heap.size with h1 | h1
    · exact h1
    · rw [Array.getElem?_eq_none h1] at hS; cases hS
  have hpM : pM < w.heap.size := by
    rcases Nat.lt_or_ge pM w.heap.size with h1 | h1
    · exact h1
    · rw [Array.getElem?_eq_none h1] at hM; cases hM
  have hS1 := (hW.block pS hpS).trans hS
  have hM1 := (hW.block pM hpM).trans hM
  have hbW := hb0.trans (hW.mono hb0.size)
  obtain ⟨J', hJ'⟩ : ∃ J' : List Cf → World → Prop, J' = fun pre W2 => J pre W2 ∧ Below w0.heap.size w0 W2 ∧ W2.heap[pS]? = some (.cells #[.int .u64 (s : Nat)] TS) ∧ W2.heap[pM]? = some (.cells #[.int .i64 (m : Nat)] TM) := ⟨_, rfl⟩
  have HC := choose_any l (sbs s m).length J' Jx (by
    intro pre c W2 hj hl
    rw [hJ'] at hj ⊢
    obtain ⟨hj, hb, h1, h2⟩ := hj
    refine YieldAt.mono (yield_any (m' := 0) (hY pre c W2 hj hl)) ?_
    rintro e W4 (⟨rfl, h4, h5⟩ | ⟨rfl, h4⟩)
    · exact .inl ⟨rfl, h4, hb.trans h5.1, h5.2 _ _ h1 rfl (fun h => (hX _ h).1 rfl), h5.2 _ _ h2 rfl (fun h => (hX _ h).2 rfl)⟩
    · exact .inr ⟨rfl, h4⟩)
  obtain ⟨S, hSS⟩ : ∃ S : Nat → List Cf, S = fun k => (sbs s k).map cF := ⟨_, rfl⟩
  have HC : RowKit.Hid (∀ k wr, k < m → J' (S k) wr → Calls Tryd.prog 75 #[.int .u64 (s : Nat), .int .u64 0, .int .i64 ((k + 1 : Nat) : Nat), .func (.yield l) #[] #[]] wr fun e W' => (e = .returned (.bool true) ∧ J' (S (k + 1)) W') ∨ (e = .returned (.bool false) ∧ ∃ q, q <+: S m ∧ q ≠ [] ∧ Jx q W')) := Lib.hid fun k wr hlt hj => by
    rw [hSS] at hj ⊢
    have HR := HC (k + 1) s 0 ((sbs s k).map cF) wr hs (by omega) (by omega) hj (by
      have h1 := (sbs_le (s := s) (k := k + 1) (m := m) hlt).length_le
      rw [sbs_succ, List.length_append] at h1
      rw [List.length_map]; exact h1)
    rw [← List.map_append, ← sbs_succ] at HR
    refine HR.mono ?_
    rintro e W' (h | ⟨h1, q, h2, h3, h4⟩)
    · exact .inl h
    · exact .inr ⟨h1, q, h2.trans ((sbs_le (s := s) (k := k + 1) (m := m) hlt).map cF), h3, h4⟩
  have S0 : RowKit.Hid (S 0 = []) := Lib.hid (by rw [hSS]; rfl)
  have SM : RowKit.Hid (S m = (sbs s m).map cF) := Lib.hid (by rw [hSS])
  have J0 : RowKit.Hid (J' (S 0) W) := Lib.hid (by rw [S0.out, hJ']; exact ⟨hJ0, hbW, hS1, hM1⟩)
  have JC : RowKit.Hid (∀ pre W2, J' pre W2 → W2.cell? ⟨pS, 0, none⟩ = some (.int .u64 (s : Nat)) ∧ W2.cell? ⟨pM, 0, none⟩ = some (.int .i64 (m : Nat))) := Lib.hid fun pre W2 h => by
    rw [hJ'] at h
    obtain ⟨_, _, h1, h2⟩ := h
    exact ⟨by simp [World.cell?, h1], by simp [World.cell?, h2]⟩
  have JE : RowKit.Hid (∀ pre W2, J' pre W2 → J pre W2) := Lib.hid fun pre W2 h => by rw [hJ'] at h; exact h.1
  clear hY hJ0 hS hM hS1 hM1 hJ hJx hX hJ' hbW hb0 hW hSS S0
  refine callsIn_wide.2 ?_
  show Calls Tryd.prog 74 #[.func (.yield l) #[] #[], .pointer (some ⟨pM, 0, none⟩), .pointer (some ⟨pS, 0, none⟩)] W _
  exact subs_loop l s m pS pM S J' Jx W _ hm HC.out JC.out J0.out (fun v W' h => ⟨⟨v, rfl⟩, .inl ⟨_, SM.out, JE.out _ _ h⟩⟩) (fun v W' q h1 h2 h3 => ⟨⟨v, rfl⟩, .inr ⟨q, ⟨by rw [← SM.out]; exact h1, h2⟩, h3⟩⟩)
set_option maxRecDepth 100000 in
theorem subsets_any (s m : Int) (w : World) :
    Calls Tryd.prog 52 #[.int .u64 s, .int .i64 m] w fun e w' => e = .returned (.func (.func 74) #[] #[.pointer (some ⟨w.heap.size + 1, 0, none⟩), .pointer (some ⟨w.heap.size, 0, none⟩)]) ∧ w' = (w.alloc (.cells #[.int .u64 s] 78)).alloc (.cells #[.int .i64 m] 3) := by
  go_enter Tryd.func52, Tryd.ntmps52
  go_wp2_with fail
  go_ret
  exact ⟨by simp, rfl⟩
end Go.Proofs.YtdpfoegcmngdfaaDoor
