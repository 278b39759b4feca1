/- The allowed configurations of a choice, as a sequence. -/
import Derived.Test.YtmfmpkihmadjmaaVe
namespace Go.Proofs.Ytmfmpkihmadjmaa
open Go.RowKit Go.Shelf
/-- A family as a value: its base, and the slices of its options, rules, guards and overrides. -/
structure Fm where
  nm : ByteArray
  PA : Option Addr
  IA : Option Addr
  DA : Option Addr
  KA : Option Addr
  QA : Option Addr
  OA : Option Addr
  RA : Option Addr
  GA : Option Addr
  VA : Option Addr
  pn : Nat
  pc : Nat
  iN : Nat
  ic : Nat
  dn : Nat
  dc : Nat
  kn : Nat
  kc : Nat
  qn : Nat
  qc : Nat
  n : Nat
  oc : Nat
  rn : Nat
  rc : Nat
  gn : Nat
  gc : Nat
  vn : Nat
  vc : Nat
abbrev Fm.cells (f : Fm) : Array Value := #[.string f.nm, .slice f.PA f.pn f.pc, .slice f.IA f.iN f.ic, .slice f.DA f.dn f.dc, .slice f.KA f.kn f.kc, .slice f.QA f.qn f.qc, .slice f.OA f.n f.oc, .slice f.RA f.rn f.rc, .slice f.GA f.gn f.gc, .slice f.VA f.vn f.vc]
abbrev Fm.v (f : Fm) : Value := .agg #[.string f.nm, .slice f.PA f.pn f.pc, .slice f.IA f.iN f.ic, .slice f.DA f.dn f.dc, .slice f.KA f.kn f.kc, .slice f.QA f.qn f.qc, .slice f.OA f.n f.oc, .slice f.RA f.rn f.rc, .slice f.GA f.gn f.gc, .slice f.VA f.vn f.vc]
/-- The allowed configurations among the first k. -/
def alU (n : Nat) (rs : List (ByteArray × List (Nat × Bool))) (ch : List (Nat × Bool)) (k : Nat) : List Nat := ((List.range k).map (cfg n)).filter (okB rs ch)
def AL (n : Nat) (rs : List (ByteArray × List (Nat × Bool))) (ch : List (Nat × Bool)) : List Nat := alU n rs ch (2 ^ n)
theorem alU_yes {n k : Nat} {rs : List (ByteArray × List (Nat × Bool))} {ch : List (Nat × Bool)} (h : okB rs ch (cfg n k) = true) : alU n rs ch (k + 1) = alU n rs ch k ++ [cfg n k] := by
  unfold alU
  rw [List.range_succ, List.map_append, List.filter_append]
  simp [h]
theorem alU_no {n k : Nat} {rs : List (ByteArray × List (Nat × Bool))} {ch : List (Nat × Bool)} (h : okB rs ch (cfg n k) = false) : alU n rs ch (k + 1) = alU n rs ch k := by
  unfold alU
  rw [List.range_succ, List.map_append, List.filter_append]
  simp [h]
theorem alU_len (n k : Nat) (rs : List (ByteArray × List (Nat × Bool))) (ch : List (Nat × Bool)) : (alU n rs ch k).length ≤ k := by
  unfold alU
  refine Nat.le_trans (List.length_filter_le _ _) ?_
  simp
theorem alU_pre (n : Nat) (rs : List (ByteArray × List (Nat × Bool))) (ch : List (Nat × Bool)) (k j : Nat) : alU n rs ch k <+: alU n rs ch (k + j) := by
  induction j with
  | zero => exact List.prefix_refl _
  | succ j ih =>
    refine ih.trans ?_
    rw [← Nat.add_assoc]
    cases h : okB rs ch (cfg n (k + j)) with
    | true => rw [alU_yes h]; exact List.prefix_append _ _
    | false => rw [alU_no h]; exact List.prefix_refl _
theorem cfg_lt (n k : Nat) (hn : n ≤ 12) : cfg n k < 18446744073709551616 := by
  have h : cfg n k ≤ 4096 := by
    rw [← cfg_zero n hn]
    unfold cfg cfgH
    exact Nat.mul_le_mul_right _ (by omega)
  omega
/-- A configuration that fits its type. -/
abbrev Cf := { c : Nat // c < 18446744073709551616 }
def cF (c : Nat) : Cf := ⟨c % 18446744073709551616, Nat.mod_lt _ (by decide)⟩
theorem cF_val {c : Nat} (h : c < 18446744073709551616) : (cF c).1 = c := Nat.mod_eq_of_lt h
/-- What a round keeps: what lay below n₀, and all cells but those of X. -/
def KpV (n₀ : Nat) (X : Nat → Prop) (W W' : World) : Prop := Below n₀ W W' ∧ ∀ k o, W.heap[k]? = some o → o.isCells = true → ¬ X k → W'.heap[k]? = some o
theorem kpV_t {n₀ : Nat} {X : Nat → Prop} {A B C : World} (h : KpV n₀ X A B) (k : KpV n₀ X B C) : KpV n₀ X A C := ⟨h.1.trans k.1, fun i o hi ho hx => k.2 i o (h.2 i o hi ho hx) ho hx⟩
theorem kpV_b {n₀ : Nat} {X : Nat → Prop} {w : World} (hn : n₀ ≤ w.heap.size) (W : World) (l : Nat) (o o' : Obj) (hl : w.heap.size ≤ l) (h : W.heap[l]? = some o) (h1 : o.isCells = false) (h2 : o.isWalk = false) : KpV n₀ X W (W.putObj l o') := by
  refine ⟨belowK_b hn W l o o' hl h h1 h2, fun k p hk hp _ => ?_⟩
  have hne : k ≠ l := fun e => by subst e; rw [h] at hk; injection hk with hk; rw [← hk, h1] at hp; cases hp
  exact (World.putObj_heap_other hne).trans hk
theorem kpV_refl {n₀ : Nat} {X : Nat → Prop} (W : World) : KpV n₀ X W W := ⟨Below.refl _ _, fun _ _ h _ _ => h⟩
theorem kpV_below {n₀ : Nat} {X : Nat → Prop} {W W' : World} (h : Below W.heap.size W W') (hn : n₀ ≤ W.heap.size) : KpV n₀ X W W' :=
  ⟨h.mono hn, fun k o hk _ _ => (h.block k (by
    rcases Nat.lt_or_ge k W.heap.size with h1 | h1
    · exact h1
    · rw [Array.getElem?_eq_none h1] at hk; cases hk)).trans hk⟩
theorem kpV_set {n₀ : Nat} {X : Nat → Prop} (W : World) (p o : Nat) (v : Value) (hn : n₀ ≤ p) (hX : X p) : KpV n₀ X W (W.setCell ⟨p, o, none⟩ v) :=
  ⟨(Below.refl n₀ W).setCell (p := ⟨p, o, none⟩) hn v, fun k ob hk _ hx => (Below.heap_setCell W ⟨p, o, none⟩ v k (fun e => hx (by rw [e]; exact hX))).trans hk⟩
theorem kpV_drew {n₀ : Nat} {X : Nat → Prop} (W : World) : KpV n₀ X W W.drew := ⟨(Below.refl n₀ W).drew, fun _ _ h _ _ => h⟩
section
attribute [local go_sem] Oper.semAt_some
set_option maxRecDepth 100000 in
set_option maxHeartbeats 4000000 in
theorem allowed_stops (w0 w : World) (f : Fm) (CA : Option Addr) (cn cd : Nat) (rs : List (ByteArray × List (Nat × Bool))) (ch : List (Nat × Bool)) (X : Nat → Prop) (pF pC : Nat) (TF TC : TypeId)
    (hb0 : Below w0.heap.size w0 w) (hn : f.n ≤ 12) (hch : LitL w0 CA (lc ch)) (hcl : ch.length = cn) (hcw : LowL ch) (hcm : cn ≤ 4611686018427387904) (hrs : RuleL w0 f.RA rs) (hrl : rs.length = f.rn) (hrw : LowR rs) (hrm : f.rn ≤ 4611686018427387904)
    (hF : w.heap[pF]? = some (.cells f.cells TF)) (hC : w.heap[pC]? = some (.cells #[.slice CA cn cd] TC)) (hX : ∀ k, X k → k < w.heap.size ∧ k ≠ pF ∧ k ≠ pC) (m : Nat) :
    SeqStopsK Fence.wide m Try.prog 69 #[.pointer (some ⟨pF, 0, none⟩), .pointer (some ⟨pC, 0, none⟩)] (fun c : Cf => #[.int .u64 (c.1 : Nat)]) (KpV w0.heap.size X) (fun xs => xs = (AL f.n rs ch).map cF) (fun pre => pre <+: (AL f.n rs ch).map cF ∧ pre ≠ []) (2 ^ f.n) w := by
  intro l J Jx W hW hJ hJx hY hJ0
  have hpFs : pF < w.heap.size := by
    rcases Nat.lt_or_ge pF w.heap.size with h1 | h1
    · exact h1
    · rw [Array.getElem?_eq_none h1] at hF; cases hF
  have hpCs : pC < w.heap.size := by
    rcases Nat.lt_or_ge pC w.heap.size with h1 | h1
    · exact h1
    · rw [Array.getElem?_eq_none h1] at hC; cases hC
  have kv := (Below.refl W.heap.size W).alloc (Nat.le_refl _) (.cells #[.func (.yield l) #[] #[]] 134)
  have hYn := heap_new W (.cells #[.func (.yield l) #[] #[]] 134)
  have hF1 := (kv.block pF (by have := hW.size; omega)).trans ((hW.block pF hpFs).trans hF)
  have hC1 := (kv.block pC (by have := hW.size; omega)).trans ((hW.block pC hpCs).trans hC)
  have hbW := hb0.trans ((hW.mono hb0.size).trans (kv.mono (by have := hb0.size; have := hW.size; omega)))
  have hJ1 := hJ [] W _ none hJ0 (grown_below kv) (fun r e => by cases e)
  obtain ⟨W1, hW1⟩ : ∃ u, W.alloc (.cells #[.func (.yield l) #[] #[]] 134) = u := ⟨_, rfl⟩
  rw [hW1] at kv hYn hF1 hC1 hbW hJ1
  have HE := Lib.hid (each70_any f.n hn pC pF W.heap.size W1
    (fun k W2 => J ((alU f.n rs ch k).map cF) W2 ∧ Below w0.heap.size w0 W2 ∧ W2.heap[pF]? = some (.cells f.cells TF) ∧ W2.heap[pC]? = some (.cells #[.slice CA cn cd] TC) ∧ W2.heap[W.heap.size]? = some (.cells #[.func (.yield l) #[] #[]] 134))
    (fun k W2 => Jx ((alU f.n rs ch (k + 1)).map cF) W2 ∧ okB rs ch (cfg f.n k) = true)
    (by
      intro k hk W2 ⟨hj, hb, h1, h2, h3⟩
      have hV := visit_any l (cfg f.n k) pC pF W.heap.size CA f.RA cn cd f.rn f.rc rs ch W2
        (fun e W' => (e = .returned (.bool true) ∧ J ((alU f.n rs ch (k + 1)).map cF) W' ∧ KpV w0.heap.size X W2 W') ∨ (e = .returned (.bool false) ∧ Jx ((alU f.n rs ch (k + 1)).map cF) W'))
        (cfg_lt f.n k hn) (by simp [World.cell?, h2]) (by simp [World.cell?, h1]) (by simp [World.cell?, h3])
        (hch.keep hb) hcl hcw hcm (hrs.keep hb) hrl hrw hrm
        (fun hok W3 hb3 => by
          have hj3 := hJ _ W2 W3 none hj (grown_below hb3) (fun r e => by cases e)
          have hy := yield_any (m' := 0) (hY _ (cF (cfg f.n k)) W3 hj3 (by rw [List.length_map]; have := alU_len f.n k rs ch; omega))
          rw [show (fun c : Cf => #[Value.int .u64 (c.1 : Nat)]) (cF (cfg f.n k)) = #[.int .u64 (cfg f.n k : Nat)] by simp only [cF_val (cfg_lt f.n k hn)]] at hy
          refine YieldAt.mono hy ?_
          rintro e W4 (⟨rfl, h4, h5⟩ | ⟨rfl, h4⟩)
          · exact ⟨true, rfl, .inl ⟨rfl, by rw [alU_yes hok, List.map_append]; exact h4, kpV_t (kpV_below hb3 (by have := hb.size; omega)) h5⟩⟩
          · exact ⟨false, rfl, .inr ⟨rfl, by rw [alU_yes hok, List.map_append]; exact h4⟩⟩)
      refine hV.mono ?_
      rintro e W4 (⟨hok, rfl, hb4⟩ | ⟨hok, (⟨rfl, h4, h5⟩ | ⟨rfl, h4⟩)⟩)
      · refine .inl ⟨rfl, by rw [alU_no hok]; exact hJ _ W2 W4 none hj (grown_below hb4) (fun r e => by cases e), hb.trans (hb4.mono hb.size), ?_⟩
        have hk4 := (kpV_below (X := fun _ => False) (n₀ := 0) hb4 (Nat.zero_le _)).2
        exact ⟨hk4 _ _ h1 rfl (fun h => h), hk4 _ _ h2 rfl (fun h => h), hk4 _ _ h3 rfl (fun h => h)⟩
      · exact .inl ⟨rfl, h4, hb.trans h5.1, h5.2 _ _ h1 rfl (fun h => (hX _ h).2.1 rfl), h5.2 _ _ h2 rfl (fun h => (hX _ h).2.2 rfl), h5.2 _ _ h3 rfl (fun h => by have := (hX _ h).1; have := hW.size; omega)⟩
      · exact .inr ⟨rfl, h4, hok⟩)
    ⟨hJ1, hbW, hF1, hC1, hYn⟩)
  have g6 : W1.cell? ⟨pF, 6, none⟩ = some (.slice f.OA f.n f.oc) := by simp [World.cell?, hF1]
  clear hY hJ0 hJ1 hF hC hF1 hC1 hYn hJ hJx hX hch hrs hcw hrw
  refine callsIn_wide.2 ?_
  show Calls Try.prog 69 #[.func (.yield l) #[] #[], .pointer (some ⟨pF, 0, none⟩), .pointer (some ⟨pC, 0, none⟩)] W _
  go_enter Try.func69, Try.ntmps69
  go_wp2_with fail
  refine HE.out.mono ?_
  rintro e W5 ⟨⟨v, rfl⟩, hres⟩
  go_wp2_with fail
  go_end0
  refine ⟨⟨_, rfl⟩, ?_⟩
  rcases hres with ⟨h1, _⟩ | ⟨k, hk, h1, h2⟩
  · exact .inl ⟨_, rfl, h1⟩
  · refine .inr ⟨_, ⟨?_, ?_⟩, h1⟩
    · have := alU_pre f.n rs ch (k + 1) (2 ^ f.n - (k + 1))
      rw [show k + 1 + (2 ^ f.n - (k + 1)) = 2 ^ f.n by omega] at this
      exact this.map cF
    · rw [alU_yes h2]; simp
end
set_option maxRecDepth 100000 in
set_option maxHeartbeats 4000000 in
theorem allowed_any (f : Fm) (CA : Option Addr) (cn cd : Nat) (w : World) :
    Calls Try.prog 45 #[f.v, .slice CA cn cd] w fun e w' => e = .returned (.func (.func 69) #[] #[.pointer (some ⟨w.heap.size, 0, none⟩), .pointer (some ⟨w.heap.size + 1, 0, none⟩)]) ∧ w' = (w.alloc (.cells f.cells 40)).alloc (.cells #[.slice CA cn cd] 55) := by
  go_enter Try.func45, Try.ntmps45
  go_wp2_with fail
  go_ret
  exact ⟨by simp, rfl⟩
end Go.Proofs.Ytmfmpkihmadjmaa
