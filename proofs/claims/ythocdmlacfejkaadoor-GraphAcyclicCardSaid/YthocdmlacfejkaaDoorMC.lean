/- Graph: Ref1, Ref2, Till. -/
import Derived.Test.YthocdmlacfejkaaDoorMB
import Derived.Deep.RegionHeld3
import Derived.Deep.RegionWith
namespace Go.Proofs.YthocdmlacfejkaaDoor
open Go.RowKit
set_option maxRecDepth 100000 in
set_option maxHeartbeats 2000000 in
theorem inside_any (n : Int) (A : Option Addr) (m c : Nat) (es : List (Int × Int)) (w : World) (h : EL w A m es) (hm : m ≤ 4611686018427387904) :
    Calls Tryd.prog 74 #[.int .i64 n, .slice A m c] w fun e w' => e = .returned (.bool (es.all (okE n))) ∧ w = w' := by
  have hlen := h.1
  have H := Lib.hid h
  have hnl := Nat.le_of_eq hlen
  obtain ⟨r, hr⟩ : ∃ r, es.all (okE n) = r := ⟨_, rfl⟩
  have Hr := Lib.hid hr
  rw [hr]
  clear h hlen hr
  go_enter Tryd.func74, Tryd.ntmps74
  go_wp2_with fail
  go_loop [5, 6] (fun i j => ∃ k : Nat, k ≤ m ∧ i = .int .i64 (k : Nat) ∧ (es.take k).all (okE n) = true) (fun i _ => m - (intOf i).toNat)
  case atStart => exact ⟨0, Nat.zero_le _, rfl, by simp⟩
  case round =>
    obtain ⟨k, hk, rfl, ha⟩ := hrel
    have Ha := Lib.hid ha
    clear ha
    by_cases hlt : k < m
    · obtain ⟨e, b, o, he, rfl, hbl, c0, c1⟩ := H.out.at_ hlt
      obtain ⟨x, y⟩ := e
      have He := Lib.hid he
      simp only at c0 c1
      clear he
      have Hbad := Lib.hid (show okE n (x, y) = false → r = false from fun h => by
        rw [← Hr.out]
        rw [List.all_eq_false]
        exact ⟨_, List.mem_of_getElem? He.out, by simp [h]⟩)
      go_wp2_with fail
      go_loop [6] (fun j => ∃ q : Nat, q ≤ 2 ∧ j = .int .i64 (q : Nat) ∧ (0 < q → 0 ≤ x ∧ x < n) ∧ (1 < q → 0 ≤ y ∧ y < n)) (fun j => 2 - (intOf j).toNat)
      case atStart => exact ⟨0, by omega, rfl, by simp, by simp⟩
      case round =>
        obtain ⟨q, hq, rfl, h1, h2⟩ := hrel
        rcases (by omega : q = 0 ∨ q = 1 ∨ q = 2) with rfl | rfl | rfl
        · by_cases t1 : x < 0
          · have Hf := Lib.hid (Hbad.out (by simp [okE]; omega))
            clear h1 h2
            go_wp2
            go_ret
            exact ⟨ret_bool Hf.out.symm, rfl⟩
          · have t1' : decide (x < 0) = false := decide_eq_false t1
            by_cases t2 : n ≤ x
            · have Hf := Lib.hid (Hbad.out (by simp [okE]; omega))
              clear h1 h2
              go_wp2
              go_ret
              exact ⟨ret_bool Hf.out.symm, rfl⟩
            · have t2' : decide (n ≤ x) = false := decide_eq_false t2
              clear h1 h2
              go_wp2
              go_round
              case rel => exact ⟨1, by omega, rfl, by omega, by omega⟩
              case measure => simp [intOf]
        · by_cases t1 : y < 0
          · have Hf := Lib.hid (Hbad.out (by simp [okE]; omega))
            clear h1 h2
            go_wp2
            go_ret
            exact ⟨ret_bool Hf.out.symm, rfl⟩
          · have t1' : decide (y < 0) = false := decide_eq_false t1
            by_cases t2 : n ≤ y
            · have Hf := Lib.hid (Hbad.out (by simp [okE]; omega))
              clear h1 h2
              go_wp2
              go_ret
              exact ⟨ret_bool Hf.out.symm, rfl⟩
            · have t2' : decide (n ≤ y) = false := decide_eq_false t2
              have X := Lib.hid (h1 (by omega))
              clear h1 h2
              go_wp2
              go_round
              case rel => exact ⟨2, by omega, rfl, by have := X.out; omega, by omega⟩
              case measure => simp [intOf]
        · have Hf := Lib.hid (all_take He.out Ha.out (show okE n (x, y) = true by have := h1 (by omega); have := h2 (by omega); simp [okE]; omega))
          clear h1 h2
          go_wp2
          go_round
          case rel => exact ⟨k + 1, by omega, by go_num, Hf.out⟩
          case measure => simp [intOf]; omega
    · have Hf := Lib.hid (show r = true by rw [← Hr.out]; have := Ha.out; rwa [List.take_of_length_le (by omega)] at this)
      go_wp2
      go_ret
      exact ⟨ret_bool Hf.out.symm, rfl⟩
theorem cmpE_lt (a b : Int × Int) : decide (cmpE a b < 0) = (decide (a.1 < b.1) || (a.1 == b.1 && decide (a.2 < b.2))) := by
  have := cmpE_ge a b
  by_cases h : cmpE a b < 0
  · have h2 : a.1 < b.1 ∨ (a.1 = b.1 ∧ a.2 < b.2) := Classical.byContradiction fun hn => by have := this.2 hn; omega
    simp [h]
    rcases h2 with h2 | ⟨h2, h3⟩
    · exact .inl h2
    · exact .inr ⟨h2, h3⟩
  · have h2 := this.1 (by omega)
    simp [h]
    omega
set_option maxRecDepth 100000 in
set_option maxHeartbeats 2000000 in
theorem before_any (a b : Int × Int) (w : World) :
    Calls Tryd.prog 77 #[.agg #[.int .i64 a.1, .int .i64 a.2], .agg #[.int .i64 b.1, .int .i64 b.2]] w fun e w' => e = .returned (.bool (decide (cmpE a b < 0))) ∧ Below w.heap.size w w' := by
  have H := Lib.hid (cmpE_lt a b)
  obtain ⟨r, hr⟩ : ∃ r, decide (cmpE a b < 0) = r := ⟨_, rfl⟩
  rw [hr] at H
  rw [hr]
  obtain ⟨a1, a2⟩ := a
  obtain ⟨b1, b2⟩ := b
  simp only at H ⊢
  clear hr
  have HB := Lib.hid (((Below.refl w.heap.size w).alloc (Nat.le_refl _) (.cells #[.int .i64 a1, .int .i64 a2] 55)).alloc (by simp) (.cells #[.int .i64 b1, .int .i64 b2] 55))
  by_cases h1 : a1 < b1
  · have t1 : decide (a1 < b1) = true := decide_eq_true h1
    have Hf := Lib.hid (show r = true by rw [H.out]; simp [h1])
    clear h1
    go_enter Tryd.func77, Tryd.ntmps77
    go_wp2_with fail
    go_ret
    exact ⟨ret_bool Hf.out.symm, HB.out⟩
  · have t1 : decide (a1 < b1) = false := decide_eq_false h1
    by_cases h2 : a1 = b1
    · have t2 : (a1 == b1) = true := by simp [h2]
      have Hf := Lib.hid (show r = decide (a2 < b2) by rw [H.out]; simp [h2])
      clear h1 h2
      go_enter Tryd.func77, Tryd.ntmps77
      go_wp2_with fail
      go_ret
      exact ⟨ret_bool Hf.out.symm, HB.out⟩
    · have t2 : (a1 == b1) = false := by simp [h2]
      have Hf := Lib.hid (show r = false by rw [H.out]; simp [h2]; omega)
      clear h1 h2
      go_enter Tryd.func77, Tryd.ntmps77
      go_wp2_with fail
      go_ret
      exact ⟨ret_bool Hf.out.symm, HB.out⟩
end Go.Proofs.YthocdmlacfejkaaDoor
namespace Go.Proofs.YthocdmlacfejkaaDoor
open Go.RowKit
theorem inside_cases (n : Int) (es : List (Int × Int)) : (es.all (okE n) = true ∧ es.all (okE n) = true) ∨ (es.all (okE n) = false ∧ es.all (okE n) = false) := by
  cases h : es.all (okE n) <;> simp
set_option maxRecDepth 100000 in
set_option maxHeartbeats 4000000 in
theorem refCheck_any (n : Int) (A : Option Addr) (m c : Nat) (es : List (Int × Int)) (w : World) (h : EL w A m es) (hm : m ≤ 4611686018427387904) :
    Calls Tryd.prog 22 #[gV n A m c] w fun e w' => e = .returned (.int .i64 (checkG n es)) ∧ Below w.heap.size w w' := by
  have hlen := h.1
  have kv := (Below.refl w.heap.size w).alloc (Nat.le_refl _) (.cells #[.int .i64 n, .slice A m c] 35)
  have H := Lib.hid (h.keep kv)
  have G0 := Lib.hid (Cells.new w #[.int .i64 n, .slice A m c] 35)
  have B0 := Lib.hid kv
  have hnl := Nat.le_of_eq hlen
  have hnl2 := Nat.le_of_eq hlen.symm
  obtain ⟨w0, hw0⟩ : ∃ u, w.alloc (.cells #[.int .i64 n, .slice A m c] 35) = u := ⟨_, rfl⟩
  obtain ⟨p, hp⟩ : ∃ p, w.heap.size = p := ⟨_, rfl⟩
  rw [hw0] at H G0 B0
  rw [hp] at G0 B0
  rw [hp]
  have hpz : p ≤ w0.heap.size := by have := B0.out.size; rw [hp] at this; exact this
  have c0 := G0.out.at_ 0
  have c1 := G0.out.at_ 1
  simp only [List.getElem?_cons_zero, List.getElem?_cons_succ] at c0 c1
  clear h kv
  by_cases h1 : n < 0
  · have t1 : decide (n < 0) = true := decide_eq_true h1
    have Hf := Lib.hid (checkG_range (es := es) (.inl h1))
    clear h1 hlen
    go_enter Tryd.func22, Tryd.ntmps22
    go_wp2_with fail
    go_ret
    exact ⟨ret_int Hf.out.symm, B0.out⟩
  · have t1 : decide (n < 0) = false := decide_eq_false h1
    by_cases h2 : 64 < n
    · have t2 : decide (64 < n) = true := decide_eq_true h2
      have Hf := Lib.hid (checkG_range (es := es) (.inr h2))
      clear h1 h2 hlen
      go_enter Tryd.func22, Tryd.ntmps22
      go_wp2_with fail
      go_ret
      exact ⟨ret_int Hf.out.symm, B0.out⟩
    · have t2 : decide (64 < n) = false := decide_eq_false h2
      have hr : ¬ (n < 0 ∨ 64 < n) := by omega
      have Hr := Lib.hid hr
      obtain ⟨q0, q1⟩ := sq_bd (n := n) (by omega) (by omega)
      by_cases h3 : n * n < m
      · have t3 : decide (n * n < m) = true := decide_eq_true h3
        have Hf := Lib.hid (checkG_limit (es := es) hr (by rw [hlen]; exact h3))
        clear h1 h2 hlen h3 hr
        go_enter Tryd.func22, Tryd.ntmps22
        go_wp2_with fail
        go_ret
        exact ⟨ret_int Hf.out.symm, B0.out⟩
      · have t3 : decide (n * n < m) = false := decide_eq_false h3
        have H3 := Lib.hid (show ¬ n * n < es.length by rw [hlen]; exact h3)
        have HE := Lib.hid (inside_any n A m c es w0 H.out hm)
        rcases inside_cases n es with ⟨he, ha⟩ | ⟨he, ha⟩
        · rw [he] at HE
          have Ha := Lib.hid ha
          clear h1 h2 h3 hr he ha hlen
          go_enter Tryd.func22, Tryd.ntmps22
          go_wp2_with fail
          refine HE.out.mono ?_
          rintro e w1 ⟨rfl, rfl⟩
          have K0 := Lib.hid (fun w' (h : Below w0.heap.size w0 w') => B0.out.trans (h.mono hpz))
          have B1 := Lib.hid (Below.refl w0.heap.size w0)
          go_wp2_with fail
          go_loopw [3] (fun i wr => ∃ k : Nat, 0 < k ∧ i = .int .i64 (k : Nat) ∧ (1 < k → k ≤ m) ∧ (∀ i a b, i + 1 < k → es[i]? = some a → es[i + 1]? = some b → cmpE a b < 0) ∧ Below w0.heap.size w0 wr) (fun i _ => m - (intOf i).toNat)
          case atStart => exact ⟨1, by omega, rfl, by omega, fun i a b h => by omega, B1.out⟩
          case round =>
            obtain ⟨k, hk0, rfl, hkm, ho, hb⟩ := hrel
            have Ho := Lib.hid ho
            have Hb := Lib.hid hb
            have g0 := (G0.out.keep hb).at_ 0
            have g1 := (G0.out.keep hb).at_ 1
            simp only [List.getElem?_cons_zero, List.getElem?_cons_succ] at g0 g1
            clear ho hb
            by_cases hlt : k < m
            · obtain ⟨a, b, o, hea, rfl, _, a0, a1⟩ := (H.out.keep Hb.out).at_ (show k - 1 < m by omega)
              obtain ⟨a', b', o', heb, hA, _, b0, b1⟩ := (H.out.keep Hb.out).at_ hlt
              injection hA with hA
              injection hA with hA1 hA2
              subst hA1 hA2
              have e1 : ((k : Int) - 1).toNat = k - 1 := by omega
              have Hea := Lib.hid hea
              have Heb := Lib.hid heb
              have HC := Lib.hid (fun w => before_any a a' w)
              clear hea heb
              have ew : IntKind.i64.wrap ((k : Int) - 1) = (k : Int) - 1 := IntWalk.i64_in _ (by omega)
              have i0 : (1 : Int) ≤ (k : Int) := by omega
              have i1 : (0 : Int) ≤ (k : Int) - 1 := by omega
              have i2 : (k : Int) - 1 < m := by omega
              go_wp2_with fail
              go_still_tail 11, (by kernel_rfl)
              change wpList _ _ _ _ _ wr.drew
              go_wp2_with fail
              refine (HC.out _).mono ?_
              rintro e w2 ⟨rfl, hb2⟩
              have Hb2 := Lib.hid (below_on Hb.out.drew hb2)
              clear hb2
              by_cases hc : cmpE a a' < 0
              · have td : decide (cmpE a a' < 0) = true := decide_eq_true hc
                have Hs := Lib.hid (sort_up hk0 Hea.out Heb.out hc Ho.out)
                go_wp2_with fail
                go_roundw
                case rel => exact ⟨k + 1, by omega, by go_num, by omega, Hs.out, Hb2.out⟩
                case measure => simp [intOf]; omega
              · have td : decide (cmpE a a' < 0) = false := decide_eq_false hc
                have hc' : 0 ≤ cmpE a a' := by omega
                have Hf := Lib.hid (checkG_order Hr.out H3.out Ha.out Hea.out (by rw [show k - 1 + 1 = k by omega]; exact Heb.out) hc')
                go_wp2_with fail
                go_ret
                exact ⟨ret_int Hf.out.symm, K0.out _ Hb2.out⟩
            · have Hf := Lib.hid (checkG_ok (k := k) Hr.out H3.out Ha.out (by omega) Ho.out)
              go_wp2_with fail
              go_ret
              exact ⟨ret_int Hf.out.symm, K0.out _ Hb.out⟩
        · rw [he] at HE
          have Hf := Lib.hid (checkG_edge hr H3.out ha)
          clear h1 h2 h3 hr he ha hlen
          go_enter Tryd.func22, Tryd.ntmps22
          go_wp2_with fail
          refine HE.out.mono ?_
          rintro e w1 ⟨rfl, rfl⟩
          have B1 := B0
          go_wp2_with fail
          go_ret
          exact ⟨ret_int Hf.out.symm, B1.out⟩
end Go.Proofs.YthocdmlacfejkaaDoor
namespace Go.Proofs.YthocdmlacfejkaaDoor
open Go.RowKit
section
variable {P : Program} {md : Region.Mode} {ops : Array Oper} {Q : Exit → Act → World → Prop} {S : World → Prop} {k : Nat}
/-- What is left of the region, in whatever order; S is shown behind each operation as long as number k has not come up. -/
def Till (P : Program) (md : Region.Mode) (ops : Array Oper) (Q : Exit → Act → World → Prop) (S : World → Prop) (k : Nat) : Nat → Array Bool → Act → World → Prop
  | 0, l, a, w => Region.ready md ops l = [] ∧ Q .normal a w
  | n + 1, l, a, w => (Region.ready md ops l = [] → Q .normal a w) ∧ ∀ i ∈ Region.ready md ops l, wpOp P ops Q i (fun b v => ((l.setIfInBounds i true).getD k true = false → S v) ∧ Till P md ops Q S k n (l.setIfInBounds i true) b v) a w
theorem Till.any : ∀ (n : Nat) (l : Array Bool) (a : Act) (w : World), Till P md ops Q S k n l a w → wpAny P md ops Q n l a w
  | 0, _, _, _, h => h
  | n + 1, _, _, _, h => ⟨h.1, fun i hi => wpOp_mono (fun b v hb => Till.any n _ b v hb.2) (h.2 i hi)⟩
def waits (md : Region.Mode) (ops : Array Oper) (k i : Nat) : Bool :=
  match ops[k]? with
  | some o => o.after.any fun e => Region.binds md e && e.on == i
  | none => false
theorem Till.first {i : Nat} {oi : Oper} {u : Value} (hi : ops[i]? = some oi) (hs : Region.noSelect ops = true) (hQ : ∀ c a w, Q (.panic c) (a.put oi.dst u) w → Q (.panic c) a w) {m : Nat} (hm : waits md ops m i = true) (hmk : m = k ∨ waits md ops k m = true) (hik : i ≠ k) (him : i ≠ m) (n : Nat) :
    ∀ (l : Array Bool) (a : Act) (w : World), l.getD m true = false → (∀ j oj, ops[j]? = some oj → j ≠ i → l.getD j true = false → (∀ e ∈ oj.after, Region.binds md e = true → e.on ≠ i) → oi.apart ops oj = true) →
      i ∈ Region.ready md ops l → l.getD k true = false → YieldsIf P ops S oi u a → S w → Till P md ops Q S k n (l.setIfInBounds i true) (a.put oi.dst u) w → Till P md ops Q S k (n + 1) l a w := by
  induction n with
  | zero =>
    intro l a w _ _ hr _ hy hS H
    refine ⟨fun h0 => absurd hr (by rw [h0]; simp), fun j hj => ?_⟩
    rcases Nat.decEq j i with hne | heq
    · have := ready_mono hj hne
      rw [H.1] at this
      cases this
    · subst heq
      exact hy.wpOp hi hS ⟨fun _ => hS, H⟩
  | succ n ih =>
    intro l a w hml0 hfree hr hkl hy hS H
    have hi0 := (mem_ready.1 hr).1
    refine ⟨fun h0 => absurd hr (by rw [h0]; simp), fun j hj => ?_⟩
    rcases Nat.decEq j i with hne | heq
    · obtain ⟨hj0, oj, hoj, hafter⟩ := mem_ready.1 hj
      have open_ : ∀ m' : Nat, l.getD m' true = false → ∀ e ∈ oj.after, Region.binds md e = true → e.on ≠ m' := by
        intro m' hm0 e he hb h1
        have h2 := hafter e he hb
        rw [h1] at h2
        cases hl : l[m']? with
        | none => simp [Array.getD_eq_getD_getElem?, hl] at h2
        | some t => simp [Array.getD_eq_getD_getElem?, hl] at h2 hm0; rw [h2] at hm0; cases hm0
      have hnone := open_ i hi0
      have apart : ∀ k' m' : Nat, l.getD m' true = false → waits md ops k' m' = true → j ≠ k' := by
        intro k' m' hm0 hw h1
        subst h1
        unfold waits at hw
        rw [hoj] at hw
        obtain ⟨e, he, h2⟩ := Array.any_eq_true'.1 hw
        simp only [Bool.and_eq_true, beq_iff_eq] at h2
        exact open_ m' hm0 e he h2.1 h2.2
      have hjm : j ≠ m := apart m i hi0 hm
      have hjk : j ≠ k := by
        rcases hmk with h1 | h1
        · rw [← h1]; exact hjm
        · exact apart k m hml0 h1
      have hkl2 : (l.setIfInBounds j true).getD k true = false := by rw [getD_set_ne true hjk]; exact hkl
      have step := wpOp_putIf hoj (hfree j oj hoj hne hj0 hnone) (fun cs b => Region.noSelect_spec hs i oi cs b hi) (fun cs b => Region.noSelect_spec hs j oj cs b hoj) hQ hy (H.2 j (ready_mono hj hne))
      refine wpOp_mono (fun b v hb => ?_) step
      have hSv : S v := hb.2.1 (by rw [getD_set_ne true hjk, getD_set_ne true hik]; exact hkl)
      refine ⟨fun _ => hSv, ih (l.setIfInBounds j true) b v (by rw [getD_set_ne true hjm]; exact hml0) (fun m om hm hmi hml hmn => hfree m om hm hmi ?_ hmn) (ready_mono hr (Ne.symm hne)) hkl2 hb.1 hSv ?_⟩
      · rcases Nat.decEq j m with h1 | h1
        · rwa [getD_set_ne true h1] at hml
        · subst h1; exact hj0
      · rw [Array.setIfInBounds_comm _ _ hne]
        exact hb.2.2
    · subst heq
      exact hy.wpOp hi hS ⟨fun _ => hS, H⟩
theorem Till.take {i m : Nat} {oi : Oper} {d : Option Tmp} {u : Value} {n : Nat} {l : Array Bool} {a : Act} {w : World} (hi : ops[i]? = some oi) (hd : oi.dst = d) (hs : Region.noSelect ops = true) (hf : Region.free md ops l i = true) (hr : (Region.ready md ops l).contains i = true) (hm : waits md ops m i = true) (hmk : (m == k || waits md ops k m) = true) (hik : (i == k || i == m) = false) (hkl : (l.getD k true || l.getD m true) = false)
    (hQ : ∀ c a w, Q (.panic c) (a.put d u) w → Q (.panic c) a w) (hw : Region.wanted oi (yielded ops a.tmps) = true) (hy : ∀ w, S w → (execOp a.eval oi).run P w = .ok (.value u) w) (hS : S w) (h : Till P md ops Q S k n (l.setIfInBounds i true) (a.put d u) w) : Till P md ops Q S k (n + 1) l a w := by
  subst hd
  rw [Bool.or_eq_false_iff] at hkl hik
  exact Till.first hi hs hQ hm (by simpa using hmk) (by simpa using hik.1) (by simpa using hik.2) n l a w hkl.2 (Region.free_spec hi hf) (by simpa using hr) hkl.1 (Or.inl ⟨hw, hy⟩) hS h
/-- A load that is taken first: what the kernel can tell is told by itself. -/
theorem Till.tk (i m : Nat) (d : Tmp) (u : Value) {oi : Oper} {n : Nat} {l : Array Bool} {a : Act} {w : World} (hS : S w) (h : Till P md ops Q S k n (l.setIfInBounds i true) (a.put (some d) u) w) (hi : ops[i]? = some oi := by exact rfl) (hd : oi.dst = some d := by exact rfl) (hs : Region.noSelect ops = true := by kernel_rfl) (hf : Region.free md ops l i = true := by kernel_rfl) (hr : (Region.ready md ops l).contains i = true := by kernel_rfl) (hm : waits md ops m i = true := by kernel_rfl) (hmk : (m == k || waits md ops k m) = true := by kernel_rfl) (hik : (i == k || i == m) = false := by kernel_rfl) (hkl : (l.getD k true || l.getD m true) = false := by kernel_rfl)
    (hQ : ∀ c a w, Q (.panic c) (a.put (some d) u) w → Q (.panic c) a w := by exact fun _ _ _ h => h) (hw : Region.wanted oi (yielded ops a.tmps) = true := by kernel_rfl) (hy : ∀ w, S w → (execOp a.eval oi).run P w = .ok (.value u) w := by (intro w hSw; (try dsimp only at hSw); go_split_ands; go_simp)) : Till P md ops Q S k (n + 1) l a w :=
  Till.take hi hd hs hf hr hm hmk hik hkl hQ hw hy hS h
theorem Till.one {i : Nat} {o : Oper} {n : Nat} {l : Array Bool} {a : Act} {w : World} (hr : Region.ready md ops l = [i]) (ho : ops[i]? = some o)
    (h : ∀ K : Act → World → Prop, Shut (∀ b v, ((l.setIfInBounds i true).getD k true = false → S v) → Till P md ops Q S k n (l.setIfInBounds i true) b v → K b v) → if Region.wanted o (yielded ops a.tmps) = true then Oper.wp P o a w K Q else K (a.put o.dst undef) w) : Till P md ops Q S k (n + 1) l a w := by
  refine ⟨fun h0 => absurd (hr.symm.trans h0) (by simp), fun j hj => ?_⟩
  rw [hr] at hj
  obtain rfl : j = i := by simpa using hj
  exact wpOp_step ho fun K hK => h K fun b v h1 h2 => hK b v ⟨h1, h2⟩
theorem Till.done {l : Array Bool} {a : Act} {w : World} (hr : Region.ready md ops l = []) (h : Q .normal a w) : ∀ n, Till P md ops Q S k n l a w
  | 0 => ⟨hr, h⟩
  | _ + 1 => ⟨fun _ => h, by rw [hr]; simp⟩
theorem Till.begin {id : Nat} {a : Act} {w : World} (k : Nat) (S : World → Prop) (hm : P.follows .mixedOrders = true) (hS : S w.drew) (h : S w.drew → Till P .any ops Q S k ops.size (Array.replicate ops.size false) a w.drew) : (Code.region id ops true).wp P Q a w :=
  wp_region_any hm (Till.any _ _ _ _ (h hS))
end
section
variable {P : Program} {md : Region.Mode} {ops : Array Oper} {Q : Exit → Act → World → Prop} {S : World → Prop} {k : Nat}
/-- One way on of a drawn region. -/
def Arm (P : Program) (md : Region.Mode) (ops : Array Oper) (Q : Exit → Act → World → Prop) (S : World → Prop) (k n : Nat) (l : Array Bool) (a : Act) (w : World) (i : Nat) (o : Oper) : Prop :=
  ∀ K : Act → World → Prop, Shut (∀ b v, ((l.setIfInBounds i true).getD k true = false → S v) → Till P md ops Q S k n (l.setIfInBounds i true) b v → K b v) → if Region.wanted o (yielded ops a.tmps) = true then Oper.wp P o a w K Q else K (a.put o.dst undef) w
theorem Arm.op {i : Nat} {o : Oper} {n : Nat} {l : Array Bool} {a : Act} {w : World} (ho : ops[i]? = some o) (h : Arm P md ops Q S k n l a w i o) : wpOp P ops Q i (fun b v => ((l.setIfInBounds i true).getD k true = false → S v) ∧ Till P md ops Q S k n (l.setIfInBounds i true) b v) a w :=
  wpOp_step ho fun K hK => h K fun b v h1 h2 => hK b v ⟨h1, h2⟩
theorem Till.two {i j : Nat} {o o' : Oper} {n : Nat} {l : Array Bool} {a : Act} {w : World} (hr : Region.ready md ops l = [i, j]) (ho : ops[i]? = some o) (ho' : ops[j]? = some o')
    (h : Arm P md ops Q S k n l a w i o) (h' : Arm P md ops Q S k n l a w j o') : Till P md ops Q S k (n + 1) l a w := by
  refine ⟨fun h0 => absurd (hr.symm.trans h0) (by simp), fun m hm => ?_⟩
  rw [hr] at hm
  rcases List.mem_cons.1 hm with rfl | hm
  · exact h.op ho
  · obtain rfl := List.mem_singleton.1 hm
    exact h'.op ho'
theorem Till.three {i j g : Nat} {o o' o2 : Oper} {n : Nat} {l : Array Bool} {a : Act} {w : World} (hr : Region.ready md ops l = [i, j, g]) (ho : ops[i]? = some o) (ho' : ops[j]? = some o') (ho2 : ops[g]? = some o2)
    (h : Arm P md ops Q S k n l a w i o) (h' : Arm P md ops Q S k n l a w j o') (h2 : Arm P md ops Q S k n l a w g o2) : Till P md ops Q S k (n + 1) l a w := by
  refine ⟨fun h0 => absurd (hr.symm.trans h0) (by simp), fun m hm => ?_⟩
  rw [hr] at hm
  rcases List.mem_cons.1 hm with rfl | hm
  · exact h.op ho
  rcases List.mem_cons.1 hm with rfl | hm
  · exact h'.op ho'
  · obtain rfl := List.mem_singleton.1 hm
    exact h2.op ho2
end
end Go.Proofs.YthocdmlacfejkaaDoor
