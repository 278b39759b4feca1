/- Two lists in memory are compared: the reference's sameInts, sameNames, sameLiterals. -/
import Derived.Laws.Cover1
import Derived.Test.YtmfmpkihmadjmaaVu
namespace Go.Proofs.Ytmfmpkihmadjmaa
open Go.RowKit Go.Shelf
/-- Numbers in memory. -/
def NatL (w : World) (A : Option Addr) (l : List Nat) : Prop :=
  ∀ k x, l[k]? = some x → ∃ b o, A = some ⟨b, o, none⟩ ∧ b < w.heap.size ∧ w.cell? ⟨b, o + k, none⟩ = some (.int .i64 (x : Nat))
theorem NatL.keep {w w' : World} {A : Option Addr} {l : List Nat} (h : NatL w A l) (hb : Below w.heap.size w w') : NatL w' A l :=
  fun k x hk => let ⟨b, o, e1, hlt, hc⟩ := h k x hk; ⟨b, o, e1, Nat.lt_of_lt_of_le hlt hb.size, (hb.cell (p := ⟨b, o + k, none⟩) hlt).trans hc⟩
theorem lists_eq {α : Type} {a b : List α} (hl : a.length = b.length) (h : ∀ i, i < a.length → a[i]? = b[i]?) : a = b := by
  refine List.ext_getElem? fun i => ?_
  rcases Nat.lt_or_ge i a.length with h1 | h1
  · exact h i h1
  · rw [List.getElem?_eq_none h1, List.getElem?_eq_none (by omega)]
set_option maxRecDepth 100000 in
set_option maxHeartbeats 4000000 in
theorem sameInts_any (A B : Option Addr) (n m c d : Nat) (l1 l2 : List Nat) (w : World) (h1 : NatL w A l1) (h2 : NatL w B l2) (hn : l1.length = n) (hm : l2.length = m) (hn2 : n ≤ 4611686018427387904) (hm2 : m ≤ 4611686018427387904) :
    Calls Try.prog 29 #[.slice A n c, .slice B m d] w fun e w' => e = .returned (.bool (decide (l1 = l2))) ∧ Below w.heap.size w w' := by
  by_cases hnm : n = m
  · subst hnm
    go_enter Try.func29, Try.ntmps29
    go_wp2_with fail
    go_loopw [5] (fun i wr => ∃ j : Nat, i = .int .i64 (j : Nat) ∧ j ≤ n ∧ Below w.heap.size w wr ∧ ∀ i, i < j → l1[i]? = l2[i]?) (fun i _ => n - (intOf i).toNat)
    case atStart => exact ⟨0, rfl, Nat.zero_le _, Below.refl _ _, fun i hi => absurd hi (Nat.not_lt_zero _)⟩
    case round =>
      obtain ⟨j, rfl, hj, hb, hpre⟩ := hrel
      have B1 := Lib.hid hb
      have Hpre := Lib.hid hpre
      by_cases hlt : j < n
      · have Hlt := Lib.hid hlt
        obtain ⟨x, hx⟩ : ∃ x, l1[j]? = some x := ⟨_, List.getElem?_eq_getElem (by omega)⟩
        obtain ⟨y, hy⟩ : ∃ y, l2[j]? = some y := ⟨_, List.getElem?_eq_getElem (by omega)⟩
        obtain ⟨b1, o1, hA, H1⟩ := (NatL.keep h1 hb) j x hx
        obtain ⟨b2, o2, hB, H2⟩ := (NatL.keep h2 hb) j y hy
        subst hA
        subst hB
        have i1 : (j : Int) < (n : Int) := by omega
        have H1 := Lib.hid H1
        have H2 := Lib.hid H2
        have Hx := Lib.hid hx
        have Hy := Lib.hid hy
        clear hpre hb h1 h2 hx hy
        have HS := Lib.hid (fun w' (hb : Below wr.heap.size wr w') => (⟨(hb.cell (p := ⟨b1, o1 + j, none⟩) H1.out.1).trans H1.out.2, (hb.cell (p := ⟨b2, o2 + j, none⟩) H2.out.1).trans H2.out.2⟩ : w'.cell? ⟨b1, o1 + j, none⟩ = some (.int .i64 (x : Nat)) ∧ w'.cell? ⟨b2, o2 + j, none⟩ = some (.int .i64 (y : Nat))))
        by_cases hxy : x = y
        · subst hxy
          go_upto_region 6 with fail
          refine Till.begin 8 (fun w' => w'.cell? ⟨b1, o1 + j, none⟩ = some (.int .i64 (x : Nat)) ∧ w'.cell? ⟨b2, o2 + j, none⟩ = some (.int .i64 (x : Nat))) (by kernel_rfl) (HS.out _ (Below.refl _ _).drew) (fun hH => ?_)
          clear hH
          have HB := Lib.hid (Below.refl wr.heap.size wr).drew
          generalize wr.drew = v0 at HB ⊢
          try simp only [List.setIfInBounds_toArray, List.set_cons_zero, List.set_cons_succ]
          refine Till.tL 0 [2, 3, 8] 17 (.slice (some ⟨b1, o1, none⟩) n c) (HS.out _ HB.out) ?_
          try simp only [Act.put, List.setIfInBounds_toArray, List.set_cons_zero, List.set_cons_succ]
          refine Till.tL 1 [2, 3, 8] 18 (.int .i64 (j : Nat)) (HS.out _ HB.out) ?_
          try simp only [Act.put, List.setIfInBounds_toArray, List.set_cons_zero, List.set_cons_succ]
          refine Till.tk 2 3 19 (.pointer (some ⟨b1, o1 + j, none⟩)) (HS.out _ HB.out) ?_
          try simp only [Act.put, List.setIfInBounds_toArray, List.set_cons_zero, List.set_cons_succ]
          refine Till.tk 3 8 20 (.int .i64 (x : Nat)) (HS.out _ HB.out) ?_
          try simp only [Act.put, List.setIfInBounds_toArray, List.set_cons_zero, List.set_cons_succ]
          refine Till.tL 4 [6, 7, 8] 21 (.slice (some ⟨b2, o2, none⟩) n d) (HS.out _ HB.out) ?_
          try simp only [Act.put, List.setIfInBounds_toArray, List.set_cons_zero, List.set_cons_succ]
          refine Till.one (i := 5) (by kernel_rfl) rfl (fun K hK => ?_)
          go_simp
          refine hK.out _ _ (fun _ => HS.out _ HB.out) ?_
          clear hK K
          try simp only [List.setIfInBounds_toArray, List.set_cons_zero, List.set_cons_succ]
          refine Till.one (i := 6) (by kernel_rfl) rfl (fun K hK => ?_)
          go_simp
          refine hK.out _ _ (fun _ => HS.out _ HB.out) ?_
          clear hK K
          try simp only [List.setIfInBounds_toArray, List.set_cons_zero, List.set_cons_succ]
          refine Till.tk 7 8 24 (.int .i64 (x : Nat)) (HS.out _ HB.out) ?_
          try simp only [Act.put, List.setIfInBounds_toArray, List.set_cons_zero, List.set_cons_succ]
          refine Till.one (i := 8) (by kernel_rfl) rfl (fun K hK => ?_)
          go_simp
          refine hK.out _ _ (fun h => absurd h (by simp)) ?_
          clear hK K
          try simp only [List.setIfInBounds_toArray, List.set_cons_zero, List.set_cons_succ]
          refine Till.done (by kernel_rfl) ?_ _
          go_wp2_with fail
          go_roundw
          case rel =>
            refine ⟨j + 1, by go_num, Hlt.out, below_on B1.out HB.out, fun i hi => ?_⟩
            rcases Nat.lt_or_ge i j with h3 | h3
            · exact Hpre.out i h3
            · rw [show i = j by omega, Hx.out, Hy.out]
          case measure => simp [intOf]; have := Hlt.out; omega
        · have Hne := Lib.hid hxy
          have t1 : ((x : Int) != (y : Int)) = true := by rw [bne_iff_ne]; omega
          go_upto_region 6 with fail
          refine Till.begin 8 (fun w' => w'.cell? ⟨b1, o1 + j, none⟩ = some (.int .i64 (x : Nat)) ∧ w'.cell? ⟨b2, o2 + j, none⟩ = some (.int .i64 (y : Nat))) (by kernel_rfl) (HS.out _ (Below.refl _ _).drew) (fun hH => ?_)
          clear hH
          have HB := Lib.hid (Below.refl wr.heap.size wr).drew
          generalize wr.drew = v0 at HB ⊢
          try simp only [List.setIfInBounds_toArray, List.set_cons_zero, List.set_cons_succ]
          refine Till.tL 0 [2, 3, 8] 17 (.slice (some ⟨b1, o1, none⟩) n c) (HS.out _ HB.out) ?_
          try simp only [Act.put, List.setIfInBounds_toArray, List.set_cons_zero, List.set_cons_succ]
          refine Till.tL 1 [2, 3, 8] 18 (.int .i64 (j : Nat)) (HS.out _ HB.out) ?_
          try simp only [Act.put, List.setIfInBounds_toArray, List.set_cons_zero, List.set_cons_succ]
          refine Till.tk 2 3 19 (.pointer (some ⟨b1, o1 + j, none⟩)) (HS.out _ HB.out) ?_
          try simp only [Act.put, List.setIfInBounds_toArray, List.set_cons_zero, List.set_cons_succ]
          refine Till.tk 3 8 20 (.int .i64 (x : Nat)) (HS.out _ HB.out) ?_
          try simp only [Act.put, List.setIfInBounds_toArray, List.set_cons_zero, List.set_cons_succ]
          refine Till.tL 4 [6, 7, 8] 21 (.slice (some ⟨b2, o2, none⟩) n d) (HS.out _ HB.out) ?_
          try simp only [Act.put, List.setIfInBounds_toArray, List.set_cons_zero, List.set_cons_succ]
          refine Till.one (i := 5) (by kernel_rfl) rfl (fun K hK => ?_)
          go_simp
          refine hK.out _ _ (fun _ => HS.out _ HB.out) ?_
          clear hK K
          try simp only [List.setIfInBounds_toArray, List.set_cons_zero, List.set_cons_succ]
          refine Till.one (i := 6) (by kernel_rfl) rfl (fun K hK => ?_)
          go_simp
          refine hK.out _ _ (fun _ => HS.out _ HB.out) ?_
          clear hK K
          try simp only [List.setIfInBounds_toArray, List.set_cons_zero, List.set_cons_succ]
          refine Till.tk 7 8 24 (.int .i64 (y : Nat)) (HS.out _ HB.out) ?_
          try simp only [Act.put, List.setIfInBounds_toArray, List.set_cons_zero, List.set_cons_succ]
          refine Till.one (i := 8) (by kernel_rfl) rfl (fun K hK => ?_)
          go_simp
          refine hK.out _ _ (fun h => absurd h (by simp)) ?_
          clear hK K
          try simp only [List.setIfInBounds_toArray, List.set_cons_zero, List.set_cons_succ]
          refine Till.done (by kernel_rfl) ?_ _
          go_wp2_with fail
          go_ret
          refine ⟨?_, below_on B1.out HB.out⟩
          rw [decide_eq_false (fun e => Hne.out (by have h5 := Hx.out; rw [e, Hy.out] at h5; injection h5 with h5; exact h5.symm))]
          rfl
      · have hjn : j = n := by omega
        subst hjn
        go_wp2_with fail
        go_ret
        refine ⟨?_, hb⟩
        rw [decide_eq_true (lists_eq (hn.trans hm.symm) (by rw [hn]; exact hpre))]
        rfl
  · have t0 : ((n : Int) != (m : Int)) = true := by
      rw [bne_iff_ne]; omega
    go_enter Try.func29, Try.ntmps29
    go_wp2_with fail
    go_ret
    refine ⟨?_, Below.refl _ _⟩
    rw [decide_eq_false (fun e => hnm (by rw [← hn, ← hm, e]))]
    rfl
set_option maxRecDepth 100000 in
set_option maxHeartbeats 4000000 in
theorem sameNames_any (A B : Option Addr) (n m c d : Nat) (l1 l2 : List ByteArray) (w : World) (h1 : StrL w A l1) (h2 : StrL w B l2) (hn : l1.length = n) (hm : l2.length = m) (hn2 : n ≤ 4611686018427387904) (hm2 : m ≤ 4611686018427387904) :
    Calls Try.prog 24 #[.slice A n c, .slice B m d] w fun e w' => e = .returned (.bool (decide (l1 = l2))) ∧ Below w.heap.size w w' := by
  by_cases hnm : n = m
  · subst hnm
    go_enter Try.func24, Try.ntmps24
    go_wp2_with fail
    go_loopw [5] (fun i wr => ∃ j : Nat, i = .int .i64 (j : Nat) ∧ j ≤ n ∧ Below w.heap.size w wr ∧ ∀ i, i < j → l1[i]? = l2[i]?) (fun i _ => n - (intOf i).toNat)
    case atStart => exact ⟨0, rfl, Nat.zero_le _, Below.refl _ _, fun i hi => absurd hi (Nat.not_lt_zero _)⟩
    case round =>
      obtain ⟨j, rfl, hj, hb, hpre⟩ := hrel
      have B1 := Lib.hid hb
      have Hpre := Lib.hid hpre
      by_cases hlt : j < n
      · have Hlt := Lib.hid hlt
        obtain ⟨x, hx⟩ : ∃ x, l1[j]? = some x := ⟨_, List.getElem?_eq_getElem (by omega)⟩
        obtain ⟨y, hy⟩ : ∃ y, l2[j]? = some y := ⟨_, List.getElem?_eq_getElem (by omega)⟩
        obtain ⟨b1, o1, hA, H1⟩ := (StrL.keep h1 hb) j x hx
        obtain ⟨b2, o2, hB, H2⟩ := (StrL.keep h2 hb) j y hy
        subst hA
        subst hB
        have i1 : (j : Int) < (n : Int) := by omega
        have H1 := Lib.hid H1
        have H2 := Lib.hid H2
        have Hx := Lib.hid hx
        have Hy := Lib.hid hy
        clear hpre hb h1 h2 hx hy
        have HS := Lib.hid (fun w' (hb : Below wr.heap.size wr w') => (⟨(hb.cell (p := ⟨b1, o1 + j, none⟩) H1.out.1).trans H1.out.2, (hb.cell (p := ⟨b2, o2 + j, none⟩) H2.out.1).trans H2.out.2⟩ : w'.cell? ⟨b1, o1 + j, none⟩ = some (.string x) ∧ w'.cell? ⟨b2, o2 + j, none⟩ = some (.string y)))
        by_cases hxy : x = y
        · subst hxy
          go_upto_region 6 with fail
          refine Till.begin 8 (fun w' => w'.cell? ⟨b1, o1 + j, none⟩ = some (.string x) ∧ w'.cell? ⟨b2, o2 + j, none⟩ = some (.string x)) (by kernel_rfl) (HS.out _ (Below.refl _ _).drew) (fun hH => ?_)
          clear hH
          have HB := Lib.hid (Below.refl wr.heap.size wr).drew
          generalize wr.drew = v0 at HB ⊢
          try simp only [List.setIfInBounds_toArray, List.set_cons_zero, List.set_cons_succ]
          refine Till.tL 0 [2, 3, 8] 17 (.slice (some ⟨b1, o1, none⟩) n c) (HS.out _ HB.out) ?_
          try simp only [Act.put, List.setIfInBounds_toArray, List.set_cons_zero, List.set_cons_succ]
          refine Till.tL 1 [2, 3, 8] 18 (.int .i64 (j : Nat)) (HS.out _ HB.out) ?_
          try simp only [Act.put, List.setIfInBounds_toArray, List.set_cons_zero, List.set_cons_succ]
          refine Till.tk 2 3 19 (.pointer (some ⟨b1, o1 + j, none⟩)) (HS.out _ HB.out) ?_
          try simp only [Act.put, List.setIfInBounds_toArray, List.set_cons_zero, List.set_cons_succ]
          refine Till.tk 3 8 20 (.string x) (HS.out _ HB.out) ?_
          try simp only [Act.put, List.setIfInBounds_toArray, List.set_cons_zero, List.set_cons_succ]
          refine Till.tL 4 [6, 7, 8] 21 (.slice (some ⟨b2, o2, none⟩) n d) (HS.out _ HB.out) ?_
          try simp only [Act.put, List.setIfInBounds_toArray, List.set_cons_zero, List.set_cons_succ]
          refine Till.one (i := 5) (by kernel_rfl) rfl (fun K hK => ?_)
          go_simp
          refine hK.out _ _ (fun _ => HS.out _ HB.out) ?_
          clear hK K
          try simp only [List.setIfInBounds_toArray, List.set_cons_zero, List.set_cons_succ]
          refine Till.one (i := 6) (by kernel_rfl) rfl (fun K hK => ?_)
          go_simp
          refine hK.out _ _ (fun _ => HS.out _ HB.out) ?_
          clear hK K
          try simp only [List.setIfInBounds_toArray, List.set_cons_zero, List.set_cons_succ]
          refine Till.tk 7 8 24 (.string x) (HS.out _ HB.out) ?_
          try simp only [Act.put, List.setIfInBounds_toArray, List.set_cons_zero, List.set_cons_succ]
          refine Till.one (i := 8) (by kernel_rfl) rfl (fun K hK => ?_)
          go_simp
          refine hK.out _ _ (fun h => absurd h (by simp)) ?_
          clear hK K
          try simp only [List.setIfInBounds_toArray, List.set_cons_zero, List.set_cons_succ]
          refine Till.done (by kernel_rfl) ?_ _
          go_wp2_with fail
          go_roundw
          case rel =>
            refine ⟨j + 1, by go_num, Hlt.out, below_on B1.out HB.out, fun i hi => ?_⟩
            rcases Nat.lt_or_ge i j with h3 | h3
            · exact Hpre.out i h3
            · rw [show i = j by omega, Hx.out, Hy.out]
          case measure => simp [intOf]; have := Hlt.out; omega
        · have Hne := Lib.hid hxy
          have hxl : x.toList ≠ y.toList := fun e => hxy (by rw [ByteArray.toList_eq, ByteArray.toList_eq] at e; cases x; cases y; congr; exact Array.ext' e)
          have t1 : (x.toList != y.toList) = true := bne_iff_ne.2 hxl
          have t2 : (x.toList == y.toList) = false := beq_eq_false_iff_ne.2 hxl
          go_upto_region 6 with fail
          refine Till.begin 8 (fun w' => w'.cell? ⟨b1, o1 + j, none⟩ = some (.string x) ∧ w'.cell? ⟨b2, o2 + j, none⟩ = some (.string y)) (by kernel_rfl) (HS.out _ (Below.refl _ _).drew) (fun hH => ?_)
          clear hH
          have HB := Lib.hid (Below.refl wr.heap.size wr).drew
          generalize wr.drew = v0 at HB ⊢
          try simp only [List.setIfInBounds_toArray, List.set_cons_zero, List.set_cons_succ]
          refine Till.tL 0 [2, 3, 8] 17 (.slice (some ⟨b1, o1, none⟩) n c) (HS.out _ HB.out) ?_
          try simp only [Act.put, List.setIfInBounds_toArray, List.set_cons_zero, List.set_cons_succ]
          refine Till.tL 1 [2, 3, 8] 18 (.int .i64 (j : Nat)) (HS.out _ HB.out) ?_
          try simp only [Act.put, List.setIfInBounds_toArray, List.set_cons_zero, List.set_cons_succ]
          refine Till.tk 2 3 19 (.pointer (some ⟨b1, o1 + j, none⟩)) (HS.out _ HB.out) ?_
          try simp only [Act.put, List.setIfInBounds_toArray, List.set_cons_zero, List.set_cons_succ]
          refine Till.tk 3 8 20 (.string x) (HS.out _ HB.out) ?_
          try simp only [Act.put, List.setIfInBounds_toArray, List.set_cons_zero, List.set_cons_succ]
          refine Till.tL 4 [6, 7, 8] 21 (.slice (some ⟨b2, o2, none⟩) n d) (HS.out _ HB.out) ?_
          try simp only [Act.put, List.setIfInBounds_toArray, List.set_cons_zero, List.set_cons_succ]
          refine Till.one (i := 5) (by kernel_rfl) rfl (fun K hK => ?_)
          go_simp
          refine hK.out _ _ (fun _ => HS.out _ HB.out) ?_
          clear hK K
          try simp only [List.setIfInBounds_toArray, List.set_cons_zero, List.set_cons_succ]
          refine Till.one (i := 6) (by kernel_rfl) rfl (fun K hK => ?_)
          go_simp
          refine hK.out _ _ (fun _ => HS.out _ HB.out) ?_
          clear hK K
          try simp only [List.setIfInBounds_toArray, List.set_cons_zero, List.set_cons_succ]
          refine Till.tk 7 8 24 (.string y) (HS.out _ HB.out) ?_
          try simp only [Act.put, List.setIfInBounds_toArray, List.set_cons_zero, List.set_cons_succ]
          refine Till.one (i := 8) (by kernel_rfl) rfl (fun K hK => ?_)
          go_simp
          refine hK.out _ _ (fun h => absurd h (by simp)) ?_
          clear hK K
          try simp only [List.setIfInBounds_toArray, List.set_cons_zero, List.set_cons_succ]
          refine Till.done (by kernel_rfl) ?_ _
          go_wp2_with fail
          go_ret
          refine ⟨?_, below_on B1.out HB.out⟩
          rw [decide_eq_false (fun e => Hne.out (by have h5 := Hx.out; rw [e, Hy.out] at h5; injection h5 with h5; exact h5.symm))]
          rfl
      · have hjn : j = n := by omega
        subst hjn
        go_wp2_with fail
        go_ret
        refine ⟨?_, hb⟩
        rw [decide_eq_true (lists_eq (hn.trans hm.symm) (by rw [hn]; exact hpre))]
        rfl
  · have t0 : ((n : Int) != (m : Int)) = true := by
      rw [bne_iff_ne]; omega
    go_enter Try.func24, Try.ntmps24
    go_wp2_with fail
    go_ret
    refine ⟨?_, Below.refl _ _⟩
    rw [decide_eq_false (fun e => hnm (by rw [← hn, ← hm, e]))]
    rfl
set_option maxRecDepth 100000 in
set_option maxHeartbeats 4000000 in
theorem sameLiterals_any (A B : Option Addr) (n m c d : Nat) (l1 l2 : List (Int × Bool)) (w : World) (h1 : LitL w A l1) (h2 : LitL w B l2) (hn : l1.length = n) (hm : l2.length = m) (hn2 : n ≤ 4611686018427387904) (hm2 : m ≤ 4611686018427387904) :
    Calls Try.prog 27 #[.slice A n c, .slice B m d] w fun e w' => e = .returned (.bool (decide (l1 = l2))) ∧ Below w.heap.size w w' := by
  by_cases hnm : n = m
  · subst hnm
    go_enter Try.func27, Try.ntmps27
    go_wp2_with fail
    go_loopw [5] (fun i wr => ∃ j : Nat, i = .int .i64 (j : Nat) ∧ j ≤ n ∧ Below w.heap.size w wr ∧ ∀ i, i < j → l1[i]? = l2[i]?) (fun i _ => n - (intOf i).toNat)
    case atStart => exact ⟨0, rfl, Nat.zero_le _, Below.refl _ _, fun i hi => absurd hi (Nat.not_lt_zero _)⟩
    case round =>
      obtain ⟨j, rfl, hj, hb, hpre⟩ := hrel
      have B1 := Lib.hid hb
      have Hpre := Lib.hid hpre
      by_cases hlt : j < n
      · have Hlt := Lib.hid hlt
        obtain ⟨x, hx⟩ : ∃ x, l1[j]? = some x := ⟨_, List.getElem?_eq_getElem (by omega)⟩
        obtain ⟨y, hy⟩ : ∃ y, l2[j]? = some y := ⟨_, List.getElem?_eq_getElem (by omega)⟩
        obtain ⟨b1, o1, hA, H1⟩ := (LitL.keep h1 hb) j x hx
        obtain ⟨b2, o2, hB, H2⟩ := (LitL.keep h2 hb) j y hy
        subst hA
        subst hB
        have i1 : (j : Int) < (n : Int) := by omega
        have H1 := Lib.hid H1
        have H2 := Lib.hid H2
        have Hx := Lib.hid hx
        have Hy := Lib.hid hy
        clear hpre hb h1 h2 hx hy
        have HS := Lib.hid (fun w' (hb : Below wr.heap.size wr w') => (⟨(hb.cell (p := ⟨b1, o1 + j * 2, none⟩) H1.out.1).trans H1.out.2.1, (hb.cell (p := ⟨b1, o1 + j * 2 + 1, none⟩) H1.out.1).trans H1.out.2.2, (hb.cell (p := ⟨b2, o2 + j * 2, none⟩) H2.out.1).trans H2.out.2.1, (hb.cell (p := ⟨b2, o2 + j * 2 + 1, none⟩) H2.out.1).trans H2.out.2.2⟩ : w'.cell? ⟨b1, o1 + j * 2, none⟩ = some (.int .i64 x.1) ∧ w'.cell? ⟨b1, o1 + j * 2 + 1, none⟩ = some (.bool x.2) ∧ w'.cell? ⟨b2, o2 + j * 2, none⟩ = some (.int .i64 y.1) ∧ w'.cell? ⟨b2, o2 + j * 2 + 1, none⟩ = some (.bool y.2)))
        by_cases hxy : x = y
        · subst hxy
          go_upto_region 6 with fail
          refine Till.begin 8 (fun w' => w'.cell? ⟨b1, o1 + j * 2, none⟩ = some (.int .i64 x.1) ∧ w'.cell? ⟨b1, o1 + j * 2 + 1, none⟩ = some (.bool x.2) ∧ w'.cell? ⟨b2, o2 + j * 2, none⟩ = some (.int .i64 x.1) ∧ w'.cell? ⟨b2, o2 + j * 2 + 1, none⟩ = some (.bool x.2)) (by kernel_rfl) (HS.out _ (Below.refl _ _).drew) (fun hH => ?_)
          clear hH
          have HB := Lib.hid (Below.refl wr.heap.size wr).drew
          generalize wr.drew = v0 at HB ⊢
          try simp only [List.setIfInBounds_toArray, List.set_cons_zero, List.set_cons_succ]
          refine Till.tL 0 [2, 3, 8] 17 (.slice (some ⟨b1, o1, none⟩) n c) (HS.out _ HB.out) ?_
          try simp only [Act.put, List.setIfInBounds_toArray, List.set_cons_zero, List.set_cons_succ]
          refine Till.tL 1 [2, 3, 8] 18 (.int .i64 (j : Nat)) (HS.out _ HB.out) ?_
          try simp only [Act.put, List.setIfInBounds_toArray, List.set_cons_zero, List.set_cons_succ]
          refine Till.tk 2 3 19 (.pointer (some ⟨b1, o1 + j * 2, none⟩)) (HS.out _ HB.out) ?_
          try simp only [Act.put, List.setIfInBounds_toArray, List.set_cons_zero, List.set_cons_succ]
          refine Till.tk 3 8 20 (.agg #[.int .i64 x.1, .bool x.2]) (HS.out _ HB.out) ?_
          try simp only [Act.put, List.setIfInBounds_toArray, List.set_cons_zero, List.set_cons_succ]
          refine Till.tL 4 [6, 7, 8] 21 (.slice (some ⟨b2, o2, none⟩) n d) (HS.out _ HB.out) ?_
          try simp only [Act.put, List.setIfInBounds_toArray, List.set_cons_zero, List.set_cons_succ]
          refine Till.one (i := 5) (by kernel_rfl) rfl (fun K hK => ?_)
          go_simp
          refine hK.out _ _ (fun _ => HS.out _ HB.out) ?_
          clear hK K
          try simp only [List.setIfInBounds_toArray, List.set_cons_zero, List.set_cons_succ]
          refine Till.one (i := 6) (by kernel_rfl) rfl (fun K hK => ?_)
          go_simp
          refine hK.out _ _ (fun _ => HS.out _ HB.out) ?_
          clear hK K
          try simp only [List.setIfInBounds_toArray, List.set_cons_zero, List.set_cons_succ]
          refine Till.tk 7 8 24 (.agg #[.int .i64 x.1, .bool x.2]) (HS.out _ HB.out) ?_
          try simp only [Act.put, List.setIfInBounds_toArray, List.set_cons_zero, List.set_cons_succ]
          refine Till.one (i := 8) (by kernel_rfl) rfl (fun K hK => ?_)
          go_simp
          refine hK.out _ _ (fun h => absurd h (by simp)) ?_
          clear hK K
          try simp only [List.setIfInBounds_toArray, List.set_cons_zero, List.set_cons_succ]
          refine Till.done (by kernel_rfl) ?_ _
          go_wp2_with fail
          go_roundw
          case rel =>
            refine ⟨j + 1, by go_num, Hlt.out, below_on B1.out HB.out, fun i hi => ?_⟩
            rcases Nat.lt_or_ge i j with h3 | h3
            · exact Hpre.out i h3
            · rw [show i = j by omega, Hx.out, Hy.out]
          case measure => simp [intOf]; have := Hlt.out; omega
        · have Hne := Lib.hid hxy
          by_cases e1 : x.1 = y.1
          · have e2 : ¬ x.2 = y.2 := fun e => hxy (Prod.ext e1 e)
            have q1 : (x.1 = y.1) = True := eq_true e1
            have q2 : (x.2 = y.2) = False := eq_false e2
            clear e1 e2
            go_upto_region 6 with fail
            refine Till.begin 8 (fun w' => w'.cell? ⟨b1, o1 + j * 2, none⟩ = some (.int .i64 x.1) ∧ w'.cell? ⟨b1, o1 + j * 2 + 1, none⟩ = some (.bool x.2) ∧ w'.cell? ⟨b2, o2 + j * 2, none⟩ = some (.int .i64 y.1) ∧ w'.cell? ⟨b2, o2 + j * 2 + 1, none⟩ = some (.bool y.2)) (by kernel_rfl) (HS.out _ (Below.refl _ _).drew) (fun hH => ?_)
            clear hH
            have HB := Lib.hid (Below.refl wr.heap.size wr).drew
            generalize wr.drew = v0 at HB ⊢
            try simp only [List.setIfInBounds_toArray, List.set_cons_zero, List.set_cons_succ]
            refine Till.tL 0 [2, 3, 8] 17 (.slice (some ⟨b1, o1, none⟩) n c) (HS.out _ HB.out) ?_
            try simp only [Act.put, List.setIfInBounds_toArray, List.set_cons_zero, List.set_cons_succ]
            refine Till.tL 1 [2, 3, 8] 18 (.int .i64 (j : Nat)) (HS.out _ HB.out) ?_
            try simp only [Act.put, List.setIfInBounds_toArray, List.set_cons_zero, List.set_cons_succ]
            refine Till.tk 2 3 19 (.pointer (some ⟨b1, o1 + j * 2, none⟩)) (HS.out _ HB.out) ?_
            try simp only [Act.put, List.setIfInBounds_toArray, List.set_cons_zero, List.set_cons_succ]
            refine Till.tk 3 8 20 (.agg #[.int .i64 x.1, .bool x.2]) (HS.out _ HB.out) ?_
            try simp only [Act.put, List.setIfInBounds_toArray, List.set_cons_zero, List.set_cons_succ]
            refine Till.tL 4 [6, 7, 8] 21 (.slice (some ⟨b2, o2, none⟩) n d) (HS.out _ HB.out) ?_
            try simp only [Act.put, List.setIfInBounds_toArray, List.set_cons_zero, List.set_cons_succ]
            refine Till.one (i := 5) (by kernel_rfl) rfl (fun K hK => ?_)
            go_simp
            refine hK.out _ _ (fun _ => HS.out _ HB.out) ?_
            clear hK K
            try simp only [List.setIfInBounds_toArray, List.set_cons_zero, List.set_cons_succ]
            refine Till.one (i := 6) (by kernel_rfl) rfl (fun K hK => ?_)
            go_simp
            refine hK.out _ _ (fun _ => HS.out _ HB.out) ?_
            clear hK K
            try simp only [List.setIfInBounds_toArray, List.set_cons_zero, List.set_cons_succ]
            refine Till.tk 7 8 24 (.agg #[.int .i64 y.1, .bool y.2]) (HS.out _ HB.out) ?_
            try simp only [Act.put, List.setIfInBounds_toArray, List.set_cons_zero, List.set_cons_succ]
            refine Till.one (i := 8) (by kernel_rfl) rfl (fun K hK => ?_)
            go_simp
            refine hK.out _ _ (fun h => absurd h (by simp)) ?_
            clear hK K
            try simp only [List.setIfInBounds_toArray, List.set_cons_zero, List.set_cons_succ]
            refine Till.done (by kernel_rfl) ?_ _
            go_wp2_with fail
            go_ret
            refine ⟨?_, below_on B1.out HB.out⟩
            rw [decide_eq_false (fun e => Hne.out (by have h5 := Hx.out; rw [e, Hy.out] at h5; injection h5 with h5; exact h5.symm))]
            rfl
          · have q1 : (x.1 = y.1) = False := eq_false e1
            go_upto_region 6 with fail
            refine Till.begin 8 (fun w' => w'.cell? ⟨b1, o1 + j * 2, none⟩ = some (.int .i64 x.1) ∧ w'.cell? ⟨b1, o1 + j * 2 + 1, none⟩ = some (.bool x.2) ∧ w'.cell? ⟨b2, o2 + j * 2, none⟩ = some (.int .i64 y.1) ∧ w'.cell? ⟨b2, o2 + j * 2 + 1, none⟩ = some (.bool y.2)) (by kernel_rfl) (HS.out _ (Below.refl _ _).drew) (fun hH => ?_)
            clear hH
            have HB := Lib.hid (Below.refl wr.heap.size wr).drew
            generalize wr.drew = v0 at HB ⊢
            try simp only [List.setIfInBounds_toArray, List.set_cons_zero, List.set_cons_succ]
            refine Till.tL 0 [2, 3, 8] 17 (.slice (some ⟨b1, o1, none⟩) n c) (HS.out _ HB.out) ?_
            try simp only [Act.put, List.setIfInBounds_toArray, List.set_cons_zero, List.set_cons_succ]
            refine Till.tL 1 [2, 3, 8] 18 (.int .i64 (j : Nat)) (HS.out _ HB.out) ?_
            try simp only [Act.put, List.setIfInBounds_toArray, List.set_cons_zero, List.set_cons_succ]
            refine Till.tk 2 3 19 (.pointer (some ⟨b1, o1 + j * 2, none⟩)) (HS.out _ HB.out) ?_
            try simp only [Act.put, List.setIfInBounds_toArray, List.set_cons_zero, List.set_cons_succ]
            refine Till.tk 3 8 20 (.agg #[.int .i64 x.1, .bool x.2]) (HS.out _ HB.out) ?_
            try simp only [Act.put, List.setIfInBounds_toArray, List.set_cons_zero, List.set_cons_succ]
            refine Till.tL 4 [6, 7, 8] 21 (.slice (some ⟨b2, o2, none⟩) n d) (HS.out _ HB.out) ?_
            try simp only [Act.put, List.setIfInBounds_toArray, List.set_cons_zero, List.set_cons_succ]
            refine Till.one (i := 5) (by kernel_rfl) rfl (fun K hK => ?_)
            go_simp
            refine hK.out _ _ (fun _ => HS.out _ HB.out) ?_
            clear hK K
            try simp only [List.setIfInBounds_toArray, List.set_cons_zero, List.set_cons_succ]
            refine Till.one (i := 6) (by kernel_rfl) rfl (fun K hK => ?_)
            go_simp
            refine hK.out _ _ (fun _ => HS.out _ HB.out) ?_
            clear hK K
            try simp only [List.setIfInBounds_toArray, List.set_cons_zero, List.set_cons_succ]
            refine Till.tk 7 8 24 (.agg #[.int .i64 y.1, .bool y.2]) (HS.out _ HB.out) ?_
            try simp only [Act.put, List.setIfInBounds_toArray, List.set_cons_zero, List.set_cons_succ]
            refine Till.one (i := 8) (by kernel_rfl) rfl (fun K hK => ?_)
            go_simp
            refine hK.out _ _ (fun h => absurd h (by simp)) ?_
            clear hK K
            try simp only [List.setIfInBounds_toArray, List.set_cons_zero, List.set_cons_succ]
            refine Till.done (by kernel_rfl) ?_ _
            go_wp2_with fail
            go_ret
            refine ⟨?_, below_on B1.out HB.out⟩
            rw [decide_eq_false (fun e => Hne.out (by have h5 := Hx.out; rw [e, Hy.out] at h5; injection h5 with h5; exact h5.symm))]
            rfl
      · have hjn : j = n := by omega
        subst hjn
        go_wp2_with fail
        go_ret
        refine ⟨?_, hb⟩
        rw [decide_eq_true (lists_eq (hn.trans hm.symm) (by rw [hn]; exact hpre))]
        rfl
  · have t0 : ((n : Int) != (m : Int)) = true := by
      rw [bne_iff_ne]; omega
    go_enter Try.func27, Try.ntmps27
    go_wp2_with fail
    go_ret
    refine ⟨?_, Below.refl _ _⟩
    rw [decide_eq_false (fun e => hnm (by rw [← hn, ← hm, e]))]
    rfl
end Go.Proofs.Ytmfmpkihmadjmaa
