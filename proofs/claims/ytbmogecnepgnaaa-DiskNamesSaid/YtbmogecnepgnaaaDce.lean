/- The model: changed, isName. -/
import Derived.Test.YtbmogecnepgnaaaDcd
namespace Go.Proofs.Ytbmogecnepgnaaa
open Go.RowKit Go.Maps Go.Shelf
abbrev Chg := ByteArray × ByteArray × Nat
def isE (s : ByteArray) : Bool := decide (s.data.toList = [])
def changedM (l : List Ent) (c : Chg) : List Ent :=
  let l1 := if isE c.1 then l else withoutM l c.1
  if isE c.2.1 then l1 else withM l1 (c.2.1, c.2.2)
theorem isE_beq (s : ByteArray) : (s.toList == []) = isE s := by
  rw [ByteArray.toList_eq]
  unfold isE
  by_cases h : s.data.toList = []
  · rw [decide_eq_true h, h]; rfl
  · rw [decide_eq_false h]; exact beq_eq_false_iff_ne.2 h
set_option maxRecDepth 100000 in
set_option maxHeartbeats 8000000 in
theorem changed_any {w : World} {v : Value} {n : Nat} {l : List Ent} (h : RowAt w 75 2 v n (entC l)) (hn : l.length = n) (hnm : n ≤ 1000) (c : Chg) :
    Calls Try.prog 64 #[v, .agg #[.string c.1, .string c.2.1, .int .i64 (c.2.2 : Nat)]] w fun e w' => ∃ v', e = .returned v' ∧ RowAt w' 75 2 v' (changedM l c).length (entC (changedM l c)) ∧ Below w.heap.size w w' := by
  have k1 := (Below.refl w.heap.size w).alloc (Nat.le_refl _) (.cells #[.string c.1, .string c.2.1, .int .i64 (c.2.2 : Nat)] 87)
  have C1 := Cells.new w #[.string c.1, .string c.2.1, .int .i64 (c.2.2 : Nat)] 87
  obtain ⟨w1, hw1⟩ : ∃ u, w.alloc (.cells #[.string c.1, .string c.2.1, .int .i64 (c.2.2 : Nat)] 87) = u := ⟨_, rfl⟩
  rw [hw1] at k1 C1
  have HK1 := Lib.hid k1
  have HR1 := Lib.hid (h.keep k1)
  have HN := Lib.hid hn
  have HC1 := Lib.hid C1
  have hWl : (withoutM l c.1).length ≤ 1000 := Nat.le_trans (List.length_filter_le _ _) (by omega)
  have z0 := C1.at_ 0
  have z1 := C1.at_ 1
  have z2 := C1.at_ 2
  simp only [List.getElem?_cons_zero, List.getElem?_cons_succ] at z0 z1 z2
  have e1 := isE_beq c.1
  have e2 := isE_beq c.2.1
  obtain ⟨b1, hb1⟩ : ∃ b, isE c.1 = b := ⟨_, rfl⟩
  obtain ⟨b2, hb2⟩ : ∃ b, isE c.2.1 = b := ⟨_, rfl⟩
  rw [hb1] at e1
  rw [hb2] at e2
  have HM := Lib.hid (show changedM l c = if b2 then (if b1 then l else withoutM l c.1) else withM (if b1 then l else withoutM l c.1) (c.2.1, c.2.2) by unfold changedM; rw [hb1, hb2])
  obtain ⟨R, hR⟩ : ∃ R, changedM l c = R := ⟨_, rfl⟩
  rw [hR] at HM ⊢
  clear h hn k1 C1 hb1 hb2 hR
  cases b1 <;> cases b2
  · go_enter Try.func64, Try.ntmps64
    go_wp2_with fail
    refine (without_any HR1.out HN.out hnm c.1).mono ?_
    rintro e w2 ⟨vl, rfl, hown, hb⟩
    have HK2 := Lib.hid (below_on HK1.out hb)
    have HC2 := Lib.hid (HC1.out.keep hb)
    have HR2 := Lib.hid (RowAt.of_own hown)
    clear z0 z1 z2 hown hb hw1
    have z0 := HC2.out.at_ 0
    have z1 := HC2.out.at_ 1
    have z2 := HC2.out.at_ 2
    simp only [List.getElem?_cons_zero, List.getElem?_cons_succ] at z0 z1 z2
    go_wp2_with fail
    refine (with_any HR2.out rfl hWl (c.2.1, c.2.2)).mono ?_
    rintro e w3 ⟨vm, rfl, hown, hb⟩
    have HK3 := Lib.hid (below_on HK2.out hb)
    have HR3 := Lib.hid (RowAt.of_own hown)
    clear hown hb
    go_wp2_with fail
    go_ret
    exact ⟨_, rfl, by rw [HM.out]; exact HR3.out, HK3.out⟩
  · go_enter Try.func64, Try.ntmps64
    go_wp2_with fail
    refine (without_any HR1.out HN.out hnm c.1).mono ?_
    rintro e w2 ⟨vl, rfl, hown, hb⟩
    have HK2 := Lib.hid (below_on HK1.out hb)
    have HC2 := Lib.hid (HC1.out.keep hb)
    have HR2 := Lib.hid (RowAt.of_own hown)
    clear z0 z1 z2 hown hb hw1
    have z0 := HC2.out.at_ 0
    have z1 := HC2.out.at_ 1
    have z2 := HC2.out.at_ 2
    simp only [List.getElem?_cons_zero, List.getElem?_cons_succ] at z0 z1 z2
    go_wp2_with fail
    go_ret
    exact ⟨_, rfl, by rw [HM.out]; exact HR2.out, HK2.out⟩
  · go_enter Try.func64, Try.ntmps64
    go_wp2_with fail
    refine (with_any HR1.out HN.out hnm (c.2.1, c.2.2)).mono ?_
    rintro e w3 ⟨vm, rfl, hown, hb⟩
    have HK3 := Lib.hid (below_on HK1.out hb)
    have HR3 := Lib.hid (RowAt.of_own hown)
    clear hown hb
    go_wp2_with fail
    go_ret
    exact ⟨_, rfl, by rw [HM.out]; exact HR3.out, HK3.out⟩
  · go_enter Try.func64, Try.ntmps64
    go_wp2_with fail
    go_ret
    exact ⟨_, rfl, by rw [HM.out]; show RowAt _ _ _ _ l.length (entC l); rw [HN.out]; exact HR1.out, HK1.out⟩
set_option maxRecDepth 100000 in
set_option maxHeartbeats 8000000 in
theorem isName_any (s : ByteArray) (w : World) (h63 : s.size ≤ 4611686018427387904) : Calls Try.prog 46 #[.string s] w fun e w' => e = .returned (.bool (fileB s)) ∧ w' = w := by
  go_enter Try.func46, Try.ntmps46
  go_wp2_with fail
  go_loop [3, 4] (fun i _ => ∃ k : Nat, k ≤ s.size ∧ i = .int .i64 k ∧ ∀ j (h : j < s.size), j < k → chrB (s[j]).toNat = true) (fun i _ => s.size - (intOf i).toNat)
  case atStart => exact ⟨0, Nat.zero_le _, rfl, fun _ _ h => absurd h (by omega)⟩
  case round =>
    obtain ⟨k, hk, rfl, hall⟩ := hrel
    have Hall := Lib.hid hall
    clear hall
    have i2 : IntKind.i64.wrap ((k : Int) + 1) = (k : Int) + 1 := IntWalk.i64_in _ (by omega)
    by_cases hlt : k < s.size
    · have i1 : (k : Int) < (s.size : Int) := by omega
      obtain ⟨x, hx⟩ : ∃ x, (s[k]).toNat = x := ⟨_, rfl⟩
      have Hlt := Lib.hid hlt
      have Hyes := Lib.hid (show chrB x = true → ∀ j (h : j < s.size), j < k + 1 → chrB (s[j]).toNat = true from fun hc j hj hjk => by
        by_cases e : j = k
        · subst e; rw [hx]; exact hc
        · exact Hall.out j hj (by omega))
      have Hno := Lib.hid (show chrB x = false → fileB s = false from fun hc => by
        unfold fileB
        rw [decide_eq_false (p := ∀ k (h : k < s.size), chrB (s[k]).toNat = true) (fun ha => by have := ha k hlt; rw [hx, hc] at this; cases this), Bool.and_false])
      rcases (show x < 45 ∨ x = 45 ∨ x = 46 ∨ x = 47 ∨ (48 ≤ x ∧ x ≤ 57) ∨ (58 ≤ x ∧ x ≤ 96) ∨ (97 ≤ x ∧ x ≤ 122) ∨ 122 < x by omega) with hc | hc | hc | hc | hc | hc | hc | hc
      · have f1 : (x : Int) < 97 := by omega
        have f2 : decide ((x : Int) < 97) = true := decide_eq_true (by omega)
        have f3 : decide (x < 97) = true := decide_eq_true (by omega)
        have f4 : ¬ ((122 : Int) < (x : Int)) := by omega
        have f5 : decide ((122 : Int) < (x : Int)) = false := decide_eq_false (by omega)
        have f6 : decide (122 < x) = false := decide_eq_false (by omega)
        have f7 : (x : Int) < 48 := by omega
        have f8 : decide ((x : Int) < 48) = true := decide_eq_true (by omega)
        have f9 : decide (x < 48) = true := decide_eq_true (by omega)
        have f10 : ¬ ((57 : Int) < (x : Int)) := by omega
        have f11 : decide ((57 : Int) < (x : Int)) = false := decide_eq_false (by omega)
        have f12 : decide (57 < x) = false := decide_eq_false (by omega)
        have f13 : ((x : Int) == 46) = false := beq_eq_false_iff_ne.2 (by omega)
        have f14 : ((x : Int) != 46) = true := bne_iff_ne.2 (by omega)
        have f15 : ¬ ((x : Int) = 46) := by omega
        have f16 : ((x : Int) == 45) = false := beq_eq_false_iff_ne.2 (by omega)
        have f17 : ((x : Int) != 45) = true := bne_iff_ne.2 (by omega)
        have f18 : ¬ ((x : Int) = 45) := by omega
        have HY := Lib.hid (Hno.out (by unfold chrB; simp <;> omega))
        clear hc Hyes Hno
        go_wp2_with fail
        go_ret
        exact ⟨by rw [HY.out]; rfl, rfl⟩
      · subst hc
        have HY := Lib.hid (Hyes.out (by unfold chrB; simp <;> omega))
        clear Hyes Hno
        go_wp2_with fail
        go_round
        case rel => exact ⟨k + 1, Hlt.out, by go_num, HY.out⟩
        case measure => simp [intOf]; have := Hlt.out; omega
      · subst hc
        have HY := Lib.hid (Hyes.out (by unfold chrB; simp <;> omega))
        clear Hyes Hno
        go_wp2_with fail
        go_round
        case rel => exact ⟨k + 1, Hlt.out, by go_num, HY.out⟩
        case measure => simp [intOf]; have := Hlt.out; omega
      · subst hc
        have HY := Lib.hid (Hno.out (by unfold chrB; simp <;> omega))
        clear Hyes Hno
        go_wp2_with fail
        go_ret
        exact ⟨by rw [HY.out]; rfl, rfl⟩
      · have f1 : (x : Int) < 97 := by omega
        have f2 : decide ((x : Int) < 97) = true := decide_eq_true (by omega)
        have f3 : decide (x < 97) = true := decide_eq_true (by omega)
        have f4 : ¬ ((122 : Int) < (x : Int)) := by omega
        have f5 : decide ((122 : Int) < (x : Int)) = false := decide_eq_false (by omega)
        have f6 : decide (122 < x) = false := decide_eq_false (by omega)
        have f7 : ¬ ((x : Int) < 48) := by omega
        have f8 : decide ((x : Int) < 48) = false := decide_eq_false (by omega)
        have f9 : decide (x < 48) = false := decide_eq_false (by omega)
        have f10 : ¬ ((57 : Int) < (x : Int)) := by omega
        have f11 : decide ((57 : Int) < (x : Int)) = false := decide_eq_false (by omega)
        have f12 : decide (57 < x) = false := decide_eq_false (by omega)
        have f13 : ((x : Int) == 46) = false := beq_eq_false_iff_ne.2 (by omega)
        have f14 : ((x : Int) != 46) = true := bne_iff_ne.2 (by omega)
        have f15 : ¬ ((x : Int) = 46) := by omega
        have f16 : ((x : Int) == 45) = false := beq_eq_false_iff_ne.2 (by omega)
        have f17 : ((x : Int) != 45) = true := bne_iff_ne.2 (by omega)
        have f18 : ¬ ((x : Int) = 45) := by omega
        have HY := Lib.hid (Hyes.out (by unfold chrB; simp <;> omega))
        clear hc Hyes Hno
        go_wp2_with fail
        go_round
        case rel => exact ⟨k + 1, Hlt.out, by go_num, HY.out⟩
        case measure => simp [intOf]; have := Hlt.out; omega
      · have f1 : (x : Int) < 97 := by omega
        have f2 : decide ((x : Int) < 97) = true := decide_eq_true (by omega)
        have f3 : decide (x < 97) = true := decide_eq_true (by omega)
        have f4 : ¬ ((122 : Int) < (x : Int)) := by omega
        have f5 : decide ((122 : Int) < (x : Int)) = false := decide_eq_false (by omega)
        have f6 : decide (122 < x) = false := decide_eq_false (by omega)
        have f7 : ¬ ((x : Int) < 48) := by omega
        have f8 : decide ((x : Int) < 48) = false := decide_eq_false (by omega)
        have f9 : decide (x < 48) = false := decide_eq_false (by omega)
        have f10 : (57 : Int) < (x : Int) := by omega
        have f11 : decide ((57 : Int) < (x : Int)) = true := decide_eq_true (by omega)
        have f12 : decide (57 < x) = true := decide_eq_true (by omega)
        have f13 : ((x : Int) == 46) = false := beq_eq_false_iff_ne.2 (by omega)
        have f14 : ((x : Int) != 46) = true := bne_iff_ne.2 (by omega)
        have f15 : ¬ ((x : Int) = 46) := by omega
        have f16 : ((x : Int) == 45) = false := beq_eq_false_iff_ne.2 (by omega)
        have f17 : ((x : Int) != 45) = true := bne_iff_ne.2 (by omega)
        have f18 : ¬ ((x : Int) = 45) := by omega
        have HY := Lib.hid (Hno.out (by unfold chrB; simp <;> omega))
        clear hc Hyes Hno
        go_wp2_with fail
        go_ret
        exact ⟨by rw [HY.out]; rfl, rfl⟩
      · have f1 : ¬ ((x : Int) < 97) := by omega
        have f2 : decide ((x : Int) < 97) = false := decide_eq_false (by omega)
        have f3 : decide (x < 97) = false := decide_eq_false (by omega)
        have f4 : ¬ ((122 : Int) < (x : Int)) := by omega
        have f5 : decide ((122 : Int) < (x : Int)) = false := decide_eq_false (by omega)
        have f6 : decide (122 < x) = false := decide_eq_false (by omega)
        have f7 : ¬ ((x : Int) < 48) := by omega
        have f8 : decide ((x : Int) < 48) = false := decide_eq_false (by omega)
        have f9 : decide (x < 48) = false := decide_eq_false (by omega)
        have f10 : (57 : Int) < (x : Int) := by omega
        have f11 : decide ((57 : Int) < (x : Int)) = true := decide_eq_true (by omega)
        have f12 : decide (57 < x) = true := decide_eq_true (by omega)
        have f13 : ((x : Int) == 46) = false := beq_eq_false_iff_ne.2 (by omega)
        have f14 : ((x : Int) != 46) = true := bne_iff_ne.2 (by omega)
        have f15 : ¬ ((x : Int) = 46) := by omega
        have f16 : ((x : Int) == 45) = false := beq_eq_false_iff_ne.2 (by omega)
        have f17 : ((x : Int) != 45) = true := bne_iff_ne.2 (by omega)
        have f18 : ¬ ((x : Int) = 45) := by omega
        have HY := Lib.hid (Hyes.out (by unfold chrB; simp <;> omega))
        clear hc Hyes Hno
        go_wp2_with fail
        go_round
        case rel => exact ⟨k + 1, Hlt.out, by go_num, HY.out⟩
        case measure => simp [intOf]; have := Hlt.out; omega
      · have f1 : ¬ ((x : Int) < 97) := by omega
        have f2 : decide ((x : Int) < 97) = false := decide_eq_false (by omega)
        have f3 : decide (x < 97) = false := decide_eq_false (by omega)
        have f4 : (122 : Int) < (x : Int) := by omega
        have f5 : decide ((122 : Int) < (x : Int)) = true := decide_eq_true (by omega)
        have f6 : decide (122 < x) = true := decide_eq_true (by omega)
        have f7 : ¬ ((x : Int) < 48) := by omega
        have f8 : decide ((x : Int) < 48) = false := decide_eq_false (by omega)
        have f9 : decide (x < 48) = false := decide_eq_false (by omega)
        have f10 : (57 : Int) < (x : Int) := by omega
        have f11 : decide ((57 : Int) < (x : Int)) = true := decide_eq_true (by omega)
        have f12 : decide (57 < x) = true := decide_eq_true (by omega)
        have f13 : ((x : Int) == 46) = false := beq_eq_false_iff_ne.2 (by omega)
        have f14 : ((x : Int) != 46) = true := bne_iff_ne.2 (by omega)
        have f15 : ¬ ((x : Int) = 46) := by omega
        have f16 : ((x : Int) == 45) = false := beq_eq_false_iff_ne.2 (by omega)
        have f17 : ((x : Int) != 45) = true := bne_iff_ne.2 (by omega)
        have f18 : ¬ ((x : Int) = 45) := by omega
        have HY := Lib.hid (Hno.out (by unfold chrB; simp <;> omega))
        clear hc Hyes Hno
        go_wp2_with fail
        go_ret
        exact ⟨by rw [HY.out]; rfl, rfl⟩
    · have i1 : ¬ (k : Int) < (s.size : Int) := by omega
      have hks : k = s.size := by omega
      have hall : decide (∀ k (h : k < s.size), chrB (s[k]).toNat = true) = true := decide_eq_true (fun j hj => Hall.out j hj (by omega))
      have Hfin := Lib.hid (show fileB s = (decide (0 < s.size) && decide (s.size ≤ 40)) from by unfold fileB; rw [hall, Bool.and_true])
      clear hall
      by_cases h1 : 1 ≤ s.size
      · have g1 : (1 : Int) ≤ (s.size : Int) := by omega
        by_cases h2 : s.size ≤ 40
        · have g2 : (s.size : Int) ≤ 40 := by omega
          have HF := Lib.hid (show fileB s = true from Hfin.out.trans (by rw [decide_eq_true (by omega), decide_eq_true h2]; rfl))
          clear h1 h2 hks
          go_wp2_with fail
          go_ret
          exact ⟨by rw [HF.out]; simp, rfl⟩
        · have g2 : ¬ (s.size : Int) ≤ 40 := by omega
          have HF := Lib.hid (show fileB s = false from Hfin.out.trans (by rw [decide_eq_false h2, Bool.and_false]))
          clear h1 h2 hks
          go_wp2_with fail
          go_ret
          exact ⟨by rw [HF.out]; simp, rfl⟩
      · have g1 : ¬ (1 : Int) ≤ (s.size : Int) := by omega
        have HF := Lib.hid (show fileB s = false from Hfin.out.trans (by rw [decide_eq_false (by omega), Bool.false_and]))
        clear h1 hks
        go_wp2_with fail
        go_ret
        exact ⟨by rw [HF.out]; simp, rfl⟩
end Go.Proofs.Ytbmogecnepgnaaa
