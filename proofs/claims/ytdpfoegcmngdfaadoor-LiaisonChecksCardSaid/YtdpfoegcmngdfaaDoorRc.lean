/- Liaisons: the reference's test of a graph. -/
import Derived.Test.YtdpfoegcmngdfaaDoorLp
namespace Go.Proofs.YtdpfoegcmngdfaaDoor
open Go.RowKit
set_option maxRecDepth 100000 in
set_option maxHeartbeats 8000000 in
theorem refCheck_bad (n : Int) (A : Option Addr) (m c : Nat) (es : List (Int × Int)) (w : World) (h : EL w A m es) (hm : m ≤ 4096) (hb : checkG n es ≠ 0) :
    Calls Tryd.prog 11 #[gV n A m c] w fun e w' => e = .returned (.int .i64 (checkG n es)) ∧ Below w.heap.size w w' := by
  have kv := (Below.refl w.heap.size w).alloc (Nat.le_refl _) (.cells #[.int .i64 n, .slice A m c] 24)
  have P0 := Cells.new w #[.int .i64 n, .slice A m c] 24
  have HC := Lib.hid (check_any n A m c es _ (h.keep kv) (by omega))
  have g0 := P0.at_ 0
  have g1 := P0.at_ 1
  simp only [List.getElem?_cons_zero, List.getElem?_cons_succ] at g0 g1
  obtain ⟨E, hE⟩ : ∃ E, checkG n es = E := ⟨_, rfl⟩
  rw [hE] at HC hb ⊢
  have t0 : (E != 0) = true := by simpa using hb
  have kv := Lib.hid kv
  clear h hE hb P0
  go_enter Tryd.func11, Tryd.ntmps11
  go_wp2_with fail
  refine HC.out.mono ?_
  rintro e w1 ⟨rfl, hb1⟩
  have B1 := Lib.hid (below_on kv.out hb1)
  clear hb1 g0 g1
  go_wp2_with fail
  go_ret
  exact ⟨rfl, B1.out⟩
set_option maxRecDepth 100000 in
set_option maxHeartbeats 8000000 in
theorem refCheck_any (n : Nat) (A : Option Addr) (m c : Nat) (es : List (Nat × Nat)) (w : World) (h : EL w A m (cast es)) (hm : m ≤ 4096) (hg : checkG (n : Int) (cast es) = 0) :
    Calls Tryd.prog 11 #[gV n A m c] w fun e w' => e = .returned (.int .i64 (if 12 < n then 6 else liN es)) ∧ Below w.heap.size w w' := by
  have kv := (Below.refl w.heap.size w).alloc (Nat.le_refl _) (.cells #[.int .i64 (n : Nat), .slice A m c] 24)
  have P0 := Cells.new w #[.int .i64 (n : Nat), .slice A m c] 24
  have HC := check_any (n : Int) A m c (cast es) _ (h.keep kv) (by omega)
  rw [hg] at HC
  have HC := Lib.hid HC
  have g0 := P0.at_ 0
  have g1 := P0.at_ 1
  simp only [List.getElem?_cons_zero, List.getElem?_cons_succ] at g0 g1
  have hml := h.len'
  have HM := Lib.hid (Nat.le_of_eq hml)
  have HM2 := Lib.hid (Nat.le_of_eq hml.symm)
  have E0 := Lib.hid h
  have kv := Lib.hid kv
  have P0 := Lib.hid P0
  have HA := Lib.hid (fun k (hk : k < es.length) => @firstE_at (lnkAt es) k es.length hk)
  have HN := Lib.hid (@firstE_none (lnkAt es) es.length)
  clear h hg hml
  by_cases h12 : 12 < n
  · have t1 : decide ((12 : Int) < (n : Int)) = true := decide_eq_true (by omega)
    rw [if_pos h12]
    clear HA HN h12
    go_enter Tryd.func11, Tryd.ntmps11
    go_wp2_with fail
    refine HC.out.mono ?_
    rintro e w1 ⟨rfl, hb1⟩
    have P1 := P0.out.keep hb1
    have B1 := Lib.hid (below_on kv.out hb1)
    have g0 := P1.at_ 0
    have g1 := P1.at_ 1
    simp only [List.getElem?_cons_zero, List.getElem?_cons_succ] at g0 g1
    clear hb1 P1
    go_wp2_with fail
    go_ret
    exact ⟨rfl, B1.out⟩
  · rw [if_neg h12]
    obtain ⟨E, hE⟩ : ∃ E, liN es = E := ⟨_, rfl⟩
    rw [hE]
    have HA : RowKit.Hid (∀ k, k < es.length → (∀ j, j < k → lnkAt es j = 0) → lnkAt es k ≠ 0 → E = lnkAt es k) := Lib.hid fun k hk h1 h2 => hE.symm.trans (HA.out k hk h1 h2)
    have HN : RowKit.Hid ((∀ j, j < es.length → lnkAt es j = 0) → E = 0) := Lib.hid fun h1 => hE.symm.trans (HN.out h1)
    have t1 : decide ((12 : Int) < (n : Int)) = false := decide_eq_false (by omega)
    clear hE h12
    go_enter Tryd.func11, Tryd.ntmps11
    go_wp2_with fail
    refine HC.out.mono ?_
    rintro e w1 ⟨rfl, hb1⟩
    have P1 := Lib.hid (P0.out.keep hb1)
    have B1 := Lib.hid (below_on kv.out hb1)
    have g0 := P1.out.at_ 0
    have g1 := P1.out.at_ 1
    simp only [List.getElem?_cons_zero, List.getElem?_cons_succ] at g0 g1
    clear hb1 P0
    go_wp2_with fail
    clear g0 g1
    go_loopw [4] (fun i wr => ∃ k : Nat, k ≤ m ∧ i = .int .i64 (k : Nat) ∧ (∀ j, j < k → lnkAt es j = 0) ∧ Cells wr w.heap.size [.int .i64 (n : Nat), .slice A m c] ∧ Below w.heap.size w wr) (fun i _ => m - (intOf i).toNat)
    case atStart => exact ⟨0, Nat.zero_le _, rfl, fun j hj => absurd hj (Nat.not_lt_zero _), P1.out, B1.out⟩
    case round =>
      obtain ⟨k, hk, rfl, hz, hp, hb⟩ := hrel
      have Hz := Lib.hid hz
      have P6 := Lib.hid hp
      have B6 := Lib.hid hb
      have E6 := Lib.hid (E0.out.keep hb)
      clear hz hp hb
      have r0 := P6.out.at_ 0
      have r1 := P6.out.at_ 1
      simp only [List.getElem?_cons_zero, List.getElem?_cons_succ] at r0 r1
      by_cases hlt : k < m
      · obtain ⟨e0, bb, o, he, rfl, _, c0, c1⟩ := E6.out.at_ hlt
        obtain ⟨x, z, hx, rfl⟩ := cast_at he
        simp only at c0 c1
        have kk := (Below.refl wr.heap.size wr).alloc (Nat.le_refl _) (.cells #[.int .i64 (x : Int), .int .i64 (z : Int)] 75)
        have HE := Lib.hid (Cells.new wr #[.int .i64 (x : Int), .int .i64 (z : Int)] 75)
        have P6 := Lib.hid (P6.out.keep kk)
        have B6 := Lib.hid (below_on B6.out kk)
        have E6 := Lib.hid (E6.out.keep kk)
        obtain ⟨x2, hx2⟩ : ∃ u, wr.alloc (.cells #[.int .i64 (x : Int), .int .i64 (z : Int)] 75) = u := ⟨_, rfl⟩
        obtain ⟨p2, hp2⟩ : ∃ p, wr.heap.size = p := ⟨_, rfl⟩
        rw [hx2] at HE P6 B6 E6
        rw [hp2] at HE
        have d0 : x2.cell? ⟨p2, 0, none⟩ = some (.int .i64 (x : Int)) := HE.out.at_ 0
        have d1 : x2.cell? ⟨p2, 1, none⟩ = some (.int .i64 (z : Int)) := HE.out.at_ 1
        have g0 := P6.out.at_ 0
        have g1 := P6.out.at_ 1
        simp only [List.getElem?_cons_zero, List.getElem?_cons_succ] at g0 g1
        have HD := Lib.hid (show lnkAt es k = if x = z then 17 else if es.contains (z, x) then 0 else 10 by unfold lnkAt; rw [hx])
        have HK := Lib.hid (HA.out k (by have := HM2.out; omega) Hz.out)
        have HY := Lib.hid (fun (h0 : lnkAt es k = 0) j (hj : j < k + 1) => by
          rcases Nat.lt_or_ge j k with h1 | h1
          · exact Hz.out j h1
          · obtain rfl : j = k := by omega
            exact h0)
        obtain ⟨M, hM⟩ : ∃ M, lnkAt es k = M := ⟨_, rfl⟩
        rw [hM] at HD HK HY
        clear hM he hx kk hk
        by_cases h1 : x = z
        · subst h1
          have t2 : ((x : Int) == (x : Int)) = true := by simp
          have Hf := Lib.hid (show E = 17 by rw [HK.out (by rw [HD.out, if_pos rfl]; decide), HD.out, if_pos rfl])
          go_wp2_with fail
          go_ret
          exact ⟨ret_int Hf.out.symm, B6.out⟩
        · have t2 : ((x : Int) == (z : Int)) = false := by simp; omega
          rw [if_neg h1] at HD
          have HQ := touch_any (n : Int) (some ⟨bb, o, none⟩) m c es z x x2 E6.out (by omega)
          have hcon : (adj es z).testBit x = es.contains (z, x) := by rw [Bool.eq_iff_iff, adj_bit, List.contains_iff_mem]
          rw [hcon] at HQ
          have HQ := Lib.hid HQ
          obtain ⟨q, hq⟩ : ∃ q, es.contains (z, x) = q := ⟨_, rfl⟩
          rw [hq] at HD HQ
          clear hq h1
          cases q
          · have Hf := Lib.hid (show E = 10 by rw [HK.out (by rw [HD.out]; decide), HD.out]; rfl)
            go_wp2_with fail
            refine HQ.out.mono ?_
            rintro e w3 ⟨rfl, hb3⟩
            have B3 := Lib.hid (below_on B6.out hb3)
            clear hb3
            go_wp2_with fail
            go_ret
            exact ⟨ret_int Hf.out.symm, B3.out⟩
          · have Hf := Lib.hid (HY.out (by rw [HD.out]; rfl))
            go_wp2_with fail
            refine HQ.out.mono ?_
            rintro e w3 ⟨rfl, hb3⟩
            have B3 := Lib.hid (below_on B6.out hb3)
            have P3 := Lib.hid (P6.out.keep hb3)
            clear hb3 g0 g1 d0 d1
            go_wp2_with fail
            go_roundw
            case rel => exact ⟨k + 1, by omega, by go_num, Hf.out, P3.out, B3.out⟩
            case measure => simp [intOf]; omega
      · have hkm : k = m := by omega
        have Hf := Lib.hid (HN.out fun j hj => Hz.out j (by have := HM.out; omega))
        subst hkm
        go_wp2_with fail
        go_ret
        exact ⟨ret_int Hf.out.symm, B6.out⟩
end Go.Proofs.YtdpfoegcmngdfaaDoor
