/- The reference: the names of a set of options. -/
import Derived.Test.YtmfmpkihmadjmaaVag
namespace Go.Proofs.Ytmfmpkihmadjmaa
open Go.RowKit Go.Shelf
set_option maxRecDepth 100000 in
set_option maxHeartbeats 8000000 in
theorem namesR_any (f : Fm) (os : List ByteArray) (set : Nat) (w : World) (hos : StrL w f.OA os) (hol : os.length = f.n) (hn : f.n ≤ 6) (hs64 : set < 64) :
    Calls Try.prog 19 #[f.v, .int .i64 (set : Nat)] w fun e w' => ∃ v, e = .returned v ∧ w'.ownsRow w.heap.size 9 1 v (nmU os (fun i => set.testBit i) f.n).length (strs (nmU os (fun i => set.testBit i) f.n)) ∧ Below w.heap.size w w' := by
  have k1 := (Below.refl w.heap.size w).alloc (Nat.le_refl _) (.cells f.cells 40)
  have P1 := Cells.new w f.cells 40
  have K1 := Lib.hid k1
  have HP1 := Lib.hid P1
  obtain ⟨i0, hi, hz0, hz1, hz2⟩ := info_parts info_str
  clear k1 P1
  go_enter Try.func19, Try.ntmps19
  go_wp2_with fail
  obtain ⟨w1, hw1⟩ : ∃ u, w.alloc (.cells f.cells 40) = u := ⟨_, rfl⟩
  have hw1' : w.alloc (.cells #[.string f.nm, .slice f.PA f.pn f.pc, .slice f.IA f.iN f.ic, .slice f.DA f.dn f.dc, .slice f.KA f.kn f.kc, .slice f.QA f.qn f.qc, .slice f.OA f.n f.oc, .slice f.RA f.rn f.rc, .slice f.GA f.gn f.gc, .slice f.VA f.vn f.vc] 40) = w1 := hw1
  rw [hw1'] 
  rw [hw1] at K1 HP1
  clear hw1 hw1'
  go_loopw [5, 6] (fun v i wr => ∃ j : Nat, i = .int .i64 (j : Nat) ∧ j ≤ f.n ∧ wr.ownsRow w1.heap.size 9 1 v (nmU os (fun i => set.testBit i) j).length (strs (nmU os (fun i => set.testBit i) j)) ∧ Below w1.heap.size w1 wr) (fun _ i _ => f.n - (intOf i).toNat)
  case atStart => exact ⟨0, rfl, Nat.zero_le _, World.ownsRow_nil _ _ _ _, Below.refl _ _⟩
  case round =>
    obtain ⟨j, rfl, hj, hown, hb⟩ := hrel
    have Ow := Lib.hid hown
    have B1 := Lib.hid hb
    have c6 := (HP1.out.keep hb).at_ 6
    simp only [List.getElem?_cons_zero, List.getElem?_cons_succ] at c6
    by_cases hlt : j < f.n
    · have Hlt := Lib.hid hlt
      obtain ⟨s, b, o, hs, hOA, hbl, hc⟩ := (hos.keep (below_on K1.out hb)).at_ (k := j) (by omega)
      rw [hOA] at c6
      have i1 : (j : Int) < (f.n : Int) := by omega
      have i2 : (j : Int) ≤ 64 := by omega
      have i3 : (0 : Int) ≤ (j : Int) := by omega
      have hZ := ref_bit set hs64 j (by omega)
      obtain ⟨Y, hY⟩ : ∃ Y, (set : Int) / 2 ^ j = Y := ⟨_, rfl⟩
      rw [hY] at hZ
      have Hlen := Lib.hid (Nat.le_trans (nmU_len os (fun i => set.testBit i) j) hj)
      have Hs := Lib.hid hs
      obtain ⟨q, hq⟩ : ∃ q, set.testBit j = q := ⟨_, rfl⟩
      rw [hq] at hZ
      have Hq := Lib.hid (show (fun i => set.testBit i) j = q from hq)
      clear hq hs hown hb hOA hos
      cases q
      · rw [if_neg (by decide)] at hZ
        go_wp2_with fail
        go_roundw
        case rel => exact ⟨j + 1, by go_num, Hlt.out, by rw [nmU_no Hq.out]; exact Ow.out, B1.out⟩
        case measure => simp [intOf]; have := Hlt.out; omega
      · rw [if_pos rfl] at hZ
        go_wp2_with (at_builtin; refine wpList_append_own _ rfl _ _ 25 rfl w1.heap.size 9 i0 (.string ByteArray.empty) 1 16 Try.underlying25 hi hz0 hz1 hz2 rfl (by decide) _ _ _ rfl (Ow.out.alloc _) ⟨wr.heap.size, 0, none⟩ 1 1 [.string s] rfl rfl ?c1 ?c2 ?c3 ?c4 ?c5 ?_)
        case c2 => first | rfl | (intro u hu; simp at hu; subst hu; rfl)
        try any_goals first | exact cell_one_new _ _ _ | rfl
        case c3 => unfold maxLen; have := Hlen.out; omega
        case c4 => have := Hlen.out; omega
        case c5 => have := B1.out.size; first | omega | (simp; omega)
        intro v' w3 hown' hgrow _
        have Ow3 := Lib.hid (show w3.ownsRow w1.heap.size 9 1 v' (nmU os (fun i => set.testBit i) (j + 1)).length (strs (nmU os (fun i => set.testBit i) (j + 1))) by
          rw [nmU_yes Hq.out Hs.out]
          unfold strs
          rw [List.map_append, List.length_append]
          exact hown')
        have B3 := Lib.hid ((B1.out.alloc B1.out.size (.cells #[.string s] 9)).grown hgrow (by simp; have := B1.out.size; omega) (fun k hk => own_ge Ow.out hk))
        clear hown' hgrow
        go_wp2
        go_roundw
        case rel => exact ⟨j + 1, by go_num, Hlt.out, Ow3.out, B3.out⟩
        case measure => simp [intOf]; have := Hlt.out; omega
    · have hjn : j = f.n := by omega
      rw [hjn] at hown
      have OF := Lib.hid (own_down hown K1.out.size)
      have BF := Lib.hid (below_on K1.out hb)
      clear hown hb hos Ow
      go_wp2_with fail
      go_ret
      exact ⟨_, rfl, OF.out, BF.out⟩
end Go.Proofs.Ytmfmpkihmadjmaa
