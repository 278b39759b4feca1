/- Rows that a call builds, read back; the names of a configuration. -/
import Derived.Test.YtmfmpkihmadjmaaVn
namespace Go.Proofs.Ytmfmpkihmadjmaa
open Go.RowKit Go.Shelf Go.Maps Go.WideMaps
theorem own_ge {w : World} {base : Nat} {e : TypeId} {size n : Nat} {v : Value} {xs : List Value} (h : w.ownsRow base e size v n xs) {k : Nat} (hk : v.ownBlock = some k) : base ≤ k := by
  rcases h.2 with ⟨rfl, _⟩ | ⟨g, cap, cur, rfl, hg, _⟩
  · simp [Value.ownBlock] at hk
  · simp [Value.ownBlock] at hk; omega
theorem own_down {w : World} {B C : Nat} {e : TypeId} {sz : Nat} {v : Value} {n : Nat} {xs : List Value} (h : w.ownsRow B e sz v n xs) (hC : C ≤ B) : w.ownsRow C e sz v n xs :=
  ⟨h.1, h.2.imp id fun ⟨g, cap, cur, e, hg, r⟩ => ⟨g, cap, cur, e, Nat.le_trans hC hg, r⟩⟩
/-- A row that a call has built, and its cells. -/
theorem own_row {w : World} {base : Nat} {T : TypeId} {sz n : Nat} {v : Value} {xs : List Value} (h : w.ownsRow base T sz v n xs) : ∃ A c, v = .slice A n c ∧ n ≤ c ∧ c ≤ maxLen ∧ (0 < n → ∃ g, A = some ⟨g, 0, none⟩) ∧ ∀ i u, xs[i]? = some u → ∃ g, A = some ⟨g, 0, none⟩ ∧ base ≤ g ∧ g < w.heap.size ∧ w.cell? ⟨g, i, none⟩ = some u := by
  rcases h.2 with ⟨rfl, h0⟩ | ⟨g, cap, cur, rfl, hg, hh, hnc, hcm, hcs, hx⟩
  · subst h0
    refine ⟨none, 0, rfl, Nat.le_refl _, by unfold maxLen; omega, fun h => absurd h (Nat.lt_irrefl _), fun i u hu => ?_⟩
    have := h.1
    have hl : xs = [] := List.eq_nil_of_length_eq_zero (by omega)
    rw [hl] at hu; cases hu
  · refine ⟨_, cap, rfl, hnc, hcm, fun _ => ⟨g, rfl⟩, fun i u hu => ⟨g, rfl, hg, ?_, ?_⟩⟩
    · rcases Nat.lt_or_ge g w.heap.size with h1 | h1
      · exact h1
      · rw [Array.getElem?_eq_none h1] at hh; cases hh
    · rw [cell_of_row _ _ _ _ _ _ hh]
      rw [← hx] at hu
      have hi : i < (cur.toList.take (n * sz)).length := by
        rcases Nat.lt_or_ge i (cur.toList.take (n * sz)).length with h1 | h1
        · exact h1
        · rw [List.getElem?_eq_none h1] at hu; cases hu
      rw [List.length_take] at hi
      rw [List.getElem?_take_of_lt (by omega)] at hu
      simpa using hu
def strs (l : List ByteArray) : List Value := l.map .string
theorem own_strs {w : World} {base : Nat} {v : Value} {l : List ByteArray} (h : w.ownsRow base 9 1 v l.length (strs l)) : ∃ A c, v = .slice A l.length c ∧ StrL w A l ∧ ∀ b o t, A = some ⟨b, o, t⟩ → 0 < l.length → base ≤ b := by
  obtain ⟨A, c, rfl, _, _, _, hc⟩ := own_row h
  refine ⟨A, c, rfl, fun k s hk => ?_, fun b o t hA hl => ?_⟩
  rotate_left
  · obtain ⟨g, hg, h1, _⟩ := hc 0 (.string l[0]) (by unfold strs; rw [List.getElem?_map, List.getElem?_eq_getElem hl]; rfl)
    rw [hA] at hg
    injection hg with hg
    injection hg with hg
    rw [hg]; exact h1
  obtain ⟨g, hA, _, h2, h3⟩ := hc k (.string s) (by unfold strs; rw [List.getElem?_map, hk]; rfl)
  exact ⟨g, 0, hA, h2, by rw [Nat.zero_add]; exact h3⟩
/-- The names among the first j whose numbers are chosen. -/
def nmU (os : List ByteArray) (p : Nat → Bool) (j : Nat) : List ByteArray := ((List.range j).filter p).map fun i => os.getD i ByteArray.empty
theorem nmU_yes {os : List ByteArray} {p : Nat → Bool} {j : Nat} {s : ByteArray} (h : p j = true) (hs : os[j]? = some s) : nmU os p (j + 1) = nmU os p j ++ [s] := by
  unfold nmU
  rw [List.range_succ, List.filter_append, List.map_append]
  simp [h, List.getD_eq_getElem?_getD, hs]
theorem nmU_no {os : List ByteArray} {p : Nat → Bool} {j : Nat} (h : p j = false) : nmU os p (j + 1) = nmU os p j := by
  unfold nmU
  rw [List.range_succ, List.filter_append, List.map_append]
  simp [h]
theorem nmU_len (os : List ByteArray) (p : Nat → Bool) (j : Nat) : (nmU os p j).length ≤ j := by
  unfold nmU
  rw [List.length_map]
  exact Nat.le_trans (List.length_filter_le _ _) (by simp)
theorem info_str : (Try.prog.info? 9).map (fun i => (i.zero, i.size, i.bytes)) = some (some (.string ByteArray.empty), 1, 16) := by kernel_rfl
set_option maxRecDepth 100000 in
set_option maxHeartbeats 4000000 in
theorem names_any (f : Fm) (os : List ByteArray) (c : Nat) (w : World) (hos : StrL w f.OA os) (hol : os.length = f.n) (hn : f.n ≤ 12) (hc : c < 18446744073709551616) :
    Calls Try.prog 46 #[f.v, .int .u64 (c : Nat)] w fun e w' => ∃ v, e = .returned v ∧ w'.ownsRow w.heap.size 9 1 v (nmU os (fun i => c.testBit (11 - i)) f.n).length (strs (nmU os (fun i => c.testBit (11 - i)) f.n)) ∧ Below w.heap.size w w' := by
  obtain ⟨i0, hi, hz0, hz1, hz2⟩ := info_parts info_str
  obtain ⟨nm, PA, IA, DA, KA, QA, OA, RA, GA, VA, pn, pc, iN, ic, dn, dc, kn, kc, qn, qc, n, oc, rn, rc, gn, gc, vn, vc⟩ := f
  dsimp only [Fm.v, Fm.cells] at *
  have kv := (Below.refl w.heap.size w).alloc (Nat.le_refl _) (.cells #[.string nm, .slice PA pn pc, .slice IA iN ic, .slice DA dn dc, .slice KA kn kc, .slice QA qn qc, .slice OA n oc, .slice RA rn rc, .slice GA gn gc, .slice VA vn vc] 40)
  have P0 := Lib.hid (Cells.new w #[.string nm, .slice PA pn pc, .slice IA iN ic, .slice DA dn dc, .slice KA kn kc, .slice QA qn qc, .slice OA n oc, .slice RA rn rc, .slice GA gn gc, .slice VA vn vc] 40)
  obtain ⟨w0, hw0⟩ : ∃ u, w.alloc (.cells #[.string nm, .slice PA pn pc, .slice IA iN ic, .slice DA dn dc, .slice KA kn kc, .slice QA qn qc, .slice OA n oc, .slice RA rn rc, .slice GA gn gc, .slice VA vn vc] 40) = u := ⟨_, rfl⟩
  rw [hw0] at kv P0
  have OL := Lib.hid (hos.keep kv)
  have Ol := Lib.hid hol
  have Hc := Lib.hid hc
  have Kv := Lib.hid kv
  have c6 := P0.out.at_ 6
  simp only [List.getElem?_cons_zero, List.getElem?_cons_succ] at c6
  obtain ⟨p, hp⟩ : ∃ p, (fun i => c.testBit (11 - i)) = p := ⟨_, rfl⟩
  have Hp := Lib.hid (fun i => congrFun hp i)
  rw [hp]
  clear hos hol hc kv hp
  go_enter Try.func46, Try.ntmps46
  go_wp2_with fail
  try rw [hw0]
  go_loopw [5, 6, 7, 11] (fun v _ _ i wr => ∃ j : Nat, i = .int .i64 (j : Nat) ∧ j ≤ n ∧ wr.ownsRow w0.heap.size 9 1 v (nmU os p j).length (strs (nmU os p j)) ∧ Below w0.heap.size w0 wr) (fun _ _ _ i _ => n - (intOf i).toNat)
  case atStart => exact ⟨0, rfl, Nat.zero_le _, World.ownsRow_nil _ _ _ _, Below.refl _ _⟩
  case round =>
    obtain ⟨j, rfl, hj, hown, hb⟩ := hrel
    have B1 := Lib.hid hb
    have Ow := Lib.hid hown
    have hb0 := hb.size
    have hk0 := Kv.out.size
    clear hb hown
    by_cases hlt : j < n
    · have O1 := OL.out.keep B1.out
      obtain ⟨s, bb, o, hs, rfl, _, cs⟩ := O1.at_ (k := j) (by rw [Ol.out]; exact hlt)
      have Hlt := Lib.hid hlt
      have Hs := Lib.hid hs
      have HB := has_any c j wr (by omega) Hc.out
      rw [Hp.out j] at HB
      have Hlen := Lib.hid (nmU_len os p j)
      obtain ⟨q, hq⟩ : ∃ q, p j = q := ⟨_, rfl⟩
      rw [hq] at HB
      have HB := Lib.hid HB
      have Hq := Lib.hid hq
      clear O1 hs hq
      go_wp2_with fail
      refine HB.out.mono ?_
      rintro e w1 ⟨rfl, rfl⟩
      cases q
      · go_wp2_with fail
        go_roundw
        case rel => exact ⟨j + 1, by go_num, Hlt.out, by rw [nmU_no Hq.out]; exact Ow.out, B1.out⟩
        case measure => simp [intOf]; have := Hlt.out; omega
      · go_wp2_with (at_builtin; refine wpList_append_own _ rfl _ _ 25 rfl w0.heap.size 9 i0 (.string ByteArray.empty) 1 16 Try.underlying25 hi hz0 hz1 hz2 rfl (by decide) _ _ _ rfl (Ow.out.alloc _) ⟨wr.heap.size, 0, none⟩ 1 1 [.string s] rfl rfl ?c1 ?c2 ?c3 ?c4 ?c5 ?_)
        case c1 =>
          intro k u hu
          match k, hu with
            | 0, hu => simp at hu; subst hu; simp [Addr.add]
        case c2 => intro u hu; simp at hu; subst hu; rfl
        case c3 => unfold maxLen; have := Hlen.out; omega
        case c4 => have := Hlen.out; omega
        case c5 => simp; omega
        intro v' w3 hown' hgrow _
        have Ow3 := Lib.hid (show w3.ownsRow w0.heap.size 9 1 v' (nmU os p (j + 1)).length (strs (nmU os p (j + 1))) by
          rw [nmU_yes Hq.out Hs.out]
          unfold strs
          rw [List.map_append, List.length_append]
          exact hown')
        have B3 := Lib.hid ((B1.out.alloc B1.out.size (.cells #[.string s] 9)).grown hgrow (by simp; have := B1.out.size; omega) (fun k hk => own_ge Ow.out hk))
        clear hown' hgrow
        go_wp2
        go_roundw
        case rel => exact ⟨j + 1, by go_num, Hlt.out, Ow3.out, B3.out⟩
        case measure => simp [intOf]; have := Hlt.out; omega
    · have hjn : j = n := by omega
      subst hjn
      go_wp2_with fail
      go_ret
      exact ⟨_, rfl, own_down Ow.out Kv.out.size, below_on Kv.out B1.out⟩
end Go.Proofs.Ytmfmpkihmadjmaa
