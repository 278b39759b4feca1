/- Publish, Names. -/
import Derived.Test.YtbmogecnepgnaaaDo
import Derived.Test.YtbmogecnepgnaaaDs
namespace Go.Proofs.Ytbmogecnepgnaaa
open Go.RowKit Go.Maps Go.Shelf
theorem clone_map {w : World} {b n : Nat} {D : Mp} (h : w.ownsMap Try.prog 9 ptrE b n D) :
    Calls Try.prog 53 #[.map (some b)] w fun e w' => e = .returned (.map (some w.heap.size)) ∧ w'.ownsMap Try.prog 9 ptrE w.heap.size n D ∧ Below w.heap.size w w' := by
  have hcon := AnyW.maps_Clone_owns Try.clone53 9 ptrE b n D w h
  change Calls Try.prog 53 _ _ _ at hcon
  refine hcon.mono ?_
  rintro e w' ⟨rfl, h1, _, hB⟩
  exact ⟨rfl, h1, hB⟩
/-- The durable names are another map now, and nothing is pending. -/
theorem DM.fresh {w : World} {B p : Nat} {m : Mem} {s : St} (h : DM w B p m s) {q n : Nat} {D : Mp} (ho : w.ownsMap Try.prog 9 ptrE q n D) (hq : B ≤ q) (hne : m.mn ≠ q) :
    ∃ m', DM ((w.setCell ⟨p, 2, none⟩ (.map (some q))).setCell ⟨p, 3, none⟩ (.slice none 0 0)) B p m' { s with D2 := D, ops := [] } ∧ m'.n1 = m.n1 ∧ m'.n2 = n := by
  have h2 := h.set (s' := { s with D2 := D }) (m' := { m with md := q, n2 := n }) 2 (.map (some q)) { h.con with dm := ho, mne := hne, bd := hq } rfl
  have h3 := h2.set (s' := { s with D2 := D, ops := [] }) (m' := { m with md := q, n2 := n, pv := .slice none 0 0 }) 3 (.slice none 0 0) { h2.con with pd := World.ownsRow_nil _ _ _ _ } rfl
  exact ⟨_, h3, rfl, rfl⟩
def puE (s : St) : Int := if s.down then 18 else cntE s
def puS (s : St) : St := if s.down then s else if cntE s = 0 then { cntS s with D2 := s.D1, ops := [] } else cntS s
set_option maxRecDepth 100000 in
set_option maxHeartbeats 8000000 in
theorem publish_any {w : World} {B p c : Nat} {s : St} (hD : Disk w B p s c) :
    Calls Try.prog 28 #[ptrV p] w fun e w' => e = .returned (.int .i64 (puE s)) ∧ Disk w' B p (puS s) c ∧ Below B w w' := by
  have HD := Lib.hid hD
  obtain ⟨m, h, hl, hn⟩ := hD
  have HL := Lib.hid hl
  have Hn := Lib.hid hn
  have HK := Lib.hid (check_any h)
  have HC := Lib.hid (count_any h hl.ll)
  unfold puE puS
  clear h hl hn
  by_cases hd : s.down = true
  · have e1 : chk s = 18 := by unfold chk; rw [if_pos hd]
    rw [e1] at HK
    rw [if_pos hd, if_pos hd]
    clear e1 hd
    go_enter Try.func28, Try.ntmps28
    go_wp2_with fail
    refine HK.out.mono ?_
    rintro e w2 ⟨rfl, rfl⟩
    go_wp2_with fail
    go_ret
    exact ⟨rfl, HD.out, Below.refl _ _⟩
  · have e1 : chk s = 0 := by unfold chk; rw [if_neg hd]
    rw [e1] at HK
    rw [if_neg hd, if_neg hd]
    clear e1 hd
    rcases cnt_cases s with hc | hc
    · rw [hc] at HC ⊢
      rw [if_pos rfl]
      clear hc
      go_enter Try.func28, Try.ntmps28
      go_wp2_with fail
      refine HK.out.mono ?_
      rintro e w2 ⟨rfl, rfl⟩
      go_wp2_with fail
      refine HC.out.mono ?_
      rintro e w3 ⟨rfl, hD, hb⟩
      obtain ⟨_, c1, c2, c3, _, _, _⟩ := hD.at4
      have HM := Lib.hid hD
      have HB := Lib.hid hb
      have HO := Lib.hid (clone_map hD.con.nm)
      clear hD hb
      go_wp2_with fail
      refine HO.out.mono ?_
      rintro e w4 ⟨rfl, ho, hb4⟩
      have hmn := HM.out.con.nm.lt
      have h4 := HM.out.keep hb4
      have hlow := h4.low
      have hlt := row_lt HM.out.obj
      rw [(cntS_F s).2.1] at ho
      obtain ⟨m', h5, hm1, hm2⟩ := h4.fresh (q := w3.heap.size) ho (by omega) (by omega)
      have hL : DL { cntS s with D2 := s.D1, ops := [] } := { HL.out.cnt with t2 := HL.out.t1, r2 := by rw [(cntS_F s).1]; exact HL.out.r1, ok := trivial, run := by rw [(cntS_F s).2.1]; rfl, onm := fun o ho => absurd ho (by simp), ro := fun a b hab => absurd hab (by simp) }
      have HF := Lib.hid (show Disk ((w4.setCell ⟨p, 2, none⟩ (.map (some w3.heap.size))).setCell ⟨p, 3, none⟩ (.slice none 0 0)) B p { cntS s with D2 := s.D1, ops := [] } c from ⟨m', h5, hL, by rw [hm1]; exact Hn.out.1, by rw [hm2]; exact Hn.out.1, by rw [hm2]; exact Hn.out.1⟩)
      have HB2 := Lib.hid (((HB.out.trans (hb4.mono (by omega))).setCell (p := ⟨p, 2, none⟩) hlow (.map (some w3.heap.size))).setCell (p := ⟨p, 3, none⟩) hlow (.slice none 0 0))
      have y2 := h4.cells.fz 2
      have y3 := h4.cells.fz 3
      obtain ⟨_, d1, d2, d3, _, _, _⟩ := h4.at4
      clear h5 hL ho hb4 h4 HM c1 c2 c3 hmn
      go_wp2_with fail
      go_ret
      exact ⟨rfl, HF.out, HB2.out⟩
    · rw [hc] at HC ⊢
      rw [if_neg (by decide)]
      clear hc
      go_enter Try.func28, Try.ntmps28
      go_wp2_with fail
      refine HK.out.mono ?_
      rintro e w2 ⟨rfl, rfl⟩
      go_wp2_with fail
      refine HC.out.mono ?_
      rintro e w3 ⟨rfl, hD, hb⟩
      have hF := Lib.hid (show Disk w3 B p (cntS s) c from ⟨m, hD, HL.out.cnt, Hn.out.1, Hn.out.2.1, by rw [(cntS_F s).2.2.2.1]; exact Hn.out.2.2⟩)
      have hB := Lib.hid hb
      clear hD hb
      go_wp2_with fail
      go_ret
      exact ⟨rfl, hF.out, hB.out⟩
end Go.Proofs.Ytbmogecnepgnaaa
