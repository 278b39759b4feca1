/- What is performed on names. -/
import Derived.Test.YtbmogecnepgnaaaDf
namespace Go.Proofs.Ytbmogecnepgnaaa
open Go.RowKit Go.Maps
set_option maxRecDepth 100000 in
set_option maxHeartbeats 4000000 in
theorem itself_any (v : Value) (w : World) : Calls Try.prog 57 #[v] w fun e w' => e = .returned v ∧ w' = w := by
  go_enter Try.func57, Try.ntmps57
  go_wp2_with fail
  go_ret
  exact ⟨rfl, rfl⟩
abbrev iself : Value := .func (.func 57) #[] #[]
theorem ptrE_p (b : Nat) : ptrE (ptrV b) = some (pD b, []) := rfl
set_option maxRecDepth 100000 in
set_option maxHeartbeats 4000000 in
theorem cre_any (s : ByteArray) (b mm n : Nat) (D : Mp) (w : World) (h : w.ownsMap Try.prog 9 ptrE mm n D) (hn : n < 1000000) (hs : s.size ≤ maxLen) :
    Calls Try.prog 43 #[.agg #[.string s, ptrV b], .map (some mm), iself] w fun e w' => (∃ v, e = .returned v) ∧ w'.ownsMap Try.prog 9 ptrE mm (n + 1) (D.put (kS s) (pD b)) ∧ w.grownBy w' (some mm) := by
  have hml := h.lt
  have h1 := h.alloc (.cells #[.string s, ptrV b] 83)
  have C1 := Cells.new w #[.string s, ptrV b] 83
  have g1 := World.grownBy_alloc w (.cells #[.string s, ptrV b] 83) (some mm)
  obtain ⟨w1, hw1⟩ : ∃ u, w.alloc (.cells #[.string s, ptrV b] 83) = u := ⟨_, rfl⟩
  rw [hw1] at h1 C1 g1
  have H1 := Lib.hid h1
  have HC := Lib.hid C1
  have G1 := Lib.hid g1
  clear h h1 C1 g1
  go_enter Try.func43, Try.ntmps43
  go_upto_region 1 with fail
  have HS := Lib.hid (fun w' (hb : Below w1.heap.size w1 w') => (show w'.cell? ⟨w.heap.size, 0, none⟩ = some (.string s) ∧ w'.cell? ⟨w.heap.size, 1, none⟩ = some (ptrV b) from ⟨(HC.out.keep hb).at_ 0, (HC.out.keep hb).at_ 1⟩))
  refine Till.begin 7 (fun w' => w'.cell? ⟨w.heap.size, 0, none⟩ = some (.string s) ∧ w'.cell? ⟨w.heap.size, 1, none⟩ = some (ptrV b)) (by kernel_rfl) (HS.out _ (Below.refl _ _).drew) (fun hH => ?_)
  clear hH
  have HB0 := Lib.hid (Below.refl w1.heap.size w1).drew
  have HM := Lib.hid (show w1.drew.ownsMap Try.prog 9 ptrE mm n D from H1.out.drew)
  have HG := Lib.hid (show w.grownBy w1.drew (some mm) from ⟨G1.out.os, G1.out.tape, G1.out.output, G1.out.size, G1.out.block⟩)
  generalize w1.drew = V0 at HB0 HM HG ⊢
  try simp only [List.setIfInBounds_toArray, List.set_cons_zero, List.set_cons_succ]
  refine Till.tL 0 [7] 6 (.map (some mm)) (HS.out _ HB0.out) ?_
  try simp only [Act.put, List.setIfInBounds_toArray, List.set_cons_zero, List.set_cons_succ]
  refine Till.tL 1 [2, 7] 7 (.pointer (some ⟨w.heap.size, 0, none⟩)) (HS.out _ HB0.out) ?_
  try simp only [Act.put, List.setIfInBounds_toArray, List.set_cons_zero, List.set_cons_succ]
  refine Till.tL 2 [7] 8 (.string s) (HS.out _ HB0.out) ?_
  try simp only [Act.put, List.setIfInBounds_toArray, List.set_cons_zero, List.set_cons_succ]
  refine Till.tL 3 [6, 7] 9 (.func (.func 57) #[] #[]) (HS.out _ HB0.out) ?_
  try simp only [Act.put, List.setIfInBounds_toArray, List.set_cons_zero, List.set_cons_succ]
  refine Till.tL 4 [5, 6, 7] 10 (.pointer (some ⟨w.heap.size, 1, none⟩)) (HS.out _ HB0.out) ?_
  try simp only [Act.put, List.setIfInBounds_toArray, List.set_cons_zero, List.set_cons_succ]
  refine Till.tL 5 [6, 7] 11 (ptrV b) (HS.out _ HB0.out) ?_
  try simp only [Act.put, List.setIfInBounds_toArray, List.set_cons_zero, List.set_cons_succ]
  refine Till.one (i := 6) (by kernel_rfl) rfl (fun K hK => ?_)
  go_simp
  refine (itself_any (ptrV b) V0).mono ?_
  rintro e V1 ⟨rfl, rfl⟩
  refine hK.out _ _ (fun _ => HS.out _ HB0.out) ?_
  clear hK K
  try simp only [List.setIfInBounds_toArray, List.set_cons_zero, List.set_cons_succ]
  obtain ⟨w', hrun, hown, hgr⟩ := HM.out.update lawS Try.underlying68 (by unfold maxLen; omega) (keyS s hs) (ptrE_p b)
  refine Till.one (i := 7) (by kernel_rfl) rfl (fun K hK => ?_)
  go_simp
  refine hK.out _ _ (fun h => absurd h (by simp)) ?_
  clear hK K hrun
  try simp only [List.setIfInBounds_toArray, List.set_cons_zero, List.set_cons_succ]
  refine Till.done (by kernel_rfl) ?_ _
  have HF := Lib.hid (grown_trans HG.out hgr)
  have HO := Lib.hid hown
  clear hown hgr
  go_wp2_with fail
  go_end0
  exact ⟨⟨_, rfl⟩, HO.out, HF.out⟩
set_option maxRecDepth 100000 in
set_option maxHeartbeats 4000000 in
theorem rem_any (s : ByteArray) (mm n : Nat) (D : Mp) (w : World) (h : w.ownsMap Try.prog 9 ptrE mm n D) (hs : s.size ≤ maxLen) :
    Calls Try.prog 52 #[.agg #[.string s], .map (some mm), iself] w fun e w' => (∃ v, e = .returned v) ∧ w'.ownsMap Try.prog 9 ptrE mm n (D.del (kS s)) ∧ w.grownBy w' (some mm) := by
  have H1 := Lib.hid (h.alloc (.cells #[.string s] 94))
  have G1 := Lib.hid (World.grownBy_alloc w (.cells #[.string s] 94) (some mm))
  clear h
  go_enter Try.func52, Try.ntmps52
  go_wp2_with (first
    | (at_delete; refine wpList_delete_own _ rfl _ _ 68 9 rfl 76 lawS Try.underlying68 ptrE mm n D rfl H1.out _ _ rfl (keyS s hs) ?_; intro w1 hown1 hturn1)
    | go_in)
  have HO := Lib.hid hown1
  have HF := Lib.hid (grown_trans G1.out hturn1.grown)
  clear hown1 hturn1
  go_wp2_with fail
  go_end0
  exact ⟨⟨_, rfl⟩, HO.out, HF.out⟩
set_option maxRecDepth 100000 in
set_option maxHeartbeats 4000000 in
theorem ren_any (s t : ByteArray) (mm n : Nat) (D : Mp) (w : World) (h : w.ownsMap Try.prog 9 ptrE mm n D) (hn : n < 1000000) (hs : s.size ≤ maxLen) (ht : t.size ≤ maxLen) :
    Calls Try.prog 51 #[.agg #[.string s, .string t], .map (some mm), iself] w fun e w' => (∃ v, e = .returned v) ∧ w'.ownsMap Try.prog 9 ptrE mm (n + 1) ((D.del (kS s)).put (kS t) (D.atKey (kS s) zD)) ∧ w.grownBy w' (some mm) := by
  have h1 := h.alloc (.cells #[.string s, .string t] 92)
  have C1 := Cells.new w #[.string s, .string t] 92
  have hml := h.lt
  obtain ⟨v, ps, hrun, hv⟩ := h1.lookup lawS Try.underlying68 (zeroP _) (zd := zD) (zp := []) rfl (keyS s hs)
  have G1 := Lib.hid (World.grownBy_alloc w (.cells #[.string s, .string t] 92) (some mm))
  have s1 : (w.alloc (.cells #[.string s, .string t] 92)).heap.size = w.heap.size + 1 := by simp
  obtain ⟨w1, hw1⟩ : ∃ u, w.alloc (.cells #[.string s, .string t] 92) = u := ⟨_, rfl⟩
  rw [hw1] at h1 C1 G1 hrun s1
  have H1 := Lib.hid h1
  have HC := Lib.hid C1
  have HV := Lib.hid hv
  have c0 := C1.at_ 0
  have c1 := C1.at_ 1
  simp only [List.getElem?_cons_zero, List.getElem?_cons_succ] at c0 c1
  clear h h1 C1 hv
  go_enter Try.func51, Try.ntmps51
  go_wp2_with (first
    | (at_delete; refine wpList_delete_own _ rfl _ _ 68 9 rfl 76 lawS Try.underlying68 ptrE mm n D rfl H1.out _ _ rfl (keyS s hs) ?_; intro w2 hown2 hturn2; have d1 := (HC.out.grown hturn2.grown (by omega)).at_ 1; simp only [List.getElem?_cons_zero, List.getElem?_cons_succ] at d1; have HO2 := Lib.hid hown2; have G2 := Lib.hid (grown_trans G1.out hturn2.grown); clear hown2 hturn2)
    | (at_mapUpdate; refine wpList_mapUpdate_own _ rfl _ _ _ 68 rfl 9 76 lawS Try.underlying68 ptrE mm n _ rfl HO2.out (by unfold maxLen; omega) _ _ _ rfl rfl (keyS t ht) _ ps HV.out ?_; intro w3 hown3 hg3)
    | go_in)
  have HO := Lib.hid hown3
  have HF := Lib.hid (grown_trans G2.out hg3)
  clear hown3 hg3
  go_wp2_with fail
  go_end0
  exact ⟨⟨_, rfl⟩, HO.out, HF.out⟩
def fndE (s : St) (name : ByteArray) : Int := if s.down then 18 else if Maps.has s.D1 (kS name) then 0 else 10
set_option maxRecDepth 100000 in
set_option maxHeartbeats 4000000 in
theorem find_any {w : World} {B p : Nat} {m : Mem} {s : St} (h : DM w B p m s) (hr : Refs s.F s.D1) (name : ByteArray) (hs : name.size ≤ maxLen) :
    Calls Try.prog 50 #[ptrV p, .string name] w fun e w' => ∃ v, e = .returned (.tuple #[v, .int .i64 (fndE s name)]) ∧ w' = w ∧ (fndE s name = 0 → ∃ f ∈ s.F, v = ptrV f.b ∧ s.D1.atKey (kS name) zD = pD f.b) := by
  obtain ⟨_, c1, _, _, _, _, _⟩ := h.at4
  have HK := Lib.hid (check_any h)
  have hown := h.con.nm
  obtain ⟨v, ps, hrun, hv⟩ := hown.look_ok lawS Try.underlying68 (zeroP _) (zd := zD) (zp := []) rfl (keyS name hs)
  have Hr := Lib.hid hr
  clear h hown hr
  unfold fndE
  by_cases hd : s.down = true
  · have e1 : chk s = 18 := by unfold chk; rw [if_pos hd]
    rw [e1] at HK
    rw [if_pos hd]
    clear hrun hv
    go_enter Try.func50, Try.ntmps50
    go_wp2_with fail
    refine HK.out.mono ?_
    rintro e w2 ⟨rfl, rfl⟩
    go_wp2_with fail
    go_ret2
    exact ⟨.pointer none, rfl, rfl, fun h => absurd h (by decide)⟩
  · have e1 : chk s = 0 := by unfold chk; rw [if_neg hd]
    rw [e1] at HK
    rw [if_neg hd]
    by_cases hh : Maps.has s.D1 (kS name) = true
    · obtain ⟨f, hf, hfe⟩ := Hr.out _ hh
      rw [hh] at hrun
      rw [hfe] at hv
      have hve := ptrE_inv hv
      subst hve
      rw [if_pos hh]
      clear hh hd
      go_enter Try.func50, Try.ntmps50
      go_wp2_with fail
      refine HK.out.mono ?_
      rintro e w2 ⟨rfl, rfl⟩
      go_wp2_with fail
      go_ret2
      exact ⟨ptrV f.b, rfl, rfl, fun _ => ⟨f, hf, rfl, hfe⟩⟩
    · have hh' : Maps.has s.D1 (kS name) = false := by simpa using hh
      rw [hh'] at hrun
      rw [if_neg hh]
      clear hh hh' hd
      go_enter Try.func50, Try.ntmps50
      go_wp2_with fail
      refine HK.out.mono ?_
      rintro e w2 ⟨rfl, rfl⟩
      go_wp2_with fail
      go_ret2
      exact ⟨.pointer none, rfl, rfl, fun h => absurd h (by decide)⟩
end Go.Proofs.Ytbmogecnepgnaaa
