/- Names. -/
import Derived.Test.YtbmogecnepgnaaaDq
namespace Go.Proofs.Ytbmogecnepgnaaa
open Go.RowKit Go.Maps Go.Shelf
theorem keys_call (b : Nat) (w : World) : Calls Try.prog 55 #[.map (some b)] w fun e w' => e = .returned (.func (.func 68) #[] #[.pointer (some ⟨w.heap.size, 0, none⟩)]) ∧ w' = w.alloc (.cells #[.map (some b)] 68) :=
  callsIn_wide.1 (Try.maps_Keys_55 (some b) w)
theorem sorted_call {w : World} {b n : Nat} {D : Mp} (h : w.ownsMap Try.prog 9 ptrE b n D) (hn : n ≤ 1000000) :
    Calls Try.prog 54 #[.func (.func 68) #[] #[.pointer (some ⟨w.heap.size, 0, none⟩)]] (w.alloc (.cells #[.map (some b)] 68)) fun e w' => ∃ (v : Value) (ss : List (List UInt8)), e = .returned v ∧ ss.Perm (strKeys D) ∧ ss.Pairwise (fun a b => decide (a ≤ b) = true) ∧ w'.ownsRow w.heap.size 9 1 v ss.length (ss.map encStr) ∧ Below w.heap.size w w' := by
  have hz := h.size_le
  refine (callsIn_wide.1 (Try.slices_Sorted_keys_54_55 b n D ptrE w h (by unfold maxLen; omega) (by omega))).mono ?_
  rintro e w' ⟨v, ss, rfl, hp, ho, _, hb⟩
  have hs1 : (w.alloc (.cells #[.map (some b)] 68)).heap.size = w.heap.size + 1 := by simp
  refine ⟨v, ss.mergeSort (fun x y => decide (x ≤ y)), rfl, (List.mergeSort_perm ss _).trans hp, List.pairwise_mergeSort (fun a b c h1 h2 => ?_) (fun a b => ?_) ss, ?_, ?_⟩
  · simp only [decide_eq_true_eq] at h1 h2 ⊢
    exact List.le_trans h1 h2
  · simp only [Bool.or_eq_true, decide_eq_true_eq]
    exact List.le_total a b
  · rw [List.length_mergeSort]
    exact own_down ho (by omega)
  · exact ((Below.refl w.heap.size w).alloc (Nat.le_refl _) _).trans (hb.mono (by omega))
/-- A slice with the names of a disk, in their order. -/
def NmQ (s : St) (v : Value) (w w' : World) : Prop := ∃ ss : List (List UInt8), (if s.down then ss = [] else ss.Perm (strKeys s.D1)) ∧ ss.Pairwise (fun a b => decide (a ≤ b) = true) ∧ w'.ownsRow w.heap.size 9 1 v ss.length (ss.map encStr) ∧ Below w.heap.size w w'
set_option maxRecDepth 100000 in
set_option maxHeartbeats 8000000 in
theorem names_any {w : World} {B p c : Nat} {s : St} (hD : Disk w B p s c) (hc : c ≤ 1000000) :
    Calls Try.prog 31 #[ptrV p] w fun e w' => ∃ v, e = .returned v ∧ NmQ s v w w' := by
  obtain ⟨m, h, hl, hn⟩ := hD
  have HK := Lib.hid (check_any h)
  obtain ⟨_, c1, _, _, _, _, _⟩ := h.at4
  have HQ := Lib.hid (keys_call m.mn w)
  have HO := Lib.hid (sorted_call h.con.nm (by omega))
  clear h hl hn
  by_cases hd : s.down = true
  · have e1 : chk s = 18 := by unfold chk; rw [if_pos hd]
    rw [e1] at HK
    have Hd := Lib.hid hd
    clear e1 hd
    go_enter Try.func31, Try.ntmps31
    go_wp2_with fail
    refine HK.out.mono ?_
    rintro e w2 ⟨rfl, rfl⟩
    go_wp2_with fail
    go_ret
    exact ⟨_, rfl, [], by rw [if_pos Hd.out], List.Pairwise.nil, World.ownsRow_nil _ _ _ _, Below.refl _ _⟩
  · have e1 : chk s = 0 := by unfold chk; rw [if_neg hd]
    rw [e1] at HK
    have Hd := Lib.hid hd
    clear e1 hd
    go_enter Try.func31, Try.ntmps31
    go_wp2_with fail
    refine HK.out.mono ?_
    rintro e w2 ⟨rfl, rfl⟩
    go_wp2_with fail
    refine HQ.out.mono ?_
    rintro e w3 ⟨rfl, rfl⟩
    go_wp2_with fail
    refine HO.out.mono ?_
    rintro e w4 ⟨v, ss, rfl, hp, hpw, ho, hb⟩
    have H2 := Lib.hid (⟨hp, hpw, ho, hb⟩ : _ ∧ _ ∧ _ ∧ _)
    clear hp hpw ho hb
    go_wp2_with fail
    go_ret
    exact ⟨_, rfl, ss, by rw [if_neg Hd.out]; exact H2.out.1, H2.out.2⟩
end Go.Proofs.Ytbmogecnepgnaaa
