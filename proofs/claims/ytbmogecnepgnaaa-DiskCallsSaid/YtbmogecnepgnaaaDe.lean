/- New, check, count. -/
import Derived.Carry
import Derived.Test.YtbmogecnepgnaaaDd
namespace Go.Proofs.Ytbmogecnepgnaaa
open Go.RowKit Go.Maps
def nilM : Nat → Value := fun _ => .slice none 0 0
def newS (c : Nat) : St := ⟨c, .map [], .map [], [], false, false, 0, [], noR⟩
set_option maxRecDepth 100000 in
set_option maxHeartbeats 4000000 in
theorem new_ok (c : Nat) (hc : c ≤ 16777216) (w : World) : Calls Try.prog 13 #[.int .i64 (c : Nat)] w fun e w' => ∃ p m, e = .returned (.tuple #[ptrV p, .int .i64 0]) ∧ DM w' w.heap.size p m (newS c) ∧ m.n1 = 0 ∧ m.n2 = 0 ∧ Below w.heap.size w w' := by
  have hmm := @run_makeMap Try.prog
  have t0 : ¬ (c : Int) < 0 := by omega
  have t1 : ¬ (16777216 : Int) < (c : Int) := by omega
  have t2 : decide ((16777216 : Int) < (c : Int)) = false := decide_eq_false t1
  go_enter Try.func13, Try.ntmps13
  go_wp2_with fail
  go_ret2
  have b1 := (Below.refl w.heap.size w).alloc (Nat.le_refl _) (.map #[] 0)
  have m1 := World.ownsMap_made w Try.prog 9 ptrE
  have s1 : (w.alloc (.map #[] 0)).heap.size = w.heap.size + 1 := by simp
  have m2 := World.ownsMap_made (w.alloc (.map #[] 0)) Try.prog 9 ptrE
  rw [s1] at m2
  have m1' := m1.alloc (.map #[] 0)
  have s2 : ((w.alloc (.map #[] 0)).alloc (.map #[] 0)).heap.size = w.heap.size + 1 + 1 := by simp
  have b2 := b1.alloc (by omega) (.map #[] 0)
  obtain ⟨w2, hw2⟩ : ∃ u, (w.alloc (.map #[] 0)).alloc (.map #[] 0) = u := ⟨_, rfl⟩
  rw [hw2] at m1' m2 s2 b2 ⊢
  have b3 := b2.alloc (by omega) (.cells #[.int .i64 (c : Nat), .map (some w.heap.size), .map (some (w.heap.size + 1)), .slice none 0 0, .bool false, .bool false, .int .i64 0] 71)
  have o3 := heap_alloc_new w2 (.cells #[.int .i64 (c : Nat), .map (some w.heap.size), .map (some (w.heap.size + 1)), .slice none 0 0, .bool false, .bool false, .int .i64 0] 71)
  rw [s2] at o3
  refine ⟨w.heap.size + 1 + 1, by simp, ⟨w.heap.size, w.heap.size + 1, 0, 0, .slice none 0 0, nilM⟩, ⟨o3, by omega, ⟨m1'.alloc _, m2.alloc _, World.ownsRow_nil _ _ _ _, fun f hf => absurd hf (by simp [newS]), List.Pairwise.nil, fun f hf => absurd hf (by simp [newS]), by show w.heap.size ≠ w.heap.size + 1; omega, Nat.le_refl _, by show w.heap.size ≤ w.heap.size + 1; omega⟩, Fr.none _⟩, rfl, rfl, b3⟩
set_option maxRecDepth 100000 in
set_option maxHeartbeats 4000000 in
theorem new_bad (c : Int) (hc : c < 0 ∨ 16777216 < c) (w : World) : Calls Try.prog 13 #[.int .i64 c] w fun e w' => e = .returned (.tuple #[.pointer none, .int .i64 2]) ∧ w' = w := by
  rcases hc with hc | hc
  · have t0 : decide (c < 0) = true := decide_eq_true hc
    go_enter Try.func13, Try.ntmps13
    go_wp2_with fail
    go_ret2
    exact ⟨rfl, rfl⟩
  · have t0 : decide (c < 0) = false := decide_eq_false (by omega)
    have t0' : ¬ c < 0 := by omega
    have t1 : decide ((16777216 : Int) < c) = true := decide_eq_true hc
    go_enter Try.func13, Try.ntmps13
    go_wp2_with fail
    go_ret2
    exact ⟨rfl, rfl⟩
set_option maxRecDepth 100000 in
set_option maxHeartbeats 4000000 in
theorem check_nil (w : World) : Calls Try.prog 39 #[.pointer none] w fun e w' => e = .returned (.int .i64 1) ∧ w' = w := by
  go_enter Try.func39, Try.ntmps39
  go_wp2_with fail
  go_ret
  exact ⟨rfl, rfl⟩
def chk (s : St) : Int := if s.down then 18 else 0
/-- The cells of a disk, for a walk. -/
theorem DM.at4 {w : World} {B p : Nat} {m : Mem} {s : St} (h : DM w B p m s) : w.cell? ⟨p, 0, none⟩ = some (.int .i64 (s.cap : Nat)) ∧ w.cell? ⟨p, 1, none⟩ = some (.map (some m.mn)) ∧ w.cell? ⟨p, 2, none⟩ = some (.map (some m.md)) ∧ w.cell? ⟨p, 3, none⟩ = some m.pv ∧ w.cell? ⟨p, 4, none⟩ = some (.bool s.down) ∧ w.cell? ⟨p, 5, none⟩ = some (.bool s.lim) ∧ w.cell? ⟨p, 6, none⟩ = some (.int .i64 (s.left : Nat)) :=
  ⟨h.cells.at_ 0, h.cells.at_ 1, h.cells.at_ 2, h.cells.at_ 3, h.cells.at_ 4, h.cells.at_ 5, h.cells.at_ 6⟩
set_option maxRecDepth 100000 in
set_option maxHeartbeats 4000000 in
theorem check_any {w : World} {B p : Nat} {m : Mem} {s : St} (h : DM w B p m s) : Calls Try.prog 39 #[ptrV p] w fun e w' => e = .returned (.int .i64 (chk s)) ∧ w' = w := by
  obtain ⟨_, _, _, _, c4, _, _⟩ := h.at4
  clear h
  unfold chk
  obtain ⟨d, hd⟩ : ∃ d, s.down = d := ⟨_, rfl⟩
  rw [hd] at c4 ⊢
  clear hd
  cases d
  all_goals
    go_enter Try.func39, Try.ntmps39
    go_wp2_with fail
    go_ret
    exact ⟨rfl, rfl⟩
def cntS (s : St) : St := if s.lim then (if s.left = 0 then { s with down := true } else { s with left := s.left - 1 }) else s
def cntE (s : St) : Int := if s.lim then (if s.left = 0 then 32 else 0) else 0
set_option maxRecDepth 100000 in
set_option maxHeartbeats 4000000 in
theorem count_any {w : World} {B p : Nat} {m : Mem} {s : St} (h : DM w B p m s) (hl : s.left ≤ 4611686018427387904) : Calls Try.prog 44 #[ptrV p] w fun e w' => e = .returned (.int .i64 (cntE s)) ∧ DM w' B p m (cntS s) ∧ Below B w w' := by
  obtain ⟨_, _, _, _, c4, c5, c6⟩ := h.at4
  have y4 := h.cells.fz 4
  have y6 := h.cells.fz 6
  have hlow := h.low
  have H := Lib.hid h
  clear h
  by_cases hlim : s.lim = true
  · rw [hlim] at c5
    by_cases h0 : s.left = 0
    · rw [h0] at c6
      have HD := Lib.hid (show DM (w.setCell ⟨p, 4, none⟩ (.bool true)) B p m { s with down := true } from H.out.set (s' := { s with down := true }) (m' := m) 4 (.bool true) H.out.con rfl)
      have HB := Lib.hid ((Below.refl B w).setCell (p := ⟨p, 4, none⟩) hlow (.bool true))
      go_enter Try.func44, Try.ntmps44
      go_wp2_with fail
      go_ret
      unfold cntE cntS
      rw [if_pos hlim, if_pos h0, if_pos hlim, if_pos h0]
      exact ⟨rfl, HD.out, HB.out⟩
    · have e0 : ((s.left : Int) == 0) = false := by rw [beq_eq_false_iff_ne]; omega
      have e1 : ¬ ((s.left : Int) = 0) := by omega
      have e2 : IntKind.i64.wrap ((s.left : Int) - 1) = ((s.left - 1 : Nat) : Int) := by rw [show (s.left : Int) - 1 = ((s.left - 1 : Nat) : Int) by omega]; exact IntWalk.i64_in _ (by omega)
      have HD := Lib.hid (show DM (w.setCell ⟨p, 6, none⟩ (.int .i64 ((s.left - 1 : Nat) : Int))) B p m { s with left := s.left - 1 } from H.out.set (s' := { s with left := s.left - 1 }) (m' := m) 6 (.int .i64 ((s.left - 1 : Nat) : Int)) H.out.con rfl)
      have HB := Lib.hid ((Below.refl B w).setCell (p := ⟨p, 6, none⟩) hlow (.int .i64 ((s.left - 1 : Nat) : Int)))
      go_enter Try.func44, Try.ntmps44
      go_wp2_with fail
      go_ret
      unfold cntE cntS
      rw [if_pos hlim, if_neg h0, if_pos hlim, if_neg h0]
      exact ⟨rfl, HD.out, HB.out⟩
  · have hlim : s.lim = false := by simpa using hlim
    rw [hlim] at c5
    go_enter Try.func44, Try.ntmps44
    go_wp2_with fail
    go_ret
    unfold cntE cntS
    rw [hlim]
    exact ⟨rfl, H.out, Below.refl _ _⟩
end Go.Proofs.Ytbmogecnepgnaaa
