/- Liaisons: what is read. -/
import Derived.Test.YtdpfoegcmngdfaaDoorLe
namespace Go.Proofs.YtdpfoegcmngdfaaDoor
open Go.RowKit
set_option maxRecDepth 100000 in
set_option maxHeartbeats 8000000 in
theorem read_bad (n : Int) (A : Option Addr) (m c : Nat) (B : Option Addr) (l d : Nat) (E : Int) (w : World) (hC : ∀ w', Below w.heap.size w w' → Calls Tryd.prog 12 #[gV n A m c] w' fun e w1 => e = .returned (.int .i64 E) ∧ Below w'.heap.size w' w1) (hE : E ≠ 0) :
    Calls Tryd.prog 47 #[gV n A m c, .slice B l d] w fun e w' => e = .returned (.tuple #[lvV fun _ => 0, .int .u64 0, .int .i64 E]) ∧ Below w.heap.size w w' := by
  have kv := ((Below.refl w.heap.size w).alloc (Nat.le_refl _) (.cells #[.int .i64 n, .slice A m c] 24)).alloc (by simp) (.cells (sets12 fun _ => 0).toArray 80)
  have P0 := (Cells.new w #[.int .i64 n, .slice A m c] 24).keep ((Below.refl _ _).alloc (Nat.le_refl _) (.cells (sets12 fun _ => 0).toArray 80))
  have R0 : Cells ((w.alloc (.cells #[.int .i64 n, .slice A m c] 24)).alloc (.cells (sets12 fun _ => 0).toArray 80)) (w.heap.size + 1) (sets12 fun _ => 0) := by simpa using Cells.new (w.alloc (.cells #[.int .i64 n, .slice A m c] 24)) (sets12 fun _ => 0).toArray 80
  have HC := Lib.hid (hC _ kv)
  have t0 : (E != 0) = true := by simpa using hE
  have g0 := P0.at_ 0
  have g1 := P0.at_ 1
  simp only [List.getElem?_cons_zero, List.getElem?_cons_succ] at g0 g1
  have kv := Lib.hid kv
  have R0 := Lib.hid R0
  clear hC hE P0
  go_enter Tryd.func47, Tryd.ntmps47
  go_wp2_with fail
  refine HC.out.mono ?_
  rintro e w1 ⟨rfl, hb1⟩
  have B1 := Lib.hid (below_on kv.out hb1)
  have R1 := R0.out.keep hb1
  clear hb1 g0 g1
  have y0 := R1.at_ 0
  have y1 := R1.at_ 1
  have y2 := R1.at_ 2
  have y3 := R1.at_ 3
  have y4 := R1.at_ 4
  have y5 := R1.at_ 5
  have y6 := R1.at_ 6
  have y7 := R1.at_ 7
  have y8 := R1.at_ 8
  have y9 := R1.at_ 9
  have y10 := R1.at_ 10
  have y11 := R1.at_ 11
  have yf0 := R1.fz 0
  have yf1 := R1.fz 1
  have yf2 := R1.fz 2
  have yf3 := R1.fz 3
  have yf4 := R1.fz 4
  have yf5 := R1.fz 5
  have yf6 := R1.fz 6
  have yf7 := R1.fz 7
  have yf8 := R1.fz 8
  have yf9 := R1.fz 9
  have yf10 := R1.fz 10
  have yf11 := R1.fz 11
  simp only [sets12, List.range, List.range.loop, List.map_cons, List.map_nil, List.getElem?_cons_zero, List.getElem?_cons_succ] at y0 y1 y2 y3 y4 y5 y6 y7 y8 y9 y10 y11
  clear R1
  go_wp2_with fail
  exact bodyPost_ret (v := .tuple #[lvV fun _ => 0, .int .u64 0, .int .i64 E]) (by simp [results, Tryd.results47, go_sem, y0, y1, y2, y3, y4, y5, y6, y7, y8, y9, y10, y11]) rfl ⟨rfl, ((((((((((((B1.out.setCell (p := ⟨w.heap.size + 1, 0, none⟩) (Nat.le_succ _) (.int .u64 ((0 : Nat) : Nat))).setCell (p := ⟨w.heap.size + 1, 1, none⟩) (Nat.le_succ _) (.int .u64 ((0 : Nat) : Nat))).setCell (p := ⟨w.heap.size + 1, 2, none⟩) (Nat.le_succ _) (.int .u64 ((0 : Nat) : Nat))).setCell (p := ⟨w.heap.size + 1, 3, none⟩) (Nat.le_succ _) (.int .u64 ((0 : Nat) : Nat))).setCell (p := ⟨w.heap.size + 1, 4, none⟩) (Nat.le_succ _) (.int .u64 ((0 : Nat) : Nat))).setCell (p := ⟨w.heap.size + 1, 5, none⟩) (Nat.le_succ _) (.int .u64 ((0 : Nat) : Nat))).setCell (p := ⟨w.heap.size + 1, 6, none⟩) (Nat.le_succ _) (.int .u64 ((0 : Nat) : Nat))).setCell (p := ⟨w.heap.size + 1, 7, none⟩) (Nat.le_succ _) (.int .u64 ((0 : Nat) : Nat))).setCell (p := ⟨w.heap.size + 1, 8, none⟩) (Nat.le_succ _) (.int .u64 ((0 : Nat) : Nat))).setCell (p := ⟨w.heap.size + 1, 9, none⟩) (Nat.le_succ _) (.int .u64 ((0 : Nat) : Nat))).setCell (p := ⟨w.heap.size + 1, 10, none⟩) (Nat.le_succ _) (.int .u64 ((0 : Nat) : Nat))).setCell (p := ⟨w.heap.size + 1, 11, none⟩) (Nat.le_succ _) (.int .u64 ((0 : Nat) : Nat)))⟩
set_option maxRecDepth 100000 in
set_option maxHeartbeats 8000000 in
theorem read_badS (n : Int) (A : Option Addr) (m c : Nat) (B : Option Addr) (d : Nat) (l : List Int) (w : World) (hC : ∀ w', Below w.heap.size w w' → Calls Tryd.prog 12 #[gV n A m c] w' fun e w1 => e = .returned (.int .i64 0) ∧ Below w'.heap.size w' w1) (hl : IL w B l) (hll : l.length ≤ 1000000) (hE : setE n l ≠ 0) :
    Calls Tryd.prog 47 #[gV n A m c, .slice B l.length d] w fun e w' => e = .returned (.tuple #[lvV fun _ => 0, .int .u64 0, .int .i64 (setE n l)]) ∧ Below w.heap.size w w' := by
  have kv := ((Below.refl w.heap.size w).alloc (Nat.le_refl _) (.cells #[.int .i64 n, .slice A m c] 24)).alloc (by simp) (.cells (sets12 fun _ => 0).toArray 80)
  have P0 := (Cells.new w #[.int .i64 n, .slice A m c] 24).keep ((Below.refl _ _).alloc (Nat.le_refl _) (.cells (sets12 fun _ => 0).toArray 80))
  have R0 : Cells ((w.alloc (.cells #[.int .i64 n, .slice A m c] 24)).alloc (.cells (sets12 fun _ => 0).toArray 80)) (w.heap.size + 1) (sets12 fun _ => 0) := by simpa using Cells.new (w.alloc (.cells #[.int .i64 n, .slice A m c] 24)) (sets12 fun _ => 0).toArray 80
  have HC := Lib.hid (hC _ kv)
  have t0 : (setE n l != 0) = true := by simpa using hE
  have HS := Lib.hid (fun w' (hb : Below w.heap.size w w') => checkSet_any n B d l w' (hl.keep hb) hll)
  obtain ⟨E, hE2⟩ : ∃ E, setE n l = E := ⟨_, rfl⟩
  rw [hE2] at t0 HS ⊢
  have g0 := P0.at_ 0
  have g1 := P0.at_ 1
  simp only [List.getElem?_cons_zero, List.getElem?_cons_succ] at g0 g1
  have kv := Lib.hid kv
  have R0 := Lib.hid R0
  have P0 := Lib.hid P0
  clear hC hE hE2 hl
  go_enter Tryd.func47, Tryd.ntmps47
  go_wp2_with fail
  refine HC.out.mono ?_
  rintro e w1 ⟨rfl, hb1⟩
  have B1 := Lib.hid (below_on kv.out hb1)
  have R1 := R0.out.keep hb1
  have P1 := P0.out.keep hb1
  clear hb1 g0 g1 P0
  have g0 := P1.at_ 0
  have g1 := P1.at_ 1
  simp only [List.getElem?_cons_zero, List.getElem?_cons_succ] at g0 g1
  have y0 := R1.at_ 0
  have y1 := R1.at_ 1
  have y2 := R1.at_ 2
  have y3 := R1.at_ 3
  have y4 := R1.at_ 4
  have y5 := R1.at_ 5
  have y6 := R1.at_ 6
  have y7 := R1.at_ 7
  have y8 := R1.at_ 8
  have y9 := R1.at_ 9
  have y10 := R1.at_ 10
  have y11 := R1.at_ 11
  have yf0 := R1.fz 0
  have yf1 := R1.fz 1
  have yf2 := R1.fz 2
  have yf3 := R1.fz 3
  have yf4 := R1.fz 4
  have yf5 := R1.fz 5
  have yf6 := R1.fz 6
  have yf7 := R1.fz 7
  have yf8 := R1.fz 8
  have yf9 := R1.fz 9
  have yf10 := R1.fz 10
  have yf11 := R1.fz 11
  simp only [sets12, List.range, List.range.loop, List.map_cons, List.map_nil, List.getElem?_cons_zero, List.getElem?_cons_succ] at y0 y1 y2 y3 y4 y5 y6 y7 y8 y9 y10 y11
  clear R1 P1
  go_wp2_with fail
  refine (HS.out _ B1.out).mono ?_
  rintro e w2 ⟨rfl, rfl⟩
  go_wp2_with fail
  exact bodyPost_ret (v := .tuple #[lvV fun _ => 0, .int .u64 0, .int .i64 E]) (by simp [results, Tryd.results47, go_sem, y0, y1, y2, y3, y4, y5, y6, y7, y8, y9, y10, y11]) rfl ⟨rfl, ((((((((((((B1.out.setCell (p := ⟨w.heap.size + 1, 0, none⟩) (Nat.le_succ _) (.int .u64 ((0 : Nat) : Nat))).setCell (p := ⟨w.heap.size + 1, 1, none⟩) (Nat.le_succ _) (.int .u64 ((0 : Nat) : Nat))).setCell (p := ⟨w.heap.size + 1, 2, none⟩) (Nat.le_succ _) (.int .u64 ((0 : Nat) : Nat))).setCell (p := ⟨w.heap.size + 1, 3, none⟩) (Nat.le_succ _) (.int .u64 ((0 : Nat) : Nat))).setCell (p := ⟨w.heap.size + 1, 4, none⟩) (Nat.le_succ _) (.int .u64 ((0 : Nat) : Nat))).setCell (p := ⟨w.heap.size + 1, 5, none⟩) (Nat.le_succ _) (.int .u64 ((0 : Nat) : Nat))).setCell (p := ⟨w.heap.size + 1, 6, none⟩) (Nat.le_succ _) (.int .u64 ((0 : Nat) : Nat))).setCell (p := ⟨w.heap.size + 1, 7, none⟩) (Nat.le_succ _) (.int .u64 ((0 : Nat) : Nat))).setCell (p := ⟨w.heap.size + 1, 8, none⟩) (Nat.le_succ _) (.int .u64 ((0 : Nat) : Nat))).setCell (p := ⟨w.heap.size + 1, 9, none⟩) (Nat.le_succ _) (.int .u64 ((0 : Nat) : Nat))).setCell (p := ⟨w.heap.size + 1, 10, none⟩) (Nat.le_succ _) (.int .u64 ((0 : Nat) : Nat))).setCell (p := ⟨w.heap.size + 1, 11, none⟩) (Nat.le_succ _) (.int .u64 ((0 : Nat) : Nat)))⟩
set_option maxRecDepth 100000 in
set_option maxHeartbeats 8000000 in
theorem read_ok (n : Nat) (A : Option Addr) (m c : Nat) (es : List (Nat × Nat)) (B : Option Addr) (d : Nat) (l : List Nat) (w : World) (hC : ∀ w', Below w.heap.size w w' → Calls Tryd.prog 12 #[gV n A m c] w' fun e w1 => e = .returned (.int .i64 0) ∧ Below w'.heap.size w' w1)
    (h : EL w A m (cast es)) (hm : m ≤ 4096) (hlo : Low 12 es) (hl : IL w B (zs l)) (hll : l.length ≤ 1000000) (hE : setE n (zs l) = 0) (hin : ∀ v ∈ l, v < 64) :
    Calls Tryd.prog 47 #[gV n A m c, .slice B l.length d] w fun e w' => e = .returned (.tuple #[lvV (adj es), .int .u64 (ofM l : Nat), .int .i64 0]) ∧ Below w.heap.size w w' := by
  have kv := ((Below.refl w.heap.size w).alloc (Nat.le_refl _) (.cells #[.int .i64 (n : Nat), .slice A m c] 24)).alloc (by simp) (.cells (sets12 fun _ => 0).toArray 80)
  have P0 := (Cells.new w #[.int .i64 (n : Nat), .slice A m c] 24).keep ((Below.refl _ _).alloc (Nat.le_refl _) (.cells (sets12 fun _ => 0).toArray 80))
  have R0 : Cells ((w.alloc (.cells #[.int .i64 (n : Nat), .slice A m c] 24)).alloc (.cells (sets12 fun _ => 0).toArray 80)) (w.heap.size + 1) (sets12 fun _ => 0) := by simpa using Cells.new (w.alloc (.cells #[.int .i64 (n : Nat), .slice A m c] 24)) (sets12 fun _ => 0).toArray 80
  have HC := Lib.hid (hC _ kv)
  have HS := fun w' (hb : Below w.heap.size w w') => checkSet_any n B d (zs l) w' (hl.keep hb) (by rw [zs_len]; exact hll)
  rw [hE] at HS
  have HO := Lib.hid (fun w' (hb : Below w.heap.size w w') => of_any B d l w' (hl.keep hb) hll hin)
  have HK := Lib.hid (fun w' (hb : Below w.heap.size w w') => linksOf_any n A m c es w' (h.keep hb) hlo hm)
  simp only [zs_len] at HS
  have HS := Lib.hid HS
  obtain ⟨L, hL⟩ : ∃ L, adj es = L := ⟨_, rfl⟩
  obtain ⟨s, hs⟩ : ∃ s, ofM l = s := ⟨_, rfl⟩
  rw [hL] at HK ⊢
  rw [hs] at HO ⊢
  have g0 := P0.at_ 0
  have g1 := P0.at_ 1
  simp only [List.getElem?_cons_zero, List.getElem?_cons_succ] at g0 g1
  have kv := Lib.hid kv
  have R0 := Lib.hid R0
  have P0 := Lib.hid P0
  clear hC hE hl h hlo hL hs hin
  go_enter Tryd.func47, Tryd.ntmps47
  go_wp2_with fail
  refine HC.out.mono ?_
  rintro e w1 ⟨rfl, hb1⟩
  have B1 := Lib.hid (below_on kv.out hb1)
  have R1 := Lib.hid (R0.out.keep hb1)
  have P1 := P0.out.keep hb1
  clear hb1 g0 g1 P0
  have g0 := P1.at_ 0
  have g1 := P1.at_ 1
  simp only [List.getElem?_cons_zero, List.getElem?_cons_succ] at g0 g1
  clear P1
  go_wp2_with fail
  refine (HS.out _ B1.out).mono ?_
  rintro e w2 ⟨rfl, rfl⟩
  go_wp2_with fail
  refine (HK.out _ B1.out).mono ?_
  rintro e w3 ⟨rfl, hb3⟩
  have B3 := Lib.hid (below_on B1.out hb3)
  have R3 := R1.out.keep hb3
  clear hb3 g0 g1
  have y0 := R3.at_ 0
  have y1 := R3.at_ 1
  have y2 := R3.at_ 2
  have y3 := R3.at_ 3
  have y4 := R3.at_ 4
  have y5 := R3.at_ 5
  have y6 := R3.at_ 6
  have y7 := R3.at_ 7
  have y8 := R3.at_ 8
  have y9 := R3.at_ 9
  have y10 := R3.at_ 10
  have y11 := R3.at_ 11
  have yf0 := R3.fz 0
  have yf1 := R3.fz 1
  have yf2 := R3.fz 2
  have yf3 := R3.fz 3
  have yf4 := R3.fz 4
  have yf5 := R3.fz 5
  have yf6 := R3.fz 6
  have yf7 := R3.fz 7
  have yf8 := R3.fz 8
  have yf9 := R3.fz 9
  have yf10 := R3.fz 10
  have yf11 := R3.fz 11
  simp only [sets12, List.range, List.range.loop, List.map_cons, List.map_nil, List.getElem?_cons_zero, List.getElem?_cons_succ] at y0 y1 y2 y3 y4 y5 y6 y7 y8 y9 y10 y11
  clear R3
  go_wp2_with fail
  refine (HO.out _ B3.out).mono ?_
  rintro e w4 ⟨rfl, rfl⟩
  go_wp2_with fail
  exact bodyPost_ret (v := .tuple #[lvV L, .int .u64 (s : Nat), .int .i64 0]) (by simp [results, Tryd.results47, go_sem, y0, y1, y2, y3, y4, y5, y6, y7, y8, y9, y10, y11]) rfl ⟨rfl, ((((((((((((B3.out.setCell (p := ⟨w.heap.size + 1, 0, none⟩) (Nat.le_succ _) (.int .u64 (L 0 : Nat))).setCell (p := ⟨w.heap.size + 1, 1, none⟩) (Nat.le_succ _) (.int .u64 (L 1 : Nat))).setCell (p := ⟨w.heap.size + 1, 2, none⟩) (Nat.le_succ _) (.int .u64 (L 2 : Nat))).setCell (p := ⟨w.heap.size + 1, 3, none⟩) (Nat.le_succ _) (.int .u64 (L 3 : Nat))).setCell (p := ⟨w.heap.size + 1, 4, none⟩) (Nat.le_succ _) (.int .u64 (L 4 : Nat))).setCell (p := ⟨w.heap.size + 1, 5, none⟩) (Nat.le_succ _) (.int .u64 (L 5 : Nat))).setCell (p := ⟨w.heap.size + 1, 6, none⟩) (Nat.le_succ _) (.int .u64 (L 6 : Nat))).setCell (p := ⟨w.heap.size + 1, 7, none⟩) (Nat.le_succ _) (.int .u64 (L 7 : Nat))).setCell (p := ⟨w.heap.size + 1, 8, none⟩) (Nat.le_succ _) (.int .u64 (L 8 : Nat))).setCell (p := ⟨w.heap.size + 1, 9, none⟩) (Nat.le_succ _) (.int .u64 (L 9 : Nat))).setCell (p := ⟨w.heap.size + 1, 10, none⟩) (Nat.le_succ _) (.int .u64 (L 10 : Nat))).setCell (p := ⟨w.heap.size + 1, 11, none⟩) (Nat.le_succ _) (.int .u64 (L 11 : Nat)))⟩
end Go.Proofs.YtdpfoegcmngdfaaDoor
