/- Liaisons: what is known. -/
import Derived.Test.YtdpfoegcmngdfaaDoorLz
namespace Go.Proofs.YtdpfoegcmngdfaaDoor
open Go.RowKit
def lK : List (Nat × Nat) := [(0, 1), (1, 0), (1, 2), (2, 1), (2, 3), (3, 2)]
theorem lK_make : makeL 4 lK = lK := by decide +kernel
theorem lK_low : Low 4 lK := by unfold Low; decide
theorem lK_ok : OkL 4 lK := ⟨low_up lK_low (by omega), by decide +kernel, by omega, by decide +kernel⟩
theorem lK_set11 : setE ((4 : Nat) : Int) (zs (bitsOf 11)) = 0 := by decide +kernel
theorem lK_set15 : setE ((4 : Nat) : Int) (zs (bitsOf 15)) = 0 := by decide +kernel
theorem lK_pieces : (pcsM (adj lK) 11).map bitsOf = [[0, 1], [3]] := by decide +kernel
theorem lK_con : conM (adj lK) 15 = true := by decide +kernel
theorem lK_cuts : cutsA (adj lK) 15 = [([0], [1, 2, 3]), ([0, 1], [2, 3]), ([0, 1, 2], [3])] := by decide +kernel
theorem lK_joints : joM (adj lK) 15 (bitsOf 15) = [1, 2] := by decide +kernel
def gK : List Grp := [(⟨#[97]⟩, [0, 1]), (⟨#[98]⟩, [0, 1, 2]), (⟨#[99]⟩, [3, 4])]
theorem gK_ok : grpsE 5 gK = 0 := by decide +kernel
theorem gK_p0 : parS gK 0 3 = 1 ∧ parS gK 1 3 = -1 ∧ parS gK 2 3 = -1 := by decide +kernel
theorem gK_par : pI 3 (fun i => parS gK i 3) = [.int .i64 1, .int .i64 (-1), .int .i64 (-1)] := by
  show [Value.int .i64 (parS gK 0 3), .int .i64 (parS gK 1 3), .int .i64 (parS gK 2 3)] = _
  rw [gK_p0.1, gK_p0.2.1, gK_p0.2.2]
theorem bits11 : bitsOf 11 = [0, 1, 3] := by decide +kernel
theorem bits15 : bitsOf 15 = [0, 1, 2, 3] := by decide +kernel
attribute [local irreducible] setE bitsOf pcsM conM cutsA joM
theorem known_pieces {B : Option Addr} {d q : Nat} {P : Option Addr} {w : World} (h : EL w B 6 (cast lK)) (hl : IL w P (zs (bitsOf 11))) (hw : Good w) :
    Calls Tryd.prog 15 #[gV 4 B 6 d, .slice P 3 q] w fun e w' => (∃ P q, e = .returned (.tuple #[.slice P 2 q, .int .i64 0]) ∧ LL 0 w' P [[0, 1], [3]]) ∧ Below w.heap.size w w' := by
  have h1 := pieces_s (n := 4) (c := d) (d := q) (s := 11) lK_ok h (by decide) hl lK_set11 (by decide) hw
  rw [lK_pieces, bits11] at h1
  exact h1
theorem known_cuts {B : Option Addr} {d q : Nat} {P : Option Addr} {w : World} (h : EL w B 6 (cast lK)) (hl : IL w P (zs (bitsOf 15))) (hw : Good w) :
    Calls Tryd.prog 27 #[gV 4 B 6 d, .slice P 4 q] w fun e w' => (∃ P q, e = .returned (.tuple #[.slice P 3 q, .int .i64 0]) ∧ CL w' P [([0], [1, 2, 3]), ([0, 1], [2, 3]), ([0, 1, 2], [3])]) ∧ Below w.heap.size w w' := by
  have h1 := cuts_s (n := 4) (c := d) (d := q) (s := 15) lK_ok h (by decide) hl lK_set15 (by decide) (by decide) hw lK_con
  rw [lK_cuts, bits15] at h1
  exact h1
theorem known_joints {B : Option Addr} {d q : Nat} {P : Option Addr} {w : World} (h : EL w B 6 (cast lK)) (hl : IL w P (zs (bitsOf 15))) (hw : Good w) :
    Calls Tryd.prog 28 #[gV 4 B 6 d, .slice P 4 q] w fun e w' => (∃ P q, e = .returned (.tuple #[.slice P 2 q, .int .i64 0]) ∧ IL w' P (zs [1, 2])) ∧ Below w.heap.size w w' := by
  have h1 := joints_s (n := 4) (c := d) (d := q) (s := 15) lK_ok h (by decide) hl lK_set15 (by decide) hw lK_con
  rw [lK_joints, bits15] at h1
  exact h1
theorem il_cells {w : World} {g : Nat} {l : List Int} (h : Cells w g (l.map fun x => Value.int .i64 x)) : IL w (some ⟨g, 0, none⟩) l := fun k x hk => by
  refine ⟨_, _, rfl, h.lt, ?_⟩
  rw [Nat.zero_add, h.at_ k]
  simp [hk]
theorem il11 (w : World) : IL (w.alloc (.cells #[.int .i64 0, .int .i64 1, .int .i64 3] 3)) (some ⟨w.heap.size, 0, none⟩) (zs (bitsOf 11)) := by rw [bits11]; exact il_lit w [0, 1, 3] _
theorem il15 (w : World) : IL (w.alloc (.cells #[.int .i64 0, .int .i64 1, .int .i64 2, .int .i64 3] 3)) (some ⟨w.heap.size, 0, none⟩) (zs (bitsOf 15)) := by rw [bits15]; exact il_lit w [0, 1, 2, 3] _
end Go.Proofs.YtdpfoegcmngdfaaDoor
