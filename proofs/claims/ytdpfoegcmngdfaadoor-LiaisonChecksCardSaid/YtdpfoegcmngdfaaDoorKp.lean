/- Liaisons: what is known: literal groups, lists and their comparisons. -/
import Derived.Test.YtdpfoegcmngdfaaDoorKn
namespace Go.Proofs.YtdpfoegcmngdfaaDoor
open Go.RowKit
theorem gl_lit (w : World) : GL ((((w.alloc (.cells #[.int .i64 0, .int .i64 1] 3)).alloc (.cells #[.int .i64 0, .int .i64 1, .int .i64 2] 3)).alloc (.cells #[.int .i64 3, .int .i64 4] 3)).alloc (.cells #[.string ⟨#[97]⟩, .slice (some ⟨w.heap.size, 0, none⟩) 2 2, .string ⟨#[98]⟩, .slice (some ⟨w.heap.size + 1, 0, none⟩) 3 3, .string ⟨#[99]⟩, .slice (some ⟨w.heap.size + 2, 0, none⟩) 2 2] 68)) (some ⟨w.heap.size + 3, 0, none⟩) gK := by
  have i1 := il_lit w [0, 1] 3
  have i2 := il_lit (w.alloc (.cells #[.int .i64 0, .int .i64 1] 3)) [0, 1, 2] 3
  have i3 := il_lit ((w.alloc (.cells #[.int .i64 0, .int .i64 1] 3)).alloc (.cells #[.int .i64 0, .int .i64 1, .int .i64 2] 3)) [3, 4] 3
  have C := Cells.new (((w.alloc (.cells #[.int .i64 0, .int .i64 1] 3)).alloc (.cells #[.int .i64 0, .int .i64 1, .int .i64 2] 3)).alloc (.cells #[.int .i64 3, .int .i64 4] 3)) #[.string ⟨#[97]⟩, .slice (some ⟨w.heap.size, 0, none⟩) 2 2, .string ⟨#[98]⟩, .slice (some ⟨w.heap.size + 1, 0, none⟩) 3 3, .string ⟨#[99]⟩, .slice (some ⟨w.heap.size + 2, 0, none⟩) 2 2] 68
  have ka := fun (w : World) (o : Obj) => (Below.refl w.heap.size w).alloc (Nat.le_refl _) o
  have s1 : (w.alloc (.cells #[.int .i64 0, .int .i64 1] 3)).heap.size = w.heap.size + 1 := by simp
  have s2 : ((w.alloc (.cells #[.int .i64 0, .int .i64 1] 3)).alloc (.cells #[.int .i64 0, .int .i64 1, .int .i64 2] 3)).heap.size = w.heap.size + 2 := by simp
  have s3 : (((w.alloc (.cells #[.int .i64 0, .int .i64 1] 3)).alloc (.cells #[.int .i64 0, .int .i64 1, .int .i64 2] 3)).alloc (.cells #[.int .i64 3, .int .i64 4] 3)).heap.size = w.heap.size + 3 := by simp
  have j1 := ((i1.keep (ka _ (.cells #[.int .i64 0, .int .i64 1, .int .i64 2] 3))).keep (ka _ (.cells #[.int .i64 3, .int .i64 4] 3))).keep (ka _ (.cells #[.string ⟨#[97]⟩, .slice (some ⟨w.heap.size, 0, none⟩) 2 2, .string ⟨#[98]⟩, .slice (some ⟨w.heap.size + 1, 0, none⟩) 3 3, .string ⟨#[99]⟩, .slice (some ⟨w.heap.size + 2, 0, none⟩) 2 2] 68))
  have j2 := (i2.keep (ka _ (.cells #[.int .i64 3, .int .i64 4] 3))).keep (ka _ (.cells #[.string ⟨#[97]⟩, .slice (some ⟨w.heap.size, 0, none⟩) 2 2, .string ⟨#[98]⟩, .slice (some ⟨w.heap.size + 1, 0, none⟩) 3 3, .string ⟨#[99]⟩, .slice (some ⟨w.heap.size + 2, 0, none⟩) 2 2] 68))
  have j3 := i3.keep (ka _ (.cells #[.string ⟨#[97]⟩, .slice (some ⟨w.heap.size, 0, none⟩) 2 2, .string ⟨#[98]⟩, .slice (some ⟨w.heap.size + 1, 0, none⟩) 3 3, .string ⟨#[99]⟩, .slice (some ⟨w.heap.size + 2, 0, none⟩) 2 2] 68))
  rw [s1] at j2
  rw [s2] at j3
  rw [s3] at C
  intro k r hk
  have hk3 : k < 3 := by
    rcases Nat.lt_or_ge k 3 with h | h
    · exact h
    · rw [List.getElem?_eq_none (by simpa [gK] using h)] at hk; cases hk
  match k, hk3, hk with
  | 0, _, hk => cases hk; exact ⟨_, 0, _, 2, rfl, C.lt, C.at_ 0, C.at_ 1, j1⟩
  | 1, _, hk => cases hk; exact ⟨_, 0, _, 3, rfl, C.lt, C.at_ 2, C.at_ 3, j2⟩
  | 2, _, hk => cases hk; exact ⟨_, 0, _, 2, rfl, C.lt, C.at_ 4, C.at_ 5, j3⟩
theorem gK_small : SmallG gK := by unfold SmallG; decide
attribute [local irreducible] grpsE parS pI in
theorem known_parents {A : Option Addr} {w : World} (h : GL w A gK) :
    Calls Tryd.prog 33 #[.slice A 3 3, .int .i64 5] w fun e w' => (∃ g, e = .returned (.tuple #[.slice (some ⟨g, 0, none⟩) 3 3, .int .i64 0]) ∧ IL w' (some ⟨g, 0, none⟩) [1, -1, -1]) ∧ Below w.heap.size w w' :=
  (parents_ok 5 A 3 3 gK w h rfl (by decide) gK_small (by decide) gK_ok).mono fun e w' ⟨g, h1, h2, h3⟩ => ⟨⟨g, h1, by rw [gK_par] at h2; exact il_cells (l := [1, -1, -1]) h2⟩, h3⟩
theorem ll_lit (w : World) : LL 0 (((w.alloc (.cells #[.int .i64 0, .int .i64 1] 3)).alloc (.cells #[.int .i64 3] 3)).alloc (.cells #[.slice (some ⟨w.heap.size, 0, none⟩) 2 2, .slice (some ⟨w.heap.size + 1, 0, none⟩) 1 1] 25)) (some ⟨w.heap.size + 2, 0, none⟩) [[0, 1], [3]] := by
  have C1 := Cells.new w #[.int .i64 0, .int .i64 1] 3
  have C2 := Cells.new (w.alloc (.cells #[.int .i64 0, .int .i64 1] 3)) #[.int .i64 3] 3
  have C3 := Cells.new ((w.alloc (.cells #[.int .i64 0, .int .i64 1] 3)).alloc (.cells #[.int .i64 3] 3)) #[.slice (some ⟨w.heap.size, 0, none⟩) 2 2, .slice (some ⟨w.heap.size + 1, 0, none⟩) 1 1] 25
  have ka := fun (w : World) (o : Obj) => (Below.refl w.heap.size w).alloc (Nat.le_refl _) o
  have s1 : (w.alloc (.cells #[.int .i64 0, .int .i64 1] 3)).heap.size = w.heap.size + 1 := by simp
  have s2 : ((w.alloc (.cells #[.int .i64 0, .int .i64 1] 3)).alloc (.cells #[.int .i64 3] 3)).heap.size = w.heap.size + 2 := by simp
  have D1 := (C1.keep (ka _ (.cells #[.int .i64 3] 3))).keep (ka _ (.cells #[.slice (some ⟨w.heap.size, 0, none⟩) 2 2, .slice (some ⟨w.heap.size + 1, 0, none⟩) 1 1] 25))
  have D2 := C2.keep (ka _ (.cells #[.slice (some ⟨w.heap.size, 0, none⟩) 2 2, .slice (some ⟨w.heap.size + 1, 0, none⟩) 1 1] 25))
  rw [s1] at D2
  rw [s2] at C3
  have nl : ∀ {w' : World} {g : Nat} {l : List Nat}, Cells w' g (nats l) → NL 0 w' (some ⟨g, 0, none⟩) l := fun {w' g l} C k n hk => ⟨g, 0, rfl, Nat.zero_le _, C.lt, by
    rw [Nat.zero_add, C.at_ k]; unfold nats; simp [hk]⟩
  intro k r hk
  have hk3 : k < 2 := by
    rcases Nat.lt_or_ge k 2 with h | h
    · exact h
    · rw [List.getElem?_eq_none (by simpa using h)] at hk; cases hk
  match k, hk3, hk with
  | 0, _, hk => cases hk; exact ⟨_, 0, _, 2, rfl, Nat.zero_le _, C3.lt, C3.at_ 0, nl (l := [0, 1]) D1⟩
  | 1, _, hk => cases hk; exact ⟨_, 0, _, 1, rfl, Nat.zero_le _, C3.lt, C3.at_ 1, nl (l := [3]) D2⟩
theorem known_lists {A B : Option Addr} {c d : Nat} {w : World} (h : LL 0 w A [[0, 1], [3]]) (h' : LL 0 w B [[0, 1], [3]]) :
    Calls Tryd.prog 23 #[.slice A 2 c, .slice B 2 d] w fun e w' => e = .returned (.bool true) ∧ Below w.heap.size w w' :=
  sameLists_any 0 0 A B c d [[0, 1], [3]] [[0, 1], [3]] w h h' (by decide) (by decide) (by decide) (by decide)
theorem known_same {A B : Option Addr} {c d : Nat} {l : List Int} {w : World} (h : IL w A l) (h' : IL w B l) (hl : l.length ≤ 1000) :
    Calls Tryd.prog 25 #[.slice A l.length c, .slice B l.length d] w fun e w' => e = .returned (.bool true) ∧ Below w.heap.size w w' := by
  have h1 := same_any A B c d l l w h h' (by omega) (by omega)
  rw [beq_self_eq_true] at h1
  exact h1
end Go.Proofs.YtdpfoegcmngdfaaDoor
