/- What the statements of layer 1 call: right and read. -/
import Derived.Test.YtjcblcikipmojaaGreatDoorRef2
namespace Go.Proofs.YtjcblcikipmojaaGreatDoor
open Go.RowKit

def okT (s : ByteArray) : Bool := decide (s.size ≤ 120) && decide (errOf s = 0)
theorem okT_true {s : ByteArray} (h : okT s = true) : s.size ≤ 120 ∧ errOf s = 0 := by
  unfold okT at h
  simpa using h
/-- A variable that holds an integer: its block, and what it stands for. -/
structure Var (w : World) (p : Nat) (a : Int) (P : Option Addr) (z : Int) : Prop where
  c0 : w.cell? ⟨p, 0, none⟩ = some (.int .i64 a)
  c1 : w.cell? ⟨p, 1, none⟩ = some (.pointer P)
  lt : p < w.heap.size
  int : IsInt 0 w (.agg #[.int .i64 a, .pointer P]) z
theorem Var.keep {w w' : World} {p : Nat} {a : Int} {P : Option Addr} {z : Int} (h : Var w p a P z) (hb : Below w.heap.size w w') : Var w' p a P z :=
  ⟨(hb.cell (p := ⟨p, 0, none⟩) h.lt).trans h.c0, (hb.cell (p := ⟨p, 1, none⟩) h.lt).trans h.c1, Nat.lt_of_lt_of_le h.lt hb.size, h.int.keep hb⟩
theorem Var.new {w : World} {a : Int} {P : Option Addr} {z : Int} (h : IsInt 0 w (.agg #[.int .i64 a, .pointer P]) z) : Var (w.alloc (.cells #[.int .i64 a, .pointer P] 25)) w.heap.size a P z :=
  ⟨by simp [go_sem], by simp [go_sem], by simp, h.keep ((Below.refl w.heap.size w).alloc (Nat.le_refl _) _)⟩
theorem below_var {w0 w : World} (h : Below w0.heap.size w0 w) (o : Obj) : Below w0.heap.size w0 (w.alloc o) := h.alloc h.size o
theorem below_next {w0 w w' : World} (h : Below w0.heap.size w0 w) (h' : Below w.heap.size w w') : Below w0.heap.size w0 w' := h.trans (h'.mono h.size)
end Go.Proofs.YtjcblcikipmojaaGreatDoor
