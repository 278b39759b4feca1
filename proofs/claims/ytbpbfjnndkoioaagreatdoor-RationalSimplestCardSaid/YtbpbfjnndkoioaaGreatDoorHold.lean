/- A variable that holds an integer and is written anew. -/
import Derived.Test.YtbpbfjnndkoioaaGreatDoorRef2
import Derived.Test.YtbpbfjnndkoioaaGreatDoorMulZ
namespace Go.Proofs.YtbpbfjnndkoioaaGreatDoor
open Go.RowKit

def okT (s : ByteArray) : Bool := decide (s.size ≤ 120) && decide (errOf s = 0)
theorem okT_true {s : ByteArray} (h : okT s = true) : s.size ≤ 120 ∧ errOf s = 0 := by
  unfold okT at h
  simpa using h
/-- A variable that holds an integer: its block, and what it stands for. -/
structure Var (w : World) (p : Nat) (a : Int) (P : Option Addr) (z : Int) : Prop where
  c0 : w.cell? ⟨p, 0, none⟩ = some (.int .i64 a)
  c1 : w.cell? ⟨p, 1, none⟩ = some (.pointer P)
  lt : p < w.heap.size
  int : IsInt 0 w (.agg #[.int .i64 a, .pointer P]) z
theorem Var.keep {w w' : World} {p : Nat} {a : Int} {P : Option Addr} {z : Int} (h : Var w p a P z) (hb : Below w.heap.size w w') : Var w' p a P z :=
  ⟨(hb.cell (p := ⟨p, 0, none⟩) h.lt).trans h.c0, (hb.cell (p := ⟨p, 1, none⟩) h.lt).trans h.c1, Nat.lt_of_lt_of_le h.lt hb.size, h.int.keep hb⟩
theorem Var.new {w : World} {a : Int} {P : Option Addr} {z : Int} (h : IsInt 0 w (.agg #[.int .i64 a, .pointer P]) z) : Var (w.alloc (.cells #[.int .i64 a, .pointer P] 26)) w.heap.size a P z :=
  ⟨by simp [go_sem], by simp [go_sem], by simp, h.keep ((Below.refl w.heap.size w).alloc (Nat.le_refl _) _)⟩
theorem below_var {w0 w : World} (h : Below w0.heap.size w0 w) (o : Obj) : Below w0.heap.size w0 (w.alloc o) := h.alloc h.size o
theorem below_next {w0 w w' : World} (h : Below w0.heap.size w0 w) (h' : Below w.heap.size w w') : Below w0.heap.size w0 w' := h.trans (h'.mono h.size)
theorem base_up {a b m : Nat} (h : m < base a) (hab : a ≤ b) : m < base b := Nat.lt_of_lt_of_le h (base_le hab)
/-- A variable of type Int that may be written: its block and what lies there. -/
structure Hold (w : World) (p : Nat) (a : Int) (P : Option Addr) : Prop where
  c0 : w.cell? ⟨p, 0, none⟩ = some (.int .i64 a)
  c1 : w.cell? ⟨p, 1, none⟩ = some (.pointer P)
  cn : ∀ k, w.cell? ⟨p, k + 2, none⟩ = none
  f0 : w.frozen? ⟨p, 0, none⟩ = false
  f1 : w.frozen? ⟨p, 1, none⟩ = false
  lt : p < w.heap.size
theorem Hold.keep {w w' : World} {p : Nat} {a : Int} {P : Option Addr} (h : Hold w p a P) (hb : Below w.heap.size w w') : Hold w' p a P :=
  ⟨(hb.cell (p := ⟨p, 0, none⟩) h.lt).trans h.c0, (hb.cell (p := ⟨p, 1, none⟩) h.lt).trans h.c1, fun k => (hb.cell (p := ⟨p, k + 2, none⟩) h.lt).trans (h.cn k),
    (hb.frozen (p := ⟨p, 0, none⟩) h.lt).trans h.f0, (hb.frozen (p := ⟨p, 1, none⟩) h.lt).trans h.f1, Nat.lt_of_lt_of_le h.lt hb.size⟩
theorem Hold.of_row {w : World} {p : Nat} {a : Int} {P : Option Addr} {T : TypeId} (h : w.heap[p]? = some (.cells #[.int .i64 a, .pointer P] T (0, 0))) : Hold w p a P := by
  refine ⟨by rw [cell_of_row _ _ _ _ _ _ h]; rfl, by rw [cell_of_row _ _ _ _ _ _ h]; rfl, fun k => by rw [cell_of_row _ _ _ _ _ _ h]; rfl, by simp only [World.frozen?, h]; rfl, by simp only [World.frozen?, h]; rfl, ?_⟩
  rcases Nat.lt_or_ge p w.heap.size with h1 | h1
  · exact h1
  · rw [Array.getElem?_eq_none h1] at h; cases h
theorem Hold.new (w : World) (a : Int) (P : Option Addr) : Hold (w.alloc (.cells #[.int .i64 a, .pointer P] 26)) w.heap.size a P := Hold.of_row (heap_new w _)
theorem Hold.store {w : World} {p : Nat} {a : Int} {P : Option Addr} (h : Hold w p a P) (b : Int) (Q : Option Addr) : Hold ((w.setCell ⟨p, 0, none⟩ (.int .i64 b)).setCell ⟨p, 1, none⟩ (.pointer Q)) p b Q := by
  have e1 : (w.setCell ⟨p, 0, none⟩ (.int .i64 b)).cell? ⟨p, 1, none⟩ = some (.pointer P) := (World.cell?_setCell_other _ _ _ _ (by simp)).trans h.c1
  refine ⟨?_, World.cell?_setCell_same _ _ _ e1, fun k => ?_, ?_, ?_, ?_⟩
  · rw [World.cell?_setCell_other _ _ _ _ (by simp)]; exact World.cell?_setCell_same _ _ _ h.c0
  · rw [World.cell?_setCell_other _ _ _ _ (by simp), World.cell?_setCell_other _ _ _ _ (by simp)]; exact h.cn k
  · rw [World.frozen?_setCell, World.frozen?_setCell]; exact h.f0
  · rw [World.frozen?_setCell, World.frozen?_setCell]; exact h.f1
  · simpa [World.setCell] using h.lt
/-- What an integer stands for remains when a variable is written. -/
theorem IsInt.hold {w w' : World} {v : Value} {z : Int} {p : Nat} {a : Int} {P : Option Addr} (h : IsInt 0 w v z) (hr : Hold w p a P) (hs : w'.heap.size = w.heap.size) (hk : ∀ k, k ≠ p → w'.heap[k]? = w.heap[k]?) : IsInt 0 w' v z := by
  rcases h with h | ⟨hz, q, A, n, c, xs, rfl, hq, hB, hA, c0, c1, hl, hc, hn, hw, ht, hv⟩
  · exact .inl h
  · have hqp : q ≠ p := by
      intro e
      subst e
      rw [hr.c0] at c0
      cases c0
    refine .inr ⟨hz, q, A, n, c, xs, rfl, by omega, hB, hA, (World.cell?_of_block (hk q hqp)).trans c0, (World.cell?_of_block (hk q hqp)).trans c1, ⟨hl.1, hl.2.1, fun h0 => ?_⟩, hc, hn, hw, ht, hv⟩
    obtain ⟨b, o, e, hb, hcell⟩ := hl.2.2 h0
    have hlen := hl.1
    rw [u64s_length] at hlen
    have hbp : b ≠ p := by
      intro e2
      subst e2
      have h1 := hcell 0 (.int .u64 ((xs.getD 0 0 : Nat) : Int)) (by simp [u64s, show 0 < xs.length by omega])
      match o, h1 with
      | 0, h1 => rw [show (0 + 0 : Nat) = 0 from rfl, hr.c0] at h1; cases h1
      | 1, h1 => rw [show (1 + 0 : Nat) = 1 from rfl, hr.c1] at h1; cases h1
      | o + 2, h1 => rw [Nat.add_zero, hr.cn o] at h1; cases h1
    exact ⟨b, o, e, by omega, fun j u hu => (World.cell?_of_block (hk b hbp)).trans (hcell j u hu)⟩
theorem IsInt.held {w : World} {v : Value} {z : Int} {p : Nat} {a : Int} {P : Option Addr} (h : IsInt 0 w v z) (hr : Hold w p a P) (x y : Value) : IsInt 0 ((w.setCell ⟨p, 0, none⟩ x).setCell ⟨p, 1, none⟩ y) v z :=
  h.hold hr (by simp [World.setCell]) (fun k hk => (Below.heap_setCell (w.setCell ⟨p, 0, none⟩ x) ⟨p, 1, none⟩ y k hk).trans (Below.heap_setCell w ⟨p, 0, none⟩ x k hk))
/-- A variable besides the one that is written. -/
theorem Var.held {w : World} {q : Nat} {b : Int} {Q : Option Addr} {z : Int} {p : Nat} {a : Int} {P : Option Addr} (h : Var w q b Q z) (hr : Hold w p a P) (hq : q ≠ p) (x y : Value) : Var ((w.setCell ⟨p, 0, none⟩ x).setCell ⟨p, 1, none⟩ y) q b Q z := by
  have hb : ((w.setCell ⟨p, 0, none⟩ x).setCell ⟨p, 1, none⟩ y).heap[q]? = w.heap[q]? := (Below.heap_setCell (w.setCell ⟨p, 0, none⟩ x) ⟨p, 1, none⟩ y q hq).trans (Below.heap_setCell w ⟨p, 0, none⟩ x q hq)
  exact ⟨(World.cell?_of_block hb).trans h.c0, (World.cell?_of_block hb).trans h.c1, by simpa [World.setCell] using h.lt, h.int.held hr x y⟩
end Go.Proofs.YtbpbfjnndkoioaaGreatDoor
