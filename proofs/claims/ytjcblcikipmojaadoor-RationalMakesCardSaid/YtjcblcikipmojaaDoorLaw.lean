/- What the statements of layer 1 call: right and read. -/
import Derived.Test.YtjcblcikipmojaaDoorRef2
namespace Go.Proofs.YtjcblcikipmojaaDoor
open Go.RowKit

def okT (s : ByteArray) : Bool := decide (s.size ≤ 120) && decide (errOf s = 0)
theorem okT_true {s : ByteArray} (h : okT s = true) : s.size ≤ 120 ∧ errOf s = 0 := by
  unfold okT at h
  simpa using h
set_option maxHeartbeats 4000000 in
theorem right_any (s : ByteArray) (w : World) (hs : s.size ≤ 9223372036854775807) :
    Calls Tryd.prog 6 #[.string s] w fun e w' => e = .returned (.bool (okT s)) ∧ w = w' := by
  by_cases h : s.size ≤ 120
  · have Hc := Lib.hid (fun w => refCheck_any s w (by omega))
    obtain ⟨E, hE⟩ : ∃ E, errOf s = E := ⟨_, rfl⟩
    rw [hE] at Hc
    have He := Lib.hid (show okT s = decide (E = 0) by unfold okT; rw [decide_eq_true h, hE, Bool.true_and])
    clear hE
    by_cases h0 : E = 0
    · subst h0
      go_enter Tryd.func6, Tryd.ntmps6
      go_wp2_with fail
      refine (Hc.out _).mono ?_
      rintro e w1 ⟨rfl, rfl⟩
      go_wp2
      go_ret
      exact ⟨by rw [He.out]; rfl, rfl⟩
    · have t0 : (E == 0) = false := by rw [beq_eq_false_iff_ne]; exact h0
      rw [decide_eq_false h0] at He
      clear h0
      go_enter Tryd.func6, Tryd.ntmps6
      go_wp2_with fail
      refine (Hc.out _).mono ?_
      rintro e w1 ⟨rfl, rfl⟩
      go_wp2
      go_ret
      exact ⟨by rw [He.out]; rfl, rfl⟩
  · have He := Lib.hid (show okT s = false by unfold okT; rw [decide_eq_false h, Bool.false_and])
    go_enter Tryd.func6, Tryd.ntmps6
    go_wp2
    go_ret
    exact ⟨by rw [He.out]; rfl, rfl⟩
set_option maxHeartbeats 4000000 in
theorem read_any (s : ByteArray) (w : World) (h : s.size ≤ 120) (h0 : errOf s = 0) :
    Calls Tryd.prog 7 #[.string s] w fun e w' => ∃ a P, e = .returned (.tuple #[.agg #[.int .i64 a, .pointer P], .bool true]) ∧ IsInt 0 w' (.agg #[.int .i64 a, .pointer P]) (zOf s) ∧ Below w.heap.size w w' := by
  have Hc := Lib.hid (fun w => refCheck_any s w (by omega))
  have Hp := Lib.hid (fun w => parse_any s w (by omega))
  rw [h0] at Hc Hp
  clear h0
  go_enter Tryd.func7, Tryd.ntmps7
  go_wp2_with fail
  refine (Hc.out _).mono ?_
  rintro e w1 ⟨rfl, rfl⟩
  go_wp2_with fail
  refine (Hp.out _).mono ?_
  rintro e w2 ⟨v, rfl, hint, _, h2⟩
  obtain ⟨a, P, rfl⟩ := (hint trivial).form
  have hc2 : (w2.alloc (.cells #[.int .i64 a, .pointer P] 26)).heap[w.heap.size]? = some (.cells #[.int .i64 0, .pointer none] 26 (0, 0)) := by
    have hs2 := h2.size
    simp at hs2
    rw [((Below.refl w2.heap.size w2).alloc (Nat.le_refl _) _).block _ (by omega), h2.block _ (by simp)]
    show (w.heap.push _)[w.heap.size]? = _
    rw [Array.getElem?_push, if_pos rfl]
  have k0 : (w2.alloc (.cells #[.int .i64 a, .pointer P] 26)).cell? ⟨w.heap.size, 0, none⟩ = some (.int .i64 0) := by rw [cell_of_row _ _ _ _ _ _ hc2]; rfl
  have k1 : (w2.alloc (.cells #[.int .i64 a, .pointer P] 26)).cell? ⟨w.heap.size, 1, none⟩ = some (.pointer none) := by rw [cell_of_row _ _ _ _ _ _ hc2]; rfl
  have f0 : (w2.alloc (.cells #[.int .i64 a, .pointer P] 26)).frozen? ⟨w.heap.size, 0, none⟩ = false := by simp only [World.frozen?, hc2]; rfl
  have f1 : (w2.alloc (.cells #[.int .i64 a, .pointer P] 26)).frozen? ⟨w.heap.size, 1, none⟩ = false := by simp only [World.frozen?, hc2]; rfl
  have hin : IsInt (w.heap.size + 1) (w2.alloc (.cells #[.int .i64 a, .pointer P] 26)) (.agg #[.int .i64 a, .pointer P]) (zOf s) := by
    have := (hint trivial).keep ((Below.refl w2.heap.size w2).alloc (Nat.le_refl _) (.cells #[.int .i64 a, .pointer P] 26))
    unfold zOf
    simpa using this
  have hb : Below w.heap.size w (w2.alloc (.cells #[.int .i64 a, .pointer P] 26)) := (((Below.refl w.heap.size w).alloc (Nat.le_refl _) _).trans (h2.mono (by simp))).alloc (by have := h2.size; simp at this; omega) _
  have Hi := Lib.hid (((hin.set_ (i := 0) (u := .int .i64 a)).set_ (i := 1) (u := .pointer P)).mono (Nat.zero_le _))
  have Hb := Lib.hid ((hb.setCell (p := ⟨w.heap.size, 0, none⟩) (Nat.le_refl w.heap.size) (.int .i64 a)).setCell (p := ⟨w.heap.size, 1, none⟩) (Nat.le_refl w.heap.size) (.pointer P))
  clear hint h2 hc2 hin hb
  go_wp2
  exact bodyPost_ret (v := .tuple #[.agg #[.int .i64 a, .pointer P], .bool true]) (by simp [results, Tryd.results7, go_sem, k0, k1]) rfl ⟨a, P, rfl, Hi.out, Hb.out⟩
/-- A variable that holds an integer: its block, and what it stands for. -/
structure Var (w : World) (p : Nat) (a : Int) (P : Option Addr) (z : Int) : Prop where
  c0 : w.cell? ⟨p, 0, none⟩ = some (.int .i64 a)
  c1 : w.cell? ⟨p, 1, none⟩ = some (.pointer P)
  lt : p < w.heap.size
  int : IsInt 0 w (.agg #[.int .i64 a, .pointer P]) z
theorem Var.keep {w w' : World} {p : Nat} {a : Int} {P : Option Addr} {z : Int} (h : Var w p a P z) (hb : Below w.heap.size w w') : Var w' p a P z :=
  ⟨(hb.cell (p := ⟨p, 0, none⟩) h.lt).trans h.c0, (hb.cell (p := ⟨p, 1, none⟩) h.lt).trans h.c1, Nat.lt_of_lt_of_le h.lt hb.size, h.int.keep hb⟩
theorem Var.new {w : World} {a : Int} {P : Option Addr} {z : Int} (h : IsInt 0 w (.agg #[.int .i64 a, .pointer P]) z) : Var (w.alloc (.cells #[.int .i64 a, .pointer P] 26)) w.heap.size a P z :=
  ⟨by simp [go_sem], by simp [go_sem], by simp, h.keep ((Below.refl w.heap.size w).alloc (Nat.le_refl _) _)⟩
theorem below_var {w0 w : World} (h : Below w0.heap.size w0 w) (o : Obj) : Below w0.heap.size w0 (w.alloc o) := h.alloc h.size o
theorem below_next {w0 w w' : World} (h : Below w0.heap.size w0 w) (h' : Below w.heap.size w w') : Below w0.heap.size w0 w' := h.trans (h'.mono h.size)
end Go.Proofs.YtjcblcikipmojaaDoor
