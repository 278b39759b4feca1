/- The first of the shortest cycles of a graph. -/
import Derived.Test.YthocdmlacfejkaaDoorCyc
import Derived.WalkSpells
import Derived.Laws.Cover3
import Derived.Lib.SliceRun
namespace Go.Proofs.YthocdmlacfejkaaDoor
open Go.RowKit
/-- The first of the shortest cycles through the nodes below k. -/
def cycleM (es : List (Nat × Nat)) : Nat → Option (List Nat)
  | 0 => none
  | k + 1 => match cycM es k with
    | none => cycleM es k
    | some l => match cycleM es k with
      | none => some l
      | some b => if l.length < b.length then some l else some b
/-- A list of nodes that may be missing. -/
def SLv (lo : Nat) (w : World) (o : Option (List Nat)) (v : Value) : Prop :=
  (o = none ∧ v = .slice none 0 0) ∨ ∃ l g c, o = some l ∧ v = .slice (some ⟨g, 0, none⟩) l.length c ∧ NL lo w (some ⟨g, 0, none⟩) l
theorem SLv.keep {lo : Nat} {w w' : World} {o : Option (List Nat)} {v : Value} (h : SLv lo w o v) (hb : Below w.heap.size w w') : SLv lo w' o v := by
  rcases h with h | ⟨l, g, c, h1, h2, h3⟩
  · exact .inl h
  · exact .inr ⟨l, g, c, h1, h2, h3.keep hb⟩
theorem eql_nil_nil (w : World) : (binOp .eql 50 (.slice none 0 0) (.slice none 0 0)).run Tryd.prog w = .ok (.bool true) w := Lib.run_eql_slice_nil w 50 3 none 0 0 0 0 Tryd.underlying50
theorem eql_some_nil (w : World) (x : Addr) (n c : Nat) : (binOp .eql 50 (.slice (some x) n c) (.slice none 0 0)).run Tryd.prog w = .ok (.bool false) w := Lib.run_eql_slice_nil w 50 3 (some x) n c 0 0 Tryd.underlying50
def CylPost (es : List (Nat × Nat)) (n : Nat) (w : World) (e : Ending) (w' : World) : Prop :=
  ((cycleM es n = none ∧ e = .returned (.tuple #[.slice none 0 0, .int .i64 10])) ∨ ∃ l g c, cycleM es n = some l ∧ e = .returned (.tuple #[.slice (some ⟨g, 0, none⟩) l.length c, .int .i64 0]) ∧ NL w.heap.size w' (some ⟨g, 0, none⟩) l) ∧ Below w.heap.size w w'
set_option maxRecDepth 100000 in
set_option maxHeartbeats 8000000 in
theorem cycle_any (n : Nat) (A : Option Addr) (m c : Nat) (es : List (Nat × Nat)) (w : World) (h : EL w A m (cast es)) (hg : Fine n es) (hw : Good w) :
    Calls Tryd.prog 31 #[gV n A m c] w (CylPost es n w) := by
  have hlen := h.len
  have hm : m ≤ 4096 := by have := hg.len; omega
  have hn64 := hg.n64
  have kv := (Below.refl w.heap.size w).alloc (Nat.le_refl _) (.cells #[.int .i64 (n : Nat), .slice A m c] 26)
  have G0 := Lib.hid (Cells.new w #[.int .i64 (n : Nat), .slice A m c] 26)
  have HC := check_any (n : Int) A m c (cast es) (w.alloc (.cells #[.int .i64 (n : Nat), .slice A m c] 26)) (h.keep kv) (by omega)
  rw [hg.check] at HC
  have HC := Lib.hid HC
  have HT := Lib.hid (fun w' (i : Nat) (hi : i < n) (hb' : Below w.heap.size w w') => cycleThrough_any n A m c es i w' (h.keep hb') hg hi (hw.below hb' hw.size))
  have kv := Lib.hid kv
  clear h hg hw hlen
  have q0 := eql_nil_nil
  have q1 := eql_some_nil
  go_enter Tryd.func31, Tryd.ntmps31
  go_wp2_with fail
  refine HC.out.mono ?_
  rintro e w1 ⟨rfl, hb1⟩
  have G1 := Lib.hid (G0.out.keep hb1)
  have B1 := Lib.hid (below_on kv.out hb1)
  have g0 := G1.out.at_ 0
  have g1 := G1.out.at_ 1
  simp only [List.getElem?_cons_zero, List.getElem?_cons_succ] at g0 g1
  clear hb1
  go_wp2_with fail
  go_loopw [15, 5] (fun i bv wr => ∃ j : Nat, i = .int .i64 (j : Nat) ∧ j ≤ n ∧ SLv w.heap.size wr (cycleM es j) bv ∧ Cells wr w.heap.size [.int .i64 (n : Nat), .slice A m c] ∧ Below w.heap.size w wr) (fun i _ _ => n - (intOf i).toNat)
  case atStart => exact ⟨0, rfl, Nat.zero_le _, .inl ⟨rfl, rfl⟩, G1.out, B1.out⟩
  case round =>
    obtain ⟨j, rfl, hj, hsl, hgc, hb⟩ := hrel
    have S6 := Lib.hid hsl
    have G6 := Lib.hid hgc
    have B6 := Lib.hid hb
    have h0 := G6.out.at_ 0
    have h1 := G6.out.at_ 1
    simp only [List.getElem?_cons_zero, List.getElem?_cons_succ] at h0 h1
    clear hsl hgc hb g0 g1
    obtain ⟨wa, rfl⟩ : ∃ wa : World, wa = wr := ⟨_, rfl⟩
    by_cases hlt : j < n
    · have Hlt := Lib.hid hlt
      go_wp2_with fail
      refine (HT.out _ j Hlt.out B6.out).mono ?_
      rintro e w7 ⟨hc, hb7⟩
      have G7 := Lib.hid (G6.out.keep hb7)
      have B7 := Lib.hid (below_on B6.out hb7)
      have S7 := Lib.hid (S6.out.keep hb7)
      have Hs := Lib.hid (show cycleM es (j + 1) = (match cycM es j with | none => cycleM es j | some l => match cycleM es j with | none => some l | some b => if l.length < b.length then some l else some b) from rfl)
      rcases hc with ⟨hc, rfl⟩ | ⟨l, g, cap, hc, rfl, hl⟩
      · rw [hc] at Hs
        clear hb7 hc h0 h1
        go_wp2_with fail
        go_roundw
        case rel => exact ⟨j + 1, by go_num, Hlt.out, by rw [Hs.out]; exact S7.out, G7.out, B7.out⟩
        case measure => simp [intOf]; have := Hlt.out; omega
      · rw [hc] at Hs
        have L7 := Lib.hid (hl.down B6.out.size)
        clear hb7 hc hl h0 h1
        rcases S7.out with ⟨ho, hv⟩ | ⟨b, g2, cap2, ho, hv, hl2⟩
        · rw [ho] at Hs
          subst hv
          clear ho
          go_wp2_with fail
          go_roundw
          case rel => exact ⟨j + 1, by go_num, Hlt.out, by rw [Hs.out]; exact .inr ⟨l, g, cap, rfl, rfl, L7.out⟩, G7.out, B7.out⟩
          case measure => simp [intOf]; have := Hlt.out; omega
        · rw [ho] at Hs
          subst hv
          have M7 := Lib.hid hl2
          clear ho hl2
          by_cases hlb : l.length < b.length
          · have t1 : decide ((l.length : Int) < (b.length : Int)) = true := decide_eq_true (by omega)
            have t2 : decide (l.length < b.length) = true := decide_eq_true hlb
            have Hs := Lib.hid (Hs.out.trans (if_pos hlb))
            clear hlb
            go_wp2_with fail
            go_roundw
            case rel => exact ⟨j + 1, by go_num, Hlt.out, by rw [Hs.out]; exact .inr ⟨l, g, cap, rfl, rfl, L7.out⟩, G7.out, B7.out⟩
            case measure => simp [intOf]; have := Hlt.out; omega
          · have t1 : decide ((l.length : Int) < (b.length : Int)) = false := decide_eq_false (by omega)
            have t2 : decide (l.length < b.length) = false := decide_eq_false hlb
            have Hs := Lib.hid (Hs.out.trans (if_neg hlb))
            clear hlb
            go_wp2_with fail
            go_roundw
            case rel => exact ⟨j + 1, by go_num, Hlt.out, by rw [Hs.out]; exact .inr ⟨b, g2, cap2, rfl, rfl, M7.out⟩, G7.out, B7.out⟩
            case measure => simp [intOf]; have := Hlt.out; omega
    · have hjn : j = n := by omega
      subst hjn
      rcases S6.out with ⟨ho, hv⟩ | ⟨b, g2, cap2, ho, hv, hl2⟩
      · subst hv
        have Ho := Lib.hid ho
        clear ho
        go_wp2_with fail
        go_ret2
        exact ⟨.inl ⟨Ho.out, rfl⟩, B6.out⟩
      · subst hv
        have Ho := Lib.hid ho
        have M := Lib.hid hl2
        clear ho hl2
        go_wp2_with fail
        go_ret2
        exact ⟨.inr ⟨b, g2, cap2, Ho.out, rfl, M.out⟩, B6.out⟩
end Go.Proofs.YthocdmlacfejkaaDoor
