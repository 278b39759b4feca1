/- walk. -/
import Derived.Test.YthocdmlacfejkaaDoorDst
import Derived.StillTailTactics
namespace Go.Proofs.YthocdmlacfejkaaDoor
open Go.RowKit
/-- The first way down. -/
def wayM (L : Nat → Nat) (f : Nat → Int) : Nat → Nat → List Nat
  | 0, a => [a]
  | d + 1, a => a :: wayM L f d (((bitsOf (L a)).find? (fun n => f n == (d : Int))).getD a)
theorem wayM_len (L : Nat → Nat) (f : Nat → Int) : ∀ (d a : Nat), (wayM L f d a).length = d + 1
  | 0, _ => rfl
  | d + 1, a => by rw [wayM, List.length_cons, wayM_len L f d]
theorem wayM_head (L : Nat → Nat) (f : Nat → Int) (d a : Nat) : wayM L f d a = a :: (wayM L f d a).drop 1 := by
  cases d <;> rfl
theorem find_at {α : Type} {p : α → Bool} {l : List α} {j : Nat} {n : α} (h : ∀ x ∈ l.take j, p x = false) (hj : l[j]? = some n) (hn : p n = true) : l.find? p = some n := by
  have hlt : j < l.length := by
    rcases Nat.lt_or_ge j l.length with h1 | h1
    · exact h1
    · rw [List.getElem?_eq_none h1] at hj; cases hj
  rw [← List.take_append_drop j l, List.find?_append, List.find?_eq_none.2 (fun x hx => by simp [h x hx]), List.drop_eq_getElem_cons hlt]
  rw [List.getElem?_eq_getElem hlt] at hj
  injection hj with hj
  rw [hj]
  simp [hn]
theorem own_one {C : Nat} (w : World) (a : Nat) (hC : C ≤ w.heap.size) : (w.alloc (.cells #[.int .i64 (a : Nat)] 3)).ownsRow C 3 1 (.slice (some ⟨w.heap.size, 0, none⟩) 1 1) [a].length (nats [a]) :=
  ⟨rfl, .inr ⟨w.heap.size, 1, #[.int .i64 (a : Nat)], rfl, hC, heap_new w _, Nat.le_refl _, by unfold maxLen; omega, rfl, rfl⟩⟩
theorem own_below {w w' : World} {C n : Nat} {e : TypeId} {v : Value} {xs : List Value} (h : w.ownsRow C e 1 v n xs) (hb : Below w.heap.size w w') : w'.ownsRow C e 1 v n xs :=
  h.kept (row := none) ⟨hb.os, hb.tape, hb.output, hb.size, fun k hk _ => hb.block k hk⟩ (by cases v.ownBlock <;> simp)
theorem own_drew {w : World} {C n : Nat} {e : TypeId} {v : Value} {xs : List Value} (h : w.ownsRow C e 1 v n xs) : w.drew.ownsRow C e 1 v n xs := own_below h (Below.refl _ _).drew
theorem own_down' {w : World} {B C : Nat} {e : TypeId} {v : Value} {n : Nat} {xs : List Value} (h : w.ownsRow B e 1 v n xs) (hC : C ≤ B) : w.ownsRow C e 1 v n xs :=
  ⟨h.1, h.2.imp id fun ⟨g, cap, cur, e, hg, r⟩ => ⟨g, cap, cur, e, Nat.le_trans hC hg, r⟩⟩
theorem Cells.of_blk {w w' : World} {p : Nat} {vs : List Value} (h : Cells w p vs) (hb : w'.heap[p]? = w.heap[p]?) (hs : w.heap.size ≤ w'.heap.size) : Cells w' p vs :=
  ⟨fun i => (World.cell?_of_block (a := ⟨p, i, none⟩) hb).trans (h.at_ i), fun i => (World.frozen?_of_block (a := ⟨p, i, none⟩) hb).trans (h.fz i), Nat.lt_of_lt_of_le h.lt hs⟩
theorem no_up {α : Type} {p : α → Bool} {l : List α} {j : Nat} {n : α} (h : ∀ x ∈ l.take j, p x = false) (hj : l[j]? = some n) (hn : p n = false) : ∀ x ∈ l.take (j + 1), p x = false := by
  rw [List.take_add_one, hj]
  intro x hx
  rcases List.mem_append.1 hx with h1 | h1
  · exact h x h1
  · have e : x = n := by simpa using h1
    rw [e]; exact hn
def WayInv (L : Nat → Nat) (f : Nat → Int) (d a D C q p : Nat) (w : World) (av pv : Value) (wr : World) : Prop :=
  ∃ (d' a' : Nat) (pre : List Nat), av = .int .i64 (a' : Nat) ∧ a' < 64 ∧ d' ≤ d ∧ f a' = (d' : Int) ∧ pre ++ (wayM L f d' a').drop 1 = wayM L f d a ∧ wr.ownsRow D 3 1 pv pre.length (nats pre) ∧ Below C w wr ∧ Cells wr q (sets L) ∧ Cells wr p (nums f)
theorem way_len {L : Nat → Nat} {f : Nat → Int} {d d' a a' : Nat} {pre : List Nat} (h : pre ++ (wayM L f d' a').drop 1 = wayM L f d a) : pre.length ≤ d + 1 := by
  have := congrArg List.length h
  rw [List.length_append, wayM_len] at this
  omega
theorem way_step {L : Nat → Nat} {f : Nat → Int} {d k a a' n : Nat} {pre : List Nat} (h : pre ++ (wayM L f (k + 1) a').drop 1 = wayM L f d a) (hn : (bitsOf (L a')).find? (fun n => f n == (k : Int)) = some n) : (pre ++ [n]) ++ (wayM L f k n).drop 1 = wayM L f d a := by
  rw [← h, wayM, hn, Option.getD_some, List.drop_succ_cons, List.drop_zero, List.append_assoc]
  congr 1
  exact (wayM_head L f k n).symm
set_option maxRecDepth 100000 in
set_option maxHeartbeats 8000000 in
theorem walk_any (g : Int) (A : Option Addr) (m c : Nat) (es : List (Nat × Nat)) (f : Nat → Int) (a d : Nat) (w : World) (h : EL w A m (cast es)) (hl : Low 64 es) (hm : m ≤ 4096) (ha : a < 64) (hd : f a = (d : Int)) (hd64 : d ≤ 64) (hdown : ∀ a k, a < 64 → f a = ((k + 1 : Nat) : Int) → ∃ n, n ∈ bitsOf (adj es a) ∧ f n = (k : Int)) (hf : ∀ n, -1 ≤ f n ∧ f n ≤ 65) (hw : Good w) :
    Calls Tryd.prog 92 #[gV g A m c, .agg (nums f).toArray, .int .i64 a] w fun e w' => ∃ v, e = .returned v ∧ w'.ownsRow w.heap.size 3 1 v (wayM (adj es) f d a).length (nats (wayM (adj es) f d a)) ∧ Below w.heap.size w w' := by
  obtain ⟨i0, hi0, hz0, hz1, hz2⟩ := info_parts info_int
  have HL : ∀ i, Under 64 (adj es i) := fun i => adj_under hl i
  have HN := Lib.hid (fun w' (hb : Below w.heap.size w w') => next_any g A m c es w' (h.keep hb) hl hm)
  obtain ⟨L, hLe⟩ : ∃ L, adj es = L := ⟨_, rfl⟩
  rw [hLe] at HN HL hdown ⊢
  have kv := ((Below.refl w.heap.size w).alloc (Nat.le_refl _) (.cells #[.int .i64 g, .slice A m c] 26)).alloc (by simp) (.cells (nums f).toArray 112)
  have F0 := Cells.new (w.alloc (.cells #[.int .i64 g, .slice A m c] 26)) (nums f).toArray 112
  simp only [World.size_alloc] at F0
  have HW := Lib.hid (fun w' (h : Below w.heap.size w w') => hw.below h hw.size)
  have HL := Lib.hid HL
  have Hdown := Lib.hid hdown
  have Hf := Lib.hid hf
  have Hd := Lib.hid hd
  have kv := Lib.hid kv
  have F0 := Lib.hid F0
  clear h hl hw hLe hdown hf hd
  go_enter Tryd.func92, Tryd.ntmps92
  go_wp2_with fail
  refine (HN.out _ kv.out).mono ?_
  rintro e w1 ⟨q, rfl, hq, hqs, hb1⟩
  have Q1 := Lib.hid hq
  have F1 := Lib.hid (F0.out.keep hb1)
  have B1 := Lib.hid (below_on kv.out hb1)
  have hsz := B1.out.size
  clear hq hqs hb1
  have O1 := Lib.hid (own_one (C := w1.heap.size) w1 a (Nat.le_refl _))
  have hq1 := Q1.out.lt
  have hp1 := F1.out.lt
  have Bx := (Below.refl w1.heap.size w1).alloc (Nat.le_refl _) (.cells #[.int .i64 (a : Nat)] 3)
  have Q2 := Lib.hid (Q1.out.keep Bx)
  have F2 := Lib.hid (F1.out.keep Bx)
  have B2 := Lib.hid (below_on B1.out Bx)
  clear Bx
  go_wp2_with fail
  go_loopw [2, 8] (fun av pv wr => WayInv L f d a w1.heap.size w.heap.size q (w.heap.size + 1) w av pv wr ∧ w1.heap.size ≤ wr.heap.size) (fun av _ _ => (f (intOf av).toNat).toNat)
  case atStart => exact ⟨⟨d, a, [a], rfl, ha, Nat.le_refl _, Hd.out, (wayM_head L f d a).symm, O1.out, B2.out, Q2.out, F2.out⟩, by simp⟩
  case round =>
    obtain ⟨⟨d', a', pre, rfl, ha', hdd, hfa, hpre, hown, hb, hq, hff⟩, hw1r⟩ := hrel
    have Own := Lib.hid hown
    have Hb := Lib.hid hb
    have Hq := Lib.hid hq
    have Hff := Lib.hid hff
    have Hpre := Lib.hid hpre
    have hplen := way_len hpre
    have hai : (a' : Int) < 64 := by omega
    have z0 := (hff.at_ a').trans (nums_at _ ha')
    rw [hfa] at z0
    have Hfa := Lib.hid hfa
    have hsr := hb.size
    clear hown hb hq hff hpre hfa
    cases d' with
    | zero =>
      have hfin := Hpre.out
      rw [wayM, List.drop_succ_cons, List.drop_zero, List.append_nil] at hfin
      have Of := Own.out
      rw [hfin] at Of
      have Of := Lib.hid (own_down' Of hsz)
      clear hfin
      go_wp2_with fail
      go_ret
      exact ⟨_, rfl, Of.out, Hb.out⟩
    | succ k =>
      have hk0 : (0 : Int) < ((k + 1 : Nat) : Int) := by omega
      have a1 := (Hq.out.at_ a').trans (sets_at L ha')
      have HLs := list_any (L a') wr (under_lt (HL.out a')) (HW.out _ Hb.out)
      have Hm := Lib.hid (fun i n (hi : (bitsOf (L a'))[i]? = some n) => (mem_bitsOf.1 (List.mem_of_getElem? hi)).1)
      have hl64 := bitsOf_len (L a')
      have Hex := Hdown.out a' k ha' Hfa.out
      have Hst := Lib.hid (fun n => way_step (n := n) Hpre.out)
      obtain ⟨l, hl⟩ : ∃ l, bitsOf (L a') = l := ⟨_, rfl⟩
      rw [hl] at HLs Hm hl64 Hex Hst
      have HLs := Lib.hid HLs
      have Hex := Lib.hid Hex
      obtain ⟨wa, rfl⟩ : ∃ wa : World, wa = wr := ⟨_, rfl⟩
      clear hl
      go_wp2_with fail
      refine HLs.out.mono ?_
      rintro e w3 ⟨v, rfl, hown, hb3⟩
      obtain ⟨A3, c3, rfl, hn3, _, _⟩ := own_nats hown
      have N3 := Lib.hid hn3
      have Own3 := Lib.hid (own_below Own.out hb3)
      have E3 := Lib.hid (below_on Hb.out hb3)
      have EQ := Lib.hid (Hq.out.keep hb3)
      have EF := Lib.hid (Hff.out.keep hb3)
      have hsz3 := hb3.size
      clear hown hn3 hb3 z0 a1
      go_wp2_with fail
      go_loopw [26, 2] (fun i av wr => av = .int .i64 (a' : Nat) ∧ ∃ j : Nat, i = .int .i64 (j : Nat) ∧ j ≤ l.length ∧ (∀ x ∈ l.take j, (f x == (k : Int)) = false) ∧ w1.heap.size ≤ wr.heap.size ∧ wr.ownsRow w1.heap.size 3 1 u8 pre.length (nats pre) ∧ Below w.heap.size w wr ∧ Cells wr q (sets L) ∧ Cells wr (w.heap.size + 1) (nums f) ∧ NL wa.heap.size wr A3 l) (fun i _ _ => l.length - (intOf i).toNat)
      case atStart => exact ⟨rfl, 0, rfl, Nat.zero_le _, by simp, by omega, Own3.out, E3.out, EQ.out, EF.out, N3.out⟩
      case round =>
        obtain ⟨rfl, j, rfl, hj, hno, hwr4, hown, hb, hq, hff, hn⟩ := hrel
        have Hno := Lib.hid hno
        have O4 := Lib.hid hown
        have B4 := Lib.hid hb
        have Q4 := Lib.hid hq
        have F4 := Lib.hid hff
        have N4 := Lib.hid hn
        have hs4 := hb.size
        clear hno hown hb hq hff hn
        by_cases hlt : j < l.length
        · obtain ⟨n, b, o, hjn, rfl, _, hbl, hcell⟩ := N4.out.at_ hlt
          have hn64 := Hm.out _ _ hjn
          have hni : (n : Int) < 64 := by omega
          have Hlt := Lib.hid hlt
          have z1 := (F4.out.at_ n).trans (nums_at _ hn64)
          have z0 := (F4.out.at_ a').trans (nums_at _ ha')
          rw [Hfa.out] at z0
          have hb1 := Hf.out n
          have ek : IntKind.i64.wrap (((k + 1 : Nat) : Int) - 1) = (k : Int) := by rw [show ((k + 1 : Nat) : Int) - 1 = (k : Int) by omega]; exact IntWalk.i64_in _ (by omega)
          obtain ⟨x1, hx1⟩ : ∃ x, f n = x := ⟨_, rfl⟩
          rw [hx1] at z1 hb1
          by_cases hz : x1 = (k : Int)
          · subst hz
            have Hfind := Lib.hid (Hst.out n (find_at Hno.out hjn (by rw [hx1]; simp)))
            have Hx1 := Lib.hid hx1
            clear hjn hx1
            go_wp2_with fail
            go_still_tail 7, (by kernel_rfl)
            change wpList _ _ _ _ _ wr.drew
            go_wp2_with (at_builtin; refine wpList_append_own _ rfl _ _ 50 rfl w1.heap.size 3 i0 (.int .i64 0) 1 8 Tryd.underlying50 hi0 hz0 hz1 hz2 rfl (by decide) _ _ _ rfl ((own_drew O4.out).alloc _) ⟨wr.heap.size, 0, none⟩ 1 1 [.int .i64 (n : Nat)] rfl rfl ?c1 ?c2 ?c3 ?c4 ?c5 ?_)
            case c1 =>
              intro k u hu
              match k, hu with
              | 0, hu => simp at hu; subst hu; simp [Addr.add]
            case c2 => intro u hu; simp at hu; subst hu; rfl
            case c3 => unfold maxLen; omega
            case c4 => omega
            case c5 => simp; omega
            intro v' w6 hown' hgrow _
            have O6 := Lib.hid (show w6.ownsRow w1.heap.size 3 1 v' (pre ++ [n]).length (nats (pre ++ [n])) by rw [nats_snoc, List.length_append]; exact hown')
            have hbw : Below w1.heap.size wr w6 := (((Below.refl w1.heap.size wr).drew).alloc hwr4 _).grown hgrow (by simp; omega) (fun k hk => own_ge O4.out hk)
            have B6 := Lib.hid (B4.out.trans (hbw.mono hsz))
            have Q6 := Lib.hid (Q4.out.of_blk (hbw.block q hq1) hbw.size)
            have F6 := Lib.hid (F4.out.of_blk (hbw.block (w.heap.size + 1) hp1) hbw.size)
            have hs6 := hbw.size
            clear hown' hgrow hbw
            go_wp2_with fail
            go_roundw
            case rel => exact ⟨⟨k, n, pre ++ [n], rfl, hn64, by omega, Hx1.out, Hfind.out, O6.out, B6.out, Q6.out, F6.out⟩, by omega⟩
            case measure => simp [intOf, Hx1.out, Hfa.out]
          · have tz : (x1 == (k : Int)) = false := by simpa using hz
            have Hnn := Lib.hid (no_up (p := fun x => f x == (k : Int)) Hno.out hjn (by rw [hx1]; exact tz))
            clear hjn hx1 hz
            go_wp2_with fail
            go_still_tail 7, (by kernel_rfl)
            change wpList _ _ _ _ _ wr.drew
            go_wp2_with fail
            go_roundw
            case rel => exact ⟨rfl, j + 1, by go_num, Hlt.out, Hnn.out, by simpa using hwr4, own_drew O4.out, B4.out.drew, Q4.out.drew, F4.out.drew, N4.out.keep (Below.refl _ _).drew⟩
            case measure => simp [intOf]; have := Hlt.out; omega
        · obtain ⟨n, hn1, hn2⟩ := Hex.out
          have := Hno.out n (by rw [List.take_of_length_le (by omega)]; exact hn1)
          rw [hn2] at this
          simp at this
end Go.Proofs.YthocdmlacfejkaaDoor
