/- The reference's Path. -/
import Derived.Test.YthocdmlacfejkaaDoorRwk
namespace Go.Proofs.YthocdmlacfejkaaDoor
open Go.RowKit
attribute [local irreducible] wpStill
theorem lev_turn {es : List (Nat × Nat)} (hl : Low 64 es) (a b j : Nat) : (lev (adj es) (sing a) j).testBit b = (lev (adjR es) (sing b) j).testBit a := by
  rw [Bool.eq_iff_iff, lev_walk, lev_walk]
  constructor
  · rintro ⟨x, i, hi, hx, hw⟩
    rw [sing_bit, decide_eq_true_eq] at hx
    subst hx
    exact ⟨b, i, hi, by rw [sing_bit]; simp, hw.turn hl⟩
  · rintro ⟨x, i, hi, hx, hw⟩
    rw [sing_bit, decide_eq_true_eq] at hx
    subst hx
    exact ⟨a, i, hi, by rw [sing_bit]; simp, hw.turn' hl⟩
theorem dist_turn {es : List (Nat × Nat)} (hl : Low 64 es) (a b : Nat) : dist (adj es) (sing a) b = dist (adjR es) (sing b) a := by
  unfold dist distTo
  rw [show (fun j => (lev (adj es) (sing a) j).testBit b) = fun j => (lev (adjR es) (sing b) j).testBit a from funext fun j => lev_turn hl a b j]
theorem wayM_congr {L : Nat → Nat} {f g : Nat → Int} (h : ∀ x v, v ∈ bitsOf (L x) → f v = g v) : ∀ (d a : Nat), wayM L f d a = wayM L g d a
  | 0, a => rfl
  | d + 1, a => by
    have e : (bitsOf (L a)).find? (fun n => f n == (d : Int)) = (bitsOf (L a)).find? (fun n => g n == (d : Int)) := by
      have : ∀ l : List Nat, (∀ v ∈ l, f v = g v) → l.find? (fun n => f n == (d : Int)) = l.find? (fun n => g n == (d : Int)) := by
        intro l
        induction l with
        | nil => intro _; rfl
        | cons x l ih =>
          intro hx
          rw [List.find?_cons, List.find?_cons, hx x (List.mem_cons_self ..), ih fun v hv => hx v (List.mem_cons_of_mem _ hv)]
      exact this _ (h a)
    rw [wayM, wayM, e, wayM_congr h d]
theorem tab_turn {n : Nat} {es : List (Nat × Nat)} (hg : Fine n es) {v : Nat} (hv : v < n) (b : Nat) : tabF es v (n + 1) b = dist (adjR es) (sing b) v := by
  rw [tabF_full hg.low hg.n64 hv, dist_turn hg.low64]
theorem way_tab {n : Nat} {es : List (Nat × Nat)} (hg : Fine n es) (b d a : Nat) : wayM (adj es) (fun v => tabF es v (n + 1) b) d a = wayM (adj es) (dist (adjR es) (sing b)) d a :=
  wayM_congr (fun x v hv => tab_turn hg (adj_under hg.low x v (mem_bitsOf.1 hv).2) b) d a
def PthPost (n : Nat) (es : List (Nat × Nat)) (a b : Nat) (w : World) (e : Ending) (w' : World) : Prop :=
  ((dist (adjR es) (sing b) a < 0 ∧ e = .returned (.tuple #[.slice none 0 0, .int .i64 10])) ∨ ∃ (d : Nat) (v : Value), dist (adjR es) (sing b) a = (d : Int) ∧ e = .returned (.tuple #[v, .int .i64 0]) ∧ w'.ownsRow w.heap.size 3 1 v (wayM (adj es) (dist (adjR es) (sing b)) d a).length (nats (wayM (adj es) (dist (adjR es) (sing b)) d a))) ∧ Below w.heap.size w w'
set_option maxRecDepth 100000 in
set_option maxHeartbeats 8000000 in
theorem refPath_any (n : Nat) (A : Option Addr) (m c : Nat) (es : List (Nat × Nat)) (a b : Nat) (w : World) (h : EL w A m (cast es)) (hg : Fine n es) (ha : a < n) (hb : b < n) :
    Calls Tryd.prog 57 #[gV n A m c, .int .i64 a, .int .i64 b] w (PthPost n es a b w) := by
  have kv := (Below.refl w.heap.size w).alloc (Nat.le_refl _) (.cells #[.int .i64 (n : Nat), .slice A m c] 35)
  have G0 := Lib.hid (Cells.new w #[.int .i64 (n : Nat), .slice A m c] 35)
  have HT := Lib.hid (table_any n A m c es _ (h.keep kv) hg)
  have HW := Lib.hid (fun w' T cT d (hb' : Below w.heap.size w w') (hT : TabA w'.heap.size w' T n fun a => tabF es a (n + 1)) (hd : d ≤ 64) => refWalk_any n A m c es T cT a b d _ w' (h.keep hb') hg hT ha hb hd)
  have Htt := Lib.hid (tab_turn hg ha b)
  have Hwt := Lib.hid (fun d => way_tab hg b d a)
  have Hbd := Lib.hid (distTo_bd (adjR es) (sing b) 65 a)
  have Kv := Lib.hid kv
  have hai : (a : Int) < n := by omega
  have hbi : (b : Int) < n := by omega
  clear h hg kv
  go_enter Tryd.func57, Tryd.ntmps57
  have g0 := G0.out.at_ 0
  have g1 := G0.out.at_ 1
  simp only [List.getElem?_cons_zero, List.getElem?_cons_succ] at g0 g1
  go_wp2_with fail
  refine HT.out.mono ?_
  rintro e w1 ⟨v, rfl, hout, hb1⟩
  obtain ⟨T, cT, rfl, htab⟩ := hout.tab
  have T1 := Lib.hid htab
  have G1 := Lib.hid (G0.out.keep hb1)
  have B1 := Lib.hid (below_on Kv.out hb1)
  obtain ⟨gt, p, e1, _, _, _, t1, hc⟩ := htab a ha
  have hc1 := (hc.at_ b).trans (numsN_at _ hb)
  simp only at hc1
  rw [Htt.out] at hc1
  subst e1
  clear hb1 hout hc htab g0 g1
  have g0 := G1.out.at_ 0
  have g1 := G1.out.at_ 1
  simp only [List.getElem?_cons_zero, List.getElem?_cons_succ] at g0 g1
  obtain ⟨u, hu⟩ : ∃ u, dist (adjR es) (sing b) a = u := ⟨_, rfl⟩
  rw [hu] at hc1
  have Hu := Lib.hid hu
  have hbd := Hbd.out
  unfold dist at hu
  rw [hu] at hbd
  clear hu
  by_cases h0 : u < 0
  · have t0 : decide (u < 0) = true := decide_eq_true h0
    have H0 := Lib.hid h0
    clear h0 hbd
    go_wp2_with fail
    go_ret2
    exact ⟨.inl ⟨by rw [Hu.out]; exact H0.out, rfl⟩, B1.out⟩
  · obtain ⟨d, rfl⟩ : ∃ d : Nat, u = (d : Int) := ⟨u.toNat, by omega⟩
    have hd : d ≤ 64 := by omega
    have t0 : decide ((d : Int) < 0) = false := decide_eq_false h0
    have HWk := Lib.hid (fun w' (hbb : Below w1.heap.size w1 w') => HW.out w' (some ⟨gt, 0, none⟩) cT d (below_on B1.out hbb) ((T1.out.keep hbb).up hbb.size) hd)
    clear h0 hbd hd
    go_wp2_with fail
    go_still_tail 11, (by kernel_rfl)
    change wpList _ _ _ _ _ w1.drew
    go_wp2_with fail
    refine (HWk.out _ (Below.refl _ _).drew).mono ?_
    rintro e w2 ⟨v, rfl, hown, hb2⟩
    have B2 := Lib.hid (below_on B1.out.drew hb2)
    rw [Hwt.out] at hown
    have O2 := Lib.hid (own_down' hown B1.out.size)
    clear hown hb2
    go_wp2_with fail
    go_ret2
    exact ⟨.inr ⟨d, v, Hu.out, rfl, O2.out⟩, B2.out⟩
end Go.Proofs.YthocdmlacfejkaaDoor
