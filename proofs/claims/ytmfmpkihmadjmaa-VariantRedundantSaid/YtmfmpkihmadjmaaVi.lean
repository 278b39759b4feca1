/- The allowed configurations, one by one: the function that is called with each configuration. -/
import Derived.RangeFuncNested
import Derived.RangeFuncBound
import Derived.RangeFuncCalls
import Derived.RangeFuncLeaves
import Derived.RangeFuncFrom
import Derived.RangeFuncKeeps
import Derived.Shelf.Abstract
import Derived.Shelf.RegionOpen
import Derived.OwnWalkIn
import Derived.TacticsInMore
import Derived.LoopNIn
import Derived.LoopIn
import Derived.Test.YtmfmpkihmadjmaaVa
namespace Go.Proofs.Ytmfmpkihmadjmaa
open Go.RowKit Go.Shelf
theorem grown_below {W W' : World} (h : Below W.heap.size W W') : W.grownBy W' none := ⟨h.os, h.tape, h.output, h.size, fun k hk _ => h.block k hk⟩
/-- Whether a configuration is one of a choice, and allowed. -/
def okB (rs : List (ByteArray × List (Nat × Bool))) (ch : List (Nat × Bool)) (c : Nat) : Bool := ch.all (litB c) && rs.all (satB c)
theorem rnd_any {m m' : Nat} {P : Program} {l : Nat} {f : FuncId} {tmps : Array Value} {assign body : Code} {w : World} {R : Ending → World → Prop} (h : RoundIn Fence.wide m P l f tmps assign body w R) : RoundIn Fence.wide m' P l f tmps assign body w R :=
  ⟨h.1, fun c cs _ => h.2 c cs (fun d h => by cases h)⟩
theorem yield_any {m m' : Nat} {P : Program} {l : Nat} {args : Array Value} {W : World} {R : Ending → World → Prop} (h : YieldAt Fence.wide m P l args W R) : YieldAt Fence.wide m' P l args W R :=
  let ⟨fn, tmps, assign, body, hy, hR⟩ := h
  ⟨fn, tmps, assign, body, hy, rnd_any hR⟩
section
attribute [local go_sem] Oper.semAt_some
set_option maxRecDepth 100000 in
set_option maxHeartbeats 4000000 in
theorem visit_any (l c pC pF pY : Nat) (CA RA : Option Addr) (cn cd rn rd : Nat) (rs : List (ByteArray × List (Nat × Bool))) (ch : List (Nat × Bool)) (W : World) (R : Ending → World → Prop)
    (hc : c < 18446744073709551616) (hC : W.cell? ⟨pC, 0, none⟩ = some (.slice CA cn cd)) (hF : W.cell? ⟨pF, 7, none⟩ = some (.slice RA rn rd)) (hYc : W.cell? ⟨pY, 0, none⟩ = some (.func (.yield l) #[] #[]))
    (hch : LitL W CA (lc ch)) (hcl : ch.length = cn) (hcw : LowL ch) (hcm : cn ≤ 4611686018427387904) (hrs : RuleL W RA rs) (hrl : rs.length = rn) (hrw : LowR rs) (hrm : rn ≤ 4611686018427387904)
    (hY : okB rs ch c = true → ∀ W1, Below W.heap.size W W1 → YieldAt Fence.wide 0 Try.prog l #[.int .u64 (c : Nat)] W1 fun e W' => ∃ b, e = .returned (.bool b) ∧ R e W') :
    Calls Try.prog 70 #[.int .u64 (c : Nat), .pointer (some ⟨pC, 0, none⟩), .pointer (some ⟨pF, 0, none⟩), .pointer (some ⟨pY, 0, none⟩)] W fun e W' =>
      (okB rs ch c = false ∧ e = .returned (.bool true) ∧ Below W.heap.size W W') ∨ (okB rs ch c = true ∧ R e W') := by
  have HH := holds_any c CA cn cd ch W hch hcl hcw hc hcm
  have HI := fun w1 (hb : Below W.heap.size W w1) => isAllowed_any c RA rn rd rs w1 (hrs.keep hb) hrl hrw hc hrm
  unfold okB at hY ⊢
  obtain ⟨q1, hq1⟩ : ∃ q, ch.all (litB c) = q := ⟨_, rfl⟩
  obtain ⟨q2, hq2⟩ : ∃ q, rs.all (satB c) = q := ⟨_, rfl⟩
  rw [hq1] at HH hY ⊢
  rw [hq2] at HI hY ⊢
  have HH := Lib.hid HH
  have HI := Lib.hid HI
  have HY := Lib.hid hY
  have K7 := Lib.hid (fun w' (hb : Below W.heap.size W w') => (hb.cell (p := ⟨pF, 7, none⟩) (World.block_lt_of_cell? _ _ hF)).trans hF)
  have K0 := Lib.hid (fun w' (hb : Below W.heap.size W w') => (hb.cell (p := ⟨pY, 0, none⟩) (World.block_lt_of_cell? _ _ hYc)).trans hYc)
  clear hq1 hq2 hY hch hcl hcw hrs hrl hrw hc hF hYc
  refine (callsIn_wide (n := 3)).1 ?_
  refine callsIn_of_wp Try.func70 rfl trivial ?_ rfl
  simp only [Try.ntmps70, List.size_toArray, List.length_cons, List.length_nil, Nat.reduceAdd, Nat.reduceSub, Array.replicate_succ, Array.replicate_zero, List.push_toArray, List.append_toArray, List.nil_append, List.cons_append]
  cases q1
  · gi_wp2_with (refine ⟨trivial, ?_⟩; gi_at_call 67; refine (callsIn_wide.2 HH.out).mono ?_; clear HH; rintro e w1 ⟨rfl, hb1⟩)
    refine ⟨trivial, ?_⟩
    gi_wp2
    refine ⟨fun _ h => (by cases h), ?_⟩
    gi_wp2
    go_ret
    exact .inl ⟨rfl, rfl, hb1⟩
  · cases q2
    · gi_wp2_with (first
        | (refine ⟨trivial, ?_⟩; gi_at_call 67; refine (callsIn_wide.2 HH.out).mono ?_; clear HH; rintro e w1 ⟨rfl, hb1⟩; have k7 := K7.out _ hb1; have k0 := K0.out _ hb1)
        | (refine ⟨trivial, ?_⟩; gi_at_call 56; refine (callsIn_wide.2 (HI.out _ hb1)).mono ?_; clear HI; rintro e w2 ⟨rfl, hb2⟩))
      refine ⟨fun _ h => (by cases h), ?_⟩
      gi_wp2
      go_ret
      exact .inl ⟨rfl, rfl, below_on hb1 hb2⟩
    · gi_wp2_with (first
        | (refine ⟨trivial, ?_⟩; gi_at_call 67; refine (callsIn_wide.2 HH.out).mono ?_; clear HH; rintro e w1 ⟨rfl, hb1⟩; have k7 := K7.out _ hb1)
        | (refine ⟨trivial, ?_⟩; gi_at_call 56; refine (callsIn_wide.2 (HI.out _ hb1)).mono ?_; clear HI; rintro e w2 ⟨rfl, hb2⟩; have k0 := K0.out _ (below_on hb1 hb2); obtain ⟨fn, tm, asg, bd, hy, hR⟩ := HY.out rfl _ (below_on hb1 hb2)))
      refine (rnd_any hR).mono ?_
      rintro e w3 ⟨b, rfl, hr⟩
      gi_wp2
      go_ret
      exact .inr ⟨rfl, hr⟩
end
end Go.Proofs.Ytmfmpkihmadjmaa
