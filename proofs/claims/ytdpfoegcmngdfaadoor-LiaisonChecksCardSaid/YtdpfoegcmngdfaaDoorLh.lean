/- Liaisons: the subsets of a set, one by one. -/
import Derived.RangeFuncNested
import Derived.RangeFuncBound
import Derived.RangeFuncCalls
import Derived.RangeFuncLeaves
import Derived.RangeFuncFrom
import Derived.RangeFuncKeeps
import Derived.Shelf.Abstract
import Derived.Shelf.RegionOpen
import Derived.OwnWalkIn
import Derived.TacticsInMore
import Derived.LoopNIn
import Derived.LoopIn
import Derived.Test.YtdpfoegcmngdfaaDoorLg
namespace Go.Proofs.YtdpfoegcmngdfaaDoor
open Go.RowKit Go.Shelf
theorem grown_below {W W' : World} (h : Below W.heap.size W W') : W.grownBy W' none := ⟨h.os, h.tape, h.output, h.size, fun k hk _ => h.block k hk⟩
theorem rnd_any {m m' : Nat} {P : Program} {l : Nat} {f : FuncId} {tmps : Array Value} {assign body : Code} {w : World} {R : Ending → World → Prop} (h : RoundIn Fence.wide m P l f tmps assign body w R) : RoundIn Fence.wide m' P l f tmps assign body w R :=
  ⟨h.1, fun c cs _ => h.2 c cs (fun d h => by cases h)⟩
theorem yield_any {m m' : Nat} {P : Program} {l : Nat} {args : Array Value} {W : World} {R : Ending → World → Prop} (h : YieldAt Fence.wide m P l args W R) : YieldAt Fence.wide m' P l args W R :=
  let ⟨fn, tmps, assign, body, hy, hR⟩ := h
  ⟨fn, tmps, assign, body, hy, rnd_any hR⟩
/-- A set that fits its type. -/
abbrev Cf := { c : Nat // c < 4096 }
def cF (c : Nat) : Cf := ⟨c % 4096, Nat.mod_lt _ (by decide)⟩
theorem cF_val {c : Nat} (h : c < 4096) : (cF c).1 = c := Nat.mod_eq_of_lt h
theorem chL_short : ∀ {F : List Nat} {c k : Nat}, F.length < k → chL F c k = []
  | [], c, 0, h => absurd h (Nat.not_lt_zero _)
  | [], c, k + 1, _ => rfl
  | x :: F, c, 0, h => absurd h (Nat.not_lt_zero _)
  | x :: F, c, k + 1, h => by
    rw [List.length_cons] at h
    rw [chL, chL_short (by omega), chL_short (by omega)]; rfl
theorem chL_zero (F : List Nat) (c : Nat) : chL F c 0 = [c] := by cases F <;> rfl
theorem diff_low {x : Nat} (h0 : x ≠ 0) (h : x < 18446744073709551616) : diff x (lowB x) = x &&& (x - 1) := by
  apply Nat.eq_of_testBit_eq
  intro v
  rw [diff_bit, lowB_bit h0, minus_one h0 h v]
  congr 1
  rw [← decide_not]
  exact decide_eq_decide.2 ⟨fun h e => h e.symm, fun h e => h e.symm⟩
theorem low_sing {x : Nat} (h0 : x ≠ 0) : lowB x = 2 ^ Lib.ctz 64 x := by unfold lowB; rw [if_neg h0]
theorem chL_step {x c k : Nat} (h0 : x ≠ 0) (h : x < 18446744073709551616) : chL (bitsOf x) c (k + 1) = chL (bitsOf (diff x (lowB x))) (c ||| lowB x) k ++ chL (bitsOf (diff x (lowB x))) c (k + 1) := by
  rw [diff_low h0 h, bits_low h0 h, chL, low_sing h0]
set_option maxRecDepth 100000 in
set_option maxHeartbeats 4000000 in
theorem choose0_any (l c : Nat) (F : Nat) (W : World) (R : Ending → World → Prop) (hY : YieldAt Fence.wide 0 Tryd.prog l #[.int .u64 (c : Nat)] W fun e W' => ∃ b, e = .returned (.bool b) ∧ R e W') :
    Calls Tryd.prog 75 #[.int .u64 F, .int .u64 c, .int .i64 0, .func (.yield l) #[] #[]] W R := by
  have HY := Lib.hid hY
  clear hY
  refine (callsIn_wide (n := 3)).1 ?_
  refine callsIn_of_wp Tryd.func75 rfl trivial ?_ rfl
  simp only [Tryd.ntmps75, List.size_toArray, List.length_cons, List.length_nil, Nat.reduceAdd, Nat.reduceSub, Array.replicate_succ, Array.replicate_zero, List.push_toArray, List.append_toArray, List.nil_append, List.cons_append]
  obtain ⟨fn, tm, asg, bd, hy, hR⟩ := HY.out
  gi_wp2
  refine (rnd_any hR).mono ?_
  rintro e w3 ⟨b, rfl, hr⟩
  gi_wp2
  exact hr
set_option maxRecDepth 100000 in
set_option maxHeartbeats 8000000 in
theorem choose_any (l N : Nat) (J Jx : List Cf → World → Prop) (hY : ∀ pre (c : Cf) W, J pre W → pre.length < N → YieldAt Fence.wide 0 Tryd.prog l #[.int .u64 (c.1 : Nat)] W fun e W' => (e = .returned (.bool true) ∧ J (pre ++ [c]) W') ∨ (e = .returned (.bool false) ∧ Jx (pre ++ [c]) W')) :
    ∀ (k F c : Nat) (pre : List Cf) (W : World), F < 4096 → c < 4096 → k ≤ 12 → J pre W → pre.length + (chL (bitsOf F) c k).length ≤ N →
    Calls Tryd.prog 75 #[.int .u64 F, .int .u64 c, .int .i64 (k : Nat), .func (.yield l) #[] #[]] W fun e W' =>
      (e = .returned (.bool true) ∧ J (pre ++ (chL (bitsOf F) c k).map cF) W') ∨ (e = .returned (.bool false) ∧ ∃ q, q <+: pre ++ (chL (bitsOf F) c k).map cF ∧ q ≠ [] ∧ Jx q W')
  | 0, F, c, pre, W, hF, hc, hk, hj, hN => by
    rw [chL_zero] at hN ⊢
    have h := hY pre (cF c) W hj (by rw [List.length_singleton] at hN; omega)
    rw [cF_val (by omega)] at h
    refine choose0_any l c F W _ (YieldAt.mono h ?_)
    rintro e W4 (⟨rfl, h4⟩ | ⟨rfl, h4⟩)
    · exact ⟨true, rfl, .inl ⟨rfl, h4⟩⟩
    · exact ⟨false, rfl, .inr ⟨rfl, pre ++ [cF c], List.prefix_refl _, by simp, h4⟩⟩
  | k + 1, F, c, pre, W, hF, hc, hk, hj, hN => by
    have IH := Lib.hid (choose_any l N J Jx hY k)
    have J0 := Lib.hid hj
    have HN := Lib.hid hN
    have ek : ((k + 1 : Nat) : Int) - 1 = ((k : Nat) : Int) := by omega
    have ek2 : IntKind.i64.wrap (((k + 1 : Nat) : Int) - 1) = ((k : Nat) : Int) := by rw [ek]; exact IntWalk.i64_in _ (by omega)
    have wk : wrap64 ((k : Nat) : Int) = ((k : Nat) : Int) := IntWalk.wrap64_in _ (by omega)
    have tk : ((((k + 1 : Nat) : Nat) : Int) == 0) = false := by rw [beq_eq_false_iff_ne]; omega
    obtain ⟨K, hK⟩ : ∃ K, k + 1 = K := ⟨_, rfl⟩
    have HC := Lib.hid (fun (x : Nat) (h0 : x ≠ 0) (h : x < 18446744073709551616) => chL_step (c := c) (k := k) h0 h)
    have HE := Lib.hid (fun (x : Nat) (h : (bitsOf x).length < K) => chL_short (c := c) h)
    rw [hK] at HC HN ek ek2 tk hk ⊢
    have hK1 : 1 ≤ K := by omega
    have HK := Lib.hid hK
    clear hj hY hN hK
    go_enter Tryd.func75, Tryd.ntmps75
    go_wp2_with fail
    go_loopw [0] (fun a wr => ∃ (x : Nat) (D : List Nat), a = .int .u64 (x : Nat) ∧ x < 4096 ∧ D ++ chL (bitsOf x) c K = chL (bitsOf F) c K ∧ J (pre ++ D.map cF) wr) (fun a _ => (intOf a).toNat)
    case atStart => exact ⟨F, [], rfl, hF, rfl, by simpa using J0.out⟩
    case round =>
      obtain ⟨x, D, rfl, hx, hD, hj⟩ := hrel
      have HD := Lib.hid hD
      have Hj := Lib.hid hj
      clear hD hj
      have HS := Lib.hid (fun w' => siz_any x w' hx)
      by_cases h1 : (bitsOf x).length < K
      · have t1 : decide ((K : Int) ≤ (((bitsOf x).length : Nat) : Int)) = false := decide_eq_false (by omega)
        have t2 : decide (K ≤ (bitsOf x).length) = false := decide_eq_false (by omega)
        have Hf := Lib.hid (show D = chL (bitsOf F) c K by have := HD.out; rwa [HE.out x h1, List.append_nil] at this)
        obtain ⟨z, hz⟩ : ∃ z, (bitsOf x).length = z := ⟨_, rfl⟩
        rw [hz] at HS t1 t2
        clear h1 hz
        go_wp2_with fail
        refine (HS.out _).mono ?_
        rintro e w1 ⟨rfl, rfl⟩
        go_wp2_with fail
        go_ret
        exact .inl ⟨rfl, by rw [← Hf.out]; exact Hj.out⟩
      · have t1 : decide ((K : Int) ≤ (((bitsOf x).length : Nat) : Int)) = true := decide_eq_true (by omega)
        have t2 : decide (K ≤ (bitsOf x).length) = true := decide_eq_true (by omega)
        have h0 : x ≠ 0 := fun e => by subst e; rw [bitsOf_zero] at h1; simp at h1; omega
        have hx64 : x < 18446744073709551616 := by omega
        have e1 := neg_low hx64
        have hl : lowB x < 4096 := under_lt (k := 12) fun v hv => lt_under (k := 12) hx v (lowB_le hx64 v hv)
        have e2 : bits .andNot .u64 (x : Int) ((lowB x : Nat) : Int) = ((diff x (lowB x) : Nat) : Int) := bits_diff _ _ hx64 (by omega)
        have e3 : bits .or .u64 (c : Int) ((lowB x : Nat) : Int) = ((c ||| lowB x : Nat) : Int) := bits_or_u64_nat _ _ (by omega) (by omega)
        have hcl : c ||| lowB x < 4096 := Nat.or_lt_two_pow (n := 12) hc hl
        have Hm := Lib.hid (show diff x (lowB x) < x by rw [diff_low h0 hx64]; exact list_less h0)
        have hdx := diff_lt (b := lowB x) hx
        have HQ := Lib.hid (HC.out x h0 hx64)
        have Hlen := Lib.hid (show (pre ++ D.map cF).length + (chL (bitsOf (diff x (lowB x))) (c ||| lowB x) k).length ≤ N by
          have a1 := HN.out
          have a2 := congrArg List.length HD.out
          rw [HQ.out, List.length_append, List.length_append] at a2
          rw [List.length_append, List.length_map]; omega)
        obtain ⟨z, hz⟩ : ∃ z, (bitsOf x).length = z := ⟨_, rfl⟩
        rw [hz] at HS t1 t2
        obtain ⟨lo, hlo⟩ : ∃ lo, lowB x = lo := ⟨_, rfl⟩
        rw [hlo] at e1 e2 e3 hcl Hm hdx HQ Hlen
        obtain ⟨dx, hdd⟩ : ∃ dx, diff x lo = dx := ⟨_, rfl⟩
        rw [hdd] at e2 Hm hdx HQ Hlen
        obtain ⟨cl, hcc⟩ : ∃ cl, c ||| lo = cl := ⟨_, rfl⟩
        rw [hcc] at e3 hcl HQ Hlen
        have HR := Lib.hid (IH.out dx cl (pre ++ D.map cF) wr hdx hcl (by omega) Hj.out Hlen.out)
        have Hk := Lib.hid hk
        clear h1 h0 hz hl hlo hdd hcc hcl hx64 hk
        go_wp2_with fail
        refine (HS.out _).mono ?_
        rintro e w1 ⟨rfl, rfl⟩
        go_wp2_with fail
        refine HR.out.mono ?_
        rintro e w2 (⟨rfl, hj⟩ | ⟨rfl, q, hq, hne, hjx⟩)
        · have Hj2 := Lib.hid hj
          clear hj
          go_wp2_with fail
          go_roundw
          case rel =>
            refine ⟨dx, D ++ chL (bitsOf dx) cl k, rfl, hdx, ?_, ?_⟩
            · rw [List.append_assoc, ← HQ.out, HD.out]
            · rw [List.map_append, ← List.append_assoc]; exact Hj2.out
          case measure => simp [intOf]; exact Hm.out
        · have Hq := Lib.hid hq
          have Hjx := Lib.hid hjx
          have Hne := Lib.hid hne
          clear hq hjx hne
          go_wp2_with fail
          go_ret
          refine .inr ⟨rfl, q, Hq.out.trans ?_, Hne.out, Hjx.out⟩
          have e5 : (chL (bitsOf F) c K).map cF = D.map cF ++ ((chL (bitsOf dx) cl k).map cF ++ (chL (bitsOf dx) c K).map cF) := by
            rw [← HD.out, HQ.out, List.map_append, List.map_append]
          rw [e5, ← List.append_assoc, ← List.append_assoc]
          exact List.prefix_append _ _
end Go.Proofs.YtdpfoegcmngdfaaDoor
