/- Twists: the plain functions. -/
import Derived.Test.YthhobhjcnmmipaaGreatDoorSTct
namespace Go.Proofs.YthhobhjcnmmipaaGreatDoor
open Go.Value renaming pointer→Jp,int→Ji,int→M0
open Go.IntKind renaming i64→Jl
open Go.Obj renaming cells→Jc
open _root_.Option renaming none→Jn
open Go renaming World→JW
open _root_.Nat renaming le_refl→M1
open Go.RowKit
theorem cf32(args : Array Value)(w : JW) : (callFunc 32 args).run Tryz.prog w = .ok (.enter 32 args) w :=by go_simp
theorem cf33(args : Array Value)(w : JW) : (callFunc 33 args).run Tryz.prog w = .ok (.enter 33 args) w :=by go_simp
theorem cf54(args : Array Value)(w : JW) : (callFunc 54 args).run Tryz.prog w = .ok (.enter 54 args) w :=by go_simp
theorem cf31(args : Array Value)(w : JW) : (callFunc 31 args).run Tryz.prog w = .ok (.enter 31 args) w :=by go_simp
theorem cf52(args : Array Value)(w : JW) : (callFunc 52 args).run Tryz.prog w = .ok (.enter 52 args) w :=by go_simp
theorem cf23(args : Array Value)(w : JW) : (callFunc 23 args).run Tryz.prog w = .ok (.enter 23 args) w :=by go_simp
theorem cf18(args : Array Value)(w : JW) : (callFunc 18 args).run Tryz.prog w = .ok (.enter 18 args) w :=by go_simp
theorem cf30(args : Array Value)(w : JW) : (callFunc 30 args).run Tryz.prog w = .ok (.enter 30 args) w :=by go_simp
theorem cf38(args : Array Value)(w : JW) : (callFunc 38 args).run Tryz.prog w = .ok (.enter 38 args) w :=by go_simp
theorem cf50(args : Array Value)(w : JW) : (callFunc 50 args).run Tryz.prog w = .ok (.enter 50 args) w :=by go_simp
theorem cf51(args : Array Value)(w : JW) : (callFunc 51 args).run Tryz.prog w = .ok (.enter 51 args) w :=by go_simp
theorem cf48(args : Array Value)(w : JW) : (callFunc 48 args).run Tryz.prog w = .ok (.enter 48 args) w :=by go_simp
theorem cf71(args : Array Value)(w : JW) : (callFunc 71 args).run Tryz.prog w = .ok (.enter 71 args) w :=by go_simp
theorem cf59(args : Array Value)(w : JW) : (callFunc 59 args).run Tryz.prog w = .ok (.enter 59 args) w :=by go_simp
theorem cf24(args : Array Value)(w : JW) : (callFunc 24 args).run Tryz.prog w = .ok (.enter 24 args) w :=by go_simp
theorem cf25(args : Array Value)(w : JW) : (callFunc 25 args).run Tryz.prog w = .ok (.enter 25 args) w :=by go_simp
theorem FH(rs rs' : List R4)(h : rs.length =3)(h' : rs'.length =3) : Tryz.prog.built 37 [(0, .agg (flat rs).toArray), (1, .agg (flat rs').toArray)] =some (flat rs ++ flat rs').toArray :=by
 obtain⟨x, y, z, rfl⟩ :=VJ h;obtain⟨x', y', z', rfl⟩ :=VJ h'
 kernel_rfl
set_option maxRecDepth 100000 in
set_option maxHeartbeats 16000000 in
theorem Dq{x y : Value}{a0 a1 a2 b0 b1 b2 p0 p1 p2 : Rat}{k m n : Nat}{w : JW}(h : (Fct.num [] k [a0, a1, a2, b0, b1, b2]).P w x)(h' : (Fct.num [] m [p0, p1, p2]).P w y)(hn : (decide (k + (k + m + (k + m) + 1) + 1 <= n) && decide (n <= 900)) =true)(hg : Good w) :
  Calls Tryz.prog 24 #[x, y] w (Ret w (Fct.num [] n [b0 + (a1 * p2-a2 * p1), b1 + (a2 * p0-a0 * p2), b2 + (a0 * p1-a1 * p0)])) :=by
 simp only[Bool.and_eq_true, decide_eq_true_eq]at hn;obtain⟨rs0, rfl, hr0, f0⟩ :=h;obtain⟨A0, hA0⟩ : ∃A, ([] ++ flat rs0).toArray =A :=⟨_, rfl⟩;obtain⟨rs1, rfl, hr1, f1⟩ :=h';obtain⟨A1, hA1⟩ : ∃A, ([] ++ flat rs1).toArray =A :=⟨_, rfl⟩;have k0 :=(Below.refl w.heap.size w).alloc (M1 _) (Jc A0 37);have k1 :=k0.alloc (by simp) (Jc A1 35);have k2 :=k1.alloc (by simp;omega) (Jc #[M0 Jl 0, Jp Jn, Ji Jl 0, Jp Jn, Ji Jl 0, Jp Jn, Ji Jl 0, Jp Jn, Ji Jl 0, Jp Jn, Ji Jl 0, Jp Jn] 35);have V0 :=Fi.box hA0.symm hr0 f0 37;have V1 :=Fi.box hA1.symm (hr1.keep k0) f1 35;have V2 :=Jh.new ((w.alloc (Jc A0 37)).alloc (Jc A1 35)) #[M0 Jl 0, Jp Jn, Ji Jl 0, Jp Jn, Ji Jl 0, Jp Jn, Ji Jl 0, Jp Jn, Ji Jl 0, Jp Jn, Ji Jl 0, Jp Jn] 35;have j1 :=(Below.refl (w.alloc (Jc A0 37)).heap.size (w.alloc (Jc A0 37))).alloc (M1 _) (Jc A1 35);have j2 :=(Below.refl ((w.alloc (Jc A0 37)).alloc (Jc A1 35)).heap.size ((w.alloc (Jc A0 37)).alloc (Jc A1 35))).alloc (M1 _) (Jc #[M0 Jl 0, Jp Jn, Ji Jl 0, Jp Jn, Ji Jl 0, Jp Jn, Ji Jl 0, Jp Jn, Ji Jl 0, Jp Jn, Ji Jl 0, Jp Jn] 35);replace V0 :=((V0.keep j1).keep j2);replace V1 :=(V1.keep j2);simp only[World.size_alloc]at V0 V1 V2;rw[hA0];rw[hA1];obtain⟨W, hW⟩ : ∃W, ((w.alloc (Jc A0 37)).alloc (Jc A1 35)).alloc (Jc #[M0 Jl 0, Jp Jn, Ji Jl 0, Jp Jn, Ji Jl 0, Jp Jn, Ji Jl 0, Jp Jn, Ji Jl 0, Jp Jn, Ji Jl 0, Jp Jn] 35) =W :=⟨_, rfl⟩;rw[hW]at k2 V0 V1 V2;replace V0 :=Lh (fun w' (hb : Below W.heap.size W w') => V0.keep hb);replace V1 :=Lh (fun w' (hb : Below W.heap.size W w') => V1.keep hb)
 replace V2 :=Lh V2;have K :=Lh k2;have G :=Lh (fun w' (hb : Below W.heap.size W w') => hg.below (k2.trans (hb.mono k2.size)));clear hg hr0 f0 hA0 hr1 f1 hA1 k0 k1 k2 j1 j2;go_enter Tryz.func24, Tryz.ntmps24;go_upto_region 1 with fail
 try simp only[hW]
 clear hW;refine Fy 12 [(5, false, 0), (6, false, 0), (7, false, 0), (8, false, 0), (9, false, 0), (10, false, 0), (11, false, 0)] []
  [Fct.val (Jp (some ⟨w.heap.size, 12, Jn⟩)), Fct.num [] k [b0, b1, b2], Fct.val (Jp (some ⟨w.heap.size, 0, Jn⟩)), Fct.num [] k [a0, a1, a2], Fct.num [] m [p0, p1, p2], Fct.num [] (k + m + (k + m) + 1) [a1 * p2-a2 * p1, a2 * p0-a0 * p2, a0 * p1-a1 * p0], Fct.num [] n [b0 + (a1 * p2-a2 * p1), b1 + (a2 * p0-a0 * p2), b2 + (a0 * p1-a1 * p0)]]
  #[true, true, true, true, true, true, true, false] 1 rfl (by kernel_rfl) rfl (by kernel_rfl) ⟨?_, ?_, ?_, ?_, ?_, ?_, ?_, trivial⟩
  (fun val => ⟨#[.agg A0, .agg A1, Jp (some ⟨w.heap.size, 0, Jn⟩), Jp (some ⟨w.heap.size + 1, 0, Jn⟩), Jp (some ⟨w.heap.size + 1 + 1, 0, Jn⟩), val 5, val 6, val 7, val 8, val 9, val 10, val 11], []⟩) (fun val => by kernel_rfl) (fun val v hB hF => ⟨?_⟩)
 ·exact E4 rfl rfl (.env rfl (by kernel_rfl)) rfl (by kernel_rfl) (fun w => by go_simp)
 ·exact E6 3 3 V0.out (.dep 0 rfl (by kernel_rfl)) rfl rfl rfl (by kernel_rfl) (by kernel_rfl) (by kernel_rfl)
 ·exact E4 rfl rfl (.env rfl (by kernel_rfl)) rfl (by kernel_rfl) (fun w => by go_simp)
 ·exact E6 0 3 V0.out (.dep 2 rfl (by kernel_rfl)) rfl rfl rfl (by kernel_rfl) (by kernel_rfl) (by kernel_rfl)
 ·exact E7 V1.out (.env rfl (by kernel_rfl)) rfl rfl rfl (by kernel_rfl) (by kernel_rfl)
 ·exact EZ cf32 rfl rfl rfl rfl rfl (by kernel_rfl) (fun a v hB hE hD => FO (hD 3 _ (by kernel_rfl) rfl) (hD 4 _ (by kernel_rfl) rfl) (by simp;omega) (G.out v hB))
 ·exact EZ cf33 rfl rfl rfl rfl rfl (by kernel_rfl) (fun a v hB hE hD => DC (hD 1 _ (by kernel_rfl) rfl) (hD 5 _ (by kernel_rfl) rfl) (by simp;omega) (G.out v hB))
 ·have hx :=hF 6 _ rfl;clear hF;refine Fr (n :=12) (V2.out.keep hB) hx rfl rfl rfl rfl rfl (by kernel_rfl) (by kernel_rfl) (fun v2 hW hV => ?_);have Kf :=hW.below (show w.heap.size <= w.heap.size + 1 + 1 by omega) (K.out.trans (hB.mono K.out.size));clear K hB V0 V1 V2 G hx hW;go_wp2_with fail
  exact Fu (n :=12) hV Kf rfl rfl (by kernel_rfl) (by kernel_rfl) rfl
