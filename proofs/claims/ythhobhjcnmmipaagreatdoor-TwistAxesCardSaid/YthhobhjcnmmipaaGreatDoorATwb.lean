/- Twists: more of the plain functions. -/
import Derived.Test.YthhobhjcnmmipaaGreatDoorATwa
namespace Go.Proofs.YthhobhjcnmmipaaGreatDoor
open Go.Value renaming pointer→Jp,int→Ji,int→N0
open Go.IntKind renaming i64→Jl
open Go.Obj renaming cells→Jc
open _root_.Option renaming none→Jn
open _root_.Nat renaming le_refl→N1
open Go.RowKit
set_option maxRecDepth 100000 in
set_option maxHeartbeats 16000000 in
theorem Lv{x y : Value}{a0 a1 a2 b0 b1 b2 : Rat}{k m n : Nat}{w : World}(h : (Fct.num [] k [a0, a1, a2]).P w x)(h' : (Fct.num [] m [b0, b1, b2]).P w y)(hn : (decide (m + k + (m + k) + 1 <= n) && decide (k <= n) && decide (n <= 900)) =true)(hg : Good w) :
  Calls Tryz.prog 53 #[x, y] w (Ret w (Fct.num [] n [a0, a1, a2, b1 * a2-b2 * a1, b2 * a0-b0 * a2, b0 * a1-b1 * a0])) :=by
 simp only[Bool.and_eq_true, decide_eq_true_eq]at hn;obtain⟨rs0, rfl, hr0, f0⟩ :=h;obtain⟨A0, hA0⟩ : ∃A, ([] ++ flat rs0).toArray =A :=⟨_, rfl⟩;obtain⟨rs1, rfl, hr1, f1⟩ :=h';obtain⟨A1, hA1⟩ : ∃A, ([] ++ flat rs1).toArray =A :=⟨_, rfl⟩;have k0 :=(Below.refl w.heap.size w).alloc (N1 _) (Jc A0 35);have k1 :=k0.alloc (by simp) (Jc A1 35);have k2 :=k1.alloc (by simp;omega) (Jc #[N0 Jl 0, Jp Jn, Ji Jl 0, Jp Jn, Ji Jl 0, Jp Jn, Ji Jl 0, Jp Jn, Ji Jl 0, Jp Jn, Ji Jl 0, Jp Jn, Ji Jl 0, Jp Jn, Ji Jl 0, Jp Jn, Ji Jl 0, Jp Jn, Ji Jl 0, Jp Jn, Ji Jl 0, Jp Jn, Ji Jl 0, Jp Jn] 37);have V0 :=Fi.box hA0.symm hr0 f0 35;have V1 :=Fi.box hA1.symm (hr1.keep k0) f1 35;have V2 :=Jh.new ((w.alloc (Jc A0 35)).alloc (Jc A1 35)) #[N0 Jl 0, Jp Jn, Ji Jl 0, Jp Jn, Ji Jl 0, Jp Jn, Ji Jl 0, Jp Jn, Ji Jl 0, Jp Jn, Ji Jl 0, Jp Jn, Ji Jl 0, Jp Jn, Ji Jl 0, Jp Jn, Ji Jl 0, Jp Jn, Ji Jl 0, Jp Jn, Ji Jl 0, Jp Jn, Ji Jl 0, Jp Jn] 37;have j1 :=(Below.refl (w.alloc (Jc A0 35)).heap.size (w.alloc (Jc A0 35))).alloc (N1 _) (Jc A1 35);have j2 :=(Below.refl ((w.alloc (Jc A0 35)).alloc (Jc A1 35)).heap.size ((w.alloc (Jc A0 35)).alloc (Jc A1 35))).alloc (N1 _) (Jc #[N0 Jl 0, Jp Jn, Ji Jl 0, Jp Jn, Ji Jl 0, Jp Jn, Ji Jl 0, Jp Jn, Ji Jl 0, Jp Jn, Ji Jl 0, Jp Jn, Ji Jl 0, Jp Jn, Ji Jl 0, Jp Jn, Ji Jl 0, Jp Jn, Ji Jl 0, Jp Jn, Ji Jl 0, Jp Jn, Ji Jl 0, Jp Jn] 37);replace V0 :=((V0.keep j1).keep j2);replace V1 :=(V1.keep j2);simp only[World.size_alloc]at V0 V1 V2;rw[hA0];rw[hA1];obtain⟨W, hW⟩ : ∃W, ((w.alloc (Jc A0 35)).alloc (Jc A1 35)).alloc (Jc #[N0 Jl 0, Jp Jn, Ji Jl 0, Jp Jn, Ji Jl 0, Jp Jn, Ji Jl 0, Jp Jn, Ji Jl 0, Jp Jn, Ji Jl 0, Jp Jn, Ji Jl 0, Jp Jn, Ji Jl 0, Jp Jn, Ji Jl 0, Jp Jn, Ji Jl 0, Jp Jn, Ji Jl 0, Jp Jn, Ji Jl 0, Jp Jn] 37) =W :=⟨_, rfl⟩
 rw[hW]at k2 V0 V1 V2;replace V0 :=Lh (fun w' (hb : Below W.heap.size W w') => V0.keep hb);replace V1 :=Lh (fun w' (hb : Below W.heap.size W w') => V1.keep hb);replace V2 :=Lh V2;have K :=Lh k2;have G :=Lh (fun w' (hb : Below W.heap.size W w') => hg.below (k2.trans (hb.mono k2.size)));clear hg hr0 f0 hA0 hr1 f1 hA1 k0 k1 k2 j1 j2;go_enter Tryz.func53, Tryz.ntmps53;go_upto_region 1 with fail
 try simp only[hW]
 clear hW;refine Fy 10 [(5, false, 0), (6, false, 0), (7, false, 0), (8, false, 0), (9, false, 0)] []
  [Fct.num [] k [a0, a1, a2], Fct.num [] m [b0, b1, b2], Fct.num [] k [a0, a1, a2], Fct.num [] (m + k + (m + k) + 1) [b1 * a2-b2 * a1, b2 * a0-b0 * a2, b0 * a1-b1 * a0], Fct.num [] n [a0, a1, a2, b1 * a2-b2 * a1, b2 * a0-b0 * a2, b0 * a1-b1 * a0]]
  #[true, true, true, true, true, false] 1 rfl (by kernel_rfl) rfl (by kernel_rfl) ⟨?_, ?_, ?_, ?_, ?_, trivial⟩
  (fun val => ⟨#[.agg A0, .agg A1, Jp (some ⟨w.heap.size, 0, Jn⟩), Jp (some ⟨w.heap.size + 1, 0, Jn⟩), Jp (some ⟨w.heap.size + 1 + 1, 0, Jn⟩), val 5, val 6, val 7, val 8, val 9], []⟩) (fun val => by kernel_rfl) (fun val v hB hF => ⟨?_⟩)
 ·exact E7 V0.out (.env rfl (by kernel_rfl)) rfl rfl rfl (by kernel_rfl) (by kernel_rfl)
 ·exact E7 V1.out (.env rfl (by kernel_rfl)) rfl rfl rfl (by kernel_rfl) (by kernel_rfl)
 ·exact E7 V0.out (.env rfl (by kernel_rfl)) rfl rfl rfl (by kernel_rfl) (by kernel_rfl)
 ·exact EZ cf32 rfl rfl rfl rfl rfl (by kernel_rfl) (fun a v hB hE hD => FO (hD 1 _ (by kernel_rfl) rfl) (hD 2 _ (by kernel_rfl) rfl) (by simp;omega) (G.out v hB))
 ·exact FD 0 3 rfl rfl rfl rfl rfl FH (by kernel_rfl) rfl (by simp;omega)
 ·have hx :=hF 4 _ rfl;clear hF;refine Fr (n :=24) (V2.out.keep hB) hx rfl rfl rfl rfl rfl (by kernel_rfl) (by kernel_rfl) (fun v2 hW hV => ?_);have Kf :=hW.below (show w.heap.size <= w.heap.size + 1 + 1 by omega) (K.out.trans (hB.mono K.out.size));clear K hB V0 V1 V2 G hx hW;go_wp2_with fail
  exact Fu (n :=24) hV Kf rfl rfl (by kernel_rfl) (by kernel_rfl) rfl
