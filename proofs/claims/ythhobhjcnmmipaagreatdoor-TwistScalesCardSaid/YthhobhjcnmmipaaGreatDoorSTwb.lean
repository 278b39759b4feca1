/- Twists: more of the plain functions. -/
import Derived.Test.YthhobhjcnmmipaaGreatDoorSTwa
namespace Go.Proofs.YthhobhjcnmmipaaGreatDoor
open Go.Value renaming pointer→Jp,int→Ji,int→M0
open Go.IntKind renaming i64→Jl
open Go.Obj renaming cells→Jc
open _root_.Option renaming none→Jn,some→Jo
open _root_.Nat renaming le_refl→M1
open Go.RowKit.Below renaming refl→M2
open _root_.Bool renaming and_eq_true→M3
open Go.World renaming size_alloc→M4
open Go.RowKit
set_option maxRecDepth 100000 in
set_option maxHeartbeats 16000000 in
theorem Lv{x y : Value}{a0 a1 a2 b0 b1 b2 : Rat}{k m n : Nat}{w : World}(h : (Fct.num [] k [a0, a1, a2]).P w x)(h' : (Fct.num [] m [b0, b1, b2]).P w y)(hn : (decide (m + k + (m + k) + 1 <= n) && decide (k <= n) && decide (n <= 900)) =true)(hg : Good w) :
  Calls Tryz.prog 53 #[x, y] w (Ret w (Fct.num [] n [a0, a1, a2, b1 * a2-b2 * a1, b2 * a0-b0 * a2, b0 * a1-b1 * a0])) :=by
 simp only[M3, decide_eq_true_eq]at hn;obtain⟨rs0, rfl, hr0, f0⟩ :=h;obtain⟨A0, hA0⟩ : ∃A, ([] ++ flat rs0).toArray =A :=⟨_, rfl⟩;obtain⟨rs1, rfl, hr1, f1⟩ :=h';obtain⟨A1, hA1⟩ : ∃A, ([] ++ flat rs1).toArray =A :=⟨_, rfl⟩;have k0 :=(M2 w.heap.size w).alloc (M1 _) (Jc A0 35);have k1 :=k0.alloc (by simp) (Jc A1 35);have k2 :=k1.alloc (by simp;omega) (Jc #[M0 Jl 0, Jp Jn, Ji Jl 0, Jp Jn, Ji Jl 0, Jp Jn, Ji Jl 0, Jp Jn, Ji Jl 0, Jp Jn, Ji Jl 0, Jp Jn, Ji Jl 0, Jp Jn, Ji Jl 0, Jp Jn, Ji Jl 0, Jp Jn, Ji Jl 0, Jp Jn, Ji Jl 0, Jp Jn, Ji Jl 0, Jp Jn] 37);have V0 :=Fi.box hA0.symm hr0 f0 35;have V1 :=Fi.box hA1.symm (hr1.keep k0) f1 35;have V2 :=Jh.new ((w.alloc (Jc A0 35)).alloc (Jc A1 35)) #[M0 Jl 0, Jp Jn, Ji Jl 0, Jp Jn, Ji Jl 0, Jp Jn, Ji Jl 0, Jp Jn, Ji Jl 0, Jp Jn, Ji Jl 0, Jp Jn, Ji Jl 0, Jp Jn, Ji Jl 0, Jp Jn, Ji Jl 0, Jp Jn, Ji Jl 0, Jp Jn, Ji Jl 0, Jp Jn, Ji Jl 0, Jp Jn] 37;have j1 :=(M2 (w.alloc (Jc A0 35)).heap.size (w.alloc (Jc A0 35))).alloc (M1 _) (Jc A1 35);have j2 :=(M2 ((w.alloc (Jc A0 35)).alloc (Jc A1 35)).heap.size ((w.alloc (Jc A0 35)).alloc (Jc A1 35))).alloc (M1 _) (Jc #[M0 Jl 0, Jp Jn, Ji Jl 0, Jp Jn, Ji Jl 0, Jp Jn, Ji Jl 0, Jp Jn, Ji Jl 0, Jp Jn, Ji Jl 0, Jp Jn, Ji Jl 0, Jp Jn, Ji Jl 0, Jp Jn, Ji Jl 0, Jp Jn, Ji Jl 0, Jp Jn, Ji Jl 0, Jp Jn, Ji Jl 0, Jp Jn] 37);replace V0 :=((V0.keep j1).keep j2);replace V1 :=(V1.keep j2);simp only[M4]at V0 V1 V2;rw[hA0];rw[hA1];obtain⟨W, hW⟩ : ∃W, ((w.alloc (Jc A0 35)).alloc (Jc A1 35)).alloc (Jc #[M0 Jl 0, Jp Jn, Ji Jl 0, Jp Jn, Ji Jl 0, Jp Jn, Ji Jl 0, Jp Jn, Ji Jl 0, Jp Jn, Ji Jl 0, Jp Jn, Ji Jl 0, Jp Jn, Ji Jl 0, Jp Jn, Ji Jl 0, Jp Jn, Ji Jl 0, Jp Jn, Ji Jl 0, Jp Jn, Ji Jl 0, Jp Jn] 37) =W :=⟨_, rfl⟩
 rw[hW]at k2 V0 V1 V2;replace V0 :=Lh (fun w' (hb : Below W.heap.size W w') => V0.keep hb);replace V1 :=Lh (fun w' (hb : Below W.heap.size W w') => V1.keep hb);replace V2 :=Lh V2;have K :=Lh k2;have G :=Lh (fun w' (hb : Below W.heap.size W w') => hg.below (k2.trans (hb.mono k2.size)));clear hg hr0 f0 hA0 hr1 f1 hA1 k0 k1 k2 j1 j2;go_enter Tryz.func53, Tryz.ntmps53;go_upto_region 1 with fail
 try simp only[hW]
 clear hW;refine Fy 10 [(5, false, 0), (6, false, 0), (7, false, 0), (8, false, 0), (9, false, 0)] []
  [Fct.num [] k [a0, a1, a2], Fct.num [] m [b0, b1, b2], Fct.num [] k [a0, a1, a2], Fct.num [] (m + k + (m + k) + 1) [b1 * a2-b2 * a1, b2 * a0-b0 * a2, b0 * a1-b1 * a0], Fct.num [] n [a0, a1, a2, b1 * a2-b2 * a1, b2 * a0-b0 * a2, b0 * a1-b1 * a0]]
  #[true, true, true, true, true, false] 1 rfl (by kernel_rfl) rfl (by kernel_rfl) ⟨?_, ?_, ?_, ?_, ?_, trivial⟩
  (fun val => ⟨#[.agg A0, .agg A1, Jp (Jo ⟨w.heap.size, 0, Jn⟩), Jp (Jo ⟨w.heap.size + 1, 0, Jn⟩), Jp (Jo ⟨w.heap.size + 1 + 1, 0, Jn⟩), val 5, val 6, val 7, val 8, val 9], []⟩) (fun val => by kernel_rfl) (fun val v hB hF => ⟨?_⟩)
 ·exact E7 V0.out (.env rfl (by kernel_rfl)) rfl rfl rfl (by kernel_rfl) (by kernel_rfl)
 ·exact E7 V1.out (.env rfl (by kernel_rfl)) rfl rfl rfl (by kernel_rfl) (by kernel_rfl)
 ·exact E7 V0.out (.env rfl (by kernel_rfl)) rfl rfl rfl (by kernel_rfl) (by kernel_rfl)
 ·exact EZ cf32 rfl rfl rfl rfl rfl (by kernel_rfl) (fun a v hB hE hD => FO (hD 1 _ (by kernel_rfl) rfl) (hD 2 _ (by kernel_rfl) rfl) (by simp;omega) (G.out v hB))
 ·exact FD 0 3 rfl rfl rfl rfl rfl FH (by kernel_rfl) rfl (by simp;omega)
 ·have hx :=hF 4 _ rfl;clear hF;refine Fr (n :=24) (V2.out.keep hB) hx rfl rfl rfl rfl rfl (by kernel_rfl) (by kernel_rfl) (fun v2 hW hV => ?_);have Kf :=hW.below (show w.heap.size <= w.heap.size + 1 + 1 by omega) (K.out.trans (hB.mono K.out.size));clear K hB V0 V1 V2 G hx hW;go_wp2_with fail
  exact Fu (n :=24) hV Kf rfl rfl (by kernel_rfl) (by kernel_rfl) rfl
set_option maxRecDepth 100000 in
set_option maxHeartbeats 16000000 in
theorem L4{x y : Value}{a0 a1 a2 b0 b1 b2 c0 c1 c2 d0 d1 d2 : Rat}{k m n : Nat}{w : World}(h : (Fct.num [] k [a0, a1, a2, b0, b1, b2]).P w x)(h' : (Fct.num [] m [c0, c1, c2, d0, d1, d2]).P w y)(hn : (decide (k + m + 1 <= n) && decide (n <= 900)) =true)(hg : Good w) :
  Calls Tryz.prog 55 #[x, y] w (Ret w (Fct.num [] n [a0 + c0, a1 + c1, a2 + c2, b0 + d0, b1 + d1, b2 + d2])) :=by
 simp only[M3, decide_eq_true_eq]at hn;obtain⟨rs0, rfl, hr0, f0⟩ :=h;obtain⟨A0, hA0⟩ : ∃A, ([] ++ flat rs0).toArray =A :=⟨_, rfl⟩;obtain⟨rs1, rfl, hr1, f1⟩ :=h';obtain⟨A1, hA1⟩ : ∃A, ([] ++ flat rs1).toArray =A :=⟨_, rfl⟩;have k0 :=(M2 w.heap.size w).alloc (M1 _) (Jc A0 37);have k1 :=k0.alloc (by simp) (Jc A1 37);have k2 :=k1.alloc (by simp;omega) (Jc #[M0 Jl 0, Jp Jn, Ji Jl 0, Jp Jn, Ji Jl 0, Jp Jn, Ji Jl 0, Jp Jn, Ji Jl 0, Jp Jn, Ji Jl 0, Jp Jn, Ji Jl 0, Jp Jn, Ji Jl 0, Jp Jn, Ji Jl 0, Jp Jn, Ji Jl 0, Jp Jn, Ji Jl 0, Jp Jn, Ji Jl 0, Jp Jn] 37);have V0 :=Fi.box hA0.symm hr0 f0 37;have V1 :=Fi.box hA1.symm (hr1.keep k0) f1 37;have V2 :=Jh.new ((w.alloc (Jc A0 37)).alloc (Jc A1 37)) #[M0 Jl 0, Jp Jn, Ji Jl 0, Jp Jn, Ji Jl 0, Jp Jn, Ji Jl 0, Jp Jn, Ji Jl 0, Jp Jn, Ji Jl 0, Jp Jn, Ji Jl 0, Jp Jn, Ji Jl 0, Jp Jn, Ji Jl 0, Jp Jn, Ji Jl 0, Jp Jn, Ji Jl 0, Jp Jn, Ji Jl 0, Jp Jn] 37;have j1 :=(M2 (w.alloc (Jc A0 37)).heap.size (w.alloc (Jc A0 37))).alloc (M1 _) (Jc A1 37);have j2 :=(M2 ((w.alloc (Jc A0 37)).alloc (Jc A1 37)).heap.size ((w.alloc (Jc A0 37)).alloc (Jc A1 37))).alloc (M1 _) (Jc #[M0 Jl 0, Jp Jn, Ji Jl 0, Jp Jn, Ji Jl 0, Jp Jn, Ji Jl 0, Jp Jn, Ji Jl 0, Jp Jn, Ji Jl 0, Jp Jn, Ji Jl 0, Jp Jn, Ji Jl 0, Jp Jn, Ji Jl 0, Jp Jn, Ji Jl 0, Jp Jn, Ji Jl 0, Jp Jn, Ji Jl 0, Jp Jn] 37);replace V0 :=((V0.keep j1).keep j2);replace V1 :=(V1.keep j2);simp only[M4]at V0 V1 V2;rw[hA0];rw[hA1];obtain⟨W, hW⟩ : ∃W, ((w.alloc (Jc A0 37)).alloc (Jc A1 37)).alloc (Jc #[M0 Jl 0, Jp Jn, Ji Jl 0, Jp Jn, Ji Jl 0, Jp Jn, Ji Jl 0, Jp Jn, Ji Jl 0, Jp Jn, Ji Jl 0, Jp Jn, Ji Jl 0, Jp Jn, Ji Jl 0, Jp Jn, Ji Jl 0, Jp Jn, Ji Jl 0, Jp Jn, Ji Jl 0, Jp Jn, Ji Jl 0, Jp Jn] 37) =W :=⟨_, rfl⟩
 rw[hW]at k2 V0 V1 V2;replace V0 :=Lh (fun w' (hb : Below W.heap.size W w') => V0.keep hb);replace V1 :=Lh (fun w' (hb : Below W.heap.size W w') => V1.keep hb);replace V2 :=Lh V2;have K :=Lh k2;have G :=Lh (fun w' (hb : Below W.heap.size W w') => hg.below (k2.trans (hb.mono k2.size)));clear hg hr0 f0 hA0 hr1 f1 hA1 k0 k1 k2 j1 j2;go_enter Tryz.func55, Tryz.ntmps55;go_upto_region 1 with fail
 try simp only[hW]
 clear hW;refine Fy 16 [(5, false, 0), (6, false, 0), (7, false, 0), (8, false, 0), (9, false, 0), (10, false, 0), (11, false, 0), (12, false, 0), (13, false, 0), (14, false, 0), (15, false, 0)] []
  [Fct.val (Jp (Jo ⟨w.heap.size, 0, Jn⟩)), Fct.num [] k [a0, a1, a2], Fct.val (Jp (Jo ⟨w.heap.size + 1, 0, Jn⟩)), Fct.num [] m [c0, c1, c2], Fct.num [] (k + m + 1) [a0 + c0, a1 + c1, a2 + c2], Fct.val (Jp (Jo ⟨w.heap.size, 12, Jn⟩)), Fct.num [] k [b0, b1, b2], Fct.val (Jp (Jo ⟨w.heap.size + 1, 12, Jn⟩)), Fct.num [] m [d0, d1, d2], Fct.num [] (k + m + 1) [b0 + d0, b1 + d1, b2 + d2], Fct.num [] n [a0 + c0, a1 + c1, a2 + c2, b0 + d0, b1 + d1, b2 + d2]]
  #[true, true, true, true, true, true, true, true, true, true, true, false] 1 rfl (by kernel_rfl) rfl (by kernel_rfl) ⟨?_, ?_, ?_, ?_, ?_, ?_, ?_, ?_, ?_, ?_, ?_, trivial⟩
  (fun val => ⟨#[.agg A0, .agg A1, Jp (Jo ⟨w.heap.size, 0, Jn⟩), Jp (Jo ⟨w.heap.size + 1, 0, Jn⟩), Jp (Jo ⟨w.heap.size + 1 + 1, 0, Jn⟩), val 5, val 6, val 7, val 8, val 9, val 10, val 11, val 12, val 13, val 14, val 15], []⟩) (fun val => by kernel_rfl) (fun val v hB hF => ⟨?_⟩)
 ·exact E4 rfl rfl (.env rfl (by kernel_rfl)) rfl (by kernel_rfl) (fun w => by go_simp)
 ·exact E6 0 3 V0.out (.dep 0 rfl (by kernel_rfl)) rfl rfl rfl (by kernel_rfl) (by kernel_rfl) (by kernel_rfl)
 ·exact E4 rfl rfl (.env rfl (by kernel_rfl)) rfl (by kernel_rfl) (fun w => by go_simp)
 ·exact E6 0 3 V1.out (.dep 2 rfl (by kernel_rfl)) rfl rfl rfl (by kernel_rfl) (by kernel_rfl) (by kernel_rfl)
 ·exact EZ cf33 rfl rfl rfl rfl rfl (by kernel_rfl) (fun a v hB hE hD => DC (hD 1 _ (by kernel_rfl) rfl) (hD 3 _ (by kernel_rfl) rfl) (by simp;omega) (G.out v hB))
 ·exact E4 rfl rfl (.env rfl (by kernel_rfl)) rfl (by kernel_rfl) (fun w => by go_simp)
 ·exact E6 3 3 V0.out (.dep 5 rfl (by kernel_rfl)) rfl rfl rfl (by kernel_rfl) (by kernel_rfl) (by kernel_rfl)
 ·exact E4 rfl rfl (.env rfl (by kernel_rfl)) rfl (by kernel_rfl) (fun w => by go_simp)
 ·exact E6 3 3 V1.out (.dep 7 rfl (by kernel_rfl)) rfl rfl rfl (by kernel_rfl) (by kernel_rfl) (by kernel_rfl)
 ·exact EZ cf33 rfl rfl rfl rfl rfl (by kernel_rfl) (fun a v hB hE hD => DC (hD 6 _ (by kernel_rfl) rfl) (hD 8 _ (by kernel_rfl) rfl) (by simp;omega) (G.out v hB))
 ·exact FD 4 9 rfl rfl rfl rfl rfl FH (by kernel_rfl) rfl (by simp;omega)
 ·have hx :=hF 10 _ rfl;clear hF;refine Fr (n :=24) (V2.out.keep hB) hx rfl rfl rfl rfl rfl (by kernel_rfl) (by kernel_rfl) (fun v2 hW hV => ?_);have Kf :=hW.below (show w.heap.size <= w.heap.size + 1 + 1 by omega) (K.out.trans (hB.mono K.out.size));clear K hB V0 V1 V2 G hx hW;go_wp2_with fail
  exact Fu (n :=24) hV Kf rfl rfl (by kernel_rfl) (by kernel_rfl) rfl
set_option maxRecDepth 100000 in
set_option maxHeartbeats 16000000 in
theorem Na{x y : Value}{a0 a1 a2 b0 b1 b2 q : Rat}{k m n : Nat}{w : World}(h : (Fct.num [] k [a0, a1, a2, b0, b1, b2]).P w x)(h' : (Fct.num [] m [q]).P w y)(hn : (decide (m + k <= n) && decide (n <= 900)) =true)(hg : Good w) :
  Calls Tryz.prog 56 #[x, y] w (Ret w (Fct.num [] n [q * a0, q * a1, q * a2, q * b0, q * b1, q * b2])) :=by
 simp only[M3, decide_eq_true_eq]at hn;obtain⟨rs0, rfl, hr0, f0⟩ :=h;obtain⟨A0, hA0⟩ : ∃A, ([] ++ flat rs0).toArray =A :=⟨_, rfl⟩;obtain⟨rs1, rfl, hr1, f1⟩ :=h';obtain⟨A1, hA1⟩ : ∃A, ([] ++ flat rs1).toArray =A :=⟨_, rfl⟩;have k0 :=(M2 w.heap.size w).alloc (M1 _) (Jc A0 37);have k1 :=k0.alloc (by simp) (Jc A1 31);have k2 :=k1.alloc (by simp;omega) (Jc #[M0 Jl 0, Jp Jn, Ji Jl 0, Jp Jn, Ji Jl 0, Jp Jn, Ji Jl 0, Jp Jn, Ji Jl 0, Jp Jn, Ji Jl 0, Jp Jn, Ji Jl 0, Jp Jn, Ji Jl 0, Jp Jn, Ji Jl 0, Jp Jn, Ji Jl 0, Jp Jn, Ji Jl 0, Jp Jn, Ji Jl 0, Jp Jn] 37);have V0 :=Fi.box hA0.symm hr0 f0 37;have V1 :=Fi.box hA1.symm (hr1.keep k0) f1 31;have V2 :=Jh.new ((w.alloc (Jc A0 37)).alloc (Jc A1 31)) #[M0 Jl 0, Jp Jn, Ji Jl 0, Jp Jn, Ji Jl 0, Jp Jn, Ji Jl 0, Jp Jn, Ji Jl 0, Jp Jn, Ji Jl 0, Jp Jn, Ji Jl 0, Jp Jn, Ji Jl 0, Jp Jn, Ji Jl 0, Jp Jn, Ji Jl 0, Jp Jn, Ji Jl 0, Jp Jn, Ji Jl 0, Jp Jn] 37;have j1 :=(M2 (w.alloc (Jc A0 37)).heap.size (w.alloc (Jc A0 37))).alloc (M1 _) (Jc A1 31);have j2 :=(M2 ((w.alloc (Jc A0 37)).alloc (Jc A1 31)).heap.size ((w.alloc (Jc A0 37)).alloc (Jc A1 31))).alloc (M1 _) (Jc #[M0 Jl 0, Jp Jn, Ji Jl 0, Jp Jn, Ji Jl 0, Jp Jn, Ji Jl 0, Jp Jn, Ji Jl 0, Jp Jn, Ji Jl 0, Jp Jn, Ji Jl 0, Jp Jn, Ji Jl 0, Jp Jn, Ji Jl 0, Jp Jn, Ji Jl 0, Jp Jn, Ji Jl 0, Jp Jn, Ji Jl 0, Jp Jn] 37);replace V0 :=((V0.keep j1).keep j2);replace V1 :=(V1.keep j2);simp only[M4]at V0 V1 V2;rw[hA0];rw[hA1];obtain⟨W, hW⟩ : ∃W, ((w.alloc (Jc A0 37)).alloc (Jc A1 31)).alloc (Jc #[M0 Jl 0, Jp Jn, Ji Jl 0, Jp Jn, Ji Jl 0, Jp Jn, Ji Jl 0, Jp Jn, Ji Jl 0, Jp Jn, Ji Jl 0, Jp Jn, Ji Jl 0, Jp Jn, Ji Jl 0, Jp Jn, Ji Jl 0, Jp Jn, Ji Jl 0, Jp Jn, Ji Jl 0, Jp Jn, Ji Jl 0, Jp Jn] 37) =W :=⟨_, rfl⟩
 rw[hW]at k2 V0 V1 V2;replace V0 :=Lh (fun w' (hb : Below W.heap.size W w') => V0.keep hb);replace V1 :=Lh (fun w' (hb : Below W.heap.size W w') => V1.keep hb);replace V2 :=Lh V2;have K :=Lh k2;have G :=Lh (fun w' (hb : Below W.heap.size W w') => hg.below (k2.trans (hb.mono k2.size)));clear hg hr0 f0 hA0 hr1 f1 hA1 k0 k1 k2 j1 j2;go_enter Tryz.func56, Tryz.ntmps56;go_upto_region 1 with fail
 try simp only[hW]
 clear hW;refine Fy 14 [(5, false, 0), (6, false, 0), (7, false, 0), (8, false, 0), (9, false, 0), (10, false, 0), (11, false, 0), (12, false, 0), (13, false, 0)] []
  [Fct.val (Jp (Jo ⟨w.heap.size, 0, Jn⟩)), Fct.num [] k [a0, a1, a2], Fct.num [] m [q], Fct.num [] (m + k) [q * a0, q * a1, q * a2], Fct.val (Jp (Jo ⟨w.heap.size, 12, Jn⟩)), Fct.num [] k [b0, b1, b2], Fct.num [] m [q], Fct.num [] (m + k) [q * b0, q * b1, q * b2], Fct.num [] n [q * a0, q * a1, q * a2, q * b0, q * b1, q * b2]]
  #[true, true, true, true, true, true, true, true, true, false] 1 rfl (by kernel_rfl) rfl (by kernel_rfl) ⟨?_, ?_, ?_, ?_, ?_, ?_, ?_, ?_, ?_, trivial⟩
  (fun val => ⟨#[.agg A0, .agg A1, Jp (Jo ⟨w.heap.size, 0, Jn⟩), Jp (Jo ⟨w.heap.size + 1, 0, Jn⟩), Jp (Jo ⟨w.heap.size + 1 + 1, 0, Jn⟩), val 5, val 6, val 7, val 8, val 9, val 10, val 11, val 12, val 13], []⟩) (fun val => by kernel_rfl) (fun val v hB hF => ⟨?_⟩)
 ·exact E4 rfl rfl (.env rfl (by kernel_rfl)) rfl (by kernel_rfl) (fun w => by go_simp)
 ·exact E6 0 3 V0.out (.dep 0 rfl (by kernel_rfl)) rfl rfl rfl (by kernel_rfl) (by kernel_rfl) (by kernel_rfl)
 ·exact E7 V1.out (.env rfl (by kernel_rfl)) rfl rfl rfl (by kernel_rfl) (by kernel_rfl)
 ·exact EZ cf52 rfl rfl rfl rfl rfl (by kernel_rfl) (fun a v hB hE hD => Da (hD 1 _ (by kernel_rfl) rfl) (hD 2 _ (by kernel_rfl) rfl) (by simp;omega) (G.out v hB))
 ·exact E4 rfl rfl (.env rfl (by kernel_rfl)) rfl (by kernel_rfl) (fun w => by go_simp)
 ·exact E6 3 3 V0.out (.dep 4 rfl (by kernel_rfl)) rfl rfl rfl (by kernel_rfl) (by kernel_rfl) (by kernel_rfl)
 ·exact E7 V1.out (.env rfl (by kernel_rfl)) rfl rfl rfl (by kernel_rfl) (by kernel_rfl)
 ·exact EZ cf52 rfl rfl rfl rfl rfl (by kernel_rfl) (fun a v hB hE hD => Da (hD 5 _ (by kernel_rfl) rfl) (hD 6 _ (by kernel_rfl) rfl) (by simp;omega) (G.out v hB))
 ·exact FD 3 7 rfl rfl rfl rfl rfl FH (by kernel_rfl) rfl (by simp;omega)
 ·have hx :=hF 8 _ rfl;clear hF;refine Fr (n :=24) (V2.out.keep hB) hx rfl rfl rfl rfl rfl (by kernel_rfl) (by kernel_rfl) (fun v2 hW hV => ?_);have Kf :=hW.below (show w.heap.size <= w.heap.size + 1 + 1 by omega) (K.out.trans (hB.mono K.out.size));clear K hB V0 V1 V2 G hx hW;go_wp2_with fail
  exact Fu (n :=24) hV Kf rfl rfl (by kernel_rfl) (by kernel_rfl) rfl
