/- Twists: comparisons. -/
import Derived.Test.YthhobhjcnmmipaaGreatDoorATwh
namespace Go.Proofs.YthhobhjcnmmipaaGreatDoor
open Go.RowKit
set_option maxRecDepth 100000 in
set_option maxHeartbeats 16000000 in
theorem DV{x y : Value}{a b : Rat}{k m : Nat}{w : World}(h : (Fct.num [] k [a]).P w x)(h' : (Fct.num [] m [b]).P w y)(e : a =b)(hn : (decide (k <= 900) && decide (m <= 900)) =true)(hg : Good w) :
  Calls Tryz.prog 34 #[x, y] w (Ret w (Fct.val (.bool true))) :=by
 simp only[Bool.and_eq_true, decide_eq_true_eq]at hn;obtain⟨rs0, rfl, hr0, f0⟩ :=h;obtain⟨A0, hA0⟩ : ∃A, ([] ++ flat rs0).toArray =A :=⟨_, rfl⟩;obtain⟨rs1, rfl, hr1, f1⟩ :=h';obtain⟨A1, hA1⟩ : ∃A, ([] ++ flat rs1).toArray =A :=⟨_, rfl⟩;have k0 :=(Below.refl w.heap.size w).alloc (Nat.le_refl _) (.cells A0 31);have k1 :=k0.alloc (by simp) (.cells A1 31);have V0 :=Fi.box hA0.symm hr0 f0 31;have V1 :=Fi.box hA1.symm (hr1.keep k0) f1 31;have j1 :=(Below.refl (w.alloc (.cells A0 31)).heap.size (w.alloc (.cells A0 31))).alloc (Nat.le_refl _) (.cells A1 31);replace V0 :=(V0.keep j1);simp only[World.size_alloc]at V0 V1;rw[hA0];rw[hA1];obtain⟨W, hW⟩ : ∃W, (w.alloc (.cells A0 31)).alloc (.cells A1 31) =W :=⟨_, rfl⟩;rw[hW]at k1 V0 V1;replace V0 :=Lh (fun w' (hb : Below W.heap.size W w') => V0.keep hb);replace V1 :=Lh (fun w' (hb : Below W.heap.size W w') => V1.keep hb);have K :=Lh k1;have G :=Lh (fun w' (hb : Below W.heap.size W w') => hg.below (k1.trans (hb.mono k1.size)));clear hg hr0 f0 hA0 hr1 f1 hA1 k0 k1 j1;go_enter Tryz.func34, Tryz.ntmps34;go_upto_region 1 with fail
 try simp only[hW]
 clear hW;refine E8 9 [(5, false, 0), (6, false, 0), (7, false, 0), (8, false, 0), (4, false, 0)] []
  [Fct.num [] k [a],
  Fct.num [] m [b],
  Fct.val (.int .i64 0),
  Fct.val (.bool true),
  Fct.val (.bool true)]
  0 rfl (by kernel_rfl) rfl ⟨?_, ?_, ?_, ?_, ?_, trivial⟩
  (fun val0 => ⟨#[.agg A0, .agg A1, .pointer (some ⟨w.heap.size, 0, none⟩), .pointer (some ⟨w.heap.size + 1, 0, none⟩), val0 4, val0 5, val0 6, val0 7, val0 8], []⟩) (fun val0 => by kernel_rfl) (fun val0 W0 hB hF => ⟨?_⟩)
 ·exact E7 V0.out (.env rfl (by kernel_rfl)) rfl rfl rfl (by kernel_rfl) (by kernel_rfl)
 ·exact E7 V1.out (.env rfl (by kernel_rfl)) rfl rfl rfl (by kernel_rfl) (by kernel_rfl)
 ·exact EZ cf71 rfl rfl rfl rfl rfl (by kernel_rfl) (fun a v hB hE hD => (by have :=L6 (hD 0 _ (by kernel_rfl) rfl) (hD 1 _ (by kernel_rfl) rfl) (by simp;omega);rw[e, show cmpR b b =0 by unfold cmpR cmpZ;simp]at this;exact this))
 ·exact Fm (op := .binOp .eql 3 (.tmp 7) (.const (.int .i64 0)) 3) rfl rfl (fun _ => rfl) (.dep 2 rfl (by kernel_rfl)) rfl (by kernel_rfl) (fun a w e => by unfold execOp bare;dsimp only;rw[e];go_simp <;> rfl)
 ·exact E5 3 rfl rfl rfl rfl (by kernel_rfl)
 have e4 : val0 4 = .bool true :=hF 4 _ rfl;clear hF;generalize val0 4 =t4 at *
 subst e4;replace V0 :=Lh (fun w' (hb : Below W0.heap.size W0 w') => V0.out w' (Jd hB hb));replace V1 :=Lh (fun w' (hb : Below W0.heap.size W0 w') => V1.out w' (Jd hB hb));replace K :=Lh (Jd K.out hB);replace G :=Lh (fun w' (hb : Below W0.heap.size W0 w') => G.out w' (Jd hB hb));clear hB;refine Last.nil (by kernel_rfl) ?_;clear G V0 V1;go_wp2_with fail
 exact bodyPost_ret (v := .bool true) (by simp[results, Tryz.results34, go_sem]) rfl ⟨_, rfl, K.out, rfl⟩
