/- Twists: comparisons. -/
import Derived.Test.YthhobhjcnmmipaaGreatDoorPTwh
namespace Go.Proofs.YthhobhjcnmmipaaGreatDoor
open Go.Value renaming pointer→Jp
open Go.Obj renaming cells→Jc
open _root_.Option renaming none→Jn,some→Jo
open _root_.Nat renaming le_refl→T3
open Go.RowKit.Below renaming refl→T4
open _root_.Bool renaming and_eq_true→T5
open Go.World renaming size_alloc→T6
open Go.RowKit
set_option maxRecDepth 100000 in
set_option maxHeartbeats 16000000 in
theorem LY{x y : Value}{a0 a1 a2 b0 b1 b2 c0 c1 c2 d0 d1 d2 : Rat}{k m : Nat}{w : World}(h : (Fct.num [] k [a0, a1, a2, b0, b1, b2]).P w x)(h' : (Fct.num [] m [c0, c1, c2, d0, d1, d2]).P w y)(h0 : (cmpV a0 a1 a2 c0 c1 c2 ==0) =true)(h1 : (cmpV b0 b1 b2 d0 d1 d2 ==0) =true)(hn : (decide (k <= 900) && decide (m <= 900)) =true)(hg : Good w) :
  Calls Tryz.prog 46 #[x, y] w (Ret w (Fct.val (.bool true))) :=by
 simp only[T5, decide_eq_true_eq]at hn;obtain⟨rs0, rfl, hr0, f0⟩ :=h;obtain⟨A0, hA0⟩ : ∃A, ([] ++ flat rs0).toArray =A :=⟨_, rfl⟩;obtain⟨rs1, rfl, hr1, f1⟩ :=h';obtain⟨A1, hA1⟩ : ∃A, ([] ++ flat rs1).toArray =A :=⟨_, rfl⟩;have k0 :=(T4 w.heap.size w).alloc (T3 _) (Jc A0 37);have k1 :=k0.alloc (by simp) (Jc A1 37);have V0 :=Fi.box hA0.symm hr0 f0 37;have V1 :=Fi.box hA1.symm (hr1.keep k0) f1 37;have j1 :=(T4 (w.alloc (Jc A0 37)).heap.size (w.alloc (Jc A0 37))).alloc (T3 _) (Jc A1 37);replace V0 :=(V0.keep j1);simp only[T6]at V0 V1;rw[hA0];rw[hA1];obtain⟨W, hW⟩ : ∃W, (w.alloc (Jc A0 37)).alloc (Jc A1 37) =W :=⟨_, rfl⟩;rw[hW]at k1 V0 V1;replace V0 :=Lh (fun w' (hb : Below W.heap.size W w') => V0.keep hb);replace V1 :=Lh (fun w' (hb : Below W.heap.size W w') => V1.keep hb);have K :=Lh k1;have G :=Lh (fun w' (hb : Below W.heap.size W w') => hg.below (k1.trans (hb.mono k1.size)));clear hg hr0 f0 hA0 hr1 f1 hA1 k0 k1 j1;go_enter Tryz.func46, Tryz.ntmps46;go_upto_region 1 with fail
 try simp only[hW]
 clear hW;refine E8 17 [(5, false, 0), (6, false, 0), (7, false, 0), (8, false, 0), (9, false, 0), (10, false, 0), (11, false, 0), (12, false, 0), (13, false, 0), (14, false, 0), (15, false, 0), (16, false, 0), (4, false, 0)] []
  [Fct.val (Jp (Jo ⟨w.heap.size, 0, Jn⟩)),
  Fct.num [] k [a0, a1, a2],
  Fct.val (Jp (Jo ⟨w.heap.size + 1, 0, Jn⟩)),
  Fct.num [] m [c0, c1, c2],
  Fct.val (.bool true),
  Fct.val (.bool true),
  Fct.val (Jp (Jo ⟨w.heap.size, 12, Jn⟩)),
  Fct.num [] k [b0, b1, b2],
  Fct.val (Jp (Jo ⟨w.heap.size + 1, 12, Jn⟩)),
  Fct.num [] m [d0, d1, d2],
  Fct.val (.bool true),
  Fct.val (.bool true),
  Fct.val (.bool true)]
  0 rfl (by kernel_rfl) rfl ⟨?_, ?_, ?_, ?_, ?_, ?_, ?_, ?_, ?_, ?_, ?_, ?_, ?_, trivial⟩
  (fun val0 => ⟨#[.agg A0, .agg A1, Jp (Jo ⟨w.heap.size, 0, Jn⟩), Jp (Jo ⟨w.heap.size + 1, 0, Jn⟩), val0 4, val0 5, val0 6, val0 7, val0 8, val0 9, val0 10, val0 11, val0 12, val0 13, val0 14, val0 15, val0 16], []⟩) (fun val0 => by kernel_rfl) (fun val0 W0 hB hF => ⟨?_⟩)
 ·exact E4 rfl rfl (.env rfl (by kernel_rfl)) rfl (by kernel_rfl) (fun w => by go_simp)
 ·exact E6 0 3 V0.out (.dep 0 rfl (by kernel_rfl)) rfl rfl rfl (by kernel_rfl) (by kernel_rfl) (by kernel_rfl)
 ·exact E4 rfl rfl (.env rfl (by kernel_rfl)) rfl (by kernel_rfl) (fun w => by go_simp)
 ·exact E6 0 3 V1.out (.dep 2 rfl (by kernel_rfl)) rfl rfl rfl (by kernel_rfl) (by kernel_rfl) (by kernel_rfl)
 ·exact EZ cf23 rfl rfl rfl rfl rfl (by kernel_rfl) (fun a v hB hE hD => DB (hD 1 _ (by kernel_rfl) rfl) (hD 3 _ (by kernel_rfl) rfl) h0 (by simp;omega))
 ·exact E5 4 rfl rfl rfl rfl (by kernel_rfl)
 ·exact E4 rfl rfl (.env rfl (by kernel_rfl)) ⟨true, rfl, rfl, by kernel_rfl, rfl⟩ (by kernel_rfl) (fun w => by go_simp)
 ·exact E6 3 3 V0.out (.dep 6 rfl (by kernel_rfl)) rfl rfl ⟨true, rfl, rfl, by kernel_rfl, rfl⟩ (by kernel_rfl) (by kernel_rfl) (by kernel_rfl)
 ·exact E4 rfl rfl (.env rfl (by kernel_rfl)) ⟨true, rfl, rfl, by kernel_rfl, rfl⟩ (by kernel_rfl) (fun w => by go_simp)
 ·exact E6 3 3 V1.out (.dep 8 rfl (by kernel_rfl)) rfl rfl ⟨true, rfl, rfl, by kernel_rfl, rfl⟩ (by kernel_rfl) (by kernel_rfl) (by kernel_rfl)
 ·exact EZ cf23 rfl rfl rfl rfl ⟨true, rfl, rfl, by kernel_rfl, rfl⟩ (by kernel_rfl) (fun a v hB hE hD => DB (hD 7 _ (by kernel_rfl) rfl) (hD 9 _ (by kernel_rfl) rfl) h1 (by simp;omega))
 ·exact Fe 5 10 rfl rfl rfl rfl rfl (by kernel_rfl)
 ·exact E5 11 rfl rfl rfl rfl (by kernel_rfl)
 have e4 : val0 4 = .bool true :=hF 12 _ rfl;clear hF;generalize val0 4 =t4 at *
 subst e4;replace V0 :=Lh (fun w' (hb : Below W0.heap.size W0 w') => V0.out w' (Jd hB hb));replace V1 :=Lh (fun w' (hb : Below W0.heap.size W0 w') => V1.out w' (Jd hB hb));replace K :=Lh (Jd K.out hB);replace G :=Lh (fun w' (hb : Below W0.heap.size W0 w') => G.out w' (Jd hB hb));clear hB;refine Last.nil (by kernel_rfl) ?_;clear G V0 V1;go_wp2_with fail
 exact bodyPost_ret (v := .bool true) (by simp[results, Tryz.results46, go_sem]) rfl ⟨_, rfl, K.out, rfl⟩
set_option maxRecDepth 100000 in
set_option maxHeartbeats 16000000 in
theorem L0{x y : Value}{a0 a1 a2 b0 b1 b2 c0 c1 c2 d0 d1 d2 : Rat}{k m : Nat}{w : World}(h : (Fct.num [] k [a0, a1, a2, b0, b1, b2]).P w x)(h' : (Fct.num [] m [c0, c1, c2, d0, d1, d2]).P w y)(h0 : (cmpV a0 a1 a2 c0 c1 c2 ==0) =false)(hn : (decide (k <= 900) && decide (m <= 900)) =true)(hg : Good w) :
  Calls Tryz.prog 46 #[x, y] w (Ret w (Fct.val (.bool false))) :=by
 simp only[T5, decide_eq_true_eq]at hn;obtain⟨rs0, rfl, hr0, f0⟩ :=h;obtain⟨A0, hA0⟩ : ∃A, ([] ++ flat rs0).toArray =A :=⟨_, rfl⟩;obtain⟨rs1, rfl, hr1, f1⟩ :=h';obtain⟨A1, hA1⟩ : ∃A, ([] ++ flat rs1).toArray =A :=⟨_, rfl⟩;have k0 :=(T4 w.heap.size w).alloc (T3 _) (Jc A0 37);have k1 :=k0.alloc (by simp) (Jc A1 37);have V0 :=Fi.box hA0.symm hr0 f0 37;have V1 :=Fi.box hA1.symm (hr1.keep k0) f1 37;have j1 :=(T4 (w.alloc (Jc A0 37)).heap.size (w.alloc (Jc A0 37))).alloc (T3 _) (Jc A1 37);replace V0 :=(V0.keep j1);simp only[T6]at V0 V1;rw[hA0];rw[hA1];obtain⟨W, hW⟩ : ∃W, (w.alloc (Jc A0 37)).alloc (Jc A1 37) =W :=⟨_, rfl⟩;rw[hW]at k1 V0 V1;replace V0 :=Lh (fun w' (hb : Below W.heap.size W w') => V0.keep hb);replace V1 :=Lh (fun w' (hb : Below W.heap.size W w') => V1.keep hb);have K :=Lh k1;have G :=Lh (fun w' (hb : Below W.heap.size W w') => hg.below (k1.trans (hb.mono k1.size)));clear hg hr0 f0 hA0 hr1 f1 hA1 k0 k1 j1;go_enter Tryz.func46, Tryz.ntmps46;go_upto_region 1 with fail
 try simp only[hW]
 clear hW;refine E8 17 [(5, false, 0), (6, false, 0), (7, false, 0), (8, false, 0), (9, false, 0), (10, false, 0), (11, false, 0), (12, false, 0), (13, false, 0), (14, false, 0), (15, false, 0), (16, false, 0), (4, false, 0)] []
  [Fct.val (Jp (Jo ⟨w.heap.size, 0, Jn⟩)),
  Fct.num [] k [a0, a1, a2],
  Fct.val (Jp (Jo ⟨w.heap.size + 1, 0, Jn⟩)),
  Fct.num [] m [c0, c1, c2],
  Fct.val (.bool false),
  Fct.val (.bool false),
  Fct.val (undef),
  Fct.val (undef),
  Fct.val (undef),
  Fct.val (undef),
  Fct.val (undef),
  Fct.val (.bool false),
  Fct.val (.bool false)]
  0 rfl (by kernel_rfl) rfl ⟨?_, ?_, ?_, ?_, ?_, ?_, ?_, ?_, ?_, ?_, ?_, ?_, ?_, trivial⟩
  (fun val0 => ⟨#[.agg A0, .agg A1, Jp (Jo ⟨w.heap.size, 0, Jn⟩), Jp (Jo ⟨w.heap.size + 1, 0, Jn⟩), val0 4, val0 5, val0 6, val0 7, val0 8, val0 9, val0 10, val0 11, val0 12, val0 13, val0 14, val0 15, val0 16], []⟩) (fun val0 => by kernel_rfl) (fun val0 W0 hB hF => ⟨?_⟩)
 ·exact E4 rfl rfl (.env rfl (by kernel_rfl)) rfl (by kernel_rfl) (fun w => by go_simp)
 ·exact E6 0 3 V0.out (.dep 0 rfl (by kernel_rfl)) rfl rfl rfl (by kernel_rfl) (by kernel_rfl) (by kernel_rfl)
 ·exact E4 rfl rfl (.env rfl (by kernel_rfl)) rfl (by kernel_rfl) (fun w => by go_simp)
 ·exact E6 0 3 V1.out (.dep 2 rfl (by kernel_rfl)) rfl rfl rfl (by kernel_rfl) (by kernel_rfl) (by kernel_rfl)
 ·exact EZ cf23 rfl rfl rfl rfl rfl (by kernel_rfl) (fun a v hB hE hD => DB (hD 1 _ (by kernel_rfl) rfl) (hD 3 _ (by kernel_rfl) rfl) h0 (by simp;omega))
 ·exact E5 4 rfl rfl rfl rfl (by kernel_rfl)
 ·exact FC rfl ⟨false, rfl, rfl, by kernel_rfl, rfl⟩ (by kernel_rfl)
 ·exact FC rfl ⟨false, rfl, rfl, by kernel_rfl, rfl⟩ (by kernel_rfl)
 ·exact FC rfl ⟨false, rfl, rfl, by kernel_rfl, rfl⟩ (by kernel_rfl)
 ·exact FC rfl ⟨false, rfl, rfl, by kernel_rfl, rfl⟩ (by kernel_rfl)
 ·exact FC rfl ⟨false, rfl, rfl, by kernel_rfl, rfl⟩ (by kernel_rfl)
 ·exact Dx 5 rfl rfl rfl rfl (by kernel_rfl)
 ·exact E5 11 rfl rfl rfl rfl (by kernel_rfl)
 have e4 : val0 4 = .bool false :=hF 12 _ rfl;clear hF;generalize val0 4 =t4 at *
 subst e4;replace V0 :=Lh (fun w' (hb : Below W0.heap.size W0 w') => V0.out w' (Jd hB hb));replace V1 :=Lh (fun w' (hb : Below W0.heap.size W0 w') => V1.out w' (Jd hB hb));replace K :=Lh (Jd K.out hB);replace G :=Lh (fun w' (hb : Below W0.heap.size W0 w') => G.out w' (Jd hB hb));clear hB;refine Last.nil (by kernel_rfl) ?_;clear G V0 V1;go_wp2_with fail
 exact bodyPost_ret (v := .bool false) (by simp[results, Tryz.results46, go_sem]) rfl ⟨_, rfl, K.out, rfl⟩
set_option maxRecDepth 100000 in
set_option maxHeartbeats 16000000 in
theorem LZ{x y : Value}{a0 a1 a2 b0 b1 b2 c0 c1 c2 d0 d1 d2 : Rat}{k m : Nat}{w : World}(h : (Fct.num [] k [a0, a1, a2, b0, b1, b2]).P w x)(h' : (Fct.num [] m [c0, c1, c2, d0, d1, d2]).P w y)(h0 : (cmpV a0 a1 a2 c0 c1 c2 ==0) =true)(h1 : (cmpV b0 b1 b2 d0 d1 d2 ==0) =false)(hn : (decide (k <= 900) && decide (m <= 900)) =true)(hg : Good w) :
  Calls Tryz.prog 46 #[x, y] w (Ret w (Fct.val (.bool false))) :=by
 simp only[T5, decide_eq_true_eq]at hn;obtain⟨rs0, rfl, hr0, f0⟩ :=h;obtain⟨A0, hA0⟩ : ∃A, ([] ++ flat rs0).toArray =A :=⟨_, rfl⟩;obtain⟨rs1, rfl, hr1, f1⟩ :=h';obtain⟨A1, hA1⟩ : ∃A, ([] ++ flat rs1).toArray =A :=⟨_, rfl⟩;have k0 :=(T4 w.heap.size w).alloc (T3 _) (Jc A0 37);have k1 :=k0.alloc (by simp) (Jc A1 37);have V0 :=Fi.box hA0.symm hr0 f0 37;have V1 :=Fi.box hA1.symm (hr1.keep k0) f1 37;have j1 :=(T4 (w.alloc (Jc A0 37)).heap.size (w.alloc (Jc A0 37))).alloc (T3 _) (Jc A1 37);replace V0 :=(V0.keep j1);simp only[T6]at V0 V1;rw[hA0];rw[hA1];obtain⟨W, hW⟩ : ∃W, (w.alloc (Jc A0 37)).alloc (Jc A1 37) =W :=⟨_, rfl⟩;rw[hW]at k1 V0 V1;replace V0 :=Lh (fun w' (hb : Below W.heap.size W w') => V0.keep hb);replace V1 :=Lh (fun w' (hb : Below W.heap.size W w') => V1.keep hb);have K :=Lh k1;have G :=Lh (fun w' (hb : Below W.heap.size W w') => hg.below (k1.trans (hb.mono k1.size)));clear hg hr0 f0 hA0 hr1 f1 hA1 k0 k1 j1;go_enter Tryz.func46, Tryz.ntmps46;go_upto_region 1 with fail
 try simp only[hW]
 clear hW;refine E8 17 [(5, false, 0), (6, false, 0), (7, false, 0), (8, false, 0), (9, false, 0), (10, false, 0), (11, false, 0), (12, false, 0), (13, false, 0), (14, false, 0), (15, false, 0), (16, false, 0), (4, false, 0)] []
  [Fct.val (Jp (Jo ⟨w.heap.size, 0, Jn⟩)),
  Fct.num [] k [a0, a1, a2],
  Fct.val (Jp (Jo ⟨w.heap.size + 1, 0, Jn⟩)),
  Fct.num [] m [c0, c1, c2],
  Fct.val (.bool true),
  Fct.val (.bool true),
  Fct.val (Jp (Jo ⟨w.heap.size, 12, Jn⟩)),
  Fct.num [] k [b0, b1, b2],
  Fct.val (Jp (Jo ⟨w.heap.size + 1, 12, Jn⟩)),
  Fct.num [] m [d0, d1, d2],
  Fct.val (.bool false),
  Fct.val (.bool false),
  Fct.val (.bool false)]
  0 rfl (by kernel_rfl) rfl ⟨?_, ?_, ?_, ?_, ?_, ?_, ?_, ?_, ?_, ?_, ?_, ?_, ?_, trivial⟩
  (fun val0 => ⟨#[.agg A0, .agg A1, Jp (Jo ⟨w.heap.size, 0, Jn⟩), Jp (Jo ⟨w.heap.size + 1, 0, Jn⟩), val0 4, val0 5, val0 6, val0 7, val0 8, val0 9, val0 10, val0 11, val0 12, val0 13, val0 14, val0 15, val0 16], []⟩) (fun val0 => by kernel_rfl) (fun val0 W0 hB hF => ⟨?_⟩)
 ·exact E4 rfl rfl (.env rfl (by kernel_rfl)) rfl (by kernel_rfl) (fun w => by go_simp)
 ·exact E6 0 3 V0.out (.dep 0 rfl (by kernel_rfl)) rfl rfl rfl (by kernel_rfl) (by kernel_rfl) (by kernel_rfl)
 ·exact E4 rfl rfl (.env rfl (by kernel_rfl)) rfl (by kernel_rfl) (fun w => by go_simp)
 ·exact E6 0 3 V1.out (.dep 2 rfl (by kernel_rfl)) rfl rfl rfl (by kernel_rfl) (by kernel_rfl) (by kernel_rfl)
 ·exact EZ cf23 rfl rfl rfl rfl rfl (by kernel_rfl) (fun a v hB hE hD => DB (hD 1 _ (by kernel_rfl) rfl) (hD 3 _ (by kernel_rfl) rfl) h0 (by simp;omega))
 ·exact E5 4 rfl rfl rfl rfl (by kernel_rfl)
 ·exact E4 rfl rfl (.env rfl (by kernel_rfl)) ⟨true, rfl, rfl, by kernel_rfl, rfl⟩ (by kernel_rfl) (fun w => by go_simp)
 ·exact E6 3 3 V0.out (.dep 6 rfl (by kernel_rfl)) rfl rfl ⟨true, rfl, rfl, by kernel_rfl, rfl⟩ (by kernel_rfl) (by kernel_rfl) (by kernel_rfl)
 ·exact E4 rfl rfl (.env rfl (by kernel_rfl)) ⟨true, rfl, rfl, by kernel_rfl, rfl⟩ (by kernel_rfl) (fun w => by go_simp)
 ·exact E6 3 3 V1.out (.dep 8 rfl (by kernel_rfl)) rfl rfl ⟨true, rfl, rfl, by kernel_rfl, rfl⟩ (by kernel_rfl) (by kernel_rfl) (by kernel_rfl)
 ·exact EZ cf23 rfl rfl rfl rfl ⟨true, rfl, rfl, by kernel_rfl, rfl⟩ (by kernel_rfl) (fun a v hB hE hD => DB (hD 7 _ (by kernel_rfl) rfl) (hD 9 _ (by kernel_rfl) rfl) h1 (by simp;omega))
 ·exact Fe 5 10 rfl rfl rfl rfl rfl (by kernel_rfl)
 ·exact E5 11 rfl rfl rfl rfl (by kernel_rfl)
 have e4 : val0 4 = .bool false :=hF 12 _ rfl;clear hF;generalize val0 4 =t4 at *
 subst e4;replace V0 :=Lh (fun w' (hb : Below W0.heap.size W0 w') => V0.out w' (Jd hB hb));replace V1 :=Lh (fun w' (hb : Below W0.heap.size W0 w') => V1.out w' (Jd hB hb));replace K :=Lh (Jd K.out hB);replace G :=Lh (fun w' (hb : Below W0.heap.size W0 w') => G.out w' (Jd hB hb));clear hB;refine Last.nil (by kernel_rfl) ?_;clear G V0 V1;go_wp2_with fail
 exact bodyPost_ret (v := .bool false) (by simp[results, Tryz.results46, go_sem]) rfl ⟨_, rfl, K.out, rfl⟩
theorem L3{x y : Value}{a0 a1 a2 b0 b1 b2 c0 c1 c2 d0 d1 d2 : Rat}{k m : Nat}{w : World}(h : (Fct.num [] k [a0, a1, a2, b0, b1, b2]).P w x)(h' : (Fct.num [] m [c0, c1, c2, d0, d1, d2]).P w y)(hn : (decide (k <= 900) && decide (m <= 900)) =true)(hg : Good w) : Calls Tryz.prog 46 #[x, y] w (Ret w (Fct.val (.bool ((cmpV a0 a1 a2 c0 c1 c2 ==0) && (cmpV b0 b1 b2 d0 d1 d2 ==0))))) :=by
 cases h0 : (cmpV a0 a1 a2 c0 c1 c2 ==0)with
 | false => exact L0 h h' h0 hn hg
 | true =>
  cases h1 : (cmpV b0 b1 b2 d0 d1 d2 ==0)with
  | false => exact LZ h h' h0 h1 hn hg
  | true => exact LY h h' h0 h1 hn hg
set_option maxRecDepth 100000 in
set_option maxHeartbeats 16000000 in
theorem LD{x : Value}{a0 a1 a2 b0 b1 b2 : Rat}{k : Nat}{w : World}(h : (Fct.num [] k [a0, a1, a2, b0, b1, b2]).P w x)(hn : decide (k <= 900) =true)(hg : Good w) :
  Calls Tryz.prog 17 #[x] w (Ret w (Fct.val (.bool ((cmpV a0 a1 a2 0 0 0 ==0) && (cmpV b0 b1 b2 0 0 0 ==0))))) :=by
 simp only[decide_eq_true_eq]at hn;obtain⟨rs0, rfl, hr0, f0⟩ :=h;obtain⟨A0, hA0⟩ : ∃A, ([] ++ flat rs0).toArray =A :=⟨_, rfl⟩;have k0 :=(T4 w.heap.size w).alloc (T3 _) (Jc A0 37);have V0 :=Fi.box hA0.symm hr0 f0 37;rw[hA0];obtain⟨W, hW⟩ : ∃W, w.alloc (Jc A0 37) =W :=⟨_, rfl⟩;rw[hW]at k0 V0;replace V0 :=Lh (fun w' (hb : Below W.heap.size W w') => V0.keep hb);have K :=Lh k0;have G :=Lh (fun w' (hb : Below W.heap.size W w') => hg.below (k0.trans (hb.mono k0.size)));clear hg hr0 f0 hA0 k0;go_enter Tryz.func17, Tryz.ntmps17;go_upto_region 1 with fail
 try simp only[hW]
 clear hW;refine E8 6 [(3, false, 0), (4, false, 0), (5, false, 0), (2, false, 0)] []
  [Fct.num [] k [a0, a1, a2, b0, b1, b2],
  Fct.num [] 1 [0, 0, 0, 0, 0, 0],
  Fct.val (.bool ((cmpV a0 a1 a2 0 0 0 ==0) && (cmpV b0 b1 b2 0 0 0 ==0))),
  Fct.val (.bool ((cmpV a0 a1 a2 0 0 0 == 0) && (cmpV b0 b1 b2 0 0 0 == 0)))]
  0 rfl (by kernel_rfl) rfl ⟨?_, ?_, ?_, ?_, trivial⟩
  (fun val0 => ⟨#[.agg A0, Jp (Jo ⟨w.heap.size, 0, Jn⟩), val0 2, val0 3, val0 4, val0 5], []⟩) (fun val0 => by kernel_rfl) (fun val0 W0 hB hF => ⟨?_⟩)
 ·exact E7 V0.out (.env rfl (by kernel_rfl)) rfl rfl rfl (by kernel_rfl) (by kernel_rfl)
 ·exact Fl (parts := []) rfl rfl rfl (by kernel_rfl) (fun a w hB hE hD => ⟨(flat [Jm, Jm, Jm, Jm, Jm, Jm]).toArray, by kernel_rfl, [Jm, Jm, Jm, Jm, Jm, Jm], rfl, ⟨vat0 w, vat0 w, vat0 w, vat0 w, vat0 w, vat0 w, trivial⟩, fun q hq => by
   rw [show q = 0 by simpa using hq]; exact few0⟩)
 ·exact EZ cf46 rfl rfl rfl rfl rfl (by kernel_rfl) (fun a v hB hE hD => L3 (hD 0 _ (by kernel_rfl) rfl) (hD 1 _ (by kernel_rfl) rfl) (by simp;omega) (G.out v hB))
 ·exact E5 2 rfl rfl rfl rfl (by kernel_rfl)
 have e2 : val0 2 = .bool ((cmpV a0 a1 a2 0 0 0 ==0) && (cmpV b0 b1 b2 0 0 0 ==0)) :=hF 3 _ rfl;clear hF;generalize val0 2 =t2 at *
 subst e2;replace V0 :=Lh (fun w' (hb : Below W0.heap.size W0 w') => V0.out w' (Jd hB hb));replace K :=Lh (Jd K.out hB);replace G :=Lh (fun w' (hb : Below W0.heap.size W0 w') => G.out w' (Jd hB hb));clear hB;refine Last.nil (by kernel_rfl) ?_;clear G V0;go_wp2_with fail
 exact bodyPost_ret (v := .bool ((cmpV a0 a1 a2 0 0 0 ==0) && (cmpV b0 b1 b2 0 0 0 ==0))) (by simp[results, Tryz.results17, go_sem]) rfl ⟨_, rfl, K.out, rfl⟩
theorem Lu{x : Value}{a0 a1 a2 b0 b1 b2 : Rat}{k : Nat}{w : World}(h : (Fct.num [] k [a0, a1, a2, b0, b1, b2]).P w x)(e0 : a0 =0)(e1 : a1 =0)(e2 : a2 =0)(e3 : b0 =0)(e4 : b1 =0)(e5 : b2 =0)(hn : decide (k <= 900) =true)(hg : Good w) : Calls Tryz.prog 17 #[x] w (Ret w (Fct.val (.bool true))) :=by
 have :=LD h hn hg;rw[Z7 e0 e1 e2, Z7 e3 e4 e5]at this;exact this
