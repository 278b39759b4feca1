/- Twists: the primitive multiple. -/
import Derived.Test.YthhobhjcnmmipaaGreatDoorSTwp
namespace Go.Proofs.YthhobhjcnmmipaaGreatDoor
open Go.Value renaming pointer→Jp,int→Ji,agg→Ja,int→M4
open Go.IntKind renaming i64→Jl
open Go.Obj renaming cells→Jc
open _root_.Option renaming none→Jn,some→Jo
open Go.RowKit.Below renaming refl→M0
open _root_.Nat renaming gcd→M1,le_refl→M3,lt_of_le_of_lt→M5
open _root_.Rat renaming divInt→M2
open Go.RowKit
theorem cf85(args : Array Value)(w : World) : (callFunc 85 args).run Tryz.prog w = .ok (.enter 85 args) w :=by go_simp
theorem cf73(args : Array Value)(w : World) : (callFunc 73 args).run Tryz.prog w = .ok (.enter 73 args) w :=by go_simp
theorem cf74(args : Array Value)(w : World) : (callFunc 74 args).run Tryz.prog w = .ok (.enter 74 args) w :=by go_simp
theorem cf86(args : Array Value)(w : World) : (callFunc 86 args).run Tryz.prog w = .ok (.enter 86 args) w :=by go_simp
theorem cf75(args : Array Value)(w : World) : (callFunc 75 args).run Tryz.prog w = .ok (.enter 75 args) w :=by go_simp
theorem cf84(args : Array Value)(w : World) : (callFunc 84 args).run Tryz.prog w = .ok (.enter 84 args) w :=by go_simp
theorem cf87(args : Array Value)(w : World) : (callFunc 87 args).run Tryz.prog w = .ok (.enter 87 args) w :=by go_simp
set_option maxRecDepth 100000 in
set_option maxHeartbeats 16000000 in
theorem Mf{x : Value}{q0 q1 q2 q3 q4 q5 : Rat}{w : World}(h : (Fct.num [] 4 [q0, q1, q2, q3, q4, q5]).P w x)(hz : ((cmpV q0 q1 q2 0 0 0 ==0) && (cmpV q3 q4 q5 0 0 0 ==0)) =false)(ho : ovK (f6 q0 q1 q2 q3 q4 q5) 6 ≠ 0)(hg : Good w) :
  Calls Tryz.prog 57 #[x] w (Ret w (Fct.made 0 40 [M2 ((unK (f6 q0 q1 q2 q3 q4 q5) 6 : Nat) : Int) ((ovK (f6 q0 q1 q2 q3 q4 q5) 6 : Nat) : Int) * q0, M2 ((unK (f6 q0 q1 q2 q3 q4 q5) 6 : Nat) : Int) ((ovK (f6 q0 q1 q2 q3 q4 q5) 6 : Nat) : Int) * q1, M2 ((unK (f6 q0 q1 q2 q3 q4 q5) 6 : Nat) : Int) ((ovK (f6 q0 q1 q2 q3 q4 q5) 6 : Nat) : Int) * q2, M2 ((unK (f6 q0 q1 q2 q3 q4 q5) 6 : Nat) : Int) ((ovK (f6 q0 q1 q2 q3 q4 q5) 6 : Nat) : Int) * q3, M2 ((unK (f6 q0 q1 q2 q3 q4 q5) 6 : Nat) : Int) ((ovK (f6 q0 q1 q2 q3 q4 q5) 6 : Nat) : Int) * q4, M2 ((unK (f6 q0 q1 q2 q3 q4 q5) 6 : Nat) : Int) ((ovK (f6 q0 q1 q2 q3 q4 q5) 6 : Nat) : Int) * q5])) :=by
 have hf : ∀k, Few (f6 q0 q1 q2 q3 q4 q5 k) 4 :=by
  obtain⟨rs, rfl, hr, f⟩ :=h;intro k
  match k with
  | 0 => exact f q0 (by simp)
  | 1 => exact f q1 (by simp)
  | 2 => exact f q2 (by simp)
  | 3 => exact f q3 (by simp)
  | 4 => exact f q4 (by simp)
  | k + 5 => exact f q5 (by simp)
 obtain⟨F, hF⟩ : ∃F, f6 q0 q1 q2 q3 q4 q5 =F :=⟨_, rfl⟩;have hq : F 0 =q0 /\ F 1 =q1 /\ F 2 =q2 /\ F 3 =q3 /\ F 4 =q4 /\ F 5 =q5 :=by rw[←hF];exact⟨rfl, rfl, rfl, rfl, rfl, rfl⟩
 rw[hF]at hf ho ⊢;have HO :=Lh (WL hf);have HU :=Lh (Wn hf);have HF :=Lh hf;have HG :=Lh hg;have ff : Few (M2 ((unK F 6 : Nat) : Int) ((ovK F 6 : Nat) : Int)) 25 :=by
  have :=QS (z :=((unK F 6 : Nat) : Int)) (k :=((ovK F 6 : Nat) : Int)) (n :=ten 25) (by rw[Int.natAbs_natCast];exact Wn hf 6) (by rw[Int.natAbs_natCast];exact Nat.lt_of_lt_of_le (WL hf 6) (QB (by decide))) (by omega);exact⟨this.1, this.2⟩
 obtain⟨φ, hφ⟩ : ∃φ, M2 ((unK F 6 : Nat) : Int) ((ovK F 6 : Nat) : Int) =φ :=⟨_, rfl⟩;rw[hφ]at ff ⊢;have Hφ :=Lh hφ;have FFφ :=Lh ff;have HN :=Lh ho;have HQ :=Lh hq;clear hf ho hq hF ff hφ;obtain⟨rs0, rfl, hr0, f0⟩ :=h;obtain⟨A0, hA0⟩ : ∃A, ([] ++ flat rs0).toArray =A :=⟨_, rfl⟩;have k0 :=(M0 w.heap.size w).alloc (M3 _) (Jc A0 37);have k1 :=k0.alloc (by simp) (Jc #[M4 Jl 0, Jp Jn, Ji Jl 0, Jp Jn, Ji Jl 0, Jp Jn, Ji Jl 0, Jp Jn, Ji Jl 0, Jp Jn, Ji Jl 0, Jp Jn, Ji Jl 0, Jp Jn, Ji Jl 0, Jp Jn, Ji Jl 0, Jp Jn, Ji Jl 0, Jp Jn, Ji Jl 0, Jp Jn, Ji Jl 0, Jp Jn] 37);have V0 :=Fi.box hA0.symm hr0 f0 37;have V1 :=Jh.new (w.alloc (Jc A0 37)) #[M4 Jl 0, Jp Jn, Ji Jl 0, Jp Jn, Ji Jl 0, Jp Jn, Ji Jl 0, Jp Jn, Ji Jl 0, Jp Jn, Ji Jl 0, Jp Jn, Ji Jl 0, Jp Jn, Ji Jl 0, Jp Jn, Ji Jl 0, Jp Jn, Ji Jl 0, Jp Jn, Ji Jl 0, Jp Jn, Ji Jl 0, Jp Jn] 37;have j1 :=(M0 (w.alloc (Jc A0 37)).heap.size (w.alloc (Jc A0 37))).alloc (M3 _) (Jc #[M4 Jl 0, Jp Jn, Ji Jl 0, Jp Jn, Ji Jl 0, Jp Jn, Ji Jl 0, Jp Jn, Ji Jl 0, Jp Jn, Ji Jl 0, Jp Jn, Ji Jl 0, Jp Jn, Ji Jl 0, Jp Jn, Ji Jl 0, Jp Jn, Ji Jl 0, Jp Jn, Ji Jl 0, Jp Jn, Ji Jl 0, Jp Jn] 37);replace V0 :=(V0.keep j1);simp only[World.size_alloc]at V0 V1;rw[hA0];obtain⟨W, hW⟩ : ∃W, (w.alloc (Jc A0 37)).alloc (Jc #[M4 Jl 0, Jp Jn, Ji Jl 0, Jp Jn, Ji Jl 0, Jp Jn, Ji Jl 0, Jp Jn, Ji Jl 0, Jp Jn, Ji Jl 0, Jp Jn, Ji Jl 0, Jp Jn, Ji Jl 0, Jp Jn, Ji Jl 0, Jp Jn, Ji Jl 0, Jp Jn, Ji Jl 0, Jp Jn, Ji Jl 0, Jp Jn] 37) =W :=⟨_, rfl⟩;rw[hW]at k1 V0 V1;replace V0 :=Lh (fun w' (hb : Below W.heap.size W w') => V0.keep hb)
 replace V1 :=Lh V1;have K :=Lh k1;have G :=Lh (fun w' (hb : Below W.heap.size W w') => hg.below (k1.trans (hb.mono k1.size)));clear hg hr0 f0 hA0 k0 k1 j1;go_enter Tryz.func57, Tryz.ntmps57;go_upto_region 1 with fail
 try simp only[hW]
 clear hW;refine E8 54 [(13, false, 0), (14, false, 0)] []
  [Fct.num [] 4 [q0, q1, q2, q3, q4, q5],
  Fct.val (.bool false)]
  0 rfl (by kernel_rfl) rfl ⟨?_, ?_, trivial⟩
  (fun val0 => ⟨#[Ja A0, Jp (Jo ⟨w.heap.size, 0, Jn⟩), Jp (Jo ⟨w.heap.size + 1, 0, Jn⟩), Ji Jl 0, undef, undef, undef, undef, undef, undef, undef, undef, undef, val0 13, val0 14, undef, undef, undef, undef, undef, undef, undef, undef, undef, undef, undef, undef, undef, undef, undef, undef, undef, undef, undef, undef, undef, undef, undef, undef, undef, undef, undef, undef, undef, undef, undef, undef, undef, undef, undef, undef, undef, undef, undef], []⟩) (fun val0 => by kernel_rfl) (fun val0 W0 hB hF => ⟨?_⟩)
 ·exact E7 V0.out (.env rfl (by kernel_rfl)) rfl rfl rfl (by kernel_rfl) (by kernel_rfl)
 ·exact EZ cf17 rfl rfl rfl rfl rfl (by kernel_rfl) (fun a v hB hE hD => (hz ▸ LD (hD 0 _ (by kernel_rfl) rfl) (by kernel_rfl) (G.out v hB)))
 have e14 : val0 14 = .bool false :=hF 1 _ rfl;clear hF;generalize val0 14 =t14 at *
 subst e14;replace V0 :=Lh (fun w' (hb : Below W0.heap.size W0 w') => V0.out w' (Jd hB hb));replace V1 :=Lh (V1.out.keep hB);replace K :=Lh (Jd K.out hB);replace G :=Lh (fun w' (hb : Below W0.heap.size W0 w') => G.out w' (Jd hB hb));clear hB;refine Last.nil (by kernel_rfl) ?_;have l1 :=(V0.out _ (M0 _ _)).lt;have l2 :=V1.out.lt;have lw :=K.out.size;go_upto_region 3 with fail
 refine E8 54 [(16, false, 0), (17, false, 0), (4, false, 0), (5, false, 0), (4, true, 2), (5, true, 3)] [2, 3]
  [Fct.int (0),
  Fct.int (1),
  Fct.ptrB (W0.heap.size) 2,
  Fct.ptrB (W0.heap.size) 2,
  Fct.ivarB (W0.heap.size) (0),
  Fct.ivarB (W0.heap.size) (1)]
  0 rfl (by kernel_rfl) rfl ⟨?_, ?_, ?_, ?_, ?_, ?_, trivial⟩
  (fun val1 => ⟨#[Ja A0, Jp (Jo ⟨w.heap.size, 0, Jn⟩), Jp (Jo ⟨w.heap.size + 1, 0, Jn⟩), Ji Jl 0, val1 4, val1 5, undef, undef, undef, undef, undef, undef, undef, val0 13, .bool false, undef, val1 16, val1 17, undef, undef, undef, undef, undef, undef, undef, undef, undef, undef, undef, undef, undef, undef, undef, undef, undef, undef, undef, undef, undef, undef, undef, undef, undef, undef, undef, undef, undef, undef, undef, undef, undef, undef, undef, undef], []⟩) (fun val1 => by kernel_rfl) (fun val1 W1 hB hF => ⟨?_⟩)
 ·exact Fp rfl rfl (by kernel_rfl) (fun a w _ _ _ => ⟨Ja #[Ji Jl 0, Jp Jn], by kernel_rfl, QH ⟨by decide, by decide⟩⟩)
 ·exact EZ cf84 rfl rfl rfl rfl rfl (by kernel_rfl) (fun a v hB hE hD => (show Calls _ _ #[Ji Jl 1] v _ from Mg ⟨by decide, by decide⟩))
 ·exact D6 [Ji Jl 0, Jp Jn] 29 rfl rfl rfl (by kernel_rfl) (by kernel_rfl) (M3 _) (fun a w => by go_simp)
 ·exact D6 [Ji Jl 0, Jp Jn] 29 rfl rfl rfl (by kernel_rfl) (by kernel_rfl) (M3 _) (fun a w => by go_simp)
 ·exact NI 2 0 rfl rfl rfl rfl rfl (by kernel_rfl) (by kernel_rfl)
 ·exact NI 3 1 rfl rfl rfl rfl rfl (by kernel_rfl) (by kernel_rfl)
 obtain⟨p4, e4, B4, V4⟩ : (Fct.ivarB (W0.heap.size) (0)).P W1 (val1 4) :=hF 4 _ rfl;obtain⟨p5, e5, B5, V5⟩ : (Fct.ivarB (W0.heap.size) (1)).P W1 (val1 5) :=hF 5 _ rfl;clear hF;generalize val1 4 =t4 at *
 generalize val1 5 =t5 at *
 subst e4 e5;replace V0 :=Lh (fun w' (hb : Below W1.heap.size W1 w') => V0.out w' (Jd hB hb));replace V1 :=Lh (V1.out.keep hB);replace V4 :=Lh (fun w' (hb : Below W1.heap.size W1 w') => V4.keep hb);replace V5 :=Lh (fun w' (hb : Below W1.heap.size W1 w') => V5.keep hb);replace K :=Lh (Jd K.out hB);replace G :=Lh (fun w' (hb : Below W1.heap.size W1 w') => G.out w' (Jd hB hb));clear hB;refine Last.nil (by kernel_rfl) ?_;go_upto_region 4 with fail
 refine E8 54 [(18, false, 0), (19, false, 0), (20, false, 0), (21, false, 0), (22, false, 0), (23, false, 0)] []
  [Fct.val (Jp (Jo ⟨w.heap.size, 0, Jn⟩)),
  Fct.num [] 4 [q0, q1, q2],
  Fct.val (Jp (Jo ⟨w.heap.size, 12, Jn⟩)),
  Fct.num [] 4 [q3, q4, q5],
  Fct.num [] 4 [q0, q1, q2, q3, q4, q5],
  Fct.val (Ji Jl 0)]
  0 rfl (by kernel_rfl) rfl ⟨?_, ?_, ?_, ?_, ?_, ?_, trivial⟩
  (fun val2 => ⟨#[Ja A0, Jp (Jo ⟨w.heap.size, 0, Jn⟩), Jp (Jo ⟨w.heap.size + 1, 0, Jn⟩), Ji Jl 0, Jp (Jo ⟨p4, 0, Jn⟩), Jp (Jo ⟨p5, 0, Jn⟩), undef, undef, undef, undef, undef, undef, undef, val0 13, .bool false, undef, val1 16, val1 17, val2 18, val2 19, val2 20, val2 21, val2 22, val2 23, undef, undef, undef, undef, undef, undef, undef, undef, undef, undef, undef, undef, undef, undef, undef, undef, undef, undef, undef, undef, undef, undef, undef, undef, undef, undef, undef, undef, undef, undef], []⟩) (fun val2 => by kernel_rfl) (fun val2 W2 hB hF => ⟨?_⟩)
 ·exact E4 rfl rfl (.env rfl (by kernel_rfl)) rfl (by kernel_rfl) (fun w => by go_simp)
 ·exact E6 0 3 V0.out (.dep 0 rfl (by kernel_rfl)) rfl rfl rfl (by kernel_rfl) (by kernel_rfl) (by kernel_rfl)
 ·exact E4 rfl rfl (.env rfl (by kernel_rfl)) rfl (by kernel_rfl) (fun w => by go_simp)
 ·exact E6 3 3 V0.out (.dep 2 rfl (by kernel_rfl)) rfl rfl rfl (by kernel_rfl) (by kernel_rfl) (by kernel_rfl)
 ·exact EZ cf72 rfl rfl rfl rfl rfl (by kernel_rfl) (fun a v hB hE hD => Mq (hD 1 _ (by kernel_rfl) rfl) (hD 3 _ (by kernel_rfl) rfl) (by simp))
 ·exact Dh rfl (fun _ => rfl) rfl (by kernel_rfl)
 have F22 : (Fct.num [] 4 [q0, q1, q2, q3, q4, q5]).P W2 (val2 22) :=hF 4 _ rfl;have e23 : val2 23 =Ji Jl 0 :=hF 5 _ rfl;clear hF;generalize val2 23 =t23 at *
 subst e23;replace V0 :=Lh (fun w' (hb : Below W2.heap.size W2 w') => V0.out w' (Jd hB hb));replace V4 :=Lh (fun w' (hb : Below W2.heap.size W2 w') => V4.out w' (Jd hB hb));replace V5 :=Lh (fun w' (hb : Below W2.heap.size W2 w') => V5.out w' (Jd hB hb));replace V1 :=Lh (V1.out.keep hB);replace K :=Lh (Jd K.out hB);replace G :=Lh (fun w' (hb : Below W2.heap.size W2 w') => G.out w' (Jd hB hb));clear hB;refine Last.nil (by kernel_rfl) ?_;obtain⟨rs, e22, hr, fr⟩ :=F22;generalize val2 22 =t22 at *
 subst e22;obtain⟨x0, x1, x2, x3, x4, x5, rfl⟩ :=Nn hr.len;have HR : ∀k, k < 6 -> VAt W2 (r6 x0 x1 x2 x3 x4 x5 k) (F k) :=by
  intro k hk
  match k, hk with
  | 0, _ => rw[HQ.out.1];exact hr.1
  | 1, _ => rw[HQ.out.2.1];exact hr.2.1
  | 2, _ => rw[HQ.out.2.2.1];exact hr.2.2.1
  | 3, _ => rw[HQ.out.2.2.2.1];exact hr.2.2.2.1
  | 4, _ => rw[HQ.out.2.2.2.2.1];exact hr.2.2.2.2.1
  | 5, _ => rw[HQ.out.2.2.2.2.2];exact hr.2.2.2.2.2.1
 have HI :=idx6 x0 x1 x2 x3 x4 x5;obtain⟨D, hD⟩ : ∃D, (flat [x0, x1, x2, x3, x4, x5]).toArray =D :=⟨_, rfl⟩;rw[List.nil_append, hD];rw[hD]at HI;have Hne :=Lh (And.intro (Md (V4.out _ (M0 _ _)) (V5.out _ (M0 _ _))) (show w.heap.size < p4 /\ w.heap.size < p5 /\ w.heap.size + 1 < p4 /\ w.heap.size + 1 < p5 by omega));clear B4 B5 l1 l2 lw hD hr fr;replace HI :=Lh HI;have Hst :=Lh (show IVar W2 p4 ((ovK F 0 : Nat) : Int) /\ IVar W2 p5 ((unK F 0 : Nat) : Int) /\ Fi W2 (w.heap.size) [] 4 [q0, q1, q2, q3, q4, q5] /\ (∀j, j < 6 -> VAt W2 (r6 x0 x1 x2 x3 x4 x5 j) (F j)) /\ Jh W2 (w.heap.size + 1) [Ji Jl 0, Jp Jn, Ji Jl 0, Jp Jn, Ji Jl 0, Jp Jn, Ji Jl 0, Jp Jn, Ji Jl 0, Jp Jn, Ji Jl 0, Jp Jn, Ji Jl 0, Jp Jn, Ji Jl 0, Jp Jn, Ji Jl 0, Jp Jn, Ji Jl 0, Jp Jn, Ji Jl 0, Jp Jn, Ji Jl 0, Jp Jn] /\ Below w.heap.size w W2 from⟨V4.out _ (M0 _ _), V5.out _ (M0 _ _), V0.out _ (M0 _ _), HR, V1.out, K.out⟩);clear V4 V5 V0 HR V1 K G;go_wp2_with fail
 go_loopw [23] (fun v wr => ∃(k : Nat) (z : Int), k <= 6 /\ z =(k : Int) /\ v =Ji Jl z /\ (IVar wr p4 ((ovK F k : Nat) : Int) /\ IVar wr p5 ((unK F k : Nat) : Int) /\ Fi wr (w.heap.size) [] 4 [q0, q1, q2, q3, q4, q5] /\ (∀j, j < 6 -> VAt wr (r6 x0 x1 x2 x3 x4 x5 j) (F j)) /\ Jh wr (w.heap.size + 1) [Ji Jl 0, Jp Jn, Ji Jl 0, Jp Jn, Ji Jl 0, Jp Jn, Ji Jl 0, Jp Jn, Ji Jl 0, Jp Jn, Ji Jl 0, Jp Jn, Ji Jl 0, Jp Jn, Ji Jl 0, Jp Jn, Ji Jl 0, Jp Jn, Ji Jl 0, Jp Jn, Ji Jl 0, Jp Jn, Ji Jl 0, Jp Jn] /\ Below w.heap.size w wr)) (fun v _ => 6-(intOf v).toNat)
 case atStart => exact⟨0, 0, by decide, rfl, rfl, Hst.out⟩
 case round =>
  obtain⟨k, z, hk, rfl, rfl, h4, h5, h0, hr, hz1, hb⟩ :=hrel;have K :=Lh hb;have G :=Lh (fun w' (hb' : Below wr.heap.size wr w') => HG.out.below (hb.trans (hb'.mono hb.size)));have V4 :=Lh (fun w' (hb' : Below wr.heap.size wr w') => h4.keep hb');have V5 :=Lh (fun w' (hb' : Below wr.heap.size wr w') => h5.keep hb');have V0 :=Lh (fun w' (hb' : Below wr.heap.size wr w') => h0.keep hb');have VR :=Lh (fun w' (hb' : Below wr.heap.size wr w') (j : Nat) (hj : j < 6) => (hr j hj).keep hb');have V1 :=Lh hz1;have lw :=Lh (And.intro h4.lt h5.lt);clear h4 h5 h0 hr hz1 hb Hst;rcases Nat.lt_or_ge k 6 with h6|h6
  ·have hk6 : (k : Int) < 6 :=by omega
   go_upto_region 6 with fail
   refine E8 54 [(25, false, 0), (7, false, 0), (7, true, 1)] [1]
    [Fct.num [] 4 [F k],
    Fct.ptrB (wr.heap.size) 4,
    Fct.varB (wr.heap.size) [] 4 [F k]]
    0 rfl (by kernel_rfl) rfl ⟨?_, ?_, ?_, trivial⟩
    (fun val3 => ⟨#[Ja A0, Jp (Jo ⟨w.heap.size, 0, Jn⟩), Jp (Jo ⟨w.heap.size + 1, 0, Jn⟩), Ji Jl 0, Jp (Jo ⟨p4, 0, Jn⟩), Jp (Jo ⟨p5, 0, Jn⟩), undef, val3 7, u8, u9, u10, undef, undef, val0 13, .bool false, undef, val1 16, val1 17, val2 18, val2 19, val2 20, val2 21, Ja D, Ji Jl (k : Int), .bool true, val3 25, u26, u27, u28, u29, u30, u31, u32, u33, u34, u35, u36, u37, u38, u39, u40, u41, u42, u43, u44, undef, undef, undef, undef, undef, undef, undef, undef, undef], []⟩) (fun val3 => by kernel_rfl) (fun val3 W3 hB hF => ⟨?_⟩)
   ·exact Fp rfl rfl (by kernel_rfl) (fun a v hB hE _ => ⟨Ja (flat [(r6 x0 x1 x2 x3 x4 x5 k)]).toArray, by
     have e : a.eval (.tmp 22) =Ja D :=hE 22 (by kernel_rfl);have e2 : a.eval (.tmp 23) =Ji Jl (k : Int) :=hE 23 (by kernel_rfl);unfold execOp;show(do pure (Next.value (←Instr.index 125 (a.eval (.tmp 22)) (a.eval (.tmp 23))))).run Tryz.prog v =_;rw[e, e2, Sem.run_bind, HI.out k h6 v];rfl, ⟨[(r6 x0 x1 x2 x3 x4 x5 k)], rfl, ⟨VR.out _ hB k h6, trivial⟩, fun q hq => by rw [List.mem_singleton.1 hq]; exact HF.out k⟩⟩)
   ·exact D6 [Ji Jl 0, Jp Jn, Ji Jl 0, Jp Jn] 31 rfl rfl rfl (by kernel_rfl) (by kernel_rfl) (M3 _) (fun a w => by go_simp)
   ·exact D5 1 0 rfl rfl rfl rfl rfl (by kernel_rfl) (by kernel_rfl)
   obtain⟨p7, e7, B7, V7⟩ : (Fct.varB (wr.heap.size) [] 4 [F k]).P W3 (val3 7) :=hF 2 _ rfl;clear hF;generalize val3 7 =t7 at *
   subst e7;replace V4 :=Lh (fun w' (hb : Below W3.heap.size W3 w') => V4.out w' (Jd hB hb));replace V5 :=Lh (fun w' (hb : Below W3.heap.size W3 w') => V5.out w' (Jd hB hb));replace V0 :=Lh (fun w' (hb : Below W3.heap.size W3 w') => V0.out w' (Jd hB hb));replace VR :=Lh (fun w' (hb : Below W3.heap.size W3 w') => VR.out w' (Jd hB hb));replace V1 :=Lh (V1.out.keep hB);replace V7 :=Lh (fun w' (hb : Below W3.heap.size W3 w') => V7.keep hb);replace K :=Lh (Jd K.out hB);replace G :=Lh (fun w' (hb : Below W3.heap.size W3 w') => G.out w' (Jd hB hb));clear hB;refine Last.nil (by kernel_rfl) ?_;have Hn7 :=Lh (show p7 ≠ p4 /\ p7 ≠ p5 by have :=lw.out.1;have :=lw.out.2;omega);clear B7;go_upto_region 7 with fail
   refine Fy 54 [(26, false, 0), (27, false, 0), (28, false, 0), (29, false, 0)] []
    [Fct.int (((ovK F k : Nat) : Int)),
    Fct.num [] 4 [F k],
    Fct.int ((F k).num),
    Fct.int (((ovK F (k + 1) : Nat) : Int))]
    #[true, true, true, true, false] 1 rfl (by kernel_rfl) rfl (by kernel_rfl) ⟨?_, ?_, ?_, ?_, trivial⟩
    (fun val4 => ⟨#[Ja A0, Jp (Jo ⟨w.heap.size, 0, Jn⟩), Jp (Jo ⟨w.heap.size + 1, 0, Jn⟩), Ji Jl 0, Jp (Jo ⟨p4, 0, Jn⟩), Jp (Jo ⟨p5, 0, Jn⟩), undef, Jp (Jo ⟨p7, 0, Jn⟩), u8, u9, u10, undef, undef, val0 13, .bool false, undef, val1 16, val1 17, val2 18, val2 19, val2 20, val2 21, Ja D, Ji Jl (k : Int), .bool true, val3 25, val4 26, val4 27, val4 28, val4 29, u30, u31, u32, u33, u34, u35, u36, u37, u38, u39, u40, u41, u42, u43, u44, undef, undef, undef, undef, undef, undef, undef, undef, undef], []⟩) (fun val4 => by kernel_rfl) (fun val4 v4 hB hF => ⟨?_⟩)
   ·exact NH V4.out (.env rfl (by kernel_rfl)) rfl rfl rfl (by kernel_rfl) (by kernel_rfl)
   ·exact E7 V7.out (.env rfl (by kernel_rfl)) rfl rfl rfl (by kernel_rfl) (by kernel_rfl)
   ·exact EZ cf85 rfl rfl rfl rfl rfl (by kernel_rfl) (fun a v hB hE hD => Mv (hD 1 _ (by kernel_rfl) rfl))
   ·exact EZ cf74 rfl rfl rfl rfl rfl (by kernel_rfl) (fun a v hB hE hD => Mj (hD 0 _ (by kernel_rfl) rfl) (hD 2 _ (by kernel_rfl) rfl) (n47 (HO.out k) (by decide)) (n47 (HF.out k).n (by decide)) (G.out v hB))
   have hx : Jj 0 v4 (val4 29) _ :=hF 3 _ rfl;clear hF;refine NL (s2 :=29) (V4.out _ hB) hx rfl rfl rfl rfl rfl (by kernel_rfl) rfl (fun y4 hW hV => ?_);have hN :=Hne.out;have Z4 : IVar y4 p4 (((ovK F (k + 1) : Nat) : Int)) :=hV;have Z5 :=(V5.out _ hB).wr hW (Ne.symm hN.1);have Z0 :=(V0.out _ hB).wr hW (by omega);have ZR :=fun j hj => (VR.out _ hB j hj).wr hW;have Z1 :=(V1.out.keep hB).wr hW (by omega);have Z7 :=(V7.out _ hB).wr hW Hn7.out.1;have ZB :=hW.below (show w.heap.size <= p4 by omega) (K.out.trans (hB.mono K.out.size));clear hx hV hW hB hN V1 K G V4 V5 V0 VR V7;have V4 :=Lh (fun w' (hb : Below y4.heap.size y4 w') => Z4.keep hb);have V5 :=Lh (fun w' (hb : Below y4.heap.size y4 w') => Z5.keep hb);have V0 :=Lh (fun w' (hb : Below y4.heap.size y4 w') => Z0.keep hb);have V7 :=Lh (fun w' (hb : Below y4.heap.size y4 w') => Z7.keep hb);have VR :=Lh (fun w' (hb : Below y4.heap.size y4 w') (j : Nat) (hj : j < 6) => (ZR j hj).keep hb);have V1 :=Lh Z1;have K :=Lh ZB;have G :=Lh (fun w' (hb : Below y4.heap.size y4 w') => HG.out.below (ZB.trans (hb.mono ZB.size)));clear Z4 Z5 Z0 Z7 ZR Z1 ZB;go_upto_region 8 with fail
   refine Fy 54 [(31, false, 0), (32, false, 0), (33, false, 0), (34, false, 0), (35, false, 0), (36, false, 0), (37, false, 0), (30, false, 0), (38, false, 0), (39, false, 0), (40, false, 0), (8, false, 0), (9, false, 0), (8, true, 11), (9, true, 12), (10, false, 0)] [11, 12]
    [Fct.num [] 4 [F k],
    Fct.int ((((F k).den : Nat) : Int)),
    Fct.int (((unK F k : Nat) : Int)),
    Fct.num [] 4 [F k],
    Fct.int ((((F k).den : Nat) : Int)),
    Fct.int (((M1 (unK F k) (F k).den : Nat) : Int)),
    Fct.dm ((((F k).den/M1 (unK F k) (F k).den : Nat) : Int)) ((((F k).den%M1 (unK F k) (F k).den : Nat) : Int)),
    Fct.dm ((((F k).den/M1 (unK F k) (F k).den : Nat) : Int)) ((((F k).den%M1 (unK F k) (F k).den : Nat) : Int)),
    Fct.int ((((F k).den/M1 (unK F k) (F k).den : Nat) : Int)),
    Fct.int ((((F k).den%M1 (unK F k) (F k).den : Nat) : Int)),
    Fct.val (Ji Jl 0),
    Fct.ptrB (y4.heap.size) 2,
    Fct.ptrB (y4.heap.size) 2,
    Fct.ivarB (y4.heap.size) ((((F k).den/M1 (unK F k) (F k).den : Nat) : Int)),
    Fct.ivarB (y4.heap.size) ((((F k).den%M1 (unK F k) (F k).den : Nat) : Int)),
    Fct.val (Ji Jl 0)]
    #[true, true, true, true, true, true, true, true, true, true, true, true, true, true, true, true] 0 rfl (by kernel_rfl) rfl (by kernel_rfl) ⟨?_, ?_, ?_, ?_, ?_, ?_, ?_, ?_, ?_, ?_, ?_, ?_, ?_, ?_, ?_, ?_, trivial⟩
    (fun val5 => ⟨#[Ja A0, Jp (Jo ⟨w.heap.size, 0, Jn⟩), Jp (Jo ⟨w.heap.size + 1, 0, Jn⟩), Ji Jl 0, Jp (Jo ⟨p4, 0, Jn⟩), Jp (Jo ⟨p5, 0, Jn⟩), undef, Jp (Jo ⟨p7, 0, Jn⟩), val5 8, val5 9, val5 10, undef, undef, val0 13, .bool false, undef, val1 16, val1 17, val2 18, val2 19, val2 20, val2 21, Ja D, Ji Jl (k : Int), .bool true, val3 25, val4 26, val4 27, val4 28, val4 29, val5 30, val5 31, val5 32, val5 33, val5 34, val5 35, val5 36, val5 37, val5 38, val5 39, val5 40, u41, u42, u43, u44, undef, undef, undef, undef, undef, undef, undef, undef, undef], []⟩) (fun val5 => by kernel_rfl) (fun val5 W5 hB hF => ⟨?_⟩)
   ·exact E7 V7.out (.env rfl (by kernel_rfl)) rfl rfl rfl (by kernel_rfl) (by kernel_rfl)
   ·exact EZ cf73 rfl rfl rfl rfl rfl (by kernel_rfl) (fun a v hB hE hD => Mk (hD 0 _ (by kernel_rfl) rfl))
   ·exact NH V5.out (.env rfl (by kernel_rfl)) rfl rfl rfl (by kernel_rfl) (by kernel_rfl)
   ·exact E7 V7.out (.env rfl (by kernel_rfl)) rfl rfl rfl (by kernel_rfl) (by kernel_rfl)
   ·exact EZ cf73 rfl rfl rfl rfl rfl (by kernel_rfl) (fun a v hB hE hD => Mk (hD 3 _ (by kernel_rfl) rfl))
   ·exact EZ cf74 rfl rfl rfl rfl rfl (by kernel_rfl) (fun a v hB hE hD => Mj (hD 2 _ (by kernel_rfl) rfl) (hD 4 _ (by kernel_rfl) rfl) (n47 (HU.out k) (by omega)) (n47 (HF.out k).d (by decide)) (G.out v hB))
   ·exact EZ cf86 rfl rfl rfl rfl rfl (by kernel_rfl) (fun a v hB hE hD => Ms (hD 1 _ (by kernel_rfl) rfl) (hD 5 _ (by kernel_rfl) rfl) (Nat.gcd_pos_of_pos_right _ (F k).den_pos) (n47 (HF.out k).d (by decide)) (M5 (Nat.gcd_le_right _ (F k).den_pos) (n47 (HF.out k).d (by decide))))
   ·exact E5 6 rfl rfl rfl rfl (by kernel_rfl)
   ·exact Mo 7 rfl rfl rfl rfl (by kernel_rfl)
   ·exact Mn 7 rfl rfl rfl rfl (by kernel_rfl)
   ·exact Mm 7 rfl rfl rfl rfl (by kernel_rfl)
   ·exact D6 [Ji Jl 0, Jp Jn] 29 rfl rfl rfl (by kernel_rfl) (by kernel_rfl) (M3 _) (fun a w => by go_simp)
   ·exact D6 [Ji Jl 0, Jp Jn] 29 rfl rfl rfl (by kernel_rfl) (by kernel_rfl) (M3 _) (fun a w => by go_simp)
   ·exact NI 11 8 rfl rfl rfl rfl rfl (by kernel_rfl) (by kernel_rfl)
   ·exact NI 12 9 rfl rfl rfl rfl rfl (by kernel_rfl) (by kernel_rfl)
   ·exact E5 10 rfl rfl rfl rfl (by kernel_rfl)
   obtain⟨p8, e8, B8, V8⟩ : (Fct.ivarB (y4.heap.size) ((((F k).den/M1 (unK F k) (F k).den : Nat) : Int))).P W5 (val5 8) :=hF 13 _ rfl;clear hF;generalize val5 8 =t8 at *
   subst e8;replace V4 :=Lh (fun w' (hb : Below W5.heap.size W5 w') => V4.out w' (Jd hB hb));replace V5 :=Lh (fun w' (hb : Below W5.heap.size W5 w') => V5.out w' (Jd hB hb));replace V0 :=Lh (fun w' (hb : Below W5.heap.size W5 w') => V0.out w' (Jd hB hb));replace V7 :=Lh (fun w' (hb : Below W5.heap.size W5 w') => V7.out w' (Jd hB hb));replace VR :=Lh (fun w' (hb : Below W5.heap.size W5 w') => VR.out w' (Jd hB hb));replace V1 :=Lh (V1.out.keep hB);replace V8 :=Lh (fun w' (hb : Below W5.heap.size W5 w') => V8.keep hb);replace K :=Lh (Jd K.out hB);replace G :=Lh (fun w' (hb : Below W5.heap.size W5 w') => G.out w' (Jd hB hb));clear hB;refine Last.nil (by kernel_rfl) ?_;clear B8;clear V7;go_upto_region 9 with fail
   refine E8 54 [(41, false, 0), (42, false, 0), (43, false, 0)] []
    [Fct.int (((unK F k : Nat) : Int)),
    Fct.int ((((F k).den/M1 (unK F k) (F k).den : Nat) : Int)),
    Fct.int (((unK F k : Nat) : Int) * (((F k).den / M1 (unK F k) (F k).den : Nat) : Int))]
    1 rfl (by kernel_rfl) rfl ⟨?_, ?_, ?_, trivial⟩
    (fun val6 => ⟨#[Ja A0, Jp (Jo ⟨w.heap.size, 0, Jn⟩), Jp (Jo ⟨w.heap.size + 1, 0, Jn⟩), Ji Jl 0, Jp (Jo ⟨p4, 0, Jn⟩), Jp (Jo ⟨p5, 0, Jn⟩), undef, Jp (Jo ⟨p7, 0, Jn⟩), Jp (Jo ⟨p8, 0, Jn⟩), val5 9, val5 10, undef, undef, val0 13, .bool false, undef, val1 16, val1 17, val2 18, val2 19, val2 20, val2 21, Ja D, Ji Jl (k : Int), .bool true, val3 25, val4 26, val4 27, val4 28, val4 29, val5 30, val5 31, val5 32, val5 33, val5 34, val5 35, val5 36, val5 37, val5 38, val5 39, val5 40, val6 41, val6 42, val6 43, u44, undef, undef, undef, undef, undef, undef, undef, undef, undef], []⟩) (fun val6 => by kernel_rfl) (fun val6 v6 hB hF => ⟨?_⟩)
   ·exact NH V5.out (.env rfl (by kernel_rfl)) rfl rfl rfl (by kernel_rfl) (by kernel_rfl)
   ·exact NH V8.out (.env rfl (by kernel_rfl)) rfl rfl rfl (by kernel_rfl) (by kernel_rfl)
   ·exact EZ cf75 rfl rfl rfl rfl rfl (by kernel_rfl) (fun a v hB hE hD => Mr (hD 0 _ (by kernel_rfl) rfl) (hD 1 _ (by kernel_rfl) rfl) (n47 (HU.out k) (by omega)) (M5 (Nat.div_le_self _ _) (n47 (HF.out k).d (by decide))))
   have hx : Jj 0 v6 (val6 43) _ :=hF 2 _ rfl;clear hF;refine NL (s2 :=43) (V5.out _ hB) hx rfl rfl rfl rfl rfl (by kernel_rfl) rfl (fun y6 hW hV => ?_);have hN :=Hne.out;have hV2 :=(show((unK F (k + 1) : Nat) : Int) =((unK F k : Nat) : Int) * (((F k).den/M1 (unK F k) (F k).den : Nat) : Int)from Int.natCast_mul _ _) ▸ hV;have Z5 : IVar y6 p5 (((unK F (k + 1) : Nat) : Int)) :=hV2;have Z4 :=(V4.out _ hB).wr hW hN.1;have Z0 :=(V0.out _ hB).wr hW (by omega);have ZR :=fun j hj => (VR.out _ hB j hj).wr hW;have Z1 :=(V1.out.keep hB).wr hW (by omega);have ZB :=hW.below (show w.heap.size <= p5 by omega) (K.out.trans (hB.mono K.out.size));clear hx hV hV2 hW hB hN V1 K G V4 V5 V0 VR V8;have V4 :=Lh (fun w' (hb : Below y6.heap.size y6 w') => Z4.keep hb);have V5 :=Lh (fun w' (hb : Below y6.heap.size y6 w') => Z5.keep hb);have V0 :=Lh (fun w' (hb : Below y6.heap.size y6 w') => Z0.keep hb);have VR :=Lh (fun w' (hb : Below y6.heap.size y6 w') (j : Nat) (hj : j < 6) => (ZR j hj).keep hb);have V1 :=Lh Z1;have K :=Lh ZB;have G :=Lh (fun w' (hb : Below y6.heap.size y6 w') => HG.out.below (ZB.trans (hb.mono ZB.size)));clear Z4 Z5 Z0 ZR Z1 ZB;have hw1 : IntKind.wrap Jl ((k : Int) + 1) =(k : Int) + 1 :=EM (by omega) (by omega);go_wp2_with fail
   go_roundw;case rel => exact⟨k + 1, (k : Int) + 1, by omega, by omega, by first|rfl|simp[hw1]|go_num, V4.out _ (M0 _ _), V5.out _ (M0 _ _), V0.out _ (M0 _ _), VR.out _ (M0 _ _), V1.out, K.out⟩
   case measure => simp[intOf];omega
  ·obtain rfl : k =6 :=by omega
   go_upto_region 11 with fail
   refine E8 54 [(46, false, 0), (47, false, 0), (48, false, 0), (45, false, 0), (49, false, 0), (50, false, 0), (11, false, 0), (11, true, 6), (12, false, 0)] [6]
    [Fct.int (((unK F 6 : Nat) : Int)),
    Fct.int (((ovK F 6 : Nat) : Int)),
    Fct.made 0 25 [φ],
    Fct.made 0 25 [φ],
    Fct.num [] 25 [φ],
    Fct.val (Ji Jl 0),
    Fct.ptr 4,
    Fct.var [] 25 [φ],
    Fct.val (Ji Jl 0)]
    0 rfl (by kernel_rfl) rfl ⟨?_, ?_, ?_, ?_, ?_, ?_, ?_, ?_, ?_, trivial⟩
    (fun val7 => ⟨#[Ja A0, Jp (Jo ⟨w.heap.size, 0, Jn⟩), Jp (Jo ⟨w.heap.size + 1, 0, Jn⟩), Ji Jl 0, Jp (Jo ⟨p4, 0, Jn⟩), Jp (Jo ⟨p5, 0, Jn⟩), undef, u7, u8, u9, u10, val7 11, val7 12, val0 13, .bool false, undef, val1 16, val1 17, val2 18, val2 19, val2 20, val2 21, Ja D, Ji Jl 6, .bool false, u25, u26, u27, u28, u29, u30, u31, u32, u33, u34, u35, u36, u37, u38, u39, u40, u41, u42, u43, u44, val7 45, val7 46, val7 47, val7 48, val7 49, val7 50, undef, undef, undef], []⟩) (fun val7 => by kernel_rfl) (fun val7 W7 hB hF => ⟨?_⟩)
   ·exact NH V5.out (.env rfl (by kernel_rfl)) rfl rfl rfl (by kernel_rfl) (by kernel_rfl)
   ·exact NH V4.out (.env rfl (by kernel_rfl)) rfl rfl rfl (by kernel_rfl) (by kernel_rfl)
   ·exact EZ cf87 rfl rfl rfl rfl rfl (by kernel_rfl) (fun a v hB hE hD => (by have q :=Mp (n :=25) (hD 0 _ (by kernel_rfl) rfl) (hD 1 _ (by kernel_rfl) rfl) (by have :=HN.out;omega) (n47 (HU.out 6) (by decide)) (n47 (HO.out 6) (by decide)) (by rw[Hφ.out];exact FFφ.out) (G.out v hB);rw[Hφ.out]at q;exact q))
   ·exact E5 2 rfl rfl rfl rfl (by kernel_rfl)
   ·exact Fx 3 rfl rfl rfl rfl (by kernel_rfl)
   ·exact Fw 3 rfl rfl rfl rfl (by kernel_rfl)
   ·exact Fb [Ji Jl 0, Jp Jn, Ji Jl 0, Jp Jn] 31 rfl rfl rfl (by kernel_rfl) (by kernel_rfl) (fun a w => by go_simp)
   ·exact E9 6 4 rfl rfl rfl rfl rfl (by kernel_rfl) (by kernel_rfl)
   ·exact E5 5 rfl rfl rfl rfl (by kernel_rfl)
   obtain⟨p11, e11, V11⟩ : (Fct.var [] 25 [φ]).P W7 (val7 11) :=hF 7 _ rfl;clear hF;generalize val7 11 =t11 at *
   subst e11;replace V4 :=Lh (fun w' (hb : Below W7.heap.size W7 w') => V4.out w' (Jd hB hb));replace V5 :=Lh (fun w' (hb : Below W7.heap.size W7 w') => V5.out w' (Jd hB hb));replace V0 :=Lh (fun w' (hb : Below W7.heap.size W7 w') => V0.out w' (Jd hB hb));replace VR :=Lh (fun w' (hb : Below W7.heap.size W7 w') => VR.out w' (Jd hB hb));replace V1 :=Lh (V1.out.keep hB);replace V11 :=Lh (fun w' (hb : Below W7.heap.size W7 w') => V11.keep hb);replace K :=Lh (Jd K.out hB);replace G :=Lh (fun w' (hb : Below W7.heap.size W7 w') => G.out w' (Jd hB hb));clear hB;refine Last.nil (by kernel_rfl) ?_;go_upto_region 12 with fail
   refine LK 54 [(51, false, 0), (52, false, 0), (53, false, 0)] [] [Fct.num [] 4 [q0, q1, q2, q3, q4, q5], Fct.num [] 25 [φ], Fct.num [] 40 [φ * q0, φ * q1, φ * q2, φ * q3, φ * q4, φ * q5]] 2 rfl (by kernel_rfl) rfl ⟨?_, ?_, ?_, trivial⟩
    (fun valE => ⟨#[Ja A0, Jp (Jo ⟨w.heap.size, 0, Jn⟩), Jp (Jo ⟨w.heap.size + 1, 0, Jn⟩), Ji Jl 0, Jp (Jo ⟨p4, 0, Jn⟩), Jp (Jo ⟨p5, 0, Jn⟩), undef, u7, u8, u9, u10, Jp (Jo ⟨p11, 0, Jn⟩), val7 12, val0 13, .bool false, undef, val1 16, val1 17, val2 18, val2 19, val2 20, val2 21, Ja D, Ji Jl 6, .bool false, u25, u26, u27, u28, u29, u30, u31, u32, u33, u34, u35, u36, u37, u38, u39, u40, u41, u42, u43, u44, val7 45, val7 46, val7 47, val7 48, val7 49, val7 50, valE 51, valE 52, valE 53], []⟩) (fun valE => by kernel_rfl) (fun valE WE hB hF => ⟨?_⟩)
   ·exact E7 V0.out (.env rfl (by kernel_rfl)) rfl rfl rfl (by kernel_rfl) (by kernel_rfl)
   ·exact E7 V11.out (.env rfl (by kernel_rfl)) rfl rfl rfl (by kernel_rfl) (by kernel_rfl)
   ·exact EZ cf56 rfl rfl rfl rfl rfl (by kernel_rfl) (fun a v hB hE hD => Na (hD 0 _ (by kernel_rfl) rfl) (hD 1 _ (by kernel_rfl) rfl) (by kernel_rfl) (G.out v hB))
   obtain⟨rs2, e53, hr2, fr2⟩ : (Fct.num [] 40 [φ * q0, φ * q1, φ * q2, φ * q3, φ * q4, φ * q5]).P WE (valE 53) :=hF 2 _ rfl;clear hF;generalize valE 51 =t51 at *
   generalize valE 52 =t52 at *
   generalize valE 53 =t53 at *
   have hl2 : ([] ++ flat rs2).length =24 :=by simp[Fc, hr2.len]
   have hz2 :=V1.out.keep hB;have W1 :=hz2.wrote_ (vs := [] ++ flat rs2) hl2 rfl (Fa _);have C1 :=hz2.stored (vs := [] ++ flat rs2) hl2;have hV : Fi _ (w.heap.size + 1) [] 40 [φ * q0, φ * q1, φ * q2, φ * q3, φ * q4, φ * q5] :=⟨rs2, C1, hr2.wr W1, fr2⟩;have Kf :=W1.below (show w.heap.size <= w.heap.size + 1 by omega) (K.out.trans (hB.mono K.out.size));refine Ng (m :=24) (w.heap.size + 1) 0 ([] ++ flat rs2) rfl rfl rfl rfl rfl e53 hl2 (hz2.there 24 (by show 24 <= 24;decide)) (by kernel_rfl) (Fa _) ?_;refine Nd (u :=Ji Jl 0) rfl rfl rfl (DW ?_);generalize World.setCells _ _ _ _ =WF at *
   clear W1 C1 hz2 hr2 fr2 e53 hl2 hB V0 V1 V4 V5 V11 VR K G;go_wp2_with fail
   exact NK (m :=24) hV Kf rfl rfl rfl (by kernel_rfl) (by kernel_rfl) rfl
