/- GC45: Vrp Vro Vst4 -/
import Derived.Test.YtekhdklbfincpaaGreatDoorGC44
import Derived.Test.YtekhdklbfincpaaGreatDoorGC42
set_option maxRecDepth 100000
set_option maxHeartbeats 16000000
namespace Go.Proofs.YtekhdklbfincpaaGreatDoor
open Go.Value renaming pointer→Jp,int→Ji,string→Js
open Go.IntKind renaming i64→Jl
open Go.Obj renaming cells→Jc
open _root_.Option renaming none→Jn,some→Jo
open Go renaming World→JW
open Go.Act renaming put→M0
open Go.RowKit.Below renaming refl→M1,heap_setCell→M4
open _root_.Nat renaming le_refl→M2,le_trans→M3
open Go.RowKit
theorem ON{p0 p1 p2 q0 q1 q2:Rat}{k m:Nat}(f:Few3 k p0 p1 p2)(f':Few3 m q0 q1 q2)(hk:k+m<=900)(w:JW) :
  Calls Tryz.prog 39 #[.agg #[Js (Jj p0),Js (Jj p1),Js (Jj p2)],.agg #[Js (Jj q0),Js (Jj q1),Js (Jj q2)]] w fun e w'=>e= .returned (.agg #[Js (Jj (p1*q2-p2*q1)),Js (Jj (p2*q0-p0*q2)),Js (Jj (p0*q1-p1*q0))])/\Below w.heap.size w w':=by
 have h0:=fun w'=>Qk f.y f'.z (by omega) (by omega) w';have g0:=fun w'=>Qk f.z f'.y (by omega) (by omega) w';have s0:=fun w'=>Xm (f.y.mul f'.z) (f.z.mul f'.y) (by omega) (by omega) w';have h1:=fun w'=>Qk f.z f'.x (by omega) (by omega) w';have g1:=fun w'=>Qk f.x f'.z (by omega) (by omega) w';have s1:=fun w'=>Xm (f.z.mul f'.x) (f.x.mul f'.z) (by omega) (by omega) w';have h2:=fun w'=>Qk f.x f'.y (by omega) (by omega) w';have g2:=fun w'=>Qk f.y f'.x (by omega) (by omega) w';have s2:=fun w'=>Xm (f.x.mul f'.y) (f.y.mul f'.x) (by omega) (by omega) w';clear f f' hk;generalize Jj (p1*q2-p2*q1)=c0 at *
 generalize Jj (p2*q0-p0*q2)=c1 at *
 generalize Jj (p0*q1-p1*q0)=c2 at *
 generalize Jj (p1*q2)=m0 at *
 generalize Jj (p2*q0)=m1 at *
 generalize Jj (p0*q1)=m2 at *
 generalize Jj (p2*q1)=n0 at *
 generalize Jj (p0*q2)=n1 at *
 generalize Jj (p1*q0)=n2 at *
 generalize Jj p0=a0 at *
 generalize Jj p1=a1 at *
 generalize Jj p2=a2 at *
 generalize Jj q0=b0 at *
 generalize Jj q1=b1 at *
 generalize Jj q2=b2 at *
 have kb:=((((M1 w.heap.size w).alloc (M2 _) (Jc #[Js a0,Js a1,Js a2] 48)).alloc (by simp) (Jc #[Js b0,Js b1,Js b2] 48)).alloc (by simp;omega) (Jc #[Js ⟨#[]⟩,Js ⟨#[]⟩,Js ⟨#[]⟩] 48)).alloc (by simp;omega) (Jc #[Js ⟨#[]⟩,Js ⟨#[]⟩,Js ⟨#[]⟩] 48);have C0:=(((Jh.new w #[Js a0,Js a1,Js a2] 48).keep ((M1 _ _).alloc (M2 _) (Jc #[Js b0,Js b1,Js b2] 48))).keep ((M1 _ _).alloc (M2 _) (Jc #[Js ⟨#[]⟩,Js ⟨#[]⟩,Js ⟨#[]⟩] 48))).keep ((M1 _ _).alloc (M2 _) (Jc #[Js ⟨#[]⟩,Js ⟨#[]⟩,Js ⟨#[]⟩] 48));have C1:=((Jh.new (w.alloc (Jc #[Js a0,Js a1,Js a2] 48)) #[Js b0,Js b1,Js b2] 48).keep ((M1 _ _).alloc (M2 _) (Jc #[Js ⟨#[]⟩,Js ⟨#[]⟩,Js ⟨#[]⟩] 48))).keep ((M1 _ _).alloc (M2 _) (Jc #[Js ⟨#[]⟩,Js ⟨#[]⟩,Js ⟨#[]⟩] 48));have C2:=(Jh.new ((w.alloc (Jc #[Js a0,Js a1,Js a2] 48)).alloc (Jc #[Js b0,Js b1,Js b2] 48)) #[Js ⟨#[]⟩,Js ⟨#[]⟩,Js ⟨#[]⟩] 48).keep ((M1 _ _).alloc (M2 _) (Jc #[Js ⟨#[]⟩,Js ⟨#[]⟩,Js ⟨#[]⟩] 48));have C3:=Jh.new (((w.alloc (Jc #[Js a0,Js a1,Js a2] 48)).alloc (Jc #[Js b0,Js b1,Js b2] 48)).alloc (Jc #[Js ⟨#[]⟩,Js ⟨#[]⟩,Js ⟨#[]⟩] 48)) #[Js ⟨#[]⟩,Js ⟨#[]⟩,Js ⟨#[]⟩] 48;simp only[World.size_alloc]at C1 C2 C3;have hs:((((w.alloc (Jc #[Js a0,Js a1,Js a2] 48)).alloc (Jc #[Js b0,Js b1,Js b2] 48)).alloc (Jc #[Js ⟨#[]⟩,Js ⟨#[]⟩,Js ⟨#[]⟩] 48)).alloc (Jc #[Js ⟨#[]⟩,Js ⟨#[]⟩,Js ⟨#[]⟩] 48)).heap.size=w.heap.size+1+1+1+1:=by simp
 obtain⟨W,hW⟩:∃u,(((w.alloc (Jc #[Js a0,Js a1,Js a2] 48)).alloc (Jc #[Js b0,Js b1,Js b2] 48)).alloc (Jc #[Js ⟨#[]⟩,Js ⟨#[]⟩,Js ⟨#[]⟩] 48)).alloc (Jc #[Js ⟨#[]⟩,Js ⟨#[]⟩,Js ⟨#[]⟩] 48)=u:=⟨_,rfl⟩;rw[hW]at hs kb C0 C1 C2 C3;have K0:=Lh kb;have V0:=Lh (show Jh W (w.heap.size) _ from C0);have V1:=Lh (show Jh W (w.heap.size+1) _ from C1);have V2:=Lh (show Jh W (w.heap.size+1+1) _ from C2);have V3:=Lh (show Jh W (w.heap.size+1+1+1) _ from C3);have HA0:=Lh h0;have HG0:=Lh g0;have HC0:=Lh s0;have HA1:=Lh h1;have HG1:=Lh g1;have HC1:=Lh s1;have HA2:=Lh h2;have HG2:=Lh g2;have HC2:=Lh s2;have Hst:=Lh (show Xf w (w.heap.size+3) [c0,c1,c2] 0 W from⟨⟨[⟨#[]⟩,⟨#[]⟩,⟨#[]⟩],rfl,C3,fun i q h=>absurd h (Nat.not_lt_zero _)⟩,C2,kb⟩);have HX:=Lh (fun wr (hb:Below (w.heap.size+2) W wr) (i:Nat)=>(hb.cell (p:=⟨w.heap.size,i,Jn⟩) (by show w.heap.size<w.heap.size+2;omega)).trans (C0.at_ i));have HY:=Lh (fun wr (hb:Below (w.heap.size+2) W wr) (i:Nat)=>(hb.cell (p:=⟨w.heap.size+1,i,Jn⟩) (by show w.heap.size+1<w.heap.size+2;omega)).trans (C1.at_ i));have HZ:=Lh (show W.heap.size=w.heap.size+4 from hs);clear kb C0 C1 C2 C3 hs h0 h1 h2 g0 g1 g2 s0 s1 s2 V0 V1 V2 V3;go_enter Tryz.func39,Tryz.ntmps39;go_wp2_with fail
 try simp only[hW]
 clear hW;go_loopw [6] (fun v wr=>∃(k:Nat) (z:Int),k<=3/\z=(k:Int)/\v=Ji Jl z/\Xf w (w.heap.size+3) [c0,c1,c2] k wr/\Below (w.heap.size+2) W wr) (fun v _=>3-(intOf v).toNat)
 case atStart=>exact⟨0,0,by decide,rfl,rfl,Hst.out,M1 _ _⟩
 case round=>
  obtain⟨k,z,hk,hzk,rfl,⟨⟨ss,hl,hc,hr⟩,hz,hb⟩,hb1⟩:=hrel;obtain⟨t0,t1,t2,rfl⟩:∃x y z,ss=[x,y,z]:=Vr hl;have Hc:=Lh (show Jh wr (w.heap.size+1+1+1) _ from hc);have Hr:=Lh hr;have Hz:=Lh (show Jh wr (w.heap.size+1+1) _ from hz);have Hb:=Lh hb;have Hb1:=Lh hb1;have Hsz:=Lh (show w.heap.size+4<=wr.heap.size by have:=hb1.size;rw[HZ.out]at this;exact this);clear hl hc hr hz hb hb1;obtain rfl|rfl|rfl|rfl:k=0\/k=1\/k=2\/k=3:=by omega
  ·obtain rfl:z=0:=hzk;have HS:=Lh (fun w' (hb:Below wr.heap.size wr w')=>have hb2:=Hb1.out.trans (hb.mono (M3 (show w.heap.size+2<=w.heap.size+4 by omega) Hsz.out));(⟨HX.out w' hb2 1,HX.out w' hb2 2,HY.out w' hb2 1,HY.out w' hb2 2⟩:w'.cell? ⟨w.heap.size,1,Jn⟩=Jo (Js a1)/\w'.cell? ⟨w.heap.size,2,Jn⟩=Jo (Js a2)/\w'.cell? ⟨w.heap.size+1,1,Jn⟩=Jo (Js b1)/\w'.cell? ⟨w.heap.size+1,2,Jn⟩=Jo (Js b2)));go_upto_region 6 with fail
   refine Till.begin 17 (fun w'=>w'.cell? ⟨w.heap.size,1,Jn⟩=Jo (Js a1)/\w'.cell? ⟨w.heap.size,2,Jn⟩=Jo (Js a2)/\w'.cell? ⟨w.heap.size+1,1,Jn⟩=Jo (Js b1)/\w'.cell? ⟨w.heap.size+1,2,Jn⟩=Jo (Js b2)) (by kernel_rfl) (HS.out _ (M1 _ _).drew) (fun hH=>?_);clear hH;have HB:=Lh (M1 wr.heap.size wr).drew;generalize wr.drew=v0 at HB ⊢;try simp only[Pls]
   refine Till.tk 0 16 19 (Ji Jl 0) (HS.out _ HB.out) ?_;try simp only[M0,Pls]
   refine Till.tk 1 2 20 (Ji Jl 1) (HS.out _ HB.out) ?_;try simp only[M0,Pls]
   refine Till.tk 2 3 21 (Jp (Jo ⟨w.heap.size,1,Jn⟩)) (HS.out _ HB.out) ?_;try simp only[M0,Pls]
   refine Till.tk 3 7 22 (Js a1) (HS.out _ HB.out) ?_;try simp only[M0,Pls]
   refine Till.tk 4 5 23 (Ji Jl 2) (HS.out _ HB.out) ?_;try simp only[M0,Pls]
   refine Till.tk 5 6 24 (Jp (Jo ⟨w.heap.size+1,2,Jn⟩)) (HS.out _ HB.out) ?_;try simp only[M0,Pls]
   refine Till.tk 6 7 25 (Js b2) (HS.out _ HB.out) ?_;try simp only[M0,Pls]
   refine Till.tk 8 9 27 (Ji Jl 2) (HS.out _ HB.out) ?_;try simp only[M0,Pls]
   refine Till.tk 9 10 28 (Jp (Jo ⟨w.heap.size,2,Jn⟩)) (HS.out _ HB.out) ?_;try simp only[M0,Pls]
   refine Till.tk 10 14 29 (Js a2) (HS.out _ HB.out) ?_;try simp only[M0,Pls]
   refine Till.tk 11 12 30 (Ji Jl 1) (HS.out _ HB.out) ?_;try simp only[M0,Pls]
   refine Till.tk 12 13 31 (Jp (Jo ⟨w.heap.size+1,1,Jn⟩)) (HS.out _ HB.out) ?_;try simp only[M0,Pls]
   refine Till.tk 13 14 32 (Js b1) (HS.out _ HB.out) ?_;try simp only[M0,Pls]
   refine Till.one (i:=7) (by kernel_rfl) rfl (fun K hK=>?_);go_simp;refine(HA0.out _).mono ?_;rintro e v1⟨rfl,g⟩;replace HB:=Lh (Jd HB.out g);clear g;go_wp2_with fail
   refine hK.out _ _ (fun _=>HS.out _ HB.out) ?_;clear hK K;try simp only[Pls]
   refine Till.one (i:=14) (by kernel_rfl) rfl (fun K hK=>?_);go_simp;refine(HG0.out _).mono ?_;rintro e v2⟨rfl,g⟩;replace HB:=Lh (Jd HB.out g);clear g;go_wp2_with fail
   refine hK.out _ _ (fun _=>HS.out _ HB.out) ?_;clear hK K;try simp only[Pls]
   refine Till.one (i:=15) (by kernel_rfl) rfl (fun K hK=>?_);go_simp;refine(HC0.out _).mono ?_;rintro e v3⟨rfl,g⟩;replace HB:=Lh (Jd HB.out g);have Cv:=Hc.out.keep HB.out;have f0:v3.frozen? ⟨w.heap.size+1+1+1,0,Jn⟩=false:=Cv.fz 0;have m0_:v3.cell? ⟨w.heap.size+1+1+1,0,Jn⟩=Jo (Js t0):=Cv.at_ 0;clear Cv;clear g;go_wp2_with fail
   refine hK.out _ _ (fun _=>HS.out _ HB.out) ?_;clear hK K;try simp only[Pls]
   refine Till.one (i:=16) (by kernel_rfl) rfl (fun K hK=>?_);go_simp;refine hK.out _ _ (fun _=>HS.out _ HB.out) ?_;clear hK K;try simp only[Pls]
   refine Till.one (i:=17) (by kernel_rfl) rfl (fun K hK=>?_);go_simp;refine hK.out _ _ (fun h=>absurd h (by simp)) ?_;clear hK K;try simp only[Pls]
   refine Till.done (by kernel_rfl) ?_ _;have hB:=HB.out;have Hb:=Lh (Jd Hb.out hB);have Hb1:=Lh (Hb1.out.trans (hB.mono (M3 (show w.heap.size+2<=w.heap.size+4 by omega) Hsz.out)));have Hf:=Lh (QS (k:=0) (by decide) rfl (Hc.out.keep hB) rfl Hr.out (Hz.out.keep hB) (show w.heap.size<w.heap.size+1+1+1 by omega) Hb.out);have Hg:=Lh (Hb1.out.setCell (p:=⟨w.heap.size+1+1+1,0,Jn⟩) (show w.heap.size+2<=w.heap.size+1+1+1 by omega) (Js c0));clear hB;go_wp2_with fail
   go_roundw;case rel=>exact⟨1,1,by decide,rfl,by go_num,Hf.out,Hg.out⟩
   case measure=>simp[intOf]
  ·obtain rfl:z=1:=hzk;have HS:=Lh (fun w' (hb:Below wr.heap.size wr w')=>have hb2:=Hb1.out.trans (hb.mono (M3 (show w.heap.size+2<=w.heap.size+4 by omega) Hsz.out));(⟨HX.out w' hb2 2,HX.out w' hb2 0,HY.out w' hb2 2,HY.out w' hb2 0⟩:w'.cell? ⟨w.heap.size,2,Jn⟩=Jo (Js a2)/\w'.cell? ⟨w.heap.size,0,Jn⟩=Jo (Js a0)/\w'.cell? ⟨w.heap.size+1,2,Jn⟩=Jo (Js b2)/\w'.cell? ⟨w.heap.size+1,0,Jn⟩=Jo (Js b0)));go_upto_region 6 with fail
   refine Till.begin 17 (fun w'=>w'.cell? ⟨w.heap.size,2,Jn⟩=Jo (Js a2)/\w'.cell? ⟨w.heap.size,0,Jn⟩=Jo (Js a0)/\w'.cell? ⟨w.heap.size+1,2,Jn⟩=Jo (Js b2)/\w'.cell? ⟨w.heap.size+1,0,Jn⟩=Jo (Js b0)) (by kernel_rfl) (HS.out _ (M1 _ _).drew) (fun hH=>?_);clear hH;have HB:=Lh (M1 wr.heap.size wr).drew;generalize wr.drew=v0 at HB ⊢;try simp only[Pls]
   refine Till.tk 0 16 19 (Ji Jl 1) (HS.out _ HB.out) ?_;try simp only[M0,Pls]
   refine Till.tk 1 2 20 (Ji Jl 2) (HS.out _ HB.out) ?_;try simp only[M0,Pls]
   refine Till.tk 2 3 21 (Jp (Jo ⟨w.heap.size,2,Jn⟩)) (HS.out _ HB.out) ?_;try simp only[M0,Pls]
   refine Till.tk 3 7 22 (Js a2) (HS.out _ HB.out) ?_;try simp only[M0,Pls]
   refine Till.tk 4 5 23 (Ji Jl 0) (HS.out _ HB.out) ?_;try simp only[M0,Pls]
   refine Till.tk 5 6 24 (Jp (Jo ⟨w.heap.size+1,0,Jn⟩)) (HS.out _ HB.out) ?_;try simp only[M0,Pls]
   refine Till.tk 6 7 25 (Js b0) (HS.out _ HB.out) ?_;try simp only[M0,Pls]
   refine Till.tk 8 9 27 (Ji Jl 0) (HS.out _ HB.out) ?_;try simp only[M0,Pls]
   refine Till.tk 9 10 28 (Jp (Jo ⟨w.heap.size,0,Jn⟩)) (HS.out _ HB.out) ?_;try simp only[M0,Pls]
   refine Till.tk 10 14 29 (Js a0) (HS.out _ HB.out) ?_;try simp only[M0,Pls]
   refine Till.tk 11 12 30 (Ji Jl 2) (HS.out _ HB.out) ?_;try simp only[M0,Pls]
   refine Till.tk 12 13 31 (Jp (Jo ⟨w.heap.size+1,2,Jn⟩)) (HS.out _ HB.out) ?_;try simp only[M0,Pls]
   refine Till.tk 13 14 32 (Js b2) (HS.out _ HB.out) ?_;try simp only[M0,Pls]
   refine Till.one (i:=7) (by kernel_rfl) rfl (fun K hK=>?_);go_simp;refine(HA1.out _).mono ?_;rintro e v1⟨rfl,g⟩;replace HB:=Lh (Jd HB.out g);clear g;go_wp2_with fail
   refine hK.out _ _ (fun _=>HS.out _ HB.out) ?_;clear hK K;try simp only[Pls]
   refine Till.one (i:=14) (by kernel_rfl) rfl (fun K hK=>?_);go_simp;refine(HG1.out _).mono ?_;rintro e v2⟨rfl,g⟩;replace HB:=Lh (Jd HB.out g);clear g;go_wp2_with fail
   refine hK.out _ _ (fun _=>HS.out _ HB.out) ?_;clear hK K;try simp only[Pls]
   refine Till.one (i:=15) (by kernel_rfl) rfl (fun K hK=>?_);go_simp;refine(HC1.out _).mono ?_;rintro e v3⟨rfl,g⟩;replace HB:=Lh (Jd HB.out g);have Cv:=Hc.out.keep HB.out;have f0:v3.frozen? ⟨w.heap.size+1+1+1,1,Jn⟩=false:=Cv.fz 1;have m0_:v3.cell? ⟨w.heap.size+1+1+1,1,Jn⟩=Jo (Js t1):=Cv.at_ 1;clear Cv;clear g;go_wp2_with fail
   refine hK.out _ _ (fun _=>HS.out _ HB.out) ?_;clear hK K;try simp only[Pls]
   refine Till.one (i:=16) (by kernel_rfl) rfl (fun K hK=>?_);go_simp;refine hK.out _ _ (fun _=>HS.out _ HB.out) ?_;clear hK K;try simp only[Pls]
   refine Till.one (i:=17) (by kernel_rfl) rfl (fun K hK=>?_);go_simp;refine hK.out _ _ (fun h=>absurd h (by simp)) ?_;clear hK K;try simp only[Pls]
   refine Till.done (by kernel_rfl) ?_ _;have hB:=HB.out;have Hb:=Lh (Jd Hb.out hB);have Hb1:=Lh (Hb1.out.trans (hB.mono (M3 (show w.heap.size+2<=w.heap.size+4 by omega) Hsz.out)));have Hf:=Lh (QS (k:=1) (by decide) rfl (Hc.out.keep hB) rfl Hr.out (Hz.out.keep hB) (show w.heap.size<w.heap.size+1+1+1 by omega) Hb.out);have Hg:=Lh (Hb1.out.setCell (p:=⟨w.heap.size+1+1+1,1,Jn⟩) (show w.heap.size+2<=w.heap.size+1+1+1 by omega) (Js c1));clear hB;go_wp2_with fail
   go_roundw;case rel=>exact⟨2,2,by decide,rfl,by go_num,Hf.out,Hg.out⟩
   case measure=>simp[intOf]
  ·obtain rfl:z=2:=hzk;have HS:=Lh (fun w' (hb:Below wr.heap.size wr w')=>have hb2:=Hb1.out.trans (hb.mono (M3 (show w.heap.size+2<=w.heap.size+4 by omega) Hsz.out));(⟨HX.out w' hb2 0,HX.out w' hb2 1,HY.out w' hb2 0,HY.out w' hb2 1⟩:w'.cell? ⟨w.heap.size,0,Jn⟩=Jo (Js a0)/\w'.cell? ⟨w.heap.size,1,Jn⟩=Jo (Js a1)/\w'.cell? ⟨w.heap.size+1,0,Jn⟩=Jo (Js b0)/\w'.cell? ⟨w.heap.size+1,1,Jn⟩=Jo (Js b1)));go_upto_region 6 with fail
   refine Till.begin 17 (fun w'=>w'.cell? ⟨w.heap.size,0,Jn⟩=Jo (Js a0)/\w'.cell? ⟨w.heap.size,1,Jn⟩=Jo (Js a1)/\w'.cell? ⟨w.heap.size+1,0,Jn⟩=Jo (Js b0)/\w'.cell? ⟨w.heap.size+1,1,Jn⟩=Jo (Js b1)) (by kernel_rfl) (HS.out _ (M1 _ _).drew) (fun hH=>?_);clear hH;have HB:=Lh (M1 wr.heap.size wr).drew;generalize wr.drew=v0 at HB ⊢;try simp only[Pls]
   refine Till.tk 0 16 19 (Ji Jl 2) (HS.out _ HB.out) ?_;try simp only[M0,Pls]
   refine Till.tk 1 2 20 (Ji Jl 0) (HS.out _ HB.out) ?_;try simp only[M0,Pls]
   refine Till.tk 2 3 21 (Jp (Jo ⟨w.heap.size,0,Jn⟩)) (HS.out _ HB.out) ?_;try simp only[M0,Pls]
   refine Till.tk 3 7 22 (Js a0) (HS.out _ HB.out) ?_;try simp only[M0,Pls]
   refine Till.tk 4 5 23 (Ji Jl 1) (HS.out _ HB.out) ?_;try simp only[M0,Pls]
   refine Till.tk 5 6 24 (Jp (Jo ⟨w.heap.size+1,1,Jn⟩)) (HS.out _ HB.out) ?_;try simp only[M0,Pls]
   refine Till.tk 6 7 25 (Js b1) (HS.out _ HB.out) ?_;try simp only[M0,Pls]
   refine Till.tk 8 9 27 (Ji Jl 1) (HS.out _ HB.out) ?_;try simp only[M0,Pls]
   refine Till.tk 9 10 28 (Jp (Jo ⟨w.heap.size,1,Jn⟩)) (HS.out _ HB.out) ?_;try simp only[M0,Pls]
   refine Till.tk 10 14 29 (Js a1) (HS.out _ HB.out) ?_;try simp only[M0,Pls]
   refine Till.tk 11 12 30 (Ji Jl 0) (HS.out _ HB.out) ?_;try simp only[M0,Pls]
   refine Till.tk 12 13 31 (Jp (Jo ⟨w.heap.size+1,0,Jn⟩)) (HS.out _ HB.out) ?_;try simp only[M0,Pls]
   refine Till.tk 13 14 32 (Js b0) (HS.out _ HB.out) ?_;try simp only[M0,Pls]
   refine Till.one (i:=7) (by kernel_rfl) rfl (fun K hK=>?_);go_simp;refine(HA2.out _).mono ?_;rintro e v1⟨rfl,g⟩;replace HB:=Lh (Jd HB.out g);clear g;go_wp2_with fail
   refine hK.out _ _ (fun _=>HS.out _ HB.out) ?_;clear hK K;try simp only[Pls]
   refine Till.one (i:=14) (by kernel_rfl) rfl (fun K hK=>?_);go_simp;refine(HG2.out _).mono ?_;rintro e v2⟨rfl,g⟩;replace HB:=Lh (Jd HB.out g);clear g;go_wp2_with fail
   refine hK.out _ _ (fun _=>HS.out _ HB.out) ?_;clear hK K;try simp only[Pls]
   refine Till.one (i:=15) (by kernel_rfl) rfl (fun K hK=>?_);go_simp;refine(HC2.out _).mono ?_;rintro e v3⟨rfl,g⟩;replace HB:=Lh (Jd HB.out g);have Cv:=Hc.out.keep HB.out;have f0:v3.frozen? ⟨w.heap.size+1+1+1,2,Jn⟩=false:=Cv.fz 2;have m0_:v3.cell? ⟨w.heap.size+1+1+1,2,Jn⟩=Jo (Js t2):=Cv.at_ 2;clear Cv;clear g;go_wp2_with fail
   refine hK.out _ _ (fun _=>HS.out _ HB.out) ?_;clear hK K;try simp only[Pls]
   refine Till.one (i:=16) (by kernel_rfl) rfl (fun K hK=>?_);go_simp;refine hK.out _ _ (fun _=>HS.out _ HB.out) ?_;clear hK K;try simp only[Pls]
   refine Till.one (i:=17) (by kernel_rfl) rfl (fun K hK=>?_);go_simp;refine hK.out _ _ (fun h=>absurd h (by simp)) ?_;clear hK K;try simp only[Pls]
   refine Till.done (by kernel_rfl) ?_ _;have hB:=HB.out;have Hb:=Lh (Jd Hb.out hB);have Hb1:=Lh (Hb1.out.trans (hB.mono (M3 (show w.heap.size+2<=w.heap.size+4 by omega) Hsz.out)));have Hf:=Lh (QS (k:=2) (by decide) rfl (Hc.out.keep hB) rfl Hr.out (Hz.out.keep hB) (show w.heap.size<w.heap.size+1+1+1 by omega) Hb.out);have Hg:=Lh (Hb1.out.setCell (p:=⟨w.heap.size+1+1+1,2,Jn⟩) (show w.heap.size+2<=w.heap.size+1+1+1 by omega) (Js c2));clear hB;go_wp2_with fail
   go_roundw;case rel=>exact⟨3,3,by decide,rfl,by go_num,Hf.out,Hg.out⟩
   case measure=>simp[intOf]
  ·obtain rfl:z=3:=hzk;obtain rfl:t0=c0:=by have:=Hr.out 0 c0 (by decide) rfl;simpa using this
   obtain rfl:t1=c1:=by have:=Hr.out 1 c1 (by decide) rfl;simpa using this
   obtain rfl:t2=c2:=by have:=Hr.out 2 c2 (by decide) rfl;simpa using this
   have f0:wr.frozen? ⟨w.heap.size+1+1,0,Jn⟩=false:=Hz.out.fz 0;have z0:wr.cell? ⟨w.heap.size+1+1,0,Jn⟩=Jo (Js ⟨#[]⟩):=Hz.out.at_ 0;have m0:wr.cell? ⟨w.heap.size+1+1+1,0,Jn⟩=Jo (Js t0):=Hc.out.at_ 0;have f1:wr.frozen? ⟨w.heap.size+1+1,1,Jn⟩=false:=Hz.out.fz 1;have z1:wr.cell? ⟨w.heap.size+1+1,1,Jn⟩=Jo (Js ⟨#[]⟩):=Hz.out.at_ 1;have m1:wr.cell? ⟨w.heap.size+1+1+1,1,Jn⟩=Jo (Js t1):=Hc.out.at_ 1;have f2:wr.frozen? ⟨w.heap.size+1+1,2,Jn⟩=false:=Hz.out.fz 2;have z2:wr.cell? ⟨w.heap.size+1+1,2,Jn⟩=Jo (Js ⟨#[]⟩):=Hz.out.at_ 2;have m2:wr.cell? ⟨w.heap.size+1+1+1,2,Jn⟩=Jo (Js t2):=Hc.out.at_ 2;have Hf:=Lh (((Hb.out.setCell (p:=⟨w.heap.size+1+1,0,Jn⟩) (show w.heap.size<=w.heap.size+1+1 by omega) (Js t0)).setCell (p:=⟨w.heap.size+1+1,1,Jn⟩) (show w.heap.size<=w.heap.size+1+1 by omega) (Js t1)).setCell (p:=⟨w.heap.size+1+1,2,Jn⟩) (show w.heap.size<=w.heap.size+1+1 by omega) (Js t2));go_wp2;exact bodyPost_ret (v:= .agg #[Js t0,Js t1,Js t2]) (by simp[results,Tryz.results39,go_sem,z0,z1,z2]) rfl ⟨rfl,Hf.out⟩
theorem Z4 {s t:ByteArray} (h:s≠t):¬ s.toList=t.toList:=fun e=>h (by
 rw[ByteArray.toList_eq,ByteArray.toList_eq]at e;exact ByteArray.ext (Array.toList_inj.1 e))
theorem DH(s0 s1 s2 t0 t1 t2:ByteArray)(w:JW):(Op.equalIn 10000 48 (.agg #[Js s0,Js s1,Js s2]) (.agg #[Js t0,Js t1,Js t2])).run Tryz.prog w= .ok (decide (s0=t0) && (decide (s1=t1) && decide (s2=t2))) w:=by
 have u3:=Tryz.underlying9;have a3:=Tryz.isAgg9;have z3:=Tryz.sizeOf9;rw[show(10000:Nat)=9999+1 from rfl,Op.equalIn];simp only[Sem.run_bind,run_underlying Tryz.underlying48,Result.andThen_ok];simp only[Std.Legacy.Range.forIn_eq_forIn_range',Std.Legacy.Range.size,Nat.sub_zero,Nat.add_sub_cancel,Nat.div_one,List.range'_succ,List.range'_zero,List.forIn_cons,List.forIn_nil];by_cases h0:s0=t0
 ·subst h0;by_cases h1:s1=t1
  ·subst h1;by_cases h2:s2=t2
   ·subst h2;go_simp
   ·have q2:decide (s2=t2)=false:=decide_eq_false h2;have n2:=Z4 h2;go_simp
  ·have q1:decide (s1=t1)=false:=decide_eq_false h1;have n1:=Z4 h1;go_simp
 ·have q0:decide (s0=t0)=false:=decide_eq_false h0;have n0:=Z4 h0;go_simp
theorem XY{p q:Rat}{s t:ByteArray}(h:Jj p=s)(h':Jj q=t):decide (s=t)=decide (p=q):=by
 by_cases e:p=q
 ·subst e;rw[←h,←h'];simp
 ·rw[decide_eq_false e];have:s≠t:=fun e2=>e (GV (h.trans (e2.trans h'.symm)));simpa using this
theorem Nv{p0 p1 p2 q0 q1 q2:Rat}:(cmpV p0 p1 p2 q0 q1 q2 ==0)=(decide (p0=q0) && (decide (p1=q1) && decide (p2=q2))):=by
 by_cases h:cmpV p0 p1 p2 q0 q1 q2=0
 ·obtain⟨h0,h1,h2⟩:=Fa h;rw[h];simp[h0,h1,h2]
 ·have hn:¬(p0=q0/\p1=q1/\p2=q2):=fun e=>h (Zo e.1 e.2.1 e.2.2);rw[beq_eq_false_iff_ne.2 h]
  symm
  rw[←Bool.not_eq_true];simpa[and_assoc]using hn
theorem VO:Jj 0=⟨#[48]⟩:=by decide +kernel
theorem U3(a0 a1 a2:ByteArray)(p0 p1 p2:Rat)(w:JW)(h0:Jj p0=a0)(h1:Jj p1=a1)(h2:Jj p2=a2) :
  Calls Tryz.prog 43 #[.agg #[Js a0,Js a1,Js a2]] w fun e w'=>e= .returned (.bool (QW p0 p1 p2))/\Below w.heap.size w w':=by
 have kb:=(M1 w.heap.size w).alloc (M2 _) (Jc #[Js a0,Js a1,Js a2] 48);have C0:=Jh.new w #[Js a0,Js a1,Js a2] 48;have hq:=fun W=>DH a0 a1 a2 ⟨#[48]⟩ ⟨#[48]⟩ ⟨#[48]⟩ W;have hz:(decide (a0=⟨#[48]⟩) && (decide (a1=⟨#[48]⟩) && decide (a2=⟨#[48]⟩)))=QW p0 p1 p2:=by
  rw[XY h0 VO,XY h1 VO,XY h2 VO];exact Nv.symm
 rw[hz]at hq;generalize QW p0 p1 p2=z at hq ⊢;obtain⟨W,hW⟩:∃u,w.alloc (Jc #[Js a0,Js a1,Js a2] 48)=u:=⟨_,rfl⟩;rw[hW]at kb C0;have k0:W.cell? ⟨w.heap.size,0,Jn⟩=Jo (Js a0):=C0.at_ 0;have k1:W.cell? ⟨w.heap.size,1,Jn⟩=Jo (Js a1):=C0.at_ 1;have k2:W.cell? ⟨w.heap.size,2,Jn⟩=Jo (Js a2):=C0.at_ 2;have Kb:=Lh kb;clear kb C0 hz h0 h1 h2;go_enter Tryz.func43,Tryz.ntmps43;go_wp2_with fail
 try simp only[hW]
 go_wp2;go_ret;exact⟨rfl,Kb.out⟩
def PtrS(b:Nat)(w:JW)(t:Value):Prop:=∃p:Nat,t=Jp (Jo ⟨p,0,Jn⟩)/\b<=p/\Jh w p [Js ⟨#[]⟩,Js ⟨#[]⟩,Js ⟨#[]⟩]
theorem PtrS.keep{b:Nat}{w w':JW}{t:Value}(h:PtrS b w t)(hb:Below w.heap.size w w'):PtrS b w' t:=by
 obtain⟨p,e,hp,hc⟩:=h;exact⟨p,e,hp,hc.keep hb⟩
theorem PtrS.ne{b:Nat}{w:JW}{t:Value}(h:PtrS b w t):t≠ Jp (Jo ⟨w.heap.size,0,Jn⟩):=by
 obtain⟨p,rfl,hp,hc⟩:=h;intro e;have hl:=hc.lt
 injection e with e
 injection e with e
 injection e with e
 exact absurd e (Nat.ne_of_lt hl)
def put3(w:JW)(p:Nat)(x y z:Value):JW:=((w.setCell ⟨p,0,Jn⟩ x).setCell ⟨p,1,Jn⟩ y).setCell ⟨p,2,Jn⟩ z
theorem put3_heap(w:JW)(p:Nat)(x y z:Value):(put3 w p x y z).heap.size=w.heap.size/\∀k,k≠p->(put3 w p x y z).heap[k]?=w.heap[k]?:=
 ⟨by simp[put3,World.setCell],fun k hk=>(M4 _ ⟨p,2,Jn⟩ z k hk).trans ((M4 _ ⟨p,1,Jn⟩ y k hk).trans (M4 w ⟨p,0,Jn⟩ x k hk))⟩
theorem below_put3{w0 w:JW}{p:Nat}(h:Below w0.heap.size w0 w)(hp:w0.heap.size<=p)(x y z:Value):Below w0.heap.size w0 (put3 w p x y z):=
 ((h.setCell (p:=⟨p,0,Jn⟩) hp x).setCell (p:=⟨p,1,Jn⟩) hp y).setCell (p:=⟨p,2,Jn⟩) hp z
theorem Jh.put3{w:JW}{p:Nat}{u0 u1 u2:Value}(h:Jh w p [u0,u1,u2])(x y z:Value):Jh (put3 w p x y z) p [x,y,z]:=((h.set 0 x (by simp)).set 1 y (by simp)).set 2 z (by simp)
