/- GB46: Vrp -/
import Derived.Test.YtekhdklbfincpaaGreatDoorGB45
set_option maxRecDepth 100000
set_option maxHeartbeats 16000000
namespace Go.Proofs.YtekhdklbfincpaaGreatDoor
open Go.Value renaming pointer→Jp,int→Ji,string→Js
open Go.IntKind renaming i64→Jl
open Go.Obj renaming cells→Jc
open _root_.Option renaming none→Jn,some→Jo
open Go.Act renaming put→M0
open Go.RowKit.Below renaming refl→M1
open _root_.Nat renaming le_refl→M2,le_trans→M3
open Go.World renaming size_alloc→M4
open Go.RowKit
theorem XH{p0 p1 p2 q0 q1 q2:Rat}{k m:Nat}(f:Few3 k p0 p1 p2)(f':Few3 m q0 q1 q2)(hk:k+m+(k+m)+1<=900)(w:World) :
  Calls Tryz.prog 37 #[.agg #[Js (Jh p0),Js (Jh p1),Js (Jh p2)],.agg #[Js (Jh q0),Js (Jh q1),Js (Jh q2)]] w fun e w'=>e= .returned (Js (Jh (p0*q0+p1*q1+p2*q2)))/\Below w.heap.size w w':=by
 have h0:=fun w'=>QN f.x f'.x (by omega) (by omega) w';have h1:=fun w'=>QN f.y f'.y (by omega) (by omega) w';have h2:=fun w'=>QN f.z f'.z (by omega) (by omega) w';have g0:=fun w'=>Yz (f.x.mul f'.x) (f.y.mul f'.y) (by omega) (by omega) w';have g1:=fun w'=>Yz ((f.x.mul f'.x).add (f.y.mul f'.y)) (f.z.mul f'.z) (by omega) (by omega) w';clear f f' hk;generalize Jh (p0*q0+p1*q1+p2*q2)=t1 at *
 generalize Jh (p0*q0+p1*q1)=t0 at *
 generalize Jh (p0*q0)=m0 at *
 generalize Jh (p1*q1)=m1 at *
 generalize Jh (p2*q2)=m2 at *
 generalize Jh p0=a0 at *
 generalize Jh p1=a1 at *
 generalize Jh p2=a2 at *
 generalize Jh q0=b0 at *
 generalize Jh q1=b1 at *
 generalize Jh q2=b2 at *
 have kb:=((M1 w.heap.size w).alloc (M2 _) (Jc #[Js a0,Js a1,Js a2] 48)).alloc (by simp) (Jc #[Js b0,Js b1,Js b2] 48);have C0:=(Jg.new w #[Js a0,Js a1,Js a2] 48).keep ((M1 _ _).alloc (M2 _) (Jc #[Js b0,Js b1,Js b2] 48));have C1:=Jg.new (w.alloc (Jc #[Js a0,Js a1,Js a2] 48)) #[Js b0,Js b1,Js b2] 48;simp only[M4]at C1;obtain⟨W,hW⟩:∃u,(w.alloc (Jc #[Js a0,Js a1,Js a2] 48)).alloc (Jc #[Js b0,Js b1,Js b2] 48)=u:=⟨_,rfl⟩;rw[hW]at kb C0 C1;have K0:=Lh kb;have V0:=Lh (show Jg W (w.heap.size) _ from C0);have V1:=Lh (show Jg W (w.heap.size+1) _ from C1);have Hh0:=Lh h0;have Hh1:=Lh h1;have Hh2:=Lh h2;have Hg0:=Lh g0;have Hg1:=Lh g1;have HS:=Lh (fun w' (hb:Below W.heap.size W w')=>(⟨(V0.out.keep hb).at_ 0,(V0.out.keep hb).at_ 1,(V0.out.keep hb).at_ 2,(V1.out.keep hb).at_ 0,(V1.out.keep hb).at_ 1,(V1.out.keep hb).at_ 2⟩:w'.cell? ⟨w.heap.size,0,Jn⟩=Jo (Js a0)/\w'.cell? ⟨w.heap.size,1,Jn⟩=Jo (Js a1)/\w'.cell? ⟨w.heap.size,2,Jn⟩=Jo (Js a2)/\w'.cell? ⟨w.heap.size+1,0,Jn⟩=Jo (Js b0)/\w'.cell? ⟨w.heap.size+1,1,Jn⟩=Jo (Js b1)/\w'.cell? ⟨w.heap.size+1,2,Jn⟩=Jo (Js b2)));clear kb C0 C1 h0 h1 h2 g0 g1;go_enter Tryz.func37,Tryz.ntmps37;go_upto_region 1 with fail
 try simp only[hW]
 clear hW;refine Till.begin 17 (fun w'=>w'.cell? ⟨w.heap.size,0,Jn⟩=Jo (Js a0)/\w'.cell? ⟨w.heap.size,1,Jn⟩=Jo (Js a1)/\w'.cell? ⟨w.heap.size,2,Jn⟩=Jo (Js a2)/\w'.cell? ⟨w.heap.size+1,0,Jn⟩=Jo (Js b0)/\w'.cell? ⟨w.heap.size+1,1,Jn⟩=Jo (Js b1)/\w'.cell? ⟨w.heap.size+1,2,Jn⟩=Jo (Js b2)) (by kernel_rfl) (HS.out _ (M1 _ _).drew) (fun hH=>?_);clear hH;have HB:=Lh (M1 W.heap.size W).drew;generalize W.drew=v0 at HB ⊢;try simp only[Pls]
 refine Till.tk 0 1 5 (Jp (Jo ⟨w.heap.size,0,Jn⟩)) (HS.out _ HB.out) ?_;try simp only[M0,Pls]
 refine Till.tk 1 4 6 (Js a0) (HS.out _ HB.out) ?_;try simp only[M0,Pls]
 refine Till.tk 2 3 7 (Jp (Jo ⟨w.heap.size+1,0,Jn⟩)) (HS.out _ HB.out) ?_;try simp only[M0,Pls]
 refine Till.tk 3 4 8 (Js b0) (HS.out _ HB.out) ?_;try simp only[M0,Pls]
 refine Till.tk 5 6 10 (Jp (Jo ⟨w.heap.size,1,Jn⟩)) (HS.out _ HB.out) ?_;try simp only[M0,Pls]
 refine Till.tk 6 9 11 (Js a1) (HS.out _ HB.out) ?_;try simp only[M0,Pls]
 refine Till.tk 7 8 12 (Jp (Jo ⟨w.heap.size+1,1,Jn⟩)) (HS.out _ HB.out) ?_;try simp only[M0,Pls]
 refine Till.tk 8 9 13 (Js b1) (HS.out _ HB.out) ?_;try simp only[M0,Pls]
 refine Till.tk 11 12 16 (Jp (Jo ⟨w.heap.size,2,Jn⟩)) (HS.out _ HB.out) ?_;try simp only[M0,Pls]
 refine Till.tk 12 15 17 (Js a2) (HS.out _ HB.out) ?_;try simp only[M0,Pls]
 refine Till.tk 13 14 18 (Jp (Jo ⟨w.heap.size+1,2,Jn⟩)) (HS.out _ HB.out) ?_;try simp only[M0,Pls]
 refine Till.tk 14 15 19 (Js b2) (HS.out _ HB.out) ?_;try simp only[M0,Pls]
 refine Till.one (i:=4) (by kernel_rfl) rfl (fun K hK=>?_);go_simp;refine(Hh0.out _).mono ?_;rintro e v1⟨rfl,g⟩;replace HB:=Lh (Jd HB.out g);clear g;go_wp2_with fail
 refine hK.out _ _ (fun _=>HS.out _ HB.out) ?_;clear hK K;try simp only[Pls]
 refine Till.one (i:=9) (by kernel_rfl) rfl (fun K hK=>?_);go_simp;refine(Hh1.out _).mono ?_;rintro e v2⟨rfl,g⟩;replace HB:=Lh (Jd HB.out g);clear g;go_wp2_with fail
 refine hK.out _ _ (fun _=>HS.out _ HB.out) ?_;clear hK K;try simp only[Pls]
 refine Till.one (i:=10) (by kernel_rfl) rfl (fun K hK=>?_);go_simp;refine(Hg0.out _).mono ?_;rintro e v3⟨rfl,g⟩;replace HB:=Lh (Jd HB.out g);clear g;go_wp2_with fail
 refine hK.out _ _ (fun _=>HS.out _ HB.out) ?_;clear hK K;try simp only[Pls]
 refine Till.one (i:=15) (by kernel_rfl) rfl (fun K hK=>?_);go_simp;refine(Hh2.out _).mono ?_;rintro e v4⟨rfl,g⟩;replace HB:=Lh (Jd HB.out g);clear g;go_wp2_with fail
 refine hK.out _ _ (fun _=>HS.out _ HB.out) ?_;clear hK K;try simp only[Pls]
 refine Till.one (i:=16) (by kernel_rfl) rfl (fun K hK=>?_);go_simp;refine(Hg1.out _).mono ?_;rintro e v5⟨rfl,g⟩;replace HB:=Lh (Jd HB.out g);clear g;go_wp2_with fail
 refine hK.out _ _ (fun _=>HS.out _ HB.out) ?_;clear hK K;try simp only[Pls]
 refine Till.one (i:=17) (by kernel_rfl) rfl (fun K hK=>?_);go_simp;refine hK.out _ _ (fun h=>absurd h (by simp)) ?_;clear hK K;try simp only[Pls]
 refine Till.done (by kernel_rfl) ?_ _;replace K0:=Lh (Jd K0.out HB.out);go_wp2;go_ret;exact⟨rfl,K0.out⟩
theorem US{p0 p1 p2 q0 q1 q2:Rat}{k m:Nat}(f:Few3 k p0 p1 p2)(f':Few3 m q0 q1 q2)(hk:k+m<=900)(w:World) :
  Calls Tryz.prog 39 #[.agg #[Js (Jh p0),Js (Jh p1),Js (Jh p2)],.agg #[Js (Jh q0),Js (Jh q1),Js (Jh q2)]] w fun e w'=>e= .returned (.agg #[Js (Jh (p1*q2-p2*q1)),Js (Jh (p2*q0-p0*q2)),Js (Jh (p0*q1-p1*q0))])/\Below w.heap.size w w':=by
 have h0:=fun w'=>QN f.y f'.z (by omega) (by omega) w';have g0:=fun w'=>QN f.z f'.y (by omega) (by omega) w';have s0:=fun w'=>XF (f.y.mul f'.z) (f.z.mul f'.y) (by omega) (by omega) w';have h1:=fun w'=>QN f.z f'.x (by omega) (by omega) w';have g1:=fun w'=>QN f.x f'.z (by omega) (by omega) w';have s1:=fun w'=>XF (f.z.mul f'.x) (f.x.mul f'.z) (by omega) (by omega) w';have h2:=fun w'=>QN f.x f'.y (by omega) (by omega) w';have g2:=fun w'=>QN f.y f'.x (by omega) (by omega) w';have s2:=fun w'=>XF (f.x.mul f'.y) (f.y.mul f'.x) (by omega) (by omega) w';clear f f' hk;generalize Jh (p1*q2-p2*q1)=c0 at *
 generalize Jh (p2*q0-p0*q2)=c1 at *
 generalize Jh (p0*q1-p1*q0)=c2 at *
 generalize Jh (p1*q2)=m0 at *
 generalize Jh (p2*q0)=m1 at *
 generalize Jh (p0*q1)=m2 at *
 generalize Jh (p2*q1)=n0 at *
 generalize Jh (p0*q2)=n1 at *
 generalize Jh (p1*q0)=n2 at *
 generalize Jh p0=a0 at *
 generalize Jh p1=a1 at *
 generalize Jh p2=a2 at *
 generalize Jh q0=b0 at *
 generalize Jh q1=b1 at *
 generalize Jh q2=b2 at *
 have kb:=((((M1 w.heap.size w).alloc (M2 _) (Jc #[Js a0,Js a1,Js a2] 48)).alloc (by simp) (Jc #[Js b0,Js b1,Js b2] 48)).alloc (by simp;omega) (Jc #[Js ⟨#[]⟩,Js ⟨#[]⟩,Js ⟨#[]⟩] 48)).alloc (by simp;omega) (Jc #[Js ⟨#[]⟩,Js ⟨#[]⟩,Js ⟨#[]⟩] 48);have C0:=(((Jg.new w #[Js a0,Js a1,Js a2] 48).keep ((M1 _ _).alloc (M2 _) (Jc #[Js b0,Js b1,Js b2] 48))).keep ((M1 _ _).alloc (M2 _) (Jc #[Js ⟨#[]⟩,Js ⟨#[]⟩,Js ⟨#[]⟩] 48))).keep ((M1 _ _).alloc (M2 _) (Jc #[Js ⟨#[]⟩,Js ⟨#[]⟩,Js ⟨#[]⟩] 48));have C1:=((Jg.new (w.alloc (Jc #[Js a0,Js a1,Js a2] 48)) #[Js b0,Js b1,Js b2] 48).keep ((M1 _ _).alloc (M2 _) (Jc #[Js ⟨#[]⟩,Js ⟨#[]⟩,Js ⟨#[]⟩] 48))).keep ((M1 _ _).alloc (M2 _) (Jc #[Js ⟨#[]⟩,Js ⟨#[]⟩,Js ⟨#[]⟩] 48));have C2:=(Jg.new ((w.alloc (Jc #[Js a0,Js a1,Js a2] 48)).alloc (Jc #[Js b0,Js b1,Js b2] 48)) #[Js ⟨#[]⟩,Js ⟨#[]⟩,Js ⟨#[]⟩] 48).keep ((M1 _ _).alloc (M2 _) (Jc #[Js ⟨#[]⟩,Js ⟨#[]⟩,Js ⟨#[]⟩] 48));have C3:=Jg.new (((w.alloc (Jc #[Js a0,Js a1,Js a2] 48)).alloc (Jc #[Js b0,Js b1,Js b2] 48)).alloc (Jc #[Js ⟨#[]⟩,Js ⟨#[]⟩,Js ⟨#[]⟩] 48)) #[Js ⟨#[]⟩,Js ⟨#[]⟩,Js ⟨#[]⟩] 48;simp only[M4]at C1 C2 C3;have hs:((((w.alloc (Jc #[Js a0,Js a1,Js a2] 48)).alloc (Jc #[Js b0,Js b1,Js b2] 48)).alloc (Jc #[Js ⟨#[]⟩,Js ⟨#[]⟩,Js ⟨#[]⟩] 48)).alloc (Jc #[Js ⟨#[]⟩,Js ⟨#[]⟩,Js ⟨#[]⟩] 48)).heap.size=w.heap.size+1+1+1+1:=by simp
 obtain⟨W,hW⟩:∃u,(((w.alloc (Jc #[Js a0,Js a1,Js a2] 48)).alloc (Jc #[Js b0,Js b1,Js b2] 48)).alloc (Jc #[Js ⟨#[]⟩,Js ⟨#[]⟩,Js ⟨#[]⟩] 48)).alloc (Jc #[Js ⟨#[]⟩,Js ⟨#[]⟩,Js ⟨#[]⟩] 48)=u:=⟨_,rfl⟩;rw[hW]at hs kb C0 C1 C2 C3;have K0:=Lh kb;have V0:=Lh (show Jg W (w.heap.size) _ from C0);have V1:=Lh (show Jg W (w.heap.size+1) _ from C1);have V2:=Lh (show Jg W (w.heap.size+1+1) _ from C2);have V3:=Lh (show Jg W (w.heap.size+1+1+1) _ from C3);have HA0:=Lh h0;have HG0:=Lh g0;have HC0:=Lh s0;have HA1:=Lh h1;have HG1:=Lh g1;have HC1:=Lh s1;have HA2:=Lh h2;have HG2:=Lh g2;have HC2:=Lh s2;have Hst:=Lh (show Xu w (w.heap.size+3) [c0,c1,c2] 0 W from⟨⟨[⟨#[]⟩,⟨#[]⟩,⟨#[]⟩],rfl,C3,fun i q h=>absurd h (Nat.not_lt_zero _)⟩,C2,kb⟩);have HX:=Lh (fun wr (hb:Below (w.heap.size+2) W wr) (i:Nat)=>(hb.cell (p:=⟨w.heap.size,i,Jn⟩) (by show w.heap.size<w.heap.size+2;omega)).trans (C0.at_ i));have HY:=Lh (fun wr (hb:Below (w.heap.size+2) W wr) (i:Nat)=>(hb.cell (p:=⟨w.heap.size+1,i,Jn⟩) (by show w.heap.size+1<w.heap.size+2;omega)).trans (C1.at_ i));have HZ:=Lh (show W.heap.size=w.heap.size+4 from hs);clear kb C0 C1 C2 C3 hs h0 h1 h2 g0 g1 g2 s0 s1 s2 V0 V1 V2 V3;go_enter Tryz.func39,Tryz.ntmps39;go_wp2_with fail
 try simp only[hW]
 clear hW;go_loopw [6] (fun v wr=>∃(k:Nat) (z:Int),k<=3/\z=(k:Int)/\v=Ji Jl z/\Xu w (w.heap.size+3) [c0,c1,c2] k wr/\Below (w.heap.size+2) W wr) (fun v _=>3-(intOf v).toNat)
 case atStart=>exact⟨0,0,by decide,rfl,rfl,Hst.out,M1 _ _⟩
 case round=>
  obtain⟨k,z,hk,hzk,rfl,⟨⟨ss,hl,hc,hr⟩,hz,hb⟩,hb1⟩:=hrel;obtain⟨t0,t1,t2,rfl⟩:∃x y z,ss=[x,y,z]:=Vo hl;have Hc:=Lh (show Jg wr (w.heap.size+1+1+1) _ from hc);have Hr:=Lh hr;have Hz:=Lh (show Jg wr (w.heap.size+1+1) _ from hz);have Hb:=Lh hb;have Hb1:=Lh hb1;have Hsz:=Lh (show w.heap.size+4<=wr.heap.size by have:=hb1.size;rw[HZ.out]at this;exact this);clear hl hc hr hz hb hb1;obtain rfl|rfl|rfl|rfl:k=0\/k=1\/k=2\/k=3:=by omega
  ·obtain rfl:z=0:=hzk;have HS:=Lh (fun w' (hb:Below wr.heap.size wr w')=>have hb2:=Hb1.out.trans (hb.mono (M3 (show w.heap.size+2<=w.heap.size+4 by omega) Hsz.out));(⟨HX.out w' hb2 1,HX.out w' hb2 2,HY.out w' hb2 1,HY.out w' hb2 2⟩:w'.cell? ⟨w.heap.size,1,Jn⟩=Jo (Js a1)/\w'.cell? ⟨w.heap.size,2,Jn⟩=Jo (Js a2)/\w'.cell? ⟨w.heap.size+1,1,Jn⟩=Jo (Js b1)/\w'.cell? ⟨w.heap.size+1,2,Jn⟩=Jo (Js b2)));go_upto_region 6 with fail
   refine Till.begin 17 (fun w'=>w'.cell? ⟨w.heap.size,1,Jn⟩=Jo (Js a1)/\w'.cell? ⟨w.heap.size,2,Jn⟩=Jo (Js a2)/\w'.cell? ⟨w.heap.size+1,1,Jn⟩=Jo (Js b1)/\w'.cell? ⟨w.heap.size+1,2,Jn⟩=Jo (Js b2)) (by kernel_rfl) (HS.out _ (M1 _ _).drew) (fun hH=>?_);clear hH;have HB:=Lh (M1 wr.heap.size wr).drew;generalize wr.drew=v0 at HB ⊢;try simp only[Pls]
   refine Till.tk 0 16 19 (Ji Jl 0) (HS.out _ HB.out) ?_;try simp only[M0,Pls]
   refine Till.tk 1 2 20 (Ji Jl 1) (HS.out _ HB.out) ?_;try simp only[M0,Pls]
   refine Till.tk 2 3 21 (Jp (Jo ⟨w.heap.size,1,Jn⟩)) (HS.out _ HB.out) ?_;try simp only[M0,Pls]
   refine Till.tk 3 7 22 (Js a1) (HS.out _ HB.out) ?_;try simp only[M0,Pls]
   refine Till.tk 4 5 23 (Ji Jl 2) (HS.out _ HB.out) ?_;try simp only[M0,Pls]
   refine Till.tk 5 6 24 (Jp (Jo ⟨w.heap.size+1,2,Jn⟩)) (HS.out _ HB.out) ?_;try simp only[M0,Pls]
   refine Till.tk 6 7 25 (Js b2) (HS.out _ HB.out) ?_;try simp only[M0,Pls]
   refine Till.tk 8 9 27 (Ji Jl 2) (HS.out _ HB.out) ?_;try simp only[M0,Pls]
   refine Till.tk 9 10 28 (Jp (Jo ⟨w.heap.size,2,Jn⟩)) (HS.out _ HB.out) ?_;try simp only[M0,Pls]
   refine Till.tk 10 14 29 (Js a2) (HS.out _ HB.out) ?_;try simp only[M0,Pls]
   refine Till.tk 11 12 30 (Ji Jl 1) (HS.out _ HB.out) ?_;try simp only[M0,Pls]
   refine Till.tk 12 13 31 (Jp (Jo ⟨w.heap.size+1,1,Jn⟩)) (HS.out _ HB.out) ?_;try simp only[M0,Pls]
   refine Till.tk 13 14 32 (Js b1) (HS.out _ HB.out) ?_;try simp only[M0,Pls]
   refine Till.one (i:=7) (by kernel_rfl) rfl (fun K hK=>?_);go_simp;refine(HA0.out _).mono ?_;rintro e v1⟨rfl,g⟩;replace HB:=Lh (Jd HB.out g);clear g;go_wp2_with fail
   refine hK.out _ _ (fun _=>HS.out _ HB.out) ?_;clear hK K;try simp only[Pls]
   refine Till.one (i:=14) (by kernel_rfl) rfl (fun K hK=>?_);go_simp;refine(HG0.out _).mono ?_;rintro e v2⟨rfl,g⟩;replace HB:=Lh (Jd HB.out g);clear g;go_wp2_with fail
   refine hK.out _ _ (fun _=>HS.out _ HB.out) ?_;clear hK K;try simp only[Pls]
   refine Till.one (i:=15) (by kernel_rfl) rfl (fun K hK=>?_);go_simp;refine(HC0.out _).mono ?_;rintro e v3⟨rfl,g⟩;replace HB:=Lh (Jd HB.out g);have Cv:=Hc.out.keep HB.out;have f0:v3.frozen? ⟨w.heap.size+1+1+1,0,Jn⟩=false:=Cv.fz 0;have m0_:v3.cell? ⟨w.heap.size+1+1+1,0,Jn⟩=Jo (Js t0):=Cv.at_ 0;clear Cv;clear g;go_wp2_with fail
   refine hK.out _ _ (fun _=>HS.out _ HB.out) ?_;clear hK K;try simp only[Pls]
   refine Till.one (i:=16) (by kernel_rfl) rfl (fun K hK=>?_);go_simp;refine hK.out _ _ (fun _=>HS.out _ HB.out) ?_;clear hK K;try simp only[Pls]
   refine Till.one (i:=17) (by kernel_rfl) rfl (fun K hK=>?_);go_simp;refine hK.out _ _ (fun h=>absurd h (by simp)) ?_;clear hK K;try simp only[Pls]
   refine Till.done (by kernel_rfl) ?_ _;have hB:=HB.out;have Hb:=Lh (Jd Hb.out hB);have Hb1:=Lh (Hb1.out.trans (hB.mono (M3 (show w.heap.size+2<=w.heap.size+4 by omega) Hsz.out)));have Hf:=Lh (QV (k:=0) (by decide) rfl (Hc.out.keep hB) rfl Hr.out (Hz.out.keep hB) (show w.heap.size<w.heap.size+1+1+1 by omega) Hb.out);have Hg:=Lh (Hb1.out.setCell (p:=⟨w.heap.size+1+1+1,0,Jn⟩) (show w.heap.size+2<=w.heap.size+1+1+1 by omega) (Js c0));clear hB;go_wp2_with fail
   go_roundw;case rel=>exact⟨1,1,by decide,rfl,by go_num,Hf.out,Hg.out⟩
   case measure=>simp[intOf]
  ·obtain rfl:z=1:=hzk;have HS:=Lh (fun w' (hb:Below wr.heap.size wr w')=>have hb2:=Hb1.out.trans (hb.mono (M3 (show w.heap.size+2<=w.heap.size+4 by omega) Hsz.out));(⟨HX.out w' hb2 2,HX.out w' hb2 0,HY.out w' hb2 2,HY.out w' hb2 0⟩:w'.cell? ⟨w.heap.size,2,Jn⟩=Jo (Js a2)/\w'.cell? ⟨w.heap.size,0,Jn⟩=Jo (Js a0)/\w'.cell? ⟨w.heap.size+1,2,Jn⟩=Jo (Js b2)/\w'.cell? ⟨w.heap.size+1,0,Jn⟩=Jo (Js b0)));go_upto_region 6 with fail
   refine Till.begin 17 (fun w'=>w'.cell? ⟨w.heap.size,2,Jn⟩=Jo (Js a2)/\w'.cell? ⟨w.heap.size,0,Jn⟩=Jo (Js a0)/\w'.cell? ⟨w.heap.size+1,2,Jn⟩=Jo (Js b2)/\w'.cell? ⟨w.heap.size+1,0,Jn⟩=Jo (Js b0)) (by kernel_rfl) (HS.out _ (M1 _ _).drew) (fun hH=>?_);clear hH;have HB:=Lh (M1 wr.heap.size wr).drew;generalize wr.drew=v0 at HB ⊢;try simp only[Pls]
   refine Till.tk 0 16 19 (Ji Jl 1) (HS.out _ HB.out) ?_;try simp only[M0,Pls]
   refine Till.tk 1 2 20 (Ji Jl 2) (HS.out _ HB.out) ?_;try simp only[M0,Pls]
   refine Till.tk 2 3 21 (Jp (Jo ⟨w.heap.size,2,Jn⟩)) (HS.out _ HB.out) ?_;try simp only[M0,Pls]
   refine Till.tk 3 7 22 (Js a2) (HS.out _ HB.out) ?_;try simp only[M0,Pls]
   refine Till.tk 4 5 23 (Ji Jl 0) (HS.out _ HB.out) ?_;try simp only[M0,Pls]
   refine Till.tk 5 6 24 (Jp (Jo ⟨w.heap.size+1,0,Jn⟩)) (HS.out _ HB.out) ?_;try simp only[M0,Pls]
   refine Till.tk 6 7 25 (Js b0) (HS.out _ HB.out) ?_;try simp only[M0,Pls]
   refine Till.tk 8 9 27 (Ji Jl 0) (HS.out _ HB.out) ?_;try simp only[M0,Pls]
   refine Till.tk 9 10 28 (Jp (Jo ⟨w.heap.size,0,Jn⟩)) (HS.out _ HB.out) ?_;try simp only[M0,Pls]
   refine Till.tk 10 14 29 (Js a0) (HS.out _ HB.out) ?_;try simp only[M0,Pls]
   refine Till.tk 11 12 30 (Ji Jl 2) (HS.out _ HB.out) ?_;try simp only[M0,Pls]
   refine Till.tk 12 13 31 (Jp (Jo ⟨w.heap.size+1,2,Jn⟩)) (HS.out _ HB.out) ?_;try simp only[M0,Pls]
   refine Till.tk 13 14 32 (Js b2) (HS.out _ HB.out) ?_;try simp only[M0,Pls]
   refine Till.one (i:=7) (by kernel_rfl) rfl (fun K hK=>?_);go_simp;refine(HA1.out _).mono ?_;rintro e v1⟨rfl,g⟩;replace HB:=Lh (Jd HB.out g);clear g;go_wp2_with fail
   refine hK.out _ _ (fun _=>HS.out _ HB.out) ?_;clear hK K;try simp only[Pls]
   refine Till.one (i:=14) (by kernel_rfl) rfl (fun K hK=>?_);go_simp;refine(HG1.out _).mono ?_;rintro e v2⟨rfl,g⟩;replace HB:=Lh (Jd HB.out g);clear g;go_wp2_with fail
   refine hK.out _ _ (fun _=>HS.out _ HB.out) ?_;clear hK K;try simp only[Pls]
   refine Till.one (i:=15) (by kernel_rfl) rfl (fun K hK=>?_);go_simp;refine(HC1.out _).mono ?_;rintro e v3⟨rfl,g⟩;replace HB:=Lh (Jd HB.out g);have Cv:=Hc.out.keep HB.out;have f0:v3.frozen? ⟨w.heap.size+1+1+1,1,Jn⟩=false:=Cv.fz 1;have m0_:v3.cell? ⟨w.heap.size+1+1+1,1,Jn⟩=Jo (Js t1):=Cv.at_ 1;clear Cv;clear g;go_wp2_with fail
   refine hK.out _ _ (fun _=>HS.out _ HB.out) ?_;clear hK K;try simp only[Pls]
   refine Till.one (i:=16) (by kernel_rfl) rfl (fun K hK=>?_);go_simp;refine hK.out _ _ (fun _=>HS.out _ HB.out) ?_;clear hK K;try simp only[Pls]
   refine Till.one (i:=17) (by kernel_rfl) rfl (fun K hK=>?_);go_simp;refine hK.out _ _ (fun h=>absurd h (by simp)) ?_;clear hK K;try simp only[Pls]
   refine Till.done (by kernel_rfl) ?_ _;have hB:=HB.out;have Hb:=Lh (Jd Hb.out hB);have Hb1:=Lh (Hb1.out.trans (hB.mono (M3 (show w.heap.size+2<=w.heap.size+4 by omega) Hsz.out)));have Hf:=Lh (QV (k:=1) (by decide) rfl (Hc.out.keep hB) rfl Hr.out (Hz.out.keep hB) (show w.heap.size<w.heap.size+1+1+1 by omega) Hb.out);have Hg:=Lh (Hb1.out.setCell (p:=⟨w.heap.size+1+1+1,1,Jn⟩) (show w.heap.size+2<=w.heap.size+1+1+1 by omega) (Js c1));clear hB;go_wp2_with fail
   go_roundw;case rel=>exact⟨2,2,by decide,rfl,by go_num,Hf.out,Hg.out⟩
   case measure=>simp[intOf]
  ·obtain rfl:z=2:=hzk;have HS:=Lh (fun w' (hb:Below wr.heap.size wr w')=>have hb2:=Hb1.out.trans (hb.mono (M3 (show w.heap.size+2<=w.heap.size+4 by omega) Hsz.out));(⟨HX.out w' hb2 0,HX.out w' hb2 1,HY.out w' hb2 0,HY.out w' hb2 1⟩:w'.cell? ⟨w.heap.size,0,Jn⟩=Jo (Js a0)/\w'.cell? ⟨w.heap.size,1,Jn⟩=Jo (Js a1)/\w'.cell? ⟨w.heap.size+1,0,Jn⟩=Jo (Js b0)/\w'.cell? ⟨w.heap.size+1,1,Jn⟩=Jo (Js b1)));go_upto_region 6 with fail
   refine Till.begin 17 (fun w'=>w'.cell? ⟨w.heap.size,0,Jn⟩=Jo (Js a0)/\w'.cell? ⟨w.heap.size,1,Jn⟩=Jo (Js a1)/\w'.cell? ⟨w.heap.size+1,0,Jn⟩=Jo (Js b0)/\w'.cell? ⟨w.heap.size+1,1,Jn⟩=Jo (Js b1)) (by kernel_rfl) (HS.out _ (M1 _ _).drew) (fun hH=>?_);clear hH;have HB:=Lh (M1 wr.heap.size wr).drew;generalize wr.drew=v0 at HB ⊢;try simp only[Pls]
   refine Till.tk 0 16 19 (Ji Jl 2) (HS.out _ HB.out) ?_;try simp only[M0,Pls]
   refine Till.tk 1 2 20 (Ji Jl 0) (HS.out _ HB.out) ?_;try simp only[M0,Pls]
   refine Till.tk 2 3 21 (Jp (Jo ⟨w.heap.size,0,Jn⟩)) (HS.out _ HB.out) ?_;try simp only[M0,Pls]
   refine Till.tk 3 7 22 (Js a0) (HS.out _ HB.out) ?_;try simp only[M0,Pls]
   refine Till.tk 4 5 23 (Ji Jl 1) (HS.out _ HB.out) ?_;try simp only[M0,Pls]
   refine Till.tk 5 6 24 (Jp (Jo ⟨w.heap.size+1,1,Jn⟩)) (HS.out _ HB.out) ?_;try simp only[M0,Pls]
   refine Till.tk 6 7 25 (Js b1) (HS.out _ HB.out) ?_;try simp only[M0,Pls]
   refine Till.tk 8 9 27 (Ji Jl 1) (HS.out _ HB.out) ?_;try simp only[M0,Pls]
   refine Till.tk 9 10 28 (Jp (Jo ⟨w.heap.size,1,Jn⟩)) (HS.out _ HB.out) ?_;try simp only[M0,Pls]
   refine Till.tk 10 14 29 (Js a1) (HS.out _ HB.out) ?_;try simp only[M0,Pls]
   refine Till.tk 11 12 30 (Ji Jl 0) (HS.out _ HB.out) ?_;try simp only[M0,Pls]
   refine Till.tk 12 13 31 (Jp (Jo ⟨w.heap.size+1,0,Jn⟩)) (HS.out _ HB.out) ?_;try simp only[M0,Pls]
   refine Till.tk 13 14 32 (Js b0) (HS.out _ HB.out) ?_;try simp only[M0,Pls]
   refine Till.one (i:=7) (by kernel_rfl) rfl (fun K hK=>?_);go_simp;refine(HA2.out _).mono ?_;rintro e v1⟨rfl,g⟩;replace HB:=Lh (Jd HB.out g);clear g;go_wp2_with fail
   refine hK.out _ _ (fun _=>HS.out _ HB.out) ?_;clear hK K;try simp only[Pls]
   refine Till.one (i:=14) (by kernel_rfl) rfl (fun K hK=>?_);go_simp;refine(HG2.out _).mono ?_;rintro e v2⟨rfl,g⟩;replace HB:=Lh (Jd HB.out g);clear g;go_wp2_with fail
   refine hK.out _ _ (fun _=>HS.out _ HB.out) ?_;clear hK K;try simp only[Pls]
   refine Till.one (i:=15) (by kernel_rfl) rfl (fun K hK=>?_);go_simp;refine(HC2.out _).mono ?_;rintro e v3⟨rfl,g⟩;replace HB:=Lh (Jd HB.out g);have Cv:=Hc.out.keep HB.out;have f0:v3.frozen? ⟨w.heap.size+1+1+1,2,Jn⟩=false:=Cv.fz 2;have m0_:v3.cell? ⟨w.heap.size+1+1+1,2,Jn⟩=Jo (Js t2):=Cv.at_ 2;clear Cv;clear g;go_wp2_with fail
   refine hK.out _ _ (fun _=>HS.out _ HB.out) ?_;clear hK K;try simp only[Pls]
   refine Till.one (i:=16) (by kernel_rfl) rfl (fun K hK=>?_);go_simp;refine hK.out _ _ (fun _=>HS.out _ HB.out) ?_;clear hK K;try simp only[Pls]
   refine Till.one (i:=17) (by kernel_rfl) rfl (fun K hK=>?_);go_simp;refine hK.out _ _ (fun h=>absurd h (by simp)) ?_;clear hK K;try simp only[Pls]
   refine Till.done (by kernel_rfl) ?_ _;have hB:=HB.out;have Hb:=Lh (Jd Hb.out hB);have Hb1:=Lh (Hb1.out.trans (hB.mono (M3 (show w.heap.size+2<=w.heap.size+4 by omega) Hsz.out)));have Hf:=Lh (QV (k:=2) (by decide) rfl (Hc.out.keep hB) rfl Hr.out (Hz.out.keep hB) (show w.heap.size<w.heap.size+1+1+1 by omega) Hb.out);have Hg:=Lh (Hb1.out.setCell (p:=⟨w.heap.size+1+1+1,2,Jn⟩) (show w.heap.size+2<=w.heap.size+1+1+1 by omega) (Js c2));clear hB;go_wp2_with fail
   go_roundw;case rel=>exact⟨3,3,by decide,rfl,by go_num,Hf.out,Hg.out⟩
   case measure=>simp[intOf]
  ·obtain rfl:z=3:=hzk;obtain rfl:t0=c0:=by have:=Hr.out 0 c0 (by decide) rfl;simpa using this
   obtain rfl:t1=c1:=by have:=Hr.out 1 c1 (by decide) rfl;simpa using this
   obtain rfl:t2=c2:=by have:=Hr.out 2 c2 (by decide) rfl;simpa using this
   have f0:wr.frozen? ⟨w.heap.size+1+1,0,Jn⟩=false:=Hz.out.fz 0;have z0:wr.cell? ⟨w.heap.size+1+1,0,Jn⟩=Jo (Js ⟨#[]⟩):=Hz.out.at_ 0;have m0:wr.cell? ⟨w.heap.size+1+1+1,0,Jn⟩=Jo (Js t0):=Hc.out.at_ 0;have f1:wr.frozen? ⟨w.heap.size+1+1,1,Jn⟩=false:=Hz.out.fz 1;have z1:wr.cell? ⟨w.heap.size+1+1,1,Jn⟩=Jo (Js ⟨#[]⟩):=Hz.out.at_ 1;have m1:wr.cell? ⟨w.heap.size+1+1+1,1,Jn⟩=Jo (Js t1):=Hc.out.at_ 1;have f2:wr.frozen? ⟨w.heap.size+1+1,2,Jn⟩=false:=Hz.out.fz 2;have z2:wr.cell? ⟨w.heap.size+1+1,2,Jn⟩=Jo (Js ⟨#[]⟩):=Hz.out.at_ 2;have m2:wr.cell? ⟨w.heap.size+1+1+1,2,Jn⟩=Jo (Js t2):=Hc.out.at_ 2;have Hf:=Lh (((Hb.out.setCell (p:=⟨w.heap.size+1+1,0,Jn⟩) (show w.heap.size<=w.heap.size+1+1 by omega) (Js t0)).setCell (p:=⟨w.heap.size+1+1,1,Jn⟩) (show w.heap.size<=w.heap.size+1+1 by omega) (Js t1)).setCell (p:=⟨w.heap.size+1+1,2,Jn⟩) (show w.heap.size<=w.heap.size+1+1 by omega) (Js t2));go_wp2;exact bodyPost_ret (v:= .agg #[Js t0,Js t1,Js t2]) (by simp[results,Tryz.results39,go_sem,z0,z1,z2]) rfl ⟨rfl,Hf.out⟩
def detQ(p0 p1 p2 q0 q1 q2 s0 s1 s2:Rat):Rat:=p0*(q1*s2-q2*s1)+p1*(q2*s0-q0*s2)+p2*(q0*s1-q1*s0)
theorem XJ{p0 p1 p2 q0 q1 q2 s0 s1 s2:Rat}{k m n:Nat}(f:Few3 k p0 p1 p2)(f':Few3 m q0 q1 q2)(f'':Few3 n s0 s1 s2)(hk:k+(m+n+(m+n)+1)+(k+(m+n+(m+n)+1))+1<=900)(w:World) :
  Calls Tryz.prog 41 #[.agg #[Js (Jh p0),Js (Jh p1),Js (Jh p2)],.agg #[Js (Jh q0),Js (Jh q1),Js (Jh q2)],.agg #[Js (Jh s0),Js (Jh s1),Js (Jh s2)]] w fun e w'=>e= .returned (Js (Jh (detQ p0 p1 p2 q0 q1 q2 s0 s1 s2)))/\Below w.heap.size w w':=by
 have h0:=fun w'=>US f' f'' (by omega) w';have h1:=fun w'=>XH f (f'.cross f'') (by omega) w';unfold detQ;clear f f' f'' hk;generalize Jh (p0*(q1*s2-q2*s1)+p1*(q2*s0-q0*s2)+p2*(q0*s1-q1*s0))=t0 at *
 generalize Jh (q1*s2-q2*s1)=d0 at *
 generalize Jh (q2*s0-q0*s2)=d1 at *
 generalize Jh (q0*s1-q1*s0)=d2 at *
 generalize Jh p0=a0 at *
 generalize Jh p1=a1 at *
 generalize Jh p2=a2 at *
 generalize Jh q0=b0 at *
 generalize Jh q1=b1 at *
 generalize Jh q2=b2 at *
 generalize Jh s0=c0 at *
 generalize Jh s1=c1 at *
 generalize Jh s2=c2 at *
 have kb:=(((M1 w.heap.size w).alloc (M2 _) (Jc #[Js a0,Js a1,Js a2] 48)).alloc (by simp) (Jc #[Js b0,Js b1,Js b2] 48)).alloc (by simp;omega) (Jc #[Js c0,Js c1,Js c2] 48);have C0:=((Jg.new w #[Js a0,Js a1,Js a2] 48).keep ((M1 _ _).alloc (M2 _) (Jc #[Js b0,Js b1,Js b2] 48))).keep ((M1 _ _).alloc (M2 _) (Jc #[Js c0,Js c1,Js c2] 48));have C1:=(Jg.new (w.alloc (Jc #[Js a0,Js a1,Js a2] 48)) #[Js b0,Js b1,Js b2] 48).keep ((M1 _ _).alloc (M2 _) (Jc #[Js c0,Js c1,Js c2] 48));have C2:=Jg.new ((w.alloc (Jc #[Js a0,Js a1,Js a2] 48)).alloc (Jc #[Js b0,Js b1,Js b2] 48)) #[Js c0,Js c1,Js c2] 48;simp only[M4]at C1 C2;obtain⟨W,hW⟩:∃u,((w.alloc (Jc #[Js a0,Js a1,Js a2] 48)).alloc (Jc #[Js b0,Js b1,Js b2] 48)).alloc (Jc #[Js c0,Js c1,Js c2] 48)=u:=⟨_,rfl⟩;rw[hW]at kb C0 C1 C2;have K0:=Lh kb;have V0:=Lh (show Jg W (w.heap.size) _ from C0);have V1:=Lh (show Jg W (w.heap.size+1) _ from C1);have V2:=Lh (show Jg W (w.heap.size+1+1) _ from C2);have H0:=Lh h0;have H1:=Lh h1;have HS:=Lh (fun w' (hb:Below W.heap.size W w')=>(⟨(V0.out.keep hb).at_ 0,(V0.out.keep hb).at_ 1,(V0.out.keep hb).at_ 2,(V1.out.keep hb).at_ 0,(V1.out.keep hb).at_ 1,(V1.out.keep hb).at_ 2,(V2.out.keep hb).at_ 0,(V2.out.keep hb).at_ 1,(V2.out.keep hb).at_ 2⟩:w'.cell? ⟨w.heap.size,0,Jn⟩=Jo (Js a0)/\w'.cell? ⟨w.heap.size,1,Jn⟩=Jo (Js a1)/\w'.cell? ⟨w.heap.size,2,Jn⟩=Jo (Js a2)/\w'.cell? ⟨w.heap.size+1,0,Jn⟩=Jo (Js b0)/\w'.cell? ⟨w.heap.size+1,1,Jn⟩=Jo (Js b1)/\w'.cell? ⟨w.heap.size+1,2,Jn⟩=Jo (Js b2)/\w'.cell? ⟨w.heap.size+1+1,0,Jn⟩=Jo (Js c0)/\w'.cell? ⟨w.heap.size+1+1,1,Jn⟩=Jo (Js c1)/\w'.cell? ⟨w.heap.size+1+1,2,Jn⟩=Jo (Js c2)))
 clear kb C0 C1 C2 h0 h1;go_enter Tryz.func41,Tryz.ntmps41;go_upto_region 1 with fail
 try simp only[hW]
 clear hW;refine Till.begin 5 (fun w'=>w'.cell? ⟨w.heap.size,0,Jn⟩=Jo (Js a0)/\w'.cell? ⟨w.heap.size,1,Jn⟩=Jo (Js a1)/\w'.cell? ⟨w.heap.size,2,Jn⟩=Jo (Js a2)/\w'.cell? ⟨w.heap.size+1,0,Jn⟩=Jo (Js b0)/\w'.cell? ⟨w.heap.size+1,1,Jn⟩=Jo (Js b1)/\w'.cell? ⟨w.heap.size+1,2,Jn⟩=Jo (Js b2)/\w'.cell? ⟨w.heap.size+1+1,0,Jn⟩=Jo (Js c0)/\w'.cell? ⟨w.heap.size+1+1,1,Jn⟩=Jo (Js c1)/\w'.cell? ⟨w.heap.size+1+1,2,Jn⟩=Jo (Js c2)) (by kernel_rfl) (HS.out _ (M1 _ _).drew) (fun hH=>?_);clear hH;have HB:=Lh (M1 W.heap.size W).drew;generalize W.drew=v0 at HB ⊢;try simp only[Pls]
 refine Till.tk 0 4 7 (.agg #[Js a0,Js a1,Js a2]) (HS.out _ HB.out) ?_;try simp only[M0,Pls]
 refine Till.tk 1 3 8 (.agg #[Js b0,Js b1,Js b2]) (HS.out _ HB.out) ?_;try simp only[M0,Pls]
 refine Till.tk 2 3 9 (.agg #[Js c0,Js c1,Js c2]) (HS.out _ HB.out) ?_;try simp only[M0,Pls]
 refine Till.one (i:=3) (by kernel_rfl) rfl (fun K hK=>?_);go_simp;refine(H0.out _).mono ?_;rintro e v1⟨rfl,g⟩;replace HB:=Lh (Jd HB.out g);clear g;go_wp2_with fail
 refine hK.out _ _ (fun _=>HS.out _ HB.out) ?_;clear hK K;try simp only[Pls]
 refine Till.one (i:=4) (by kernel_rfl) rfl (fun K hK=>?_);go_simp;refine(H1.out _).mono ?_;rintro e v2⟨rfl,g⟩;replace HB:=Lh (Jd HB.out g);clear g;go_wp2_with fail
 refine hK.out _ _ (fun _=>HS.out _ HB.out) ?_;clear hK K;try simp only[Pls]
 refine Till.one (i:=5) (by kernel_rfl) rfl (fun K hK=>?_);go_simp;refine hK.out _ _ (fun h=>absurd h (by simp)) ?_;clear hK K;try simp only[Pls]
 refine Till.done (by kernel_rfl) ?_ _;replace K0:=Lh (Jd K0.out HB.out);go_wp2;go_ret;exact⟨rfl,K0.out⟩
