/- GC44: Vpar Vlib Vrf -/
import Derived.Test.YtekhdklbfincpaaGreatDoorGC33
import Derived.Test.YtekhdklbfincpaaGreatDoorGC39
import Derived.Test.YtekhdklbfincpaaGreatDoorGC43
set_option maxRecDepth 100000
set_option maxHeartbeats 16000000
namespace Go.Proofs.YtekhdklbfincpaaGreatDoor
open Go.Value renaming pointer→Jp,int→Ji,string→Js
open Go.IntKind renaming i64→Jl
open Go.Obj renaming cells→Jc
open _root_.Option renaming none→Jn
open Go renaming World→JW
open Go.Act renaming put→M0
open Go.RowKit.Below renaming refl→M1
open _root_.Nat renaming le_refl→M2
open Go.RowKit
def QW(p0 p1 p2:Rat):Bool:=cmpV p0 p1 p2 0 0 0 ==0
def parV(p0 p1 p2 q0 q1 q2:Rat):Bool:=!QW p0 p1 p2 && !QW q0 q1 q2 && QW (p1*q2-p2*q1) (p2*q0-p0*q2) (p0*q1-p1*q0)
theorem Few3.cross{k n:Nat}{p0 p1 p2 q0 q1 q2:Rat}(h:Few3 k p0 p1 p2)(h':Few3 n q0 q1 q2):Few3 (k+n+(k+n)+1) (p1*q2-p2*q1) (p2*q0-p0*q2) (p0*q1-p1*q0):=⟨(h.y.mul h'.z).sub (h.z.mul h'.y),(h.z.mul h'.x).sub (h.x.mul h'.z),(h.x.mul h'.y).sub (h.y.mul h'.x)⟩
theorem Mj(x0 x1 x2 y0 y1 y2:R4)(p0 p1 p2 q0 q1 q2:Rat)(k n:Nat)(w:JW)(h:VecV w x0 x1 x2 p0 p1 p2)(h':VecV w y0 y1 y2 q0 q1 q2)(f:Few3 k p0 p1 p2)(f':Few3 n q0 q1 q2)(hk:k+n+(k+n)+1<=900)(hg:Good w) :
  Calls Tryz.prog 49 #[Jv x0 x1 x2,Jv y0 y1 y2] w fun e w'=>e= .returned (.bool (parV p0 p1 p2 q0 q1 q2))/\Below w.heap.size w w':=by
 have kb:=((M1 w.heap.size w).alloc (M2 _) (Jc #[Ji Jl x0.1,Jp x0.2.1,Ji Jl x0.2.2.1,Jp x0.2.2.2,Ji Jl x1.1,Jp x1.2.1,Ji Jl x1.2.2.1,Jp x1.2.2.2,Ji Jl x2.1,Jp x2.2.1,Ji Jl x2.2.2.1,Jp x2.2.2.2] 32)).alloc (by simp) (Jc #[Ji Jl y0.1,Jp y0.2.1,Ji Jl y0.2.2.1,Jp y0.2.2.2,Ji Jl y1.1,Jp y1.2.1,Ji Jl y1.2.2.1,Jp y1.2.2.2,Ji Jl y2.1,Jp y2.2.1,Ji Jl y2.2.2.1,Jp y2.2.2.2] 32);have C0:=(JZ w x0 x1 x2).keep ((M1 _ _).alloc (M2 _) (Jc #[Ji Jl y0.1,Jp y0.2.1,Ji Jl y0.2.2.1,Jp y0.2.2.2,Ji Jl y1.1,Jp y1.2.1,Ji Jl y1.2.2.1,Jp y1.2.2.2,Ji Jl y2.1,Jp y2.2.1,Ji Jl y2.2.2.1,Jp y2.2.2.2] 32));have C1:=JZ (w.alloc (Jc #[Ji Jl x0.1,Jp x0.2.1,Ji Jl x0.2.2.1,Jp x0.2.2.2,Ji Jl x1.1,Jp x1.2.1,Ji Jl x1.2.2.1,Jp x1.2.2.2,Ji Jl x2.1,Jp x2.2.1,Ji Jl x2.2.2.1,Jp x2.2.2.2] 32)) y0 y1 y2;simp only[World.size_alloc]at C1;obtain⟨W,hW⟩:∃u,(w.alloc (Jc #[Ji Jl x0.1,Jp x0.2.1,Ji Jl x0.2.2.1,Jp x0.2.2.2,Ji Jl x1.1,Jp x1.2.1,Ji Jl x1.2.2.1,Jp x1.2.2.2,Ji Jl x2.1,Jp x2.2.1,Ji Jl x2.2.2.1,Jp x2.2.2.2] 32)).alloc (Jc #[Ji Jl y0.1,Jp y0.2.1,Ji Jl y0.2.2.1,Jp y0.2.2.2,Ji Jl y1.1,Jp y1.2.1,Ji Jl y1.2.2.1,Jp y1.2.2.2,Ji Jl y2.1,Jp y2.2.1,Ji Jl y2.2.2.1,Jp y2.2.2.2] 32)=u:=⟨_,rfl⟩;rw[hW]at kb C0 C1;have H1:=fun w' (hb:Below w.heap.size w w')=>Ug x0 x1 x2 p0 p1 p2 w' (h.keep hb) (f.mid (by omega));have H2:=fun w' (hb:Below w.heap.size w w')=>Ug y0 y1 y2 q0 q1 q2 w' (h'.keep hb) (f'.mid (by omega));have H3:=Lh (fun w' (hb:Below w.heap.size w w')=>GF x0 x1 x2 y0 y1 y2 p0 p1 p2 q0 q1 q2 k n w' (h.keep hb) (h'.keep hb) f f' (by omega) (hg.below hb))
 have H4:=fun(r0 r1 r2:R4) w' hv=>Ug r0 r1 r2 (p1*q2-p2*q1) (p2*q0-p0*q2) (p0*q1-p1*q0) w' hv ((f.cross f').mid hk);obtain⟨z,hz⟩:∃z,parV p0 p1 p2 q0 q1 q2=z:=⟨_,rfl⟩;rw[hz];unfold parV at hz;obtain⟨z1,hz1⟩:∃z,QW p0 p1 p2=z:=⟨_,rfl⟩;obtain⟨z2,hz2⟩:∃z,QW q0 q1 q2=z:=⟨_,rfl⟩;obtain⟨z3,hz3⟩:∃z,QW (p1*q2-p2*q1) (p2*q0-p0*q2) (p0*q1-p1*q0)=z:=⟨_,rfl⟩;rw[hz1,hz2,hz3]at hz;rw[show(cmpV p0 p1 p2 0 0 0 ==0)=z1 from hz1]at H1;rw[show(cmpV q0 q1 q2 0 0 0 ==0)=z2 from hz2]at H2;rw[show(cmpV (p1*q2-p2*q1) (p2*q0-p0*q2) (p0*q1-p1*q0) 0 0 0 ==0)=z3 from hz3]at H4;have H1:=Lh H1;have H2:=Lh H2;have H4:=Lh H4;have Hz:=Lh hz;have V0:=Lh C0;have V1:=Lh C1;have Kb:=Lh kb;clear h h' f f' hk hg kb C0 C1 hz hz1 hz2 hz3;obtain⟨m0,m1,m2,m3,m4,m5,m6,m7,m8,m9,m10,m11⟩:=Jh.r12 (p:=w.heap.size) V0.out;unfold Jv at *
 go_enter Tryz.func49,Tryz.ntmps49;go_wp2_with fail
 try simp only[hW]
 refine(H1.out _ Kb.out).mono ?_;rintro e w1⟨rfl,g⟩;clear hW m0 m1 m2 m3 m4 m5 m6 m7 m8 m9 m10 m11;have V0:=Lh (V0.out.keep g);have V1:=Lh (V1.out.keep g);have K:=Lh (Jd Kb.out g);clear g;cases z1 with
 | true=>
  obtain rfl:z=false:=by have:=Hz.out;simpa using this.symm
  go_wp2;exact bodyPost_ret (v:= .bool false) (by simp[results,Tryz.results49,go_sem]) rfl ⟨rfl,K.out⟩
 | false=>
  obtain⟨m0,m1,m2,m3,m4,m5,m6,m7,m8,m9,m10,m11⟩:=Jh.r12 (p:=w.heap.size+1) V1.out;go_wp2_with fail
  refine(H2.out _ K.out).mono ?_;rintro e w2⟨rfl,g⟩;clear m0 m1 m2 m3 m4 m5 m6 m7 m8 m9 m10 m11;have V0:=Lh (V0.out.keep g);have V1:=Lh (V1.out.keep g);have K:=Lh (Jd K.out g);clear g;cases z2 with
  | true=>
   obtain rfl:z=false:=by have:=Hz.out;simpa using this.symm
   go_wp2;exact bodyPost_ret (v:= .bool false) (by simp[results,Tryz.results49,go_sem]) rfl ⟨rfl,K.out⟩
  | false=>
   obtain rfl:z=z3:=by have:=Hz.out;simpa using this.symm
   obtain⟨m0,m1,m2,m3,m4,m5,m6,m7,m8,m9,m10,m11⟩:=Jh.r12 (p:=w.heap.size) V0.out;obtain⟨n0,n1,n2,n3,n4,n5,n6,n7,n8,n9,n10,n11⟩:=Jh.r12 (p:=w.heap.size+1) V1.out;go_wp2_with fail
   refine(H3.out _ K.out).mono ?_;rintro e w3⟨r0,r1,r2,rfl,hv,g⟩;have K:=Lh (Jd K.out g);have H4:=Lh (H4.out r0 r1 r2 w3 hv);clear hv g m0 m1 m2 m3 m4 m5 m6 m7 m8 m9 m10 m11 n0 n1 n2 n3 n4 n5 n6 n7 n8 n9 n10 n11;unfold Jv at *
   go_wp2_with fail
   refine H4.out.mono ?_;rintro e w4⟨rfl,g⟩;have K:=Lh (Jd K.out g);clear g;go_wp2;exact bodyPost_ret (v:= .bool z) (by simp[results,Tryz.results49,go_sem]) rfl ⟨rfl,K.out⟩
theorem Jh.same{w w':JW}{q p:Nat}{l:List Value}(h:Jh w q l)(hq:q≠p)(hs:w'.heap.size=w.heap.size)(hk:∀k,k≠p->w'.heap[k]?=w.heap[k]?):Jh w' q l:=
 ⟨fun i=>(World.cell?_of_block (hk q hq)).trans (h.at_ i),fun i=>(World.frozen?_of_block (hk q hq)).trans (h.fz i),by rw[hs];exact h.lt⟩
theorem Jh.put12{w:JW}{p:Nat}{u0 u1 u2:R4}(h:Jh w p (flat [u0,u1,u2]))(x0 x1 x2:R4):Jh (put12 w p x0 x1 x2) p (flat [x0,x1,x2]):=by
 have:=((((((((((((h.set 0 (Ji Jl x0.1) (by simp[flat,QJ])).set 1 (Jp x0.2.1) (by simp[flat,QJ])).set 2 (Ji Jl x0.2.2.1) (by simp[flat,QJ])).set 3 (Jp x0.2.2.2) (by simp[flat,QJ])).set 4 (Ji Jl x1.1) (by simp[flat,QJ])).set 5 (Jp x1.2.1) (by simp[flat,QJ])).set 6 (Ji Jl x1.2.2.1) (by simp[flat,QJ])).set 7 (Jp x1.2.2.2) (by simp[flat,QJ])).set 8 (Ji Jl x2.1) (by simp[flat,QJ])).set 9 (Jp x2.2.1) (by simp[flat,QJ])).set 10 (Ji Jl x2.2.2.1) (by simp[flat,QJ])).set 11 (Jp x2.2.2.2) (by simp[flat,QJ]));simpa[flat,QJ,Go.Proofs.YtekhdklbfincpaaGreatDoor.put12]using this
theorem VarV.put{w:JW}{p:Nat}{u0 u1 u2 x0 x1 x2:R4}{q0 q1 q2:Rat}(h:Jh w p (flat [u0,u1,u2]))(hv:VecV w x0 x1 x2 q0 q1 q2):VarV (put12 w p x0 x1 x2) p x0 x1 x2 q0 q1 q2:=
 ⟨h.put12 x0 x1 x2,hv.wrote h (JF w p x0 x1 x2).1 (JF w p x0 x1 x2).2⟩
theorem VarV.other{w:JW}{q p:Nat}{u0 u1 u2 y0 y1 y2:R4}{q0 q1 q2:Rat}(h:VarV w q y0 y1 y2 q0 q1 q2)(hc:Jh w p (flat [u0,u1,u2]))(hq:q≠p)(x0 x1 x2:R4):VarV (put12 w p x0 x1 x2) q y0 y1 y2 q0 q1 q2:=
 ⟨h.cells.same hq (JF w p x0 x1 x2).1 (JF w p x0 x1 x2).2,h.vec.wrote hc (JF w p x0 x1 x2).1 (JF w p x0 x1 x2).2⟩
def LV(w:JW)(t:Value)(q0 q1 q2:Rat):Prop:=∃r0 r1 r2,t=Jv r0 r1 r2/\VecV w r0 r1 r2 q0 q1 q2
theorem LV.keep{w w':JW}{t:Value}{q0 q1 q2:Rat}(h:LV w t q0 q1 q2)(hb:Below w.heap.size w w'):LV w' t q0 q1 q2:=by
 obtain⟨r0,r1,r2,e,hx⟩:=h;exact⟨r0,r1,r2,e,hx.keep hb⟩
def PtrV(b:Nat)(w:JW)(t:Value):Prop:=∃p:Nat,t=Jp (some ⟨p,0,Jn⟩)/\b<=p/\Jh w p (flat [Jm,Jm,Jm])
theorem PtrV.keep{b:Nat}{w w':JW}{t:Value}(h:PtrV b w t)(hb:Below w.heap.size w w'):PtrV b w' t:=by
 obtain⟨p,e,hp,hc⟩:=h;exact⟨p,e,hp,hc.keep hb⟩
theorem PtrV.ne{b:Nat}{w:JW}{t:Value}(h:PtrV b w t):t≠ Jp (some ⟨w.heap.size,0,Jn⟩):=by
 obtain⟨p,rfl,hp,hc⟩:=h;intro e;have hl:=hc.lt
 injection e with e
 injection e with e
 injection e with e
 exact absurd e (Nat.ne_of_lt hl)
theorem Dp(p q:Rat):(p<q/\cmpR p q=-1)\/(p=q/\cmpR p q=0)\/(q<p/\cmpR p q=1):=by
 unfold cmpR cmpZ;rcases Int.lt_trichotomy (p.num*(q.den:Int)) (q.num*(p.den:Int))with h|h|h
 ·exact .inl ⟨(Rat.lt_iff p q).2 h,by rw[if_pos h]⟩
 ·refine .inr (.inl ⟨Rat.le_antisymm ((Rat.le_iff p q).2 (by omega)) ((Rat.le_iff q p).2 (by omega)),by rw[if_neg (by omega),if_neg (by omega)]⟩)
 ·exact .inr (.inr ⟨(Rat.lt_iff q p).2 h,by rw[if_neg (by omega),if_pos h]⟩)
theorem Z2{p q:Rat}(h:cmpR p q=0):p=q:=by
 rcases Dp p q with h1|h1|h1
 ·rw[h]at h1;exact absurd h1.2 (by decide)
 ·exact h1.1
 ·rw[h]at h1;exact absurd h1.2 (by decide)
theorem Zo{p0 p1 p2 q0 q1 q2:Rat}(h0:p0=q0)(h1:p1=q1)(h2:p2=q2):cmpV p0 p1 p2 q0 q1 q2=0:=by
 subst h0 h1 h2;have e:∀q:Rat,cmpR q q=0:=fun q=>by unfold cmpR cmpZ;simp
 unfold cmpV;simp[e]
theorem Fa{p0 p1 p2 q0 q1 q2:Rat}(h:cmpV p0 p1 p2 q0 q1 q2=0):p0=q0/\p1=q1/\p2=q2:=by
 unfold cmpV at h;by_cases h0:cmpR p0 q0=0
 ·rw[if_pos h0]at h;by_cases h1:cmpR p1 q1=0
  ·rw[if_pos h1]at h;exact⟨Z2 h0,Z2 h1,Z2 h⟩
  ·rw[if_neg h1]at h;exact absurd h h1
 ·rw[if_neg h0]at h;exact absurd h h0
theorem Xv{p0 p1 p2:Rat}:QW p0 p1 p2=true↔p0=0/\p1=0/\p2=0:=by
 unfold QW;rw[beq_iff_eq];exact⟨Fa,fun h=>Zo h.1 h.2.1 h.2.2⟩
theorem few0:Few 0 1:=⟨by decide +kernel,by decide +kernel⟩
theorem XT(a0 a1 a2 z c0 c1 c2:ByteArray)(w:JW)
  (h0:∀w',Calls Tryz.prog 75 #[Js a0,Js z] w' fun e w''=>e= .returned (Js c0)/\Below w'.heap.size w' w'')
  (h1:∀w',Calls Tryz.prog 75 #[Js a1,Js z] w' fun e w''=>e= .returned (Js c1)/\Below w'.heap.size w' w'')
  (h2:∀w',Calls Tryz.prog 75 #[Js a2,Js z] w' fun e w''=>e= .returned (Js c2)/\Below w'.heap.size w' w'') :
  Calls Tryz.prog 32 #[.agg #[Js a0,Js a1,Js a2],Js z] w fun e w'=>e= .returned (.agg #[Js c0,Js c1,Js c2])/\Below w.heap.size w w':=by
 have kb:=((M1 w.heap.size w).alloc (M2 _) (Jc #[Js a0,Js a1,Js a2] 48)).alloc (by simp) (Jc #[Js ⟨#[]⟩,Js ⟨#[]⟩,Js ⟨#[]⟩] 48);have C0:=(Jh.new w #[Js a0,Js a1,Js a2] 48).keep ((M1 _ _).alloc (M2 _) (Jc #[Js ⟨#[]⟩,Js ⟨#[]⟩,Js ⟨#[]⟩] 48));have C1:=Jh.new (w.alloc (Jc #[Js a0,Js a1,Js a2] 48)) #[Js ⟨#[]⟩,Js ⟨#[]⟩,Js ⟨#[]⟩] 48;simp only[World.size_alloc]at C1;have HF0:=Lh h0;have HF1:=Lh h1;have HF2:=Lh h2;obtain⟨W,hW⟩:∃u,((w.alloc (Jc #[Js a0,Js a1,Js a2] 48)).alloc (Jc #[Js ⟨#[]⟩,Js ⟨#[]⟩,Js ⟨#[]⟩] 48))=u:=⟨_,rfl⟩;rw[hW]at kb C0 C1;have K0:=Lh kb;have V0:=Lh (show Jh W (w.heap.size) _ from C0);have V1:=Lh (show Jh W (w.heap.size+1) _ from C1);have HS:=Lh (fun w' (hb:Below W.heap.size W w')=>(⟨(V0.out.keep hb).at_ 0,(V0.out.keep hb).at_ 1,(V0.out.keep hb).at_ 2⟩:w'.cell? ⟨w.heap.size,0,Jn⟩=some (Js a0)/\w'.cell? ⟨w.heap.size,1,Jn⟩=some (Js a1)/\w'.cell? ⟨w.heap.size,2,Jn⟩=some (Js a2)));clear kb h0 h1 h2 C0 C1;go_enter Tryz.func32,Tryz.ntmps32;go_upto_region 1 with fail
 try simp only[hW]
 clear hW;refine Till.begin 13 (fun w'=>w'.cell? ⟨w.heap.size,0,Jn⟩=some (Js a0)/\w'.cell? ⟨w.heap.size,1,Jn⟩=some (Js a1)/\w'.cell? ⟨w.heap.size,2,Jn⟩=some (Js a2)) (by kernel_rfl) (HS.out _ (M1 _ _).drew) (fun hH=>?_);clear hH;have HB:=Lh (M1 W.heap.size W).drew;generalize W.drew=v0 at HB ⊢;try simp only[Pls]
 refine Till.tk 0 1 5 (Jp (some ⟨w.heap.size,0,Jn⟩)) (HS.out _ HB.out) ?_;try simp only[M0,Pls]
 refine Till.tk 1 3 6 (Js a0) (HS.out _ HB.out) ?_;try simp only[M0,Pls]
 refine Till.tk 2 3 7 (Js z) (HS.out _ HB.out) ?_;try simp only[M0,Pls]
 refine Till.tk 4 5 9 (Jp (some ⟨w.heap.size,1,Jn⟩)) (HS.out _ HB.out) ?_;try simp only[M0,Pls]
 refine Till.tk 5 7 10 (Js a1) (HS.out _ HB.out) ?_;try simp only[M0,Pls]
 refine Till.tk 6 7 11 (Js z) (HS.out _ HB.out) ?_;try simp only[M0,Pls]
 refine Till.tk 8 9 13 (Jp (some ⟨w.heap.size,2,Jn⟩)) (HS.out _ HB.out) ?_;try simp only[M0,Pls]
 refine Till.tk 9 11 14 (Js a2) (HS.out _ HB.out) ?_;try simp only[M0,Pls]
 refine Till.tk 10 11 15 (Js z) (HS.out _ HB.out) ?_;try simp only[M0,Pls]
 refine Till.one (i:=3) (by kernel_rfl) rfl (fun K hK=>?_);go_simp;refine(HF0.out _).mono ?_;rintro e v1⟨rfl,g⟩;replace HB:=Lh (Jd HB.out g);clear g;go_wp2_with fail
 refine hK.out _ _ (fun _=>HS.out _ HB.out) ?_;clear hK K;try simp only[Pls]
 refine Till.one (i:=7) (by kernel_rfl) rfl (fun K hK=>?_);go_simp;refine(HF1.out _).mono ?_;rintro e v2⟨rfl,g⟩;replace HB:=Lh (Jd HB.out g);clear g;go_wp2_with fail
 refine hK.out _ _ (fun _=>HS.out _ HB.out) ?_;clear hK K;try simp only[Pls]
 refine Till.one (i:=11) (by kernel_rfl) rfl (fun K hK=>?_);go_simp;refine(HF2.out _).mono ?_;rintro e v3⟨rfl,g⟩;replace HB:=Lh (Jd HB.out g);have Cv:=V1.out.keep HB.out;have f0:v3.frozen? ⟨w.heap.size+1,0,Jn⟩=false:=Cv.fz 0;have k0:v3.cell? ⟨w.heap.size+1,0,Jn⟩=some (Js ⟨#[]⟩):=Cv.at_ 0;have f1:v3.frozen? ⟨w.heap.size+1,1,Jn⟩=false:=Cv.fz 1;have k1:v3.cell? ⟨w.heap.size+1,1,Jn⟩=some (Js ⟨#[]⟩):=Cv.at_ 1;have f2:v3.frozen? ⟨w.heap.size+1,2,Jn⟩=false:=Cv.fz 2;have k2:v3.cell? ⟨w.heap.size+1,2,Jn⟩=some (Js ⟨#[]⟩):=Cv.at_ 2;clear Cv;clear g;go_wp2_with fail
 refine hK.out _ _ (fun _=>HS.out _ HB.out) ?_;clear hK K;try simp only[Pls]
 refine Till.one (i:=12) (by kernel_rfl) rfl (fun K hK=>?_);go_simp;refine hK.out _ _ (fun _=>HS.out _ HB.out) ?_;clear hK K;try simp only[Pls]
 refine Till.one (i:=13) (by kernel_rfl) rfl (fun K hK=>?_);go_simp;refine hK.out _ _ (fun h=>absurd h (by simp)) ?_;clear hK K;try simp only[Pls]
 refine Till.done (by kernel_rfl) ?_ _;have Kf:=Lh ((((Jd K0.out HB.out).setCell (p:=⟨w.heap.size+1,0,Jn⟩) (show w.heap.size<=w.heap.size+1 by omega) (Js c0)).setCell (p:=⟨w.heap.size+1,1,Jn⟩) (show w.heap.size<=w.heap.size+1 by omega) (Js c1)).setCell (p:=⟨w.heap.size+1,2,Jn⟩) (show w.heap.size<=w.heap.size+1 by omega) (Js c2));go_wp2;exact bodyPost_ret (v:= .agg #[Js c0,Js c1,Js c2]) (by simp[results,Tryz.results32,go_sem,k0,k1,k2]) rfl ⟨rfl,Kf.out⟩
