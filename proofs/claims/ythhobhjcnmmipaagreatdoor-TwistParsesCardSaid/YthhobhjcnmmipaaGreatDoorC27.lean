/- C27: Vdot Vec3 Vec4 Vec5 Vkno Seq -/
import Derived.Test.YthhobhjcnmmipaaGreatDoorC20
import Derived.Test.YthhobhjcnmmipaaGreatDoorC25
import Derived.Test.YthhobhjcnmmipaaGreatDoorC21
import Derived.Test.YthhobhjcnmmipaaGreatDoorC19
import Derived.Test.YthhobhjcnmmipaaGreatDoorC23
import Derived.Test.YthhobhjcnmmipaaGreatDoorC26
import Derived.Test.YthhobhjcnmmipaaGreatDoorC17
set_option maxRecDepth 100000
set_option maxHeartbeats 16000000
namespace Go.Proofs.YthhobhjcnmmipaaGreatDoor
open Go.Value renaming pointer→Jp,int→Ji
open Go.IntKind renaming i64→Jl
open Go.Obj renaming cells→Jc
open _root_.Option renaming none→Jn,some→Jo
open Go renaming World→JW
open Go.Act renaming put→E4
open Go.RowKit.Below renaming refl→E5
open _root_.Nat renaming le_refl→E6,lt_of_lt_of_le→E7
open Go.RowKit
def dotK(l0 l1 l2 o0 o1 o2:Rat):Nat->Rat
 | 0=>0
 | 1=>l0*o0
 | 2=>l0*o0+l1*o1
 | _=>l0*o0+l1*o1+l2*o2
theorem EO(x0 x1 x2 y0 y1 y2:R4)(l0 l1 l2 o0 o1 o2:Rat)(m n:Nat)(w:JW)(h:VecV w x0 x1 x2 l0 l1 l2)(h':VecV w y0 y1 y2 o0 o1 o2)(f:Few3 m l0 l1 l2)(f':Few3 n o0 o1 o2)(hm:m+n+(m+n)+1<=900)(hg:Good w) :
  Calls Tryz.prog 31 #[Jw x0 x1 x2,Jw y0 y1 y2] w (Qo (l0*o0+l1*o1+l2*o2) w):=by
 have HM0:=Lh (fun w' (hb:Below w.heap.size w w')=>Qz _ _ _ _ _ _ _ _ l0 o0 w' (h.x.keep hb) (h'.x.keep hb) (f.x.n47 (by omega)) (f.x.d47 (by omega)) (f'.x.n47 (by omega)) (f'.x.d47 (by omega)) (hg.below hb));have HM1:=Lh (fun w' (hb:Below w.heap.size w w')=>Qz _ _ _ _ _ _ _ _ l1 o1 w' (h.y.keep hb) (h'.y.keep hb) (f.y.n47 (by omega)) (f.y.d47 (by omega)) (f'.y.n47 (by omega)) (f'.y.d47 (by omega)) (hg.below hb));have HM2:=Lh (fun w' (hb:Below w.heap.size w w')=>Qz _ _ _ _ _ _ _ _ l2 o2 w' (h.z.keep hb) (h'.z.keep hb) (f.z.n47 (by omega)) (f.z.d47 (by omega)) (f'.z.n47 (by omega)) (f'.z.d47 (by omega)) (hg.below hb));have HA1:=Lh (fun c C d D e E g G w' (hb:Below w.heap.size w w') h1 h2=>Yr c C d D e E g G (l0*o0) (l1*o1) w' h1 h2 ((f.x.mul f'.x).n47 (by omega)) ((f.x.mul f'.x).d47 (by omega)) ((f.y.mul f'.y).n47 (by omega)) ((f.y.mul f'.y).d47 (by omega)) (hg.below hb));have HA2:=Lh (fun c C d D e E g G w' (hb:Below w.heap.size w w') h1 h2=>Yr c C d D e E g G (l0*o0+l1*o1) (l2*o2) w' h1 h2 (((f.x.mul f'.x).add (f.y.mul f'.y)).n47 (by omega)) (((f.x.mul f'.x).add (f.y.mul f'.y)).d47 (by omega)) ((f.z.mul f'.z).n47 (by omega)) ((f.z.mul f'.z).d47 (by omega)) (hg.below hb));have kb:=(((E5 w.heap.size w).alloc (E6 _) (Jc #[Ji Jl x0.1,Jp x0.2.1,Ji Jl x0.2.2.1,Jp x0.2.2.2,Ji Jl x1.1,Jp x1.2.1,Ji Jl x1.2.2.1,Jp x1.2.2.2,Ji Jl x2.1,Jp x2.2.1,Ji Jl x2.2.2.1,Jp x2.2.2.2] 35)).alloc (by simp) (Jc #[Ji Jl y0.1,Jp y0.2.1,Ji Jl y0.2.2.1,Jp y0.2.2.2,Ji Jl y1.1,Jp y1.2.1,Ji Jl y1.2.2.1,Jp y1.2.2.2,Ji Jl y2.1,Jp y2.2.1,Ji Jl y2.2.2.1,Jp y2.2.2.2] 35)).alloc (by simp;omega) (Jc #[Ji Jl 0,Jp Jn,Ji Jl 0,Jp Jn] 31)
 have C0:=((JE w x0 x1 x2).keep ((E5 _ _).alloc (E6 _) (Jc #[Ji Jl y0.1,Jp y0.2.1,Ji Jl y0.2.2.1,Jp y0.2.2.2,Ji Jl y1.1,Jp y1.2.1,Ji Jl y1.2.2.1,Jp y1.2.2.2,Ji Jl y2.1,Jp y2.2.1,Ji Jl y2.2.2.1,Jp y2.2.2.2] 35))).keep ((E5 _ _).alloc (E6 _) (Jc #[Ji Jl 0,Jp Jn,Ji Jl 0,Jp Jn] 31));have C1:=(JE (w.alloc (Jc #[Ji Jl x0.1,Jp x0.2.1,Ji Jl x0.2.2.1,Jp x0.2.2.2,Ji Jl x1.1,Jp x1.2.1,Ji Jl x1.2.2.1,Jp x1.2.2.2,Ji Jl x2.1,Jp x2.2.1,Ji Jl x2.2.2.1,Jp x2.2.2.2] 35)) y0 y1 y2).keep ((E5 _ _).alloc (E6 _) (Jc #[Ji Jl 0,Jp Jn,Ji Jl 0,Jp Jn] 31));have C2:=Jh.new ((w.alloc (Jc #[Ji Jl x0.1,Jp x0.2.1,Ji Jl x0.2.2.1,Jp x0.2.2.2,Ji Jl x1.1,Jp x1.2.1,Ji Jl x1.2.2.1,Jp x1.2.2.2,Ji Jl x2.1,Jp x2.2.1,Ji Jl x2.2.2.1,Jp x2.2.2.2] 35)).alloc (Jc #[Ji Jl y0.1,Jp y0.2.1,Ji Jl y0.2.2.1,Jp y0.2.2.2,Ji Jl y1.1,Jp y1.2.1,Ji Jl y1.2.2.1,Jp y1.2.2.2,Ji Jl y2.1,Jp y2.2.1,Ji Jl y2.2.2.1,Jp y2.2.2.2] 35)) #[Ji Jl 0,Jp Jn,Ji Jl 0,Jp Jn] 31;have hs:(((w.alloc (Jc #[Ji Jl x0.1,Jp x0.2.1,Ji Jl x0.2.2.1,Jp x0.2.2.2,Ji Jl x1.1,Jp x1.2.1,Ji Jl x1.2.2.1,Jp x1.2.2.2,Ji Jl x2.1,Jp x2.2.1,Ji Jl x2.2.2.1,Jp x2.2.2.2] 35)).alloc (Jc #[Ji Jl y0.1,Jp y0.2.1,Ji Jl y0.2.2.1,Jp y0.2.2.2,Ji Jl y1.1,Jp y1.2.1,Ji Jl y1.2.2.1,Jp y1.2.2.2,Ji Jl y2.1,Jp y2.2.1,Ji Jl y2.2.2.1,Jp y2.2.2.2] 35)).alloc (Jc #[Ji Jl 0,Jp Jn,Ji Jl 0,Jp Jn] 31)).heap.size=w.heap.size+1+1+1:=by simp
 simp only[World.size_alloc]at C1 C2;obtain⟨W,hW⟩:∃u,((w.alloc (Jc #[Ji Jl x0.1,Jp x0.2.1,Ji Jl x0.2.2.1,Jp x0.2.2.2,Ji Jl x1.1,Jp x1.2.1,Ji Jl x1.2.2.1,Jp x1.2.2.2,Ji Jl x2.1,Jp x2.2.1,Ji Jl x2.2.2.1,Jp x2.2.2.2] 35)).alloc (Jc #[Ji Jl y0.1,Jp y0.2.1,Ji Jl y0.2.2.1,Jp y0.2.2.2,Ji Jl y1.1,Jp y1.2.1,Ji Jl y1.2.2.1,Jp y1.2.2.2,Ji Jl y2.1,Jp y2.2.1,Ji Jl y2.2.2.1,Jp y2.2.2.2] 35)).alloc (Jc #[Ji Jl 0,Jp Jn,Ji Jl 0,Jp Jn] 31)=u:=⟨_,rfl⟩;rw[hW]at kb C0 C1 C2 hs;have Kb:=Lh kb;have HX:=Lh (fun wr (hb:Below W.heap.size W wr)=>C0.keep hb);have HY:=Lh (fun wr (hb:Below W.heap.size W wr)=>C1.keep hb);have HR:=Lh (fun wr (hb:Below W.heap.size W wr)=>C2.keep hb);have c0:W.cell? ⟨w.heap.size,0,Jn⟩=Jo (Ji Jl x0.1):=C0.at_ 0;have c1:W.cell? ⟨w.heap.size,1,Jn⟩=Jo (Jp x0.2.1):=C0.at_ 1;have c2:W.cell? ⟨w.heap.size,2,Jn⟩=Jo (Ji Jl x0.2.2.1):=C0.at_ 2;have c3:W.cell? ⟨w.heap.size,3,Jn⟩=Jo (Jp x0.2.2.2):=C0.at_ 3;have d0:W.cell? ⟨w.heap.size+1,0,Jn⟩=Jo (Ji Jl y0.1):=C1.at_ 0;have d1:W.cell? ⟨w.heap.size+1,1,Jn⟩=Jo (Jp y0.2.1):=C1.at_ 1;have d2:W.cell? ⟨w.heap.size+1,2,Jn⟩=Jo (Ji Jl y0.2.2.1):=C1.at_ 2;have d3:W.cell? ⟨w.heap.size+1,3,Jn⟩=Jo (Jp y0.2.2.2):=C1.at_ 3;clear h h' f f' hm hg kb C0 C1 C2 hs;unfold Jw;go_enter Tryz.func31,Tryz.ntmps31;go_wp2_with fail
 try simp only[hW]
 refine(HM0.out _ Kb.out).mono ?_;rintro e w1⟨a,P,b,Q,rfl,hv,h1⟩;have kv:=(E5 w1.heap.size w1).alloc (E6 _) (Jc #[Ji Jl a,Jp P,Ji Jl b,Jp Q] 31);have hV:=VarR.new hv;obtain⟨ps,hps⟩:∃p,w1.heap.size=p:=⟨_,rfl⟩;obtain⟨W1,hW1⟩:∃u,w1.alloc (Jc #[Ji Jl a,Jp P,Ji Jl b,Jp Q] 31)=u:=⟨_,rfl⟩;have hle:W.heap.size<=ps:=hps ▸ h1.size;have hb:=Jd h1 kv;rw[hW1]at kv hV hb;rw[hps]at hV;have Hst:=Lh hV;have Hb:=Lh hb;have Hle:=Lh hle;clear hW kv hV hb h1 hle hv c0 c1 c2 c3 d0 d1 d2 d3;go_wp2_with fail
 try simp only[hps,hW1]
 clear hps hW1;go_loopw [6] (fun v wr=>∃(k:Nat) (z a:Int) (P:Option Addr) (b:Int) (Q:Option Addr),1<=k/\k<=3/\z=(k:Int)/\v=Ji Jl z/\VarR wr ps a P b Q (dotK l0 l1 l2 o0 o1 o2 k)/\Below W.heap.size W wr) (fun v _=>3-(intOf v).toNat)
 case atStart=>exact⟨1,1,_,_,_,_,by decide,by decide,rfl,rfl,Hst.out,Hb.out⟩
 case round=>
  obtain⟨k,z,ra,rP,rb,rQ,hk1,hk,hzk,rfl,hv,hb⟩:=hrel;have Hb:=Lh hb;obtain rfl|rfl|rfl:k=1\/k=2\/k=3:=by omega
  ·obtain rfl:z=1:=hzk;have V:=Lh (show VarR wr ps ra rP rb rQ (l0*o0)from hv);clear hv hb;have HS:=Lh (fun w' (hb:Below wr.heap.size wr w')=>(⟨(V.out.keep hb).cells.at_ 0,(V.out.keep hb).cells.at_ 1,(V.out.keep hb).cells.at_ 2,(V.out.keep hb).cells.at_ 3,(HX.out _ (Jd Hb.out hb)).at_ 4,(HX.out _ (Jd Hb.out hb)).at_ 5,(HX.out _ (Jd Hb.out hb)).at_ 6,(HX.out _ (Jd Hb.out hb)).at_ 7,(HY.out _ (Jd Hb.out hb)).at_ 4,(HY.out _ (Jd Hb.out hb)).at_ 5,(HY.out _ (Jd Hb.out hb)).at_ 6,(HY.out _ (Jd Hb.out hb)).at_ 7⟩:w'.cell? ⟨ps,0,Jn⟩=Jo (Ji Jl ra)/\w'.cell? ⟨ps,1,Jn⟩=Jo (Jp rP)/\w'.cell? ⟨ps,2,Jn⟩=Jo (Ji Jl rb)/\w'.cell? ⟨ps,3,Jn⟩=Jo (Jp rQ)/\w'.cell? ⟨w.heap.size,4,Jn⟩=Jo (Ji Jl x1.1)/\w'.cell? ⟨w.heap.size,5,Jn⟩=Jo (Jp x1.2.1)/\w'.cell? ⟨w.heap.size,6,Jn⟩=Jo (Ji Jl x1.2.2.1)/\w'.cell? ⟨w.heap.size,7,Jn⟩=Jo (Jp x1.2.2.2)/\w'.cell? ⟨w.heap.size+1,4,Jn⟩=Jo (Ji Jl y1.1)/\w'.cell? ⟨w.heap.size+1,5,Jn⟩=Jo (Jp y1.2.1)/\w'.cell? ⟨w.heap.size+1,6,Jn⟩=Jo (Ji Jl y1.2.2.1)/\w'.cell? ⟨w.heap.size+1,7,Jn⟩=Jo (Jp y1.2.2.2)));go_upto_region 5 with fail
   refine Till.begin 9 (fun w'=>w'.cell? ⟨ps,0,Jn⟩=Jo (Ji Jl ra)/\w'.cell? ⟨ps,1,Jn⟩=Jo (Jp rP)/\w'.cell? ⟨ps,2,Jn⟩=Jo (Ji Jl rb)/\w'.cell? ⟨ps,3,Jn⟩=Jo (Jp rQ)/\w'.cell? ⟨w.heap.size,4,Jn⟩=Jo (Ji Jl x1.1)/\w'.cell? ⟨w.heap.size,5,Jn⟩=Jo (Jp x1.2.1)/\w'.cell? ⟨w.heap.size,6,Jn⟩=Jo (Ji Jl x1.2.2.1)/\w'.cell? ⟨w.heap.size,7,Jn⟩=Jo (Jp x1.2.2.2)/\w'.cell? ⟨w.heap.size+1,4,Jn⟩=Jo (Ji Jl y1.1)/\w'.cell? ⟨w.heap.size+1,5,Jn⟩=Jo (Jp y1.2.1)/\w'.cell? ⟨w.heap.size+1,6,Jn⟩=Jo (Ji Jl y1.2.2.1)/\w'.cell? ⟨w.heap.size+1,7,Jn⟩=Jo (Jp y1.2.2.2)) (by kernel_rfl) (HS.out _ (E5 _ _).drew) (fun hH=>?_);refine Till.tk 0 8 16 (.agg #[Ji Jl ra,Jp rP,Ji Jl rb,Jp rQ]) hH ?_;try simp only[E4,Pls]
   refine Till.tk 1 2 17 (Ji Jl 1) hH ?_;try simp only[E4,Pls]
   refine Till.tk 2 3 18 (Jp (Jo ⟨w.heap.size,4,Jn⟩)) hH ?_;try simp only[E4,Pls]
   refine Till.tk 3 7 19 (.agg #[Ji Jl x1.1,Jp x1.2.1,Ji Jl x1.2.2.1,Jp x1.2.2.2]) hH ?_;try simp only[E4,Pls]
   refine Till.tk 4 5 20 (Ji Jl 1) hH ?_;try simp only[E4,Pls]
   refine Till.tk 5 6 21 (Jp (Jo ⟨w.heap.size+1,4,Jn⟩)) hH ?_;try simp only[E4,Pls]
   refine Till.tk 6 7 22 (.agg #[Ji Jl y1.1,Jp y1.2.1,Ji Jl y1.2.2.1,Jp y1.2.2.2]) hH ?_;try simp only[E4,Pls]
   clear hH;have B0:=Lh (E5 wr.heap.size wr).drew;generalize wr.drew=v0 at B0 ⊢;refine Till.phaseP [7,8] #[true,true,true,true,true,true,true,true,true,false] 1 (fun a0 dn an v=>∃t7 t8:Value,an=puts a0 [(23,t7),(24,t8)]/\Below wr.heap.size wr v/\(dn 7=true->Qn v t7 (l1*o1))/\(dn 8=true->Qn v t8 (l0*o0+l1*o1))) rfl (by kernel_rfl) (by rintro dn an v ⟨_,_,rfl,hB,_⟩;exact HS.out _ hB) ⟨_,_,rfl,B0.out,(fun h=>absurd h (by decide)),(fun h=>absurd h (by decide))⟩ ⟨⟨_,rfl,?_⟩,⟨_,rfl,?_⟩,trivial⟩ ?_
   ·rintro dn an v⟨t7,t8,rfl,hB,F7,F8⟩ hi ha K hK;replace hB:=Lh hB;replace F7:=Lh F7;replace F8:=Lh F8;clear ha;refine Pent.mk ?_;try simp only[puts,E4,Pls]
    go_simp;refine(HM1.out _ (Jd Kb.out (Jd Hb.out hB.out))).mono ?_;rintro e v1⟨x7,X7,y7,Y7,rfl,hx,g⟩;replace hx:=Lh hx;replace g:=Lh g;go_wp2_with fail
    exact hK.out _ _ ⟨.agg #[Ji Jl x7,Jp X7,Ji Jl y7,Jp Y7],t8,(by kernel_rfl),Jd hB.out g.out,fun _=>⟨x7,X7,y7,Y7,rfl,hx.out⟩,fun h=>(F8.out h).keep g.out⟩
   ·rintro dn an v⟨t7,t8,rfl,hB,F7,F8⟩ hi ha K hK;obtain⟨x7,X7,y7,Y7,rfl,I7⟩:=F7 (ha 7 (by kernel_rfl));replace hB:=Lh hB;replace F7:=Lh F7;replace F8:=Lh F8;replace I7:=Lh I7;clear ha;refine Pent.mk ?_;try simp only[puts,E4,Pls]
    go_simp;refine(HA1.out _ _ _ _ _ _ _ _ _ (Jd Kb.out (Jd Hb.out hB.out)) (V.out.keep hB.out).rat I7.out).mono ?_;rintro e v1⟨x8,X8,y8,Y8,rfl,hx,g⟩;replace hx:=Lh hx;replace g:=Lh g;go_wp2_with fail
    exact hK.out _ _ ⟨.agg #[Ji Jl x7,Jp X7,Ji Jl y7,Jp Y7],.agg #[Ji Jl x8,Jp X8,Ji Jl y8,Jp Y8],(by kernel_rfl),Jd hB.out g.out,fun h=>(F7.out h).keep g.out,fun _=>⟨x8,X8,y8,Y8,rfl,hx.out⟩⟩
   ·rintro dn an v⟨t7,t8,rfl,hB,F7,F8⟩ hE;obtain⟨x7,X7,y7,Y7,rfl,I7⟩:=F7 (hE 7 (by decide));obtain⟨x8,X8,y8,Y8,rfl,I8⟩:=F8 (hE 8 (by decide));clear hE F7 F8;replace hB:=Lh hB;replace I7:=Lh I7;replace I8:=Lh I8;refine Pent.mk ?_;try simp only[puts,E4,Pls]
    have hN:=(V.out.keep hB.out).cells;have f0:v.frozen? ⟨ps,0,Jn⟩=false:=hN.fz 0;have m0:v.cell? ⟨ps,0,Jn⟩=Jo (Ji Jl ra):=hN.at_ 0;have f1:v.frozen? ⟨ps,1,Jn⟩=false:=hN.fz 1;have m1:v.cell? ⟨ps,1,Jn⟩=Jo (Jp rP):=hN.at_ 1;have f2:v.frozen? ⟨ps,2,Jn⟩=false:=hN.fz 2;have m2:v.cell? ⟨ps,2,Jn⟩=Jo (Ji Jl rb):=hN.at_ 2;have f3:v.frozen? ⟨ps,3,Jn⟩=false:=hN.fz 3;have m3:v.cell? ⟨ps,3,Jn⟩=Jo (Jp rQ):=hN.at_ 3;have Hf:=Lh (GK hN (by rfl) I8.out);have Hg:=Lh (JC (Jd Hb.out hB.out) Hle.out (Ji Jl x8) (Jp X8) (Ji Jl y8) (Jp Y8));clear hN;refine Till.one (i:=9) (by kernel_rfl) rfl (fun K hK=>?_);go_simp;refine hK.out _ _ (fun h=>absurd h (by simp)) ?_;clear hK K;try simp only[Pls]
    refine Till.done (by kernel_rfl) ?_ _;go_wp2_with fail
    go_roundw;case rel=>exact⟨2,2,_,_,_,_,by decide,by decide,rfl,by go_num,Hf.out,Hg.out⟩
    case measure=>simp[intOf]
  ·obtain rfl:z=2:=hzk;have V:=Lh (show VarR wr ps ra rP rb rQ (l0*o0+l1*o1)from hv);clear hv hb;have HS:=Lh (fun w' (hb:Below wr.heap.size wr w')=>(⟨(V.out.keep hb).cells.at_ 0,(V.out.keep hb).cells.at_ 1,(V.out.keep hb).cells.at_ 2,(V.out.keep hb).cells.at_ 3,(HX.out _ (Jd Hb.out hb)).at_ 8,(HX.out _ (Jd Hb.out hb)).at_ 9,(HX.out _ (Jd Hb.out hb)).at_ 10,(HX.out _ (Jd Hb.out hb)).at_ 11,(HY.out _ (Jd Hb.out hb)).at_ 8,(HY.out _ (Jd Hb.out hb)).at_ 9,(HY.out _ (Jd Hb.out hb)).at_ 10,(HY.out _ (Jd Hb.out hb)).at_ 11⟩:w'.cell? ⟨ps,0,Jn⟩=Jo (Ji Jl ra)/\w'.cell? ⟨ps,1,Jn⟩=Jo (Jp rP)/\w'.cell? ⟨ps,2,Jn⟩=Jo (Ji Jl rb)/\w'.cell? ⟨ps,3,Jn⟩=Jo (Jp rQ)/\w'.cell? ⟨w.heap.size,8,Jn⟩=Jo (Ji Jl x2.1)/\w'.cell? ⟨w.heap.size,9,Jn⟩=Jo (Jp x2.2.1)/\w'.cell? ⟨w.heap.size,10,Jn⟩=Jo (Ji Jl x2.2.2.1)/\w'.cell? ⟨w.heap.size,11,Jn⟩=Jo (Jp x2.2.2.2)/\w'.cell? ⟨w.heap.size+1,8,Jn⟩=Jo (Ji Jl y2.1)/\w'.cell? ⟨w.heap.size+1,9,Jn⟩=Jo (Jp y2.2.1)/\w'.cell? ⟨w.heap.size+1,10,Jn⟩=Jo (Ji Jl y2.2.2.1)/\w'.cell? ⟨w.heap.size+1,11,Jn⟩=Jo (Jp y2.2.2.2)));go_upto_region 5 with fail
   refine Till.begin 9 (fun w'=>w'.cell? ⟨ps,0,Jn⟩=Jo (Ji Jl ra)/\w'.cell? ⟨ps,1,Jn⟩=Jo (Jp rP)/\w'.cell? ⟨ps,2,Jn⟩=Jo (Ji Jl rb)/\w'.cell? ⟨ps,3,Jn⟩=Jo (Jp rQ)/\w'.cell? ⟨w.heap.size,8,Jn⟩=Jo (Ji Jl x2.1)/\w'.cell? ⟨w.heap.size,9,Jn⟩=Jo (Jp x2.2.1)/\w'.cell? ⟨w.heap.size,10,Jn⟩=Jo (Ji Jl x2.2.2.1)/\w'.cell? ⟨w.heap.size,11,Jn⟩=Jo (Jp x2.2.2.2)/\w'.cell? ⟨w.heap.size+1,8,Jn⟩=Jo (Ji Jl y2.1)/\w'.cell? ⟨w.heap.size+1,9,Jn⟩=Jo (Jp y2.2.1)/\w'.cell? ⟨w.heap.size+1,10,Jn⟩=Jo (Ji Jl y2.2.2.1)/\w'.cell? ⟨w.heap.size+1,11,Jn⟩=Jo (Jp y2.2.2.2)) (by kernel_rfl) (HS.out _ (E5 _ _).drew) (fun hH=>?_);refine Till.tk 0 8 16 (.agg #[Ji Jl ra,Jp rP,Ji Jl rb,Jp rQ]) hH ?_;try simp only[E4,Pls]
   refine Till.tk 1 2 17 (Ji Jl 2) hH ?_;try simp only[E4,Pls]
   refine Till.tk 2 3 18 (Jp (Jo ⟨w.heap.size,8,Jn⟩)) hH ?_;try simp only[E4,Pls]
   refine Till.tk 3 7 19 (.agg #[Ji Jl x2.1,Jp x2.2.1,Ji Jl x2.2.2.1,Jp x2.2.2.2]) hH ?_;try simp only[E4,Pls]
   refine Till.tk 4 5 20 (Ji Jl 2) hH ?_;try simp only[E4,Pls]
   refine Till.tk 5 6 21 (Jp (Jo ⟨w.heap.size+1,8,Jn⟩)) hH ?_;try simp only[E4,Pls]
   refine Till.tk 6 7 22 (.agg #[Ji Jl y2.1,Jp y2.2.1,Ji Jl y2.2.2.1,Jp y2.2.2.2]) hH ?_;try simp only[E4,Pls]
   clear hH;have B0:=Lh (E5 wr.heap.size wr).drew;generalize wr.drew=v0 at B0 ⊢;refine Till.phaseP [7,8] #[true,true,true,true,true,true,true,true,true,false] 1 (fun a0 dn an v=>∃t7 t8:Value,an=puts a0 [(23,t7),(24,t8)]/\Below wr.heap.size wr v/\(dn 7=true->Qn v t7 (l2*o2))/\(dn 8=true->Qn v t8 (l0*o0+l1*o1+l2*o2))) rfl (by kernel_rfl) (by rintro dn an v ⟨_,_,rfl,hB,_⟩;exact HS.out _ hB) ⟨_,_,rfl,B0.out,(fun h=>absurd h (by decide)),(fun h=>absurd h (by decide))⟩ ⟨⟨_,rfl,?_⟩,⟨_,rfl,?_⟩,trivial⟩ ?_
   ·rintro dn an v⟨t7,t8,rfl,hB,F7,F8⟩ hi ha K hK;replace hB:=Lh hB;replace F7:=Lh F7;replace F8:=Lh F8;clear ha;refine Pent.mk ?_;try simp only[puts,E4,Pls]
    go_simp;refine(HM2.out _ (Jd Kb.out (Jd Hb.out hB.out))).mono ?_;rintro e v1⟨x7,X7,y7,Y7,rfl,hx,g⟩;replace hx:=Lh hx;replace g:=Lh g;go_wp2_with fail
    exact hK.out _ _ ⟨.agg #[Ji Jl x7,Jp X7,Ji Jl y7,Jp Y7],t8,(by kernel_rfl),Jd hB.out g.out,fun _=>⟨x7,X7,y7,Y7,rfl,hx.out⟩,fun h=>(F8.out h).keep g.out⟩
   ·rintro dn an v⟨t7,t8,rfl,hB,F7,F8⟩ hi ha K hK;obtain⟨x7,X7,y7,Y7,rfl,I7⟩:=F7 (ha 7 (by kernel_rfl));replace hB:=Lh hB;replace F7:=Lh F7;replace F8:=Lh F8;replace I7:=Lh I7;clear ha;refine Pent.mk ?_;try simp only[puts,E4,Pls]
    go_simp;refine(HA2.out _ _ _ _ _ _ _ _ _ (Jd Kb.out (Jd Hb.out hB.out)) (V.out.keep hB.out).rat I7.out).mono ?_;rintro e v1⟨x8,X8,y8,Y8,rfl,hx,g⟩;replace hx:=Lh hx;replace g:=Lh g;go_wp2_with fail
    exact hK.out _ _ ⟨.agg #[Ji Jl x7,Jp X7,Ji Jl y7,Jp Y7],.agg #[Ji Jl x8,Jp X8,Ji Jl y8,Jp Y8],(by kernel_rfl),Jd hB.out g.out,fun h=>(F7.out h).keep g.out,fun _=>⟨x8,X8,y8,Y8,rfl,hx.out⟩⟩
   ·rintro dn an v⟨t7,t8,rfl,hB,F7,F8⟩ hE;obtain⟨x7,X7,y7,Y7,rfl,I7⟩:=F7 (hE 7 (by decide));obtain⟨x8,X8,y8,Y8,rfl,I8⟩:=F8 (hE 8 (by decide));clear hE F7 F8;replace hB:=Lh hB;replace I7:=Lh I7;replace I8:=Lh I8;refine Pent.mk ?_;try simp only[puts,E4,Pls]
    have hN:=(V.out.keep hB.out).cells;have f0:v.frozen? ⟨ps,0,Jn⟩=false:=hN.fz 0;have m0:v.cell? ⟨ps,0,Jn⟩=Jo (Ji Jl ra):=hN.at_ 0;have f1:v.frozen? ⟨ps,1,Jn⟩=false:=hN.fz 1;have m1:v.cell? ⟨ps,1,Jn⟩=Jo (Jp rP):=hN.at_ 1;have f2:v.frozen? ⟨ps,2,Jn⟩=false:=hN.fz 2;have m2:v.cell? ⟨ps,2,Jn⟩=Jo (Ji Jl rb):=hN.at_ 2;have f3:v.frozen? ⟨ps,3,Jn⟩=false:=hN.fz 3;have m3:v.cell? ⟨ps,3,Jn⟩=Jo (Jp rQ):=hN.at_ 3;have Hf:=Lh (GK hN (by rfl) I8.out);have Hg:=Lh (JC (Jd Hb.out hB.out) Hle.out (Ji Jl x8) (Jp X8) (Ji Jl y8) (Jp Y8));clear hN;refine Till.one (i:=9) (by kernel_rfl) rfl (fun K hK=>?_);go_simp;refine hK.out _ _ (fun h=>absurd h (by simp)) ?_;clear hK K;try simp only[Pls]
    refine Till.done (by kernel_rfl) ?_ _;go_wp2_with fail
    go_roundw;case rel=>exact⟨3,3,_,_,_,_,by decide,by decide,rfl,by go_num,Hf.out,Hg.out⟩
    case measure=>simp[intOf]
  ·obtain rfl:z=3:=hzk;have V:=Lh (show VarR wr ps ra rP rb rQ (l0*o0+l1*o1+l2*o2)from hv);have R:=Lh (HR.out _ hb);have K:=Lh (Jd Kb.out hb);clear hv hb;have m0:wr.cell? ⟨ps,0,Jn⟩=Jo (Ji Jl ra):=V.out.cells.at_ 0;have m1:wr.cell? ⟨ps,1,Jn⟩=Jo (Jp rP):=V.out.cells.at_ 1;have m2:wr.cell? ⟨ps,2,Jn⟩=Jo (Ji Jl rb):=V.out.cells.at_ 2;have m3:wr.cell? ⟨ps,3,Jn⟩=Jo (Jp rQ):=V.out.cells.at_ 3;have f0:wr.frozen? ⟨w.heap.size+1+1,0,Jn⟩=false:=R.out.fz 0;have k0:wr.cell? ⟨w.heap.size+1+1,0,Jn⟩=Jo (Ji Jl 0):=R.out.at_ 0;have f1:wr.frozen? ⟨w.heap.size+1+1,1,Jn⟩=false:=R.out.fz 1;have k1:wr.cell? ⟨w.heap.size+1+1,1,Jn⟩=Jo (Jp Jn):=R.out.at_ 1;have f2:wr.frozen? ⟨w.heap.size+1+1,2,Jn⟩=false:=R.out.fz 2;have k2:wr.cell? ⟨w.heap.size+1+1,2,Jn⟩=Jo (Ji Jl 0):=R.out.at_ 2;have f3:wr.frozen? ⟨w.heap.size+1+1,3,Jn⟩=false:=R.out.fz 3;have k3:wr.cell? ⟨w.heap.size+1+1,3,Jn⟩=Jo (Jp Jn):=R.out.at_ 3;have Hv:=Lh (V.out.rat.wrote R.out (by rfl) (Jk wr (w.heap.size+1+1) (Ji Jl ra) (Jp rP) (Ji Jl rb) (Jp rQ)).1 (Jk _ _ _ _ _ _).2);have Kf:=Lh (JC K.out (show w.heap.size<=w.heap.size+1+1 by omega) (Ji Jl ra) (Jp rP) (Ji Jl rb) (Jp rQ));go_wp2;exact bodyPost_ret (v:= .agg #[Ji Jl ra,Jp rP,Ji Jl rb,Jp rQ]) (by simp[results,Tryz.results31,go_sem,k0,k1,k2,k3]) rfl ⟨ra,rP,rb,rQ,rfl,Hv.out,Kf.out⟩
theorem RetE.mono{F G:Int->Option Addr->Int->Option Addr->Int->JW->Prop}(h:∀a P b Q E w,F a P b Q E w->G a P b Q E w){w w':JW}{e:Ending}(hr:RetE F w e w'):RetE G w e w':=
 let ⟨a,P,b,Q,E,h1,h2,h3⟩:=hr;⟨a,P,b,Q,E,h1,h _ _ _ _ _ _ h2,h3⟩
theorem VV{z k:Int}(h:txt z=txt k):z=k:=by
 have h1:=(Ka z).2;have h2:=(Ka k).2;rw[h]at h1;have e:z.natAbs=k.natAbs:=h1.symm.trans h2;by_cases hz:z=0
 ·omega
 ·have hk:k≠0:=by omega
  obtain⟨n,s1,e1,a1,b1⟩:=Vx hz;obtain⟨n',s2,e2,a2,b2⟩:=Vx hk;have e3:(txt z)[0]=(txt k)[0]:=by simp only[h]
  rw[e3,e2]at e1;omega
theorem GR:∀ {a b c d:List UInt8},(∀x∈a,x≠47)->(∀x∈c,x≠47)->a ++ 47 :: b=c ++ 47 :: d->a=c/\b=d
 | [],b,[],d,_,_,h=>by simpa using h
 | [],b,x :: c,d,_,hc,h=>by
  simp at h;exact absurd h.1.symm (hc x (by simp))
 | x :: a,b,[],d,ha,_,h=>by
  simp at h;exact absurd h.1 (ha x (by simp))
 | x :: a,b,y :: c,d,ha,hc,h=>by
  simp at h;obtain⟨h1,h2⟩:=GR (fun z hz=>ha z (by simp[hz])) (fun z hz=>hc z (by simp[hz])) h.2;exact⟨by rw[h.1,h1],h2⟩
theorem OL{p q:Rat}(h:Qs p=Qs q):p=q:=by
 have hl:∀(a b:ByteArray),(a ++ ⟨#[47]⟩ ++ b).data.toList=a.data.toList ++ 47 :: b.data.toList:=fun a b=>by simp
 unfold Qs at h;by_cases h1:p.den=1 <;> by_cases h2:q.den=1
 ·rw[if_pos h1,if_pos h2]at h;exact Rat.ext (VV h) (h1.trans h2.symm)
 ·rw[if_pos h1,if_neg h2]at h;exact absurd rfl (Ui p.num 47 (by rw[h,hl];simp))
 ·rw[if_neg h1,if_pos h2]at h;exact absurd rfl (Ui q.num 47 (by rw[←h,hl];simp))
 ·rw[if_neg h1,if_neg h2]at h;have h3:=congrArg (fun s:ByteArray=>s.data.toList) h;simp only[hl]at h3;obtain⟨e1,e2⟩:=GR (Ui p.num) (Ui q.num) h3;have e3:=VV (ByteArray.ext (Array.toList_inj.1 e1));have e4:=VV (ByteArray.ext (Array.toList_inj.1 e2));exact Rat.ext e3 (by omega)
theorem RatT.at_{w:JW}{r:R4}{s:ByteArray}{q:Rat}(h:RatT w r s)(hq:Qs q=s):VAt w r q:=by
 obtain⟨p,hv,ht,_,_⟩:=h;rw[←OL (ht.trans hq.symm)];exact hv
theorem VAt.txt{w:JW}{r:R4}{s:ByteArray}{q:Rat}{k:Nat}(h:VAt w r q)(f:Few q k)(hk:k<=3000)(hq:Qs q=s):RatT w r s:=⟨q,h,hq,E7 f.n (QB hk),E7 f.d (QB hk)⟩
structure VarV (w:JW) (p:Nat) (x0 x1 x2:R4) (q0 q1 q2:Rat):Prop where
 cells:Jh w p (flat [x0,x1,x2])
 vec:VecV w x0 x1 x2 q0 q1 q2
theorem VarV.keep{w w':JW}{p:Nat}{x0 x1 x2:R4}{q0 q1 q2:Rat}(h:VarV w p x0 x1 x2 q0 q1 q2)(hb:Below w.heap.size w w'):VarV w' p x0 x1 x2 q0 q1 q2:=⟨h.cells.keep hb,h.vec.keep hb⟩
theorem VarV.new{w:JW}{x0 x1 x2:R4}{q0 q1 q2:Rat}(h:VecV w x0 x1 x2 q0 q1 q2):VarV (w.alloc (Jc #[Ji Jl x0.1,Jp x0.2.1,Ji Jl x0.2.2.1,Jp x0.2.2.2,Ji Jl x1.1,Jp x1.2.1,Ji Jl x1.2.2.1,Jp x1.2.2.2,Ji Jl x2.1,Jp x2.2.1,Ji Jl x2.2.2.1,Jp x2.2.2.2] 35)) w.heap.size x0 x1 x2 q0 q1 q2:=⟨JE w x0 x1 x2,h.keep ((E5 w.heap.size w).alloc (E6 _) _)⟩
section
variable {P:Program} {md:Region.Mode} {ops:Array Oper} {Q:Exit->Act->JW->Prop} {S:JW->Prop} {k:Nat}
end
