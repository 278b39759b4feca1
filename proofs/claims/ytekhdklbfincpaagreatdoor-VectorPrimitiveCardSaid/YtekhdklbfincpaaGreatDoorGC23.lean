/- GC23: RatC RatG -/
import Derived.Test.YtekhdklbfincpaaGreatDoorGC22
import Derived.Test.YtekhdklbfincpaaGreatDoorGC20
set_option maxRecDepth 100000
set_option maxHeartbeats 16000000
namespace Go.Proofs.YtekhdklbfincpaaGreatDoor
open Go.Value renaming pointer→Jp,int→Ji,string→Js,agg→Ja
open Go.IntKind renaming i64→Jl
open Go.Obj renaming cells→Jc
open _root_.Option renaming none→Jn,some→Jo
open Go.RowKit.Below renaming refl→M0
open Go.Act renaming put→M1
open _root_.Nat renaming le_refl→M2,lt_of_le_of_lt→M8,zero_le→Mr
open _root_.Int renaming natAbs_natCast→M3
open _root_.Rat renaming divInt→M4
open _root_.ByteArray renaming data_append→M5,size_append→M6,ext→M9,data_extract→Ms
open _root_.List renaming mem_of_getElem?→M7
open Go.RowKit
theorem Ls(a:Int)(P:Option Addr)(b:Int)(Q:Option Addr)(z:Int)(kn:Nat)(w:World)(h:Jq 0 w (Ja #[Ji Jl a,Jp P]) z)(h':Jq 0 w (Ja #[Ji Jl b,Jp Q]) (-(kn:Int)))(hkp:0<kn)(hlz:(-z).natAbs<base 390)(hlk:((kn:Nat):Int).natAbs<base 390)(hg:Good w) :
  Calls Tryz.prog 87 #[Ja #[Ji Jl a,Jp P],Ja #[Ji Jl b,Jp Q]] w (Made (M4 (-z) kn) w):=by
 have kk:=(((M0 w.heap.size w).alloc (M2 _) (Jc #[Ji Jl a,Jp P] 28)).alloc (by simp) (Jc #[Ji Jl b,Jp Q] 28)).alloc (by simp;omega) (Jc #[Ji Jl 0,Jp Jn,Ji Jl 0,Jp Jn] 30);have V0:=Lh (((Jh.new w #[Ji Jl a,Jp P] 28).keep ((M0 _ _).alloc (M2 _) (Jc #[Ji Jl b,Jp Q] 28))).keep ((M0 _ _).alloc (M2 _) (Jc #[Ji Jl 0,Jp Jn,Ji Jl 0,Jp Jn] 30)));have V1:=Lh ((Jh.new (w.alloc (Jc #[Ji Jl a,Jp P] 28)) #[Ji Jl b,Jp Q] 28).keep ((M0 _ _).alloc (M2 _) (Jc #[Ji Jl 0,Jp Jn,Ji Jl 0,Jp Jn] 30)));have R:=Lh (Jh.new ((w.alloc (Jc #[Ji Jl a,Jp P] 28)).alloc (Jc #[Ji Jl b,Jp Q] 28)) #[Ji Jl 0,Jp Jn,Ji Jl 0,Jp Jn] 30);simp only[World.size_alloc]at V1 R;have Hz:=Lh (h.keep kk);have Hk:=Lh (h'.keep kk);have Hs:=Lh (Yc _ (-(kn:Int)) _ (h'.keep kk));rw[show sgn (-(kn:Int))=-1 by unfold sgn;rw[if_pos (by omega)]]at Hs;have Kk:=Lh kk;have Lz:=Lh hlz;have Lk:=Lh hlk;have Hkp:=Lh hkp;have Hw:=Lh (fun w' (hb:Below w.heap.size w w')=>hg.below hb);obtain⟨qt,hqt⟩:∃q,M4 (-z) kn=q:=⟨_,rfl⟩;rw[hqt];have Hqt:=Lh hqt.symm;have d0:=V1.out.c0;have d1:=V1.out.c1;clear h h' kk hkp hlz hlk hg hqt;go_enter Tryz.func87,Tryz.ntmps87;go_wp2_with fail
 refine Hs.out.mono ?_;rintro e ws⟨rfl,h1⟩;have V0:=Lh (V0.out.keep h1);have V1:=Lh (V1.out.keep h1);have R:=Lh (R.out.keep h1);have Hz:=Lh (Hz.out.keep h1);have Hk:=Lh (Hk.out.keep h1);have Ks:=Lh (Jd Kk.out h1);clear h1 d0 d1;have HS:=Lh (fun v (hb:Below ws.heap.size ws v)=>(⟨(V0.out.keep hb).c0,(V0.out.keep hb).c1,(V1.out.keep hb).c0,(V1.out.keep hb).c1⟩:v.cell? ⟨w.heap.size,0,Jn⟩=Jo (Ji Jl a)/\v.cell? ⟨w.heap.size,1,Jn⟩=Jo (Jp P)/\v.cell? ⟨w.heap.size+1,0,Jn⟩=Jo (Ji Jl b)/\v.cell? ⟨w.heap.size+1,1,Jn⟩=Jo (Jp Q)));have HA:=Lh (fun v (hb:Below ws.heap.size ws v)=>Gv a P z v (Hz.out.keep hb));have HB:=Lh (fun v (hb:Below ws.heap.size ws v)=>Gv b Q (-(kn:Int)) v (Hk.out.keep hb));rw[Int.neg_neg]at HB;go_wp2_with fail
 refine Till.begin 4 (fun v=>v.cell? ⟨w.heap.size,0,Jn⟩=Jo (Ji Jl a)/\v.cell? ⟨w.heap.size,1,Jn⟩=Jo (Jp P)/\v.cell? ⟨w.heap.size+1,0,Jn⟩=Jo (Ji Jl b)/\v.cell? ⟨w.heap.size+1,1,Jn⟩=Jo (Jp Q)) (by kernel_rfl) (HS.out _ (M0 _ _).drew) (fun hH=>?_);refine Till.tk 0 1 14 (Ja #[Ji Jl a,Jp P]) hH ?_;try simp only[M1,Pls]
 refine Till.tk 2 3 16 (Ja #[Ji Jl b,Jp Q]) hH ?_;try simp only[M1,Pls]
 clear hH;refine Till.one (i:=1) (by kernel_rfl) rfl (fun K hK=>?_);go_simp;refine(HA.out _ (M0 _ _).drew).mono ?_;rintro e v1⟨a2,P2,rfl,hx,g1⟩;have B1:=Lh (Jd (M0 ws.heap.size ws).drew g1);have Hx1:=Lh hx;clear g1 hx;go_wp2_with fail
 refine hK.out _ _ (fun _=>HS.out _ B1.out) ?_;clear hK K;try simp only[M1,Pls]
 refine Till.one (i:=3) (by kernel_rfl) rfl (fun K hK=>?_);go_simp;refine(HB.out _ B1.out).mono ?_;rintro e v2⟨b2,Q2,rfl,hy,g2⟩;have B2:=Lh (Jd B1.out g2);have Hx2:=Lh (Hx1.out.keep g2);have Hy2:=Lh hy;clear g2 hy;go_wp2_with fail
 refine hK.out _ _ (fun _=>HS.out _ B2.out) ?_;clear hK K;try simp only[M1,Pls]
 have V0:=Lh (V0.out.keep B2.out);have V1:=Lh (V1.out.keep B2.out);have R:=Lh (R.out.keep B2.out);have i0:=V0.out.c0;have i1:=V0.out.c1;have j0:=V1.out.c0;have j1:=V1.out.c1;have f0:=V0.out.fz 0;have f1:=V0.out.fz 1;have g0:=V1.out.fz 0;have g1:=V1.out.fz 1;refine Till.one (i:=4) (by kernel_rfl) rfl (fun K hK=>?_);go_simp;refine hK.out _ _ (fun h=>absurd h (by simp)) ?_;clear hK K;try simp only[M1,Pls]
 refine Till.one (i:=5) (by kernel_rfl) rfl (fun K hK=>?_);go_simp;refine hK.out _ _ (fun h=>absurd h (by simp)) ?_;clear hK K;try simp only[M1,Pls]
 refine Till.done (by kernel_rfl) ?_ _;clear i0 i1 j0 j1 f0 f1 g0 g1;have V0':=V0;have V1':=V1.out.put2_other (show w.heap.size+1≠w.heap.size by omega) (Ji Jl a2) (Jp P2);have V0:=Lh ((V0.out.put2 (Ji Jl a2) (Jp P2)).put2_other (show w.heap.size≠w.heap.size+1 by omega) (Ji Jl b2) (Jp Q2));have R:=Lh ((R.out.put2_other (show w.heap.size+1+1≠w.heap.size by omega) (Ji Jl a2) (Jp P2)).put2_other (show w.heap.size+1+1≠w.heap.size+1 by omega) (Ji Jl b2) (Jp Q2));have Hz:=Lh ((Hx2.out.wrote V0'.out (by rfl) (Qy v2 (w.heap.size) (Ji Jl a2) (Jp P2)).1 (Qy _ _ _ _).2).wrote V1' (by rfl) (Qy _ (w.heap.size+1) (Ji Jl b2) (Jp Q2)).1 (Qy _ _ _ _).2);have Hk:=Lh ((Hy2.out.wrote V0'.out (by rfl) (Qy v2 (w.heap.size) (Ji Jl a2) (Jp P2)).1 (Qy _ _ _ _).2).wrote V1' (by rfl) (Qy _ (w.heap.size+1) (Ji Jl b2) (Jp Q2)).1 (Qy _ _ _ _).2);have V1:=Lh (V1'.put2 (Ji Jl b2) (Jp Q2));have Kt:=Lh (YI (YI (Jd Ks.out B2.out) (M2 w.heap.size) (Ji Jl a2) (Jp P2)) (show w.heap.size<=w.heap.size+1 by omega) (Ji Jl b2) (Jp Q2));obtain⟨wt,hwt⟩:∃wt,put2 (put2 v2 (w.heap.size) (Ji Jl a2) (Jp P2)) (w.heap.size+1) (Ji Jl b2) (Jp Q2)=wt:=⟨_,rfl⟩;rw[hwt]at V0 V1 R Hz Hk Kt;unfold put2 at hwt;try rw[hwt]
 clear hwt V1';have HG:=Lh (YO a2 b2 P2 Q2 (-z) (kn:Int) wt Hz.out Hk.out (Jw Lz.out (by decide)) (Jw Lk.out (by decide)) (Hw.out _ Kt.out).2 (M8 (Mr _) V0.out.lt));rw[M3]at HG;obtain⟨g,hge⟩:∃g,Nat.gcd ((-z)).natAbs kn=g:=⟨_,rfl⟩;rw[hge]at HG;obtain⟨hqn,hqd⟩:=Q9 (n:=(-z)) (k:=kn) Hkp.out;rw[hge]at hqn hqd;have hgp:0<g:=by rw[←hge];exact Nat.gcd_pos_of_pos_right _ Hkp.out
 have hgl:g<base 390:=by rw[←hge];exact M8 (Nat.gcd_le_right _ Hkp.out) (by have:=Lk.out;rwa [M3]at this)
 have Hqn:=Lh hqn;have Hqd:=Lh (show(((M4 (-z) kn).den:Nat):Int)=(kn:Int)/(g:Int)by rw[hqd];exact Int.natCast_ediv _ _);have Hgp:=Lh hgp;have Hgl:=Lh (show((g:Nat):Int).natAbs<base 390 by rw[M3];exact hgl);obtain⟨q,hqq⟩:∃q,M4 (-z) kn=q:=⟨_,rfl⟩;rw[hqq]at Hqn Hqd Hqt;clear hge hqn hqd hgp hgl hqq;have c0:=V0.out.c0;have c1:=V0.out.c1;have d0:=V1.out.c0;have d1:=V1.out.c1;go_wp2_with fail
 refine HG.out.mono ?_;rintro e n1⟨ga,gP,rfl,hig,g1⟩;have k3:=(M0 n1.heap.size n1).alloc (M2 _) (Jc #[Ji Jl ga,Jp gP] 28);have G0:=Lh (Jh.new n1 #[Ji Jl ga,Jp gP] 28);have V0:=Lh ((V0.out.keep g1).keep k3);have V1:=Lh ((V1.out.keep g1).keep k3);have R:=Lh ((R.out.keep g1).keep k3);have Hz:=Lh ((Hz.out.keep g1).keep k3);have Hk:=Lh ((Hk.out.keep g1).keep k3);have Hig:=Lh (hig.keep k3);have Ku:=Lh (Jd (Jd Kt.out g1) k3);obtain⟨pg,hpg⟩:∃p,n1.heap.size=p:=⟨_,rfl⟩;obtain⟨wu,hwu⟩:∃wu,n1.alloc (Jc #[Ji Jl ga,Jp gP] 28)=wu:=⟨_,rfl⟩;rw[hwu]at G0 V0 V1 R Hz Hk Hig Ku;rw[hpg]at G0;clear g1 hig k3 c0 c1 d0 d1;have HS:=Lh (fun v (hb:Below wu.heap.size wu v)=>(⟨(V0.out.keep hb).c0,(V0.out.keep hb).c1,(V1.out.keep hb).c0,(V1.out.keep hb).c1,(G0.out.keep hb).c0,(G0.out.keep hb).c1⟩:v.cell? ⟨w.heap.size,0,Jn⟩=Jo (Ji Jl a2)/\v.cell? ⟨w.heap.size,1,Jn⟩=Jo (Jp P2)/\v.cell? ⟨w.heap.size+1,0,Jn⟩=Jo (Ji Jl b2)/\v.cell? ⟨w.heap.size+1,1,Jn⟩=Jo (Jp Q2)/\v.cell? ⟨pg,0,Jn⟩=Jo (Ji Jl ga)/\v.cell? ⟨pg,1,Jn⟩=Jo (Jp gP)));have HA:=Lh (fun v (hb:Below wu.heap.size wu v)=>Qa a2 P2 ga gP (-z) (g:Int) v (Hz.out.keep hb) (Hig.out.keep hb) (by have:=Hgp.out;omega) Lz.out Hgl.out);have HB:=Lh (fun v (hb:Below wu.heap.size wu v)=>Qa b2 Q2 ga gP (kn:Int) (g:Int) v (Hk.out.keep hb) (Hig.out.keep hb) (by have:=Hgp.out;omega) Lk.out Hgl.out);go_wp2_with fail
 try simp only[hpg,hwu]
 clear hpg hwu;refine Till.begin 7 (fun v=>v.cell? ⟨w.heap.size,0,Jn⟩=Jo (Ji Jl a2)/\v.cell? ⟨w.heap.size,1,Jn⟩=Jo (Jp P2)/\v.cell? ⟨w.heap.size+1,0,Jn⟩=Jo (Ji Jl b2)/\v.cell? ⟨w.heap.size+1,1,Jn⟩=Jo (Jp Q2)/\v.cell? ⟨pg,0,Jn⟩=Jo (Ji Jl ga)/\v.cell? ⟨pg,1,Jn⟩=Jo (Jp gP)) (by kernel_rfl) (HS.out _ (M0 _ _).drew) (fun hH=>?_);refine Till.tk 0 2 21 (Ja #[Ji Jl a2,Jp P2]) hH ?_;try simp only[M1,Pls]
 refine Till.tk 1 2 22 (Ja #[Ji Jl ga,Jp gP]) hH ?_;try simp only[M1,Pls]
 refine Till.tk 3 5 24 (Ja #[Ji Jl b2,Jp Q2]) hH ?_;try simp only[M1,Pls]
 refine Till.tk 4 5 25 (Ja #[Ji Jl ga,Jp gP]) hH ?_;try simp only[M1,Pls]
 clear hH;refine Till.one (i:=2) (by kernel_rfl) rfl (fun K hK=>?_);go_simp;refine(HA.out _ (M0 _ _).drew).mono ?_;rintro e v1⟨xa,xP,rfl,hx,g1⟩;have B1:=Lh (Jd (M0 wu.heap.size wu).drew g1);have Hx1:=Lh hx;clear g1 hx;go_wp2_with fail
 refine hK.out _ _ (fun _=>HS.out _ B1.out) ?_;clear hK K;try simp only[M1,Pls]
 refine Till.one (i:=5) (by kernel_rfl) rfl (fun K hK=>?_);go_simp;refine(HB.out _ B1.out).mono ?_;rintro e v2⟨ya,yP,rfl,hy,g2⟩;have B2:=Lh (Jd B1.out g2);have Hx2:=Lh (Hx1.out.keep g2);have Hy2:=Lh hy;rw[←Hqn.out]at Hx2;rw[←Hqd.out]at Hy2;clear g2 hy;have HO:=Lh (ZM xa xP ya yP q v2 Hx2.out Hy2.out);go_wp2_with fail
 refine hK.out _ _ (fun _=>HS.out _ B2.out) ?_;clear hK K;try simp only[M1,Pls]
 refine Till.one (i:=6) (by kernel_rfl) rfl (fun K hK=>?_);go_simp;refine(HO.out).mono ?_;rintro e v3⟨oa,oP,ob,oQ,rfl,ho,g3⟩;have B3:=Lh (Jd B2.out g3);have Ho:=Lh ho;clear g3 ho;go_wp2_with fail
 refine hK.out _ _ (fun _=>HS.out _ B3.out) ?_;clear hK K;try simp only[M1,Pls]
 have R:=Lh (R.out.keep B3.out);have k0:=R.out.c0;have k1:=R.out.c1;have k2:=R.out.c2;have k3:=R.out.c3;have f0:=R.out.fz 0;have f1:=R.out.fz 1;have f2:=R.out.fz 2;have f3:=R.out.fz 3;refine Till.one (i:=7) (by kernel_rfl) rfl (fun K hK=>?_);go_simp;refine hK.out _ _ (fun h=>absurd h (by simp)) ?_;clear hK K;try simp only[M1,Pls]
 refine Till.one (i:=8) (by kernel_rfl) rfl (fun K hK=>?_);go_simp;refine hK.out _ _ (fun h=>absurd h (by simp)) ?_;clear hK K;try simp only[M1,Pls]
 refine Till.done (by kernel_rfl) ?_ _;have Hfin:=Lh (Ho.out.wrote R.out (by rfl) (Jr v3 (w.heap.size+1+1) (Ji Jl oa) (Jp oP) (Ji Jl ob) (Jp oQ)).1 (Jr _ _ _ _ _ _).2);have Kf:=Lh (JA (Jd Ku.out B3.out) (show w.heap.size<=w.heap.size+1+1 by omega) (Ji Jl oa) (Jp oP) (Ji Jl ob) (Jp oQ));go_wp2;exact bodyPost_ret (v:= .tuple #[Ja #[Ji Jl oa,Jp oP,Ji Jl ob,Jp oQ],Ji Jl 0]) (by simp[results,Tryz.results87,go_sem,k0,k1,k2,k3]) rfl ⟨oa,oP,ob,oQ,rfl,by rw[Hqt.out];exact Hfin.out,Kf.out⟩
theorem Lt(a:Int)(P:Option Addr)(b:Int)(Q:Option Addr)(z k:Int)(w:World)(h:Jq 0 w (Ja #[Ji Jl a,Jp P]) z)(h':Jq 0 w (Ja #[Ji Jl b,Jp Q]) k)(hk0:k≠0)(hlz:z.natAbs<base 390)(hlk:k.natAbs<base 390)(hg:Good w) :
  Calls Tryz.prog 87 #[Ja #[Ji Jl a,Jp P],Ja #[Ji Jl b,Jp Q]] w (Made (M4 z k) w):=by
 rcases Int.lt_or_gt_of_ne hk0 with hn|hp
 ·have e:k=-((k.natAbs:Nat):Int):=by omega
  have e2:M4 z k=M4 (-z) (k.natAbs:Nat):=by rw[←ZG];congr 1;omega
  rw[e2];rw[e]at h';exact Ls a P b Q z k.natAbs w h h' (by omega) (by rw[Int.natAbs_neg];exact hlz) (by rw[M3];exact hlk) hg
 ·have e:k=((k.natAbs:Nat):Int):=by omega
  rw[e];rw[e]at h';exact Lp a P b Q z k.natAbs w h h' (by omega) hlz (by rw[M3];exact hlk) hg
theorem Yt(z:Int):∀c∈(txt z).data.toList,c≠47:=by
 by_cases h:z=0
 ·subst h;rw[Qo];intro c hc;have:c=48:=by simpa using hc
  rw[this];decide
 ·rw[XW h,VY];intro c hc;obtain⟨n,hn,rfl⟩:=List.mem_map.1 hc;rcases List.mem_append.1 hn with hn|hn
  ·split at hn
   ·rw[List.mem_singleton.1 hn];decide
   ·cases hn
  ·obtain⟨d,hd,rfl⟩:=List.mem_map.1 hn;have hdm:=JM z.natAbs d (List.mem_reverse.1 hd);intro e;have e2:=congrArg UInt8.toNat e;rw[UInt8.toNat_ofNat']at e2;simp at e2;omega
theorem O2(s:ByteArray)(k:Nat)(w:World)(hs:s.size<=9223372036854775807)(hk:k<=s.size)(hno:∀j c,j<k->s.data.toList[j]?=Jo c->c≠47)(hat:∀c,s.data.toList[k]?=Jo c->c=47) :
  Calls Tryz.prog 101 #[Js s] w fun e w'=>e= .returned (Ji Jl (k:Nat))/\w=w':=by
 have Hno:=Lh hno;have Hat:=Lh hat;clear hno hat;go_enter Tryz.func101,Tryz.ntmps101;go_wp2_with fail
 go_loop [3] (fun i=>∃j:Nat,j<=k/\i=Ji Jl j) (fun i=>s.size-(intOf i).toNat)
 case atStart=>exact⟨0,Mr _,rfl⟩
 case round=>
  obtain⟨j,hj,rfl⟩:=hrel;by_cases hlt:j<k
  ·have hjs:j<s.size:=by omega
   have hne:=Hno.out j s[j] hlt (VR hjs);obtain⟨x,hx⟩:∃x,(s[j]).toNat=x:=⟨_,rfl⟩;have t0:((x:Int) ==47)=false:=by
    rw[beq_eq_false_iff_ne];intro e;apply hne;apply UInt8.toNat_inj.1;rw[hx];show x=47;omega
   clear hne;go_wp2;go_round
   case rel=>exact⟨j+1,by omega,by go_num⟩
   case measure=>simp[intOf];omega
  ·obtain rfl:j=k:=by omega
   by_cases hjs:j<s.size
   ·have he:=Hat.out s[j] (VR hjs);have hx:(s[j]).toNat=47:=by rw[he];rfl
    clear he;go_wp2;go_ret;exact⟨rfl,rfl⟩
   ·have e:j=s.size:=by omega
    have He:=Lh e;clear e;go_wp2;go_ret;exact⟨by rw[He.out];rfl,rfl⟩
theorem Kz(T U:ByteArray):(T ++ ⟨#[47]⟩ ++ U).extract 0 T.size=T:=by
 apply M9;simp[M5,Ms]
theorem Zl(T U:ByteArray):(T ++ ⟨#[47]⟩ ++ U).extract (T.size+1) (T ++ ⟨#[47]⟩ ++ U).size=U:=by
 apply M9;apply Array.toList_inj.1;rw[Ub];have e:(T ++ ⟨#[47]⟩ ++ U).data.toList=(T.data.toList ++ [47]) ++ U.data.toList:=by simp[M5]
 rw[e];exact List.drop_left' (by rw[List.length_append,JU];rfl)
theorem FB(z:Int)(w:World)(hs:(txt z).size<=5000) :
  Calls Tryz.prog 76 #[Js (txt z)] w fun e w'=>e= .returned (.tuple #[Js (txt z),Js ⟨#[49]⟩])/\w=w':=by
 have HS:=Lh (fun w=>O2 (txt z) (txt z).size w (by omega) (M2 _) (fun j c _ h=>Yt z c (M7 h)) (fun c h=>by
  rw [List.getElem?_eq_none (by rw [JU]; exact M2 _)] at h; cases h))
 obtain⟨S,hS⟩:∃S,txt z=S:=⟨_,rfl⟩;rw[hS]at HS hs ⊢;clear hS;go_enter Tryz.func76,Tryz.ntmps76;go_wp2_with fail
 refine(HS.out _).mono ?_;rintro e w1⟨rfl,rfl⟩;go_wp2;go_ret2;exact⟨rfl,rfl⟩
theorem Ei(n d:Int)(w:World)(hs:(txt n).size<=5000)(ht:(txt d).size<=5000) :
  Calls Tryz.prog 76 #[Js (txt n ++ ⟨#[47]⟩ ++ txt d)] w fun e w'=>e= .returned (.tuple #[Js (txt n),Js (txt d)])/\Below w.heap.size w w':=by
 have hsz:(txt n ++ ⟨#[47]⟩ ++ txt d).size=(txt n).size+1+(txt d).size:=by rw[M6,M6];rfl
 have hdata:(txt n ++ ⟨#[47]⟩ ++ txt d).data.toList=(txt n).data.toList ++ 47 :: (txt d).data.toList:=by simp[M5]
 have HS:=Lh (fun w=>O2 (txt n ++ ⟨#[47]⟩ ++ txt d) (txt n).size w (by omega) (by omega) (fun j c hj h=>by
  rw[hdata,List.getElem?_append_left (by rw[JU];exact hj)]at h;exact Yt n c (M7 h)) (fun c h=>by
  rw[hdata,List.getElem?_append_right (by rw[JU];exact M2 _),JU,Nat.sub_self]at h;simpa using h.symm))
 have hl:=Kz (txt n) (txt d);have hr:=Zl (txt n) (txt d);obtain⟨T,hT⟩:∃T,txt n=T:=⟨_,rfl⟩;obtain⟨U,hU⟩:∃U,txt d=U:=⟨_,rfl⟩;rw[hT,hU]at hl hr hsz HS;rw[hT]at hs;rw[hU]at ht;rw[hT,hU];obtain⟨S,hS⟩:∃S,T ++ ⟨#[47]⟩ ++ U=S:=⟨_,rfl⟩;rw[hS]at hl hr hsz HS ⊢;have hle:T.size<=S.size:=by omega
 have hle1:T.size+1<=S.size:=by omega
 have hS5:S.size<=10001:=by omega
 have t0:((T.size:Int) ==(S.size:Int))=false:=by rw[beq_eq_false_iff_ne];omega
 have Hl:=Lh hl;have Hr:=Lh hr;clear hdata hT hU hS hsz;go_enter Tryz.func76,Tryz.ntmps76;go_wp2_with fail
 refine(HS.out _).mono ?_;rintro e w1⟨rfl,rfl⟩;go_wp2_with fail
 go_region
 all_goals
  go_wp2;go_ret2;exact⟨rfl,(M0 _ _).drew⟩
theorem Qw(q:Rat)(w:World)(hs:(txt q.num).size<=5000)(ht:(txt (q.den:Int)).size<=5000) :
  Calls Tryz.prog 76 #[Js (Jj q)] w fun e w'=>e= .returned (.tuple #[Js (txt q.num),Js (txt (q.den:Int))])/\Below w.heap.size w w':=by
 unfold Jj;by_cases h:q.den=1
 ·rw[if_pos h,h];refine(FB q.num w hs).mono ?_;rintro e w' ⟨rfl,rfl⟩;exact⟨by rw[show txt ((1:Nat):Int)=⟨#[49]⟩from V9],M0 _ _⟩
 ·rw[if_neg h];exact Ei q.num q.den w hs ht
