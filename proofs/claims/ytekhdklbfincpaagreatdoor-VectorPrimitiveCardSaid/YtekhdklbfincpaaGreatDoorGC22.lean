/- GC22: GcdZ RatB -/
import Derived.Test.YtekhdklbfincpaaGreatDoorGC21
import Derived.Test.YtekhdklbfincpaaGreatDoorGC14
import Derived.Test.YtekhdklbfincpaaGreatDoorGC16
import Derived.Deep.RegionHeld3
import Derived.Test.YtekhdklbfincpaaGreatDoorGC15
set_option maxRecDepth 100000
set_option maxHeartbeats 16000000
namespace Go.Proofs.YtekhdklbfincpaaGreatDoor
open Go.Value renaming pointer→Jp,int→Ji,agg→Ja
open Go.IntKind renaming i64→Jl
open Go.Obj renaming cells→Jc
open _root_.Option renaming none→Jn,some→Jo
open Go renaming World→JW
open Go.RowKit.Below renaming refl→M0
open _root_.Nat renaming le_refl→M1,gcd→M6,lt_of_le_of_lt→M7,lt_of_lt_of_le→M9
open _root_.And renaming right→M2
open Go.World renaming size_alloc→M3
open _root_.Int renaming natAbs_natCast→M4
open Go.Act renaming put→M5
open _root_.Rat renaming divInt→M8
open Go.RowKit
theorem Da(a b:Int)(p:Nat)(Q:Option Addr)(z k:Int)(w:JW)(h:Jq 0 w (Ja #[Ji Jl a,Jp (Jo ⟨p,0,Jn⟩)]) z)(h':Jq 0 w (Ja #[Ji Jl b,Jp Q]) k)(hlz:z.natAbs<base 400)(hlk:k.natAbs<base 400)(ht:YY w)(hw0:TzG<w.heap.size) :
  Calls Tryz.prog 83 #[Ja #[Ji Jl a,Jp (Jo ⟨p,0,Jn⟩)],Ja #[Ji Jl b,Jp Q]] w (Qt ((M6 z.natAbs k.natAbs:Nat):Int) w):=by
 obtain⟨bz,hbz⟩:∃bz,decide (z<0)=bz:=⟨_,rfl⟩;obtain⟨bk,hbk⟩:∃bk,decide (k<0)=bk:=⟨_,rfl⟩;have kk:=(((M0 w.heap.size w).alloc (M1 _) (Jc #[Ji Jl a,Jp (Jo ⟨p,0,Jn⟩)] 28)).alloc (by simp) (Jc #[Ji Jl b,Jp Q] 28)).alloc (by simp;omega) (Jc #[Ji Jl 0,Jp Jn] 28);have Hr:=Lh (Res.new ((w.alloc (Jc #[Ji Jl a,Jp (Jo ⟨p,0,Jn⟩)] 28)).alloc (Jc #[Ji Jl b,Jp Q] 28)));simp only[M3]at Hr;have Hx:=Lh (JI _ z _ bz hbz (h.keep kk));have Hy:=Lh (fun w' (hb:Below w.heap.size w w')=>JI _ k w' bk hbk (h'.keep hb));have Kk:=Lh kk;have Hlz:=Lh hlz;have Hlk:=Lh hlk;have Ht:=Lh (fun w' (h:Below w.heap.size w w')=>Um ht h hw0);obtain⟨g,hg⟩:∃g,M6 z.natAbs k.natAbs=g:=⟨_,rfl⟩;have Hg:=Lh hg;rw[hg];clear hg;have Hs:=Lh (show Jk false g=(g:Int)by simp[Jk]);clear h h' kk hbz hbk hlz hlk ht;go_enter Tryz.func83,Tryz.ntmps83;go_wp2_with fail
 refine Hx.out.mono ?_;rintro e w1⟨A,n,c,xs,rfl,hx,h1⟩;have e1:w1.cell? ⟨w.heap.size+1,0,Jn⟩=Jo (Ji Jl b):=(h1.cell (p:=⟨w.heap.size+1,0,Jn⟩) (by simp)).trans (by simp[go_sem]);have e2:w1.cell? ⟨w.heap.size+1,1,Jn⟩=Jo (Jp Q):=(h1.cell (p:=⟨w.heap.size+1,1,Jn⟩) (by simp)).trans (by simp[go_sem]);have K1:=Lh (Jd Kk.out h1);have R1:=Lh (Hr.out.keep h1);have Hnx:=Lh hx;clear h1 hx;go_wp2_with fail
 refine(Hy.out _ K1.out).mono ?_;rintro e w2⟨A',n',c',ys,rfl,hy,h2⟩;have Hnx2:=Lh (Hnx.out.keep h2);have Hny:=Lh hy;have K2:=Lh (Jd K1.out h2);have R2:=Lh (R1.out.keep h2);clear h2 hy e1 e2;have Hmul:=Lh (Of w2 Hnx2.out Hny.out Hlz.out Hlk.out (Ht.out _ K2.out) (M9 hw0 K2.out.size));go_wp2_with fail
 refine Hmul.out.mono ?_;rintro e w3⟨A3,n3,c3,zs,rfl,h3n,h3⟩;rw[Hg.out]at h3n;have K4:=Lh (Jd K2.out h3);have R4:=Lh (R2.out.keep h3);have Hsg:=Lh (JH false _ w3 h3n Hs.out);clear h3n h3;go_wp2_with fail
 refine Hsg.out.mono ?_;rintro e w5⟨a',P',rfl,hi5,h5⟩;have R5:=Lh (R4.out.keep h5);have Hi5:=Lh (hi5.stored R5.out (Ji Jl a') (Jp P'));have K5:=Lh (Jg (Jd K4.out h5) (show w.heap.size<=w.heap.size+2 by omega) (Ji Jl a') (Jp P'));have k0:=R5.out.k0;have k1:=R5.out.k1;have f0:=R5.out.f0;have f1:=R5.out.f1;clear hi5 h5;go_wp2;exact bodyPost_ret (v:=Ja #[Ji Jl a',Jp P']) (by simp[results,Tryz.results83,go_sem,k0,k1]) rfl ⟨a',P',rfl,Hi5.out,K5.out⟩
theorem FZ(a b:Int)(p:Nat)(z k:Int)(w:JW)(h:Jq 0 w (Ja #[Ji Jl a,Jp Jn]) z)(h':Jq 0 w (Ja #[Ji Jl b,Jp (Jo ⟨p,0,Jn⟩)]) k)(hlz:z.natAbs<base 400)(hlk:k.natAbs<base 400)(ht:YY w)(hw0:TzG<w.heap.size) :
  Calls Tryz.prog 83 #[Ja #[Ji Jl a,Jp Jn],Ja #[Ji Jl b,Jp (Jo ⟨p,0,Jn⟩)]] w (Qt ((M6 z.natAbs k.natAbs:Nat):Int) w):=by
 obtain⟨bz,hbz⟩:∃bz,decide (z<0)=bz:=⟨_,rfl⟩;obtain⟨bk,hbk⟩:∃bk,decide (k<0)=bk:=⟨_,rfl⟩;have kk:=(((M0 w.heap.size w).alloc (M1 _) (Jc #[Ji Jl a,Jp Jn] 28)).alloc (by simp) (Jc #[Ji Jl b,Jp (Jo ⟨p,0,Jn⟩)] 28)).alloc (by simp;omega) (Jc #[Ji Jl 0,Jp Jn] 28);have Hr:=Lh (Res.new ((w.alloc (Jc #[Ji Jl a,Jp Jn] 28)).alloc (Jc #[Ji Jl b,Jp (Jo ⟨p,0,Jn⟩)] 28)));simp only[M3]at Hr;have Hx:=Lh (JI _ z _ bz hbz (h.keep kk));have Hy:=Lh (fun w' (hb:Below w.heap.size w w')=>JI _ k w' bk hbk (h'.keep hb));have Kk:=Lh kk;have Hlz:=Lh hlz;have Hlk:=Lh hlk;have Ht:=Lh (fun w' (h:Below w.heap.size w w')=>Um ht h hw0);obtain⟨g,hg⟩:∃g,M6 z.natAbs k.natAbs=g:=⟨_,rfl⟩;have Hg:=Lh hg;rw[hg];clear hg;have Hs:=Lh (show Jk false g=(g:Int)by simp[Jk]);clear h h' kk hbz hbk hlz hlk ht;go_enter Tryz.func83,Tryz.ntmps83;go_wp2_with fail
 refine Hx.out.mono ?_;rintro e w1⟨A,n,c,xs,rfl,hx,h1⟩;have e1:w1.cell? ⟨w.heap.size+1,0,Jn⟩=Jo (Ji Jl b):=(h1.cell (p:=⟨w.heap.size+1,0,Jn⟩) (by simp)).trans (by simp[go_sem]);have e2:w1.cell? ⟨w.heap.size+1,1,Jn⟩=Jo (Jp (Jo ⟨p,0,Jn⟩)):=(h1.cell (p:=⟨w.heap.size+1,1,Jn⟩) (by simp)).trans (by simp[go_sem]);have K1:=Lh (Jd Kk.out h1);have R1:=Lh (Hr.out.keep h1);have Hnx:=Lh hx;clear h1 hx;go_wp2_with fail
 refine(Hy.out _ K1.out).mono ?_;rintro e w2⟨A',n',c',ys,rfl,hy,h2⟩;have Hnx2:=Lh (Hnx.out.keep h2);have Hny:=Lh hy;have K2:=Lh (Jd K1.out h2);have R2:=Lh (R1.out.keep h2);clear h2 hy e1 e2;have Hmul:=Lh (Of w2 Hnx2.out Hny.out Hlz.out Hlk.out (Ht.out _ K2.out) (M9 hw0 K2.out.size));go_wp2_with fail
 refine Hmul.out.mono ?_;rintro e w3⟨A3,n3,c3,zs,rfl,h3n,h3⟩;rw[Hg.out]at h3n;have K4:=Lh (Jd K2.out h3);have R4:=Lh (R2.out.keep h3);have Hsg:=Lh (JH false _ w3 h3n Hs.out);clear h3n h3;go_wp2_with fail
 refine Hsg.out.mono ?_;rintro e w5⟨a',P',rfl,hi5,h5⟩;have R5:=Lh (R4.out.keep h5);have Hi5:=Lh (hi5.stored R5.out (Ji Jl a') (Jp P'));have K5:=Lh (Jg (Jd K4.out h5) (show w.heap.size<=w.heap.size+2 by omega) (Ji Jl a') (Jp P'));have k0:=R5.out.k0;have k1:=R5.out.k1;have f0:=R5.out.f0;have f1:=R5.out.f1;clear hi5 h5;go_wp2;exact bodyPost_ret (v:=Ja #[Ji Jl a',Jp P']) (by simp[results,Tryz.results83,go_sem,k0,k1]) rfl ⟨a',P',rfl,Hi5.out,K5.out⟩
theorem KZ(w:JW)(s g:Nat)(hs:w.heap.size=s)(h0:0<g)(h1:g<18446744073709551616)(hz:Jk false g=(g:Int)) :
  Calls Tryz.prog 104 #[.slice (Jo ⟨s,0,Jn⟩) 1 1,.bool false] (w.alloc (Jc #[Ji .u64 (g:Int)] 139)) (Qt (g:Int) (w.alloc (Jc #[Ji .u64 (g:Int)] 139))):=by
 subst hs;exact JH false (g:Int) _ (ZK w h0 h1) hz
theorem Ly(a b:Int)(w:JW)(ha:I64 a)(hb:I64 b)(g:Nat)(hg:M6 a.natAbs b.natAbs=g)(hg1:9223372036854775807<g)(ht:YY w)(hw:TzG<w.heap.size) :
  Calls Tryz.prog 83 #[JP a,JP b] w (Qt (g:Int) w):=by
 have hg2:9223372036854775807<(g:Int):=by omega
 have hgl:g<18446744073709551616:=by
  rw[←hg];have h1:=Yq ha;have h2:=Yq hb;rcases Nat.eq_zero_or_pos a.natAbs with h0|h0
  ·rw[h0,Nat.gcd_zero_left];exact h2
  ·exact M7 (Nat.gcd_le_left _ h0) h1
 have Hg:=Lh hg;have Hx:=Lh (fun w' (h:Below w.heap.size w w')=>Um ht h hw);have Hs:=Lh (show Jk false g=(g:Int)by simp[Jk]);have Hone:=Lh (fun w' s hs=>KZ w' s g hs (show 0<g by omega) hgl Hs.out);have kk:=(((M0 w.heap.size w).alloc (M1 _) (Jc #[Ji Jl a,Jp Jn] 28)).alloc (by simp) (Jc #[Ji Jl b,Jp Jn] 28)).alloc (by simp;omega) (Jc #[Ji Jl 0,Jp Jn] 28);have Hr:=Lh (Res.new ((w.alloc (Jc #[Ji Jl a,Jp Jn] 28)).alloc (Jc #[Ji Jl b,Jp Jn] 28)));simp only[M3]at Hr;have Kk:=Lh kk;clear hg ht hg1 kk hgl;go_enter Tryz.func83,Tryz.ntmps83;go_wp2_with fail
 go_quiet ((first|(go_at_call 115;exact Calls.quiet_of_same (QG _ _ (by assumption)))|(go_at_call 114;exact Calls.quiet_of_same (UE _ _ g _ (Yq ha) (Yq hb) Hg.out (Hx.out _ (by repeat (first|exact M0 _ _|refine below_drewN ?_ _|refine Below.alloc ?_ (by first|exact M1 _|(simp <;> omega)) _)))))))
 go_wp2_with fail
 refine(Hone.out _ _ (by simp)).mono ?_;rintro e w5⟨a',P',rfl,hi5,h5⟩;have R5:=Lh (((Hr.out.keep (below_drewN (M0 _ _) _)).keep ((M0 _ _).alloc (M1 _) _)).keep h5);have Hi5:=Lh (hi5.stored R5.out (Ji Jl a') (Jp P'));have K5:=Lh (Jg (Jd (Jd (below_drewN Kk.out _) ((M0 _ _).alloc (M1 _) _)) h5) (show w.heap.size<=w.heap.size+2 by omega) (Ji Jl a') (Jp P'));have k0:=R5.out.k0;have k1:=R5.out.k1;have f0:=R5.out.f0;have f1:=R5.out.f1;clear hi5 h5;go_wp2;exact bodyPost_ret (v:=Ja #[Ji Jl a',Jp P']) (by simp[results,Tryz.results83,go_sem,k0,k1]) rfl ⟨a',P',rfl,Hi5.out,K5.out⟩
theorem YO(a b:Int)(P Q:Option Addr)(z k:Int)(w:JW)(h:Jq 0 w (Ja #[Ji Jl a,Jp P]) z)(h':Jq 0 w (Ja #[Ji Jl b,Jp Q]) k)(hlz:z.natAbs<base 400)(hlk:k.natAbs<base 400)(ht:YY w)(_hw:0<w.heap.size) :
  Calls Tryz.prog 83 #[Ja #[Ji Jl a,Jp P],Ja #[Ji Jl b,Jp Q]] w (Qt ((M6 z.natAbs k.natAbs:Nat):Int) w):=by
 have hw0:=NM ht;rcases h.ways with⟨hz,e⟩|⟨hz,p,e,_,_⟩
 ·obtain⟨rfl,rfl⟩:=YS e;rcases h'.ways with⟨hk,e'⟩|⟨hk,q,e',_,_⟩
  ·obtain⟨rfl,rfl⟩:=YS e';by_cases hs:M6 a.natAbs b.natAbs<=9223372036854775807
   ·refine(FY a b w hz hk _ rfl hs ht hw0).mono ?_;rintro e w' ⟨rfl,hb⟩;exact⟨_,Jn,rfl,.inl ⟨⟨by omega,by omega⟩,rfl⟩,hb⟩
   ·exact Ly a b w hz hk _ rfl (by omega) ht hw0
  ·obtain⟨rfl,rfl⟩:b=0/\Q=Jo ⟨q,0,Jn⟩:=by simpa using e'
   exact FZ a 0 q a k w h h' hlz hlk ht hw0
 ·obtain⟨rfl,rfl⟩:a=0/\P=Jo ⟨p,0,Jn⟩:=by simpa using e
  exact Da 0 b p Q z k w h h' hlz hlk ht hw0
def Jj(q:Rat):ByteArray:=if q.den=1 then txt q.num else txt q.num ++ ⟨#[47]⟩ ++ txt (q.den:Int)
theorem GO(q:Rat):sgn (denZ q.den)=if q.den=1 then 0 else 1:=by
 have:=q.den_pos;unfold sgn denZ;by_cases h:q.den=1
 ·rw[if_pos h,if_pos h];rfl
 ·rw[if_neg h,if_neg h,if_neg (by omega),if_pos (by omega)]
theorem Qb(w:JW)(a:Int)(P:Option Addr)(b:Int)(Q:Option Addr):Jh (w.alloc (Jc #[Ji Jl a,Jp P,Ji Jl b,Jp Q] 30)) w.heap.size [Ji Jl a,Jp P,Ji Jl b,Jp Q]:=Jh.new w _ _
theorem YP(a:Int)(P:Option Addr)(b:Int)(Q:Option Addr)(q:Rat)(w:JW)(h:RatV w a P b Q q) :
  Calls Tryz.prog 65 #[Ja #[Ji Jl a,Jp P,Ji Jl b,Jp Q]] w (Qt (q.den:Int) w):=by
 have kk:=((M0 w.heap.size w).alloc (M1 _) (Jc #[Ji Jl a,Jp P,Ji Jl b,Jp Q] 30)).alloc (by simp) (Jc #[Ji Jl 0,Jp Jn] 28);have R:=Lh (Jh.new (w.alloc (Jc #[Ji Jl a,Jp P,Ji Jl b,Jp Q] 30)) #[Ji Jl 0,Jp Jn] 28);have V:=Lh ((Qb w a P b Q).keep ((M0 _ _).alloc (M1 _) (Jc #[Ji Jl 0,Jp Jn] 28)));simp only[M3]at R;have Hd:=Lh (h.den.keep kk);have Hs:=Lh (Yc _ (denZ q.den) _ (h.den.keep kk));rw[GO]at Hs;have Kk:=Lh kk;clear h kk;by_cases hd:q.den=1
 ·rw[if_pos hd]at Hs;rw[hd];have Hd1:=Lh hd;clear hd;go_enter Tryz.func65,Tryz.ntmps65;go_wp2_with fail
  refine Hs.out.mono ?_;rintro e w1⟨rfl,h1⟩;have R:=Lh (R.out.keep h1);have K1:=Lh (Jd Kk.out h1);clear h1;go_wp2_with fail
  refine(YX _ _).mono ?_;rintro e w2⟨rfl,h2⟩;have R:=Lh (R.out.keep h2);have K2:=Lh (YI (Jd K1.out h2) (show w.heap.size<=w.heap.size+1 by omega) (Ji Jl 1) (Jp Jn));have k0:=R.out.c0;have k1:=R.out.c1;have f0:=R.out.fz 0;have f1:=R.out.fz 1;clear h2;go_wp2;exact bodyPost_ret (v:=Ja #[Ji Jl 1,Jp Jn]) (by simp[results,Tryz.results65,go_sem,k0,k1]) rfl ⟨1,Jn,rfl,Q3 ⟨by decide,by decide⟩,K2.out⟩
 ·rw[if_neg hd]at Hs;have Hd1:=Lh hd;clear hd;go_enter Tryz.func65,Tryz.ntmps65;go_wp2_with fail
  refine Hs.out.mono ?_;rintro e w1⟨rfl,h1⟩;have R:=Lh (R.out.keep h1);have V:=Lh (V.out.keep h1);have K1:=Lh (YI (Jd Kk.out h1) (show w.heap.size<=w.heap.size+1 by omega) (Ji Jl b) (Jp Q));have Hn:=Lh ((Hd.out.keep h1).wrote R.out (by rfl) (Qy _ (w.heap.size+1) (Ji Jl b) (Jp Q)).1 (Qy _ _ _ _).2);have k0:=R.out.c0;have k1:=R.out.c1;have f0:=R.out.fz 0;have f1:=R.out.fz 1;have c2:=V.out.c2;have c3:=V.out.c3;clear h1;go_wp2;exact bodyPost_ret (v:=Ja #[Ji Jl b,Jp Q]) (by simp[results,Tryz.results65,go_sem,k0,k1]) rfl ⟨b,Q,rfl,by have:=Hn.out;rwa [XN Hd1.out]at this,K1.out⟩
theorem X0(a:Int)(P:Option Addr)(b:Int)(Q:Option Addr)(q:Rat)(w:JW)(h:RatV w a P b Q q)(hn:q.num.natAbs<ten 3000)(hdl:q.den<ten 3000)(hg:Good w) :
  Calls Tryz.prog 36 #[Ja #[Ji Jl a,Jp P,Ji Jl b,Jp Q]] w fun e w'=>e= .returned (.string (Jj q))/\Below w.heap.size w w':=by
 have kk:=(M0 w.heap.size w).alloc (M1 _) (Jc #[Ji Jl a,Jp P,Ji Jl b,Jp Q] 30);have V:=Lh (Qb w a P b Q);have Hv:=Lh (h.keep kk);have Hs:=Lh (Yc _ (denZ q.den) _ (h.den.keep kk));rw[GO]at Hs;have Kk:=Lh kk;have Hw:=Lh (fun w' (hb:Below w.heap.size w w')=>(hg.below hb).1);clear h kk hg;by_cases hd:q.den=1
 ·rw[if_pos hd]at Hs;have Hq:=Lh (show Jj q=txt q.num by unfold Jj;rw[if_pos hd]);rw[Hq.out];clear hd hn hdl;obtain⟨T,hT⟩:∃T,txt q.num=T:=⟨_,rfl⟩;rw[hT];have HT0:=Lh hT;clear hT;go_enter Tryz.func36,Tryz.ntmps36;go_wp2_with fail
  refine Hs.out.mono ?_;rintro e w1⟨rfl,h1⟩;have V:=Lh (V.out.keep h1);have K1:=Lh (Jd Kk.out h1);have HT:=Lh (show Calls Tryz.prog 79 _ w1 (fun e w2=>e= .returned (.string (txt q.num))/\Below w1.heap.size w1 w2)from VQ _ q.num w1 (Hv.out.keep h1).num (Hw.out _ K1.out));have c0:=V.out.c0;have c1:=V.out.c1;rw[HT0.out]at HT;clear h1;go_wp2_with fail
  refine HT.out.mono ?_;rintro e w2⟨rfl,h2⟩;have K2:=Lh (Jd K1.out h2);clear h2;go_wp2;go_ret;exact⟨rfl,K2.out⟩
 ·rw[if_neg hd]at Hs;have Hq:=Lh (show Jj q=txt q.num ++ ⟨#[47]⟩ ++ txt (q.den:Int)by unfold Jj;rw[if_neg hd]);rw[Hq.out];have s1:=QY q.num hn (by decide);have s2:=QY (q.den:Int) (k:=3000) (by rw[M4];exact hdl) (by decide);have Hd1:=Lh hd;clear hd hn hdl;obtain⟨T,hT⟩:∃T,txt q.num=T:=⟨_,rfl⟩;obtain⟨U,hU⟩:∃U,txt (q.den:Int)=U:=⟨_,rfl⟩;rw[hT]at s1 ⊢;rw[hU]at s2 ⊢;have HT:=Lh hT;have HU:=Lh hU;clear hT hU;go_enter Tryz.func36,Tryz.ntmps36;go_wp2_with fail
  refine Hs.out.mono ?_;rintro e w1⟨rfl,h1⟩;have V:=Lh (V.out.keep h1);have Hv:=Lh (Hv.out.keep h1);have K1:=Lh (Jd Kk.out h1);have HA:=Lh (fun w' (hb:Below w1.heap.size w1 w')=>show Calls Tryz.prog 79 _ w' (fun e w2=>e= .returned (.string (txt q.num))/\Below w'.heap.size w' w2)from VQ _ q.num w' (Hv.out.keep hb).num (Hw.out _ (Jd K1.out hb)));have HB:=Lh (fun w' (hb:Below w1.heap.size w1 w')=>show Calls Tryz.prog 79 _ w' (fun e w2=>e= .returned (.string (txt (q.den:Int)))/\Below w'.heap.size w' w2) from by
   have:=VQ _ (denZ q.den) w' (Hv.out.keep hb).den (Hw.out _ (Jd K1.out hb))
   rwa [XN Hd1.out] at this)
  simp only[HT.out]at HA;simp only[HU.out]at HB;have cat1:∀W:JW,(Op.stringOp .add T ⟨#[47]⟩).run Tryz.prog W= .ok (.string (T ++ ⟨#[47]⟩)) W:=fun W=>run_string_add_sum W _ _ (by show T.size+1<=_;omega);have cat2:∀W:JW,(Op.stringOp .add (T ++ ⟨#[47]⟩) U).run Tryz.prog W= .ok (.string (T ++ ⟨#[47]⟩ ++ U)) W:=fun W=>run_string_add_sum W _ _ (by rw[ByteArray.size_append];show T.size+1+U.size<=_;omega);have HS:=Lh (fun w' (hb:Below w1.heap.size w1 w')=>(⟨(V.out.keep hb).c0,(V.out.keep hb).c1,(V.out.keep hb).c2,(V.out.keep hb).c3,hb⟩:w'.cell? ⟨w.heap.size,0,Jn⟩=Jo (Ji Jl a)/\w'.cell? ⟨w.heap.size,1,Jn⟩=Jo (Jp P)/\w'.cell? ⟨w.heap.size,2,Jn⟩=Jo (Ji Jl b)/\w'.cell? ⟨w.heap.size,3,Jn⟩=Jo (Jp Q)/\Below w1.heap.size w1 w'));clear h1;go_wp2_with fail
  go_region_held3 (fun w'=>w'.cell? ⟨w.heap.size,0,Jn⟩=Jo (Ji Jl a)/\w'.cell? ⟨w.heap.size,1,Jn⟩=Jo (Jp P)/\w'.cell? ⟨w.heap.size,2,Jn⟩=Jo (Ji Jl b)/\w'.cell? ⟨w.heap.size,3,Jn⟩=Jo (Jp Q)/\Below w1.heap.size w1 w')
   (first
    | assumption
    | exact HS.out _ (M0 _ _).drew)
   (first
    |(go_at_call_of 79 P;refine(HA.out _ (M2 (M2 (M2 (M2 (by assumption)))))).mono ?_;rintro e w' ⟨rfl,hb⟩;have hk1:=HS.out _ (Jd (M2 (M2 (M2 (M2 (by assumption))))) hb))
    | (go_at_call_of 79 Q; refine (HB.out _ (M2 (M2 (M2 (M2 (by assumption)))))).mono ?_; rintro e w' ⟨rfl,hb⟩; have hk2:=HS.out _ (Jd (M2 (M2 (M2 (M2 (by assumption))))) hb)))
  all_goals
   go_split_ands
   have hfin:Below w1.heap.size w1 w':=by assumption
   have Hfin:=Lh (Jd K1.out hfin);clear hfin;go_wp2;go_ret;exact⟨rfl,Hfin.out⟩
theorem Vx{z g q r:Int}(hg:0<g)(h:DM z g q r):q=z/g:=by
 obtain⟨h1,h2⟩:=h;have hr:0<=r/\r<g:=by omega
 rw[h1,Int.add_comm,Int.add_mul_ediv_right _ _ (by omega),Int.ediv_eq_zero_of_lt hr.1 hr.2,Int.zero_add]
theorem Qa(a:Int)(P:Option Addr)(b:Int)(Q:Option Addr)(z g:Int)(w:JW)(h:Jq 0 w (Ja #[Ji Jl a,Jp P]) z)(h':Jq 0 w (Ja #[Ji Jl b,Jp Q]) g)(hg:0<g)(hlz:z.natAbs<base 390)(hlg:g.natAbs<base 390) :
  Calls Tryz.prog 94 #[Ja #[Ji Jl a,Jp P],Ja #[Ji Jl b,Jp Q]] w (Qt (z/g) w):=by
 have kk:=(((M0 w.heap.size w).alloc (M1 _) (Jc #[Ji Jl a,Jp P] 28)).alloc (by simp) (Jc #[Ji Jl b,Jp Q] 28)).alloc (by simp;omega) (Jc #[Ji Jl 0,Jp Jn] 28);have V0:=Lh (((Jh.new w #[Ji Jl a,Jp P] 28).keep ((M0 _ _).alloc (M1 _) (Jc #[Ji Jl b,Jp Q] 28))).keep ((M0 _ _).alloc (M1 _) (Jc #[Ji Jl 0,Jp Jn] 28)));have V1:=Lh ((Jh.new (w.alloc (Jc #[Ji Jl a,Jp P] 28)) #[Ji Jl b,Jp Q] 28).keep ((M0 _ _).alloc (M1 _) (Jc #[Ji Jl 0,Jp Jn] 28)));have R:=Lh (Jh.new ((w.alloc (Jc #[Ji Jl a,Jp P] 28)).alloc (Jc #[Ji Jl b,Jp Q] 28)) #[Ji Jl 0,Jp Jn] 28);simp only[M3]at V1 R;have Hz:=Lh (h.keep kk);have Hone:=Lh (Ul b Q g _ (h'.keep kk));have HD:=Lh (fun w' (hb:Below w.heap.size w w')=>On a b P Q z g w' (h.keep hb) (h'.keep hb) (by omega) hlz hlg);have Kk:=Lh kk;have Hg:=Lh hg;clear h h' kk hg hlz hlg;by_cases h1:g=1
 ·rw[decide_eq_true h1]at Hone;have Hfin:=Lh (show z/g=z by rw[h1,Int.ediv_one]);rw[Hfin.out];clear h1;go_enter Tryz.func94,Tryz.ntmps94;go_wp2_with fail
  refine Hone.out.mono ?_;rintro e w1⟨rfl,h1⟩;have V0:=Lh (V0.out.keep h1);have R:=Lh (R.out.keep h1);have Hn:=Lh ((Hz.out.keep h1).wrote R.out (by rfl) (Qy _ (w.heap.size+1+1) (Ji Jl a) (Jp P)).1 (Qy _ _ _ _).2);have K1:=Lh (YI (Jd Kk.out h1) (show w.heap.size<=w.heap.size+1+1 by omega) (Ji Jl a) (Jp P));clear h1;have c0:=V0.out.c0;have c1:=V0.out.c1;have k0:=R.out.c0;have k1:=R.out.c1;have f0:=R.out.fz 0;have f1:=R.out.fz 1;go_wp2;exact bodyPost_ret (v:=Ja #[Ji Jl a,Jp P]) (by simp[results,Tryz.results94,go_sem,k0,k1]) rfl ⟨a,P,rfl,Hn.out,K1.out⟩
 ·rw[decide_eq_false h1]at Hone;clear h1;go_enter Tryz.func94,Tryz.ntmps94;go_wp2_with fail
  refine Hone.out.mono ?_;rintro e w1⟨rfl,h1⟩;have V0:=Lh (V0.out.keep h1);have V1:=Lh (V1.out.keep h1);have R:=Lh (R.out.keep h1);have K1:=Lh (Jd Kk.out h1);clear h1;have c0:=V0.out.c0;have c1:=V0.out.c1;have d0:=V1.out.c0;have d1:=V1.out.c1;go_wp2_with fail
  refine(HD.out _ K1.out).mono ?_;rintro e n1⟨qa,qP,ra,rP,q,r,rfl,hi,hj,hdm,g1⟩;have hq:=Vx Hg.out hdm;have k3:=((M0 n1.heap.size n1).alloc (M1 _) (Jc #[Ji Jl qa,Jp qP] 28)).alloc (by simp) (Jc #[Ji Jl ra,Jp rP] 28);have R:=Lh ((R.out.keep g1).keep k3);have Hn:=Lh ((hi.keep k3).wrote R.out (by rfl) (Qy _ (w.heap.size+1+1) (Ji Jl qa) (Jp qP)).1 (Qy _ _ _ _).2);have K2:=Lh (YI (Jd (Jd K1.out g1) k3) (show w.heap.size<=w.heap.size+1+1 by omega) (Ji Jl qa) (Jp qP));rw[hq]at Hn;clear g1 hi hj hdm hq k3 c0 c1 d0 d1;have k0:=R.out.c0;have k1:=R.out.c1;have f0:=R.out.fz 0;have f1:=R.out.fz 1;go_wp2;exact bodyPost_ret (v:=Ja #[Ji Jl qa,Jp qP]) (by simp[results,Tryz.results94,go_sem,k0,k1]) rfl ⟨qa,qP,rfl,Hn.out,K2.out⟩
def Made(q:Rat)(w:JW)(e:Ending)(w':JW):Prop:=
 ∃(a:Int) (P:Option Addr) (b:Int) (Q:Option Addr),e= .returned (.tuple #[Ja #[Ji Jl a,Jp P,Ji Jl b,Jp Q],Ji Jl 0])/\RatV w' a P b Q q/\Below w.heap.size w w'
theorem Lp(a:Int)(P:Option Addr)(b:Int)(Q:Option Addr)(z:Int)(kn:Nat)(w:JW)(h:Jq 0 w (Ja #[Ji Jl a,Jp P]) z)(h':Jq 0 w (Ja #[Ji Jl b,Jp Q]) (kn:Int))(hkp:0<kn)(hlz:z.natAbs<base 390)(hlk:((kn:Nat):Int).natAbs<base 390)(hg:Good w) :
  Calls Tryz.prog 87 #[Ja #[Ji Jl a,Jp P],Ja #[Ji Jl b,Jp Q]] w (Made (M8 z kn) w):=by
 have kk:=(((M0 w.heap.size w).alloc (M1 _) (Jc #[Ji Jl a,Jp P] 28)).alloc (by simp) (Jc #[Ji Jl b,Jp Q] 28)).alloc (by simp;omega) (Jc #[Ji Jl 0,Jp Jn,Ji Jl 0,Jp Jn] 30);have V0:=Lh (((Jh.new w #[Ji Jl a,Jp P] 28).keep ((M0 _ _).alloc (M1 _) (Jc #[Ji Jl b,Jp Q] 28))).keep ((M0 _ _).alloc (M1 _) (Jc #[Ji Jl 0,Jp Jn,Ji Jl 0,Jp Jn] 30)));have V1:=Lh ((Jh.new (w.alloc (Jc #[Ji Jl a,Jp P] 28)) #[Ji Jl b,Jp Q] 28).keep ((M0 _ _).alloc (M1 _) (Jc #[Ji Jl 0,Jp Jn,Ji Jl 0,Jp Jn] 30)));have R:=Lh (Jh.new ((w.alloc (Jc #[Ji Jl a,Jp P] 28)).alloc (Jc #[Ji Jl b,Jp Q] 28)) #[Ji Jl 0,Jp Jn,Ji Jl 0,Jp Jn] 30);simp only[M3]at V1 R;have Hz:=Lh (h.keep kk);have Hk:=Lh (h'.keep kk);have Hs:=Lh (Yc _ (kn:Int) _ (h'.keep kk));rw[show sgn (kn:Int)=1 by unfold sgn;rw[if_neg (by omega),if_pos (by omega)]]at Hs;have Kk:=Lh kk;have Lz:=Lh hlz;have Lk:=Lh hlk;have Hkp:=Lh hkp;have Hw:=Lh (fun w' (hb:Below w.heap.size w w')=>hg.below hb);obtain⟨qt,hqt⟩:∃q,M8 z kn=q:=⟨_,rfl⟩;rw[hqt];have Hqt:=Lh hqt.symm;have d0:=V1.out.c0;have d1:=V1.out.c1;clear h h' kk hkp hlz hlk hg hqt;go_enter Tryz.func87,Tryz.ntmps87;go_wp2_with fail
 refine Hs.out.mono ?_;rintro e wt⟨rfl,h1⟩;have V0:=Lh (V0.out.keep h1);have V1:=Lh (V1.out.keep h1);have R:=Lh (R.out.keep h1);have Hz:=Lh (Hz.out.keep h1);have Hk:=Lh (Hk.out.keep h1);have Kt:=Lh (Jd Kk.out h1);clear h1 d0 d1;have HG:=Lh (YO a b P Q z (kn:Int) wt Hz.out Hk.out (Jw Lz.out (by decide)) (Jw Lk.out (by decide)) (Hw.out _ Kt.out).2 (M7 (Nat.zero_le _) V0.out.lt));rw[M4]at HG;obtain⟨g,hge⟩:∃g,M6 (z).natAbs kn=g:=⟨_,rfl⟩;rw[hge]at HG;obtain⟨hqn,hqd⟩:=Q9 (n:=z) (k:=kn) Hkp.out;rw[hge]at hqn hqd;have hgp:0<g:=by rw[←hge];exact Nat.gcd_pos_of_pos_right _ Hkp.out
 have hgl:g<base 390:=by rw[←hge];exact M7 (Nat.gcd_le_right _ Hkp.out) (by have:=Lk.out;rwa [M4]at this)
 have Hqn:=Lh hqn;have Hqd:=Lh (show(((M8 z kn).den:Nat):Int)=(kn:Int)/(g:Int)by rw[hqd];exact Int.natCast_ediv _ _);have Hgp:=Lh hgp;have Hgl:=Lh (show((g:Nat):Int).natAbs<base 390 by rw[M4];exact hgl);obtain⟨q,hqq⟩:∃q,M8 z kn=q:=⟨_,rfl⟩;rw[hqq]at Hqn Hqd Hqt;clear hge hqn hqd hgp hgl hqq;have c0:=V0.out.c0;have c1:=V0.out.c1;have d0:=V1.out.c0;have d1:=V1.out.c1;go_wp2_with fail
 refine HG.out.mono ?_;rintro e n1⟨ga,gP,rfl,hig,g1⟩;have k3:=(M0 n1.heap.size n1).alloc (M1 _) (Jc #[Ji Jl ga,Jp gP] 28);have G0:=Lh (Jh.new n1 #[Ji Jl ga,Jp gP] 28);have V0:=Lh ((V0.out.keep g1).keep k3);have V1:=Lh ((V1.out.keep g1).keep k3);have R:=Lh ((R.out.keep g1).keep k3);have Hz:=Lh ((Hz.out.keep g1).keep k3);have Hk:=Lh ((Hk.out.keep g1).keep k3);have Hig:=Lh (hig.keep k3);have Ku:=Lh (Jd (Jd Kt.out g1) k3);obtain⟨pg,hpg⟩:∃p,n1.heap.size=p:=⟨_,rfl⟩;obtain⟨wu,hwu⟩:∃wu,n1.alloc (Jc #[Ji Jl ga,Jp gP] 28)=wu:=⟨_,rfl⟩;rw[hwu]at G0 V0 V1 R Hz Hk Hig Ku;rw[hpg]at G0;clear g1 hig k3 c0 c1 d0 d1;have HS:=Lh (fun v (hb:Below wu.heap.size wu v)=>(⟨(V0.out.keep hb).c0,(V0.out.keep hb).c1,(V1.out.keep hb).c0,(V1.out.keep hb).c1,(G0.out.keep hb).c0,(G0.out.keep hb).c1⟩:v.cell? ⟨w.heap.size,0,Jn⟩=Jo (Ji Jl a)/\v.cell? ⟨w.heap.size,1,Jn⟩=Jo (Jp P)/\v.cell? ⟨w.heap.size+1,0,Jn⟩=Jo (Ji Jl b)/\v.cell? ⟨w.heap.size+1,1,Jn⟩=Jo (Jp Q)/\v.cell? ⟨pg,0,Jn⟩=Jo (Ji Jl ga)/\v.cell? ⟨pg,1,Jn⟩=Jo (Jp gP)));have HA:=Lh (fun v (hb:Below wu.heap.size wu v)=>Qa a P ga gP z (g:Int) v (Hz.out.keep hb) (Hig.out.keep hb) (by have:=Hgp.out;omega) Lz.out Hgl.out);have HB:=Lh (fun v (hb:Below wu.heap.size wu v)=>Qa b Q ga gP (kn:Int) (g:Int) v (Hk.out.keep hb) (Hig.out.keep hb) (by have:=Hgp.out;omega) Lk.out Hgl.out);go_wp2_with fail
 try simp only[hpg,hwu]
 clear hpg hwu;refine Till.begin 7 (fun v=>v.cell? ⟨w.heap.size,0,Jn⟩=Jo (Ji Jl a)/\v.cell? ⟨w.heap.size,1,Jn⟩=Jo (Jp P)/\v.cell? ⟨w.heap.size+1,0,Jn⟩=Jo (Ji Jl b)/\v.cell? ⟨w.heap.size+1,1,Jn⟩=Jo (Jp Q)/\v.cell? ⟨pg,0,Jn⟩=Jo (Ji Jl ga)/\v.cell? ⟨pg,1,Jn⟩=Jo (Jp gP)) (by kernel_rfl) (HS.out _ (M0 _ _).drew) (fun hH=>?_);refine Till.tk 0 2 21 (Ja #[Ji Jl a,Jp P]) hH ?_;try simp only[M5,Pls]
 refine Till.tk 1 2 22 (Ja #[Ji Jl ga,Jp gP]) hH ?_;try simp only[M5,Pls]
 refine Till.tk 3 5 24 (Ja #[Ji Jl b,Jp Q]) hH ?_;try simp only[M5,Pls]
 refine Till.tk 4 5 25 (Ja #[Ji Jl ga,Jp gP]) hH ?_;try simp only[M5,Pls]
 clear hH;refine Till.one (i:=2) (by kernel_rfl) rfl (fun K hK=>?_);go_simp;refine(HA.out _ (M0 _ _).drew).mono ?_;rintro e v1⟨xa,xP,rfl,hx,g1⟩;have B1:=Lh (Jd (M0 wu.heap.size wu).drew g1);have Hx1:=Lh hx;clear g1 hx;go_wp2_with fail
 refine hK.out _ _ (fun _=>HS.out _ B1.out) ?_;clear hK K;try simp only[M5,Pls]
 refine Till.one (i:=5) (by kernel_rfl) rfl (fun K hK=>?_);go_simp;refine(HB.out _ B1.out).mono ?_;rintro e v2⟨ya,yP,rfl,hy,g2⟩;have B2:=Lh (Jd B1.out g2);have Hx2:=Lh (Hx1.out.keep g2);have Hy2:=Lh hy;rw[←Hqn.out]at Hx2;rw[←Hqd.out]at Hy2;clear g2 hy;have HO:=Lh (ZM xa xP ya yP q v2 Hx2.out Hy2.out);go_wp2_with fail
 refine hK.out _ _ (fun _=>HS.out _ B2.out) ?_;clear hK K;try simp only[M5,Pls]
 refine Till.one (i:=6) (by kernel_rfl) rfl (fun K hK=>?_);go_simp;refine(HO.out).mono ?_;rintro e v3⟨oa,oP,ob,oQ,rfl,ho,g3⟩;have B3:=Lh (Jd B2.out g3);have Ho:=Lh ho;clear g3 ho;go_wp2_with fail
 refine hK.out _ _ (fun _=>HS.out _ B3.out) ?_;clear hK K;try simp only[M5,Pls]
 have R:=Lh (R.out.keep B3.out);have k0:=R.out.c0;have k1:=R.out.c1;have k2:=R.out.c2;have k3:=R.out.c3;have f0:=R.out.fz 0;have f1:=R.out.fz 1;have f2:=R.out.fz 2;have f3:=R.out.fz 3;refine Till.one (i:=7) (by kernel_rfl) rfl (fun K hK=>?_);go_simp;refine hK.out _ _ (fun h=>absurd h (by simp)) ?_;clear hK K;try simp only[M5,Pls]
 refine Till.one (i:=8) (by kernel_rfl) rfl (fun K hK=>?_);go_simp;refine hK.out _ _ (fun h=>absurd h (by simp)) ?_;clear hK K;try simp only[M5,Pls]
 refine Till.done (by kernel_rfl) ?_ _;have Hfin:=Lh (Ho.out.wrote R.out (by rfl) (Jr v3 (w.heap.size+1+1) (Ji Jl oa) (Jp oP) (Ji Jl ob) (Jp oQ)).1 (Jr _ _ _ _ _ _).2);have Kf:=Lh (JA (Jd Ku.out B3.out) (show w.heap.size<=w.heap.size+1+1 by omega) (Ji Jl oa) (Jp oP) (Ji Jl ob) (Jp oQ));go_wp2;exact bodyPost_ret (v:= .tuple #[Ja #[Ji Jl oa,Jp oP,Ji Jl ob,Jp oQ],Ji Jl 0]) (by simp[results,Tryz.results87,go_sem,k0,k1,k2,k3]) rfl ⟨oa,oP,ob,oQ,rfl,by rw[Hqt.out];exact Hfin.out,Kf.out⟩
