/- C14: RatB RatG RatK RatC -/
import Derived.Test.YthhobhjcnmmipaaGreatDoorC08
import Derived.Deep.RegionHeld3
import Derived.Test.YthhobhjcnmmipaaGreatDoorC12
import Derived.Test.YthhobhjcnmmipaaGreatDoorC13
import Derived.Test.YthhobhjcnmmipaaGreatDoorC10
set_option maxRecDepth 100000
set_option maxHeartbeats 16000000
namespace Go.Proofs.YthhobhjcnmmipaaGreatDoor
open Go.Value renaming pointer→Jp,int→Ji,agg→Ja
open Go.IntKind renaming i64→Jl
open Go.Obj renaming cells→Jc
open _root_.Option renaming none→Jn,some→Jo
open Go renaming World→JW
open Go.RowKit.Below renaming refl→E4
open _root_.Nat renaming le_refl→E5,lt_of_le_of_lt→EY,gcd_pos_of_pos_right→F0,gcd_le_right→Fa,zero_le→Fc,gcd→Fe
open Go.Act renaming put→E6
open _root_.Int renaming natAbs_natCast→E7,natCast_ediv→Fb
open _root_.And renaming right→E8
open _root_.Rat renaming divInt→E9
open Go.World renaming size_alloc→EZ
open Go.RowKit
def Qs(q:Rat):ByteArray:=if q.den=1 then txt q.num else txt q.num ++ ⟨#[47]⟩ ++ txt (q.den:Int)
theorem XF(q:Rat):sgn (denZ q.den)=if q.den=1 then 0 else 1:=by
 have:=q.den_pos;unfold sgn denZ;by_cases h:q.den=1
 ·rw[if_pos h,if_pos h];rfl
 ·rw[if_neg h,if_neg h,if_neg (by omega),if_pos (by omega)]
theorem Qd(w:JW)(a:Int)(P:Option Addr)(b:Int)(Q:Option Addr):Jh (w.alloc (Jc #[Ji Jl a,Jp P,Ji Jl b,Jp Q] 31)) w.heap.size [Ji Jl a,Jp P,Ji Jl b,Jp Q]:=Jh.new w _ _
theorem QU(a:Int)(P:Option Addr)(b:Int)(Q:Option Addr)(q:Rat)(w:JW)(h:RatV w a P b Q q) :
  Calls Tryz.prog 73 #[Ja #[Ji Jl a,Jp P,Ji Jl b,Jp Q]] w (Qb (q.den:Int) w):=by
 have kk:=((E4 w.heap.size w).alloc (E5 _) (Jc #[Ji Jl a,Jp P,Ji Jl b,Jp Q] 31)).alloc (by simp) (Jc #[Ji Jl 0,Jp Jn] 29);have R:=Lh (Jh.new (w.alloc (Jc #[Ji Jl a,Jp P,Ji Jl b,Jp Q] 31)) #[Ji Jl 0,Jp Jn] 29);have V:=Lh ((Qd w a P b Q).keep ((E4 _ _).alloc (E5 _) (Jc #[Ji Jl 0,Jp Jn] 29)));simp only[EZ]at R;have Hd:=Lh (h.den.keep kk);have Hs:=Lh (QA _ (denZ q.den) _ (h.den.keep kk));rw[XF]at Hs;have Kk:=Lh kk;clear h kk;by_cases hd:q.den=1
 ·rw[if_pos hd]at Hs;rw[hd];have Hd1:=Lh hd;clear hd;go_enter Tryz.func73,Tryz.ntmps73;go_wp2_with fail
  refine Hs.out.mono ?_;rintro e w1⟨rfl,h1⟩;have R:=Lh (R.out.keep h1);have K1:=Lh (Jd Kk.out h1);clear h1;go_wp2_with fail
  refine(Ye _ _).mono ?_;rintro e w2⟨rfl,h2⟩;have R:=Lh (R.out.keep h2);have K2:=Lh (Q3 (Jd K1.out h2) (show w.heap.size<=w.heap.size+1 by omega) (Ji Jl 1) (Jp Jn));have k0:=R.out.c0;have k1:=R.out.c1;have f0:=R.out.fz 0;have f1:=R.out.fz 1;clear h2;go_wp2;exact bodyPost_ret (v:=Ja #[Ji Jl 1,Jp Jn]) (by simp[results,Tryz.results73,go_sem,k0,k1]) rfl ⟨1,Jn,rfl,QH ⟨by decide,by decide⟩,K2.out⟩
 ·rw[if_neg hd]at Hs;have Hd1:=Lh hd;clear hd;go_enter Tryz.func73,Tryz.ntmps73;go_wp2_with fail
  refine Hs.out.mono ?_;rintro e w1⟨rfl,h1⟩;have R:=Lh (R.out.keep h1);have V:=Lh (V.out.keep h1);have K1:=Lh (Q3 (Jd Kk.out h1) (show w.heap.size<=w.heap.size+1 by omega) (Ji Jl b) (Jp Q));have Hn:=Lh ((Hd.out.keep h1).wrote R.out (by rfl) (Qe _ (w.heap.size+1) (Ji Jl b) (Jp Q)).1 (Qe _ _ _ _).2);have k0:=R.out.c0;have k1:=R.out.c1;have f0:=R.out.fz 0;have f1:=R.out.fz 1;have c2:=V.out.c2;have c3:=V.out.c3;clear h1;go_wp2;exact bodyPost_ret (v:=Ja #[Ji Jl b,Jp Q]) (by simp[results,Tryz.results73,go_sem,k0,k1]) rfl ⟨b,Q,rfl,by have:=Hn.out;rwa [UO Hd1.out]at this,K1.out⟩
theorem Uy(a:Int)(P:Option Addr)(b:Int)(Q:Option Addr)(q:Rat)(w:JW)(h:RatV w a P b Q q)(hn:q.num.natAbs<ten 3000)(hdl:q.den<ten 3000)(hg:Good w) :
  Calls Tryz.prog 58 #[Ja #[Ji Jl a,Jp P,Ji Jl b,Jp Q]] w fun e w'=>e= .returned (.string (Qs q))/\Below w.heap.size w w':=by
 have kk:=(E4 w.heap.size w).alloc (E5 _) (Jc #[Ji Jl a,Jp P,Ji Jl b,Jp Q] 31);have V:=Lh (Qd w a P b Q);have Hv:=Lh (h.keep kk);have Hs:=Lh (QA _ (denZ q.den) _ (h.den.keep kk));rw[XF]at Hs;have Kk:=Lh kk;have Hw:=Lh (fun w' (hb:Below w.heap.size w w')=>(hg.below hb).1);clear h kk hg;by_cases hd:q.den=1
 ·rw[if_pos hd]at Hs;have Hq:=Lh (show Qs q=txt q.num by unfold Qs;rw[if_pos hd]);rw[Hq.out];clear hd hn hdl;obtain⟨T,hT⟩:∃T,txt q.num=T:=⟨_,rfl⟩;rw[hT];have HT0:=Lh hT;clear hT;go_enter Tryz.func58,Tryz.ntmps58;go_wp2_with fail
  refine Hs.out.mono ?_;rintro e w1⟨rfl,h1⟩;have V:=Lh (V.out.keep h1);have K1:=Lh (Jd Kk.out h1);have HT:=Lh (show Calls Tryz.prog 90 _ w1 (fun e w2=>e= .returned (.string (txt q.num))/\Below w1.heap.size w1 w2)from U4 _ q.num w1 (Hv.out.keep h1).num (Hw.out _ K1.out));have c0:=V.out.c0;have c1:=V.out.c1;rw[HT0.out]at HT;clear h1;go_wp2_with fail
  refine HT.out.mono ?_;rintro e w2⟨rfl,h2⟩;have K2:=Lh (Jd K1.out h2);clear h2;go_wp2;go_ret;exact⟨rfl,K2.out⟩
 ·rw[if_neg hd]at Hs;have Hq:=Lh (show Qs q=txt q.num ++ ⟨#[47]⟩ ++ txt (q.den:Int)by unfold Qs;rw[if_neg hd]);rw[Hq.out];have s1:=XA q.num hn (by decide);have s2:=XA (q.den:Int) (k:=3000) (by rw[E7];exact hdl) (by decide);have Hd1:=Lh hd;clear hd hn hdl;obtain⟨T,hT⟩:∃T,txt q.num=T:=⟨_,rfl⟩;obtain⟨U,hU⟩:∃U,txt (q.den:Int)=U:=⟨_,rfl⟩;rw[hT]at s1 ⊢;rw[hU]at s2 ⊢;have HT:=Lh hT;have HU:=Lh hU;clear hT hU;go_enter Tryz.func58,Tryz.ntmps58;go_wp2_with fail
  refine Hs.out.mono ?_;rintro e w1⟨rfl,h1⟩;have V:=Lh (V.out.keep h1);have Hv:=Lh (Hv.out.keep h1);have K1:=Lh (Jd Kk.out h1);have HA:=Lh (fun w' (hb:Below w1.heap.size w1 w')=>show Calls Tryz.prog 90 _ w' (fun e w2=>e= .returned (.string (txt q.num))/\Below w'.heap.size w' w2)from U4 _ q.num w' (Hv.out.keep hb).num (Hw.out _ (Jd K1.out hb)));have HB:=Lh (fun w' (hb:Below w1.heap.size w1 w')=>show Calls Tryz.prog 90 _ w' (fun e w2=>e= .returned (.string (txt (q.den:Int)))/\Below w'.heap.size w' w2) from by
   have:=U4 _ (denZ q.den) w' (Hv.out.keep hb).den (Hw.out _ (Jd K1.out hb))
   rwa [UO Hd1.out] at this)
  simp only[HT.out]at HA;simp only[HU.out]at HB;have cat1:∀W:JW,(Op.stringOp .add T ⟨#[47]⟩).run Tryz.prog W= .ok (.string (T ++ ⟨#[47]⟩)) W:=fun W=>run_string_add_sum W _ _ (by show T.size+1<=_;omega);have cat2:∀W:JW,(Op.stringOp .add (T ++ ⟨#[47]⟩) U).run Tryz.prog W= .ok (.string (T ++ ⟨#[47]⟩ ++ U)) W:=fun W=>run_string_add_sum W _ _ (by rw[ByteArray.size_append];show T.size+1+U.size<=_;omega);have HS:=Lh (fun w' (hb:Below w1.heap.size w1 w')=>(⟨(V.out.keep hb).c0,(V.out.keep hb).c1,(V.out.keep hb).c2,(V.out.keep hb).c3,hb⟩:w'.cell? ⟨w.heap.size,0,Jn⟩=Jo (Ji Jl a)/\w'.cell? ⟨w.heap.size,1,Jn⟩=Jo (Jp P)/\w'.cell? ⟨w.heap.size,2,Jn⟩=Jo (Ji Jl b)/\w'.cell? ⟨w.heap.size,3,Jn⟩=Jo (Jp Q)/\Below w1.heap.size w1 w'));clear h1;go_wp2_with fail
  go_region_held3 (fun w'=>w'.cell? ⟨w.heap.size,0,Jn⟩=Jo (Ji Jl a)/\w'.cell? ⟨w.heap.size,1,Jn⟩=Jo (Jp P)/\w'.cell? ⟨w.heap.size,2,Jn⟩=Jo (Ji Jl b)/\w'.cell? ⟨w.heap.size,3,Jn⟩=Jo (Jp Q)/\Below w1.heap.size w1 w')
   (first
    | assumption
    | exact HS.out _ (E4 _ _).drew)
   (first
    |(go_at_call_of 90 P;refine(HA.out _ (E8 (E8 (E8 (E8 (by assumption)))))).mono ?_;rintro e w' ⟨rfl,hb⟩;have hk1:=HS.out _ (Jd (E8 (E8 (E8 (E8 (by assumption))))) hb))
    | (go_at_call_of 90 Q; refine (HB.out _ (E8 (E8 (E8 (E8 (by assumption)))))).mono ?_; rintro e w' ⟨rfl,hb⟩; have hk2:=HS.out _ (Jd (E8 (E8 (E8 (E8 (by assumption))))) hb)))
  all_goals
   go_split_ands
   have hfin:Below w1.heap.size w1 w':=by assumption
   have Hfin:=Lh (Jd K1.out hfin);clear hfin;go_wp2;go_ret;exact⟨rfl,Hfin.out⟩
theorem Eb{z g q r:Int}(hg:0<g)(h:DM z g q r):q=z/g:=by
 obtain⟨h1,h2⟩:=h;have hr:0<=r/\r<g:=by omega
 rw[h1,Int.add_comm,Int.add_mul_ediv_right _ _ (by omega),Int.ediv_eq_zero_of_lt hr.1 hr.2,Int.zero_add]
theorem JM(a:Int)(P:Option Addr)(b:Int)(Q:Option Addr)(z g:Int)(w:JW)(h:Jj 0 w (Ja #[Ji Jl a,Jp P]) z)(h':Jj 0 w (Ja #[Ji Jl b,Jp Q]) g)(hg:0<g)(hlz:z.natAbs<base 390)(hlg:g.natAbs<base 390) :
  Calls Tryz.prog 76 #[Ja #[Ji Jl a,Jp P],Ja #[Ji Jl b,Jp Q]] w (Qb (z/g) w):=by
 have kk:=(((E4 w.heap.size w).alloc (E5 _) (Jc #[Ji Jl a,Jp P] 29)).alloc (by simp) (Jc #[Ji Jl b,Jp Q] 29)).alloc (by simp;omega) (Jc #[Ji Jl 0,Jp Jn] 29);have V0:=Lh (((Jh.new w #[Ji Jl a,Jp P] 29).keep ((E4 _ _).alloc (E5 _) (Jc #[Ji Jl b,Jp Q] 29))).keep ((E4 _ _).alloc (E5 _) (Jc #[Ji Jl 0,Jp Jn] 29)));have V1:=Lh ((Jh.new (w.alloc (Jc #[Ji Jl a,Jp P] 29)) #[Ji Jl b,Jp Q] 29).keep ((E4 _ _).alloc (E5 _) (Jc #[Ji Jl 0,Jp Jn] 29)));have R:=Lh (Jh.new ((w.alloc (Jc #[Ji Jl a,Jp P] 29)).alloc (Jc #[Ji Jl b,Jp Q] 29)) #[Ji Jl 0,Jp Jn] 29);simp only[EZ]at V1 R;have Hz:=Lh (h.keep kk);have Hone:=Lh (VK b Q g _ (h'.keep kk));have HD:=Lh (fun w' (hb:Below w.heap.size w w')=>X0 a b P Q z g w' (h.keep hb) (h'.keep hb) (by omega) hlz hlg);have Kk:=Lh kk;have Hg:=Lh hg;clear h h' kk hg hlz hlg;by_cases h1:g=1
 ·rw[decide_eq_true h1]at Hone;have Hfin:=Lh (show z/g=z by rw[h1,Int.ediv_one]);rw[Hfin.out];clear h1;go_enter Tryz.func76,Tryz.ntmps76;go_wp2_with fail
  refine Hone.out.mono ?_;rintro e w1⟨rfl,h1⟩;have V0:=Lh (V0.out.keep h1);have R:=Lh (R.out.keep h1);have Hn:=Lh ((Hz.out.keep h1).wrote R.out (by rfl) (Qe _ (w.heap.size+1+1) (Ji Jl a) (Jp P)).1 (Qe _ _ _ _).2);have K1:=Lh (Q3 (Jd Kk.out h1) (show w.heap.size<=w.heap.size+1+1 by omega) (Ji Jl a) (Jp P));clear h1;have c0:=V0.out.c0;have c1:=V0.out.c1;have k0:=R.out.c0;have k1:=R.out.c1;have f0:=R.out.fz 0;have f1:=R.out.fz 1;go_wp2;exact bodyPost_ret (v:=Ja #[Ji Jl a,Jp P]) (by simp[results,Tryz.results76,go_sem,k0,k1]) rfl ⟨a,P,rfl,Hn.out,K1.out⟩
 ·rw[decide_eq_false h1]at Hone;clear h1;go_enter Tryz.func76,Tryz.ntmps76;go_wp2_with fail
  refine Hone.out.mono ?_;rintro e w1⟨rfl,h1⟩;have V0:=Lh (V0.out.keep h1);have V1:=Lh (V1.out.keep h1);have R:=Lh (R.out.keep h1);have K1:=Lh (Jd Kk.out h1);clear h1;have c0:=V0.out.c0;have c1:=V0.out.c1;have d0:=V1.out.c0;have d1:=V1.out.c1;go_wp2_with fail
  refine(HD.out _ K1.out).mono ?_;rintro e n1⟨qa,qP,ra,rP,q,r,rfl,hi,hj,hdm,g1⟩;have hq:=Eb Hg.out hdm;have k3:=((E4 n1.heap.size n1).alloc (E5 _) (Jc #[Ji Jl qa,Jp qP] 29)).alloc (by simp) (Jc #[Ji Jl ra,Jp rP] 29);have R:=Lh ((R.out.keep g1).keep k3);have Hn:=Lh ((hi.keep k3).wrote R.out (by rfl) (Qe _ (w.heap.size+1+1) (Ji Jl qa) (Jp qP)).1 (Qe _ _ _ _).2);have K2:=Lh (Q3 (Jd (Jd K1.out g1) k3) (show w.heap.size<=w.heap.size+1+1 by omega) (Ji Jl qa) (Jp qP));rw[hq]at Hn;clear g1 hi hj hdm hq k3 c0 c1 d0 d1;have k0:=R.out.c0;have k1:=R.out.c1;have f0:=R.out.fz 0;have f1:=R.out.fz 1;go_wp2;exact bodyPost_ret (v:=Ja #[Ji Jl qa,Jp qP]) (by simp[results,Tryz.results76,go_sem,k0,k1]) rfl ⟨qa,qP,rfl,Hn.out,K2.out⟩
def Made(q:Rat)(w:JW)(e:Ending)(w':JW):Prop:=
 ∃(a:Int) (P:Option Addr) (b:Int) (Q:Option Addr),e= .returned (.tuple #[Ja #[Ji Jl a,Jp P,Ji Jl b,Jp Q],Ji Jl 0])/\RatV w' a P b Q q/\Below w.heap.size w w'
theorem WN(a:Int)(P:Option Addr)(b:Int)(Q:Option Addr)(z:Int)(kn:Nat)(w:JW)(h:Jj 0 w (Ja #[Ji Jl a,Jp P]) z)(h':Jj 0 w (Ja #[Ji Jl b,Jp Q]) (kn:Int))(hkp:0<kn)(hlz:z.natAbs<base 390)(hlk:((kn:Nat):Int).natAbs<base 390)(hg:Good w) :
  Calls Tryz.prog 87 #[Ja #[Ji Jl a,Jp P],Ja #[Ji Jl b,Jp Q]] w (Made (E9 z kn) w):=by
 have kk:=(((E4 w.heap.size w).alloc (E5 _) (Jc #[Ji Jl a,Jp P] 29)).alloc (by simp) (Jc #[Ji Jl b,Jp Q] 29)).alloc (by simp;omega) (Jc #[Ji Jl 0,Jp Jn,Ji Jl 0,Jp Jn] 31);have V0:=Lh (((Jh.new w #[Ji Jl a,Jp P] 29).keep ((E4 _ _).alloc (E5 _) (Jc #[Ji Jl b,Jp Q] 29))).keep ((E4 _ _).alloc (E5 _) (Jc #[Ji Jl 0,Jp Jn,Ji Jl 0,Jp Jn] 31)));have V1:=Lh ((Jh.new (w.alloc (Jc #[Ji Jl a,Jp P] 29)) #[Ji Jl b,Jp Q] 29).keep ((E4 _ _).alloc (E5 _) (Jc #[Ji Jl 0,Jp Jn,Ji Jl 0,Jp Jn] 31)));have R:=Lh (Jh.new ((w.alloc (Jc #[Ji Jl a,Jp P] 29)).alloc (Jc #[Ji Jl b,Jp Q] 29)) #[Ji Jl 0,Jp Jn,Ji Jl 0,Jp Jn] 31);simp only[EZ]at V1 R;have Hz:=Lh (h.keep kk);have Hk:=Lh (h'.keep kk);have Hs:=Lh (QA _ (kn:Int) _ (h'.keep kk));rw[show sgn (kn:Int)=1 by unfold sgn;rw[if_neg (by omega),if_pos (by omega)]]at Hs;have Kk:=Lh kk;have Lz:=Lh hlz;have Lk:=Lh hlk;have Hkp:=Lh hkp;have Hw:=Lh (fun w' (hb:Below w.heap.size w w')=>hg.below hb);obtain⟨qt,hqt⟩:∃q,E9 z kn=q:=⟨_,rfl⟩;rw[hqt];have Hqt:=Lh hqt.symm;have d0:=V1.out.c0;have d1:=V1.out.c1;clear h h' kk hkp hlz hlk hg hqt;go_enter Tryz.func87,Tryz.ntmps87;go_wp2_with fail
 refine Hs.out.mono ?_;rintro e wt⟨rfl,h1⟩;have V0:=Lh (V0.out.keep h1);have V1:=Lh (V1.out.keep h1);have R:=Lh (R.out.keep h1);have Hz:=Lh (Hz.out.keep h1);have Hk:=Lh (Hk.out.keep h1);have Kt:=Lh (Jd Kk.out h1);clear h1 d0 d1;have HG:=Lh (YC a b P Q z (kn:Int) wt Hz.out Hk.out (Jq Lz.out (by decide)) (Jq Lk.out (by decide)) (Hw.out _ Kt.out).2 (EY (Fc _) V0.out.lt));rw[E7]at HG;obtain⟨g,hge⟩:∃g,Fe (z).natAbs kn=g:=⟨_,rfl⟩;rw[hge]at HG;obtain⟨hqn,hqd⟩:=Yb (n:=z) (k:=kn) Hkp.out;rw[hge]at hqn hqd;have hgp:0<g:=by rw[←hge];exact F0 _ Hkp.out
 have hgl:g<base 390:=by rw[←hge];exact EY (Fa _ Hkp.out) (by have:=Lk.out;rwa [E7]at this)
 have Hqn:=Lh hqn;have Hqd:=Lh (show(((E9 z kn).den:Nat):Int)=(kn:Int)/(g:Int)by rw[hqd];exact Fb _ _);have Hgp:=Lh hgp;have Hgl:=Lh (show((g:Nat):Int).natAbs<base 390 by rw[E7];exact hgl);obtain⟨q,hqq⟩:∃q,E9 z kn=q:=⟨_,rfl⟩;rw[hqq]at Hqn Hqd Hqt;clear hge hqn hqd hgp hgl hqq;have c0:=V0.out.c0;have c1:=V0.out.c1;have d0:=V1.out.c0;have d1:=V1.out.c1;go_wp2_with fail
 refine HG.out.mono ?_;rintro e n1⟨ga,gP,rfl,hig,g1⟩;have k3:=(E4 n1.heap.size n1).alloc (E5 _) (Jc #[Ji Jl ga,Jp gP] 29);have G0:=Lh (Jh.new n1 #[Ji Jl ga,Jp gP] 29);have V0:=Lh ((V0.out.keep g1).keep k3);have V1:=Lh ((V1.out.keep g1).keep k3);have R:=Lh ((R.out.keep g1).keep k3);have Hz:=Lh ((Hz.out.keep g1).keep k3);have Hk:=Lh ((Hk.out.keep g1).keep k3);have Hig:=Lh (hig.keep k3);have Ku:=Lh (Jd (Jd Kt.out g1) k3);obtain⟨pg,hpg⟩:∃p,n1.heap.size=p:=⟨_,rfl⟩;obtain⟨wu,hwu⟩:∃wu,n1.alloc (Jc #[Ji Jl ga,Jp gP] 29)=wu:=⟨_,rfl⟩;rw[hwu]at G0 V0 V1 R Hz Hk Hig Ku;rw[hpg]at G0;clear g1 hig k3 c0 c1 d0 d1;have HS:=Lh (fun v (hb:Below wu.heap.size wu v)=>(⟨(V0.out.keep hb).c0,(V0.out.keep hb).c1,(V1.out.keep hb).c0,(V1.out.keep hb).c1,(G0.out.keep hb).c0,(G0.out.keep hb).c1⟩:v.cell? ⟨w.heap.size,0,Jn⟩=Jo (Ji Jl a)/\v.cell? ⟨w.heap.size,1,Jn⟩=Jo (Jp P)/\v.cell? ⟨w.heap.size+1,0,Jn⟩=Jo (Ji Jl b)/\v.cell? ⟨w.heap.size+1,1,Jn⟩=Jo (Jp Q)/\v.cell? ⟨pg,0,Jn⟩=Jo (Ji Jl ga)/\v.cell? ⟨pg,1,Jn⟩=Jo (Jp gP)));have HA:=Lh (fun v (hb:Below wu.heap.size wu v)=>JM a P ga gP z (g:Int) v (Hz.out.keep hb) (Hig.out.keep hb) (by have:=Hgp.out;omega) Lz.out Hgl.out);have HB:=Lh (fun v (hb:Below wu.heap.size wu v)=>JM b Q ga gP (kn:Int) (g:Int) v (Hk.out.keep hb) (Hig.out.keep hb) (by have:=Hgp.out;omega) Lk.out Hgl.out);go_wp2_with fail
 try simp only[hpg,hwu]
 clear hpg hwu;refine Till.begin 7 (fun v=>v.cell? ⟨w.heap.size,0,Jn⟩=Jo (Ji Jl a)/\v.cell? ⟨w.heap.size,1,Jn⟩=Jo (Jp P)/\v.cell? ⟨w.heap.size+1,0,Jn⟩=Jo (Ji Jl b)/\v.cell? ⟨w.heap.size+1,1,Jn⟩=Jo (Jp Q)/\v.cell? ⟨pg,0,Jn⟩=Jo (Ji Jl ga)/\v.cell? ⟨pg,1,Jn⟩=Jo (Jp gP)) (by kernel_rfl) (HS.out _ (E4 _ _).drew) (fun hH=>?_);refine Till.tk 0 2 21 (Ja #[Ji Jl a,Jp P]) hH ?_;try simp only[E6,Pls]
 refine Till.tk 1 2 22 (Ja #[Ji Jl ga,Jp gP]) hH ?_;try simp only[E6,Pls]
 refine Till.tk 3 5 24 (Ja #[Ji Jl b,Jp Q]) hH ?_;try simp only[E6,Pls]
 refine Till.tk 4 5 25 (Ja #[Ji Jl ga,Jp gP]) hH ?_;try simp only[E6,Pls]
 clear hH;refine Till.one (i:=2) (by kernel_rfl) rfl (fun K hK=>?_);go_simp;refine(HA.out _ (E4 _ _).drew).mono ?_;rintro e v1⟨xa,xP,rfl,hx,g1⟩;have B1:=Lh (Jd (E4 wu.heap.size wu).drew g1);have Hx1:=Lh hx;clear g1 hx;go_wp2_with fail
 refine hK.out _ _ (fun _=>HS.out _ B1.out) ?_;clear hK K;try simp only[E6,Pls]
 refine Till.one (i:=5) (by kernel_rfl) rfl (fun K hK=>?_);go_simp;refine(HB.out _ B1.out).mono ?_;rintro e v2⟨ya,yP,rfl,hy,g2⟩;have B2:=Lh (Jd B1.out g2);have Hx2:=Lh (Hx1.out.keep g2);have Hy2:=Lh hy;rw[←Hqn.out]at Hx2;rw[←Hqd.out]at Hy2;clear g2 hy;have HO:=Lh (U8 xa xP ya yP q v2 Hx2.out Hy2.out);go_wp2_with fail
 refine hK.out _ _ (fun _=>HS.out _ B2.out) ?_;clear hK K;try simp only[E6,Pls]
 refine Till.one (i:=6) (by kernel_rfl) rfl (fun K hK=>?_);go_simp;refine(HO.out).mono ?_;rintro e v3⟨oa,oP,ob,oQ,rfl,ho,g3⟩;have B3:=Lh (Jd B2.out g3);have Ho:=Lh ho;clear g3 ho;go_wp2_with fail
 refine hK.out _ _ (fun _=>HS.out _ B3.out) ?_;clear hK K;try simp only[E6,Pls]
 have R:=Lh (R.out.keep B3.out);have k0:=R.out.c0;have k1:=R.out.c1;have k2:=R.out.c2;have k3:=R.out.c3;have f0:=R.out.fz 0;have f1:=R.out.fz 1;have f2:=R.out.fz 2;have f3:=R.out.fz 3;refine Till.one (i:=7) (by kernel_rfl) rfl (fun K hK=>?_);go_simp;refine hK.out _ _ (fun h=>absurd h (by simp)) ?_;clear hK K;try simp only[E6,Pls]
 refine Till.one (i:=8) (by kernel_rfl) rfl (fun K hK=>?_);go_simp;refine hK.out _ _ (fun h=>absurd h (by simp)) ?_;clear hK K;try simp only[E6,Pls]
 refine Till.done (by kernel_rfl) ?_ _;have Hfin:=Lh (Ho.out.wrote R.out (by rfl) (Jk v3 (w.heap.size+1+1) (Ji Jl oa) (Jp oP) (Ji Jl ob) (Jp oQ)).1 (Jk _ _ _ _ _ _).2);have Kf:=Lh (JC (Jd Ku.out B3.out) (show w.heap.size<=w.heap.size+1+1 by omega) (Ji Jl oa) (Jp oP) (Ji Jl ob) (Jp oQ));go_wp2;exact bodyPost_ret (v:= .tuple #[Ja #[Ji Jl oa,Jp oP,Ji Jl ob,Jp oQ],Ji Jl 0]) (by simp[results,Tryz.results87,go_sem,k0,k1,k2,k3]) rfl ⟨oa,oP,ob,oQ,rfl,by rw[Hqt.out];exact Hfin.out,Kf.out⟩
theorem Ui(z:Int):∀c∈(txt z).data.toList,c≠47:=by
 by_cases h:z=0
 ·subst h;rw[Xz];intro c hc;have:c=48:=by simpa using hc
  rw[this];decide
 ·rw[U1 h,U9];intro c hc;obtain⟨n,hn,rfl⟩:=List.mem_map.1 hc;rcases List.mem_append.1 hn with hn|hn
  ·split at hn
   ·rw[List.mem_singleton.1 hn];decide
   ·cases hn
  ·obtain⟨d,hd,rfl⟩:=List.mem_map.1 hn;have hdm:=Uc z.natAbs d (List.mem_reverse.1 hd);intro e;have e2:=congrArg UInt8.toNat e;rw[UInt8.toNat_ofNat']at e2;simp at e2;omega
def El(l:List UInt8):Bool:=l.all (· ==48)
def Xq(s:ByteArray):Nat:=s.data.toList.findIdx (· ==47)
def Tx(s:ByteArray)(z:Int):Prop:=UM s=0/\zOf s=z
theorem Tx.txt{s:ByteArray}{z:Int}(h:Tx s z):txt z=s:=by rw[←h.2];exact KH h.1
def IsR(s:ByteArray):Prop:=∃q:Rat,Qs q=s/\Tx (txt q.num) q.num/\(q.den≠1->Tx (txt (q.den:Int)) (q.den:Int))/\(txt q.num).size<=s.size/\(q.den≠1->(txt (q.den:Int)).size<=s.size)
theorem WO(a:Int)(P:Option Addr)(b:Int)(Q:Option Addr)(z:Int)(kn:Nat)(w:JW)(h:Jj 0 w (Ja #[Ji Jl a,Jp P]) z)(h':Jj 0 w (Ja #[Ji Jl b,Jp Q]) (-(kn:Int)))(hkp:0<kn)(hlz:(-z).natAbs<base 390)(hlk:((kn:Nat):Int).natAbs<base 390)(hg:Good w) :
  Calls Tryz.prog 87 #[Ja #[Ji Jl a,Jp P],Ja #[Ji Jl b,Jp Q]] w (Made (E9 (-z) kn) w):=by
 have kk:=(((E4 w.heap.size w).alloc (E5 _) (Jc #[Ji Jl a,Jp P] 29)).alloc (by simp) (Jc #[Ji Jl b,Jp Q] 29)).alloc (by simp;omega) (Jc #[Ji Jl 0,Jp Jn,Ji Jl 0,Jp Jn] 31);have V0:=Lh (((Jh.new w #[Ji Jl a,Jp P] 29).keep ((E4 _ _).alloc (E5 _) (Jc #[Ji Jl b,Jp Q] 29))).keep ((E4 _ _).alloc (E5 _) (Jc #[Ji Jl 0,Jp Jn,Ji Jl 0,Jp Jn] 31)));have V1:=Lh ((Jh.new (w.alloc (Jc #[Ji Jl a,Jp P] 29)) #[Ji Jl b,Jp Q] 29).keep ((E4 _ _).alloc (E5 _) (Jc #[Ji Jl 0,Jp Jn,Ji Jl 0,Jp Jn] 31)));have R:=Lh (Jh.new ((w.alloc (Jc #[Ji Jl a,Jp P] 29)).alloc (Jc #[Ji Jl b,Jp Q] 29)) #[Ji Jl 0,Jp Jn,Ji Jl 0,Jp Jn] 31);simp only[EZ]at V1 R;have Hz:=Lh (h.keep kk);have Hk:=Lh (h'.keep kk);have Hs:=Lh (QA _ (-(kn:Int)) _ (h'.keep kk));rw[show sgn (-(kn:Int))=-1 by unfold sgn;rw[if_pos (by omega)]]at Hs;have Kk:=Lh kk;have Lz:=Lh hlz;have Lk:=Lh hlk;have Hkp:=Lh hkp;have Hw:=Lh (fun w' (hb:Below w.heap.size w w')=>hg.below hb);obtain⟨qt,hqt⟩:∃q,E9 (-z) kn=q:=⟨_,rfl⟩;rw[hqt];have Hqt:=Lh hqt.symm;have d0:=V1.out.c0;have d1:=V1.out.c1;clear h h' kk hkp hlz hlk hg hqt;go_enter Tryz.func87,Tryz.ntmps87;go_wp2_with fail
 refine Hs.out.mono ?_;rintro e ws⟨rfl,h1⟩;have V0:=Lh (V0.out.keep h1);have V1:=Lh (V1.out.keep h1);have R:=Lh (R.out.keep h1);have Hz:=Lh (Hz.out.keep h1);have Hk:=Lh (Hk.out.keep h1);have Ks:=Lh (Jd Kk.out h1);clear h1 d0 d1;have HS:=Lh (fun v (hb:Below ws.heap.size ws v)=>(⟨(V0.out.keep hb).c0,(V0.out.keep hb).c1,(V1.out.keep hb).c0,(V1.out.keep hb).c1⟩:v.cell? ⟨w.heap.size,0,Jn⟩=Jo (Ji Jl a)/\v.cell? ⟨w.heap.size,1,Jn⟩=Jo (Jp P)/\v.cell? ⟨w.heap.size+1,0,Jn⟩=Jo (Ji Jl b)/\v.cell? ⟨w.heap.size+1,1,Jn⟩=Jo (Jp Q)));have HA:=Lh (fun v (hb:Below ws.heap.size ws v)=>Uo a P z v (Hz.out.keep hb));have HB:=Lh (fun v (hb:Below ws.heap.size ws v)=>Uo b Q (-(kn:Int)) v (Hk.out.keep hb));rw[Int.neg_neg]at HB;go_wp2_with fail
 refine Till.begin 4 (fun v=>v.cell? ⟨w.heap.size,0,Jn⟩=Jo (Ji Jl a)/\v.cell? ⟨w.heap.size,1,Jn⟩=Jo (Jp P)/\v.cell? ⟨w.heap.size+1,0,Jn⟩=Jo (Ji Jl b)/\v.cell? ⟨w.heap.size+1,1,Jn⟩=Jo (Jp Q)) (by kernel_rfl) (HS.out _ (E4 _ _).drew) (fun hH=>?_);refine Till.tk 0 1 14 (Ja #[Ji Jl a,Jp P]) hH ?_;try simp only[E6,Pls]
 refine Till.tk 2 3 16 (Ja #[Ji Jl b,Jp Q]) hH ?_;try simp only[E6,Pls]
 clear hH;refine Till.one (i:=1) (by kernel_rfl) rfl (fun K hK=>?_);go_simp;refine(HA.out _ (E4 _ _).drew).mono ?_;rintro e v1⟨a2,P2,rfl,hx,g1⟩;have B1:=Lh (Jd (E4 ws.heap.size ws).drew g1);have Hx1:=Lh hx;clear g1 hx;go_wp2_with fail
 refine hK.out _ _ (fun _=>HS.out _ B1.out) ?_;clear hK K;try simp only[E6,Pls]
 refine Till.one (i:=3) (by kernel_rfl) rfl (fun K hK=>?_);go_simp;refine(HB.out _ B1.out).mono ?_;rintro e v2⟨b2,Q2,rfl,hy,g2⟩;have B2:=Lh (Jd B1.out g2);have Hx2:=Lh (Hx1.out.keep g2);have Hy2:=Lh hy;clear g2 hy;go_wp2_with fail
 refine hK.out _ _ (fun _=>HS.out _ B2.out) ?_;clear hK K;try simp only[E6,Pls]
 have V0:=Lh (V0.out.keep B2.out);have V1:=Lh (V1.out.keep B2.out);have R:=Lh (R.out.keep B2.out);have i0:=V0.out.c0;have i1:=V0.out.c1;have j0:=V1.out.c0;have j1:=V1.out.c1;have f0:=V0.out.fz 0;have f1:=V0.out.fz 1;have g0:=V1.out.fz 0;have g1:=V1.out.fz 1;refine Till.one (i:=4) (by kernel_rfl) rfl (fun K hK=>?_);go_simp;refine hK.out _ _ (fun h=>absurd h (by simp)) ?_;clear hK K;try simp only[E6,Pls]
 refine Till.one (i:=5) (by kernel_rfl) rfl (fun K hK=>?_);go_simp;refine hK.out _ _ (fun h=>absurd h (by simp)) ?_;clear hK K;try simp only[E6,Pls]
 refine Till.done (by kernel_rfl) ?_ _;clear i0 i1 j0 j1 f0 f1 g0 g1;have V0':=V0;have V1':=V1.out.put2_other (show w.heap.size+1≠w.heap.size by omega) (Ji Jl a2) (Jp P2);have V0:=Lh ((V0.out.put2 (Ji Jl a2) (Jp P2)).put2_other (show w.heap.size≠w.heap.size+1 by omega) (Ji Jl b2) (Jp Q2));have R:=Lh ((R.out.put2_other (show w.heap.size+1+1≠w.heap.size by omega) (Ji Jl a2) (Jp P2)).put2_other (show w.heap.size+1+1≠w.heap.size+1 by omega) (Ji Jl b2) (Jp Q2));have Hz:=Lh ((Hx2.out.wrote V0'.out (by rfl) (Qe v2 (w.heap.size) (Ji Jl a2) (Jp P2)).1 (Qe _ _ _ _).2).wrote V1' (by rfl) (Qe _ (w.heap.size+1) (Ji Jl b2) (Jp Q2)).1 (Qe _ _ _ _).2);have Hk:=Lh ((Hy2.out.wrote V0'.out (by rfl) (Qe v2 (w.heap.size) (Ji Jl a2) (Jp P2)).1 (Qe _ _ _ _).2).wrote V1' (by rfl) (Qe _ (w.heap.size+1) (Ji Jl b2) (Jp Q2)).1 (Qe _ _ _ _).2);have V1:=Lh (V1'.put2 (Ji Jl b2) (Jp Q2));have Kt:=Lh (Q3 (Q3 (Jd Ks.out B2.out) (E5 w.heap.size) (Ji Jl a2) (Jp P2)) (show w.heap.size<=w.heap.size+1 by omega) (Ji Jl b2) (Jp Q2));obtain⟨wt,hwt⟩:∃wt,put2 (put2 v2 (w.heap.size) (Ji Jl a2) (Jp P2)) (w.heap.size+1) (Ji Jl b2) (Jp Q2)=wt:=⟨_,rfl⟩;rw[hwt]at V0 V1 R Hz Hk Kt;unfold put2 at hwt;try rw[hwt]
 clear hwt V1';have HG:=Lh (YC a2 b2 P2 Q2 (-z) (kn:Int) wt Hz.out Hk.out (Jq Lz.out (by decide)) (Jq Lk.out (by decide)) (Hw.out _ Kt.out).2 (EY (Fc _) V0.out.lt));rw[E7]at HG;obtain⟨g,hge⟩:∃g,Fe ((-z)).natAbs kn=g:=⟨_,rfl⟩;rw[hge]at HG;obtain⟨hqn,hqd⟩:=Yb (n:=(-z)) (k:=kn) Hkp.out;rw[hge]at hqn hqd;have hgp:0<g:=by rw[←hge];exact F0 _ Hkp.out
 have hgl:g<base 390:=by rw[←hge];exact EY (Fa _ Hkp.out) (by have:=Lk.out;rwa [E7]at this)
 have Hqn:=Lh hqn;have Hqd:=Lh (show(((E9 (-z) kn).den:Nat):Int)=(kn:Int)/(g:Int)by rw[hqd];exact Fb _ _);have Hgp:=Lh hgp;have Hgl:=Lh (show((g:Nat):Int).natAbs<base 390 by rw[E7];exact hgl);obtain⟨q,hqq⟩:∃q,E9 (-z) kn=q:=⟨_,rfl⟩;rw[hqq]at Hqn Hqd Hqt;clear hge hqn hqd hgp hgl hqq;have c0:=V0.out.c0;have c1:=V0.out.c1;have d0:=V1.out.c0;have d1:=V1.out.c1;go_wp2_with fail
 refine HG.out.mono ?_;rintro e n1⟨ga,gP,rfl,hig,g1⟩;have k3:=(E4 n1.heap.size n1).alloc (E5 _) (Jc #[Ji Jl ga,Jp gP] 29);have G0:=Lh (Jh.new n1 #[Ji Jl ga,Jp gP] 29);have V0:=Lh ((V0.out.keep g1).keep k3);have V1:=Lh ((V1.out.keep g1).keep k3);have R:=Lh ((R.out.keep g1).keep k3);have Hz:=Lh ((Hz.out.keep g1).keep k3);have Hk:=Lh ((Hk.out.keep g1).keep k3);have Hig:=Lh (hig.keep k3);have Ku:=Lh (Jd (Jd Kt.out g1) k3);obtain⟨pg,hpg⟩:∃p,n1.heap.size=p:=⟨_,rfl⟩;obtain⟨wu,hwu⟩:∃wu,n1.alloc (Jc #[Ji Jl ga,Jp gP] 29)=wu:=⟨_,rfl⟩;rw[hwu]at G0 V0 V1 R Hz Hk Hig Ku;rw[hpg]at G0;clear g1 hig k3 c0 c1 d0 d1;have HS:=Lh (fun v (hb:Below wu.heap.size wu v)=>(⟨(V0.out.keep hb).c0,(V0.out.keep hb).c1,(V1.out.keep hb).c0,(V1.out.keep hb).c1,(G0.out.keep hb).c0,(G0.out.keep hb).c1⟩:v.cell? ⟨w.heap.size,0,Jn⟩=Jo (Ji Jl a2)/\v.cell? ⟨w.heap.size,1,Jn⟩=Jo (Jp P2)/\v.cell? ⟨w.heap.size+1,0,Jn⟩=Jo (Ji Jl b2)/\v.cell? ⟨w.heap.size+1,1,Jn⟩=Jo (Jp Q2)/\v.cell? ⟨pg,0,Jn⟩=Jo (Ji Jl ga)/\v.cell? ⟨pg,1,Jn⟩=Jo (Jp gP)));have HA:=Lh (fun v (hb:Below wu.heap.size wu v)=>JM a2 P2 ga gP (-z) (g:Int) v (Hz.out.keep hb) (Hig.out.keep hb) (by have:=Hgp.out;omega) Lz.out Hgl.out);have HB:=Lh (fun v (hb:Below wu.heap.size wu v)=>JM b2 Q2 ga gP (kn:Int) (g:Int) v (Hk.out.keep hb) (Hig.out.keep hb) (by have:=Hgp.out;omega) Lk.out Hgl.out);go_wp2_with fail
 try simp only[hpg,hwu]
 clear hpg hwu;refine Till.begin 7 (fun v=>v.cell? ⟨w.heap.size,0,Jn⟩=Jo (Ji Jl a2)/\v.cell? ⟨w.heap.size,1,Jn⟩=Jo (Jp P2)/\v.cell? ⟨w.heap.size+1,0,Jn⟩=Jo (Ji Jl b2)/\v.cell? ⟨w.heap.size+1,1,Jn⟩=Jo (Jp Q2)/\v.cell? ⟨pg,0,Jn⟩=Jo (Ji Jl ga)/\v.cell? ⟨pg,1,Jn⟩=Jo (Jp gP)) (by kernel_rfl) (HS.out _ (E4 _ _).drew) (fun hH=>?_);refine Till.tk 0 2 21 (Ja #[Ji Jl a2,Jp P2]) hH ?_;try simp only[E6,Pls]
 refine Till.tk 1 2 22 (Ja #[Ji Jl ga,Jp gP]) hH ?_;try simp only[E6,Pls]
 refine Till.tk 3 5 24 (Ja #[Ji Jl b2,Jp Q2]) hH ?_;try simp only[E6,Pls]
 refine Till.tk 4 5 25 (Ja #[Ji Jl ga,Jp gP]) hH ?_;try simp only[E6,Pls]
 clear hH;refine Till.one (i:=2) (by kernel_rfl) rfl (fun K hK=>?_);go_simp;refine(HA.out _ (E4 _ _).drew).mono ?_;rintro e v1⟨xa,xP,rfl,hx,g1⟩;have B1:=Lh (Jd (E4 wu.heap.size wu).drew g1);have Hx1:=Lh hx;clear g1 hx;go_wp2_with fail
 refine hK.out _ _ (fun _=>HS.out _ B1.out) ?_;clear hK K;try simp only[E6,Pls]
 refine Till.one (i:=5) (by kernel_rfl) rfl (fun K hK=>?_);go_simp;refine(HB.out _ B1.out).mono ?_;rintro e v2⟨ya,yP,rfl,hy,g2⟩;have B2:=Lh (Jd B1.out g2);have Hx2:=Lh (Hx1.out.keep g2);have Hy2:=Lh hy;rw[←Hqn.out]at Hx2;rw[←Hqd.out]at Hy2;clear g2 hy;have HO:=Lh (U8 xa xP ya yP q v2 Hx2.out Hy2.out);go_wp2_with fail
 refine hK.out _ _ (fun _=>HS.out _ B2.out) ?_;clear hK K;try simp only[E6,Pls]
 refine Till.one (i:=6) (by kernel_rfl) rfl (fun K hK=>?_);go_simp;refine(HO.out).mono ?_;rintro e v3⟨oa,oP,ob,oQ,rfl,ho,g3⟩;have B3:=Lh (Jd B2.out g3);have Ho:=Lh ho;clear g3 ho;go_wp2_with fail
 refine hK.out _ _ (fun _=>HS.out _ B3.out) ?_;clear hK K;try simp only[E6,Pls]
 have R:=Lh (R.out.keep B3.out);have k0:=R.out.c0;have k1:=R.out.c1;have k2:=R.out.c2;have k3:=R.out.c3;have f0:=R.out.fz 0;have f1:=R.out.fz 1;have f2:=R.out.fz 2;have f3:=R.out.fz 3;refine Till.one (i:=7) (by kernel_rfl) rfl (fun K hK=>?_);go_simp;refine hK.out _ _ (fun h=>absurd h (by simp)) ?_;clear hK K;try simp only[E6,Pls]
 refine Till.one (i:=8) (by kernel_rfl) rfl (fun K hK=>?_);go_simp;refine hK.out _ _ (fun h=>absurd h (by simp)) ?_;clear hK K;try simp only[E6,Pls]
 refine Till.done (by kernel_rfl) ?_ _;have Hfin:=Lh (Ho.out.wrote R.out (by rfl) (Jk v3 (w.heap.size+1+1) (Ji Jl oa) (Jp oP) (Ji Jl ob) (Jp oQ)).1 (Jk _ _ _ _ _ _).2);have Kf:=Lh (JC (Jd Ku.out B3.out) (show w.heap.size<=w.heap.size+1+1 by omega) (Ji Jl oa) (Jp oP) (Ji Jl ob) (Jp oQ));go_wp2;exact bodyPost_ret (v:= .tuple #[Ja #[Ji Jl oa,Jp oP,Ji Jl ob,Jp oQ],Ji Jl 0]) (by simp[results,Tryz.results87,go_sem,k0,k1,k2,k3]) rfl ⟨oa,oP,ob,oQ,rfl,by rw[Hqt.out];exact Hfin.out,Kf.out⟩
theorem WP(a:Int)(P:Option Addr)(b:Int)(Q:Option Addr)(z k:Int)(w:JW)(h:Jj 0 w (Ja #[Ji Jl a,Jp P]) z)(h':Jj 0 w (Ja #[Ji Jl b,Jp Q]) k)(hk0:k≠0)(hlz:z.natAbs<base 390)(hlk:k.natAbs<base 390)(hg:Good w) :
  Calls Tryz.prog 87 #[Ja #[Ji Jl a,Jp P],Ja #[Ji Jl b,Jp Q]] w (Made (E9 z k) w):=by
 rcases Int.lt_or_gt_of_ne hk0 with hn|hp
 ·have e:k=-((k.natAbs:Nat):Int):=by omega
  have e2:E9 z k=E9 (-z) (k.natAbs:Nat):=by rw[←Zf];congr 1;omega
  rw[e2];rw[e]at h';exact WO a P b Q z k.natAbs w h h' (by omega) (by rw[Int.natAbs_neg];exact hlz) (by rw[E7];exact hlk) hg
 ·have e:k=((k.natAbs:Nat):Int):=by omega
  rw[e];rw[e]at h';exact WN a P b Q z k.natAbs w h h' (by omega) hlz (by rw[E7];exact hlk) hg
