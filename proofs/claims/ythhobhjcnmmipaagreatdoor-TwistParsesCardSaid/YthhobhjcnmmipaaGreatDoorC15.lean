/- C15: RatI RatQ -/
import Derived.Test.YthhobhjcnmmipaaGreatDoorC14
import Derived.Test.YthhobhjcnmmipaaGreatDoorC01
set_option maxRecDepth 100000
set_option maxHeartbeats 16000000
namespace Go.Proofs.YthhobhjcnmmipaaGreatDoor
open Go.Value renaming pointer→Jp,int→Ji,agg→Ja
open Go.IntKind renaming i64→Jl
open Go.Obj renaming cells→Jc
open _root_.Option renaming none→Jn,some→Jo
open Go renaming World→JW
open _root_.Nat renaming le_refl→E4,gcd→E9,lt_of_lt_of_le→Fe,gcd_dvd_right→Ff,mod_lt→Fh
open Go.RowKit.Below renaming refl→E5
open Go.Act renaming put→E6
open _root_.Rat renaming divInt→E7,num_intCast→EY,den_intCast→EZ
open _root_.Int renaming mul_le_mul_of_nonneg_right→E8,toNat_of_nonneg→F0,natAbs_natCast→Fb,le_of_lt→Fc,natCast_mul→Fg
open _root_.And renaming intro→Fa
open Go.RowKit
theorem WB(a:Int)(P:Option Addr)(b:Int)(Q:Option Addr)(q:Rat)(w:JW)(h:RatV w a P b Q q) :
  Calls Tryz.prog 101 #[Ja #[Ji Jl a,Jp P,Ji Jl b,Jp Q]] w (Qo (-q) w):=by
 have kk:=((E5 w.heap.size w).alloc (E4 _) (Jc #[Ji Jl a,Jp P,Ji Jl b,Jp Q] 31)).alloc (by simp) (Jc #[Ji Jl 0,Jp Jn,Ji Jl 0,Jp Jn] 31);have V:=Lh ((Qd w a P b Q).keep ((E5 _ _).alloc (E4 _) (Jc #[Ji Jl 0,Jp Jn,Ji Jl 0,Jp Jn] 31)));have R:=Lh (Jh.new (w.alloc (Jc #[Ji Jl a,Jp P,Ji Jl b,Jp Q] 31)) #[Ji Jl 0,Jp Jn,Ji Jl 0,Jp Jn] 31);simp only[World.size_alloc]at R;have Hv:=Lh (h.keep kk);have Kk:=Lh kk;obtain⟨ws,hws⟩:∃ws,(w.alloc (Jc #[Ji Jl a,Jp P,Ji Jl b,Jp Q] 31)).alloc (Jc #[Ji Jl 0,Jp Jn,Ji Jl 0,Jp Jn] 31)=ws:=⟨_,rfl⟩;rw[hws]at V R Hv Kk;clear h kk;have HS:=Lh (fun v (hb:Below ws.heap.size ws v)=>(⟨(V.out.keep hb).c0,(V.out.keep hb).c1,(V.out.keep hb).c2,(V.out.keep hb).c3⟩:v.cell? ⟨w.heap.size,0,Jn⟩=Jo (Ji Jl a)/\v.cell? ⟨w.heap.size,1,Jn⟩=Jo (Jp P)/\v.cell? ⟨w.heap.size,2,Jn⟩=Jo (Ji Jl b)/\v.cell? ⟨w.heap.size,3,Jn⟩=Jo (Jp Q)));have HA:=Lh (fun v (hb:Below ws.heap.size ws v)=>Uo a P q.num v (Hv.out.keep hb).num);go_enter Tryz.func101,Tryz.ntmps101;go_wp2_with fail
 try rw[hws]
 clear hws;refine Till.begin 6 (fun v=>v.cell? ⟨w.heap.size,0,Jn⟩=Jo (Ji Jl a)/\v.cell? ⟨w.heap.size,1,Jn⟩=Jo (Jp P)/\v.cell? ⟨w.heap.size,2,Jn⟩=Jo (Ji Jl b)/\v.cell? ⟨w.heap.size,3,Jn⟩=Jo (Jp Q)) (by kernel_rfl) (HS.out _ (E5 _ _).drew) (fun hH=>?_);refine Till.tk 0 1 3 (Jp (Jo ⟨w.heap.size,0,Jn⟩)) hH ?_;try simp only[E6,Pls]
 refine Till.tk 1 2 4 (Ja #[Ji Jl a,Jp P]) hH ?_;try simp only[E6,Pls]
 refine Till.tk 3 4 6 (Jp (Jo ⟨w.heap.size,2,Jn⟩)) hH ?_;try simp only[E6,Pls]
 refine Till.tk 4 5 7 (Ja #[Ji Jl b,Jp Q]) hH ?_;try simp only[E6,Pls]
 clear hH;refine Till.one (i:=2) (by kernel_rfl) rfl (fun K hK=>?_);go_simp;refine(HA.out _ (E5 _ _).drew).mono ?_;rintro e v1⟨xa,xP,rfl,hx,g1⟩;have B1:=Lh (Jd (E5 ws.heap.size ws).drew g1);have Hx1:=Lh hx;have Hy1:=Lh (Hv.out.den.keep B1.out);clear g1 hx;go_wp2_with fail
 refine hK.out _ _ (fun _=>HS.out _ B1.out) ?_;clear hK K;try simp only[E6,Pls]
 refine Till.one (i:=5) (by kernel_rfl) rfl (fun K hK=>?_);go_simp;refine hK.out _ _ (fun _=>HS.out _ B1.out) ?_;clear hK K;try simp only[E6,Pls]
 have R:=Lh (R.out.keep B1.out);have k0:=R.out.c0;have k1:=R.out.c1;have k2:=R.out.c2;have k3:=R.out.c3;have f0:=R.out.fz 0;have f1:=R.out.fz 1;have f2:=R.out.fz 2;have f3:=R.out.fz 3;refine Till.one (i:=6) (by kernel_rfl) rfl (fun K hK=>?_);go_simp;refine hK.out _ _ (fun h=>absurd h (by simp)) ?_;clear hK K;try simp only[E6,Pls]
 refine Till.done (by kernel_rfl) ?_ _;have Hn:=Lh (Hx1.out.wrote R.out (by rfl) (Jk v1 (w.heap.size+1) (Ji Jl xa) (Jp xP) (Ji Jl b) (Jp Q)).1 (Jk _ _ _ _ _ _).2);have Hd:=Lh (Hy1.out.wrote R.out (by rfl) (Jk v1 (w.heap.size+1) (Ji Jl xa) (Jp xP) (Ji Jl b) (Jp Q)).1 (Jk _ _ _ _ _ _).2);have Kf:=Lh (JC (Jd Kk.out B1.out) (show w.heap.size<=w.heap.size+1 by omega) (Ji Jl xa) (Jp xP) (Ji Jl b) (Jp Q));go_wp2;exact bodyPost_ret (v:=Ja #[Ji Jl xa,Jp xP,Ji Jl b,Jp Q]) (by simp[results,Tryz.results101,go_sem,k0,k1,k2,k3]) rfl ⟨xa,xP,b,Q,rfl,⟨by rw[Rat.neg_num];exact Hn.out,by rw[Rat.neg_den];exact Hd.out⟩,Kf.out⟩
def KA(q:Rat)(w:JW)(e:Ending)(w':JW):Prop:=
 ∃(n d:Int) (b:Bool),e= .returned (.tuple #[Ji Jl n,Ji Jl d,.bool b])/\(b=true->n=q.num/\d=(q.den:Int))/\(I64 q.num->I64 (q.den:Int)->b=true)/\I64 n/\I64 d/\Below w.heap.size w w'
theorem Ed(q:Rat):I64 (denZ q.den)↔I64 (q.den:Int):=by
 have:=q.den_pos;unfold denZ I64
 split <;> omega
theorem Yd(a:Int)(P:Option Addr)(b:Int)(Q:Option Addr)(q:Rat)(w:JW)(h:RatV w a P b Q q) :
  Calls Tryz.prog 65 #[Ja #[Ji Jl a,Jp P,Ji Jl b,Jp Q]] w (KA q w):=by
 have kk:=(E5 w.heap.size w).alloc (E4 _) (Jc #[Ji Jl a,Jp P,Ji Jl b,Jp Q] 31);have V:=Lh (Qd w a P b Q);have HA:=Lh (UK a P q.num _ (h.keep kk).num);have HB:=Lh (fun w' (hb:Below w.heap.size w w')=>UK b Q (denZ q.den) w' (h.keep hb).den);have Kk:=Lh kk;have Hp:=Lh q.den_pos;have z64:=Lh (Ed q);have c2:=V.out.c2;have c3:=V.out.c3;clear h kk;go_enter Tryz.func65,Tryz.ntmps65;go_wp2_with fail
 refine HA.out.mono ?_;rintro e w1⟨⟨n,b1,rfl,h1,h2⟩,h3⟩;have V:=Lh (V.out.keep h3);have K1:=Lh (Jd Kk.out h3);have hn64:I64 n:=by
  rcases Classical.em (I64 q.num)with h|h
  ·rw[(h1 h).1];exact h
  ·rw[(h2 h).1];exact⟨by decide,by decide⟩
 have Hn:=Lh (show (b1=true->n=q.num)/\(I64 q.num->b1=true) by
  rcases Classical.em (I64 q.num)with h|h
  ·exact⟨fun _=>(h1 h).1,fun _=>(h1 h).2⟩
  ·exact ⟨fun e=>(by rw [(h2 h).2] at e; cases e),fun h'=>absurd h' h⟩)
 have Hn64:=Lh hn64;clear h1 h2 h3 hn64 c2 c3;have c2:=V.out.c2;have c3:=V.out.c3;go_wp2_with fail
 refine(HB.out _ K1.out).mono ?_;rintro e w2⟨⟨d,b2,rfl,h1,h2⟩,h3⟩;have K2:=Lh (Jd K1.out h3);have hways:(d=0/\I64 (1:Int)/\(b2=true->(1:Int)=(q.den:Int))/\(I64 (q.den:Int)->b2=true))\/(d≠0/\I64 d/\(b2=true->d=(q.den:Int))/\(I64 (q.den:Int)->b2=true)):=by
  have hp:=Hp.out;rcases Classical.em (I64 (denZ q.den))with h|h
  ·obtain⟨e1,e2⟩:=h1 h;by_cases hd:q.den=1
   ·rw[hd]at e1;exact .inl ⟨e1,⟨by decide,by decide⟩,fun _=>by rw[hd];rfl,fun _=>e2⟩
   ·rw[UO hd]at e1 h;exact .inr ⟨by omega,by rw[e1];exact h,fun _=>e1,fun _=>e2⟩
  ·obtain⟨e1,e2⟩:=h2 h;exact .inl ⟨e1,⟨by decide,by decide⟩,fun e=>(by rw[e2]at e;cases e),fun h'=>absurd (z64.out.2 h') h⟩
 clear h1 h2 h3 c2 c3;rcases hways with⟨rfl,hd64,hd1,hd2⟩|⟨hd0,hd64,hd1,hd2⟩
 ·have Hd:=Lh (Fa hd1 (Fa hd2 hd64));clear hd1 hd2 hd64;cases b1 with
  | false=>
   go_wp2;go_ret3
   exact⟨n,1,false,rfl,fun e=>(by cases e),fun x _=>Hn.out.2 x,Hn64.out,Hd.out.2.2,K2.out⟩
  | true=>
   go_wp2;go_ret3
   exact⟨n,1,b2,rfl,fun e=>⟨Hn.out.1 (by first|rfl|trivial),Hd.out.1 e⟩,fun _ y=>Hd.out.2.1 y,Hn64.out,Hd.out.2.2,K2.out⟩
 ·have t0:(d ==0)=false:=by rw[beq_eq_false_iff_ne];exact hd0
  have Hd:=Lh (Fa hd1 (Fa hd2 hd64));clear hd1 hd2 hd64 hd0;cases b1 with
  | false=>
   go_wp2;go_ret3
   exact⟨n,d,false,rfl,fun e=>(by cases e),fun x _=>Hn.out.2 x,Hn64.out,Hd.out.2.2,K2.out⟩
  | true=>
   go_wp2;go_ret3
   exact⟨n,d,b2,rfl,fun e=>⟨Hn.out.1 (by first|rfl|trivial),Hd.out.1 e⟩,fun _ y=>Hd.out.2.1 y,Hn64.out,Hd.out.2.2,K2.out⟩
def QC(n d:Int):Bool:=decide (-2147483648<n) && decide (n<2147483648) && decide (d<2147483648)
theorem Yy{n d:Int}(h:QC n d=true):-2147483648<n/\n<2147483648/\d<2147483648:=by
 unfold QC at h;simp only[Bool.and_eq_true,decide_eq_true_eq]at h;omega
theorem QQ(n d:Int)(w:JW):Calls Tryz.prog 66 #[Ji Jl n,Ji Jl d] w fun e w'=>e= .returned (.bool (QC n d))/\w=w':=by
 obtain⟨t,ht⟩:∃t,QC n d=t:=⟨_,rfl⟩;rw[ht];have Ht:=Lh ht;clear ht;by_cases h1:-2147483648<n
 ·by_cases h2:n<2147483648
  ·by_cases h3:d<2147483648
   ·obtain rfl:t=true:=by rw[←Ht.out];unfold QC;rw[decide_eq_true h1,decide_eq_true h2,decide_eq_true h3];rfl
    go_enter Tryz.func66,Tryz.ntmps66;go_wp2;go_ret;exact⟨rfl,rfl⟩
   ·obtain rfl:t=false:=by rw[←Ht.out];unfold QC;rw[decide_eq_false h3,Bool.and_false]
    go_enter Tryz.func66,Tryz.ntmps66;go_wp2;go_ret;exact⟨rfl,rfl⟩
  ·obtain rfl:t=false:=by rw[←Ht.out];unfold QC;rw[decide_eq_false h2,Bool.and_false,Bool.false_and]
   go_enter Tryz.func66,Tryz.ntmps66;go_wp2;go_ret;exact⟨rfl,rfl⟩
 ·obtain rfl:t=false:=by rw[←Ht.out];unfold QC;rw[decide_eq_false h1,Bool.false_and,Bool.false_and]
  go_enter Tryz.func66,Tryz.ntmps66;go_wp2;go_ret;exact⟨rfl,rfl⟩
def UW(g:Nat)(va vb:Value):Prop:=∃x y:Nat,va=Ji Jl (x:Nat)/\vb=Ji Jl (y:Nat)/\x<=9223372036854775807/\y<=9223372036854775807/\E9 x y=g
theorem WW(a:Int)(k:Nat)(w:JW)(ha:a.natAbs<=9223372036854775807)(hk:k<=9223372036854775807) :
  Calls Tryz.prog 99 #[Ji Jl a,Ji Jl (k:Nat)] w fun e w'=>e= .returned (Ji Jl (E9 a.natAbs k:Nat))/\w=w':=by
 obtain⟨g,hg⟩:∃g,E9 a.natAbs k=g:=⟨_,rfl⟩;rw[hg];obtain⟨m,hm⟩:∃m,a.natAbs=m:=⟨_,rfl⟩;rw[hm]at hg ha;have Hst:=Lh (show UW g (Ji Jl (m:Nat)) (Ji Jl (k:Nat))from⟨m,k,rfl,rfl,ha,hk,hg⟩);have hcase:a=(m:Int)\/(a<0/\a=-(m:Int)):=by omega
 have hm1:(m:Int)<=9223372036854775807:=by omega
 clear hg hm;rcases hcase with rfl|⟨hneg,rfl⟩
 ·go_enter Tryz.func99,Tryz.ntmps99;go_wp2;go_loop [0,1] (fun va vb=>UW g va vb) (fun va _=>(intOf va).toNat)
  case atStart=>first|exact Hst.out|(have h:=Hst.out;simpa using h)
  case round=>
   obtain⟨x,y,rfl,rfl,hx,hy,hg⟩:=hrel;by_cases h0:x=0
   ·subst h0;have Hfin:=Lh (show y=g by rw[←hg,Nat.gcd_zero_left]);clear hg;go_wp2;go_ret;exact⟨by rw[Hfin.out];rfl,rfl⟩
   ·have hxp:0<x:=by omega
    have Hg:=Lh (show E9 (y%x) x=g by rw[←hg,←Nat.gcd_rec]);have hl:=Fh y hxp;obtain⟨r,hr⟩:∃r,y%x=r:=⟨_,rfl⟩;rw[hr]at Hg hl;have Hl:=Lh hl;have t0:((x:Int) ==0)=false:=by rw[beq_eq_false_iff_ne];omega
    have e1:(y:Int)%(x:Int)=(r:Int):=by rw[←hr];simp
    have e2:Int.tmod (y:Int) (x:Int)=(r:Int):=by rw[←hr];rfl
    have Hnew:=Lh (show UW g (Ji Jl (r:Nat)) (Ji Jl (x:Nat))from⟨r,x,rfl,rfl,by omega,hx,Hg.out⟩);clear hg hr hl h0;go_wp2;go_round
    case rel=>exact Hnew.out
    case measure=>simp[intOf];exact Hl.out
 ·go_enter Tryz.func99,Tryz.ntmps99;go_wp2;go_loop [0,1] (fun va vb=>UW g va vb) (fun va _=>(intOf va).toNat)
  case atStart=>first|exact Hst.out|(have h:=Hst.out;simpa using h)
  case round=>
   obtain⟨x,y,rfl,rfl,hx,hy,hg⟩:=hrel;by_cases h0:x=0
   ·subst h0;have Hfin:=Lh (show y=g by rw[←hg,Nat.gcd_zero_left]);clear hg;go_wp2;go_ret;exact⟨by rw[Hfin.out];rfl,rfl⟩
   ·have hxp:0<x:=by omega
    have Hg:=Lh (show E9 (y%x) x=g by rw[←hg,←Nat.gcd_rec]);have hl:=Fh y hxp;obtain⟨r,hr⟩:∃r,y%x=r:=⟨_,rfl⟩;rw[hr]at Hg hl;have Hl:=Lh hl;have t0:((x:Int) ==0)=false:=by rw[beq_eq_false_iff_ne];omega
    have e1:(y:Int)%(x:Int)=(r:Int):=by rw[←hr];simp
    have e2:Int.tmod (y:Int) (x:Int)=(r:Int):=by rw[←hr];rfl
    have Hnew:=Lh (show UW g (Ji Jl (r:Nat)) (Ji Jl (x:Nat))from⟨r,x,rfl,rfl,by omega,hx,Hg.out⟩);clear hg hr hl h0;go_wp2;go_round
    case rel=>exact Hnew.out
    case measure=>simp[intOf];exact Hl.out
theorem Zg(n:Int):((n:Int):Rat).num=n/\((n:Int):Rat).den=1:=⟨EY n,EZ n⟩
theorem YL(n:Int)(w:JW)(hn:I64 n):Calls Tryz.prog 51 #[Ji Jl n] w (Qo ((n:Int):Rat) w):=by
 have R:=Lh (Jh.new w #[Ji Jl 0,Jp Jn,Ji Jl 0,Jp Jn] 31);have Kk:=Lh ((E5 w.heap.size w).alloc (E4 _) (Jc #[Ji Jl 0,Jp Jn,Ji Jl 0,Jp Jn] 31));have Hn:=Lh hn;clear hn;go_enter Tryz.func51,Tryz.ntmps51;go_wp2_with fail
 refine(Ye _ _).mono ?_;rintro e w1⟨rfl,h1⟩;have R:=Lh (R.out.keep h1);have K1:=Lh (JC (Jd Kk.out h1) (E4 w.heap.size) (Ji Jl n) (Jp Jn) (Ji Jl 0) (Jp Jn));clear h1;have k0:=R.out.c0;have k1:=R.out.c1;have k2:=R.out.c2;have k3:=R.out.c3;have f0:=R.out.fz 0;have f1:=R.out.fz 1;have f2:=R.out.fz 2;have f3:=R.out.fz 3;go_wp2;exact bodyPost_ret (v:=Ja #[Ji Jl n,Jp Jn,Ji Jl 0,Jp Jn]) (by simp[results,Tryz.results51,go_sem,k0,k1,k2,k3]) rfl ⟨n,Jn,0,Jn,rfl,⟨by rw[(Zg n).1];exact QH Hn.out,by rw[(Zg n).2,Oq];exact QH ⟨by decide,by decide⟩⟩,K1.out⟩
theorem QY{n:Int}{g:Nat}(hg:0<g)(h:g∣n.natAbs):Int.tdiv n g=n/g:=by
 obtain⟨c,hc⟩:=Xg h;have h0:(g:Int)≠0:=by omega
 rw[hc,Int.mul_tdiv_cancel_left _ h0,Int.mul_ediv_cancel_left _ h0]
theorem OZ{n:Int}{g:Nat}(_hg:0<g)(h:n.natAbs<=9223372036854775807):(n/g).natAbs<=9223372036854775807:=by
 have h1:=Int.natAbs_ediv_le_natAbs n g;omega
theorem Xo(n:Int):E7 n ((1:Nat):Int)=(n:Rat):=by
 obtain⟨h1,h2⟩:=Yb (n:=n) (k:=1) (by decide);rw[Nat.gcd_one_right]at h1 h2;exact Rat.ext (by rw[h1,EY];exact Int.ediv_one n) (by rw[h2,EZ])
theorem Gv{n:Int}{k:Nat}(hk:0<k)(h:E9 n.natAbs k=k):E7 n k=((n/k:Int):Rat):=by
 obtain⟨h1,h2⟩:=Yb (n:=n) (k:=k) hk;rw[h]at h1 h2;exact Rat.ext (by rw[h1,EY]) (by rw[h2,EZ,Nat.div_self hk])
theorem Ux(n:Int)(k:Nat)(w:JW)(hn:n.natAbs<=9223372036854775807)(hk:0<k)(hk2:k<=9223372036854775807) :
  Calls Tryz.prog 67 #[Ji Jl n,Ji Jl (k:Nat)] w (Qo (E7 n k) w):=by
 have R:=Lh (Jh.new w #[Ji Jl 0,Jp Jn,Ji Jl 0,Jp Jn] 31);have kk:=(E5 w.heap.size w).alloc (E4 _) (Jc #[Ji Jl 0,Jp Jn,Ji Jl 0,Jp Jn] 31);have Kk:=Lh kk;have n1:-9223372036854775807<=n:=by omega
 have n2:n<=9223372036854775807:=by omega
 have m2:(k:Int)<=9223372036854775807:=by omega
 clear kk;by_cases hk1:k=1
 ·subst hk1;rw[Xo];have HF:=Lh (fun w'=>YL n w' ⟨by omega,n2⟩);clear hn hk hk2;go_enter Tryz.func67,Tryz.ntmps67;go_wp2_with fail
  refine(HF.out _).mono ?_;rintro e w1⟨a,P,b,Q,rfl,hv,h1⟩;have R:=Lh (R.out.keep h1);have Hv:=Lh (hv.wrote R.out (by rfl) (Jk w1 w.heap.size (Ji Jl a) (Jp P) (Ji Jl b) (Jp Q)).1 (Jk _ _ _ _ _ _).2);have K1:=Lh (JC (Jd Kk.out h1) (E4 w.heap.size) (Ji Jl a) (Jp P) (Ji Jl b) (Jp Q));clear h1 hv;have k0:=R.out.c0;have k1:=R.out.c1;have k2:=R.out.c2;have k3:=R.out.c3;have f0:=R.out.fz 0;have f1:=R.out.fz 1;have f2:=R.out.fz 2;have f3:=R.out.fz 3;go_wp2;exact bodyPost_ret (v:=Ja #[Ji Jl a,Jp P,Ji Jl b,Jp Q]) (by simp[results,Tryz.results67,go_sem,k0,k1,k2,k3]) rfl ⟨a,P,b,Q,rfl,Hv.out,K1.out⟩
 ·have t1:((k:Int) ==1)=false:=by rw[beq_eq_false_iff_ne];omega
  have HG:=Lh (fun w'=>WW n k w' hn hk2);obtain⟨g,hg⟩:∃g,E9 n.natAbs k=g:=⟨_,rfl⟩;rw[hg]at HG;have hgp:0<g:=by rw[←hg];exact Nat.gcd_pos_of_pos_right _ hk
  have hgk:g<=k:=by rw[←hg];exact Nat.gcd_le_right _ hk
  have hd1:g∣n.natAbs:=hg ▸ Nat.gcd_dvd_left _ _;have hd2:g∣((k:Nat):Int).natAbs:=by rw[Fb];exact hg ▸ Ff _ _
  have t2:((g:Int) ==0)=false:=by rw[beq_eq_false_iff_ne];omega
  by_cases hgk2:g=k
  ·subst hgk2;rw[Gv hk hg];obtain⟨x,hx⟩:∃x,n/(g:Int)=x:=⟨_,rfl⟩;have e1:Int.tdiv n (g:Int)=x:=by rw[QY hgp hd1,hx]
   have hx64:=OZ hgp hn;rw[hx]at hx64 ⊢;have x1:-9223372036854775807<=x:=by omega
   have x2:x<=9223372036854775807:=by omega
   have HF:=Lh (fun w'=>YL x w' ⟨by omega,x2⟩);clear hn hk hk2 hk1 hg hd1 hd2 hx hx64 hgk;go_enter Tryz.func67,Tryz.ntmps67;go_wp2_with fail
   refine(HG.out _).mono ?_;rintro e w0⟨rfl,rfl⟩;go_wp2_with fail
   refine(HF.out _).mono ?_;rintro e w1⟨a,P,b,Q,rfl,hv,h1⟩;have R:=Lh (R.out.keep h1);have Hv:=Lh (hv.wrote R.out (by rfl) (Jk w1 w.heap.size (Ji Jl a) (Jp P) (Ji Jl b) (Jp Q)).1 (Jk _ _ _ _ _ _).2);have K1:=Lh (JC (Jd Kk.out h1) (E4 w.heap.size) (Ji Jl a) (Jp P) (Ji Jl b) (Jp Q));clear h1 hv;have k0:=R.out.c0;have k1:=R.out.c1;have k2:=R.out.c2;have k3:=R.out.c3;have f0:=R.out.fz 0;have f1:=R.out.fz 1;have f2:=R.out.fz 2;have f3:=R.out.fz 3;go_wp2;exact bodyPost_ret (v:=Ja #[Ji Jl a,Jp P,Ji Jl b,Jp Q]) (by simp[results,Tryz.results67,go_sem,k0,k1,k2,k3]) rfl ⟨a,P,b,Q,rfl,Hv.out,K1.out⟩
  ·obtain⟨q,hq⟩:∃q,E7 n k=q:=⟨_,rfl⟩;obtain⟨h1,h2⟩:=Yb (n:=n) hk;rw[hg,hq]at h1 h2;rw[hq];obtain⟨x,hx⟩:∃x,n/(g:Int)=x:=⟨_,rfl⟩;obtain⟨y,hy⟩:∃y,k/g=y:=⟨_,rfl⟩;rw[hx]at h1;rw[hy]at h2;have e1:Int.tdiv n (g:Int)=x:=by rw[QY hgp hd1,hx]
   have e2:Int.tdiv (k:Int) (g:Int)=(y:Int):=by rw[QY hgp hd2,←hy];simp
   have e2':(k:Int)/(g:Int)=(y:Int):=by rw[←hy];simp
   have hx64:=OZ hgp hn;rw[hx]at hx64;have hy1:y≠1:=by
    intro h;have h3:=Nat.div_mul_cancel (hg ▸ Ff n.natAbs k:g∣k);rw[hy,h]at h3;omega
   have hyk:y<=k:=by rw[←hy];exact Nat.div_le_self _ _
   have x1:-9223372036854775807<=x:=by omega
   have x2:x<=9223372036854775807:=by omega
   have y2:(y:Int)<=9223372036854775807:=by omega
   have t3:((g:Int) ==(k:Int))=false:=by rw[beq_eq_false_iff_ne];omega
   have w1':IntKind.i64.wrap x=x:=IntWalk.i64_in _ (by omega);have w2':IntKind.i64.wrap (y:Int)=(y:Int):=IntWalk.i64_in _ (by omega);have Hq1:=Lh h1;have Hq2:=Lh (show denZ q.den=(y:Int)by rw[h2,UO hy1]);have Kf:=Lh (fun v (hb:Below w.heap.size w v)=>hb);clear hn hk hk2 hk1 hg hd1 hd2 hx hy hx64 hgk h1 h2 hq hgk2 hy1 hyk;go_enter Tryz.func67,Tryz.ntmps67;go_wp2_with fail
   refine(HG.out _).mono ?_;rintro e w0⟨rfl,rfl⟩;obtain⟨ws,hws⟩:∃ws,w.alloc (Jc #[Ji Jl 0,Jp Jn,Ji Jl 0,Jp Jn] 31)=ws:=⟨_,rfl⟩;rw[hws]at R Kk;go_wp2_with fail
   try simp only[hws]
   clear hws;refine Till.begin 9 (fun _=>True) (by kernel_rfl) trivial (fun hH=>?_);refine Till.take (i:=0) (m:=2) (d:=Jo 20) (u:=Ji Jl n) rfl rfl (by kernel_rfl) (by kernel_rfl) (by kernel_rfl) (by kernel_rfl) (by kernel_rfl) (by kernel_rfl) (by kernel_rfl) (fun _ _ _ h=>h) (by kernel_rfl) (by(intro w hSw;(try dsimp only at hSw);go_split_ands;go_simp;try omega)) trivial ?_;try simp only[E6,Pls]
   refine Till.take (i:=1) (m:=2) (d:=Jo 21) (u:=Ji Jl (g:Int)) rfl rfl (by kernel_rfl) (by kernel_rfl) (by kernel_rfl) (by kernel_rfl) (by kernel_rfl) (by kernel_rfl) (by kernel_rfl) (fun _ _ _ h=>h) (by kernel_rfl) (by(intro w hSw;(try dsimp only at hSw);go_split_ands;go_simp;try omega)) trivial ?_;try simp only[E6,Pls]
   refine Till.take (i:=2) (m:=3) (d:=Jo 22) (u:=Ji Jl x) rfl rfl (by kernel_rfl) (by kernel_rfl) (by kernel_rfl) (by kernel_rfl) (by kernel_rfl) (by kernel_rfl) (by kernel_rfl) (fun _ _ _ h=>h) (by kernel_rfl) (by(intro w hSw;(try dsimp only at hSw);go_split_ands;go_simp;try omega)) trivial ?_;try simp only[E6,Pls]
   refine Till.take (i:=4) (m:=6) (d:=Jo 24) (u:=Ji Jl (k:Int)) rfl rfl (by kernel_rfl) (by kernel_rfl) (by kernel_rfl) (by kernel_rfl) (by kernel_rfl) (by kernel_rfl) (by kernel_rfl) (fun _ _ _ h=>h) (by kernel_rfl) (by(intro w hSw;(try dsimp only at hSw);go_split_ands;go_simp;try omega)) trivial ?_;try simp only[E6,Pls]
   refine Till.take (i:=5) (m:=6) (d:=Jo 25) (u:=Ji Jl (g:Int)) rfl rfl (by kernel_rfl) (by kernel_rfl) (by kernel_rfl) (by kernel_rfl) (by kernel_rfl) (by kernel_rfl) (by kernel_rfl) (fun _ _ _ h=>h) (by kernel_rfl) (by(intro w hSw;(try dsimp only at hSw);go_split_ands;go_simp;try omega)) trivial ?_;try simp only[E6,Pls]
   refine Till.take (i:=6) (m:=7) (d:=Jo 26) (u:=Ji Jl (y:Int)) rfl rfl (by kernel_rfl) (by kernel_rfl) (by kernel_rfl) (by kernel_rfl) (by kernel_rfl) (by kernel_rfl) (by kernel_rfl) (fun _ _ _ h=>h) (by kernel_rfl) (by(intro w hSw;(try dsimp only at hSw);go_split_ands;go_simp;try omega)) trivial ?_;try simp only[E6,Pls]
   clear hH;refine Till.one (i:=3) (by kernel_rfl) rfl (fun K hK=>?_);go_simp;refine(Ye _ _).mono ?_;rintro e v1⟨rfl,g1⟩;have B1:=Lh (Jd (E5 ws.heap.size ws).drew g1);clear g1;go_wp2_with fail
   refine hK.out _ _ (fun _=>trivial) ?_;clear hK K;try simp only[E6,Pls]
   refine Till.one (i:=7) (by kernel_rfl) rfl (fun K hK=>?_);go_simp;refine(Ye _ _).mono ?_;rintro e v2⟨rfl,g2⟩;have B2:=Lh (Jd B1.out g2);clear g2;go_wp2_with fail
   refine hK.out _ _ (fun _=>trivial) ?_;clear hK K;try simp only[E6,Pls]
   refine Till.one (i:=8) (by kernel_rfl) rfl (fun K hK=>?_);go_simp;refine hK.out _ _ (fun _=>trivial) ?_;clear hK K;try simp only[E6,Pls]
   have R:=Lh (R.out.keep B2.out);have k0:=R.out.c0;have k1:=R.out.c1;have k2:=R.out.c2;have k3:=R.out.c3;have f0:=R.out.fz 0;have f1:=R.out.fz 1;have f2:=R.out.fz 2;have f3:=R.out.fz 3;refine Till.one (i:=9) (by kernel_rfl) rfl (fun K hK=>?_);go_simp;refine hK.out _ _ (fun h=>absurd h (by simp)) ?_;clear hK K;try simp only[E6,Pls]
   refine Till.done (by kernel_rfl) ?_ _;have Kf:=Lh (JC (Jd Kk.out B2.out) (E4 w.heap.size) (Ji Jl x) (Jp Jn) (Ji Jl (y:Int)) (Jp Jn));go_wp2;exact bodyPost_ret (v:=Ja #[Ji Jl x,Jp Jn,Ji Jl (y:Int),Jp Jn]) (by simp[results,Tryz.results67,go_sem,k0,k1,k2,k3]) rfl ⟨x,Jn,y,Jn,rfl,⟨by rw[Hq1.out];exact QH ⟨by omega,x2⟩,by rw[Hq2.out];exact QH ⟨by omega,y2⟩⟩,Kf.out⟩
theorem Gb(p q:Rat):p+q=E7 (p.num*q.den+q.num*p.den) ((p.den*q.den:Nat):Int):=by
 have hp:=p.den_pos;have hq:=q.den_pos;have e0:=Rat.divInt_add_divInt p.num q.num (d₁:=p.den) (d₂:=q.den) (by omega) (by omega);rw[Ya,Ya]at e0;rw[e0,Fg]
theorem Ga(p q:Rat)(h:p.den=q.den):p+q=E7 (p.num+q.num) (p.den:Int):=by
 have hp:=p.den_pos;have hq:=q.den_pos;rw[Gb,←h,Rat.divInt_eq_divInt_iff (Int.ofNat_ne_zero.2 (Nat.ne_of_gt (Nat.mul_pos hp hp))) (by omega)]
 push_cast
 simp only[Int.add_mul,Int.mul_assoc]
theorem Uk{x y:Int}(hx1:-2147483648<x)(hx2:x<2147483648)(hy0:0<=y)(hy:y<2147483648):-4611686014132420609<=x*y/\x*y<=4611686014132420609:=by
 have h1:x*y<=2147483647*y:=E8 (by omega) hy0;have h2:-2147483647*y<=x*y:=E8 (by omega) hy0;omega
theorem Wb(a:Int)(P:Option Addr)(b:Int)(Q:Option Addr)(c:Int)(U:Option Addr)(d:Int)(V:Option Addr)(p q:Rat)(w:JW)(h:RatV w a P b Q p)(h':RatV w c U d V q)(hp:QC p.num p.den=true)(hq:QC q.num q.den=true) :
  Calls Tryz.prog 30 #[Ja #[Ji Jl a,Jp P,Ji Jl b,Jp Q],Ja #[Ji Jl c,Jp U,Ji Jl d,Jp V]] w (Qo (p+q) w):=by
 have kk:=(((E5 w.heap.size w).alloc (E4 _) (Jc #[Ji Jl a,Jp P,Ji Jl b,Jp Q] 31)).alloc (by simp) (Jc #[Ji Jl c,Jp U,Ji Jl d,Jp V] 31)).alloc (by simp;omega) (Jc #[Ji Jl 0,Jp Jn,Ji Jl 0,Jp Jn] 31);have V0:=Lh (((Qd w a P b Q).keep ((E5 _ _).alloc (E4 _) (Jc #[Ji Jl c,Jp U,Ji Jl d,Jp V] 31))).keep ((E5 _ _).alloc (E4 _) (Jc #[Ji Jl 0,Jp Jn,Ji Jl 0,Jp Jn] 31)));have V1:=Lh ((Qd (w.alloc (Jc #[Ji Jl a,Jp P,Ji Jl b,Jp Q] 31)) c U d V).keep ((E5 _ _).alloc (E4 _) (Jc #[Ji Jl 0,Jp Jn,Ji Jl 0,Jp Jn] 31)));have R:=Lh (Jh.new ((w.alloc (Jc #[Ji Jl a,Jp P,Ji Jl b,Jp Q] 31)).alloc (Jc #[Ji Jl c,Jp U,Ji Jl d,Jp V] 31)) #[Ji Jl 0,Jp Jn,Ji Jl 0,Jp Jn] 31);simp only[World.size_alloc]at V1 R;have HA:=Lh (Yd a P b Q p _ (h.keep kk));have HB:=Lh (fun w' (hb:Below w.heap.size w w')=>Yd c U d V q w' (h'.keep hb));have Kk:=Lh kk;have Hp:=Lh hp;have Hq:=Lh hq;clear h h' kk hp hq;have c0:=V0.out.c0;have c1:=V0.out.c1;have c2:=V0.out.c2;have c3:=V0.out.c3;go_enter Tryz.func30,Tryz.ntmps30;go_wp2_with fail
 refine HA.out.mono ?_;rintro e w1⟨n1,d1,b1,rfl,h1,h2,_,_,h3⟩;obtain⟨s1,s2,s3⟩:=Yy Hp.out;have pp:=p.den_pos;obtain rfl:b1=true:=h2 ⟨by omega,by omega⟩ ⟨by omega,by omega⟩;obtain⟨en1,ed1⟩:=h1 rfl;have V1:=Lh (V1.out.keep h3);have V0:=Lh (V0.out.keep h3);have R:=Lh (R.out.keep h3);have K1:=Lh (Jd Kk.out h3);have En1:=Lh en1;have Ed1:=Lh ed1;rw[←en1]at s1 s2;have sd1:d1<2147483648:=by omega
 have sp1:0<d1:=by omega
 clear h1 h2 h3 c0 c1 c2 c3 en1 ed1 s3 pp;have c0:=V1.out.c0;have c1:=V1.out.c1;have c2:=V1.out.c2;have c3:=V1.out.c3;go_wp2_with fail
 refine(HB.out _ K1.out).mono ?_;rintro e w2⟨n2,d2,b2,rfl,h1,h2,_,_,h3⟩;obtain⟨r1,r2,r3⟩:=Yy Hq.out;have pp:=q.den_pos;obtain rfl:b2=true:=h2 ⟨by omega,by omega⟩ ⟨by omega,by omega⟩;obtain⟨en2,ed2⟩:=h1 rfl;have R:=Lh (R.out.keep h3);have K2:=Lh (Jd K1.out h3);have En2:=Lh en2;have Ed2:=Lh ed2;rw[←en2]at r1 r2;have sd2:d2<2147483648:=by omega
 have sp2:0<d2:=by omega
 clear h1 h2 h3 c0 c1 c2 c3 en2 ed2 r3 pp;have HP:=Lh (show QC n1 d1=true by rw[En1.out,Ed1.out];exact Hp.out);have HQ:=Lh (show QC n2 d2=true by rw[En2.out,Ed2.out];exact Hq.out);have HC:=Lh (fun w'=>QQ n1 d1 w');have HD:=Lh (fun w'=>QQ n2 d2 w');rw[HP.out]at HC;rw[HQ.out]at HD;by_cases hd:d1=d2
 ·have Hsum:=Lh (show p+q=E7 (n1+n2) ((d2.toNat:Nat):Int) by
   have e:=Ed1.out;have e':=Ed2.out;rw[Ga p q (by omega),En1.out,En2.out]
   congr 1
   omega)
  have e9:d2=((d2.toNat:Nat):Int):=by omega
  have HO:=Lh (fun w'=>Ux (n1+n2) d2.toNat w' (by omega) (by omega) (by omega));rw[←e9]at HO Hsum;clear e9;subst hd;go_wp2_with fail
  refine(HC.out _).mono ?_;rintro e w3⟨rfl,rfl⟩;go_wp2_with fail
  refine(HD.out _).mono ?_;rintro e w3⟨rfl,rfl⟩;go_wp2_with fail
  refine(HO.out _).mono ?_;rintro e w5⟨xa,xP,xb,xQ,rfl,hv,h5⟩;have R:=Lh (R.out.keep h5);have Hv:=Lh (hv.wrote R.out (by rfl) (Jk w5 (w.heap.size+1+1) (Ji Jl xa) (Jp xP) (Ji Jl xb) (Jp xQ)).1 (Jk _ _ _ _ _ _).2);have K5:=Lh (JC (Jd K2.out h5) (show w.heap.size<=w.heap.size+1+1 by omega) (Ji Jl xa) (Jp xP) (Ji Jl xb) (Jp xQ));clear h5 hv;have k0:=R.out.c0;have k1:=R.out.c1;have k2:=R.out.c2;have k3:=R.out.c3;have f0:=R.out.fz 0;have f1:=R.out.fz 1;have f2:=R.out.fz 2;have f3:=R.out.fz 3;go_wp2;exact bodyPost_ret (v:=Ja #[Ji Jl xa,Jp xP,Ji Jl xb,Jp xQ]) (by simp[results,Tryz.results30,go_sem,k0,k1,k2,k3]) rfl ⟨xa,xP,xb,xQ,rfl,by rw[Hsum.out];exact Hv.out,K5.out⟩
 ·have t0:(d1 ==d2)=false:=by rw[beq_eq_false_iff_ne];exact hd
  obtain⟨m1,m2⟩:=Uk s1 s2 (Fc sp2) sd2;obtain⟨m3,m4⟩:=Uk r1 r2 (Fc sp1) sd1;obtain⟨m5,m6⟩:=Uk (x:=d1) (y:=d2) (by omega) sd1 (Fc sp2) sd2;have m7:0<d1*d2:=Int.mul_pos sp1 sp2;have Hsum:=Lh (show p+q=E7 (n1*d2+n2*d1) (((d1*d2).toNat:Nat):Int) by
   have e:=Ed1.out;have e':=Ed2.out;rw [Gb p q,En1.out,En2.out,F0 (by omega),e,e',Fg])
  have e9:d1*d2=(((d1*d2).toNat:Nat):Int):=by rw[F0 (by omega)]
  obtain⟨x1,hx1⟩:∃x,n1*d2=x:=⟨_,rfl⟩;obtain⟨x2,hx2⟩:∃x,n2*d1=x:=⟨_,rfl⟩;obtain⟨x3,hx3⟩:∃x,d1*d2=x:=⟨_,rfl⟩;rw[hx1]at m1 m2;rw[hx2]at m3 m4;rw[hx3]at m5 m6 m7;rw[hx1,hx2,hx3]at Hsum;rw[hx3]at e9;have HO:=Lh (fun w'=>Ux (x1+x2) x3.toNat w' (by omega) (by omega) (by omega));rw[←e9]at HO Hsum;clear e9 hd;go_wp2_with fail
  refine(HC.out _).mono ?_;rintro e w3⟨rfl,rfl⟩;go_wp2_with fail
  refine(HD.out _).mono ?_;rintro e w3⟨rfl,rfl⟩;go_wp2_with fail
  refine(HO.out _).mono ?_;rintro e w5⟨xa,xP,xb,xQ,rfl,hv,h5⟩;have R:=Lh (R.out.keep h5);have Hv:=Lh (hv.wrote R.out (by rfl) (Jk w5 (w.heap.size+1+1) (Ji Jl xa) (Jp xP) (Ji Jl xb) (Jp xQ)).1 (Jk _ _ _ _ _ _).2);have K5:=Lh (JC (Jd K2.out h5) (show w.heap.size<=w.heap.size+1+1 by omega) (Ji Jl xa) (Jp xP) (Ji Jl xb) (Jp xQ));clear h5 hv;have k0:=R.out.c0;have k1:=R.out.c1;have k2:=R.out.c2;have k3:=R.out.c3;have f0:=R.out.fz 0;have f1:=R.out.fz 1;have f2:=R.out.fz 2;have f3:=R.out.fz 3;go_wp2;exact bodyPost_ret (v:=Ja #[Ji Jl xa,Jp xP,Ji Jl xb,Jp xQ]) (by simp[results,Tryz.results30,go_sem,k0,k1,k2,k3]) rfl ⟨xa,xP,xb,xQ,rfl,by rw[Hsum.out];exact Hv.out,K5.out⟩
structure VarR (w:JW) (p:Nat) (a:Int) (P:Option Addr) (b:Int) (Q:Option Addr) (q:Rat):Prop where
 cells:Jh w p [Ji Jl a,Jp P,Ji Jl b,Jp Q]
 rat:RatV w a P b Q q
theorem VarR.keep{w w':JW}{p:Nat}{a b:Int}{P Q:Option Addr}{q:Rat}(h:VarR w p a P b Q q)(hb:Below w.heap.size w w'):VarR w' p a P b Q q:=⟨h.cells.keep hb,h.rat.keep hb⟩
theorem VarR.new{w:JW}{a b:Int}{P Q:Option Addr}{q:Rat}(h:RatV w a P b Q q):VarR (w.alloc (Jc #[Ji Jl a,Jp P,Ji Jl b,Jp Q] 31)) w.heap.size a P b Q q:=
 ⟨Qd w a P b Q,h.keep ((E5 w.heap.size w).alloc (E4 _) _)⟩
structure RS (s:ByteArray) (q:Rat):Prop where
 txt_:Qs q=s
 num:Tx (txt q.num) q.num
 den:q.den≠1->Tx (txt (q.den:Int)) (q.den:Int)
 nsz:(txt q.num).size<=40
 dsz:q.den≠1->(txt (q.den:Int)).size<=40
 nlt:q.num.natAbs<ten 40
 dlt:q.den<ten 40
 size:s.size<=40
theorem IsR.rs{s:ByteArray}(h:IsR s)(hs:s.size<=40):∃q,RS s q:=by
 obtain⟨q,h1,h2,h3,h4,h5⟩:=h;refine⟨q,h1,h2,h3,by omega,fun h=>by have:=h5 h;omega,?_,?_,hs⟩
 ·have hl:=@Zp q.num;exact Fe (Zq _) (QB (by omega))
 ·by_cases hd:q.den=1
  ·rw[hd];decide +kernel
  ·have hl:=@Zp (q.den:Int);have h6:=h5 hd;have h7:=Zq ((q.den:Nat):Int).natAbs;rw[Fb]at h7 hl;exact Fe h7 (QB (by omega))
def RInt(q:Rat)(n:Int)(b:Bool):Prop:=(q.den=1/\I64 q.num->n=q.num/\b=true)/\(¬(q.den=1/\I64 q.num)->n=0/\b=false)
def Kz(q:Rat)(w:JW)(e:Ending)(w':JW):Prop:=(∃n b,e= .returned (.tuple #[Ji Jl n,.bool b])/\RInt q n b)/\Below w.heap.size w w'
theorem XG(a:Int)(P:Option Addr)(b:Int)(Q:Option Addr)(q:Rat)(w:JW)(h:RatV w a P b Q q) :
  Calls Tryz.prog 115 #[Ja #[Ji Jl a,Jp P,Ji Jl b,Jp Q]] w (Kz q w):=by
 have kk:=(E5 w.heap.size w).alloc (E4 _) (Jc #[Ji Jl a,Jp P,Ji Jl b,Jp Q] 31);have V:=Lh (Qd w a P b Q);have Hs:=Lh (QA _ (denZ q.den) _ (h.den.keep kk));rw[XF]at Hs;have HA:=Lh (fun w' (hb:Below w.heap.size w w')=>UK a P q.num w' (h.keep hb).num);have Kk:=Lh kk;have c2:=V.out.c2;have c3:=V.out.c3;clear h kk;by_cases hd:q.den=1
 ·rw[if_pos hd]at Hs;have Hd:=Lh hd;clear hd;go_enter Tryz.func115,Tryz.ntmps115;go_wp2_with fail
  refine Hs.out.mono ?_;rintro e w1⟨rfl,h1⟩;have V:=Lh (V.out.keep h1);have K1:=Lh (Jd Kk.out h1);clear h1 c2 c3;have c0:=V.out.c0;have c1:=V.out.c1;go_wp2_with fail
  refine(HA.out _ K1.out).mono ?_;rintro e w2⟨⟨n,b1,rfl,h1,h2⟩,h3⟩;have K2:=Lh (Jd K1.out h3);have Hn:=Lh (show RInt q n b1 from⟨fun h=>h1 h.2,fun h=>h2 (fun h'=>h ⟨Hd.out,h'⟩)⟩);clear h1 h2 h3;go_wp2;go_ret2;exact⟨⟨n,b1,rfl,Hn.out⟩,K2.out⟩
 ·rw[if_neg hd]at Hs;have Hn:=Lh (show RInt q 0 false from⟨fun h=>absurd h.1 hd,fun _=>⟨rfl,rfl⟩⟩);clear hd;go_enter Tryz.func115,Tryz.ntmps115;go_wp2_with fail
  refine Hs.out.mono ?_;rintro e w1⟨rfl,h1⟩;have K1:=Lh (Jd Kk.out h1);clear h1;go_wp2;go_ret2;exact⟨⟨0,false,rfl,Hn.out⟩,K1.out⟩
theorem VD(a:Int)(P:Option Addr)(b:Int)(Q:Option Addr)(q:Rat)(w:JW)(h:RatV w a P b Q q) :
  Calls Tryz.prog 48 #[Ja #[Ji Jl a,Jp P,Ji Jl b,Jp Q]] w fun e w'=>e= .returned (Ji Jl (sgn q.num))/\Below w.heap.size w w':=by
 have kk:=(E5 w.heap.size w).alloc (E4 _) (Jc #[Ji Jl a,Jp P,Ji Jl b,Jp Q] 31);have Hs:=Lh (QA _ q.num _ (h.num.keep kk));have Kk:=Lh kk;obtain⟨x,hx⟩:∃x,sgn q.num=x:=⟨_,rfl⟩;rw[hx]at Hs ⊢;clear h kk hx;go_enter Tryz.func48,Tryz.ntmps48;go_wp2_with fail
 refine Hs.out.mono ?_;rintro e w1⟨rfl,h1⟩;have K1:=Lh (Jd Kk.out h1);clear h1;go_wp2;go_ret;exact⟨rfl,K1.out⟩
theorem RS.n5{s:ByteArray}{q:Rat}(h:RS s q):(txt q.num).size<=100/\(txt (q.den:Int)).size<=100:=by
 refine⟨by have:=h.nsz;omega,?_⟩;by_cases hd:q.den=1
 ·rw[hd,show txt ((1:Nat):Int)=⟨#[49]⟩from EQ];decide
 ·have:=h.dsz hd;omega
