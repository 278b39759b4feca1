/- C16: RatR -/
import Derived.Test.YthhobhjcnmmipaaGreatDoorC15
import Derived.Test.YthhobhjcnmmipaaGreatDoorC10
set_option maxRecDepth 100000
set_option maxHeartbeats 16000000
namespace Go.Proofs.YthhobhjcnmmipaaGreatDoor
open Go.Value renaming pointer→Jp,int→Ji
open Go.IntKind renaming i64→Jl
open _root_.Option renaming none→Jn,some→Jo
open Go.Act renaming put→E4
open _root_.Int renaming lt_trichotomy→E5,mul_neg_of_neg_of_pos→E7,natAbs_natCast→E8,mul_nonneg→EY,natCast_mul→EZ
open Go.RowKit.Below renaming refl→E6
open _root_.And renaming intro→E9
open Go.RowKit
theorem XI(n:Int)(w:World)(hn:I64 n) :
  Calls Tryz.prog 136 #[Ji Jl n] w fun e w'=>e= .returned (Ji .u64 (n.natAbs:Int))/\w'=w:=by
 have h0:=hn.1;have h1:=hn.2;clear hn;by_cases h:n<0
 ·go_enter Tryz.func136,Tryz.ntmps136;go_wp2;go_ret;exact⟨YQ (by rw[Jr,Jr];omega),rfl⟩
 ·go_enter Tryz.func136,Tryz.ntmps136;go_wp2;go_ret;exact⟨YQ (by omega),rfl⟩
def ordB(l g:Bool):Int:=if l=true then -1 else if g=true then 1 else 0
theorem JO(l g:Bool)(w:World):Calls Tryz.prog 135 #[.bool l,.bool g] w fun e w'=>e= .returned (Ji Jl (ordB l g))/\w'=w:=by
 cases l <;> cases g <;>
 ·go_enter Tryz.func135,Tryz.ntmps135;go_wp2;go_ret;exact⟨rfl,rfl⟩
theorem QV{a b:Int}(h:a<b):cmpZ a b=-1:=by unfold cmpZ;rw[if_pos h]
theorem Q7{a b:Int}(h:b<a):cmpZ a b=1:=by unfold cmpZ;rw[if_neg (by omega),if_pos h]
theorem YV{a b:Int}(h:a=b):cmpZ a b=0:=by unfold cmpZ;rw[if_neg (by omega),if_neg (by omega)]
theorem Ko{a c b:Int}(hb:0<b):cmpZ (a*b) (c*b)=cmpZ a c:=by
 rcases E5 a c with h|h|h
 ·rw[QV h,QV (Int.mul_lt_mul_of_pos_right h hb)]
 ·rw[h,YV rfl,YV rfl]
 ·rw[Q7 h,Q7 (Int.mul_lt_mul_of_pos_right h hb)]
theorem G3{a:Int}{d:Nat}(ha:0<=a):a*(d:Int)=((a.natAbs*d:Nat):Int):=by
 rw[EZ,Int.natAbs_of_nonneg ha]
theorem G4{a:Int}{d:Nat}(ha:a<0):a*(d:Int)=-((a.natAbs*d:Nat):Int):=by
 rw[EZ,Int.ofNat_natAbs_of_nonpos (by omega),Int.neg_mul,Int.neg_neg]
theorem YO(a c:Int)(b d:Nat)(v:Int)(w:World)(ha:I64 a)(hb2:b<=9223372036854775807)(hc:I64 c)(hd2:d<=9223372036854775807)(hbd:b≠d)(hs:(a<0/\c<0/\v=cmpZ ((c.natAbs*b:Nat):Int) ((a.natAbs*d:Nat):Int))\/(0<=a/\0<=c/\v=cmpZ ((a.natAbs*d:Nat):Int) ((c.natAbs*b:Nat):Int))) :
  Calls Tryz.prog 102 #[Ji Jl a,Ji Jl (b:Nat),Ji Jl c,Ji Jl (d:Nat)] w fun e w'=>e= .returned (Ji Jl v)/\w'=w:=by
 have HMa:=Lh (fun w=>XI a w ha);have HMc:=Lh (fun w=>XI c w hc);have a64:=QN ha;have c64:=QN hc;have t0:((b:Int) ==(d:Int))=false:=by rw[beq_eq_false_iff_ne];omega
 have wb:IntKind.u64.wrap (b:Int)=(b:Int):=by rw[Jr];omega
 have wd:IntKind.u64.wrap (d:Int)=(d:Int):=by rw[Jr];omega
 obtain⟨H1,hH1⟩:∃H,a.natAbs*d/18446744073709551616=H:=⟨_,rfl⟩;obtain⟨L1,hL1⟩:∃H,a.natAbs*d%18446744073709551616=H:=⟨_,rfl⟩;obtain⟨H2,hH2⟩:∃H,c.natAbs*b/18446744073709551616=H:=⟨_,rfl⟩;obtain⟨L2,hL2⟩:∃H,c.natAbs*b%18446744073709551616=H:=⟨_,rfl⟩;have HX:=Lh (fun w=>Xs a.natAbs d H1 L1 a64 (by omega) hH1 hL1 w);have HY:=Lh (fun w=>Xs c.natAbs b H2 L2 c64 (by omega) hH2 hL2 w);generalize a.natAbs*d=x at hs hH1 hL1;generalize c.natAbs*b=y at hs hH2 hL2;generalize a.natAbs=A at HMa HX;generalize c.natAbs=C at HMc HY;clear ha hc a64 c64 hbd hb2 hd2;have hcase:(H1<H2/\x<y)\/(H1=H2/\L1<L2/\x<y)\/(H1=H2/\L1=L2/\x=y)\/(H1=H2/\L2<L1/\y<x)\/(H2<H1/\y<x):=by omega
 clear hH1 hL1 hH2 hL2;rcases hs with hs|hs
 ·obtain⟨sa,sc,rfl⟩:=hs;rcases hcase with⟨h,hx⟩|⟨rfl,h,hx⟩|⟨rfl,rfl,hx⟩|⟨rfl,h,hx⟩|⟨h,hx⟩
  ·have i1:(H1:Int)<(H2:Int):=by omega
   have i3:¬H2<H1:=by omega
   have i2:((H1:Int) ==(H2:Int))=false:=by rw[beq_eq_false_iff_ne];omega
   rw[Q7 (by omega)];clear hx;go_enter Tryz.func102,Tryz.ntmps102;go_wp2_with fail
   refine(HMa.out _).mono ?_;rintro e w1⟨rfl,rfl⟩;go_wp2_with fail
   refine(HX.out _).mono ?_;rintro e w1⟨rfl,rfl⟩;go_wp2_with fail
   refine(HMc.out _).mono ?_;rintro e w1⟨rfl,rfl⟩;go_wp2_with fail
   refine(HY.out _).mono ?_;rintro e w1⟨rfl,rfl⟩;go_wp2_with fail
   refine(JO _ _ _).mono ?_;rintro e w1⟨rfl,rfl⟩;go_wp2;go_ret;exact⟨Qq (by first|rfl|(simp[ordB];done)|(simp[ordB, *];done)|(simp[ordB];omega)),rfl⟩
  ·have i1:(L1:Int)<(L2:Int):=by omega
   have i3:¬L2<L1:=by omega
   rw[Q7 (by omega)];clear hx;go_enter Tryz.func102,Tryz.ntmps102;go_wp2_with fail
   refine(HMa.out _).mono ?_;rintro e w1⟨rfl,rfl⟩;go_wp2_with fail
   refine(HX.out _).mono ?_;rintro e w1⟨rfl,rfl⟩;go_wp2_with fail
   refine(HMc.out _).mono ?_;rintro e w1⟨rfl,rfl⟩;go_wp2_with fail
   refine(HY.out _).mono ?_;rintro e w1⟨rfl,rfl⟩;go_wp2_with fail
   refine(JO _ _ _).mono ?_;rintro e w1⟨rfl,rfl⟩;go_wp2;go_ret;exact⟨Qq (by first|rfl|(simp[ordB];done)|(simp[ordB, *];done)|(simp[ordB];omega)),rfl⟩
  ·rw[YV (by omega)];clear hx;go_enter Tryz.func102,Tryz.ntmps102;go_wp2_with fail
   refine(HMa.out _).mono ?_;rintro e w1⟨rfl,rfl⟩;go_wp2_with fail
   refine(HX.out _).mono ?_;rintro e w1⟨rfl,rfl⟩;go_wp2_with fail
   refine(HMc.out _).mono ?_;rintro e w1⟨rfl,rfl⟩;go_wp2_with fail
   refine(HY.out _).mono ?_;rintro e w1⟨rfl,rfl⟩;go_wp2_with fail
   refine(JO _ _ _).mono ?_;rintro e w1⟨rfl,rfl⟩;go_wp2;go_ret;exact⟨Qq (by first|rfl|(simp[ordB];done)|(simp[ordB, *];done)|(simp[ordB];omega)),rfl⟩
  ·have i1:(L2:Int)<(L1:Int):=by omega
   have i3:¬L1<L2:=by omega
   rw[QV (by omega)];clear hx;go_enter Tryz.func102,Tryz.ntmps102;go_wp2_with fail
   refine(HMa.out _).mono ?_;rintro e w1⟨rfl,rfl⟩;go_wp2_with fail
   refine(HX.out _).mono ?_;rintro e w1⟨rfl,rfl⟩;go_wp2_with fail
   refine(HMc.out _).mono ?_;rintro e w1⟨rfl,rfl⟩;go_wp2_with fail
   refine(HY.out _).mono ?_;rintro e w1⟨rfl,rfl⟩;go_wp2_with fail
   refine(JO _ _ _).mono ?_;rintro e w1⟨rfl,rfl⟩;go_wp2;go_ret;exact⟨Qq (by first|rfl|(simp[ordB];done)|(simp[ordB, *];done)|(simp[ordB];omega)),rfl⟩
  ·have i1:(H2:Int)<(H1:Int):=by omega
   have i3:¬H1<H2:=by omega
   have i2:((H1:Int) ==(H2:Int))=false:=by rw[beq_eq_false_iff_ne];omega
   rw[QV (by omega)];clear hx;go_enter Tryz.func102,Tryz.ntmps102;go_wp2_with fail
   refine(HMa.out _).mono ?_;rintro e w1⟨rfl,rfl⟩;go_wp2_with fail
   refine(HX.out _).mono ?_;rintro e w1⟨rfl,rfl⟩;go_wp2_with fail
   refine(HMc.out _).mono ?_;rintro e w1⟨rfl,rfl⟩;go_wp2_with fail
   refine(HY.out _).mono ?_;rintro e w1⟨rfl,rfl⟩;go_wp2_with fail
   refine(JO _ _ _).mono ?_;rintro e w1⟨rfl,rfl⟩;go_wp2;go_ret;exact⟨Qq (by first|rfl|(simp[ordB];done)|(simp[ordB, *];done)|(simp[ordB];omega)),rfl⟩
 ·obtain⟨sa,sc,rfl⟩:=hs;have ea:decide (a<0)=false:=decide_eq_false (by omega);have ec:decide (c<0)=false:=decide_eq_false (by omega);rcases hcase with⟨h,hx⟩|⟨rfl,h,hx⟩|⟨rfl,rfl,hx⟩|⟨rfl,h,hx⟩|⟨h,hx⟩
  ·have i1:(H1:Int)<(H2:Int):=by omega
   have i3:¬H2<H1:=by omega
   have i2:((H1:Int) ==(H2:Int))=false:=by rw[beq_eq_false_iff_ne];omega
   rw[QV (by omega)];clear hx;go_enter Tryz.func102,Tryz.ntmps102;go_wp2_with fail
   refine(HMa.out _).mono ?_;rintro e w1⟨rfl,rfl⟩;go_wp2_with fail
   refine(HX.out _).mono ?_;rintro e w1⟨rfl,rfl⟩;go_wp2_with fail
   refine(HMc.out _).mono ?_;rintro e w1⟨rfl,rfl⟩;go_wp2_with fail
   refine(HY.out _).mono ?_;rintro e w1⟨rfl,rfl⟩;go_wp2_with fail
   refine(JO _ _ _).mono ?_;rintro e w1⟨rfl,rfl⟩;go_wp2;go_ret;exact⟨Qq (by first|rfl|(simp[ordB];done)|(simp[ordB, *];done)|(simp[ordB];omega)),rfl⟩
  ·have i1:(L1:Int)<(L2:Int):=by omega
   have i3:¬L2<L1:=by omega
   rw[QV (by omega)];clear hx;go_enter Tryz.func102,Tryz.ntmps102;go_wp2_with fail
   refine(HMa.out _).mono ?_;rintro e w1⟨rfl,rfl⟩;go_wp2_with fail
   refine(HX.out _).mono ?_;rintro e w1⟨rfl,rfl⟩;go_wp2_with fail
   refine(HMc.out _).mono ?_;rintro e w1⟨rfl,rfl⟩;go_wp2_with fail
   refine(HY.out _).mono ?_;rintro e w1⟨rfl,rfl⟩;go_wp2_with fail
   refine(JO _ _ _).mono ?_;rintro e w1⟨rfl,rfl⟩;go_wp2;go_ret;exact⟨Qq (by first|rfl|(simp[ordB];done)|(simp[ordB, *];done)|(simp[ordB];omega)),rfl⟩
  ·rw[YV (by omega)];clear hx;go_enter Tryz.func102,Tryz.ntmps102;go_wp2_with fail
   refine(HMa.out _).mono ?_;rintro e w1⟨rfl,rfl⟩;go_wp2_with fail
   refine(HX.out _).mono ?_;rintro e w1⟨rfl,rfl⟩;go_wp2_with fail
   refine(HMc.out _).mono ?_;rintro e w1⟨rfl,rfl⟩;go_wp2_with fail
   refine(HY.out _).mono ?_;rintro e w1⟨rfl,rfl⟩;go_wp2_with fail
   refine(JO _ _ _).mono ?_;rintro e w1⟨rfl,rfl⟩;go_wp2;go_ret;exact⟨Qq (by first|rfl|(simp[ordB];done)|(simp[ordB, *];done)|(simp[ordB];omega)),rfl⟩
  ·have i1:(L2:Int)<(L1:Int):=by omega
   have i3:¬L1<L2:=by omega
   rw[Q7 (by omega)];clear hx;go_enter Tryz.func102,Tryz.ntmps102;go_wp2_with fail
   refine(HMa.out _).mono ?_;rintro e w1⟨rfl,rfl⟩;go_wp2_with fail
   refine(HX.out _).mono ?_;rintro e w1⟨rfl,rfl⟩;go_wp2_with fail
   refine(HMc.out _).mono ?_;rintro e w1⟨rfl,rfl⟩;go_wp2_with fail
   refine(HY.out _).mono ?_;rintro e w1⟨rfl,rfl⟩;go_wp2_with fail
   refine(JO _ _ _).mono ?_;rintro e w1⟨rfl,rfl⟩;go_wp2;go_ret;exact⟨Qq (by first|rfl|(simp[ordB];done)|(simp[ordB, *];done)|(simp[ordB];omega)),rfl⟩
  ·have i1:(H2:Int)<(H1:Int):=by omega
   have i3:¬H1<H2:=by omega
   have i2:((H1:Int) ==(H2:Int))=false:=by rw[beq_eq_false_iff_ne];omega
   rw[Q7 (by omega)];clear hx;go_enter Tryz.func102,Tryz.ntmps102;go_wp2_with fail
   refine(HMa.out _).mono ?_;rintro e w1⟨rfl,rfl⟩;go_wp2_with fail
   refine(HX.out _).mono ?_;rintro e w1⟨rfl,rfl⟩;go_wp2_with fail
   refine(HMc.out _).mono ?_;rintro e w1⟨rfl,rfl⟩;go_wp2_with fail
   refine(HY.out _).mono ?_;rintro e w1⟨rfl,rfl⟩;go_wp2_with fail
   refine(JO _ _ _).mono ?_;rintro e w1⟨rfl,rfl⟩;go_wp2;go_ret;exact⟨Qq (by first|rfl|(simp[ordB];done)|(simp[ordB, *];done)|(simp[ordB];omega)),rfl⟩
theorem Xp(a c:Int)(b d:Nat)(w:World)(ha:I64 a)(hb:0<b)(hb2:b<=9223372036854775807)(hc:I64 c)(hd:0<d)(hd2:d<=9223372036854775807) :
  Calls Tryz.prog 102 #[Ji Jl a,Ji Jl (b:Nat),Ji Jl c,Ji Jl (d:Nat)] w fun e w'=>e= .returned (Ji Jl (cmpZ (a*(d:Int)) (c*(b:Int))))/\w'=w:=by
 by_cases hbd:b=d
 ·subst hbd;rw[Ko (by omega)];clear ha hc hd hd2 hb hb2;rcases E5 a c with h|h|h
  ·rw[QV h];go_enter Tryz.func102,Tryz.ntmps102;go_wp2_with fail
   refine(JO _ _ _).mono ?_;rintro e w1⟨rfl,rfl⟩;go_wp2;go_ret;exact⟨Qq (by first|rfl|(simp[ordB];done)|(simp[ordB, *];done)|(simp[ordB];omega)),rfl⟩
  ·subst h;rw[YV rfl];go_enter Tryz.func102,Tryz.ntmps102;go_wp2_with fail
   refine(JO _ _ _).mono ?_;rintro e w1⟨rfl,rfl⟩;go_wp2;go_ret;exact⟨Qq (by first|rfl|(simp[ordB];done)|(simp[ordB, *];done)|(simp[ordB];omega)),rfl⟩
  ·rw[Q7 h];go_enter Tryz.func102,Tryz.ntmps102;go_wp2_with fail
   refine(JO _ _ _).mono ?_;rintro e w1⟨rfl,rfl⟩;go_wp2;go_ret;exact⟨Qq (by first|rfl|(simp[ordB];done)|(simp[ordB, *];done)|(simp[ordB];omega)),rfl⟩
 ·by_cases sa:a<0
  ·by_cases sc:c<0
   ·exact YO a c b d _ w ha hb2 hc hd2 hbd (.inl ⟨sa,sc,by
     rw [G4 sa,G4 sc]; unfold cmpZ; split <;> split <;> first | rfl | omega | (split <;> split <;> first | rfl | omega)⟩)
   ·have h1:a*(d:Int)<0:=E7 sa (by omega);have h2:0<=c*(b:Int):=EY (by omega) (by omega);rw[QV (by omega)];have t0:((b:Int) ==(d:Int))=false:=by rw[beq_eq_false_iff_ne];omega
    clear ha hc hd hd2 hb hb2 h1 h2 hbd;go_enter Tryz.func102,Tryz.ntmps102;go_wp2_with fail
    refine(JO _ _ _).mono ?_;rintro e w1⟨rfl,rfl⟩;go_wp2;go_ret;exact⟨Qq (by first|rfl|(simp[ordB];done)|(simp[ordB, *];done)|(simp[ordB];omega)),rfl⟩
  ·by_cases sc:c<0
   ·have h1:c*(b:Int)<0:=E7 sc (by omega);have h2:0<=a*(d:Int):=EY (by omega) (by omega);rw[Q7 (by omega)];have t0:((b:Int) ==(d:Int))=false:=by rw[beq_eq_false_iff_ne];omega
    clear ha hc hd hd2 hb hb2 h1 h2 hbd;go_enter Tryz.func102,Tryz.ntmps102;go_wp2_with fail
    refine(JO _ _ _).mono ?_;rintro e w1⟨rfl,rfl⟩;go_wp2;go_ret;exact⟨Qq (by first|rfl|(simp[ordB];done)|(simp[ordB, *];done)|(simp[ordB];omega)),rfl⟩
   ·exact YO a c b d _ w ha hb2 hc hd2 hbd (.inr ⟨by omega,by omega,by rw[G3 (by omega),G3 (by omega)]⟩)
def cmpR(p q:Rat):Int:=cmpZ (p.num*(q.den:Int)) (q.num*(p.den:Int))
theorem Ue{p q:Rat}(h:sgn p.num<sgn q.num):cmpR p q=-1:=by
 have hp:=p.den_pos;have hq:=q.den_pos;unfold sgn at h;refine QV ?_;rcases E5 p.num 0 with h1|h1|h1
 ·have e1:p.num*(q.den:Int)<0:=E7 h1 (by omega);have e2:0<=q.num*(p.den:Int):=EY (by
   rcases Int.lt_or_le q.num 0 with h2|h2
   ·rw[if_pos h1,if_pos h2]at h;omega
   ·exact h2) (by omega)
  omega
 ·have e2:0<q.num*(p.den:Int):=Int.mul_pos (by
   rcases E5 q.num 0 with h2|h2|h2
   ·rw[if_neg (by omega),if_neg (by omega),if_pos h2]at h;omega
   ·rw[if_neg (by omega),if_neg (by omega),if_neg (by omega),if_neg (by omega)]at h;omega
   ·exact h2) (by omega)
  rw[h1,Int.zero_mul];exact e2
 ·exfalso;rw[if_neg (by omega),if_pos h1]at h
  split at h <;> (try split at h) <;> omega
theorem Z6(a b:Int):cmpZ b a=-cmpZ a b:=by
 rcases E5 a b with h|h|h
 ·rw[QV h,Q7 h];rfl
 ·rw[YV h,YV h.symm];rfl
 ·rw[QV h,Q7 h]
theorem Z8(p q:Rat):cmpR q p=-cmpR p q:=Z6 _ _
theorem Xk{p q:Rat}(h:sgn q.num<sgn p.num):cmpR p q=1:=by
 rw[Z8 q p,Ue h];rfl
theorem WF(a:Int)(P:Option Addr)(b:Int)(Q:Option Addr)(c:Int)(U:Option Addr)(d:Int)(V:Option Addr)(p q:Rat)(w:World)(h:RatV w a P b Q p)(h':RatV w c U d V q)(hpn:p.num.natAbs<base 47)(hpd:p.den<base 47)(hqn:q.num.natAbs<base 47)(hqd:q.den<base 47) :
  Calls Tryz.prog 71 #[.agg #[Ji Jl a,Jp P,Ji Jl b,Jp Q],.agg #[Ji Jl c,Jp U,Ji Jl d,Jp V]] w fun e w'=>e= .returned (Ji Jl (cmpR p q))/\Below w.heap.size w w':=by
 have kk:=((E6 w.heap.size w).alloc (Nat.le_refl _) (.cells #[Ji Jl a,Jp P,Ji Jl b,Jp Q] 31)).alloc (by simp) (.cells #[Ji Jl c,Jp U,Ji Jl d,Jp V] 31);have V0:=Lh ((Qd w a P b Q).keep ((E6 _ _).alloc (Nat.le_refl _) (.cells #[Ji Jl c,Jp U,Ji Jl d,Jp V] 31)));have V1:=Lh (Qd (w.alloc (.cells #[Ji Jl a,Jp P,Ji Jl b,Jp Q] 31)) c U d V);simp only[World.size_alloc]at V1;have HA:=Lh (Yd a P b Q p _ (h.keep kk));have HB:=Lh (fun w' (hb:Below w.heap.size w w')=>Yd c U d V q w' (h'.keep hb));have HP:=Lh (fun w' (hb:Below w.heap.size w w')=>h.keep hb);have HQ:=Lh (fun w' (hb:Below w.heap.size w w')=>h'.keep hb);have Kk:=Lh kk;have Bd:=Lh (E9 hpn (E9 hpd (E9 hqn hqd)));have Hsp:=Lh (fun w' (hb:Below w.heap.size w w')=>VD a P b Q p w' (h.keep hb));have Hsq:=Lh (fun w' (hb:Below w.heap.size w w')=>VD c U d V q w' (h'.keep hb));obtain⟨cv,hcv⟩:∃x,cmpR p q=x:=⟨_,rfl⟩;rw[hcv];have Hcv:=Lh hcv;clear h h' kk hpn hpd hqn hqd hcv;have c0:=V0.out.c0;have c1:=V0.out.c1;have c2:=V0.out.c2;have c3:=V0.out.c3;go_enter Tryz.func71,Tryz.ntmps71;go_wp2_with fail
 refine HA.out.mono ?_;rintro e w1⟨n1,d1,b1,rfl,h1,_,i1,j1,h3⟩;have V0:=Lh (V0.out.keep h3);have V1:=Lh (V1.out.keep h3);have K1:=Lh (Jd Kk.out h3);have H1:=Lh (E9 i1 (E9 j1 h1));clear h1 h3 i1 j1 c0 c1 c2 c3;have c0:=V1.out.c0;have c1:=V1.out.c1;have c2:=V1.out.c2;have c3:=V1.out.c3;go_wp2_with fail
 refine(HB.out _ K1.out).mono ?_;rintro e w2⟨n2,d2,b2,rfl,h1,_,i1,j1,h3⟩;have V0:=Lh (V0.out.keep h3);have V1:=Lh (V1.out.keep h3);have K2:=Lh (Jd K1.out h3);have H2:=Lh (E9 i1 (E9 j1 h1));clear h1 h3 i1 j1 c0 c1 c2 c3;cases b1 with
 | true=>
  cases b2 with
  | true=>
   obtain⟨i1,j1,h1⟩:=H1.out;obtain⟨i2,j2,h2⟩:=H2.out;obtain⟨e1,e2⟩:=h1 rfl;obtain⟨e3,e4⟩:=h2 rfl;have pp:=p.den_pos;have qp:=q.den_pos;obtain⟨_,j1⟩:=j1;obtain⟨_,j2⟩:=j2;have Hc:=Lh (fun w=>Xp n1 n2 p.den q.den w i1 pp (by omega) i2 qp (by omega));rw[←e2,←e4]at Hc;have Hv:=Lh (show cmpZ (n1*d2) (n2*d1)=cv by rw[←Hcv.out];unfold cmpR;rw[e1,e2,e3,e4]);rw[Hv.out]at Hc;clear i1 j1 h1 i2 j2 h2 e1 e2 e3 e4 pp qp;go_wp2_with fail
   refine(Hc.out _).mono ?_;rintro e w3⟨rfl,rfl⟩;go_wp2;exact bodyPost_ret (v:=Ji Jl cv) (by simp[results,Tryz.results71,go_sem]) rfl ⟨rfl,K2.out⟩
  | false=>
   have Hlt:=Lh (show sgn p.num<sgn q.num->cv=-1 from fun h=>by rw[←Hcv.out];exact Ue h);have Hgt:=Lh (show sgn q.num<sgn p.num->cv=1 from fun h=>by rw[←Hcv.out];exact Xk h);obtain⟨sp,hsp⟩:∃x,sgn p.num=x:=⟨_,rfl⟩;obtain⟨sq,hsq⟩:∃x,sgn q.num=x:=⟨_,rfl⟩;rw[hsp,hsq]at Hlt Hgt;rw[hsp]at Hsp;rw[hsq]at Hsq;clear hsp hsq;obtain⟨wm,hwm⟩:∃u,w2=u:=⟨_,rfl⟩;rw[hwm]at V0 V1 K2;have HS:=Lh (fun w' (hb:Below wm.heap.size wm w')=>(⟨⟨(V0.out.keep hb).c0,(V0.out.keep hb).c1,(V0.out.keep hb).c2,(V0.out.keep hb).c3,(V1.out.keep hb).c0,(V1.out.keep hb).c1,(V1.out.keep hb).c2,(V1.out.keep hb).c3⟩,hb⟩:(w'.cell? ⟨w.heap.size,0,Jn⟩=Jo (Ji Jl a)/\w'.cell? ⟨w.heap.size,1,Jn⟩=Jo (Jp P)/\w'.cell? ⟨w.heap.size,2,Jn⟩=Jo (Ji Jl b)/\w'.cell? ⟨w.heap.size,3,Jn⟩=Jo (Jp Q)/\w'.cell? ⟨w.heap.size+1,0,Jn⟩=Jo (Ji Jl c)/\w'.cell? ⟨w.heap.size+1,1,Jn⟩=Jo (Jp U)/\w'.cell? ⟨w.heap.size+1,2,Jn⟩=Jo (Ji Jl d)/\w'.cell? ⟨w.heap.size+1,3,Jn⟩=Jo (Jp V))/\Below wm.heap.size wm w'));have HC:=Lh (fun w' wx (h:(fun w'=>(w'.cell? ⟨w.heap.size,0,Jn⟩=Jo (Ji Jl a)/\w'.cell? ⟨w.heap.size,1,Jn⟩=Jo (Jp P)/\w'.cell? ⟨w.heap.size,2,Jn⟩=Jo (Ji Jl b)/\w'.cell? ⟨w.heap.size,3,Jn⟩=Jo (Jp Q)/\w'.cell? ⟨w.heap.size+1,0,Jn⟩=Jo (Ji Jl c)/\w'.cell? ⟨w.heap.size+1,1,Jn⟩=Jo (Jp U)/\w'.cell? ⟨w.heap.size+1,2,Jn⟩=Jo (Ji Jl d)/\w'.cell? ⟨w.heap.size+1,3,Jn⟩=Jo (Jp V))/\Below wm.heap.size wm w') w') (hb:Below w'.heap.size w' wx)=>HS.out _ (Jd h.2 hb));have HSp:=Lh (fun w' (h:(fun w'=>(w'.cell? ⟨w.heap.size,0,Jn⟩=Jo (Ji Jl a)/\w'.cell? ⟨w.heap.size,1,Jn⟩=Jo (Jp P)/\w'.cell? ⟨w.heap.size,2,Jn⟩=Jo (Ji Jl b)/\w'.cell? ⟨w.heap.size,3,Jn⟩=Jo (Jp Q)/\w'.cell? ⟨w.heap.size+1,0,Jn⟩=Jo (Ji Jl c)/\w'.cell? ⟨w.heap.size+1,1,Jn⟩=Jo (Jp U)/\w'.cell? ⟨w.heap.size+1,2,Jn⟩=Jo (Ji Jl d)/\w'.cell? ⟨w.heap.size+1,3,Jn⟩=Jo (Jp V))/\Below wm.heap.size wm w') w')=>Hsp.out w' (Jd K2.out h.2))
   have HSq:=Lh (fun w' (h:(fun w'=>(w'.cell? ⟨w.heap.size,0,Jn⟩=Jo (Ji Jl a)/\w'.cell? ⟨w.heap.size,1,Jn⟩=Jo (Jp P)/\w'.cell? ⟨w.heap.size,2,Jn⟩=Jo (Ji Jl b)/\w'.cell? ⟨w.heap.size,3,Jn⟩=Jo (Jp Q)/\w'.cell? ⟨w.heap.size+1,0,Jn⟩=Jo (Ji Jl c)/\w'.cell? ⟨w.heap.size+1,1,Jn⟩=Jo (Jp U)/\w'.cell? ⟨w.heap.size+1,2,Jn⟩=Jo (Ji Jl d)/\w'.cell? ⟨w.heap.size+1,3,Jn⟩=Jo (Jp V))/\Below wm.heap.size wm w') w')=>Hsq.out w' (Jd K2.out h.2));go_wp2_with fail
   try rw[hwm]
   clear hwm;go_region_held3 (fun w'=>(w'.cell? ⟨w.heap.size,0,Jn⟩=Jo (Ji Jl a)/\w'.cell? ⟨w.heap.size,1,Jn⟩=Jo (Jp P)/\w'.cell? ⟨w.heap.size,2,Jn⟩=Jo (Ji Jl b)/\w'.cell? ⟨w.heap.size,3,Jn⟩=Jo (Jp Q)/\w'.cell? ⟨w.heap.size+1,0,Jn⟩=Jo (Ji Jl c)/\w'.cell? ⟨w.heap.size+1,1,Jn⟩=Jo (Jp U)/\w'.cell? ⟨w.heap.size+1,2,Jn⟩=Jo (Ji Jl d)/\w'.cell? ⟨w.heap.size+1,3,Jn⟩=Jo (Jp V))/\Below wm.heap.size wm w')
    (first
     | assumption
     | exact HS.out _ (E6 _ _).drew
     | exact HC.out _ _ (by assumption) (by assumption))
    (first
     |(go_at_call_of 48 P;refine(HSp.out _ (by assumption)).mono ?_;rintro e w' ⟨rfl,hb⟩)
     | (go_at_call 48; refine (HSq.out _ (by assumption)).mono ?_; rintro e w' ⟨rfl,hb⟩))
   go_split_ands
   have hw3:Below wm.heap.size wm w':=by assumption
   have J3:=Lh (Jd K2.out hw3);have V0:=Lh (V0.out.keep hw3);have V1:=Lh (V1.out.keep hw3);generalize w'=w3 at J3 V0 V1 ⊢;clear hw3 HS HC HSp HSq;rcases E5 sp sq with hs|hs|hs
   ·have t0:(sp ==sq)=false:=by rw[beq_eq_false_iff_ne];omega
    have t1:(sp !=sq)=true:=by rw[bne,t0];rfl
    obtain rfl:cv=-1:=Hlt.out hs;go_wp2;exact bodyPost_ret (v:=Ji Jl (-1)) (by simp[results,Tryz.results71,go_sem]) rfl ⟨rfl,J3.out⟩
   ·have HS:=Lh (fun w' (hb:Below w3.heap.size w3 w')=>(⟨(V0.out.keep hb).c0,(V0.out.keep hb).c1,(V0.out.keep hb).c2,(V0.out.keep hb).c3,(V1.out.keep hb).c0,(V1.out.keep hb).c1,(V1.out.keep hb).c2,(V1.out.keep hb).c3⟩:w'.cell? ⟨w.heap.size,0,Jn⟩=Jo (Ji Jl a)/\w'.cell? ⟨w.heap.size,1,Jn⟩=Jo (Jp P)/\w'.cell? ⟨w.heap.size,2,Jn⟩=Jo (Ji Jl b)/\w'.cell? ⟨w.heap.size,3,Jn⟩=Jo (Jp Q)/\w'.cell? ⟨w.heap.size+1,0,Jn⟩=Jo (Ji Jl c)/\w'.cell? ⟨w.heap.size+1,1,Jn⟩=Jo (Jp U)/\w'.cell? ⟨w.heap.size+1,2,Jn⟩=Jo (Ji Jl d)/\w'.cell? ⟨w.heap.size+1,3,Jn⟩=Jo (Jp V)));obtain⟨hpn,hpd,hqn,hqd⟩:=Bd.out;have b1:=Jq hpn (show 47<=400 by decide);have b2:=Jq hqn (show 47<=400 by decide);have b3:=Jq hpd (show 47<=400 by decide);have b4:=Jq hqd (show 47<=400 by decide);have HD1:=Lh (fun v (hb:Below w3.heap.size w3 v)=>QU c U d V q v (HQ.out v (Jd J3.out hb)));have HD2:=Lh (fun v (hb:Below w3.heap.size w3 v)=>QU a P b Q p v (HP.out v (Jd J3.out hb)));have HM1:=Lh (fun x X v (hb:Below w3.heap.size w3 v) (hx:Jj 0 v (.agg #[Ji Jl x,Jp X]) (q.den:Int))=>Q6 a x P X p.num (q.den:Int) v (HP.out v (Jd J3.out hb)).num hx b1 (by rw[E8];exact b4) (.inl hpn));have HM2:=Lh (fun x X v (hb:Below w3.heap.size w3 v) (hx:Jj 0 v (.agg #[Ji Jl x,Jp X]) (p.den:Int))=>Q6 c x U X q.num (p.den:Int) v (HQ.out v (Jd J3.out hb)).num hx b2 (by rw[E8];exact b3) (.inl hqn));have Hv:=Lh (show cmpZ (p.num*(q.den:Int)) (q.num*(p.den:Int))=cv from Hcv.out);clear hpn hpd hqn hqd b1 b2 b3 b4;have t0:(sp ==sq)=true:=by rw[beq_iff_eq];exact hs
    have t1:(sp !=sq)=false:=by rw[bne,t0];rfl
    subst hs;go_wp2_with fail
    refine Till.begin 11 (fun w'=>w'.cell? ⟨w.heap.size,0,Jn⟩=Jo (Ji Jl a)/\w'.cell? ⟨w.heap.size,1,Jn⟩=Jo (Jp P)/\w'.cell? ⟨w.heap.size,2,Jn⟩=Jo (Ji Jl b)/\w'.cell? ⟨w.heap.size,3,Jn⟩=Jo (Jp Q)/\w'.cell? ⟨w.heap.size+1,0,Jn⟩=Jo (Ji Jl c)/\w'.cell? ⟨w.heap.size+1,1,Jn⟩=Jo (Jp U)/\w'.cell? ⟨w.heap.size+1,2,Jn⟩=Jo (Ji Jl d)/\w'.cell? ⟨w.heap.size+1,3,Jn⟩=Jo (Jp V)) (by kernel_rfl) (HS.out _ (E6 _ _).drew) (fun hH=>?_);refine Till.tk 0 1 44 (Jp (Jo ⟨w.heap.size,0,Jn⟩)) hH ?_;try simp only[E4,Pls]
    refine Till.tk 1 4 45 (.agg #[Ji Jl a,Jp P]) hH ?_;try simp only[E4,Pls]
    refine Till.tk 2 3 46 (.agg #[Ji Jl c,Jp U,Ji Jl d,Jp V]) hH ?_;try simp only[E4,Pls]
    refine Till.tk 5 6 49 (Jp (Jo ⟨w.heap.size+1,0,Jn⟩)) hH ?_;try simp only[E4,Pls]
    refine Till.tk 6 9 50 (.agg #[Ji Jl c,Jp U]) hH ?_;try simp only[E4,Pls]
    refine Till.tk 7 8 51 (.agg #[Ji Jl a,Jp P,Ji Jl b,Jp Q]) hH ?_;try simp only[E4,Pls]
    clear hH;refine Till.one (i:=3) (by kernel_rfl) rfl (fun K hK=>?_);go_simp;refine(HD1.out _ (E6 _ _).drew).mono ?_;rintro e v1⟨xa,xX,rfl,hx,g1⟩;have B1:=Lh (Jd (E6 w3.heap.size w3).drew g1);have Hx:=Lh hx;clear g1 hx;go_wp2_with fail
    refine hK.out _ _ (fun _=>HS.out _ B1.out) ?_;clear hK K;try simp only[E4,Pls]
    refine Till.one (i:=4) (by kernel_rfl) rfl (fun K hK=>?_);go_simp;refine(HM1.out _ _ _ B1.out Hx.out).mono ?_;rintro e v2⟨ya,yY,rfl,hx,g1⟩;have B2:=Lh (Jd B1.out g1);have Hy:=Lh hx;clear g1 hx Hx;go_wp2_with fail
    refine hK.out _ _ (fun _=>HS.out _ B2.out) ?_;clear hK K;try simp only[E4,Pls]
    refine Till.one (i:=8) (by kernel_rfl) rfl (fun K hK=>?_);go_simp;refine(HD2.out _ B2.out).mono ?_;rintro e v3⟨za,zZ,rfl,hx,g1⟩;have B3:=Lh (Jd B2.out g1);have Hy:=Lh (Hy.out.keep g1);have Hx:=Lh hx;clear g1 hx;go_wp2_with fail
    refine hK.out _ _ (fun _=>HS.out _ B3.out) ?_;clear hK K;try simp only[E4,Pls]
    refine Till.one (i:=9) (by kernel_rfl) rfl (fun K hK=>?_);go_simp;refine(HM2.out _ _ _ B3.out Hx.out).mono ?_;rintro e v4⟨ua,uU,rfl,hx,g1⟩;have B4:=Lh (Jd B3.out g1);have Hy:=Lh (Hy.out.keep g1);have Hu:=Lh hx;clear g1 hx Hx;have HF:=Lh (Xj _ _ _ _ v4 Hy.out Hu.out);rw[Hv.out]at HF;go_wp2_with fail
    refine hK.out _ _ (fun _=>HS.out _ B4.out) ?_;clear hK K;try simp only[E4,Pls]
    refine Till.one (i:=10) (by kernel_rfl) rfl (fun K hK=>?_);go_simp;refine(HF.out).mono ?_;rintro e v5⟨rfl,g1⟩;have B5:=Lh (Jd B4.out g1);clear g1;go_wp2_with fail
    refine hK.out _ _ (fun _=>HS.out _ B5.out) ?_;clear hK K;try simp only[E4,Pls]
    refine Till.one (i:=11) (by kernel_rfl) rfl (fun K hK=>?_);go_simp;refine hK.out _ _ (fun h=>absurd h (by simp)) ?_;clear hK K;try simp only[E4,Pls]
    refine Till.done (by kernel_rfl) ?_ _;go_wp2;exact bodyPost_ret (v:=Ji Jl cv) (by simp[results,Tryz.results71,go_sem]) rfl ⟨rfl,Jd J3.out B5.out⟩
   ·have t0:(sp ==sq)=false:=by rw[beq_eq_false_iff_ne];omega
    have t1:(sp !=sq)=true:=by rw[bne,t0];rfl
    obtain rfl:cv=1:=Hgt.out hs;go_wp2;exact bodyPost_ret (v:=Ji Jl 1) (by simp[results,Tryz.results71,go_sem]) rfl ⟨rfl,J3.out⟩
 | false=>
  have Hlt:=Lh (show sgn p.num<sgn q.num->cv=-1 from fun h=>by rw[←Hcv.out];exact Ue h);have Hgt:=Lh (show sgn q.num<sgn p.num->cv=1 from fun h=>by rw[←Hcv.out];exact Xk h);obtain⟨sp,hsp⟩:∃x,sgn p.num=x:=⟨_,rfl⟩;obtain⟨sq,hsq⟩:∃x,sgn q.num=x:=⟨_,rfl⟩;rw[hsp,hsq]at Hlt Hgt;rw[hsp]at Hsp;rw[hsq]at Hsq;clear hsp hsq;obtain⟨wm,hwm⟩:∃u,w2=u:=⟨_,rfl⟩;rw[hwm]at V0 V1 K2;have HS:=Lh (fun w' (hb:Below wm.heap.size wm w')=>(⟨⟨(V0.out.keep hb).c0,(V0.out.keep hb).c1,(V0.out.keep hb).c2,(V0.out.keep hb).c3,(V1.out.keep hb).c0,(V1.out.keep hb).c1,(V1.out.keep hb).c2,(V1.out.keep hb).c3⟩,hb⟩:(w'.cell? ⟨w.heap.size,0,Jn⟩=Jo (Ji Jl a)/\w'.cell? ⟨w.heap.size,1,Jn⟩=Jo (Jp P)/\w'.cell? ⟨w.heap.size,2,Jn⟩=Jo (Ji Jl b)/\w'.cell? ⟨w.heap.size,3,Jn⟩=Jo (Jp Q)/\w'.cell? ⟨w.heap.size+1,0,Jn⟩=Jo (Ji Jl c)/\w'.cell? ⟨w.heap.size+1,1,Jn⟩=Jo (Jp U)/\w'.cell? ⟨w.heap.size+1,2,Jn⟩=Jo (Ji Jl d)/\w'.cell? ⟨w.heap.size+1,3,Jn⟩=Jo (Jp V))/\Below wm.heap.size wm w'));have HC:=Lh (fun w' wx (h:(fun w'=>(w'.cell? ⟨w.heap.size,0,Jn⟩=Jo (Ji Jl a)/\w'.cell? ⟨w.heap.size,1,Jn⟩=Jo (Jp P)/\w'.cell? ⟨w.heap.size,2,Jn⟩=Jo (Ji Jl b)/\w'.cell? ⟨w.heap.size,3,Jn⟩=Jo (Jp Q)/\w'.cell? ⟨w.heap.size+1,0,Jn⟩=Jo (Ji Jl c)/\w'.cell? ⟨w.heap.size+1,1,Jn⟩=Jo (Jp U)/\w'.cell? ⟨w.heap.size+1,2,Jn⟩=Jo (Ji Jl d)/\w'.cell? ⟨w.heap.size+1,3,Jn⟩=Jo (Jp V))/\Below wm.heap.size wm w') w') (hb:Below w'.heap.size w' wx)=>HS.out _ (Jd h.2 hb));have HSp:=Lh (fun w' (h:(fun w'=>(w'.cell? ⟨w.heap.size,0,Jn⟩=Jo (Ji Jl a)/\w'.cell? ⟨w.heap.size,1,Jn⟩=Jo (Jp P)/\w'.cell? ⟨w.heap.size,2,Jn⟩=Jo (Ji Jl b)/\w'.cell? ⟨w.heap.size,3,Jn⟩=Jo (Jp Q)/\w'.cell? ⟨w.heap.size+1,0,Jn⟩=Jo (Ji Jl c)/\w'.cell? ⟨w.heap.size+1,1,Jn⟩=Jo (Jp U)/\w'.cell? ⟨w.heap.size+1,2,Jn⟩=Jo (Ji Jl d)/\w'.cell? ⟨w.heap.size+1,3,Jn⟩=Jo (Jp V))/\Below wm.heap.size wm w') w')=>Hsp.out w' (Jd K2.out h.2))
  have HSq:=Lh (fun w' (h:(fun w'=>(w'.cell? ⟨w.heap.size,0,Jn⟩=Jo (Ji Jl a)/\w'.cell? ⟨w.heap.size,1,Jn⟩=Jo (Jp P)/\w'.cell? ⟨w.heap.size,2,Jn⟩=Jo (Ji Jl b)/\w'.cell? ⟨w.heap.size,3,Jn⟩=Jo (Jp Q)/\w'.cell? ⟨w.heap.size+1,0,Jn⟩=Jo (Ji Jl c)/\w'.cell? ⟨w.heap.size+1,1,Jn⟩=Jo (Jp U)/\w'.cell? ⟨w.heap.size+1,2,Jn⟩=Jo (Ji Jl d)/\w'.cell? ⟨w.heap.size+1,3,Jn⟩=Jo (Jp V))/\Below wm.heap.size wm w') w')=>Hsq.out w' (Jd K2.out h.2));go_wp2_with fail
  try rw[hwm]
  clear hwm;go_region_held3 (fun w'=>(w'.cell? ⟨w.heap.size,0,Jn⟩=Jo (Ji Jl a)/\w'.cell? ⟨w.heap.size,1,Jn⟩=Jo (Jp P)/\w'.cell? ⟨w.heap.size,2,Jn⟩=Jo (Ji Jl b)/\w'.cell? ⟨w.heap.size,3,Jn⟩=Jo (Jp Q)/\w'.cell? ⟨w.heap.size+1,0,Jn⟩=Jo (Ji Jl c)/\w'.cell? ⟨w.heap.size+1,1,Jn⟩=Jo (Jp U)/\w'.cell? ⟨w.heap.size+1,2,Jn⟩=Jo (Ji Jl d)/\w'.cell? ⟨w.heap.size+1,3,Jn⟩=Jo (Jp V))/\Below wm.heap.size wm w')
   (first
    | assumption
    | exact HS.out _ (E6 _ _).drew
    | exact HC.out _ _ (by assumption) (by assumption))
   (first
    |(go_at_call_of 48 P;refine(HSp.out _ (by assumption)).mono ?_;rintro e w' ⟨rfl,hb⟩)
    | (go_at_call 48; refine (HSq.out _ (by assumption)).mono ?_; rintro e w' ⟨rfl,hb⟩))
  go_split_ands
  have hw3:Below wm.heap.size wm w':=by assumption
  have J3:=Lh (Jd K2.out hw3);have V0:=Lh (V0.out.keep hw3);have V1:=Lh (V1.out.keep hw3);generalize w'=w3 at J3 V0 V1 ⊢;clear hw3 HS HC HSp HSq;rcases E5 sp sq with hs|hs|hs
  ·have t0:(sp ==sq)=false:=by rw[beq_eq_false_iff_ne];omega
   have t1:(sp !=sq)=true:=by rw[bne,t0];rfl
   obtain rfl:cv=-1:=Hlt.out hs;go_wp2;exact bodyPost_ret (v:=Ji Jl (-1)) (by simp[results,Tryz.results71,go_sem]) rfl ⟨rfl,J3.out⟩
  ·have HS:=Lh (fun w' (hb:Below w3.heap.size w3 w')=>(⟨(V0.out.keep hb).c0,(V0.out.keep hb).c1,(V0.out.keep hb).c2,(V0.out.keep hb).c3,(V1.out.keep hb).c0,(V1.out.keep hb).c1,(V1.out.keep hb).c2,(V1.out.keep hb).c3⟩:w'.cell? ⟨w.heap.size,0,Jn⟩=Jo (Ji Jl a)/\w'.cell? ⟨w.heap.size,1,Jn⟩=Jo (Jp P)/\w'.cell? ⟨w.heap.size,2,Jn⟩=Jo (Ji Jl b)/\w'.cell? ⟨w.heap.size,3,Jn⟩=Jo (Jp Q)/\w'.cell? ⟨w.heap.size+1,0,Jn⟩=Jo (Ji Jl c)/\w'.cell? ⟨w.heap.size+1,1,Jn⟩=Jo (Jp U)/\w'.cell? ⟨w.heap.size+1,2,Jn⟩=Jo (Ji Jl d)/\w'.cell? ⟨w.heap.size+1,3,Jn⟩=Jo (Jp V)));obtain⟨hpn,hpd,hqn,hqd⟩:=Bd.out;have b1:=Jq hpn (show 47<=400 by decide);have b2:=Jq hqn (show 47<=400 by decide);have b3:=Jq hpd (show 47<=400 by decide);have b4:=Jq hqd (show 47<=400 by decide);have HD1:=Lh (fun v (hb:Below w3.heap.size w3 v)=>QU c U d V q v (HQ.out v (Jd J3.out hb)));have HD2:=Lh (fun v (hb:Below w3.heap.size w3 v)=>QU a P b Q p v (HP.out v (Jd J3.out hb)));have HM1:=Lh (fun x X v (hb:Below w3.heap.size w3 v) (hx:Jj 0 v (.agg #[Ji Jl x,Jp X]) (q.den:Int))=>Q6 a x P X p.num (q.den:Int) v (HP.out v (Jd J3.out hb)).num hx b1 (by rw[E8];exact b4) (.inl hpn));have HM2:=Lh (fun x X v (hb:Below w3.heap.size w3 v) (hx:Jj 0 v (.agg #[Ji Jl x,Jp X]) (p.den:Int))=>Q6 c x U X q.num (p.den:Int) v (HQ.out v (Jd J3.out hb)).num hx b2 (by rw[E8];exact b3) (.inl hqn));have Hv:=Lh (show cmpZ (p.num*(q.den:Int)) (q.num*(p.den:Int))=cv from Hcv.out);clear hpn hpd hqn hqd b1 b2 b3 b4;have t0:(sp ==sq)=true:=by rw[beq_iff_eq];exact hs
   have t1:(sp !=sq)=false:=by rw[bne,t0];rfl
   subst hs;go_wp2_with fail
   refine Till.begin 11 (fun w'=>w'.cell? ⟨w.heap.size,0,Jn⟩=Jo (Ji Jl a)/\w'.cell? ⟨w.heap.size,1,Jn⟩=Jo (Jp P)/\w'.cell? ⟨w.heap.size,2,Jn⟩=Jo (Ji Jl b)/\w'.cell? ⟨w.heap.size,3,Jn⟩=Jo (Jp Q)/\w'.cell? ⟨w.heap.size+1,0,Jn⟩=Jo (Ji Jl c)/\w'.cell? ⟨w.heap.size+1,1,Jn⟩=Jo (Jp U)/\w'.cell? ⟨w.heap.size+1,2,Jn⟩=Jo (Ji Jl d)/\w'.cell? ⟨w.heap.size+1,3,Jn⟩=Jo (Jp V)) (by kernel_rfl) (HS.out _ (E6 _ _).drew) (fun hH=>?_);refine Till.tk 0 1 44 (Jp (Jo ⟨w.heap.size,0,Jn⟩)) hH ?_;try simp only[E4,Pls]
   refine Till.tk 1 4 45 (.agg #[Ji Jl a,Jp P]) hH ?_;try simp only[E4,Pls]
   refine Till.tk 2 3 46 (.agg #[Ji Jl c,Jp U,Ji Jl d,Jp V]) hH ?_;try simp only[E4,Pls]
   refine Till.tk 5 6 49 (Jp (Jo ⟨w.heap.size+1,0,Jn⟩)) hH ?_;try simp only[E4,Pls]
   refine Till.tk 6 9 50 (.agg #[Ji Jl c,Jp U]) hH ?_;try simp only[E4,Pls]
   refine Till.tk 7 8 51 (.agg #[Ji Jl a,Jp P,Ji Jl b,Jp Q]) hH ?_;try simp only[E4,Pls]
   clear hH;refine Till.one (i:=3) (by kernel_rfl) rfl (fun K hK=>?_);go_simp;refine(HD1.out _ (E6 _ _).drew).mono ?_;rintro e v1⟨xa,xX,rfl,hx,g1⟩;have B1:=Lh (Jd (E6 w3.heap.size w3).drew g1);have Hx:=Lh hx;clear g1 hx;go_wp2_with fail
   refine hK.out _ _ (fun _=>HS.out _ B1.out) ?_;clear hK K;try simp only[E4,Pls]
   refine Till.one (i:=4) (by kernel_rfl) rfl (fun K hK=>?_);go_simp;refine(HM1.out _ _ _ B1.out Hx.out).mono ?_;rintro e v2⟨ya,yY,rfl,hx,g1⟩;have B2:=Lh (Jd B1.out g1);have Hy:=Lh hx;clear g1 hx Hx;go_wp2_with fail
   refine hK.out _ _ (fun _=>HS.out _ B2.out) ?_;clear hK K;try simp only[E4,Pls]
   refine Till.one (i:=8) (by kernel_rfl) rfl (fun K hK=>?_);go_simp;refine(HD2.out _ B2.out).mono ?_;rintro e v3⟨za,zZ,rfl,hx,g1⟩;have B3:=Lh (Jd B2.out g1);have Hy:=Lh (Hy.out.keep g1);have Hx:=Lh hx;clear g1 hx;go_wp2_with fail
   refine hK.out _ _ (fun _=>HS.out _ B3.out) ?_;clear hK K;try simp only[E4,Pls]
   refine Till.one (i:=9) (by kernel_rfl) rfl (fun K hK=>?_);go_simp;refine(HM2.out _ _ _ B3.out Hx.out).mono ?_;rintro e v4⟨ua,uU,rfl,hx,g1⟩;have B4:=Lh (Jd B3.out g1);have Hy:=Lh (Hy.out.keep g1);have Hu:=Lh hx;clear g1 hx Hx;have HF:=Lh (Xj _ _ _ _ v4 Hy.out Hu.out);rw[Hv.out]at HF;go_wp2_with fail
   refine hK.out _ _ (fun _=>HS.out _ B4.out) ?_;clear hK K;try simp only[E4,Pls]
   refine Till.one (i:=10) (by kernel_rfl) rfl (fun K hK=>?_);go_simp;refine(HF.out).mono ?_;rintro e v5⟨rfl,g1⟩;have B5:=Lh (Jd B4.out g1);clear g1;go_wp2_with fail
   refine hK.out _ _ (fun _=>HS.out _ B5.out) ?_;clear hK K;try simp only[E4,Pls]
   refine Till.one (i:=11) (by kernel_rfl) rfl (fun K hK=>?_);go_simp;refine hK.out _ _ (fun h=>absurd h (by simp)) ?_;clear hK K;try simp only[E4,Pls]
   refine Till.done (by kernel_rfl) ?_ _;go_wp2;exact bodyPost_ret (v:=Ji Jl cv) (by simp[results,Tryz.results71,go_sem]) rfl ⟨rfl,Jd J3.out B5.out⟩
  ·have t0:(sp ==sq)=false:=by rw[beq_eq_false_iff_ne];omega
   have t1:(sp !=sq)=true:=by rw[bne,t0];rfl
   obtain rfl:cv=1:=Hgt.out hs;go_wp2;exact bodyPost_ret (v:=Ji Jl 1) (by simp[results,Tryz.results71,go_sem]) rfl ⟨rfl,J3.out⟩
