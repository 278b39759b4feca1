/- E01: From Read Back RatG RatK -/
import Derived.Test.YthhobhjcnmmipaaGreatDoorC31
import Derived.Laws.BytesArg
import Derived.Lib.ItoaNum
set_option maxRecDepth 100000
set_option maxHeartbeats 16000000
namespace Go.Proofs.YthhobhjcnmmipaaGreatDoor
open Go.Value renaming pointer→Jp,int→Ji,string→Js
open Go.IntKind renaming i64→Jl
open _root_.Option renaming none→Jn,some→Jo
open Go renaming World→JW
open _root_.Nat renaming le_refl→T3,eq_zero_or_pos→T9,pow_le_pow_right→Ts,zero_mul→TC,le_succ→TE,lt_or_ge→TJ,pow_succ→TK,mul_comm→TL,mul_zero→TM,zero_add→TN,zero_le→TO,add_mul→TP
open Go.RowKit.Below renaming refl→T4
open _root_.List renaming eq_nil_of_length_eq_zero→T5,length_append→T8,all_append→Tu,take_append_drop→Ty,mem_of_getElem?→TA,append_assoc→TD,all_eq_true→TF,take_length→TG,length_cons→TH,length_take→TI
open _root_.Bool renaming and_eq_true→T6
open Go.World renaming frozen?→T7
open _root_.ByteArray renaming data_append→Tr,data_extract→Tw,size_append→Tz,ext→TB
open _root_.Array renaming getElem?_push→Tt,getElem?_eq_none→Tv
open Go.RowKit
theorem Rf{w:JW}{base:Nat}{e:TypeId}{v:Value}{n:Nat}{xs:List Value}(h:w.ownsRow base e 1 v n xs):∃A c,v= .slice A n c/\IsL w A n c xs/\c<=9223372036854775807:=by
 have hl:xs.length=n:=by simpa using h.1
 rcases h.2 with⟨rfl,rfl⟩|⟨g,cap,cur,rfl,hg,hh,hnc,hcm,hcs,hx⟩
 ·exact⟨Jn,0,rfl,⟨hl,T3 _,fun h=>by omega⟩,by omega⟩
 ·refine⟨_,cap,rfl,⟨hl,hnc,fun _=>⟨g,0,rfl,?_,fun j u hu=>?_⟩⟩,?_⟩
  ·rcases TJ g w.heap.size with h|h
   ·exact h
   ·rw[Tv h]at hh;cases hh
  ·rw[cell_of_row w g (0+j) cur e (0,0) hh];rw[←hx,List.getElem?_take]at hu
   split at hu
   ·simpa using hu
   ·cases hu
  ·unfold maxLen at hcm;omega
theorem MB{l:List UInt8}{k:Nat}{c:UInt8}(h:l[k]?=Jo c)(hc:XV c=false):Yu l=false:=by
 unfold Yu;rw[Bool.eq_false_iff];intro h1;rw[TF]at h1;have:=h1 c (TA h);rw[hc]at this;cases this
theorem MN{l:List UInt8}{k:Nat}{c:UInt8}(h:l[k]?=Jo c)(hc:XV c=true)(hd:Yu (l.take k)=true):Yu (l.take (k+1))=true:=by
 unfold Yu at *
 rw[List.take_add_one,h,Tu,hd];simp[hc]
theorem MJ(s:ByteArray)(w:JW)(hs:s.size<=9223372036854775807) :
  Calls Tryz.prog 129 #[Js s] w fun e w'=>e= .returned (.bool (Yu s.data.toList && decide (0<s.size)))/\w=w':=by
 go_enter Tryz.func129,Tryz.ntmps129;go_wp2_with fail
 go_loop [6] (fun i=>∃k:Nat,k<=s.size/\i=Ji Jl k/\Yu (s.data.toList.take k)=true) (fun i=>s.size-(intOf i).toNat)
 case atStart=>exact⟨0,TO _,rfl,rfl⟩
 case round=>
  obtain⟨k,hk,rfl,hd⟩:=hrel;have Hd:=Lh hd;clear hd;by_cases hlt:k<s.size
  ·have Hat:=Lh (Ev hlt);obtain⟨x,hx⟩:∃x,(s[k]).toNat=x:=⟨_,rfl⟩;have Hx:=Lh hx;by_cases h1:x<48
   ·have hf:Yu s.data.toList=false:=MB Hat.out (by unfold XV;rw[Hx.out];simp;omega);go_wp2;all_goals go_ret
    all_goals simp
   ·by_cases h2:57<x
    ·have hf:Yu s.data.toList=false:=MB Hat.out (by unfold XV;rw[Hx.out];simp;omega);go_wp2;all_goals go_ret
     all_goals simp
    ·have hf:=Lh (MN Hat.out (by unfold XV;rw[Hx.out];simp;omega) Hd.out);go_wp2;go_round
     case rel=>exact⟨k+1,by omega,by go_num,hf.out⟩
     case measure=>simp[intOf];omega
  ·have e:k=s.size:=by omega
   have hall:Yu s.data.toList=true:=by
    have:=Hd.out;rw[e,←UB,TG]at this;exact this
   go_wp2;go_ret;simp
theorem Rq(b:List UInt8):∀n,b.foldl decF n=n*10^b.length+decV b:=by
 induction b with
 | nil=>intro n;simp[decV]
 | cons c b ih=>
  intro n;simp only[List.foldl_cons,TH,decV];rw[ih,ih (decF 0 c),TK,TL (10^_) 10,←Nat.mul_assoc];unfold decF;rw[TP,TP,TM,TC,TN,TL 10 n];omega
theorem H4(a b:List UInt8):decV (a ++ b)=decV a*10^b.length+decV b:=by
 have:=Rq b (decV a);rw[←this];simp[decV,List.foldl_append]
theorem Rg(l:List UInt8)(h:Yu l=true):decV l<10^l.length:=by
 have key:∀(b:List UInt8) (n k:Nat),Yu b=true->n<10^k->b.foldl decF n<10^(k+b.length):=by
  intro b
  induction b with
  | nil=>intro n k _ hn;simpa using hn
  | cons c b ih=>
   intro n k hb hn;unfold Yu at hb ih;simp only[List.all_cons,T6]at hb;have hc:=ED hb.1;rw[List.foldl_cons,TH,show k+(b.length+1)=(k+1)+b.length by omega];refine ih _ _ hb.2 ?_;unfold decF;rw[TK];omega
 have:=key l 0 0 h (by decide);rw[TN]at this;exact this
theorem MZ(A:Option Addr)(c m p:Nat)(w:JW) :
  Calls Tryz.prog 162 #[.slice A 0 c,Ji .u64 (m:Nat),Ji .u64 (p:Nat)] w fun e w'=>e= .returned (Ji .u64 (p:Nat))/\w=w':=by
 go_enter Tryz.func162,Tryz.ntmps162;go_wp2_with fail
 refine wp_loop_rounds 1 ?_;rw[rounds_succ];go_wp2;go_ret;exact⟨rfl,rfl⟩
theorem Rm{w w':JW}{base g n c:Nat}{xs:List Value}{ys:List Nat}(h:w.ownsRow base 154 1 (.slice (Jo ⟨g,0,Jn⟩) n c) n xs)(ho:Only g w w')(hb:Blk w' g ys)(hl:ys.length=n) :
  w'.ownsRow base 154 1 (.slice (Jo ⟨g,0,Jn⟩) n c) n (u64s ys):=by
 refine⟨by simp[u64s,hl],?_⟩;rcases h.2 with⟨h1,_⟩|⟨g',cap,cur,h1,hg,hh,hnc,hcm,hcs,hx⟩
 ·cases h1
 ·injection h1 with h1 _ h3
  injection h1 with h1
  injection h1 with h1
  subst h1 h3;obtain⟨cur',hc,ht⟩:=hb;have hlt:g<w.heap.size:=by
   rcases TJ g w.heap.size with h|h
   ·exact h
   ·rw[Tv h]at hh;cases hh
  have hr:=ho.room hlt;unfold Y5 at hr;rw[hc,hh]at hr;exact .inr ⟨g,c,cur',rfl,hg,hc,hnc,hcm,by rw[←hcs];exact hr,by rw[←hl,Nat.mul_one];exact ht⟩
def M2(w0:JW)(s:ByteArray)(vs va:Value)(wr:JW):Prop:=
 ∃(t:ByteArray) (pre:List UInt8) (xs:List Nat),vs=Js t/\s.data.toList=pre ++ t.data.toList/\Je xs=decV pre/\Jy xs/\(decV pre=0\/t.size%19=0)/\Vf xs/\xs.length<=pre.length /\
  wr.ownsRow w0.heap.size 154 1 va xs.length (u64s xs)/\Below w0.heap.size w0 wr
def MO:Value->Nat
 | Js t=>t.size
 | _=>0
theorem Ro:(Tryz.prog.info? 154).map (fun i=>(i.zero,i.size,i.bytes))=Jo (Jo (Ji .u64 0),1,8):=by kernel_rfl
theorem Ra{w w1:JW}{c:Nat}(s:ByteArray)(hown:w1.ownsRow w.heap.size 154 1 (.slice (Jo ⟨w.heap.size,0,Jn⟩) 0 c) 0 [])(hgr:w.grownBy w1 Jn) :
  M2 w s (Js s) (.slice (Jo ⟨w.heap.size,0,Jn⟩) 0 c) w1:=
 ⟨s,[],[],rfl,rfl,rfl,fun d hd=>by simp at hd,.inl rfl,.inl rfl,T3 _,hown,(T4 w.heap.size w).grown hgr (T3 _) (by simp)⟩
theorem Rw{pre l:List UInt8}{T m P q:Nat}{xs ys zs:List Nat}(hval:Je xs=decV pre)(hmod:decV pre=0\/T%19=0)(hT:0<T)(hm:(T-1)%19+1=m)(hP:decV (l.take m)=P)(hlm:(l.take m).length=m)(hn:ys.length=xs.length)
  (h:Je ys+base xs.length*q=Je xs*10000000000000000000+P) (hz:zs=if q=0 then ys else ys ++ [q]):Je zs=decV (pre ++ l.take m):=by
 have e:Je zs=Je ys+base xs.length*q:=by
  rw[hz]
  split
  ·rename_i hq;subst hq;simp
  ·rw[JB,hn]
 rw[e,h,H4,hlm,hP,hval];rcases hmod with h0|h0
 ·rw[h0,TC,TC]
 ·have:m=19:=by omega
  subst this;rfl
theorem H9{P q:Nat}{xs ys zs:List Nat}(ht:Vf xs)(hn:ys.length=xs.length)(h:Je ys+base xs.length*q=Je xs*10000000000000000000+P)(hz:zs=if q=0 then ys else ys ++ [q]):Vf zs:=by
 unfold Vf at *
 by_cases hq:q=0
 ·subst hq;rw[if_pos rfl]at hz;subst hz;rw[hn];rcases ht with h0|h0
  ·exact .inl h0
  ·right
   rw[TM]at h;omega
 ·rw[if_neg hq]at hz;subst hz
  right
  rw[JB,T8,List.length_singleton,Nat.add_sub_cancel];have:base ys.length*1<=base ys.length*q:=Nat.mul_le_mul_left _ (by omega);omega
theorem MV(t:ByteArray)(m:Nat):(t.extract m t.size).size=t.size-m:=by simp
theorem ME{w wn:JW}{s t:ByteArray}{pre:List UInt8}{m P q:Nat}{xs ys zs:List Nat}{va:Value}(hcat:s.data.toList=pre ++ t.data.toList)(hval:Je xs=decV pre)(hmod:decV pre=0\/t.size%19=0)(hT:0<t.size)(hm:(t.size-1)%19+1=m)(hm2:m<=t.size)
  (hP:decV (t.data.toList.take m)=P) (hlen:xs.length<=pre.length) (ht:Vf xs) (hn:ys.length=xs.length) (hy:Jy ys) (hq:q<18446744073709551616) (h:Je ys+base xs.length*q=Je xs*10000000000000000000+P) (hz:zs=if q=0 then ys else ys ++ [q])
  (hown:wn.ownsRow w.heap.size 154 1 va zs.length (u64s zs)) (hbel:Below w.heap.size w wn):M2 w s (Js (t.extract m t.size)) va wn:=by
 have hlm:(t.data.toList.take m).length=m:=by rw[TI,UB];omega
 refine⟨t.extract m t.size,pre ++ t.data.toList.take m,zs,rfl,?_,Rw hval hmod hT hm hP hlm hn h hz,?_,.inr ?_,H9 ht hn h hz,?_,hown,hbel⟩
 ·rw[Gk,TD,Ty];exact hcat
 ·rw[hz]
  split
  ·exact hy
  ·intro d hd;rw[List.mem_append,List.mem_singleton]at hd;rcases hd with hd|hd
   ·exact hy d hd
   ·rw[hd];exact hq
 ·rw[MV];omega
 ·have:zs.length<=ys.length+1:=by rw[hz];split <;> simp
  rw[T8,hlm];omega
theorem Rz{s t:ByteArray}{pre:List UInt8}{k:Nat}(hd:Yu s.data.toList=true)(hcat:s.data.toList=pre ++ t.data.toList):decV (t.data.toList.take k)<10^k:=by
 have h1:Yu (t.data.toList.take k)=true:=by
  unfold Yu at *
  rw[hcat,Tu,T6]at hd;rw[TF]at *
  exact fun x hx=>List.all_eq_true.mp hd.2 x (List.mem_of_mem_take hx)
 refine Nat.lt_of_lt_of_le (Rg _ h1) (Ts (by decide) ?_);rw[TI];omega
theorem RE{s t:ByteArray}{pre:List UInt8}{k y:Nat}(hd:Yu s.data.toList=true)(hcat:s.data.toList=pre ++ t.data.toList)(hk:k<t.size)(hy:(t[k]).toNat=y):(48<=y/\y<=57)/\decV (t.data.toList.take (k+1))=10*decV (t.data.toList.take k)+(y-48):=by
 have hat:=Ev hk;constructor
 ·unfold Yu at hd;rw[hcat,Tu,T6]at hd;have:=List.all_eq_true.mp hd.2 _ (TA hat);unfold XV at this;rw[hy]at this;simpa using this
 ·rw[List.take_add_one,hat];simp only[Option.toList_some];rw[Z5];unfold dig;rw[hy]
theorem Rc{P y k:Nat}(hk:k<19)(hP:P<10^k)(hy:48<=y/\y<=57):IntKind.u64.wrap ((P:Int)*10)=(P:Int)*10/\IntKind.u64.wrap ((P:Int)*10+((y:Int)-48))=(P:Int)*10+((y:Int)-48):=by
 have h1:(10:Nat)^k<=10^18:=Ts (by decide) (by omega);have h2:(10:Nat)^18=1000000000000000000:=by decide
 rw[h2]at h1;constructor <;> rw[Jr] <;> omega
theorem MX{w w2 w3:JW}{n q:Nat}{ys:List Nat}{va v':Value}(hn:ys.length=n)(hown:w2.ownsRow w.heap.size 154 1 va n (u64s ys))(hbel:Below w.heap.size w w2)
  (hown':w3.ownsRow w.heap.size 154 1 v' (n+1) (u64s ys ++ [Ji .u64 (q:Nat)])) (hgrow:(w2.alloc (.cells #[Ji .u64 (q:Nat)] 154)).grownBy w3 va.ownBlock) :
  w3.ownsRow w.heap.size 154 1 v' (ys ++ [q]).length (u64s (ys ++ [q]))/\Below w.heap.size w w3:=by
 refine⟨by simpa[u64s,hn]using hown',?_⟩;exact(hbel.alloc hbel.size _).grown hgrow (by simp;have:=hbel.size;omega) (fun k hk=>Ez hown hk)
theorem Rb(P:Nat):Je []+base ([]:List Nat).length*P=Je []*10000000000000000000+P:=by simp[Je,base]
theorem RK{P k:Nat}(hk:k<=19)(h:P<10^k):P<18446744073709551616:=by
 have h1:(10:Nat)^k<=10^19:=Ts (by decide) hk;have h2:(10:Nat)^19=10000000000000000000:=by decide
 rw[h2]at h1;omega
theorem MP(s:ByteArray)(w:JW)(hs:s.size<=1300)(hd:Yu s.data.toList=true) :
  Calls Tryz.prog 130 #[Js s] w fun e w'=>∃(va:Value) (xs:List Nat),e= .returned va/\Je xs=decV s.data.toList/\Jy xs/\Vf xs/\w'.ownsRow w.heap.size 154 1 va xs.length (u64s xs)/\Below w.heap.size w w':=by
 obtain⟨i0,hi,hz0,hz1,hz2⟩:=info_parts Ro;have Hd:=Lh hd;clear hd;obtain⟨q,hq⟩:∃q:Nat,s.size/19=q:=⟨_,rfl⟩;have hq1:(s.size:Int)/19=(q:Int):=by omega
 have hq2:q<=1300:=by omega
 clear hq;go_enter Tryz.func130,Tryz.ntmps130;go_wp2_with (at_make;refine wpList_make_own _ rfl _ _ 159 rfl w.heap.size 154 i0 (Ji .u64 0) 1 Tryz.underlying159 hi hz0 hz1 _ _ _ (q+1) rfl rfl (by omega) (by rw[hz2];omega) (by unfold maxLen;omega) (T3 _) ?_)
 intro w1 hown1 hgr1;have Hst:=Lh (Ra s hown1 hgr1);clear hown1 hgr1;go_wp2_with fail
 go_loopw [0,3] (fun vs va wr=>M2 w s vs va wr) (fun vs _ _=>MO vs)
 case atStart=>exact Hst.out
 case round=>
  obtain⟨t,pre,xs,rfl,hcat,hval,hw,hmod,htight,hlen,hown,hbel⟩:=hrel;have hsz:pre.length+t.size=s.size:=by have:=congrArg List.length hcat;rw[T8,UB,UB]at this;omega
  have Hcat:=Lh hcat;have Hval:=Lh hval;have Hw:=Lh hw;have Hmod:=Lh hmod;have Htight:=Lh htight;have Hown:=Lh hown;have Hbel:=Lh hbel;have hsize:=hbel.size;by_cases h0:t.size=0
  ·have hnil:t.data.toList=[]:=T5 (by rw[UB];exact h0);have hfin:Je xs=decV s.data.toList:=by rw[hcat,hnil,List.append_nil];exact hval
   have Hfin:=Lh hfin;clear hcat hval hw hmod htight hown hbel hfin hnil;go_wp2;go_ret;exact⟨_,xs,rfl,Hfin.out,Hw.out,Htight.out,Hown.out,Hbel.out⟩
  ·clear hcat hval hw hmod htight hown hbel;have hpos:0<t.size:=by omega
   obtain⟨m,hm⟩:∃m:Nat,(t.size-1)%19+1=m:=⟨_,rfl⟩;have hm0:1<=m:=by omega
   have hm1:m<=19:=by omega
   have hm2:m<=t.size:=by omega
   have hm3:((t.size:Int)-1)%19+1=(m:Int):=by omega
   have Hm:=Lh hm;clear hm;go_wp2_with fail
   go_loop [5,22] (fun vp vi=>∃k:Nat,k<=m/\vi=Ji Jl k/\vp=Ji .u64 (decV (t.data.toList.take k):Nat)) (fun _ vi=>m-(intOf vi).toNat)
   case atStart=>exact⟨0,TO _,rfl,rfl⟩
   case round=>
    obtain⟨k,hk,rfl,rfl⟩:=hrel;obtain⟨P,hP⟩:∃P,decV (t.data.toList.take k)=P:=⟨_,rfl⟩;rw[hP];have HP:=Lh hP;have hPlt:=Rz (k:=k) Hd.out Hcat.out;rw[hP]at hPlt;have HPlt:=Lh hPlt;clear hP hPlt;by_cases hkm:k<m
    ·have hkt:k<t.size:=by omega
     obtain⟨y,hy⟩:∃y,(t[k]).toNat=y:=⟨_,rfl⟩;obtain⟨⟨hy1,hy2⟩,hnext⟩:=RE Hd.out Hcat.out hkt hy;obtain⟨e1,e2⟩:=Rc (by omega) HPlt.out ⟨hy1,hy2⟩;rw[HP.out]at hnext;have Hnext:=Lh hnext;clear hnext;go_wp2;go_round
     case rel=>exact⟨k+1,by omega,by go_num,by rw[Hnext.out];congr 1;omega⟩
     case measure=>simp[intOf];omega
    ·obtain rfl:k=m:=by omega
     have hPw:=RK hm1 HPlt.out;have HPw:=Lh hPw;clear hPw;rcases T9 xs.length with hx0|hx0
     ·have hxn:xs=[]:=T5 hx0;subst hxn;obtain⟨A,c,rfl,_,_⟩:=Rf Hown.out;go_wp2_with fail
      refine(MZ A c 10000000000000000000 P _).mono ?_;rintro e w2⟨rfl,rfl⟩;have Hown2:=Hown;have Hbel2:=Hbel;have Hyw:=Hw;have Hq:=HPw;have Hyv:=Lh (Rb P);by_cases hq0:P=0
      ·have Hq0:=Lh hq0;have hfin:=ME Hcat.out Hval.out Hmod.out hpos Hm.out hm2 HP.out hlen Htight.out rfl Hyw.out Hq.out Hyv.out (by rw[if_pos hq0]) Hown2.out Hbel2.out;have Hfin:=Lh hfin;clear hfin;have t1:((P:Int) ==0)=true:=by rw[beq_iff_eq];omega
       go_wp2;go_roundw;case rel=>exact Hfin.out
       case measure=>simp[MO];omega
      ·have t1:((P:Int) ==0)=false:=by rw[beq_eq_false_iff_ne];omega
       go_wp2_with (at_builtin;refine wpList_append_own _ rfl _ _ 159 rfl w.heap.size 154 i0 (Ji .u64 0) 1 8 Tryz.underlying159 hi hz0 hz1 hz2 rfl (by decide) _ _ _ rfl (Hown2.out.alloc _) ⟨wr.heap.size,0,Jn⟩ 1 1 [Ji .u64 (P:Nat)] rfl rfl (fun k u hu=>by match k,hu with|0,hu=>simp at hu;subst hu;simp[Addr.add]) (fun u hu=>by simp at hu;subst hu;rfl) (by unfold maxLen;omega) (by omega) (by simp;omega) ?_)
       intro v' w3 hown3 hgrow _;obtain⟨hown4,hbel4⟩:=MX rfl Hown2.out Hbel2.out hown3 hgrow;have hfin:=ME Hcat.out Hval.out Hmod.out hpos Hm.out hm2 HP.out hlen Htight.out rfl Hyw.out Hq.out Hyv.out (by rw[if_neg hq0]) hown4 hbel4;have Hfin:=Lh hfin;clear hfin hown3 hgrow hown4 hbel4;go_wp2;go_roundw;case rel=>exact Hfin.out
       case measure=>simp[MO];omega
     ·obtain⟨n,hn⟩:∃n,xs.length=n:=⟨_,rfl⟩;have hown':=Hown.out;rw[hn]at hown' hx0 hlen;obtain⟨g,c,rfl,hnc,hcm,hgb,hblk⟩:=Blk.of_own hown' hx0;have Hblk:=Lh hblk;have Hown':=Lh hown';have Hn:=Lh hn;clear hblk hown' hn;go_wp2_with fail
      refine(XS g 0 n c xs 10000000000000000000 P _ Hblk.out (by rw[Hn.out];omega) Hw.out (by decide) HPw.out (by omega) (by decide)).mono ?_;rintro e w2⟨ys,qq,rfl,hyl,hq,hyw,hyv,hb2,ho2⟩;have e:put xs 0 ys=ys:=by
       have:=Hn.out;simp[put,hyl,this]
      rw[e]at hb2;rw[List.drop_zero,←Hn.out,TG]at hyv;have hsize2:=ho2.size;have Hown2:=Lh (Rm Hown'.out ho2 hb2 hyl);have Hbel2:=Lh (Below.only Hbel.out ho2 hgb hsize);have Hyn:=Lh hyl;have Hyw:=Lh hyw;have Hq:=Lh hq;have Hyv:=Lh hyv;have hlenx:xs.length<=pre.length:=by rw[Hn.out];exact hlen
      have Hlenx:=Lh hlenx;clear hyl hyw hq hyv hb2 ho2 e hlenx;by_cases hq0:qq=0
      ·have Hq0:=Lh hq0;have hfin:=ME Hcat.out Hval.out Hmod.out hpos Hm.out hm2 HP.out Hlenx.out Htight.out (Hyn.out.trans Hn.out.symm) Hyw.out Hq.out Hyv.out (by rw[if_pos hq0]) (by rw[Hyn.out];exact Hown2.out) Hbel2.out;have Hfin:=Lh hfin;clear hfin;have t1:((qq:Int) ==0)=true:=by rw[beq_iff_eq];omega
       go_wp2;go_roundw;case rel=>exact Hfin.out
       case measure=>simp[MO];omega
      ·have t1:((qq:Int) ==0)=false:=by rw[beq_eq_false_iff_ne];omega
       go_wp2_with (at_builtin;refine wpList_append_own _ rfl _ _ 159 rfl w.heap.size 154 i0 (Ji .u64 0) 1 8 Tryz.underlying159 hi hz0 hz1 hz2 rfl (by decide) _ _ _ rfl (Hown2.out.alloc _) ⟨w2.heap.size,0,Jn⟩ 1 1 [Ji .u64 (qq:Nat)] rfl rfl (fun k u hu=>by match k,hu with|0,hu=>simp at hu;subst hu;simp[Addr.add]) (fun u hu=>by simp at hu;subst hu;rfl) (by unfold maxLen;omega) (by omega) (by simp;omega) ?_)
       intro v' w3 hown3 hgrow _;obtain⟨hown4,hbel4⟩:=MX Hyn.out Hown2.out Hbel2.out hown3 hgrow;have hfin:=ME Hcat.out Hval.out Hmod.out hpos Hm.out hm2 HP.out Hlenx.out Htight.out (Hyn.out.trans Hn.out.symm) Hyw.out Hq.out Hyv.out (by rw[if_neg hq0]) hown4 hbel4;have Hfin:=Lh hfin;clear hfin hown3 hgrow hown4 hbel4;go_wp2;go_roundw;case rel=>exact Hfin.out
       case measure=>simp[MO];omega
theorem M8{s:ByteArray}{x:Nat}(h:0<s.size)(hx:(s[0]).toNat=x):XU s=decide (x=45):=by
 unfold XU;rw[KW h];by_cases e:x=45
 ·subst e;rw[Ej (by decide) hx];rfl
 ·rw[decide_eq_false e];rw[beq_eq_false_iff_ne];intro h1
  injection h1 with h1
  rw[h1]at hx;exact e hx.symm
theorem M7{s:ByteArray}{x:Nat}(h:0<s.size)(hx:(s[0]).toNat=x):XT s=decide (x=48):=by
 unfold XT;rw[KW h];by_cases e:x=48
 ·subst e;rw[Ej (by decide) hx];rfl
 ·rw[decide_eq_false e];rw[beq_eq_false_iff_ne];intro h1
  injection h1 with h1
  rw[h1]at hx;exact e hx.symm
theorem M9{s:ByteArray}(h:s.size=0):XU s=false:=by
 unfold XU;have:s.data.toList=[]:=T5 (by rw[UB];exact h);rw[this];rfl
theorem Rx{xs:List Nat}{k:Nat}(ht:Vf xs)(h:Je xs<10^k):19*xs.length<=k+19:=by
 rcases ht with h0|h0
 ·omega
 ·have h1:(10:Nat)^(19*(xs.length-1))<=base (xs.length-1):=by
   rw[Nat.pow_mul];exact Nat.pow_le_pow_left (by decide) _
  have h2:19*(xs.length-1)<k:=(Nat.pow_lt_pow_iff_right (by decide:1<10)).mp (by omega);omega
theorem My(s:ByteArray)(w:JW)(hs:s.size<=1300)(hd:Yu s.data.toList=true) :
  Calls Tryz.prog 130 #[Js s] w fun e w'=>∃(A:Option Addr) (n c:Nat) (xs:List Nat),e= .returned (.slice A n c)/\Je xs=decV s.data.toList/\IsL w' A n c (u64s xs)/\Jy xs/\Vf xs/\n<1000/\c<=9223372036854775807/\(∀a:Addr,A=Jo a->w.heap.size<=a.block)/\Below w.heap.size w w':=by
 refine(MP s w (by omega) hd).mono ?_;rintro e w' ⟨va,xs,rfl,hval,hw,ht,hown,hbel⟩;obtain⟨A,c,rfl,hl,hc⟩:=Rf hown;have h1:=Rg _ hd;rw[←hval,UB]at h1;have:=Rx ht h1;exact⟨A,_,c,xs,rfl,hval,hl,hw,ht,by omega,hc,fun a e=>Ez hown (by rw[e];rfl),hbel⟩
theorem MH(d:ByteArray)(w:JW)(hs:d.size<=1300)(had:Yu d.data.toList=true)(h0:0<d.size) :
  Calls Tryz.prog 129 #[Js d] w fun e w'=>e= .returned (.bool true)/\w=w':=by
 have:=MJ d w (by omega);rw[had,decide_eq_true h0]at this;exact this
theorem Mx(d:ByteArray)(w:JW)(hs:d.size<=1300)(h:Yu d.data.toList=false\/d.size=0) :
  Calls Tryz.prog 129 #[Js d] w fun e w'=>e= .returned (.bool false)/\w=w':=by
 have:=MJ d w (by omega);rcases h with h|h
 ·rw[h]at this;exact this
 ·rw[decide_eq_false (by omega),Bool.and_false]at this;exact this
theorem Rk(s:ByteArray)(w:JW)(hs:s.size<=1300)(h0:0<s.size)(hx:(s[0]).toNat=45) :
  Calls Tryz.prog 95 #[Js s] w fun e w'=>∃v,e= .returned (.tuple #[v,Ji Jl (UM s)])/\(UM s=0->Jj w.heap.size w' v (Jx (XU s) (decV (QD s).data.toList)))/\(UM s≠0->v=JN 0)/\Below w.heap.size w w':=by
 have hneg:=M8 h0 hx;have hb:QD s=s.extract 1 s.size:=by unfold QD;rw[hneg];rfl
 obtain⟨d,hd⟩:∃d,s.extract 1 s.size=d:=⟨_,rfl⟩;have hds:d.size=s.size-1:=by rw[←hd,ZB]
 rw[hd]at hb;have He:=Lh (OU hb);rw[hneg,hb];obtain⟨E,hE⟩:∃E,UM s=E:=⟨_,rfl⟩;rw[hE]at He ⊢;clear hE hneg hb;cases had:Yu d.data.toList
 ·have Hdig:=Lh (fun w=>Mx d w (by omega) (.inl had));have hE1:E=14:=He.out.2.1 had;clear had;subst hE1;go_enter Tryz.func95,Tryz.ntmps95;go_wp2_with fail
  refine(Hdig.out _).mono ?_;rintro e w1⟨rfl,rfl⟩;go_wp2;exact bodyPost_ret (v:= .tuple #[JN 0,Ji Jl 14]) (by simp[results,Tryz.results95,go_sem]) rfl ⟨_,rfl,fun h=>absurd h (by decide),fun _=>rfl,(T4 w.heap.size w).alloc (T3 _) _⟩
 ·rcases T9 d.size with hd0|hd0
  ·have Hdig:=Lh (fun w=>Mx d w (by omega) (.inr hd0));have hE1:E=14:=He.out.1 hd0;clear had;subst hE1;go_enter Tryz.func95,Tryz.ntmps95;go_wp2_with fail
   refine(Hdig.out _).mono ?_;rintro e w1⟨rfl,rfl⟩;go_wp2;exact bodyPost_ret (v:= .tuple #[JN 0,Ji Jl 14]) (by simp[results,Tryz.results95,go_sem]) rfl ⟨_,rfl,fun h=>absurd h (by decide),fun _=>rfl,(T4 w.heap.size w).alloc (T3 _) _⟩
  ·have Hdig:=Lh (fun w=>MH d w (by omega) had hd0);obtain⟨y,hy⟩:∃y,(d[0]).toNat=y:=⟨_,rfl⟩;have hl0:=M7 hd0 hy;by_cases h48:y=48
   ·have hE1:E=3:=He.out.2.2.1 had hd0 (by rw[hl0,decide_eq_true h48]) (by omega);clear hl0 had;subst hE1;subst h48;go_enter Tryz.func95,Tryz.ntmps95;go_wp2_with fail
    refine(Hdig.out _).mono ?_;rintro e w1⟨rfl,rfl⟩;go_wp2;all_goals first|exact bodyPost_ret (v:= .tuple #[JN 0,Ji Jl 3]) (by simp[results,Tryz.results95,go_sem]) rfl ⟨_,rfl,fun h=>absurd h (by decide),fun _=>rfl,(T4 w.heap.size w).alloc (T3 _) _⟩|exact bodyPost_ret (v:= .tuple #[JN 0,Ji Jl 3]) (by simp[results,Tryz.results95,go_sem]) rfl ⟨_,rfl,rfl,(T4 w.heap.size w).alloc (T3 _) _⟩
   ·have hE1:E=0:=He.out.2.2.2 had hd0 (fun h=>by have h1:=h.1;rw[hl0,decide_eq_false h48]at h1;cases h1);have hy48:((y:Int) ==48)=false:=by rw[beq_eq_false_iff_ne];omega
    have Hread:=Lh (fun w=>My d w (by omega) had);clear hl0 had;subst hE1;go_enter Tryz.func95,Tryz.ntmps95;go_wp2_with fail
    refine(Hdig.out _).mono ?_;rintro e w1⟨rfl,rfl⟩;go_wp2_with fail
    refine(Hread.out _).mono ?_;rintro e w2⟨A,n,c,xs,rfl,hval,hl,hw,ht,hn,hc,hA,hbel⟩;have Hsig:=Lh (OI (w.heap.size+1) A n c xs true w2 hl hw ht hn hc (by have:=hbel.size;simpa using this) (by simpa using hA));have Hbel:=Lh hbel;rw[hval]at Hsig;clear hval hl hw ht hbel hA;go_wp2_with fail
    refine Hsig.out.mono ?_;rintro e w3⟨v,rfl,hint,hbel3⟩;obtain⟨a,P,rfl⟩:=hint.form;have hc3:w3.heap[w.heap.size]?=Jo (.cells #[Ji Jl 0,Jp Jn] 29 (0,0)):=by
     rw[hbel3.block _ (by have:=Hbel.out.size;simp at this;omega),Hbel.out.block _ (by simp)];show(w.heap.push _)[w.heap.size]?=_;rw[Tt,if_pos rfl]
    have k0:w3.cell? ⟨w.heap.size,0,Jn⟩=Jo (Ji Jl 0):=by rw[cell_of_row _ _ _ _ _ _ hc3];rfl
    have k1:w3.cell? ⟨w.heap.size,1,Jn⟩=Jo (Jp Jn):=by rw[cell_of_row _ _ _ _ _ _ hc3];rfl
    have f0:w3.frozen? ⟨w.heap.size,0,Jn⟩=false:=by simp[T7,hc3]
    have f1:w3.frozen? ⟨w.heap.size,1,Jn⟩=false:=by simp[T7,hc3]
    have Hc3:=Lh hc3;clear hc3;have Hint:=Lh hint;have Hbel3:=Lh hbel3;clear hint hbel3;go_wp2_with fail
    have Hi:=Lh (((Hint.out.set_ (i:=0) (u:=Ji Jl a)).set_ (i:=1) (u:=Jp P)).mono (TE _));have Hb:=Lh ((((((T4 w.heap.size w).alloc (T3 _) _).trans (Hbel.out.mono (by simp))).trans (Hbel3.out.mono (by have:=Hbel.out.size;simp at this;omega))).setCell (p:=⟨w.heap.size,0,Jn⟩) (T3 w.heap.size) (Ji Jl a)).setCell (p:=⟨w.heap.size,1,Jn⟩) (T3 w.heap.size) (Jp P));exact bodyPost_ret (v:= .tuple #[.agg #[Ji Jl a,Jp P],Ji Jl 0]) (by simp[results,Tryz.results95,go_sem,k0,k1]) rfl ⟨_,rfl,fun _=>Hi.out,fun h=>absurd rfl h,Hb.out⟩
theorem Rj(s:ByteArray)(w:JW)(hs:s.size<=1300)(h0:0<s.size)(x:Nat)(hx:(s[0]).toNat=x)(h45:x≠45) :
  Calls Tryz.prog 95 #[Js s] w fun e w'=>∃v,e= .returned (.tuple #[v,Ji Jl (UM s)])/\(UM s=0->Jj w.heap.size w' v (Jx (XU s) (decV (QD s).data.toList)))/\(UM s≠0->v=JN 0)/\Below w.heap.size w w':=by
 have hneg:=M8 h0 hx;have hb:QD s=s:=by unfold QD;rw[hneg,decide_eq_false h45];rfl
 have hx45:((x:Int) ==45)=false:=by rw[beq_eq_false_iff_ne];omega
 have He:=Lh (OU hb);rw[hneg,decide_eq_false h45,hb];obtain⟨E,hE⟩:∃E,UM s=E:=⟨_,rfl⟩;rw[hE]at He ⊢;clear hE hneg hb;cases had:Yu s.data.toList
 ·have Hdig:=Lh (fun w=>Mx s w (by omega) (.inl had));have hE1:E=14:=He.out.2.1 had;clear had;subst hE1;go_enter Tryz.func95,Tryz.ntmps95;go_wp2_with fail
  refine(Hdig.out _).mono ?_;rintro e w1⟨rfl,rfl⟩;go_wp2;exact bodyPost_ret (v:= .tuple #[JN 0,Ji Jl 14]) (by simp[results,Tryz.results95,go_sem]) rfl ⟨_,rfl,fun h=>absurd h (by decide),fun _=>rfl,(T4 w.heap.size w).alloc (T3 _) _⟩
 ·rcases T9 s.size with hd0|hd0
  ·omega
  ·have Hdig:=Lh (fun w=>MH s w (by omega) had hd0);have hl0:=M7 hd0 hx;by_cases h48:x=48
   ·by_cases hone:1<s.size
    ·have hE1:E=3:=He.out.2.2.1 had hd0 (by rw[hl0,decide_eq_true h48]) (.inl hone);clear hl0 had;subst hE1;subst h48;go_enter Tryz.func95,Tryz.ntmps95;go_wp2_with fail
     refine(Hdig.out _).mono ?_;rintro e w1⟨rfl,rfl⟩;go_wp2;all_goals first|exact bodyPost_ret (v:= .tuple #[JN 0,Ji Jl 3]) (by simp[results,Tryz.results95,go_sem]) rfl ⟨_,rfl,fun h=>absurd h (by decide),fun _=>rfl,(T4 w.heap.size w).alloc (T3 _) _⟩|exact bodyPost_ret (v:= .tuple #[JN 0,Ji Jl 3]) (by simp[results,Tryz.results95,go_sem]) rfl ⟨_,rfl,rfl,(T4 w.heap.size w).alloc (T3 _) _⟩
    ·have hE1:E=0:=He.out.2.2.2 had hd0 (fun h=>hone (by omega));subst h48;have Hread:=Lh (fun w=>My s w (by omega) had);clear hl0 had;subst hE1;go_enter Tryz.func95,Tryz.ntmps95;go_wp2_with fail
     refine(Hdig.out _).mono ?_;rintro e w1⟨rfl,rfl⟩;go_wp2_with fail
     refine(Hread.out _).mono ?_;rintro e w2⟨A,n,c,xs,rfl,hval,hl,hw,ht,hn,hc,hA,hbel⟩;have Hsig:=Lh (OI (w.heap.size+1) A n c xs false w2 hl hw ht hn hc (by have:=hbel.size;simpa using this) (by simpa using hA));have Hbel:=Lh hbel;rw[hval]at Hsig;clear hval hl hw ht hbel hA;go_wp2_with fail
     refine Hsig.out.mono ?_;rintro e w3⟨v,rfl,hint,hbel3⟩;obtain⟨a,P,rfl⟩:=hint.form;have hc3:w3.heap[w.heap.size]?=Jo (.cells #[Ji Jl 0,Jp Jn] 29 (0,0)):=by
      rw[hbel3.block _ (by have:=Hbel.out.size;simp at this;omega),Hbel.out.block _ (by simp)];show(w.heap.push _)[w.heap.size]?=_;rw[Tt,if_pos rfl]
     have k0:w3.cell? ⟨w.heap.size,0,Jn⟩=Jo (Ji Jl 0):=by rw[cell_of_row _ _ _ _ _ _ hc3];rfl
     have k1:w3.cell? ⟨w.heap.size,1,Jn⟩=Jo (Jp Jn):=by rw[cell_of_row _ _ _ _ _ _ hc3];rfl
     have f0:w3.frozen? ⟨w.heap.size,0,Jn⟩=false:=by simp[T7,hc3]
     have f1:w3.frozen? ⟨w.heap.size,1,Jn⟩=false:=by simp[T7,hc3]
     have Hc3:=Lh hc3;clear hc3;have Hint:=Lh hint;have Hbel3:=Lh hbel3;clear hint hbel3;go_wp2_with fail
     have Hi:=Lh (((Hint.out.set_ (i:=0) (u:=Ji Jl a)).set_ (i:=1) (u:=Jp P)).mono (TE _));have Hb:=Lh ((((((T4 w.heap.size w).alloc (T3 _) _).trans (Hbel.out.mono (by simp))).trans (Hbel3.out.mono (by have:=Hbel.out.size;simp at this;omega))).setCell (p:=⟨w.heap.size,0,Jn⟩) (T3 w.heap.size) (Ji Jl a)).setCell (p:=⟨w.heap.size,1,Jn⟩) (T3 w.heap.size) (Jp P));exact bodyPost_ret (v:= .tuple #[.agg #[Ji Jl a,Jp P],Ji Jl 0]) (by simp[results,Tryz.results95,go_sem,k0,k1]) rfl ⟨_,rfl,fun _=>Hi.out,fun h=>absurd rfl h,Hb.out⟩
   ·have hE1:E=0:=He.out.2.2.2 had hd0 (fun h=>by have h1:=h.1;rw[hl0,decide_eq_false h48]at h1;cases h1);have hx48:((x:Int) ==48)=false:=by rw[beq_eq_false_iff_ne];omega
    have Hread:=Lh (fun w=>My s w (by omega) had);clear hl0 had;subst hE1;go_enter Tryz.func95,Tryz.ntmps95;go_wp2_with fail
    refine(Hdig.out _).mono ?_;rintro e w1⟨rfl,rfl⟩;go_wp2_with fail
    refine(Hread.out _).mono ?_;rintro e w2⟨A,n,c,xs,rfl,hval,hl,hw,ht,hn,hc,hA,hbel⟩;have Hsig:=Lh (OI (w.heap.size+1) A n c xs false w2 hl hw ht hn hc (by have:=hbel.size;simpa using this) (by simpa using hA));have Hbel:=Lh hbel;rw[hval]at Hsig;clear hval hl hw ht hbel hA;go_wp2_with fail
    refine Hsig.out.mono ?_;rintro e w3⟨v,rfl,hint,hbel3⟩;obtain⟨a,P,rfl⟩:=hint.form;have hc3:w3.heap[w.heap.size]?=Jo (.cells #[Ji Jl 0,Jp Jn] 29 (0,0)):=by
     rw[hbel3.block _ (by have:=Hbel.out.size;simp at this;omega),Hbel.out.block _ (by simp)];show(w.heap.push _)[w.heap.size]?=_;rw[Tt,if_pos rfl]
    have k0:w3.cell? ⟨w.heap.size,0,Jn⟩=Jo (Ji Jl 0):=by rw[cell_of_row _ _ _ _ _ _ hc3];rfl
    have k1:w3.cell? ⟨w.heap.size,1,Jn⟩=Jo (Jp Jn):=by rw[cell_of_row _ _ _ _ _ _ hc3];rfl
    have f0:w3.frozen? ⟨w.heap.size,0,Jn⟩=false:=by simp[T7,hc3]
    have f1:w3.frozen? ⟨w.heap.size,1,Jn⟩=false:=by simp[T7,hc3]
    have Hc3:=Lh hc3;clear hc3;have Hint:=Lh hint;have Hbel3:=Lh hbel3;clear hint hbel3;go_wp2_with fail
    have Hi:=Lh (((Hint.out.set_ (i:=0) (u:=Ji Jl a)).set_ (i:=1) (u:=Jp P)).mono (TE _));have Hb:=Lh ((((((T4 w.heap.size w).alloc (T3 _) _).trans (Hbel.out.mono (by simp))).trans (Hbel3.out.mono (by have:=Hbel.out.size;simp at this;omega))).setCell (p:=⟨w.heap.size,0,Jn⟩) (T3 w.heap.size) (Ji Jl a)).setCell (p:=⟨w.heap.size,1,Jn⟩) (T3 w.heap.size) (Jp P));exact bodyPost_ret (v:= .tuple #[.agg #[Ji Jl a,Jp P],Ji Jl 0]) (by simp[results,Tryz.results95,go_sem,k0,k1]) rfl ⟨_,rfl,fun _=>Hi.out,fun h=>absurd rfl h,Hb.out⟩
theorem M6(s:ByteArray)(w:JW)(h0:s.size=0) :
  Calls Tryz.prog 95 #[Js s] w fun e w'=>e= .returned (.tuple #[JN 0,Ji Jl 14])/\Below w.heap.size w w':=by
 have Hdig:=Lh (fun w=>Mx s w (by omega) (.inr h0));go_enter Tryz.func95,Tryz.ntmps95;go_wp2_with fail
 refine(Hdig.out _).mono ?_;rintro e w1⟨rfl,rfl⟩;go_wp2;exact bodyPost_ret (v:= .tuple #[JN 0,Ji Jl 14]) (by simp[results,Tryz.results95,go_sem]) rfl ⟨rfl,(T4 w.heap.size w).alloc (T3 _) _⟩
theorem MF(s:ByteArray)(w:JW)(hs:s.size<=1300) :
  Calls Tryz.prog 95 #[Js s] w fun e w'=>∃v,e= .returned (.tuple #[v,Ji Jl (UM s)])/\(UM s=0->Jj w.heap.size w' v (Jx (XU s) (decV (QD s).data.toList)))/\(UM s≠0->v=JN 0)/\Below w.heap.size w w':=by
 rcases T9 s.size with h0|h0
 ·have hb:QD s=s:=by unfold QD;rw[M9 h0];rfl
  have he:=(OU hb).1 h0;rw[he];refine(M6 s w h0).mono ?_;rintro e w' ⟨rfl,hb⟩;exact⟨_,rfl,fun h=>absurd h (by decide),fun _=>rfl,hb⟩
 ·by_cases h45:(s[0]).toNat=45
  ·exact Rk s w hs h0 h45
  ·exact Rj s w hs h0 _ rfl h45
theorem RF(T U:ByteArray):(T ++ ⟨#[47]⟩ ++ U).extract 0 T.size=T:=by
 apply TB;simp[Tr,Tw]
theorem Rr(T U:ByteArray):(T ++ ⟨#[47]⟩ ++ U).extract (T.size+1) (T ++ ⟨#[47]⟩ ++ U).size=U:=by
 apply TB;apply Array.toList_inj.1;rw[Gk];have e:(T ++ ⟨#[47]⟩ ++ U).data.toList=(T.data.toList ++ [47]) ++ U.data.toList:=by simp[Tr]
 rw[e];exact List.drop_left' (by rw[T8,UB];rfl)
theorem H8(s:ByteArray):Xq s<=s.size:=by
 have:=List.findIdx_le_length (xs:=s.data.toList) (p:=(· ==47))
 rwa [UB]at this
theorem M4{s:ByteArray}(h:Xq s<s.size):s=s.extract 0 (Xq s) ++ ⟨#[47]⟩ ++ s.extract (Xq s+1) s.size:=by
 have hlt:Xq s<s.data.toList.length:=by rw[UB];exact h
 have h47:=List.findIdx_getElem (xs:=s.data.toList) (p:=(· ==47)) (w:=hlt);have h47:s.data.toList[Xq s]=47:=eq_of_beq h47;apply TB;apply Array.toList_inj.1;have e:(s.extract 0 (Xq s) ++ ⟨#[47]⟩ ++ s.extract (Xq s+1) s.size).data.toList=(s.extract 0 (Xq s)).data.toList ++ [47] ++ (s.extract (Xq s+1) s.size).data.toList:=by simp[Tr]
 rw[e,Gk];have e2:(s.extract 0 (Xq s)).data.toList=s.data.toList.take (Xq s):=by simp[Tw]
 rw[e2,TD,List.singleton_append,←h47,←List.drop_eq_getElem_cons hlt,Ty]
theorem MI(T U:ByteArray):(T ++ ⟨#[47]⟩ ++ U).size=T.size+1+U.size:=by rw[Tz,Tz];rfl
theorem RM{s:ByteArray}(h:UM s=0):IsR s:=by
 have e:=KH h;have hn:((zOf s:Int):Rat).num=zOf s:=Rat.num_intCast _;have hd:((zOf s:Int):Rat).den=1:=Rat.den_intCast _;refine⟨((zOf s:Int):Rat),by unfold Qs;rw[if_pos hd,hn,e],by rw[hn,e];exact⟨h,rfl⟩,fun h1=>absurd hd h1,by rw[hn,e];exact T3 _,fun h1=>absurd hd h1⟩
theorem RB{T U:ByteArray}{z d:Int}(hT:Tx T z)(hU:Tx U d)(hd:1<d)(hg:Nat.gcd z.natAbs d.natAbs=1):IsR (T ++ ⟨#[47]⟩ ++ U):=by
 have e1:=hT.txt;have e2:=hU.txt;have hk:d=((d.natAbs:Nat):Int):=by omega
 obtain⟨h1,h2⟩:=Yb (n:=z) (k:=d.natAbs) (by omega);rw[hg]at h1 h2;rw[Int.natCast_one,Int.ediv_one]at h1;rw[Nat.div_one]at h2;refine⟨Rat.divInt z (d.natAbs:Nat),?_,by rw[h1,e1];exact hT,fun _=>by rw[h2,←hk,e2];exact hU,by rw[h1,e1,MI];omega,fun _=>by rw[h2,←hk,e2,MI];omega⟩;unfold Qs;rw[if_neg (by omega),h1,h2,←hk,e1,e2]
theorem M1{den:ByteArray}(hd:Yu den.data.toList=true):XU den=false:=by
 unfold XU;cases hl:den.data.toList with
 | nil=>rfl
 | cons c l=>
  rw[hl]at hd;unfold Yu at hd;rw[List.all_cons,T6]at hd;have h1:=hd.1;rw[List.head?_cons];have:c≠45:=by intro e;rw[e]at h1;revert h1;decide
  simpa using this
theorem HW{den:ByteArray}(hd:Yu den.data.toList=true)(h0:0<den.size)(h1:XT den=false):UM den=0/\0<zOf den:=by
 have hn:=M1 hd;have hb:QD den=den:=by unfold QD;rw[hn];rfl
 have he:=(OU hb).2.2.2 hd h0 (fun⟨hl,_⟩=>by rw[h1]at hl;cases hl);refine⟨he,?_⟩;have hnn:0<=zOf den:=by unfold zOf Jx;rw[hn];simp
 rcases Int.lt_or_eq_of_le hnn with h|h
 ·exact h
 ·exfalso;have e:=KH he;rw[←h,Xz]at e;rw[←e]at h1
  revert h1
  decide
theorem Mz{l:List UInt8}{n:Nat}(h:(Yu l && decide (0<n))=true):Yu l=true/\0<n:=by
 rw[T6]at h;exact⟨h.1,of_decide_eq_true h.2⟩
