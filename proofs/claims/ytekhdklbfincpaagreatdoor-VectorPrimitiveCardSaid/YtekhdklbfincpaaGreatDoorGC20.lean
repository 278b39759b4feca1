/- GC20: RefC -/
import Derived.Test.YtekhdklbfincpaaGreatDoorGC18
import Derived.Test.YtekhdklbfincpaaGreatDoorGC19
import Derived.Laws.AppendOwnNone
import Derived.Test.YtekhdklbfincpaaGreatDoorGC13
set_option maxRecDepth 100000
set_option maxHeartbeats 16000000
namespace Go.Proofs.YtekhdklbfincpaaGreatDoor
open Go.Value renaming int→Ji,string→Js
open Go.IntKind renaming i64→Jl
open _root_.Option renaming none→Jn
open Go renaming World→JW
open _root_.List renaming length_cons→M0,length_set→Mr,getD→My
open _root_.Nat renaming eq_zero_or_pos→M1,le_refl→M2,lt_of_lt_of_le→M4,add_mul→M5,le_trans→M7,gcd→M8,mul_le_mul_right→M9,mul_assoc→Ms,zero_mul→Mt,lt_or_ge→Mu,gcd_comm→Mv,mul_add→Mw,mod_lt→Mx
open Go.RowKit.Below renaming refl→M3
open _root_.Int renaming natAbs_natCast→M6
open Go.RowKit
theorem Q0.keep'{w w':JW}{A:Option Addr}{n c m:Nat}{xs:List Int}(h:Q0 w A n c xs m)(hb:Below w.heap.size w w'):Q0 w' A n c xs m:=
 ⟨h.isl.keep hb,h.cap,h.len,h.dig,h.tight⟩
structure YJ (B:Nat) (w:JW) (A:Option Addr) (n c r:Nat):Prop where
 dig:Q0 w A n c (digN r) r
 nil:A=Jn->c=0
 low:∀a:Addr,A=some a->B<=a.block
theorem YJ.keep{B:Nat}{w w':JW}{A:Option Addr}{n c r:Nat}(h:YJ B w A n c r)(hb:Below w.heap.size w w'):YJ B w' A n c r:=⟨h.dig.keep' hb,h.nil,h.low⟩
def intAt(w:JW)(g i:Nat):Nat:=
 match w.cell? ⟨g,i,Jn⟩with
 | some (Ji _ x)=>x.toNat
 | _=>0
theorem IBlk.intAt{w:JW}{g:Nat}{xs:List Int}(h:IBlk w g xs){i:Nat}(hi:i<xs.length):intAt w g i=(xs.getD i 0).toNat:=by
 unfold Go.Proofs.YtekhdklbfincpaaGreatDoor.intAt;rw[h.cell hi]
def quo(j:Nat)(q:List Int):List Int:=List.replicate j 0 ++ q
theorem XC(j:Nat)(q:List Int):(quo j q).length=j+q.length:=by simp[quo]
theorem WD(i:Nat)(q:List Int):quo (i+1) q=quo i (0 :: q):=by
 unfold quo;rw[List.replicate_succ',List.append_assoc];rfl
theorem XD(i:Nat)(t:Int)(q:List Int):(quo i (t :: q)).getD i 0=t:=by
 simp[quo,My]
theorem Gt(i:Nat)(t s:Int)(q:List Int):(quo i (t :: q)).set i s=quo i (s :: q):=by
 unfold quo;rw[List.set_append_right _ _ (by simp)];simp
def EH(w0:JW)(g m':Nat)(xs:List Int)(vr vi:Value)(wr:JW):Prop:=
 ∃(j r:Nat) (q:List Int) (A:Option Addr) (n3 c3:Nat),vi=Ji Jl ((j:Int)-1)/\vr= .slice A n3 c3/\YJ (g+1) wr A n3 c3 r/\r<m'/\q.length+j=xs.length/\Dig q/\dval (xs.drop j)=dval q*m'+r /\
  (0<xs.length->IBlk wr g (quo j q))/\Below w0.heap.size w0 wr
def Z7(w0:JW)(g i m' v:Nat)(q:List Int)(vr:Value)(wr:JW):Prop:=
 ∃(t:Nat) (A:Option Addr) (n3 c3:Nat),vr= .slice A n3 c3/\t*m'<=v/\YJ (g+1) wr A n3 c3 (v-t*m')/\IBlk wr g (quo i ((t:Int) :: q))/\Below w0.heap.size w0 wr
theorem Wv{w:JW}{A:Option Addr}{n c r g:Nat}(h:YJ (g+1) w A n c r)(m i:Nat)(v:Value):YJ (g+1) ((w.drewN m).setCell ⟨g,i,Jn⟩ v) A n c r:=by
 refine⟨⟨⟨h.dig.isl.1,h.dig.isl.2.1,fun h0=>?_⟩,h.dig.cap,h.dig.len,h.dig.dig,h.dig.tight⟩,h.nil,h.low⟩;obtain⟨b,o,e,hb,hc⟩:=h.dig.isl.2.2 h0;have hlow:=h.low _ e;exact⟨b,o,e,by simpa[World.setCell,World.drewN]using hb,fun j u hu=>(World.cell?_of_block (Below.heap_setCell (w.drewN m) ⟨g,i,Jn⟩ v b (by simp at hlow ⊢;omega))).trans (hc j u hu)⟩
theorem Ox(a b:Nat):(a<b/\cmpN a b=-1)\/(b<=a/\0<=cmpN a b/\cmpN a b<=1):=by
 unfold cmpN;rcases Nat.lt_trichotomy a b with h|h|h
 ·exact .inl ⟨h,if_pos h⟩
 ·right;rw[if_neg (by omega),if_neg (by omega)];omega
 ·right;rw[if_neg (by omega),if_pos h];omega
theorem E7{xs:List Int}{i:Nat}{d:Int}(hi:i<xs.length)(hd:xs.getD i 0=d):dval (xs.drop i)=d.toNat+10*dval (xs.drop (i+1)):=by
 have e:xs[i]=d:=by rw[←hd];simp[My,hi]
 rw[List.drop_eq_getElem_cons hi,e,dval]
theorem GQ{r m' k:Nat}(h:r<m')(hm:m'<ten k):(digN r).length<=k:=UW k r (Nat.lt_trans h hm)
theorem ZC{w:JW}{base:Nat}(hb:base<=w.heap.size)(d:Int):(w.alloc (.cells #[Ji Jl d] 3)).ownsRow base 3 1 (.slice (some ⟨w.heap.size,0,Jn⟩) 1 1) 1 [Ji Jl d]:=
 ⟨rfl,.inr ⟨w.heap.size,1,#[Ji Jl d],rfl,hb,UU w _,M2 _,by decide,rfl,rfl⟩⟩
theorem Ww{w1:JW}{base n c:Nat}{A:Option Addr}{l:List Int}(hd:Dig l)(hn:l.length=n)(h4:n<4294967296)(hown:w1.ownsRow base 3 1 (.slice A n c) n (ints l)) :
  YJ base w1 A (JX l n) c (dval l):=by
 obtain⟨A',c',e,hisl,hc⟩:=Yn hown
 injection e with e1 e2 e3
 subst e1 e3;subst hn;have hcut:=hisl.cut (YE l _);have e1:(ints l).take (JX l l.length)=ints (digN (dval l)):=by
  unfold ints;rw[←List.map_take,UO hd]
 rw[e1]at hcut;exact⟨⟨hcut,hc,by have:=YE l l.length;omega,JM _,rfl⟩,WN hown,fun a ha=>UL (k:=a.block) hown (by rw[ha];rfl)⟩
theorem Ec{B:Nat}{w:JW}{ad:Addr}{n c r:Nat}(h:YJ B w (some ad) n c r)(o:Obj):∀j u,(ints (digN r))[j]?=some u->(w.alloc o).cell? (ad.add j)=some u:=by
 intro j u hu;have hs:=h.dig.size;have hj:j<(ints (digN r)).length:=(List.getElem?_eq_some_iff.1 hu).1;rw[YV]at hj;obtain⟨b,o',e,hb,hc⟩:=h.dig.isl.2.2 (by omega)
 injection e with e
 subst e;rw[show(⟨b,o',Jn⟩:Addr).add j=⟨b,o'+j,Jn⟩by simp[Addr.add]];exact(IsL.grow_cell hb (o'+j)).trans (hc j u hu)
theorem Dq{w w4:JW}{g:Nat}{xs:List Int}{o:Obj}(h:IBlk w g xs){k:Nat}(hgrow:(w.alloc o).grownBy w4 (some k))(hk:w.heap.size<=k):IBlk w4 g xs:=by
 have hlt:=h.lt;obtain⟨cur,hh,hc⟩:=h;refine⟨cur,?_,hc⟩;rw[hgrow.block g (by simp;omega) (by simp;omega),←hh];exact((M3 w.heap.size w).alloc (M2 _) o).block g hlt
theorem IBlk.keep{w w':JW}{g:Nat}{xs:List Int}(h:IBlk w g xs)(hb:Below w.heap.size w w'):IBlk w' g xs:=by
 have hlt:=h.lt;obtain⟨cur,hh,hc⟩:=h;exact⟨cur,(hb.block g hlt).trans hh,hc⟩
theorem Uy(b:Bool){l:List Int}(h:Dig l):JR b l=txt (Jk b (dval l)):=by
 refine Qg h (by rw[QQ]) (fun h0=>?_);unfold Jk at h0 ⊢;cases b <;> simp at h0 ⊢ <;> omega
theorem ZA{k:Int}(h:k≠0):(k<0/\sgn k=-1)\/(0<k/\sgn k=1):=by
 unfold sgn;rcases Int.lt_trichotomy k 0 with h1|h1|h1
 ·exact .inl ⟨h1,if_pos h1⟩
 ·exact absurd h1 h
 ·exact .inr ⟨h1,by rw[if_neg (by omega),if_pos h1]⟩
theorem Ud{z:Int}:(digN z.natAbs).length<=(txt z).size:=by
 by_cases h0:z=0
 ·subst h0;rw[show(0:Int).natAbs=0 from rfl,JL];exact Nat.zero_le _
 ·rw[XW h0,strOfNums_size,List.length_append,List.length_map,List.length_reverse];omega
theorem V9:txt 1=⟨#[49]⟩:=by
 rw[XW (by decide),if_neg (by decide),show(1:Int).natAbs=1 from rfl,Qq (by decide),show 1/10=0 from rfl,JL];rfl
theorem Xi{z:Int}(h:z≠0):((txt z).toList == [48])=false:=by
 obtain⟨n,hs,hn,h1,h2⟩:=UN h;exact Oz hs hn ((Int.lt_or_lt_of_ne h).elim (fun h=>by have:=h1 h;omega) (fun h=>by have:=h2 h;omega))
theorem Uk{m' r:Nat}(h:m'<ten 4000)(hr:r<m'){b:Bool}:(txt (Jk b r)).size<=5000:=by
 have:=QY (Jk b r) (k:=4000) (by rw[QQ];omega) (by decide);omega
theorem O8{m u:Nat}(h:m<ten 4000)(hu:u<=m){b:Bool}:(txt (Jk b u)).size<=5000:=by
 have:=QY (Jk b u) (k:=4000) (by rw[QQ];omega) (by decide);omega
def Mg(B:Nat)(w4:JW)(n3 r:Nat)(d:Int)(v:Value):Prop:=
 ∃(A:Option Addr) (c:Nat),v= .slice A (1+n3) c/\YJ B w4 A (JX (d :: digN r) (1+n3)) c (d.toNat+10*r)/\IsL w4 A (1+n3) c (ints (d :: digN r))/\c<=9223372036854775807/\1+n3<=c
theorem EL{w w4:JW}{base n3 r:Nat}{d:Int}{v:Value}{A3:Option Addr}{c3:Nat}{B:Nat}(h:YJ B w A3 n3 c3 r)(h0:0<=d)(h9:d<=9)(hn:n3<=5001)(hown:w4.ownsRow base 3 1 v (1+n3) ([Ji Jl d] ++ ints (digN r))):Mg base w4 n3 r d v:=by
 have e:[Ji Jl d] ++ ints (digN r)=ints (d :: digN r):=rfl;rw[e]at hown;obtain⟨A,c,rfl,hisl,hc⟩:=Yn hown;have hd:Dig (d :: digN r):=fun x hx=>by
  rcases List.mem_cons.1 hx with rfl|hx
  ·exact⟨h0,h9⟩
  ·exact JM r x hx
 have hl:(d :: digN r).length=1+n3:=by rw[M0,h.dig.size];omega
 have hr:=Ww hd hl (by omega) hown;rw[dval,Qz]at hr;exact⟨A,c,rfl,hr,hisl,hc,hisl.2.1⟩
theorem Yl(z k:Int)(w:JW)(hs:(txt z).size<=4000)(ht:(txt k).size<=4000)(hk0:k≠0) :
  Calls Tryz.prog 109 #[Js (txt z),Js (txt k)] w fun e w'=>(∃q r:Int,e= .returned (.tuple #[Js (txt q),Js (txt r)])/\DM z k q r)/\Below w.heap.size w w':=by
 obtain⟨i0,hi,hz0,hz1,hz2⟩:=info_parts UT;have Hdz:=Lh (fun w=>QE z w (by omega));have Hdk:=Lh (fun w=>QE k w (by omega));obtain⟨S,hS⟩:∃S,txt z=S:=⟨_,rfl⟩;obtain⟨T,hT⟩:∃T,txt k=T:=⟨_,rfl⟩;rw[hS]at Hdz hs ⊢;rw[hT]at Hdk ht ⊢;have HS:=Lh hS;have HT:=Lh hT;have hm0:0<k.natAbs:=by omega
 obtain⟨m,hm⟩:∃m,z.natAbs=m:=⟨_,rfl⟩;obtain⟨m',hm'⟩:∃m',k.natAbs=m':=⟨_,rfl⟩;rw[hm]at Hdz;rw[hm']at Hdk hm0;have Hm:=Lh hm;have Hm':=Lh hm';have Hk0:=Lh hk0;clear hS hT hm hm' hk0;go_enter Tryz.func109,Tryz.ntmps109;go_wp2_with fail
 refine(Hdz.out _).mono ?_;rintro e w1⟨A,n,c,rfl,hd1,hn1,h1⟩;have K1:=Lh h1;have D1:=Lh hd1;clear h1 hd1;go_wp2_with fail
 refine(Hdk.out _).mono ?_;rintro e w2⟨A',n',c',rfl,hd2,hn2,h2⟩;have K2:=Lh (Jd K1.out h2);have D2:=Lh hd2;have D3:=Lh (D1.out.keep' h2);have hcl:=D3.out.isl.2.1;have hcl':=hd2.isl.2.1;clear h2 hd2;have hk2:=K2.out.size;go_wp2_with (at_make;refine wpList_make_full _ rfl _ _ 126 rfl w2.heap.size 3 i0 (Ji Jl 0) 1 Tryz.underlying126 hi hz0 hz1 _ _ _ _ n rfl rfl (by simp) (by simp) (by rw[hz2];omega) (by unfold maxLen;omega) (M2 _) ?_)
 intro w3 hown hgrow;have Hblk:=Lh (fun h:0<n=>Zd hown h);have B3:=Lh ((M3 w2.heap.size w2).grown hgrow (M2 _) (by simp));have HX:=Lh (D3.out.ds (by omega));have HY:=Lh D2.out;clear hown hgrow;have Hxs:=Lh (show(digN m).length=n from HX.out.size);have Hys:=Lh (show(digN m').length=n' from D2.out.size);go_wp2_with fail
 go_loopw [8,10] (fun vr vi wr=>EH w2 w2.heap.size m' (digN m) vr vi wr) (fun _ vi _=>(intOf vi+1).toNat)
 case atStart=>
  refine⟨n,0,[],Jn,0,0,rfl,rfl,⟨⟨⟨by rw[JL];rfl,M2 _,fun h=>absurd h (by decide)⟩,by decide,by decide,JM _,rfl⟩,fun _=>rfl,fun a ha=>by cases ha⟩,hm0,by rw[Hxs.out];simp,fun d hd=>absurd hd (by simp),?_,fun h=>?_,B3.out⟩
  ·rw[List.drop_eq_nil_of_le (by rw[Hxs.out];exact M2 _)];simp[dval]
  ·unfold quo;rw[List.append_nil];exact Hblk.out (by rw[←Hxs.out];exact h)
 case round=>
  obtain⟨j,r,q,A3,n3,c3,rfl,rfl,hrest,hr,hq,hdq,hv,hblk,hbel⟩:=hrel;have Hrest:=Lh hrest;have Hq:=Lh hq;have Hdq:=Lh hdq;have Hv:=Lh hv;have Hblk:=Lh hblk;have Hbel:=Lh hbel;have hbs:=hbel.size;have hr3:=hrest.dig.len;have hcl3:=hrest.dig.isl.2.1;have hc3:=hrest.dig.cap;clear hrest hq hdq hv hblk hbel;cases j with
  | zero=>
   have Hval:=Lh (show m=dval q*m'+r by have:=Hv.out;rw[List.drop_zero,Qz]at this;exact this);have hql:q.length=n:=by have:=Hq.out;have:=Hxs.out;omega
   have hisl:IsL wr (some ⟨w2.heap.size,0,Jn⟩) n n (ints q):=by
    refine⟨by rw[YV];exact hql,M2 _,fun h0=>?_⟩;have:=Hblk.out (by rw[Hxs.out];exact h0);rw[show quo 0 q=q from rfl]at this;exact(this.isL hql (M2 n)).2.2 h0
   have Htq:=Lh (fun b=>by have:=JB b _ _ n q wr hisl (by omega) (by omega) Hdq.out;rw[Uy b Hdq.out]at this;exact this);have Htr:=Lh (fun b w' (h:Below wr.heap.size wr w')=>by have:=JB b _ _ c3 (digN r) w' (Hrest.out.dig.keep' h).isl (by omega) (by omega) (JM _);rw[Uy b (JM _),Qz]at this;exact this);have Hsz:=Lh (show ∀w,Calls Tryz.prog 108 #[Js S] w fun e w'=>e= .returned (Ji Jl (sgn z))/\w=w' from fun w=>by have:=Qe z w (by rw[HS.out];omega);rw[HS.out]at this;exact this);have Hsk:=Lh (show ∀w,Calls Tryz.prog 108 #[Js T] w fun e w'=>e= .returned (Ji Jl (sgn k))/\w=w' from fun w=>by have:=Qe k w (by rw[HT.out];omega);rw[HT.out]at this;exact this);have Lz:=Lh (show m<ten 4000 by
    have h1:=Yo m;have h2:=@Ud z;rw[HS.out,Hm.out]at h2;exact M4 h1 (JK (by omega)))
   have Lk:=Lh (show m'<ten 4000 by
    have h1:=Yo m';have h2:=@Ud k;rw[HT.out,Hm'.out]at h2;exact M4 h1 (JK (by omega)))
   have Lq:=Lh (show dval q<=m by
    have h1:dval q*1<=dval q*m':=Nat.mul_le_mul_left _ hm0;have:=Hval.out;omega)
   obtain⟨u,hu⟩:∃u,dval q=u:=⟨_,rfl⟩;rw[hu]at Hval Htq Lq;have Hr:=Lh hr;clear hisl hql hu hr;rcases QR z with⟨hz,ez⟩|⟨hz,ez⟩|⟨hz,ez⟩
   ·rcases ZA Hk0.out with⟨hk,ek⟩|⟨hk,ek⟩
    ·rw[ez]at Hsz;rw[ek]at Hsk;have Ez:=Lh (show z=-(m:Int)by have:=Hm.out;omega);have Ek:=Lh (show k=-(m':Int)by have:=Hm'.out;omega);clear ez ek hz hk;go_wp2_with fail
     refine(Hsz.out _).mono ?_;rintro e w5⟨rfl,rfl⟩;go_wp2_with fail
     refine(Hsk.out _).mono ?_;rintro e w5⟨rfl,rfl⟩;go_wp2_with fail
     refine(Htq.out _).mono ?_;rintro e w6⟨rfl,h6⟩;have H6:=Lh h6;clear h6;go_wp2_with fail
     refine(Hsz.out _).mono ?_;rintro e w5⟨rfl,rfl⟩;go_wp2_with fail
     refine(Htr.out _ _ H6.out).mono ?_;rintro e w7⟨rfl,h7⟩;have H7:=Lh (Jd (Jd Hbel.out (Jd H6.out h7)) (M3 _ _));clear h7;rcases M1 r with hr0|hr0
     ·subst hr0;rw[show Jk true 0=0 from rfl,Qo];have Hfin:=Lh (show DM z k (Jk false u) 0 by
       rw[Ez.out,Ek.out];exact Dh Hval.out Hr.out rfl)
      obtain⟨R4,hR4⟩:∃R4,txt (Jk false u)=R4:=⟨_,rfl⟩;have HR4:=Lh hR4;rw[hR4];clear hR4;go_wp2;go_ret2;exact⟨⟨Jk false u,0,by rw[HR4.out,Qo];rfl,Hfin.out⟩,Jd K2.out H7.out⟩
     ·have hne:Jk true r≠0:=by unfold Jk;simp;omega
      have hn0:=Xi hne;have Hs5:=Lh (fun w=>Qe (Jk true r) w (Uk Lk.out Hr.out));rw[show sgn (Jk true r)=-1 by unfold sgn Jk;simp;omega]at Hs5;have Hfin:=Lh (show DM z k (Jk false u) (Jk true r) by
       rw[Ez.out,Ek.out];exact Om Hval.out Hr.out)
      obtain⟨R4,hR4⟩:∃R4,txt (Jk false u)=R4:=⟨_,rfl⟩;obtain⟨R5,hR5⟩:∃R5,txt (Jk true r)=R5:=⟨_,rfl⟩;rw[hR5]at hn0 Hs5;have HR4:=Lh hR4;have HR5:=Lh hR5;rw[hR4,hR5];clear hR4 hR5 hne;go_wp2_with fail
      refine(Hs5.out _).mono ?_;rintro e w5⟨rfl,rfl⟩;go_wp2_with fail
      refine(Hsk.out _).mono ?_;rintro e w5⟨rfl,rfl⟩;go_wp2;go_ret2;exact⟨⟨Jk false u,Jk true r,by rw[HR4.out,HR5.out];rfl,Hfin.out⟩,Jd K2.out H7.out⟩
    ·rw[ez]at Hsz;rw[ek]at Hsk;have Ez:=Lh (show z=-(m:Int)by have:=Hm.out;omega);have Ek:=Lh (show k=(m':Int)by have:=Hm'.out;omega);clear ez ek hz hk;go_wp2_with fail
     refine(Hsz.out _).mono ?_;rintro e w5⟨rfl,rfl⟩;go_wp2_with fail
     refine(Hsk.out _).mono ?_;rintro e w5⟨rfl,rfl⟩;go_wp2_with fail
     refine(Htq.out _).mono ?_;rintro e w6⟨rfl,h6⟩;have H6:=Lh h6;clear h6;go_wp2_with fail
     refine(Hsz.out _).mono ?_;rintro e w5⟨rfl,rfl⟩;go_wp2_with fail
     refine(Htr.out _ _ H6.out).mono ?_;rintro e w7⟨rfl,h7⟩;have H7:=Lh (Jd (Jd Hbel.out (Jd H6.out h7)) (M3 _ _));clear h7;rcases M1 r with hr0|hr0
     ·subst hr0;rw[show Jk true 0=0 from rfl,Qo];have Hfin:=Lh (show DM z k (Jk true u) 0 by
       rw[Ez.out,Ek.out];exact Zi Hval.out Hr.out rfl)
      obtain⟨R4,hR4⟩:∃R4,txt (Jk true u)=R4:=⟨_,rfl⟩;have HR4:=Lh hR4;rw[hR4];clear hR4;go_wp2;go_ret2;exact⟨⟨Jk true u,0,by rw[HR4.out,Qo];rfl,Hfin.out⟩,Jd K2.out H7.out⟩
     ·have hne:Jk true r≠0:=by unfold Jk;simp;omega
      have hn0:=Xi hne;have Hs5:=Lh (fun w=>Qe (Jk true r) w (Uk Lk.out Hr.out));rw[show sgn (Jk true r)=-1 by unfold sgn Jk;simp;omega]at Hs5;have Hfin:=Lh (show DM z k (Jk true u - 1) (Jk true r+k) by
       rw[Ez.out,Ek.out];exact Ol Hval.out Hr.out hr0)
      have Hsb:=Lh (fun w=>GR (Jk true u) 1 w (O8 Lz.out Lq.out) (by rw[V9];decide) (by have:=QY (-1) (k:=1) (by decide) (by decide);omega));have Had:=Lh (fun w=>U7 (Jk true r) k w (Uk Lk.out Hr.out) (by rw[HT.out];omega));rw[V9]at Hsb;rw[HT.out]at Had;obtain⟨R4,hR4⟩:∃R4,txt (Jk true u)=R4:=⟨_,rfl⟩;obtain⟨R5,hR5⟩:∃R5,txt (Jk true r)=R5:=⟨_,rfl⟩;obtain⟨R6,hR6⟩:∃R6,txt (Jk true u-1)=R6:=⟨_,rfl⟩;obtain⟨R7,hR7⟩:∃R7,txt (Jk true r+k)=R7:=⟨_,rfl⟩;rw[hR5]at hn0 Hs5 Had;rw[hR4,hR6]at Hsb;rw[hR7]at Had;have HR6:=Lh hR6;have HR7:=Lh hR7;rw[hR4,hR5];clear hR4 hR5 hR6 hR7 hne;go_wp2_with fail
      refine(Hs5.out _).mono ?_;rintro e w5⟨rfl,rfl⟩;go_wp2_with fail
      refine(Hsk.out _).mono ?_;rintro e w5⟨rfl,rfl⟩;go_wp2_with fail
      refine(Hsb.out _).mono ?_;rintro e w8⟨rfl,h8⟩;have H8:=Lh (Jd H7.out h8);clear h8;go_wp2_with fail
      refine(Had.out _).mono ?_;rintro e w9⟨rfl,h9⟩;have H9:=Lh (Jd H8.out h9);clear h9;go_wp2;go_ret2;exact⟨⟨Jk true u-1,Jk true r+k,by rw[HR6.out,HR7.out];rfl,Hfin.out⟩,Jd K2.out H9.out⟩
   ·rcases ZA Hk0.out with⟨hk,ek⟩|⟨hk,ek⟩
    ·rw[ez]at Hsz;rw[ek]at Hsk;have Ez:=Lh (show z=0 by have:=Hm.out;omega);have Ek:=Lh (show k=-(m':Int)by have:=Hm'.out;omega);clear ez ek hz hk;go_wp2_with fail
     refine(Hsz.out _).mono ?_;rintro e w5⟨rfl,rfl⟩;go_wp2_with fail
     refine(Hsk.out _).mono ?_;rintro e w5⟨rfl,rfl⟩;go_wp2_with fail
     refine(Htq.out _).mono ?_;rintro e w6⟨rfl,h6⟩;have H6:=Lh h6;clear h6;go_wp2_with fail
     refine(Hsz.out _).mono ?_;rintro e w5⟨rfl,rfl⟩;go_wp2_with fail
     refine(Htr.out _ _ H6.out).mono ?_;rintro e w7⟨rfl,h7⟩;have H7:=Lh (Jd (Jd Hbel.out (Jd H6.out h7)) (M3 _ _));clear h7;rcases M1 r with hr0|hr0
     ·subst hr0;rw[show Jk false 0=0 from rfl,Qo];have Hfin:=Lh (show DM z k (Jk false u) 0 by
       rw[Ez.out,Ek.out];exact Ex (by have h1:=Hval.out; have h2:=Hm.out; rw [Ez.out] at h2; simp at h2; omega) Hr.out rfl)
      obtain⟨R4,hR4⟩:∃R4,txt (Jk false u)=R4:=⟨_,rfl⟩;have HR4:=Lh hR4;rw[hR4];clear hR4;go_wp2;go_ret2;exact⟨⟨Jk false u,0,by rw[HR4.out,Qo];rfl,Hfin.out⟩,Jd K2.out H7.out⟩
     ·exfalso;have h1:=Hval.out;have h2:=Hm.out;rw[Ez.out]at h2;simp at h2;omega
    ·rw[ez]at Hsz;rw[ek]at Hsk;have Ez:=Lh (show z=0 by have:=Hm.out;omega);have Ek:=Lh (show k=(m':Int)by have:=Hm'.out;omega);clear ez ek hz hk;go_wp2_with fail
     refine(Hsz.out _).mono ?_;rintro e w5⟨rfl,rfl⟩;go_wp2_with fail
     refine(Hsk.out _).mono ?_;rintro e w5⟨rfl,rfl⟩;go_wp2_with fail
     refine(Htq.out _).mono ?_;rintro e w6⟨rfl,h6⟩;have H6:=Lh h6;clear h6;go_wp2_with fail
     refine(Hsz.out _).mono ?_;rintro e w5⟨rfl,rfl⟩;go_wp2_with fail
     refine(Htr.out _ _ H6.out).mono ?_;rintro e w7⟨rfl,h7⟩;have H7:=Lh (Jd (Jd Hbel.out (Jd H6.out h7)) (M3 _ _));clear h7;rcases M1 r with hr0|hr0
     ·subst hr0;rw[show Jk false 0=0 from rfl,Qo];have Hfin:=Lh (show DM z k (Jk false u) 0 by
       rw[Ez.out,Ek.out];exact Ew (by have h1:=Hval.out; have h2:=Hm.out; rw [Ez.out] at h2; simp at h2; omega) Hr.out rfl)
      obtain⟨R4,hR4⟩:∃R4,txt (Jk false u)=R4:=⟨_,rfl⟩;have HR4:=Lh hR4;rw[hR4];clear hR4;go_wp2;go_ret2;exact⟨⟨Jk false u,0,by rw[HR4.out,Qo];rfl,Hfin.out⟩,Jd K2.out H7.out⟩
     ·exfalso;have h1:=Hval.out;have h2:=Hm.out;rw[Ez.out]at h2;simp at h2;omega
   ·rcases ZA Hk0.out with⟨hk,ek⟩|⟨hk,ek⟩
    ·rw[ez]at Hsz;rw[ek]at Hsk;have Ez:=Lh (show z=(m:Int)by have:=Hm.out;omega);have Ek:=Lh (show k=-(m':Int)by have:=Hm'.out;omega);clear ez ek hz hk;go_wp2_with fail
     refine(Hsz.out _).mono ?_;rintro e w5⟨rfl,rfl⟩;go_wp2_with fail
     refine(Hsk.out _).mono ?_;rintro e w5⟨rfl,rfl⟩;go_wp2_with fail
     refine(Htq.out _).mono ?_;rintro e w6⟨rfl,h6⟩;have H6:=Lh h6;clear h6;go_wp2_with fail
     refine(Hsz.out _).mono ?_;rintro e w5⟨rfl,rfl⟩;go_wp2_with fail
     refine(Htr.out _ _ H6.out).mono ?_;rintro e w7⟨rfl,h7⟩;have H7:=Lh (Jd (Jd Hbel.out (Jd H6.out h7)) (M3 _ _));clear h7;rcases M1 r with hr0|hr0
     ·subst hr0;rw[show Jk false 0=0 from rfl,Qo];have Hfin:=Lh (show DM z k (Jk true u) 0 by
       rw[Ez.out,Ek.out];exact Zh Hval.out Hr.out rfl)
      obtain⟨R4,hR4⟩:∃R4,txt (Jk true u)=R4:=⟨_,rfl⟩;have HR4:=Lh hR4;rw[hR4];clear hR4;go_wp2;go_ret2;exact⟨⟨Jk true u,0,by rw[HR4.out,Qo];rfl,Hfin.out⟩,Jd K2.out H7.out⟩
     ·have hne:Jk false r≠0:=by unfold Jk;simp;omega
      have hn0:=Xi hne;have Hs5:=Lh (fun w=>Qe (Jk false r) w (Uk Lk.out Hr.out));rw[show sgn (Jk false r)=1 by unfold sgn Jk;simp;omega]at Hs5;have Hfin:=Lh (show DM z k (Jk true u - 1) (Jk false r+k) by
       rw[Ez.out,Ek.out];exact Ok Hval.out Hr.out hr0)
      have Hsb:=Lh (fun w=>GR (Jk true u) 1 w (O8 Lz.out Lq.out) (by rw[V9];decide) (by have:=QY (-1) (k:=1) (by decide) (by decide);omega));have Had:=Lh (fun w=>U7 (Jk false r) k w (Uk Lk.out Hr.out) (by rw[HT.out];omega));rw[V9]at Hsb;rw[HT.out]at Had;obtain⟨R4,hR4⟩:∃R4,txt (Jk true u)=R4:=⟨_,rfl⟩;obtain⟨R5,hR5⟩:∃R5,txt (Jk false r)=R5:=⟨_,rfl⟩;obtain⟨R6,hR6⟩:∃R6,txt (Jk true u-1)=R6:=⟨_,rfl⟩;obtain⟨R7,hR7⟩:∃R7,txt (Jk false r+k)=R7:=⟨_,rfl⟩;rw[hR5]at hn0 Hs5 Had;rw[hR4,hR6]at Hsb;rw[hR7]at Had;have HR6:=Lh hR6;have HR7:=Lh hR7;rw[hR4,hR5];clear hR4 hR5 hR6 hR7 hne;go_wp2_with fail
      refine(Hs5.out _).mono ?_;rintro e w5⟨rfl,rfl⟩;go_wp2_with fail
      refine(Hsk.out _).mono ?_;rintro e w5⟨rfl,rfl⟩;go_wp2_with fail
      refine(Hsb.out _).mono ?_;rintro e w8⟨rfl,h8⟩;have H8:=Lh (Jd H7.out h8);clear h8;go_wp2_with fail
      refine(Had.out _).mono ?_;rintro e w9⟨rfl,h9⟩;have H9:=Lh (Jd H8.out h9);clear h9;go_wp2;go_ret2;exact⟨⟨Jk true u-1,Jk false r+k,by rw[HR6.out,HR7.out];rfl,Hfin.out⟩,Jd K2.out H9.out⟩
    ·rw[ez]at Hsz;rw[ek]at Hsk;have Ez:=Lh (show z=(m:Int)by have:=Hm.out;omega);have Ek:=Lh (show k=(m':Int)by have:=Hm'.out;omega);clear ez ek hz hk;go_wp2_with fail
     refine(Hsz.out _).mono ?_;rintro e w5⟨rfl,rfl⟩;go_wp2_with fail
     refine(Hsk.out _).mono ?_;rintro e w5⟨rfl,rfl⟩;go_wp2_with fail
     refine(Htq.out _).mono ?_;rintro e w6⟨rfl,h6⟩;have H6:=Lh h6;clear h6;go_wp2_with fail
     refine(Hsz.out _).mono ?_;rintro e w5⟨rfl,rfl⟩;go_wp2_with fail
     refine(Htr.out _ _ H6.out).mono ?_;rintro e w7⟨rfl,h7⟩;have H7:=Lh (Jd (Jd Hbel.out (Jd H6.out h7)) (M3 _ _));clear h7;rcases M1 r with hr0|hr0
     ·subst hr0;rw[show Jk false 0=0 from rfl,Qo];have Hfin:=Lh (show DM z k (Jk false u) 0 by
       rw[Ez.out,Ek.out];exact Dg Hval.out Hr.out rfl)
      obtain⟨R4,hR4⟩:∃R4,txt (Jk false u)=R4:=⟨_,rfl⟩;have HR4:=Lh hR4;rw[hR4];clear hR4;go_wp2;go_ret2;exact⟨⟨Jk false u,0,by rw[HR4.out,Qo];rfl,Hfin.out⟩,Jd K2.out H7.out⟩
     ·have hne:Jk false r≠0:=by unfold Jk;simp;omega
      have hn0:=Xi hne;have Hs5:=Lh (fun w=>Qe (Jk false r) w (Uk Lk.out Hr.out));rw[show sgn (Jk false r)=1 by unfold sgn Jk;simp;omega]at Hs5;have Hfin:=Lh (show DM z k (Jk false u) (Jk false r) by
       rw[Ez.out,Ek.out];exact Oj Hval.out Hr.out)
      obtain⟨R4,hR4⟩:∃R4,txt (Jk false u)=R4:=⟨_,rfl⟩;obtain⟨R5,hR5⟩:∃R5,txt (Jk false r)=R5:=⟨_,rfl⟩;rw[hR5]at hn0 Hs5;have HR4:=Lh hR4;have HR5:=Lh hR5;rw[hR4,hR5];clear hR4 hR5 hne;go_wp2_with fail
      refine(Hs5.out _).mono ?_;rintro e w5⟨rfl,rfl⟩;go_wp2_with fail
      refine(Hsk.out _).mono ?_;rintro e w5⟨rfl,rfl⟩;go_wp2;go_ret2;exact⟨⟨Jk false u,Jk false r,by rw[HR4.out,HR5.out];rfl,Hfin.out⟩,Jd K2.out H7.out⟩
  | succ i=>
   have hin:i<n:=by have:=Hq.out;have:=Hxs.out;omega
   have hn3:n3<=5001:=by
    have h1:=Hrest.out.dig.size;have h2:=GQ (k:=n') hr (by have:=Yo m';rw[Hys.out]at this;exact this);omega
   obtain⟨d,hd⟩:∃d,(digN m).getD i 0=d:=⟨_,rfl⟩;have hd0:=(JV HX.out.dig i).1;have hd9:=(JV HX.out.dig i).2;rw[hd]at hd0 hd9;obtain⟨b1,o1,rfl,hb1,hc1⟩:=HX.out.cell hin;rw[hd]at hc1;have hg1:w2.heap.size+1<=wr.heap.size:=by have:=(Hblk.out (by rw[Hxs.out];omega)).lt;omega
   have cx:=(Hbel.out.cell (p:=⟨b1,o1+i,Jn⟩) hb1).trans hc1;have Hd:=Lh hd;clear hc1 hd;rcases A3 with _|ad
   ·obtain rfl:n3=0:=by
     rcases M1 n3 with h|h
     ·exact h
     ·obtain⟨b,o,e,_⟩:=Hrest.out.dig.isl.2.2 h;cases e
    obtain rfl:c3=0:=Hrest.out.nil rfl;have er:digN r=[]:=List.eq_nil_of_length_eq_zero Hrest.out.dig.size;obtain⟨A4,c4,e4,hr4,hisl4,hc4,hcl4⟩:=EL (v:= .slice (some ⟨wr.heap.size,0,Jn⟩) 1 1) (w4:=wr.alloc (.cells #[Ji Jl d] 3)) Hrest.out hd0 hd9 hn3 (by rw[er];exact ZC hg1 d)
    injection e4 with e4 e5 e6
    subst e4 e6;have B4:=Lh (Hbel.out.alloc hbs (.cells #[Ji Jl d] 3));have Hb4:=Lh (fun h=>(Hblk.out h).keep ((M3 _ _).alloc (M2 _) (.cells #[Ji Jl d] 3)));have Hr4:=Lh hr4;have Ht:=Lh (UP (some ⟨wr.heap.size,0,Jn⟩) (1+0) 1 _ _ hisl4 (by omega) hc4);have Her:=Lh er;have Hwn:=Lh (ZC hg1 d);clear hr4 hisl4 er e5;go_wp2_with (at_builtin;refine wpList_append_own_none rfl _ _ 126 rfl (w2.heap.size+1) 3 i0 1 Tryz.underlying126 hi _ 1 _ rfl Hwn.out rfl ?_)
    go_wp2_with fail
    refine Ht.out.mono ?_;rintro e w5⟨rfl,rfl⟩;obtain⟨n4,hn4⟩:∃n4,JX (d :: digN r) (1+0)=n4:=⟨_,rfl⟩;rw[hn4]at Hr4 ⊢;clear hn4;have htm:Hid (d.toNat+10*r<10*m'):=Lh (by omega);obtain⟨v,hv0⟩:∃v,d.toNat+10*r=v:=⟨_,rfl⟩;rw[hv0]at Hr4 htm;have Hv0:=Lh hv0;clear hv0 hcl4 hc4 cx hd0 hd9;go_wp2_with fail
    go_loopw [8] (fun vr wx=>Z7 w2 w2.heap.size i m' v q vr wx) (fun _ wx=>10-intAt wx w2.heap.size i)
    case atStart=>exact⟨0,_,n4,_,rfl,by omega,by rw[Mt,Nat.sub_zero];exact Hr4.out,by have:=Hb4.out (by rw[Hxs.out];omega);rw[WD]at this;exact this,B4.out⟩
    case round=>
     obtain⟨t,A5,n5,c5,rfl,htv,hrest5,hblk5,hbel5⟩:=hrel;have Hrest5:=Lh hrest5;have Hblk5:=Lh hblk5;have Hbel5:=Lh hbel5;have Htv:=Lh htv;have ht9:t<=9:=by
      rcases Mu 9 t with h|h
      ·exfalso;have h1:10*m'<=t*m':=M9 _ h;have:=htm.out;omega
      ·exact h
     have hcl5:=hrest5.dig.isl.2.1;have hcc5:=hrest5.dig.cap;have Hcell:=Lh (fun w' (h:Below wr.heap.size wr w')=>by have:=(hblk5.keep h).cell (i:=i) (by rw[XC,M0];omega);rw[XD]at this;exact this);have Hfz:=Lh (fun w' (h:Below wr.heap.size wr w')=>(hblk5.keep h).frozen i);have Hat:=Lh (by have:=hblk5.intAt (i:=i) (by rw[XC,M0];omega);rw[XD]at this;exact this);have Ho:=Lh (Q4 wr hrest5.dig (HY.out.keep' hbel5));clear hrest5 hblk5 hbel5 htv;rcases Ox (v-t*m') m' with⟨hlt,hc⟩|⟨hge,hc0,hc1⟩
     ·rw[hc]at Ho;have Hlt:=Lh hlt;clear hc hlt;go_wp2_with fail
      refine Ho.out.mono ?_;rintro e w6⟨rfl,h6⟩;have Hfin:=Lh (show EH w2 w2.heap.size m' (digN m) (.slice A5 n5 c5) (Ji Jl ((i:Int) - 1)) w6 from
       ⟨i,v - t*m',(t:Int) :: q,A5,n5,c5,rfl,rfl,Hrest5.out.keep h6,Hlt.out,by rw [M0]; have:=Hq.out; omega,fun x hx=>by
        rcases List.mem_cons.1 hx with rfl|hx
        ·omega
        ·exact Hdq.out x hx,by
        rw[E7 (by rw[Hxs.out];exact hin) Hd.out,Hv.out,dval,Int.toNat_natCast,M5];have h1:=Hv0.out;have h2:=Htv.out;rw[Mw,Ms];omega,fun _=>Hblk5.out.keep h6,Jd Hbel5.out h6⟩)
      clear h6;go_wp2_with fail
      exact⟨Hfin.out,by simp[intOf] <;> omega⟩
     ·obtain⟨x,hx⟩:∃x,cmpN (v-t*m') m'=x:=⟨_,rfl⟩;rw[hx]at Ho hc0 hc1;have Hge:=Lh hge;clear hx hge;go_wp2_with fail
      refine Ho.out.mono ?_;rintro e w6⟨rfl,h6⟩;have H6:=Lh h6;have Hmin:=Lh (U6 w6 (Hrest5.out.dig.keep' h6) (HY.out.keep' (Jd Hbel5.out h6)) Hge.out (by
       have h1:=Hrest5.out.dig.size;have h2:=GQ (r:=v-t*m') (m':=10*m') (k:=n'+1) (by have:=htm.out;omega) (by rw[Yi];have:=Yo m';rw[Hys.out]at this;omega);omega))
      clear h6;go_wp2_with fail
      refine Hmin.out.mono ?_;rintro e w7⟨A7,n7,c7,rfl,h7d,h7n,h7,h7nil,h7low⟩;have H7:=Lh (Jd H6.out h7);have hr7:YJ (w2.heap.size+1) w7 A7 n7 c7 (v-(t+1)*m'):=by
       have e:v-t*m'-m'=v-(t+1)*m':=by rw[M5];omega
       rw[←e];exact⟨h7d,h7nil,fun a ha=>M7 (by have:=(Jd Hbel5.out H6.out).size;have:=(Hblk5.out.keep H6.out).lt;omega) (h7low a ha)⟩
      have Hr7:=Lh hr7;have cq:=Hcell.out _ H7.out;have fq:=Hfz.out _ H7.out;have Hfin:=fun mm=>Lh (show Z7 w2 w2.heap.size i m' v q (.slice A7 n7 c7) ((w7.drewN mm).setCell ⟨w2.heap.size,i,Jn⟩ (Ji Jl ((t:Int)+1))) from
       ⟨t+1,A7,n7,c7,rfl,by rw [M5]; have:=Hge.out; have:=Htv.out; omega,Wv Hr7.out mm i _,by
        have:=((Hblk5.out.keep H7.out).drewN mm).set_ i ((t:Int)+1);rw[Gt]at this;exact this,(below_drewN (Jd Hbel5.out H7.out) mm).setCell (p:=⟨w2.heap.size,i,Jn⟩) (M2 w2.heap.size) _⟩)
      have Hms:=fun mm=>Lh (show intAt ((w7.drewN mm).setCell ⟨w2.heap.size,i,Jn⟩ (Ji Jl ((t:Int)+1))) w2.heap.size i=t+1 by
       have:=(((Hblk5.out.keep H7.out).drewN mm).set_ i ((t:Int)+1)).intAt (i:=i) (by rw[Mr,XC,M0];omega);rw[Gt,XD]at this;simpa using this)
      have HF:=Lh Hfin;have HM:=Lh Hms;clear Hfin Hms h7d h7n h7 h7nil h7low hr7;go_wp2_with fail
      exact⟨(HF.out 0).out,by have h1:=(HM.out 0).out;have h2:=Hat.out;rw[show w7.drewN 0=w7 from rfl]at h1;rw[h1,h2];simp;omega⟩
   ·go_wp2_with (at_builtin;refine wpList_append_own _ rfl _ _ 126 rfl (w2.heap.size+1) 3 i0 (Ji Jl 0) 1 8 Tryz.underlying126 hi hz0 hz1 hz2 rfl (by decide) _ 1 _ rfl (ZC hg1 d) ad n3 c3 (ints (digN r)) rfl (by rw[YV,Hrest.out.dig.size];simp) (Ec Hrest.out _) (fun u hu=>by obtain⟨y,_,rfl⟩:=List.mem_map.1 hu;rfl) (by unfold maxLen;omega) (by omega) (by simp;omega) ?_)
    intro v' w4 hown' hgrow _;obtain⟨A4,c4,rfl,hr4,hisl4,hc4,hcl4⟩:=EL Hrest.out hd0 hd9 hn3 hown';have B4:=Lh ((Hbel.out.alloc hbs (.cells #[Ji Jl d] 3)).grown hgrow (by simp;omega) (fun k hk=>by simp[Value.ownBlock]at hk;omega));have Hb4:=Lh (fun h=>Dq (Hblk.out h) hgrow (M2 _));have Hr4:=Lh hr4;have Ht:=Lh (UP A4 (1+n3) c4 _ w4 hisl4 (by omega) hc4);clear hown' hgrow hr4 hisl4;go_wp2_with fail
    refine Ht.out.mono ?_;rintro e w5⟨rfl,rfl⟩;obtain⟨n4,hn4⟩:∃n4,JX (d :: digN r) (1+n3)=n4:=⟨_,rfl⟩;rw[hn4]at Hr4 ⊢;clear hn4;have htm:Hid (d.toNat+10*r<10*m'):=Lh (by omega);obtain⟨v,hv0⟩:∃v,d.toNat+10*r=v:=⟨_,rfl⟩;rw[hv0]at Hr4 htm;have Hv0:=Lh hv0;clear hv0 hcl4 hc4 cx hd0 hd9;go_wp2_with fail
    go_loopw [8] (fun vr wx=>Z7 w2 w2.heap.size i m' v q vr wx) (fun _ wx=>10-intAt wx w2.heap.size i)
    case atStart=>exact⟨0,A4,n4,c4,rfl,by omega,by rw[Mt,Nat.sub_zero];exact Hr4.out,by have:=Hb4.out (by rw[Hxs.out];omega);rw[WD]at this;exact this,B4.out⟩
    case round=>
     obtain⟨t,A5,n5,c5,rfl,htv,hrest5,hblk5,hbel5⟩:=hrel;have Hrest5:=Lh hrest5;have Hblk5:=Lh hblk5;have Hbel5:=Lh hbel5;have Htv:=Lh htv;have ht9:t<=9:=by
      rcases Mu 9 t with h|h
      ·exfalso;have h1:10*m'<=t*m':=M9 _ h;have:=htm.out;omega
      ·exact h
     have hcl5:=hrest5.dig.isl.2.1;have hcc5:=hrest5.dig.cap;have Hcell:=Lh (fun w' (h:Below wr.heap.size wr w')=>by have:=(hblk5.keep h).cell (i:=i) (by rw[XC,M0];omega);rw[XD]at this;exact this);have Hfz:=Lh (fun w' (h:Below wr.heap.size wr w')=>(hblk5.keep h).frozen i);have Hat:=Lh (by have:=hblk5.intAt (i:=i) (by rw[XC,M0];omega);rw[XD]at this;exact this);have Ho:=Lh (Q4 wr hrest5.dig (HY.out.keep' hbel5));clear hrest5 hblk5 hbel5 htv;rcases Ox (v-t*m') m' with⟨hlt,hc⟩|⟨hge,hc0,hc1⟩
     ·rw[hc]at Ho;have Hlt:=Lh hlt;clear hc hlt;go_wp2_with fail
      refine Ho.out.mono ?_;rintro e w6⟨rfl,h6⟩;have Hfin:=Lh (show EH w2 w2.heap.size m' (digN m) (.slice A5 n5 c5) (Ji Jl ((i:Int) - 1)) w6 from
       ⟨i,v - t*m',(t:Int) :: q,A5,n5,c5,rfl,rfl,Hrest5.out.keep h6,Hlt.out,by rw [M0]; have:=Hq.out; omega,fun x hx=>by
        rcases List.mem_cons.1 hx with rfl|hx
        ·omega
        ·exact Hdq.out x hx,by
        rw[E7 (by rw[Hxs.out];exact hin) Hd.out,Hv.out,dval,Int.toNat_natCast,M5];have h1:=Hv0.out;have h2:=Htv.out;rw[Mw,Ms];omega,fun _=>Hblk5.out.keep h6,Jd Hbel5.out h6⟩)
      clear h6;go_wp2_with fail
      exact⟨Hfin.out,by simp[intOf] <;> omega⟩
     ·obtain⟨x,hx⟩:∃x,cmpN (v-t*m') m'=x:=⟨_,rfl⟩;rw[hx]at Ho hc0 hc1;have Hge:=Lh hge;clear hx hge;go_wp2_with fail
      refine Ho.out.mono ?_;rintro e w6⟨rfl,h6⟩;have H6:=Lh h6;have Hmin:=Lh (U6 w6 (Hrest5.out.dig.keep' h6) (HY.out.keep' (Jd Hbel5.out h6)) Hge.out (by
       have h1:=Hrest5.out.dig.size;have h2:=GQ (r:=v-t*m') (m':=10*m') (k:=n'+1) (by have:=htm.out;omega) (by rw[Yi];have:=Yo m';rw[Hys.out]at this;omega);omega))
      clear h6;go_wp2_with fail
      refine Hmin.out.mono ?_;rintro e w7⟨A7,n7,c7,rfl,h7d,h7n,h7,h7nil,h7low⟩;have H7:=Lh (Jd H6.out h7);have hr7:YJ (w2.heap.size+1) w7 A7 n7 c7 (v-(t+1)*m'):=by
       have e:v-t*m'-m'=v-(t+1)*m':=by rw[M5];omega
       rw[←e];exact⟨h7d,h7nil,fun a ha=>M7 (by have:=(Jd Hbel5.out H6.out).size;have:=(Hblk5.out.keep H6.out).lt;omega) (h7low a ha)⟩
      have Hr7:=Lh hr7;have cq:=Hcell.out _ H7.out;have fq:=Hfz.out _ H7.out;have Hfin:=fun mm=>Lh (show Z7 w2 w2.heap.size i m' v q (.slice A7 n7 c7) ((w7.drewN mm).setCell ⟨w2.heap.size,i,Jn⟩ (Ji Jl ((t:Int)+1))) from
       ⟨t+1,A7,n7,c7,rfl,by rw [M5]; have:=Hge.out; have:=Htv.out; omega,Wv Hr7.out mm i _,by
        have:=((Hblk5.out.keep H7.out).drewN mm).set_ i ((t:Int)+1);rw[Gt]at this;exact this,(below_drewN (Jd Hbel5.out H7.out) mm).setCell (p:=⟨w2.heap.size,i,Jn⟩) (M2 w2.heap.size) _⟩)
      have Hms:=fun mm=>Lh (show intAt ((w7.drewN mm).setCell ⟨w2.heap.size,i,Jn⟩ (Ji Jl ((t:Int)+1))) w2.heap.size i=t+1 by
       have:=(((Hblk5.out.keep H7.out).drewN mm).set_ i ((t:Int)+1)).intAt (i:=i) (by rw[Mr,XC,M0];omega);rw[Gt,XD]at this;simpa using this)
      have HF:=Lh Hfin;have HM:=Lh Hms;clear Hfin Hms h7d h7n h7 h7nil h7low hr7;go_wp2_with fail
      exact⟨(HF.out 0).out,by have h1:=(HM.out 0).out;have h2:=Hat.out;rw[show w7.drewN 0=w7 from rfl]at h1;rw[h1,h2];simp;omega⟩
def numT(v:Value):Nat:=
 match v with
 | Js s=>dval (dl s.data.toList)
 | _=>0
theorem WP(z:Int):numT (Js (txt z))=z.natAbs:=(Vb z).2
def Zt(w0:JW)(m m':Nat)(va vb:Value)(wr:JW):Prop:=
 ∃x y:Nat,va=Js (txt (x:Int))/\vb=Js (txt (y:Int))/\M8 x y=M8 m m'/\x<ten 3000/\y<ten 3000/\Below w0.heap.size w0 wr
theorem NY{x y:Nat}{q r:Int}(hy:0<y)(h:DM (x:Int) (y:Int) q r):r=((x%y:Nat):Int):=by
 have hd:=Nat.div_add_mod x y;have hl:=Mx x hy;have h2:DM (x:Int) (y:Int) ((x/y:Nat):Int) ((x%y:Nat):Int):=by
  refine⟨?_,.inl ⟨by omega,by omega⟩⟩;rw[←Int.natCast_mul,←Int.natCast_add,Nat.mul_comm];omega
 exact(Zg h h2).2
theorem W7{x:Nat}(h:x<ten 3000):(txt (x:Int)).size<=4000:=by
 have:=QY (x:Int) (k:=3000) (by rw[M6];exact h) (by decide);omega
theorem Vw(x y:Nat):M8 y (x%y)=M8 x y:=by rw[Mv x y,Nat.gcd_rec y x,Mv]
theorem Up(z k:Int)(w:JW)(hs:(txt z).size<=3000)(ht:(txt k).size<=3000) :
  Calls Tryz.prog 88 #[Js (txt z),Js (txt k)] w fun e w'=>e= .returned (Js (txt ((M8 z.natAbs k.natAbs:Nat):Int)))/\Below w.heap.size w w':=by
 have Hdz:=Lh (fun w=>QE z w (by omega));have Hdk:=Lh (fun w=>QE k w (by omega));have lz:z.natAbs<ten 3000:=M4 (Yo _) (JK (M7 (@Ud z) hs));have lk:k.natAbs<ten 3000:=M4 (Yo _) (JK (M7 (@Ud k) ht));obtain⟨S,hS⟩:∃S,txt z=S:=⟨_,rfl⟩;obtain⟨T,hT⟩:∃T,txt k=T:=⟨_,rfl⟩;rw[hS]at Hdz hs ⊢;rw[hT]at Hdk ht ⊢;obtain⟨m,hm⟩:∃m,z.natAbs=m:=⟨_,rfl⟩;obtain⟨m',hm'⟩:∃m',k.natAbs=m':=⟨_,rfl⟩;rw[hm]at Hdz lz ⊢;rw[hm']at Hdk lk ⊢;have Lz:=Lh lz;have Lk:=Lh lk;clear hS hT hm hm' lz lk;go_enter Tryz.func88,Tryz.ntmps88;go_wp2_with fail
 refine(Hdz.out _).mono ?_;rintro e w1⟨A,n,c,rfl,hd1,hn1,h1⟩;have K1:=Lh h1;have Ht:=Lh (by have:=JB false A n c _ w1 hd1.isl (by omega) hd1.cap (JM _);rw[Uy false (JM _),Qz]at this;exact this);clear h1 hd1;go_wp2_with fail
 refine Ht.out.mono ?_;rintro e w2⟨rfl,h2⟩;have K2:=Lh (Jd K1.out h2);clear h2;go_wp2_with fail
 refine(Hdk.out _).mono ?_;rintro e w3⟨A',n',c',rfl,hd3,hn3,h3⟩;have K3:=Lh (Jd K2.out h3);have Ht3:=Lh (by have:=JB false A' n' c' _ w3 hd3.isl (by omega) hd3.cap (JM _);rw[Uy false (JM _),Qz]at this;exact this);clear h3 hd3;go_wp2_with fail
 refine Ht3.out.mono ?_;rintro e w4⟨rfl,h4⟩;have K4:=Lh (Jd K3.out h4);clear h4;go_wp2_with fail
 go_loopw [5,6] (fun va vb wr=>Zt w m m' va vb wr) (fun _ vb _=>numT vb)
 case atStart=>exact⟨m,m',rfl,rfl,rfl,Lz.out,Lk.out,K4.out⟩
 case round=>
  obtain⟨x,y,rfl,rfl,hg,hx,hy,hbel⟩:=hrel;have Hg:=Lh hg;have Hx:=Lh hx;have Hy:=Lh hy;have Hbel:=Lh hbel;clear hg hx hy hbel;rcases M1 y with h0|h0
  ·subst h0;rw[show((0:Nat):Int)=0 from rfl,Qo];have Hfin:=Lh (show x=M8 m m' by rw[←Hg.out,Nat.gcd_zero_right]);go_wp2;go_ret;exact⟨by rw[←Hfin.out];rfl,Hbel.out⟩
  ·have hn0:=Xi (z:=(y:Int)) (by omega);have Hdm:=Lh (fun w=>Yl (x:Int) (y:Int) w (W7 Hx.out) (W7 Hy.out) (by omega));have Hm:=Lh (WP (y:Int));have Hl:=Lh (Mx x h0);obtain⟨X,hX⟩:∃X,txt (x:Int)=X:=⟨_,rfl⟩;obtain⟨Y,hY⟩:∃Y,txt (y:Int)=Y:=⟨_,rfl⟩;have HY:=Lh hY;rw[hX,hY]at Hdm;rw[hY]at hn0;rw[hX,hY];clear hX hY;go_wp2_with fail
   refine(Hdm.out _).mono ?_;rintro e w5⟨⟨q,r,rfl,hq⟩,h5⟩;have hr:=NY h0 hq;have K5:=Lh (Jd Hbel.out h5);have Hnext:=Lh (show Zt w m m' (Js Y) (Js (txt r)) w5 from
    ⟨y,x % y,by rw [HY.out],by rw [hr],by rw [Vw]; exact Hg.out,Hy.out,Nat.lt_trans Hl.out Hy.out,K5.out⟩)
   have Hms:=Lh (show numT (Js (txt r))<numT (Js Y)by rw[WP,←HY.out,Hm.out,hr,M6,M6];exact Hl.out);clear h5 hq hr;go_wp2_with fail
   exact⟨Hnext.out,Hms.out⟩
