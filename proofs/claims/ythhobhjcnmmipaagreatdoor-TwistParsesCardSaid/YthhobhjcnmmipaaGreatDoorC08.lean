/- C08: Bits RatA -/
import Derived.Test.YthhobhjcnmmipaaGreatDoorC05
import Derived.Test.YthhobhjcnmmipaaGreatDoorC02
import Derived.Test.YthhobhjcnmmipaaGreatDoorC07
set_option maxRecDepth 100000
set_option maxHeartbeats 16000000
namespace Go.Proofs.YthhobhjcnmmipaaGreatDoor
open Go.Value renaming pointer→Jp,int→Ji,agg→Ja
open Go.IntKind renaming i64→Jl
open Go.Obj renaming cells→Jc
open _root_.Option renaming none→Jn
open Go renaming World→JW
open Go.RowKit.Below renaming heap_setCell→E4,refl→EY
open _root_.Rat renaming divInt→E5,divInt_eq_divInt_iff→Fa
open Go.World renaming cell?_of_block→E6,setCell→F0,frozen?_setCell→Fb
open _root_.Nat renaming gcd_dvd_right→E7,le_refl→E8,gcd→E9,eq_zero_or_pos→EZ,mul_le_mul_left→Fc,div_mul_cancel→Fe,gcd_dvd_left→Ff,pow_add→Fg
open Go.RowKit
def Len2(m l:Nat):Prop:=(m=0->l=0)/\(0<m->1<=l/\2^(l-1)<=m/\m<2^l)
theorem UP(n:Nat):base n=2^(64*n):=by
 unfold base;rw[show(18446744073709551616:Nat)=2^64 from by decide,←Nat.pow_mul]
theorem UJ{xs:List Nat}{n x m:Nat}(hw:Jy xs)(hn:xs.length=n+1)(ht:Vf xs)(hx:xs.getD n 0=x)(hv:Je xs=m):0<x/\x<18446744073709551616/\Len2 m (64*n+Lib.bitLen x):=by
 have hx1:=JG hw n;rw[hx]at hx1;have e:m=Je (xs.take n)+base n*x:=by
  have:=JX (xs:=xs) (k:=n) hx;rw[List.take_of_length_le (by omega),hv]at this;exact this
 have hlo:=JH (JK hw n);rw[List.length_take,Nat.min_eq_left (by omega)]at hlo;have hge:base n<=m:=by
  rcases ht with h|h
  ·omega
  ·rw[hv,hn]at h;exact h
 have hx0:0<x:=by
  rcases EZ x with h|h
  ·subst h;rw[Nat.mul_zero]at e;omega
  ·exact h
 refine⟨hx0,hx1,fun h0=>?_,fun _=>?_⟩
 ·have:=Uf n;omega
 ·obtain⟨b1,b2,b3⟩:=Lib.bitLenAux_bounds 64 x hx1 (by omega);have hb:Lib.bitLenAux 64 x=Lib.bitLen x:=rfl;rw[hb]at b1 b2 b3;obtain⟨l,hl⟩:∃l,Lib.bitLen x=l+1:=⟨Lib.bitLen x-1,by omega⟩;rw[hl]at b2 b3 ⊢;rw[Nat.add_sub_cancel]at b2;refine⟨by omega,?_,?_⟩
  ·rw[show 64*n+(l+1)-1=64*n+l by omega,Fg,←UP];have:=Fc (base n) b2;omega
  ·rw[Fg,←UP];have:base n*(x+1)<=base n*2^(l+1):=Fc _ b3;rw[Nat.mul_add]at this;omega
theorem ZT(p:Nat)(w:JW) :
  Calls Tryz.prog 98 #[Ja #[Ji Jl 0,Jp (some ⟨p,0,Jn⟩)]] w fun e w'=>e= .returned (.tuple #[Ji Jl 0,.bool false])/\Below w.heap.size w w':=by
 go_enter Tryz.func98,Tryz.ntmps98;go_wp2;go_quiet (fail)
 go_wp2;go_ret2;exact⟨rfl,below_drewN ((EY _ _).alloc (E8 _) _) _⟩
theorem UK(a:Int)(P:Option Addr)(z:Int)(w:JW)(h:Jj 0 w (Ja #[Ji Jl a,Jp P]) z) :
  Calls Tryz.prog 98 #[Ja #[Ji Jl a,Jp P]] w fun e w'=>(∃(n:Int) (b:Bool),e= .returned (.tuple #[Ji Jl n,.bool b])/\(I64 z->n=z/\b=true)/\(¬I64 z->n=0/\b=false))/\Below w.heap.size w w':=by
 rcases h.ways with⟨hz,e⟩|⟨hz,p,e,_,_⟩
 ·rw[e];exact(KU z w).mono fun e w' ⟨h1,h2⟩=>⟨⟨z,true,h1,fun _=>⟨rfl,rfl⟩,fun h=>absurd hz h⟩,h2⟩
 ·rw[e];exact(ZT p w).mono fun e w' ⟨h1,h2⟩=>⟨⟨0,false,h1,fun h=>absurd h hz,fun _=>⟨rfl,rfl⟩⟩,h2⟩
theorem KP{n:Int}{d:Nat}(hd:0<d)(hc:E9 n.natAbs d=1){N D:Int}(hD:D≠0)(h:n*D=N*d):(E5 N D).num=n/\(E5 N D).den=d:=by
 have e:E5 N D=⟨n,d,by omega,hc⟩:=by
  rw[Rat.mk_eq_divInt,Fa hD (by omega)];exact h.symm
 rw[e];exact⟨rfl,rfl⟩
theorem Xg{g:Nat}{n:Int}(h:g∣n.natAbs):∃c:Int,n=g*c:=Int.ofNat_dvd_left.2 h
theorem Yb{n:Int}{k:Nat}(hk:0<k):(E5 n k).num=n/(E9 n.natAbs k:Nat)/\(E5 n k).den=k/E9 n.natAbs k:=by
 have hg:0<E9 n.natAbs k:=Nat.gcd_pos_of_pos_right _ hk;obtain⟨c,hc⟩:=Xg (Ff n.natAbs k);obtain⟨d,hd⟩:=E7 n.natAbs k;obtain⟨g,hge⟩:∃g,E9 n.natAbs k=g:=⟨_,rfl⟩;have hgi:(g:Int)≠0:=by omega
 have hcop:E9 c.natAbs d=1:=by
  have h1:=hge;rw[hge]at hc hd;rw[hc,hd,Int.natAbs_mul,Int.natAbs_natCast,Nat.gcd_mul_left]at h1;have h2:g*E9 c.natAbs d=g*1:=by omega
  exact Nat.eq_of_mul_eq_mul_left (by omega) h2
 rw[hge]at hc hd hg ⊢;have hd0:0<d:=by
  rcases EZ d with h|h
  ·rw[h]at hd;omega
  ·exact h
 have h:=KP (N:=n) (D:=k) hd0 hcop (by omega) (by rw[hc,hd];push_cast;simp only[Int.mul_comm,Int.mul_left_comm]);rw[h.1,h.2];refine⟨?_,?_⟩
 ·rw[hc,Int.mul_ediv_cancel_left _ hgi]
 ·rw[hd,Nat.mul_div_cancel_left _ hg]
theorem Zf(n k:Int):E5 (-n) (-k)=E5 n k:=Rat.neg_divInt_neg n k
theorem Ya(q:Rat):E5 q.num q.den=q:=Rat.num_divInt_den q
def denZ(d:Nat):Int:=if d=1 then 0 else(d:Int)
theorem Oq:denZ 1=0:=rfl
theorem UO{d:Nat}(h:d≠1):denZ d=(d:Int):=by unfold denZ;rw[if_neg h]
theorem KQ(a b:Rat){g c:Nat}{n:Int}{x y:Nat}(hg:E9 a.den b.den=g)(hx:a.den/g=x)(hy:b.den/g=y)(hn:a.num*y+b.num*x=n)(hc:E9 n.natAbs g=c) :
  (a+b).num=n/c/\((a+b).den:Int)=x*(b.den/c:Nat):=by
 have ha:=a.den_pos;have hb:=b.den_pos;have hgp:0<g:=by rw[←hg];exact Nat.gcd_pos_of_pos_left _ ha
 have aux:=Rat.add.aux a b hg.symm hx.symm hy.symm;simp only at aux;rw[hn,hc]at aux;have hax:a.den=x*g:=by rw[←hx,Fe (hg ▸ Ff _ _)]
 have hby:b.den=y*g:=by rw[←hy,Fe (hg ▸ E7 _ _)]
 have hxp:0<x:=by
  rcases EZ x with h|h
  ·rw[h]at hax;omega
  ·exact h
 have hD:0<x*b.den:=Nat.mul_pos hxp hb;have e:a+b=E5 n ((x*b.den:Nat):Int):=by
  have e0:=Rat.divInt_add_divInt a.num b.num (d₁:=a.den) (d₂:=b.den) (by omega) (by omega);rw[Ya,Ya]at e0;rw[e0,Fa (by rw[←Int.natCast_mul];exact Int.ofNat_ne_zero.2 (Nat.ne_of_gt (Nat.mul_pos ha hb))) (Int.ofNat_ne_zero.2 (Nat.ne_of_gt hD)),←hn];have e1:(a.den:Int)=x*g:=by rw[hax];push_cast;rfl
  have e2:(b.den:Int)=y*g:=by rw[hby];push_cast;rfl
  push_cast
  rw[e1,e2];simp only[Int.mul_add,Int.mul_assoc,Int.mul_comm,Int.mul_left_comm]
 rw[e];obtain⟨h1,h2⟩:=Yb (n:=n) hD;rw[←aux]at h1 h2;refine⟨h1,?_⟩;have hcd:c∣b.den:=Nat.dvd_trans (hc ▸ E7 _ _) (hg ▸ E7 _ _);rw[h2,Nat.mul_div_assoc _ hcd,Int.natCast_mul]
structure Jh (w:JW) (p:Nat) (vs:List Value):Prop where
 at_:∀i,w.cell? ⟨p,i,Jn⟩=vs[i]?
 fz:∀i,w.frozen? ⟨p,i,Jn⟩=false
 lt:p<w.heap.size
theorem Jh.keep{w w':JW}{p:Nat}{vs:List Value}(h:Jh w p vs)(hb:Below w.heap.size w w'):Jh w' p vs:=
 ⟨fun i=>(hb.cell (p:=⟨p,i,Jn⟩) h.lt).trans (h.at_ i),fun i=>(hb.frozen (p:=⟨p,i,Jn⟩) h.lt).trans (h.fz i),Nat.lt_of_lt_of_le h.lt hb.size⟩
theorem Jh.of_row{w:JW}{p:Nat}{vs:Array Value}{T:TypeId}(h:w.heap[p]?=some (Jc vs T (0,0))):Jh w p vs.toList:=by
 refine⟨fun i=>by rw[cell_of_row _ _ _ _ _ _ h];simp,fun i=>by simp[World.frozen?,h],?_⟩;rcases Nat.lt_or_ge p w.heap.size with h1|h1
 ·exact h1
 ·rw[Array.getElem?_eq_none h1]at h;cases h
theorem Jh.new(w:JW)(vs:Array Value)(T:TypeId):Jh (w.alloc (Jc vs T)) w.heap.size vs.toList:=Jh.of_row (Ua w _)
theorem Jh.set{w:JW}{p:Nat}{vs:List Value}(h:Jh w p vs)(i:Nat)(u:Value)(hi:i<vs.length):Jh (w.setCell ⟨p,i,Jn⟩ u) p (vs.set i u):=by
 refine⟨fun k=>?_,fun k=>by rw[Fb];exact h.fz k,by simpa[F0]using h.lt⟩;by_cases hk:k=i
 ·subst hk;rw[World.cell?_setCell_same _ _ _ ((h.at_ k).trans (List.getElem?_eq_getElem hi))];simp[hi]
 ·rw[World.cell?_setCell_other _ _ _ _ (by simp <;> omega),h.at_ k,List.getElem?_set_ne (by omega)]
theorem Jh.other{w:JW}{p q:Nat}{vs:List Value}(h:Jh w p vs)(hq:p≠q)(i:Nat)(u:Value):Jh (w.setCell ⟨q,i,Jn⟩ u) p vs:=by
 have hb:=E4 w ⟨q,i,Jn⟩ u p hq;exact⟨fun k=>(E6 hb).trans (h.at_ k),fun k=>by rw[Fb];exact h.fz k,by simpa[F0]using h.lt⟩
def YI:Value->Bool
 | Ji Jl _=>true
 | Jp _=>true
 | _=>false
theorem Jh.plain{w:JW}{p:Nat}{vs:List Value}(h:Jh w p vs)(hp:vs.all YI=true)(i:Nat){x:Value}(hx:w.cell? ⟨p,i,Jn⟩=some x):YI x=true:=by
 rw[h.at_ i]at hx;exact List.all_eq_true.1 hp x (List.mem_of_getElem? hx)
theorem Jj.wrote{w w':JW}{v:Value}{z:Int}{p:Nat}{vs:List Value}(h:Jj 0 w v z)(hc:Jh w p vs)(hp:vs.all YI=true)(hs:w'.heap.size=w.heap.size)(hk:∀k,k≠p->w'.heap[k]?=w.heap[k]?):Jj 0 w' v z:=by
 rcases h with h|⟨hz,q,A,n,c,xs,rfl,hq,hB,hA,c0,c1,hl,hcc,hn,hw,ht,hv⟩
 ·exact .inl h
 ·have hqp:q≠p:=by
   intro e;subst e;have:=hc.plain hp 0 c0;cases this
  refine .inr ⟨hz,q,A,n,c,xs,rfl,by omega,hB,hA,(E6 (hk q hqp)).trans c0,(E6 (hk q hqp)).trans c1,⟨hl.1,hl.2.1,fun h0=>?_⟩,hcc,hn,hw,ht,hv⟩;obtain⟨b,o,e,hb,hcell⟩:=hl.2.2 h0;have hlen:=hl.1;rw[JS]at hlen;have hbp:b≠p:=by
   intro e2;subst e2;have h1:=hcell 0 (Ji .u64 ((xs.getD 0 0:Nat):Int)) (by simp[u64s,show 0<xs.length by omega]);have:=hc.plain hp _ h1;cases this
  exact⟨b,o,e,by omega,fun j u hu=>(E6 (hk b hbp)).trans (hcell j u hu)⟩
structure RatV (w:JW) (a:Int) (P:Option Addr) (b:Int) (Q:Option Addr) (q:Rat):Prop where
 num:Jj 0 w (Ja #[Ji Jl a,Jp P]) q.num
 den:Jj 0 w (Ja #[Ji Jl b,Jp Q]) (denZ q.den)
theorem RatV.keep{w w':JW}{a b:Int}{P Q:Option Addr}{q:Rat}(h:RatV w a P b Q q)(hb:Below w.heap.size w w'):RatV w' a P b Q q:=⟨h.num.keep hb,h.den.keep hb⟩
theorem RatV.wrote{w w':JW}{a b:Int}{P Q:Option Addr}{q:Rat}{p:Nat}{vs:List Value}(h:RatV w a P b Q q)(hc:Jh w p vs)(hp:vs.all YI=true)(hs:w'.heap.size=w.heap.size)(hk:∀k,k≠p->w'.heap[k]?=w.heap[k]?):RatV w' a P b Q q:=
 ⟨h.num.wrote hc hp hs hk,h.den.wrote hc hp hs hk⟩
def put2(w:JW)(p:Nat)(x y:Value):JW:=(w.setCell ⟨p,0,Jn⟩ x).setCell ⟨p,1,Jn⟩ y
def put4(w:JW)(p:Nat)(x y z u:Value):JW:=(((w.setCell ⟨p,0,Jn⟩ x).setCell ⟨p,1,Jn⟩ y).setCell ⟨p,2,Jn⟩ z).setCell ⟨p,3,Jn⟩ u
theorem Qe(w:JW)(p:Nat)(x y:Value):(put2 w p x y).heap.size=w.heap.size/\∀k,k≠p->(put2 w p x y).heap[k]?=w.heap[k]?:=
 ⟨by simp[put2,F0],fun k hk=>(E4 _ ⟨p,1,Jn⟩ y k hk).trans (E4 w ⟨p,0,Jn⟩ x k hk)⟩
theorem Jk(w:JW)(p:Nat)(x y z u:Value):(put4 w p x y z u).heap.size=w.heap.size/\∀k,k≠p->(put4 w p x y z u).heap[k]?=w.heap[k]?:=
 ⟨by simp[put4,F0],fun k hk=>(E4 _ ⟨p,3,Jn⟩ u k hk).trans ((E4 _ ⟨p,2,Jn⟩ z k hk).trans ((E4 _ ⟨p,1,Jn⟩ y k hk).trans (E4 w ⟨p,0,Jn⟩ x k hk)))⟩
theorem Q3{w0 w:JW}{p:Nat}(h:Below w0.heap.size w0 w)(hp:w0.heap.size<=p)(x y:Value):Below w0.heap.size w0 (put2 w p x y):=
 (h.setCell (p:=⟨p,0,Jn⟩) hp x).setCell (p:=⟨p,1,Jn⟩) hp y
theorem JC{w0 w:JW}{p:Nat}(h:Below w0.heap.size w0 w)(hp:w0.heap.size<=p)(x y z u:Value):Below w0.heap.size w0 (put4 w p x y z u):=
 (((h.setCell (p:=⟨p,0,Jn⟩) hp x).setCell (p:=⟨p,1,Jn⟩) hp y).setCell (p:=⟨p,2,Jn⟩) hp z).setCell (p:=⟨p,3,Jn⟩) hp u
theorem Jh.put2{w:JW}{p:Nat}{v0 v1:Value}(h:Jh w p [v0,v1])(x y:Value):Jh (put2 w p x y) p [x,y]:=(h.set 0 x (by simp)).set 1 y (by simp)
theorem Jh.put4{w:JW}{p:Nat}{v0 v1 v2 v3:Value}(h:Jh w p [v0,v1,v2,v3])(x y z u:Value):Jh (put4 w p x y z u) p [x,y,z,u]:=
 (((h.set 0 x (by simp)).set 1 y (by simp)).set 2 z (by simp)).set 3 u (by simp)
theorem Jh.put2_other{w:JW}{p q:Nat}{vs:List Value}(h:Jh w p vs)(hq:p≠q)(x y:Value):Jh (Go.Proofs.YthhobhjcnmmipaaGreatDoor.put2 w q x y) p vs:=(h.other hq 0 x).other hq 1 y
theorem Jh.c0{w:JW}{p:Nat}{v0:Value}{vs:List Value}(h:Jh w p (v0 :: vs)):w.cell? ⟨p,0,Jn⟩=some v0:=h.at_ 0
theorem Jh.c1{w:JW}{p:Nat}{v0 v1:Value}{vs:List Value}(h:Jh w p (v0 :: v1 :: vs)):w.cell? ⟨p,1,Jn⟩=some v1:=h.at_ 1
theorem Jh.c2{w:JW}{p:Nat}{v0 v1 v2:Value}{vs:List Value}(h:Jh w p (v0 :: v1 :: v2 :: vs)):w.cell? ⟨p,2,Jn⟩=some v2:=h.at_ 2
theorem Jh.c3{w:JW}{p:Nat}{v0 v1 v2 v3:Value}{vs:List Value}(h:Jh w p (v0 :: v1 :: v2 :: v3 :: vs)):w.cell? ⟨p,3,Jn⟩=some v3:=h.at_ 3
def Qo(q:Rat)(w:JW)(e:Ending)(w':JW):Prop:=
 ∃(a:Int) (P:Option Addr) (b:Int) (Q:Option Addr),e= .returned (Ja #[Ji Jl a,Jp P,Ji Jl b,Jp Q])/\RatV w' a P b Q q/\Below w.heap.size w w'
theorem QH{w:JW}{n:Int}(h:I64 n):Jj 0 w (Ja #[Ji Jl n,Jp Jn]) n:= .inl ⟨h,rfl⟩
theorem VK(a:Int)(P:Option Addr)(z:Int)(w:JW)(h:Jj 0 w (Ja #[Ji Jl a,Jp P]) z) :
  Calls Tryz.prog 96 #[Ja #[Ji Jl a,Jp P]] w fun e w'=>e= .returned (.bool (decide (z=1)))/\Below w.heap.size w w':=by
 have kk:=(EY w.heap.size w).alloc (E8 _) (Jc #[Ji Jl a,Jp P] 29);have Hi:=Lh (UK a P z _ (h.keep kk));have Kk:=Lh kk;clear h kk;by_cases hz:z=1
 ·subst hz;go_enter Tryz.func96,Tryz.ntmps96;go_wp2_with fail
  refine Hi.out.mono ?_;rintro e w1⟨⟨n,b,rfl,h1,_⟩,h2⟩;obtain⟨rfl,rfl⟩:=h1 ⟨by decide,by decide⟩;have K1:=Lh (Jd Kk.out h2);clear h1 h2;go_wp2;go_ret;exact⟨rfl,K1.out⟩
 ·have t1:decide (z=1)=false:=decide_eq_false hz;rw[t1];clear t1;go_enter Tryz.func96,Tryz.ntmps96;go_wp2_with fail
  refine Hi.out.mono ?_;rintro e w1⟨⟨n,b,rfl,h1,h3⟩,h2⟩;have K1:=Lh (Jd Kk.out h2);by_cases h64:I64 z
  ·obtain⟨rfl,rfl⟩:=h1 h64;have t0:(n ==1)=false:=by rw[beq_eq_false_iff_ne];exact hz
   clear h1 h2 h3 hz h64;go_wp2;go_ret;exact⟨rfl,K1.out⟩
  ·obtain⟨rfl,rfl⟩:=h3 h64;clear h1 h2 h3 hz h64;go_wp2;go_ret;exact⟨rfl,K1.out⟩
theorem U8(a:Int)(P:Option Addr)(b:Int)(Q:Option Addr)(q:Rat)(w:JW)(h:Jj 0 w (Ja #[Ji Jl a,Jp P]) q.num)(h':Jj 0 w (Ja #[Ji Jl b,Jp Q]) (q.den:Int)) :
  Calls Tryz.prog 77 #[Ja #[Ji Jl a,Jp P],Ja #[Ji Jl b,Jp Q]] w (Qo q w):=by
 have kk:=(((EY w.heap.size w).alloc (E8 _) (Jc #[Ji Jl a,Jp P] 29)).alloc (by simp) (Jc #[Ji Jl b,Jp Q] 29)).alloc (by simp;omega) (Jc #[Ji Jl 0,Jp Jn,Ji Jl 0,Jp Jn] 31);have V0:=Lh (((Jh.new w #[Ji Jl a,Jp P] 29).keep ((EY _ _).alloc (E8 _) (Jc #[Ji Jl b,Jp Q] 29))).keep ((EY _ _).alloc (E8 _) (Jc #[Ji Jl 0,Jp Jn,Ji Jl 0,Jp Jn] 31)));have V1:=Lh ((Jh.new (w.alloc (Jc #[Ji Jl a,Jp P] 29)) #[Ji Jl b,Jp Q] 29).keep ((EY _ _).alloc (E8 _) (Jc #[Ji Jl 0,Jp Jn,Ji Jl 0,Jp Jn] 31)));have R:=Lh (Jh.new ((w.alloc (Jc #[Ji Jl a,Jp P] 29)).alloc (Jc #[Ji Jl b,Jp Q] 29)) #[Ji Jl 0,Jp Jn,Ji Jl 0,Jp Jn] 31);simp only[World.size_alloc]at V1 R;have Hn:=Lh (h.keep kk);have Hd:=Lh (h'.keep kk);have Hone:=Lh (VK b Q (q.den:Int) _ (h'.keep kk));have Kk:=Lh kk;clear h h' kk;have c10:=V1.out.c0;have c11:=V1.out.c1;by_cases hd:q.den=1
 ·rw[show decide ((q.den:Int)=1)=true by rw[hd];rfl]at Hone;have Hd1:=Lh hd;clear hd;go_enter Tryz.func77,Tryz.ntmps77;go_wp2_with fail
  refine Hone.out.mono ?_;rintro e w1⟨rfl,h1⟩;have V0:=Lh (V0.out.keep h1);have R:=Lh (R.out.keep h1);have Hn:=Lh (Hn.out.keep h1);have K1:=Lh (Jd Kk.out h1);clear h1 c10 c11;have c0:=V0.out.c0;have c1:=V0.out.c1;have k0:=R.out.c0;have k1:=R.out.c1;have k2:=R.out.c2;have k3:=R.out.c3;have f0:=R.out.fz 0;have f1:=R.out.fz 1;have f2:=R.out.fz 2;have f3:=R.out.fz 3;have HN:=Lh (Hn.out.wrote R.out (by rfl) (Jk w1 (w.heap.size+1+1) (Ji Jl a) (Jp P) (Ji Jl 0) (Jp Jn)).1 (Jk _ _ _ _ _ _).2);have K2:=Lh (JC K1.out (show w.heap.size<=w.heap.size+1+1 by omega) (Ji Jl a) (Jp P) (Ji Jl 0) (Jp Jn));go_wp2;exact bodyPost_ret (v:=Ja #[Ji Jl a,Jp P,Ji Jl 0,Jp Jn]) (by simp[results,Tryz.results77,go_sem,k0,k1,k2,k3]) rfl ⟨a,P,0,Jn,rfl,⟨HN.out,by rw[Hd1.out,Oq];exact QH ⟨by decide,by decide⟩⟩,K2.out⟩
 ·rw[show decide ((q.den:Int)=1)=false from decide_eq_false (by omega)]at Hone;have Hd1:=Lh hd;clear hd;go_enter Tryz.func77,Tryz.ntmps77;go_wp2_with fail
  refine Hone.out.mono ?_;rintro e w1⟨rfl,h1⟩;have V0:=Lh (V0.out.keep h1);have V1:=Lh (V1.out.keep h1);have R:=Lh (R.out.keep h1);have Hn:=Lh (Hn.out.keep h1);have Hd:=Lh (Hd.out.keep h1);have K1:=Lh (Jd Kk.out h1);clear h1 c10 c11;have c0:=V0.out.c0;have c1:=V0.out.c1;have c10:=V1.out.c0;have c11:=V1.out.c1;have k0:=R.out.c0;have k1:=R.out.c1;have k2:=R.out.c2;have k3:=R.out.c3;have f0:=R.out.fz 0;have f1:=R.out.fz 1;have f2:=R.out.fz 2;have f3:=R.out.fz 3;have HN:=Lh (Hn.out.wrote R.out (by rfl) (Jk w1 (w.heap.size+1+1) (Ji Jl a) (Jp P) (Ji Jl b) (Jp Q)).1 (Jk _ _ _ _ _ _).2);have HD:=Lh (Hd.out.wrote R.out (by rfl) (Jk w1 (w.heap.size+1+1) (Ji Jl a) (Jp P) (Ji Jl b) (Jp Q)).1 (Jk _ _ _ _ _ _).2);have K2:=Lh (JC K1.out (show w.heap.size<=w.heap.size+1+1 by omega) (Ji Jl a) (Jp P) (Ji Jl b) (Jp Q));go_wp2;exact bodyPost_ret (v:=Ja #[Ji Jl a,Jp P,Ji Jl b,Jp Q]) (by simp[results,Tryz.results77,go_sem,k0,k1,k2,k3]) rfl ⟨a,P,b,Q,rfl,⟨HN.out,by rw[UO Hd1.out];exact HD.out⟩,K2.out⟩
