/- GC16: RatA Phase -/
import Derived.Test.YtekhdklbfincpaaGreatDoorGC13
import Derived.Test.YtekhdklbfincpaaGreatDoorGC14
import Derived.Test.YtekhdklbfincpaaGreatDoorGC11
import Derived.Test.YtekhdklbfincpaaGreatDoorGC15
set_option maxRecDepth 100000
set_option maxHeartbeats 16000000
namespace Go.Proofs.YtekhdklbfincpaaGreatDoor
open Go.Value renaming pointer→Jp,int→Ji,agg→Ja
open Go.IntKind renaming i64→Jl
open Go.Obj renaming cells→Jc
open _root_.Option renaming none→Jn,some→Jo
open Go renaming World→JW
open Go.RowKit.Below renaming heap_setCell→M0,refl→Mr
open _root_.Rat renaming divInt→M1,divInt_eq_divInt_iff→Ms
open Go.World renaming cell?_of_block→M2,setCell→M9,frozen?_setCell→Mv
open _root_.Bool renaming and_eq_true→M3
open _root_.Array renaming size_setIfInBounds→M4,getElem?_eq_none→Mu
open _root_.Nat renaming gcd_dvd_right→M5,gcd→M7,le_refl→M8,eq_zero_or_pos→Mx,div_mul_cancel→My,gcd_dvd_left→Mz,lt_or_ge→MC,zero_add→MD
open Go.Region renaming Mode→M6,wanted→MB,ready→ME
open _root_.List renaming all_eq_true→Mt,mem_range→Mw,range→MA
open Go.RowKit
theorem Ni{n:Int}{d:Nat}(hd:0<d)(hc:M7 n.natAbs d=1){N D:Int}(hD:D≠0)(h:n*D=N*d):(M1 N D).num=n/\(M1 N D).den=d:=by
 have e:M1 N D=⟨n,d,by omega,hc⟩:=by
  rw[Rat.mk_eq_divInt,Ms hD (by omega)];exact h.symm
 rw[e];exact⟨rfl,rfl⟩
theorem Gd{g:Nat}{n:Int}(h:g∣n.natAbs):∃c:Int,n=g*c:=Int.ofNat_dvd_left.2 h
theorem Q9{n:Int}{k:Nat}(hk:0<k):(M1 n k).num=n/(M7 n.natAbs k:Nat)/\(M1 n k).den=k/M7 n.natAbs k:=by
 have hg:0<M7 n.natAbs k:=Nat.gcd_pos_of_pos_right _ hk;obtain⟨c,hc⟩:=Gd (Mz n.natAbs k);obtain⟨d,hd⟩:=M5 n.natAbs k;obtain⟨g,hge⟩:∃g,M7 n.natAbs k=g:=⟨_,rfl⟩;have hgi:(g:Int)≠0:=by omega
 have hcop:M7 c.natAbs d=1:=by
  have h1:=hge;rw[hge]at hc hd;rw[hc,hd,Int.natAbs_mul,Int.natAbs_natCast,Nat.gcd_mul_left]at h1;have h2:g*M7 c.natAbs d=g*1:=by omega
  exact Nat.eq_of_mul_eq_mul_left (by omega) h2
 rw[hge]at hc hd hg ⊢;have hd0:0<d:=by
  rcases Mx d with h|h
  ·rw[h]at hd;omega
  ·exact h
 have h:=Ni (N:=n) (D:=k) hd0 hcop (by omega) (by rw[hc,hd];push_cast;simp only[Int.mul_comm,Int.mul_left_comm]);rw[h.1,h.2];refine⟨?_,?_⟩
 ·rw[hc,Int.mul_ediv_cancel_left _ hgi]
 ·rw[hd,Nat.mul_div_cancel_left _ hg]
theorem ZG(n k:Int):M1 (-n) (-k)=M1 n k:=Rat.neg_divInt_neg n k
theorem Yx(q:Rat):M1 q.num q.den=q:=Rat.num_divInt_den q
def denZ(d:Nat):Int:=if d=1 then 0 else(d:Int)
theorem Ov:denZ 1=0:=rfl
theorem XN{d:Nat}(h:d≠1):denZ d=(d:Int):=by unfold denZ;rw[if_neg h]
theorem Nj(a b:Rat){g c:Nat}{n:Int}{x y:Nat}(hg:M7 a.den b.den=g)(hx:a.den/g=x)(hy:b.den/g=y)(hn:a.num*y+b.num*x=n)(hc:M7 n.natAbs g=c) :
  (a+b).num=n/c/\((a+b).den:Int)=x*(b.den/c:Nat):=by
 have ha:=a.den_pos;have hb:=b.den_pos;have hgp:0<g:=by rw[←hg];exact Nat.gcd_pos_of_pos_left _ ha
 have aux:=Rat.add.aux a b hg.symm hx.symm hy.symm;simp only at aux;rw[hn,hc]at aux;have hax:a.den=x*g:=by rw[←hx,My (hg ▸ Mz _ _)]
 have hby:b.den=y*g:=by rw[←hy,My (hg ▸ M5 _ _)]
 have hxp:0<x:=by
  rcases Mx x with h|h
  ·rw[h]at hax;omega
  ·exact h
 have hD:0<x*b.den:=Nat.mul_pos hxp hb;have e:a+b=M1 n ((x*b.den:Nat):Int):=by
  have e0:=Rat.divInt_add_divInt a.num b.num (d₁:=a.den) (d₂:=b.den) (by omega) (by omega);rw[Yx,Yx]at e0;rw[e0,Ms (by rw[←Int.natCast_mul];exact Int.ofNat_ne_zero.2 (Nat.ne_of_gt (Nat.mul_pos ha hb))) (Int.ofNat_ne_zero.2 (Nat.ne_of_gt hD)),←hn];have e1:(a.den:Int)=x*g:=by rw[hax];push_cast;rfl
  have e2:(b.den:Int)=y*g:=by rw[hby];push_cast;rfl
  push_cast
  rw[e1,e2];simp only[Int.mul_add,Int.mul_assoc,Int.mul_comm,Int.mul_left_comm]
 rw[e];obtain⟨h1,h2⟩:=Q9 (n:=n) hD;rw[←aux]at h1 h2;refine⟨h1,?_⟩;have hcd:c∣b.den:=Nat.dvd_trans (hc ▸ M5 _ _) (hg ▸ M5 _ _);rw[h2,Nat.mul_div_assoc _ hcd,Int.natCast_mul]
structure Jh (w:JW) (p:Nat) (vs:List Value):Prop where
 at_:∀i,w.cell? ⟨p,i,Jn⟩=vs[i]?
 fz:∀i,w.frozen? ⟨p,i,Jn⟩=false
 lt:p<w.heap.size
theorem Jh.keep{w w':JW}{p:Nat}{vs:List Value}(h:Jh w p vs)(hb:Below w.heap.size w w'):Jh w' p vs:=
 ⟨fun i=>(hb.cell (p:=⟨p,i,Jn⟩) h.lt).trans (h.at_ i),fun i=>(hb.frozen (p:=⟨p,i,Jn⟩) h.lt).trans (h.fz i),Nat.lt_of_lt_of_le h.lt hb.size⟩
theorem Jh.of_row{w:JW}{p:Nat}{vs:Array Value}{T:TypeId}(h:w.heap[p]?=Jo (Jc vs T (0,0))):Jh w p vs.toList:=by
 refine⟨fun i=>by rw[cell_of_row _ _ _ _ _ _ h];simp,fun i=>by simp[World.frozen?,h],?_⟩;rcases MC p w.heap.size with h1|h1
 ·exact h1
 ·rw[Mu h1]at h;cases h
theorem Jh.new(w:JW)(vs:Array Value)(T:TypeId):Jh (w.alloc (Jc vs T)) w.heap.size vs.toList:=Jh.of_row (UU w _)
theorem Jh.set{w:JW}{p:Nat}{vs:List Value}(h:Jh w p vs)(i:Nat)(u:Value)(hi:i<vs.length):Jh (w.setCell ⟨p,i,Jn⟩ u) p (vs.set i u):=by
 refine⟨fun k=>?_,fun k=>by rw[Mv];exact h.fz k,by simpa[M9]using h.lt⟩;by_cases hk:k=i
 ·subst hk;rw[World.cell?_setCell_same _ _ _ ((h.at_ k).trans (List.getElem?_eq_getElem hi))];simp[hi]
 ·rw[World.cell?_setCell_other _ _ _ _ (by simp <;> omega),h.at_ k,List.getElem?_set_ne (by omega)]
theorem Jh.other{w:JW}{p q:Nat}{vs:List Value}(h:Jh w p vs)(hq:p≠q)(i:Nat)(u:Value):Jh (w.setCell ⟨q,i,Jn⟩ u) p vs:=by
 have hb:=M0 w ⟨q,i,Jn⟩ u p hq;exact⟨fun k=>(M2 hb).trans (h.at_ k),fun k=>by rw[Mv];exact h.fz k,by simpa[M9]using h.lt⟩
def UK:Value->Bool
 | Ji Jl _=>true
 | Jp _=>true
 | _=>false
theorem Jh.plain{w:JW}{p:Nat}{vs:List Value}(h:Jh w p vs)(hp:vs.all UK=true)(i:Nat){x:Value}(hx:w.cell? ⟨p,i,Jn⟩=Jo x):UK x=true:=by
 rw[h.at_ i]at hx;exact List.all_eq_true.1 hp x (List.mem_of_getElem? hx)
theorem Jq.wrote{w w':JW}{v:Value}{z:Int}{p:Nat}{vs:List Value}(h:Jq 0 w v z)(hc:Jh w p vs)(hp:vs.all UK=true)(hs:w'.heap.size=w.heap.size)(hk:∀k,k≠p->w'.heap[k]?=w.heap[k]?):Jq 0 w' v z:=by
 rcases h with h|⟨hz,q,A,n,c,xs,rfl,hq,hB,hA,c0,c1,hl,hcc,hn,hw,ht,hv⟩
 ·exact .inl h
 ·have hqp:q≠p:=by
   intro e;subst e;have:=hc.plain hp 0 c0;cases this
  refine .inr ⟨hz,q,A,n,c,xs,rfl,by omega,hB,hA,(M2 (hk q hqp)).trans c0,(M2 (hk q hqp)).trans c1,⟨hl.1,hl.2.1,fun h0=>?_⟩,hcc,hn,hw,ht,hv⟩;obtain⟨b,o,e,hb,hcell⟩:=hl.2.2 h0;have hlen:=hl.1;rw[Qi]at hlen;have hbp:b≠p:=by
   intro e2;subst e2;have h1:=hcell 0 (Ji .u64 ((xs.getD 0 0:Nat):Int)) (by simp[u64s,show 0<xs.length by omega]);have:=hc.plain hp _ h1;cases this
  exact⟨b,o,e,by omega,fun j u hu=>(M2 (hk b hbp)).trans (hcell j u hu)⟩
structure RatV (w:JW) (a:Int) (P:Option Addr) (b:Int) (Q:Option Addr) (q:Rat):Prop where
 num:Jq 0 w (Ja #[Ji Jl a,Jp P]) q.num
 den:Jq 0 w (Ja #[Ji Jl b,Jp Q]) (denZ q.den)
theorem RatV.keep{w w':JW}{a b:Int}{P Q:Option Addr}{q:Rat}(h:RatV w a P b Q q)(hb:Below w.heap.size w w'):RatV w' a P b Q q:=⟨h.num.keep hb,h.den.keep hb⟩
theorem RatV.wrote{w w':JW}{a b:Int}{P Q:Option Addr}{q:Rat}{p:Nat}{vs:List Value}(h:RatV w a P b Q q)(hc:Jh w p vs)(hp:vs.all UK=true)(hs:w'.heap.size=w.heap.size)(hk:∀k,k≠p->w'.heap[k]?=w.heap[k]?):RatV w' a P b Q q:=
 ⟨h.num.wrote hc hp hs hk,h.den.wrote hc hp hs hk⟩
def put2(w:JW)(p:Nat)(x y:Value):JW:=(w.setCell ⟨p,0,Jn⟩ x).setCell ⟨p,1,Jn⟩ y
def put4(w:JW)(p:Nat)(x y z u:Value):JW:=(((w.setCell ⟨p,0,Jn⟩ x).setCell ⟨p,1,Jn⟩ y).setCell ⟨p,2,Jn⟩ z).setCell ⟨p,3,Jn⟩ u
theorem Qy(w:JW)(p:Nat)(x y:Value):(put2 w p x y).heap.size=w.heap.size/\∀k,k≠p->(put2 w p x y).heap[k]?=w.heap[k]?:=
 ⟨by simp[put2,M9],fun k hk=>(M0 _ ⟨p,1,Jn⟩ y k hk).trans (M0 w ⟨p,0,Jn⟩ x k hk)⟩
theorem Jr(w:JW)(p:Nat)(x y z u:Value):(put4 w p x y z u).heap.size=w.heap.size/\∀k,k≠p->(put4 w p x y z u).heap[k]?=w.heap[k]?:=
 ⟨by simp[put4,M9],fun k hk=>(M0 _ ⟨p,3,Jn⟩ u k hk).trans ((M0 _ ⟨p,2,Jn⟩ z k hk).trans ((M0 _ ⟨p,1,Jn⟩ y k hk).trans (M0 w ⟨p,0,Jn⟩ x k hk)))⟩
theorem YI{w0 w:JW}{p:Nat}(h:Below w0.heap.size w0 w)(hp:w0.heap.size<=p)(x y:Value):Below w0.heap.size w0 (put2 w p x y):=
 (h.setCell (p:=⟨p,0,Jn⟩) hp x).setCell (p:=⟨p,1,Jn⟩) hp y
theorem JA{w0 w:JW}{p:Nat}(h:Below w0.heap.size w0 w)(hp:w0.heap.size<=p)(x y z u:Value):Below w0.heap.size w0 (put4 w p x y z u):=
 (((h.setCell (p:=⟨p,0,Jn⟩) hp x).setCell (p:=⟨p,1,Jn⟩) hp y).setCell (p:=⟨p,2,Jn⟩) hp z).setCell (p:=⟨p,3,Jn⟩) hp u
theorem Jh.put2{w:JW}{p:Nat}{v0 v1:Value}(h:Jh w p [v0,v1])(x y:Value):Jh (put2 w p x y) p [x,y]:=(h.set 0 x (by simp)).set 1 y (by simp)
theorem Jh.put4{w:JW}{p:Nat}{v0 v1 v2 v3:Value}(h:Jh w p [v0,v1,v2,v3])(x y z u:Value):Jh (put4 w p x y z u) p [x,y,z,u]:=
 (((h.set 0 x (by simp)).set 1 y (by simp)).set 2 z (by simp)).set 3 u (by simp)
theorem Jh.put2_other{w:JW}{p q:Nat}{vs:List Value}(h:Jh w p vs)(hq:p≠q)(x y:Value):Jh (Go.Proofs.YtekhdklbfincpaaGreatDoor.put2 w q x y) p vs:=(h.other hq 0 x).other hq 1 y
theorem Jh.c0{w:JW}{p:Nat}{v0:Value}{vs:List Value}(h:Jh w p (v0 :: vs)):w.cell? ⟨p,0,Jn⟩=Jo v0:=h.at_ 0
theorem Jh.c1{w:JW}{p:Nat}{v0 v1:Value}{vs:List Value}(h:Jh w p (v0 :: v1 :: vs)):w.cell? ⟨p,1,Jn⟩=Jo v1:=h.at_ 1
theorem Jh.c2{w:JW}{p:Nat}{v0 v1 v2:Value}{vs:List Value}(h:Jh w p (v0 :: v1 :: v2 :: vs)):w.cell? ⟨p,2,Jn⟩=Jo v2:=h.at_ 2
theorem Jh.c3{w:JW}{p:Nat}{v0 v1 v2 v3:Value}{vs:List Value}(h:Jh w p (v0 :: v1 :: v2 :: v3 :: vs)):w.cell? ⟨p,3,Jn⟩=Jo v3:=h.at_ 3
def YC(q:Rat)(w:JW)(e:Ending)(w':JW):Prop:=
 ∃(a:Int) (P:Option Addr) (b:Int) (Q:Option Addr),e= .returned (Ja #[Ji Jl a,Jp P,Ji Jl b,Jp Q])/\RatV w' a P b Q q/\Below w.heap.size w w'
theorem Q3{w:JW}{n:Int}(h:I64 n):Jq 0 w (Ja #[Ji Jl n,Jp Jn]) n:= .inl ⟨h,rfl⟩
theorem Ul(a:Int)(P:Option Addr)(z:Int)(w:JW)(h:Jq 0 w (Ja #[Ji Jl a,Jp P]) z) :
  Calls Tryz.prog 105 #[Ja #[Ji Jl a,Jp P]] w fun e w'=>e= .returned (.bool (decide (z=1)))/\Below w.heap.size w w':=by
 have kk:=(Mr w.heap.size w).alloc (M8 _) (Jc #[Ji Jl a,Jp P] 28);have Hi:=Lh (Vu a P z _ (h.keep kk));have Kk:=Lh kk;clear h kk;by_cases hz:z=1
 ·subst hz;go_enter Tryz.func105,Tryz.ntmps105;go_wp2_with fail
  refine Hi.out.mono ?_;rintro e w1⟨⟨n,b,rfl,h1,_⟩,h2⟩;obtain⟨rfl,rfl⟩:=h1 ⟨by decide,by decide⟩;have K1:=Lh (Jd Kk.out h2);clear h1 h2;go_wp2;go_ret;exact⟨rfl,K1.out⟩
 ·have t1:decide (z=1)=false:=decide_eq_false hz;rw[t1];clear t1;go_enter Tryz.func105,Tryz.ntmps105;go_wp2_with fail
  refine Hi.out.mono ?_;rintro e w1⟨⟨n,b,rfl,h1,h3⟩,h2⟩;have K1:=Lh (Jd Kk.out h2);by_cases h64:I64 z
  ·obtain⟨rfl,rfl⟩:=h1 h64;have t0:(n ==1)=false:=by rw[beq_eq_false_iff_ne];exact hz
   clear h1 h2 h3 hz h64;go_wp2;go_ret;exact⟨rfl,K1.out⟩
  ·obtain⟨rfl,rfl⟩:=h3 h64;clear h1 h2 h3 hz h64;go_wp2;go_ret;exact⟨rfl,K1.out⟩
theorem ZM(a:Int)(P:Option Addr)(b:Int)(Q:Option Addr)(q:Rat)(w:JW)(h:Jq 0 w (Ja #[Ji Jl a,Jp P]) q.num)(h':Jq 0 w (Ja #[Ji Jl b,Jp Q]) (q.den:Int)) :
  Calls Tryz.prog 68 #[Ja #[Ji Jl a,Jp P],Ja #[Ji Jl b,Jp Q]] w (YC q w):=by
 have kk:=(((Mr w.heap.size w).alloc (M8 _) (Jc #[Ji Jl a,Jp P] 28)).alloc (by simp) (Jc #[Ji Jl b,Jp Q] 28)).alloc (by simp;omega) (Jc #[Ji Jl 0,Jp Jn,Ji Jl 0,Jp Jn] 30);have V0:=Lh (((Jh.new w #[Ji Jl a,Jp P] 28).keep ((Mr _ _).alloc (M8 _) (Jc #[Ji Jl b,Jp Q] 28))).keep ((Mr _ _).alloc (M8 _) (Jc #[Ji Jl 0,Jp Jn,Ji Jl 0,Jp Jn] 30)));have V1:=Lh ((Jh.new (w.alloc (Jc #[Ji Jl a,Jp P] 28)) #[Ji Jl b,Jp Q] 28).keep ((Mr _ _).alloc (M8 _) (Jc #[Ji Jl 0,Jp Jn,Ji Jl 0,Jp Jn] 30)));have R:=Lh (Jh.new ((w.alloc (Jc #[Ji Jl a,Jp P] 28)).alloc (Jc #[Ji Jl b,Jp Q] 28)) #[Ji Jl 0,Jp Jn,Ji Jl 0,Jp Jn] 30);simp only[World.size_alloc]at V1 R;have Hn:=Lh (h.keep kk);have Hd:=Lh (h'.keep kk);have Hone:=Lh (Ul b Q (q.den:Int) _ (h'.keep kk));have Kk:=Lh kk;clear h h' kk;have c10:=V1.out.c0;have c11:=V1.out.c1;by_cases hd:q.den=1
 ·rw[show decide ((q.den:Int)=1)=true by rw[hd];rfl]at Hone;have Hd1:=Lh hd;clear hd;go_enter Tryz.func68,Tryz.ntmps68;go_wp2_with fail
  refine Hone.out.mono ?_;rintro e w1⟨rfl,h1⟩;have V0:=Lh (V0.out.keep h1);have R:=Lh (R.out.keep h1);have Hn:=Lh (Hn.out.keep h1);have K1:=Lh (Jd Kk.out h1);clear h1 c10 c11;have c0:=V0.out.c0;have c1:=V0.out.c1;have k0:=R.out.c0;have k1:=R.out.c1;have k2:=R.out.c2;have k3:=R.out.c3;have f0:=R.out.fz 0;have f1:=R.out.fz 1;have f2:=R.out.fz 2;have f3:=R.out.fz 3;have HN:=Lh (Hn.out.wrote R.out (by rfl) (Jr w1 (w.heap.size+1+1) (Ji Jl a) (Jp P) (Ji Jl 0) (Jp Jn)).1 (Jr _ _ _ _ _ _).2);have K2:=Lh (JA K1.out (show w.heap.size<=w.heap.size+1+1 by omega) (Ji Jl a) (Jp P) (Ji Jl 0) (Jp Jn));go_wp2;exact bodyPost_ret (v:=Ja #[Ji Jl a,Jp P,Ji Jl 0,Jp Jn]) (by simp[results,Tryz.results68,go_sem,k0,k1,k2,k3]) rfl ⟨a,P,0,Jn,rfl,⟨HN.out,by rw[Hd1.out,Ov];exact Q3 ⟨by decide,by decide⟩⟩,K2.out⟩
 ·rw[show decide ((q.den:Int)=1)=false from decide_eq_false (by omega)]at Hone;have Hd1:=Lh hd;clear hd;go_enter Tryz.func68,Tryz.ntmps68;go_wp2_with fail
  refine Hone.out.mono ?_;rintro e w1⟨rfl,h1⟩;have V0:=Lh (V0.out.keep h1);have V1:=Lh (V1.out.keep h1);have R:=Lh (R.out.keep h1);have Hn:=Lh (Hn.out.keep h1);have Hd:=Lh (Hd.out.keep h1);have K1:=Lh (Jd Kk.out h1);clear h1 c10 c11;have c0:=V0.out.c0;have c1:=V0.out.c1;have c10:=V1.out.c0;have c11:=V1.out.c1;have k0:=R.out.c0;have k1:=R.out.c1;have k2:=R.out.c2;have k3:=R.out.c3;have f0:=R.out.fz 0;have f1:=R.out.fz 1;have f2:=R.out.fz 2;have f3:=R.out.fz 3;have HN:=Lh (Hn.out.wrote R.out (by rfl) (Jr w1 (w.heap.size+1+1) (Ji Jl a) (Jp P) (Ji Jl b) (Jp Q)).1 (Jr _ _ _ _ _ _).2);have HD:=Lh (Hd.out.wrote R.out (by rfl) (Jr w1 (w.heap.size+1+1) (Ji Jl a) (Jp P) (Ji Jl b) (Jp Q)).1 (Jr _ _ _ _ _ _).2);have K2:=Lh (JA K1.out (show w.heap.size<=w.heap.size+1+1 by omega) (Ji Jl a) (Jp P) (Ji Jl b) (Jp Q));go_wp2;exact bodyPost_ret (v:=Ja #[Ji Jl a,Jp P,Ji Jl b,Jp Q]) (by simp[results,Tryz.results68,go_sem,k0,k1,k2,k3]) rfl ⟨a,P,b,Q,rfl,⟨HN.out,by rw[XN Hd1.out];exact HD.out⟩,K2.out⟩

def puts(a:Act):List (Tmp × Value)->Act
  | []=>a
  |(d,v) :: r=>puts (a.put (Jo d) v) r
def also(d:Nat->Bool)(i j:Nat):Bool:=if j=i then true else d j
section
variable {P:Program} {md:M6} {ops:Array Oper} {Q:Exit->Act->JW->Prop} {S:JW->Prop} {k:Nat}
theorem Till.more:∀(n:Nat) (l:Array Bool) (a:Act) (w:JW),Till P md ops Q S k n l a w->Till P md ops Q S k (n+1) l a w
  | 0,_,_,_,h=>⟨fun _=>h.2,by rw[h.1];simp⟩
  | n+1,_,_,_,h=>⟨h.1,fun i hi=>wpOp_mono (fun b v hb=>⟨hb.1,Till.more n _ b v hb.2⟩) (h.2 i hi)⟩
theorem Till.raise{n:Nat}{l:Array Bool}{a:Act}{w:JW}(h:Till P md ops Q S k n l a w):∀m:Nat,Till P md ops Q S k (m+n) l a w
  | 0=>by rw[MD];exact h
  | m+1=>by rw[Nat.succ_add];exact Till.more _ _ _ _ (Till.raise h m)
def Step(P:Program)(md:M6)(ops:Array Oper)(Q:Exit->Act->JW->Prop)(I:(Nat->Bool)->Act->JW->Prop)(i:Nat)(o:Oper):Prop:=
  ∀(d:Nat->Bool) (a:Act) (w:JW),I d a w->d i=false->(∀j,QC md ops i j=true->d j=true)->∀K:Act->JW->Prop,Shut (∀b v,I (also d i) b v->K b v)->if MB o (yielded ops a.tmps)=true then Oper.wp P o a w K Q else K (a.put o.dst undef) w
def OD(P:Program)(md:M6)(ops:Array Oper)(Q:Exit->Act->JW->Prop)(I:(Nat->Bool)->Act->JW->Prop):List Nat->Prop
  | []=>True
  | i :: r=>(∃o,ops[i]?=Jo o/\Step P md ops Q I i o)/\OD P md ops Q I r
theorem OD.at_{I:(Nat->Bool)->Act->JW->Prop}:∀ {E:List Nat},OD P md ops Q I E->∀i∈E,∃o,ops[i]?=Jo o/\Step P md ops Q I i o
  | [],_,_,hi=>by cases hi
  | j :: r,h,i,hi=>by
    rcases List.mem_cons.1 hi with rfl|hi
    · exact h.1
    · exact OD.at_ h.2 i hi
def DE(ops:Array Oper)(j:Nat):Bool:=
  match ops[j]? with
  | some o=>o.after.all fun e=>decide (e.on<ops.size)
  | none=>true
def Vo(md:M6)(ops:Array Oper)(l0 l1:Array Bool)(E:List Nat):Bool:=
  (l0.size ==ops.size) && (l1.size ==ops.size) &&
  (MA ops.size).all fun j=>
    (l1.getD j false ==(E.contains j || l0.getD j false)) &&
    (if E.contains j then ((MA ops.size).all fun i=>!QC md ops j i || l0.getD i false || (E.contains i && decide (i<j))) && DE ops j
     else l0.getD j false || ((MA ops.size).any fun i=>QC md ops j i && !l1.getD i false) || E.all fun i=>QC md ops j i)
theorem KA{E:List Nat}{d:Nat->Bool}{i:Nat}(hi:i∈E)(h:d i=false):E.countP (fun j=>!also d i j)<E.countP (fun j=>!d j):=by
  have mono:∀F:List Nat,F.countP (fun j=>!also d i j)<=F.countP (fun j=>!d j):=fun F=>by
    refine List.countP_mono_left fun j _ hj=>?_;unfold also at hj
    split at hj
    · cases hj
    · exact hj
  induction E with
  | nil=>cases hi
  | cons j r ih=>
    rw[List.countP_cons,List.countP_cons];by_cases hji:j=i
    · subst hji
      have:=mono r;have e1:(!also d j j)=false:=by unfold also;rw[if_pos rfl];rfl
      rw[e1,h];simp;omega
    · rcases List.mem_cons.1 hi with e|hi
      · exact absurd e.symm hji
      · have:=ih hi
        have e1:(!also d i j)=!d j:=by unfold also;rw[if_neg hji]
        rw[e1];omega
theorem Ye{l:Array Bool}{j:Nat}(h:j<l.size)(b:Bool):l.getD j b=l[j]:=by simp[h]
theorem DG{i:Nat}{o:Oper}(ho:ops[i]?=Jo o){l:Array Bool}(h:∀e∈o.after,Region.binds md e=true->l.getD e.on false=true)(j:Nat)(hw:QC md ops i j=true):l.getD j false=true:=by
  unfold QC at hw;rw[ho]at hw;obtain⟨e,he,h2⟩:=Array.any_eq_true'.1 hw;simp only[M3,beq_iff_eq]at h2;rw[←h2.2];exact h e he h2.1
theorem DF{i:Nat}{o:Oper}(ho:ops[i]?=Jo o){e:Edge}(he:e∈o.after)(hb:Region.binds md e=true):QC md ops i e.on=true:=by
  unfold QC;rw[ho];exact Array.any_eq_true'.2 ⟨e,he,by simp[hb]⟩
theorem Till.phase_aux{I:(Nat->Bool)->Act->JW->Prop}{E:List Nat}{l0 l1:Array Bool}{m:Nat}(hc:Vo md ops l0 l1 E=true)(hS:∀d a w,I d a w->S w)(steps:OD P md ops Q I E)
    (fin:∀d a w,I d a w->(∀i∈E,d i=true)->Till P md ops Q S k m l1 a w) :
    ∀(n:Nat) (l:Array Bool) (d:Nat->Bool) (a:Act) (w:JW),E.countP (fun j=>!d j)<=n->l.size=ops.size->(∀j<ops.size,l.getD j false=d j)->(∀j,j ∉ E->j<ops.size->d j=l0.getD j false)->(∀j,l0.getD j false=true->d j=true)->I d a w->Till P md ops Q S k (n+m) l a w:=by
  unfold Vo at hc;simp only[M3,beq_iff_eq,Mt,Mw]at hc;obtain⟨⟨hs0,hs1⟩,hall⟩:=hc;have done:∀(l:Array Bool) (d:Nat->Bool) (a:Act) (w:JW),l.size=ops.size->(∀j<ops.size,l.getD j false=d j)->(∀j,j ∉ E->j<ops.size->d j=l0.getD j false)->I d a w->(∀i∈E,d i=true)->Till P md ops Q S k m l a w:=by
    intro l d a w hl hd hout hI hE;have e:l=l1:=by
      apply Array.ext (hl.trans hs1.symm);intro j h1 h2;have hj:j<ops.size:=by omega
      have e1:=(hall j hj).1;rw[Ye h2]at e1;have e2:=hd j hj;rw[Ye h1]at e2;rw[e1,e2];by_cases hjE:j∈E
      · rw[hE j hjE,List.contains_iff_mem.2 hjE];rfl
      · rw[hout j hjE hj,show E.contains j=false from by simpa using hjE];rfl
    rw[e];exact fin d a w hI hE
  intro n
  induction n with
  | zero=>
    intro l d a w hn hl hd hout _ hI;rw[MD];refine done l d a w hl hd hout hI fun i hi=>?_;have h0:E.countP (fun j=>!d j)=0:=by omega
    have:=List.countP_eq_zero.1 h0 i hi;simpa using this
  | succ n ih=>
    intro l d a w hn hl hd hout hl0 hI;by_cases hE:∀i∈E,d i=true
    · exact Till.raise (done l d a w hl hd hout hI hE) (n+1)
    have hex:∃i,i∈E/\d i=false:=by
      apply Classical.byContradiction;intro hno;refine hE fun i hi=>?_;cases hdi:d i with
      | true=>rfl
      | false=>exact absurd ⟨i,hi,hdi⟩ hno
    rw[Nat.succ_add];refine⟨fun h0=>?_,fun i hi=>?_⟩
    · -- the least one that has not come up is ready
      exfalso;have least:∀b:Nat,∀i,i<b->i∈E->d i=false->False:=by
        intro b
        induction b with
        | zero=>intro i hi;omega
        | succ b ihb=>
          intro i hib hiE hdi;obtain⟨o,ho,_⟩:=steps.at_ i hiE;have his:i<ops.size:=(Array.getElem?_eq_some_iff.1 ho).1;have hcond:=(hall i his).2;rw[if_pos (List.contains_iff_mem.2 hiE)]at hcond;simp only[Mt,Mw,Bool.or_eq_true,Bool.not_eq_true',M3,decide_eq_true_eq]at hcond;obtain⟨hcond,hwi⟩:=hcond;have hr:i∈ME md ops l:=by
            refine mem_ready.2 ⟨by rw[Ye (by omega)];rw[←Ye (by omega) false,hd i his,hdi],o,ho,fun e he hb=>?_⟩;have hw:=DF ho he hb;by_cases hes:e.on<ops.size
            · rw[hd _ hes]
              rcases hcond e.on hes with(h1|h1)|h1
              · rw[hw]at h1;cases h1
              · exact hl0 _ h1
              · cases hde:d e.on with
                | true=>rfl
                | false=>exact(ihb e.on (by omega) (List.contains_iff_mem.1 h1.1) hde).elim
            · exfalso
              unfold DE at hwi;rw[ho]at hwi;have:=Array.all_eq_true_iff_forall_mem.1 hwi e he;exact hes (by simpa using this)
          rw[h0]at hr;cases hr
      obtain⟨i,hiE,hdi⟩:=hex;exact least (i+1) i (by omega) hiE hdi
    · obtain⟨hi0,o,ho,hafter⟩:=mem_ready.1 hi
      have his:i<ops.size:=(Array.getElem?_eq_some_iff.1 ho).1;have hdi:d i=false:=by rw[←hd i his,Ye (by omega)];rw[Ye (by omega)]at hi0;exact hi0
      have hpre:∀j,QC md ops i j=true->l.getD j false=true:=DG ho hafter;have hsz:∀j,l.getD j false=true->j<ops.size:=fun j hj=>by
        rcases MC j l.size with h|h
        · omega
        · simp[Array.getD_eq_getD_getElem?,Mu h]at hj
      have hpd:∀j,QC md ops i j=true->d j=true:=fun j hj=>by
        have h1:=hpre j hj;rw[←hd j (hsz j h1)];exact h1
      by_cases hiE:i∈E
      · obtain⟨o',ho',hstep⟩:=steps.at_ i hiE
        have key:wpOp P ops Q i (I (also d i)) a w:=wpOp_step ho' fun K hK=>hstep d a w hI hdi hpd K hK;refine wpOp_mono (fun b v hb=>⟨fun _=>hS _ _ _ hb,?_⟩) key;refine ih (l.setIfInBounds i true) (also d i) b v (by have:=KA hiE hdi;omega) (by rw[M4];exact hl) (fun j hj=>?_) (fun j hjE hj=>?_) (fun j hj0=>?_) hb
        · unfold also
          split
          · rename_i h;subst h;rw[Ye (by rw[M4];omega)];simp
          · rename_i h
            rw[Ye (by rw[M4];omega),Array.getElem_setIfInBounds_ne (by omega) (Ne.symm h),←hd j hj,Ye (by omega)]
        · unfold also
          rw[if_neg (fun h=>hjE (by rw[h];exact hiE))];exact hout j hjE hj
        · unfold also
          split
          · rfl
          · exact hl0 j hj0
      · exfalso
        have hcond:=(hall i his).2;rw[if_neg (fun h=>hiE (List.contains_iff_mem.1 h))]at hcond;simp only[List.any_eq_true,Mt,Mw,Bool.or_eq_true,Bool.not_eq_true',M3]at hcond;rcases hcond with(h1|⟨j,hj,h1,h2⟩)|h1
        · rw[←hout i hiE his,hdi]at h1;cases h1
        · have h3:=hpd j h1
          have h4:=(hall j hj).1;rw[h2]at h4;have h5:E.contains j=false/\l0.getD j false=false:=by simpa using h4.symm
          rw[hout j (by simpa using h5.1) hj,h5.2]at h3;cases h3
        · obtain⟨i',hi'E,hdi'⟩:=hex
          have h3:=hpd i' (h1 i' hi'E);rw[hdi']at h3;cases h3
theorem Till.phase(E:List Nat)(l1:Array Bool)(m:Nat)(J:Act->(Nat->Bool)->Act->JW->Prop){l0:Array Bool}{n:Nat}{a0:Act}{w0:JW}(hn:n=E.length+m)(hc:Vo md ops l0 l1 E=true)(hS:∀d a w,J a0 d a w->S w)
    (h0:J a0 (fun j=>l0.getD j false) a0 w0) (steps:OD P md ops Q (J a0) E)
    (fin:∀d a w,J a0 d a w->(∀i∈E,d i=true)->Till P md ops Q S k m l1 a w):Till P md ops Q S k n l0 a0 w0:=by
  rw[hn];have hs:l0.size=ops.size:=by
    unfold Vo at hc;simp only[M3,beq_iff_eq]at hc;exact hc.1.1
  exact Till.phase_aux hc hS steps fin E.length l0 _ a0 w0 List.countP_le_length hs (fun _ _=>rfl) (fun _ _ _=>rfl) (fun _ h=>h) h0
end
def QD(w:JW)(t:Value)(z:Int):Prop:=∃(x:Int) (X:Option Addr),t=Ja #[Ji Jl x,Jp X]/\Jq 0 w (Ja #[Ji Jl x,Jp X]) z
theorem QD.keep{w w':JW}{t:Value}{z:Int}(h:QD w t z)(hb:Below w.heap.size w w'):QD w' t z:=by
  obtain⟨x,X,e,hx⟩:=h;exact⟨x,X,e,hx.keep hb⟩
def PtrI(b:Nat)(w:JW)(t:Value):Prop:=∃p:Nat,t=Jp (Jo ⟨p,0,Jn⟩)/\b<=p/\Hold w p 0 Jn
theorem PtrI.keep{b:Nat}{w w':JW}{t:Value}(h:PtrI b w t)(hb:Below w.heap.size w w'):PtrI b w' t:=by
  obtain⟨p,e,hp,hh⟩:=h;exact⟨p,e,hp,hh.keep hb⟩
theorem PtrI.ne{b:Nat}{w:JW}{t:Value}(h:PtrI b w t):t≠ Jp (Jo ⟨w.heap.size,0,Jn⟩):=by
  obtain⟨p,rfl,_,hh⟩:=h;intro e;have hlt:=hh.lt
  injection e with e
  injection e with e
  injection e with e
  omega
section
variable {P:Program} {md:M6} {ops:Array Oper} {Q:Exit->Act->JW->Prop} {S:JW->Prop} {k:Nat}
def Arm(P:Program)(md:M6)(ops:Array Oper)(Q:Exit->Act->JW->Prop)(S:JW->Prop)(k n:Nat)(l:Array Bool)(a:Act)(w:JW)(i:Nat)(o:Oper):Prop:=
  ∀K:Act->JW->Prop,Shut (∀b v,((l.setIfInBounds i true).getD k true=false->S v)->Till P md ops Q S k n (l.setIfInBounds i true) b v->K b v)->if MB o (yielded ops a.tmps)=true then Oper.wp P o a w K Q else K (a.put o.dst undef) w
theorem Arm.op{i:Nat}{o:Oper}{n:Nat}{l:Array Bool}{a:Act}{w:JW}(ho:ops[i]?=Jo o)(h:Arm P md ops Q S k n l a w i o):wpOp P ops Q i (fun b v=>((l.setIfInBounds i true).getD k true=false->S v)/\Till P md ops Q S k n (l.setIfInBounds i true) b v) a w:=
  wpOp_step ho fun K hK=>h K fun b v h1 h2=>hK b v ⟨h1,h2⟩
theorem Till.two{i j:Nat}{o o':Oper}{n:Nat}{l:Array Bool}{a:Act}{w:JW}(hr:ME md ops l=[i,j])(ho:ops[i]?=Jo o)(ho':ops[j]?=Jo o')
    (h:Arm P md ops Q S k n l a w i o) (h':Arm P md ops Q S k n l a w j o'):Till P md ops Q S k (n+1) l a w:=by
  refine⟨fun h0=>absurd (hr.symm.trans h0) (by simp),fun m hm=>?_⟩;rw[hr]at hm;rcases List.mem_cons.1 hm with rfl|hm
  · exact h.op ho
  · obtain rfl:=List.mem_singleton.1 hm
    exact h'.op ho'
end
def QZ(w:JW)(t:Value)(q:Rat):Prop:=∃(a:Int) (P:Option Addr) (b:Int) (Q:Option Addr),t=Ja #[Ji Jl a,Jp P,Ji Jl b,Jp Q]/\RatV w a P b Q q
theorem QZ.keep{w w':JW}{t:Value}{q:Rat}(h:QZ w t q)(hb:Below w.heap.size w w'):QZ w' t q:=by
  obtain⟨a,P,b,Q,e,hx⟩:=h;exact⟨a,P,b,Q,e,hx.keep hb⟩
def PtrR(b:Nat)(w:JW)(t:Value):Prop:=∃p:Nat,t=Jp (Jo ⟨p,0,Jn⟩)/\b<=p/\Jh w p [Ji Jl 0,Jp Jn,Ji Jl 0,Jp Jn]
theorem PtrR.keep{b:Nat}{w w':JW}{t:Value}(h:PtrR b w t)(hb:Below w.heap.size w w'):PtrR b w' t:=by
  obtain⟨p,e,hp,hh⟩:=h;exact⟨p,e,hp,hh.keep hb⟩
theorem PtrR.ne{b:Nat}{w:JW}{t:Value}(h:PtrR b w t):t≠ Jp (Jo ⟨w.heap.size,0,Jn⟩):=by
  obtain⟨p,rfl,_,hh⟩:=h;intro e;have hlt:=hh.lt
  injection e with e
  injection e with e
  injection e with e
  omega
