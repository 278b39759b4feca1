/- GB51: Open OpenS4 Vst4 Vst6 -/
import Derived.Test.YtekhdklbfincpaaGreatDoorGB01
import Derived.Test.YtekhdklbfincpaaGreatDoorGB44
import Derived.Laws.IdiomArrays
import Derived.Test.YtekhdklbfincpaaGreatDoorGB45
import Derived.Test.YtekhdklbfincpaaGreatDoorGB48
set_option maxRecDepth 100000
set_option maxHeartbeats 16000000
namespace Go.Proofs.YtekhdklbfincpaaGreatDoor
open Go.Value renaming int→Ji,string→Js
open Go renaming World→JW
open Go.DataW renaming trod→M0,trod_int→M2
open Go.World renaming cell?_of_block→M1
open Go.RowKit.Below renaming heap_setCell→M3
open Go.IntKind renaming signed→M4
open Go.ChangeShapes Go.WideShapes Go.ChangeAt Go.RowKit
theorem GT:laidOutB Tryz.prog=true:=by kernel_rfl
theorem Wm:Tryz.prog.cellsOf 44=4:=by kernel_rfl
theorem Me:Tryz.prog.cellsOf 42=3:=by kernel_rfl
theorem Mf:Tryz.prog.cellsOf 41=1:=by kernel_rfl
theorem MB:Tryz.prog.cellsOf 5=1:=by kernel_rfl
section
variable {H:Type} {enc:TypeId × Value->H} {W:JW} {base:Nat} {spare:Nat->Bool} {held:Bool}
theorem MI{α:Type}{l:List α}(h:l.length=4):∃a b c d,l=[a,b,c,d]:=by
 match l,h with
 | [a,b,c,d],_=>exact⟨a,b,c,d,rfl⟩
theorem Ze{n:Int}(h:(Lit.int .i8 n).wf=true):-128<=n/\n<=127:=by
 simp[Lit.wf,IntKind.min,IntKind.max,M4,IntKind.bits]at h;omega
theorem Mm{n:Int}(h:(Lit.int .u8 n).wf=true):0<=n/\n<=255:=by
 simp[Lit.wf,IntKind.min,IntKind.max,M4,IntKind.bits]at h;omega
theorem Ef{n:Int}(h:(Lit.int .i64 n).wf=true):I64 n:=by
 simp[Lit.wf,IntKind.min,IntKind.max,M4,IntKind.bits]at h;exact⟨by omega,by omega⟩
theorem Yb{fuel:Nat}{cs:List Value}{x:DataW H × List MemPlace}(h:M0 enc Tryz.prog W base spare held fuel 44 cs=some x) :
  ∃n0 n1 n2 d:Int,cs=[Ji .i8 n0,Ji .i8 n1,Ji .i8 n2,Ji .u8 d]/\Sm n0 n1 n2 d (d%6):=by
 obtain⟨y0,y1,n,_,hl,h0,h1⟩:=trod_struct2 Tryz.underlying44 h;rw[Wm]at hl;obtain⟨a,b,c,e,rfl⟩:=MI hl;simp only[Me,MB]at h0 h1;obtain⟨_,_,_,m,_,g0,g1,g2⟩:=trod_array3 Tryz.underlying42 Mf h0;obtain⟨n0,e0,_,w0⟩:=M2 Tryz.underlying41 g0;obtain⟨n1,e1,_,w1⟩:=M2 Tryz.underlying41 g1;obtain⟨n2,e2,_,w2⟩:=M2 Tryz.underlying41 g2;obtain⟨d,e3,_,w3⟩:=M2 Tryz.underlying5 h1;simp at e0 e1 e2 e3;subst e0 e1 e2 e3;exact⟨n0,n1,n2,d,rfl,(Ze w0).1,(Ze w0).2,(Ze w1).1,(Ze w1).2,(Ze w2).1,(Ze w2).2,(Mm w3).1,(Mm w3).2,rfl⟩
theorem EK{r:Reach}{b0:Nat}{v:Value}{d:DataW H}{p:List MemPlace}(hv:Value.okWide Tryz.prog W r b0 44 v)(h:DataW.Trod enc Tryz.prog W base spare held 44 v d p) :
  ∃n0 n1 n2 d:Int,v=smV n0 n1 n2 d/\Sm n0 n1 n2 d (d%6):=by
 obtain⟨cs,rfl,hsz⟩:=okWide_struct Tryz.underlying44 hv;obtain⟨fuel,hf⟩:=h;obtain⟨n0,n1,n2,d,e,hs⟩:=Yb hf;refine⟨n0,n1,n2,d,?_,hs⟩;obtain⟨l⟩:=cs;simp[Value.cells]at e;rw[e];rfl
end
theorem Ma:Tryz.prog.cellsOf 87=16:=by kernel_rfl
section
variable {H:Type} {enc:TypeId × Value->H} {W:JW} {base:Nat} {spare:Nat->Bool} {held:Bool}
theorem Ms{α:Type}{l:List α}(h:l.length=16):∃a0 a1 a2 a3 a4 a5 a6 a7 a8 a9 a10 a11 a12 a13 a14 a15,l=[a0,a1,a2,a3,a4,a5,a6,a7,a8,a9,a10,a11,a12,a13,a14,a15]:=by
 match l,h with
 | [a0,a1,a2,a3,a4,a5,a6,a7,a8,a9,a10,a11,a12,a13,a14,a15],_=>exact⟨a0,a1,a2,a3,a4,a5,a6,a7,a8,a9,a10,a11,a12,a13,a14,a15,rfl⟩
theorem En{P:Program}{t e:TypeId}{fuel:Nat}{cs:List Value}{x:DataW H × List MemPlace}(ht:P.underlying t=some (.array 4 e))(hce:P.cellsOf e=4)
  (h:M0 enc P W base spare held fuel t cs=some x) :
  ∃y0 y1 y2 y3 n,M0 enc P W base spare held n e (cs.take 4)=some y0/\M0 enc P W base spare held n e ((cs.drop 4).take 4)=some y1/\M0 enc P W base spare held n e ((cs.drop 8).take 4)=some y2/\M0 enc P W base spare held n e ((cs.drop 12).take 4)=some y3:=by
 cases fuel with
 | zero=>simp[M0]at h
 | succ n=>
  unfold M0 at h;rw[ht]at h;have r4:List.range 4=[0,1,2,3]:=rfl;simp[r4,hce]at h;obtain⟨_,h⟩:=h;cases h0:M0 enc P W base spare held n e (cs.take 4)with
  | none=>simp[h0]at h
  | some y0=>
   cases h1:M0 enc P W base spare held n e ((cs.drop 4).take 4)with
   | none=>simp[h0,h1]at h
   | some y1=>
    cases h2:M0 enc P W base spare held n e ((cs.drop 8).take 4)with
    | none=>simp[h0,h1,h2]at h
    | some y2=>
     cases h3:M0 enc P W base spare held n e ((cs.drop 12).take 4)with
     | none=>simp[h0,h1,h2,h3]at h
     | some y3=>exact⟨y0,y1,y2,y3,n,h0,h1,h2,h3⟩
theorem Z2{r:Reach}{b0:Nat}{v:Value}{d:DataW H}{p:List MemPlace}(hv:Value.okWide Tryz.prog W r b0 87 v)(h:DataW.Trod enc Tryz.prog W base spare held 87 v d p) :
  ∃n0a n1a n2a da n0b n1b n2b db n0c n1c n2c dc n0e n1e n2e de:Int,v= .agg #[Ji .i8 n0a,Ji .i8 n1a,Ji .i8 n2a,Ji .u8 da,Ji .i8 n0b,Ji .i8 n1b,Ji .i8 n2b,Ji .u8 db,Ji .i8 n0c,Ji .i8 n1c,Ji .i8 n2c,Ji .u8 dc,Ji .i8 n0e,Ji .i8 n1e,Ji .i8 n2e,Ji .u8 de]/\Sm n0a n1a n2a da (da%6)/\Sm n0b n1b n2b db (db%6)/\Sm n0c n1c n2c dc (dc%6)/\Sm n0e n1e n2e de (de%6):=by
 simp only[Value.okWide,Tryz.underlying87]at hv;obtain⟨cs,rfl,hsz,_⟩:=hv;rw[Ma]at hsz;obtain⟨l⟩:=cs;obtain⟨a0,a1,a2,a3,a4,a5,a6,a7,a8,a9,a10,a11,a12,a13,a14,a15,rfl⟩:=Ms (by simpa using hsz);obtain⟨fuel,hf⟩:=h;obtain⟨y0,y1,y2,y3,m,g0,g1,g2,g3⟩:=En Tryz.underlying87 Wm (by simpa[Value.cells]using hf);obtain⟨n0a,n1a,n2a,da,e0,s0⟩:=Yb g0;obtain⟨n0b,n1b,n2b,db,e1,s1⟩:=Yb g1;obtain⟨n0c,n1c,n2c,dc,e2,s2⟩:=Yb g2;obtain⟨n0e,n1e,n2e,de,e3,s3⟩:=Yb g3;simp at e0 e1 e2 e3;obtain⟨rfl,rfl,rfl,rfl⟩:=e0;obtain⟨rfl,rfl,rfl,rfl⟩:=e1;obtain⟨rfl,rfl,rfl,rfl⟩:=e2;obtain⟨rfl,rfl,rfl,rfl⟩:=e3;exact⟨n0a,n1a,n2a,da,n0b,n1b,n2b,db,n0c,n1c,n2c,dc,n0e,n1e,n2e,de,rfl,s0,s1,s2,s3⟩
end
def strV:Value->Bool
 | Js _=>true
 | _=>false
theorem Jg.strs{w:JW}{p:Nat}{vs:List Value}(h:Jg w p vs)(hp:vs.all strV=true)(i:Nat){x:Value}(hx:w.cell? ⟨p,i,none⟩=some x):strV x=true:=by
 rw[h.at_ i]at hx;exact List.all_eq_true.1 hp x (List.mem_of_getElem? hx)
theorem Jv.wroteS{w w':JW}{v:Value}{z:Int}{p:Nat}{vs:List Value}(h:Jv 0 w v z)(hc:Jg w p vs)(hp:vs.all strV=true)(hs:w'.heap.size=w.heap.size)(hk:∀k,k≠p->w'.heap[k]?=w.heap[k]?):Jv 0 w' v z:=by
 rcases h with h|⟨hz,q,A,n,c,xs,rfl,hq,hB,hA,c0,c1,hl,hcc,hn,hw,ht,hv⟩
 ·exact .inl h
 ·have hqp:q≠p:=by
   intro e;subst e;have:=hc.strs hp 0 c0;cases this
  refine .inr ⟨hz,q,A,n,c,xs,rfl,by omega,hB,hA,(M1 (hk q hqp)).trans c0,(M1 (hk q hqp)).trans c1,⟨hl.1,hl.2.1,fun h0=>?_⟩,hcc,hn,hw,ht,hv⟩;obtain⟨b,o,e,hb,hcell⟩:=hl.2.2 h0;have hlen:=hl.1;rw[Qh]at hlen;have hbp:b≠p:=by
   intro e2;subst e2;have h1:=hcell 0 (Ji .u64 ((xs.getD 0 0:Nat):Int)) (by simp[u64s,show 0<xs.length by omega]);have:=hc.strs hp _ h1;cases this
  exact⟨b,o,e,by omega,fun j u hu=>(M1 (hk b hbp)).trans (hcell j u hu)⟩
theorem RatV.wroteS{w w':JW}{a b:Int}{P Q:Option Addr}{q:Rat}{p:Nat}{vs:List Value}(h:RatV w a P b Q q)(hc:Jg w p vs)(hp:vs.all strV=true)(hs:w'.heap.size=w.heap.size)(hk:∀k,k≠p->w'.heap[k]?=w.heap[k]?):RatV w' a P b Q q:=
 ⟨h.num.wroteS hc hp hs hk,h.den.wroteS hc hp hs hk⟩
def PtrS(b:Nat)(w:JW)(t:Value):Prop:=∃p:Nat,t= .pointer (some ⟨p,0,none⟩)/\b<=p/\Jg w p [Js ⟨#[]⟩,Js ⟨#[]⟩,Js ⟨#[]⟩]
theorem PtrS.keep{b:Nat}{w w':JW}{t:Value}(h:PtrS b w t)(hb:Below w.heap.size w w'):PtrS b w' t:=by
 obtain⟨p,e,hp,hc⟩:=h;exact⟨p,e,hp,hc.keep hb⟩
theorem PtrS.ne{b:Nat}{w:JW}{t:Value}(h:PtrS b w t):t≠ .pointer (some ⟨w.heap.size,0,none⟩):=by
 obtain⟨p,rfl,hp,hc⟩:=h;intro e;have hl:=hc.lt
 injection e with e
 injection e with e
 injection e with e
 exact absurd e (Nat.ne_of_lt hl)
def put3(w:JW)(p:Nat)(x y z:Value):JW:=((w.setCell ⟨p,0,none⟩ x).setCell ⟨p,1,none⟩ y).setCell ⟨p,2,none⟩ z
theorem Gm(w:JW)(p:Nat)(x y z:Value):(put3 w p x y z).heap.size=w.heap.size/\∀k,k≠p->(put3 w p x y z).heap[k]?=w.heap[k]?:=
 ⟨by simp[put3,World.setCell],fun k hk=>(M3 _ ⟨p,2,none⟩ z k hk).trans ((M3 _ ⟨p,1,none⟩ y k hk).trans (M3 w ⟨p,0,none⟩ x k hk))⟩
theorem QZ{w0 w:JW}{p:Nat}(h:Below w0.heap.size w0 w)(hp:w0.heap.size<=p)(x y z:Value):Below w0.heap.size w0 (put3 w p x y z):=
 ((h.setCell (p:=⟨p,0,none⟩) hp x).setCell (p:=⟨p,1,none⟩) hp y).setCell (p:=⟨p,2,none⟩) hp z
theorem Jg.put3{w:JW}{p:Nat}{u0 u1 u2:Value}(h:Jg w p [u0,u1,u2])(x y z:Value):Jg (put3 w p x y z) p [x,y,z]:=((h.set 0 x (by simp)).set 1 y (by simp)).set 2 z (by simp)
theorem Lm{wb v W:JW}{p0 p1 p2 p3 p4 p5:Nat}{r0 r0' r0'' r1 r1' r1'' r2 r2' r2'':R4}{e3_ e3_' e3_'' e4_ e4_' e4_'' e5_ e5_' e5_'':ByteArray}{x0 y0 z0:R4}{i0 j0 l0:Rat}{x1 y1 z1:R4}{i1 j1 l1:Rat}{x2 y2 z2:R4}{i2 j2 l2:Rat}(s3 t3 u3:ByteArray)(s4 t4 u4:ByteArray)(s5 t5 u5:ByteArray)(h0:Jg v p0 (flat [r0,r0',r0'']))(v0:VecV v x0 y0 z0 i0 j0 l0)(h1:Jg v p1 (flat [r1,r1',r1'']))(v1:VecV v x1 y1 z1 i1 j1 l1)(h2:Jg v p2 (flat [r2,r2',r2'']))(v2:VecV v x2 y2 z2 i2 j2 l2)(h3:Jg v p3 [Js e3_,Js e3_',Js e3_''])(h4:Jg v p4 [Js e4_,Js e4_',Js e4_''])(h5:Jg v p5 [Js e5_,Js e5_',Js e5_''])(n0_1:p0≠p1)(n0_2:p0≠p2)(n0_3:p0≠p3)(n0_4:p0≠p4)(n0_5:p0≠p5)(n1_2:p1≠p2)(n1_3:p1≠p3)(n1_4:p1≠p4)(n1_5:p1≠p5)(n2_3:p2≠p3)(n2_4:p2≠p4)(n2_5:p2≠p5)(n3_4:p3≠p4)(n3_5:p3≠p5)(n4_5:p4≠p5)(hb:Below wb.heap.size wb v)(l0_:wb.heap.size<=p0)(l1_:wb.heap.size<=p1)(l2_:wb.heap.size<=p2)(l3_:wb.heap.size<=p3)(l4_:wb.heap.size<=p4)(l5_:wb.heap.size<=p5)(hW:put3 (put3 (put3 (put12 (put12 (put12 v p0 x0 y0 z0) p1 x1 y1 z1) p2 x2 y2 z2) p3 (Js s3) (Js t3) (Js u3)) p4 (Js s4) (Js t4) (Js u4)) p5 (Js s5) (Js t5) (Js u5)=W) :
  VarV W p0 x0 y0 z0 i0 j0 l0/\VarV W p1 x1 y1 z1 i1 j1 l1/\VarV W p2 x2 y2 z2 i2 j2 l2/\Jg W p3 [Js s3,Js t3,Js u3]/\Jg W p4 [Js s4,Js t4,Js u4]/\Jg W p5 [Js s5,Js t5,Js u5]/\Below wb.heap.size wb W:=by
 have e0:=Jx v p0 x0 y0 z0;have o0:=VarV.put h0 v0;have q0:=Jr hb l0_ x0 y0 z0;obtain⟨m0,g0⟩:∃u,put12 v p0 x0 y0 z0=u:=⟨_,rfl⟩;rw[g0]at e0 o0 q0 hW;have h1_0:=h1.same n0_1.symm e0.1 e0.2;have v1_0:VecV m0 x1 y1 z1 i1 j1 l1:=v1.wrote h0 e0.1 e0.2;have h2_0:=h2.same n0_2.symm e0.1 e0.2;have v2_0:VecV m0 x2 y2 z2 i2 j2 l2:=v2.wrote h0 e0.1 e0.2;have h3_0:=h3.same n0_3.symm e0.1 e0.2;have h4_0:=h4.same n0_4.symm e0.1 e0.2;have h5_0:=h5.same n0_5.symm e0.1 e0.2;have e1:=Jx m0 p1 x1 y1 z1;have o1:=VarV.put h1_0 v1_0;have q1:=Jr q0 l1_ x1 y1 z1;obtain⟨m1,g1⟩:∃u,put12 m0 p1 x1 y1 z1=u:=⟨_,rfl⟩;rw[g1]at e1 o1 q1 hW;have o0_1:VarV m1 p0 x0 y0 z0 i0 j0 l0:=⟨o0.cells.same n0_1 e1.1 e1.2,o0.vec.wrote h1_0 e1.1 e1.2⟩;have h2_1:=h2_0.same n1_2.symm e1.1 e1.2;have v2_1:VecV m1 x2 y2 z2 i2 j2 l2:=v2_0.wrote h1_0 e1.1 e1.2;have h3_1:=h3_0.same n1_3.symm e1.1 e1.2;have h4_1:=h4_0.same n1_4.symm e1.1 e1.2;have h5_1:=h5_0.same n1_5.symm e1.1 e1.2;have e2:=Jx m1 p2 x2 y2 z2;have o2:=VarV.put h2_1 v2_1;have q2:=Jr q1 l2_ x2 y2 z2;obtain⟨m2,g2⟩:∃u,put12 m1 p2 x2 y2 z2=u:=⟨_,rfl⟩;rw[g2]at e2 o2 q2 hW;have o0_2:VarV m2 p0 x0 y0 z0 i0 j0 l0:=⟨o0_1.cells.same n0_2 e2.1 e2.2,o0_1.vec.wrote h2_1 e2.1 e2.2⟩;have o1_2:VarV m2 p1 x1 y1 z1 i1 j1 l1:=⟨o1.cells.same n1_2 e2.1 e2.2,o1.vec.wrote h2_1 e2.1 e2.2⟩;have h3_2:=h3_1.same n2_3.symm e2.1 e2.2;have h4_2:=h4_1.same n2_4.symm e2.1 e2.2;have h5_2:=h5_1.same n2_5.symm e2.1 e2.2;have e3:=Gm m2 p3 (Js s3) (Js t3) (Js u3);have o3:=h3_2.put3 (Js s3) (Js t3) (Js u3)
 have q3:=QZ q2 l3_ (Js s3) (Js t3) (Js u3);obtain⟨m3,g3⟩:∃u,put3 m2 p3 (Js s3) (Js t3) (Js u3)=u:=⟨_,rfl⟩;rw[g3]at e3 o3 q3 hW;have o0_3:VarV m3 p0 x0 y0 z0 i0 j0 l0:=⟨o0_2.cells.same n0_3 e3.1 e3.2,⟨RatV.wroteS o0_2.vec.x h3_2 (by rfl) e3.1 e3.2,RatV.wroteS o0_2.vec.y h3_2 (by rfl) e3.1 e3.2,RatV.wroteS o0_2.vec.z h3_2 (by rfl) e3.1 e3.2⟩⟩;have o1_3:VarV m3 p1 x1 y1 z1 i1 j1 l1:=⟨o1_2.cells.same n1_3 e3.1 e3.2,⟨RatV.wroteS o1_2.vec.x h3_2 (by rfl) e3.1 e3.2,RatV.wroteS o1_2.vec.y h3_2 (by rfl) e3.1 e3.2,RatV.wroteS o1_2.vec.z h3_2 (by rfl) e3.1 e3.2⟩⟩;have o2_3:VarV m3 p2 x2 y2 z2 i2 j2 l2:=⟨o2.cells.same n2_3 e3.1 e3.2,⟨RatV.wroteS o2.vec.x h3_2 (by rfl) e3.1 e3.2,RatV.wroteS o2.vec.y h3_2 (by rfl) e3.1 e3.2,RatV.wroteS o2.vec.z h3_2 (by rfl) e3.1 e3.2⟩⟩;have h4_3:=h4_2.same n3_4.symm e3.1 e3.2;have h5_3:=h5_2.same n3_5.symm e3.1 e3.2;have e4:=Gm m3 p4 (Js s4) (Js t4) (Js u4);have o4:=h4_3.put3 (Js s4) (Js t4) (Js u4);have q4:=QZ q3 l4_ (Js s4) (Js t4) (Js u4);obtain⟨m4,g4⟩:∃u,put3 m3 p4 (Js s4) (Js t4) (Js u4)=u:=⟨_,rfl⟩;rw[g4]at e4 o4 q4 hW;have o0_4:VarV m4 p0 x0 y0 z0 i0 j0 l0:=⟨o0_3.cells.same n0_4 e4.1 e4.2,⟨RatV.wroteS o0_3.vec.x h4_3 (by rfl) e4.1 e4.2,RatV.wroteS o0_3.vec.y h4_3 (by rfl) e4.1 e4.2,RatV.wroteS o0_3.vec.z h4_3 (by rfl) e4.1 e4.2⟩⟩;have o1_4:VarV m4 p1 x1 y1 z1 i1 j1 l1:=⟨o1_3.cells.same n1_4 e4.1 e4.2,⟨RatV.wroteS o1_3.vec.x h4_3 (by rfl) e4.1 e4.2,RatV.wroteS o1_3.vec.y h4_3 (by rfl) e4.1 e4.2,RatV.wroteS o1_3.vec.z h4_3 (by rfl) e4.1 e4.2⟩⟩;have o2_4:VarV m4 p2 x2 y2 z2 i2 j2 l2:=⟨o2_3.cells.same n2_4 e4.1 e4.2,⟨RatV.wroteS o2_3.vec.x h4_3 (by rfl) e4.1 e4.2,RatV.wroteS o2_3.vec.y h4_3 (by rfl) e4.1 e4.2,RatV.wroteS o2_3.vec.z h4_3 (by rfl) e4.1 e4.2⟩⟩
 have o3_4:=o3.same n3_4 e4.1 e4.2;have h5_4:=h5_3.same n4_5.symm e4.1 e4.2;have e5:=Gm m4 p5 (Js s5) (Js t5) (Js u5);have o5:=h5_4.put3 (Js s5) (Js t5) (Js u5);have q5:=QZ q4 l5_ (Js s5) (Js t5) (Js u5);obtain⟨m5,g5⟩:∃u,put3 m4 p5 (Js s5) (Js t5) (Js u5)=u:=⟨_,rfl⟩;rw[g5]at e5 o5 q5 hW;have o0_5:VarV m5 p0 x0 y0 z0 i0 j0 l0:=⟨o0_4.cells.same n0_5 e5.1 e5.2,⟨RatV.wroteS o0_4.vec.x h5_4 (by rfl) e5.1 e5.2,RatV.wroteS o0_4.vec.y h5_4 (by rfl) e5.1 e5.2,RatV.wroteS o0_4.vec.z h5_4 (by rfl) e5.1 e5.2⟩⟩;have o1_5:VarV m5 p1 x1 y1 z1 i1 j1 l1:=⟨o1_4.cells.same n1_5 e5.1 e5.2,⟨RatV.wroteS o1_4.vec.x h5_4 (by rfl) e5.1 e5.2,RatV.wroteS o1_4.vec.y h5_4 (by rfl) e5.1 e5.2,RatV.wroteS o1_4.vec.z h5_4 (by rfl) e5.1 e5.2⟩⟩;have o2_5:VarV m5 p2 x2 y2 z2 i2 j2 l2:=⟨o2_4.cells.same n2_5 e5.1 e5.2,⟨RatV.wroteS o2_4.vec.x h5_4 (by rfl) e5.1 e5.2,RatV.wroteS o2_4.vec.y h5_4 (by rfl) e5.1 e5.2,RatV.wroteS o2_4.vec.z h5_4 (by rfl) e5.1 e5.2⟩⟩;have o3_5:=o3_4.same n3_5 e5.1 e5.2;have o4_5:=o4.same n4_5 e5.1 e5.2;subst hW;exact⟨o0_5,o1_5,o2_5,o3_5,o4_5,o5,q5⟩
