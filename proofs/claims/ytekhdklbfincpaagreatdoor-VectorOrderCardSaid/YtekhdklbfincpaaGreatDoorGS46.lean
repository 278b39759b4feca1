/- GS46: Vlib Vst4 Vrf Vof -/
import Derived.Test.YtekhdklbfincpaaGreatDoorGS45
import Derived.Test.YtekhdklbfincpaaGreatDoorGS33
import Derived.Test.YtekhdklbfincpaaGreatDoorGS26
set_option maxRecDepth 100000
set_option maxHeartbeats 16000000
namespace Go.Proofs.YtekhdklbfincpaaGreatDoor
open Go.Value renaming pointer→Jp,string→Js,agg→Ja
open Go.Obj renaming cells→Jc
open _root_.Option renaming none→Jn,some→Jo
open Go renaming World→JW
open Go.Act renaming put→M0
open Go.RowKit.Below renaming refl→M1,heap_setCell→M5
open _root_.Nat renaming le_refl→M2,ne_of_lt→M6
open Go.World renaming cell?_of_block→M3,size_alloc→M4
open Go.RowKit
theorem Cells.same{w w':JW}{q p:Nat}{l:List Value}(h:Cells w q l)(hq:q≠p)(hs:w'.heap.size=w.heap.size)(hk:∀k,k≠p->w'.heap[k]?=w.heap[k]?):Cells w' q l:=
 ⟨fun i=>(M3 (hk q hq)).trans (h.at_ i),fun i=>(World.frozen?_of_block (hk q hq)).trans (h.fz i),by rw[hs];exact h.lt⟩
theorem Cells.put12{w:JW}{p:Nat}{u0 u1 u2:R4}(h:Cells w p (flat [u0,u1,u2]))(x0 x1 x2:R4):Cells (put12 w p x0 x1 x2) p (flat [x0,x1,x2]):=by
 have:=((((((((((((h.set 0 (.int .i64 x0.1) (by simp[flat,cells4])).set 1 (Jp x0.2.1) (by simp[flat,cells4])).set 2 (.int .i64 x0.2.2.1) (by simp[flat,cells4])).set 3 (Jp x0.2.2.2) (by simp[flat,cells4])).set 4 (.int .i64 x1.1) (by simp[flat,cells4])).set 5 (Jp x1.2.1) (by simp[flat,cells4])).set 6 (.int .i64 x1.2.2.1) (by simp[flat,cells4])).set 7 (Jp x1.2.2.2) (by simp[flat,cells4])).set 8 (.int .i64 x2.1) (by simp[flat,cells4])).set 9 (Jp x2.2.1) (by simp[flat,cells4])).set 10 (.int .i64 x2.2.2.1) (by simp[flat,cells4])).set 11 (Jp x2.2.2.2) (by simp[flat,cells4]));simpa[flat,cells4,Go.Proofs.YtekhdklbfincpaaGreatDoor.put12]using this
theorem VarV.put{w:JW}{p:Nat}{u0 u1 u2 x0 x1 x2:R4}{q0 q1 q2:Rat}(h:Cells w p (flat [u0,u1,u2]))(hv:VecV w x0 x1 x2 q0 q1 q2):VarV (put12 w p x0 x1 x2) p x0 x1 x2 q0 q1 q2:=
 ⟨h.put12 x0 x1 x2,hv.wrote h (put12_heap w p x0 x1 x2).1 (put12_heap w p x0 x1 x2).2⟩
theorem VarV.other{w:JW}{q p:Nat}{u0 u1 u2 y0 y1 y2:R4}{q0 q1 q2:Rat}(h:VarV w q y0 y1 y2 q0 q1 q2)(hc:Cells w p (flat [u0,u1,u2]))(hq:q≠p)(x0 x1 x2:R4):VarV (put12 w p x0 x1 x2) q y0 y1 y2 q0 q1 q2:=
 ⟨h.cells.same hq (put12_heap w p x0 x1 x2).1 (put12_heap w p x0 x1 x2).2,h.vec.wrote hc (put12_heap w p x0 x1 x2).1 (put12_heap w p x0 x1 x2).2⟩
def VecAt(w:JW)(t:Value)(q0 q1 q2:Rat):Prop:=∃r0 r1 r2,t=vecVal r0 r1 r2/\VecV w r0 r1 r2 q0 q1 q2
theorem VecAt.keep{w w':JW}{t:Value}{q0 q1 q2:Rat}(h:VecAt w t q0 q1 q2)(hb:Below w.heap.size w w'):VecAt w' t q0 q1 q2:=by
 obtain⟨r0,r1,r2,e,hx⟩:=h;exact⟨r0,r1,r2,e,hx.keep hb⟩
def PtrV(b:Nat)(w:JW)(t:Value):Prop:=∃p:Nat,t=Jp (Jo ⟨p,0,Jn⟩)/\b<=p/\Cells w p (flat [zero4,zero4,zero4])
theorem PtrV.keep{b:Nat}{w w':JW}{t:Value}(h:PtrV b w t)(hb:Below w.heap.size w w'):PtrV b w' t:=by
 obtain⟨p,e,hp,hc⟩:=h;exact⟨p,e,hp,hc.keep hb⟩
theorem PtrV.ne{b:Nat}{w:JW}{t:Value}(h:PtrV b w t):t≠ Jp (Jo ⟨w.heap.size,0,Jn⟩):=by
 obtain⟨p,rfl,hp,hc⟩:=h;intro e;have hl:=hc.lt
 injection e with e
 injection e with e
 injection e with e
 exact absurd e (M6 hl)
theorem few0:Few 0 1:=⟨by decide +kernel,by decide +kernel⟩
def strV:Value->Bool
 | Js _=>true
 | _=>false
theorem Cells.strs{w:JW}{p:Nat}{vs:List Value}(h:Cells w p vs)(hp:vs.all strV=true)(i:Nat){x:Value}(hx:w.cell? ⟨p,i,Jn⟩=Jo x):strV x=true:=by
 rw[h.at_ i]at hx;exact List.all_eq_true.1 hp x (List.mem_of_getElem? hx)
theorem IsInt.wroteS{w w':JW}{v:Value}{z:Int}{p:Nat}{vs:List Value}(h:IsInt 0 w v z)(hc:Cells w p vs)(hp:vs.all strV=true)(hs:w'.heap.size=w.heap.size)(hk:∀k,k≠p->w'.heap[k]?=w.heap[k]?):IsInt 0 w' v z:=by
 rcases h with h|⟨hz,q,A,n,c,xs,rfl,hq,hB,hA,c0,c1,hl,hcc,hn,hw,ht,hv⟩
 ·exact .inl h
 ·have hqp:q≠p:=by
   intro e;subst e;have:=hc.strs hp 0 c0;cases this
  refine .inr ⟨hz,q,A,n,c,xs,rfl,by omega,hB,hA,(M3 (hk q hqp)).trans c0,(M3 (hk q hqp)).trans c1,⟨hl.1,hl.2.1,fun h0=>?_⟩,hcc,hn,hw,ht,hv⟩;obtain⟨b,o,e,hb,hcell⟩:=hl.2.2 h0;have hlen:=hl.1;rw[u64s_length]at hlen;have hbp:b≠p:=by
   intro e2;subst e2;have h1:=hcell 0 (.int .u64 ((xs.getD 0 0:Nat):Int)) (by simp[u64s,show 0<xs.length by omega]);have:=hc.strs hp _ h1;cases this
  exact⟨b,o,e,by omega,fun j u hu=>(M3 (hk b hbp)).trans (hcell j u hu)⟩
theorem RatV.wroteS{w w':JW}{a b:Int}{P Q:Option Addr}{q:Rat}{p:Nat}{vs:List Value}(h:RatV w a P b Q q)(hc:Cells w p vs)(hp:vs.all strV=true)(hs:w'.heap.size=w.heap.size)(hk:∀k,k≠p->w'.heap[k]?=w.heap[k]?):RatV w' a P b Q q:=
 ⟨h.num.wroteS hc hp hs hk,h.den.wroteS hc hp hs hk⟩
def PtrS(b:Nat)(w:JW)(t:Value):Prop:=∃p:Nat,t=Jp (Jo ⟨p,0,Jn⟩)/\b<=p/\Cells w p [Js ⟨#[]⟩,Js ⟨#[]⟩,Js ⟨#[]⟩]
theorem PtrS.keep{b:Nat}{w w':JW}{t:Value}(h:PtrS b w t)(hb:Below w.heap.size w w'):PtrS b w' t:=by
 obtain⟨p,e,hp,hc⟩:=h;exact⟨p,e,hp,hc.keep hb⟩
theorem PtrS.ne{b:Nat}{w:JW}{t:Value}(h:PtrS b w t):t≠ Jp (Jo ⟨w.heap.size,0,Jn⟩):=by
 obtain⟨p,rfl,hp,hc⟩:=h;intro e;have hl:=hc.lt
 injection e with e
 injection e with e
 injection e with e
 exact absurd e (M6 hl)
def put3(w:JW)(p:Nat)(x y z:Value):JW:=((w.setCell ⟨p,0,Jn⟩ x).setCell ⟨p,1,Jn⟩ y).setCell ⟨p,2,Jn⟩ z
theorem put3_heap(w:JW)(p:Nat)(x y z:Value):(put3 w p x y z).heap.size=w.heap.size/\∀k,k≠p->(put3 w p x y z).heap[k]?=w.heap[k]?:=
 ⟨by simp[put3,World.setCell],fun k hk=>(M5 _ ⟨p,2,Jn⟩ z k hk).trans ((M5 _ ⟨p,1,Jn⟩ y k hk).trans (M5 w ⟨p,0,Jn⟩ x k hk))⟩
theorem below_put3{w0 w:JW}{p:Nat}(h:Below w0.heap.size w0 w)(hp:w0.heap.size<=p)(x y z:Value):Below w0.heap.size w0 (put3 w p x y z):=
 ((h.setCell (p:=⟨p,0,Jn⟩) hp x).setCell (p:=⟨p,1,Jn⟩) hp y).setCell (p:=⟨p,2,Jn⟩) hp z
theorem Cells.put3{w:JW}{p:Nat}{u0 u1 u2:Value}(h:Cells w p [u0,u1,u2])(x y z:Value):Cells (put3 w p x y z) p [x,y,z]:=((h.set 0 x (by simp)).set 1 y (by simp)).set 2 z (by simp)
theorem VarV.at3{w:JW}{q p:Nat}{u0 u1 u2:Value}{y0 y1 y2:R4}{q0 q1 q2:Rat}(h:VarV w q y0 y1 y2 q0 q1 q2)(hc:Cells w p [u0,u1,u2])(hp:[u0,u1,u2].all strV=true)(hq:q≠p)(x y z:Value):VarV (Go.Proofs.YtekhdklbfincpaaGreatDoor.put3 w p x y z) q y0 y1 y2 q0 q1 q2:=
 ⟨h.cells.same hq (put3_heap w p x y z).1 (put3_heap w p x y z).2,⟨RatV.wroteS h.vec.x hc hp (put3_heap w p x y z).1 (put3_heap w p x y z).2,RatV.wroteS h.vec.y hc hp (put3_heap w p x y z).1 (put3_heap w p x y z).2,RatV.wroteS h.vec.z hc hp (put3_heap w p x y z).1 (put3_heap w p x y z).2⟩⟩
theorem store4{w0 v:JW}{p q s t:Nat}{x0 x1 x2 y0 y1 y2:R4}{i0 i1 i2 j0 j1 j2:Rat}(hP:Cells v p (flat [zero4,zero4,zero4]))(hQ:Cells v q (flat [zero4,zero4,zero4]))(hS:Cells v s [Js ⟨#[]⟩,Js ⟨#[]⟩,Js ⟨#[]⟩])(hT:Cells v t [Js ⟨#[]⟩,Js ⟨#[]⟩,Js ⟨#[]⟩])
  (hx:VecV v x0 x1 x2 i0 i1 i2) (hy:VecV v y0 y1 y2 j0 j1 j2) (pq:p≠q) (ps:p≠s) (pt:p≠t) (qs:q≠s) (qt:q≠t) (st:s≠t) (a0 a1 a2 b0 b1 b2:ByteArray) (hb:Below w0.heap.size w0 v) (lp:w0.heap.size<=p) (lq:w0.heap.size<=q) (ls:w0.heap.size<=s) (lt:w0.heap.size<=t) :
  VarV (put3 (put3 (put12 (put12 v p x0 x1 x2) q y0 y1 y2) s (Js a0) (Js a1) (Js a2)) t (Js b0) (Js b1) (Js b2)) p x0 x1 x2 i0 i1 i2 /\
  VarV (put3 (put3 (put12 (put12 v p x0 x1 x2) q y0 y1 y2) s (Js a0) (Js a1) (Js a2)) t (Js b0) (Js b1) (Js b2)) q y0 y1 y2 j0 j1 j2 /\
  Cells (put3 (put3 (put12 (put12 v p x0 x1 x2) q y0 y1 y2) s (Js a0) (Js a1) (Js a2)) t (Js b0) (Js b1) (Js b2)) s [Js a0,Js a1,Js a2] /\
  Cells (put3 (put3 (put12 (put12 v p x0 x1 x2) q y0 y1 y2) s (Js a0) (Js a1) (Js a2)) t (Js b0) (Js b1) (Js b2)) t [Js b0,Js b1,Js b2] /\
  Below w0.heap.size w0 (put3 (put3 (put12 (put12 v p x0 x1 x2) q y0 y1 y2) s (Js a0) (Js a1) (Js a2)) t (Js b0) (Js b1) (Js b2)):=by
 have e1:=put12_heap v p x0 x1 x2;have A1:=VarV.put hP hx;have Q1:=hQ.same pq.symm e1.1 e1.2;have S1:=hS.same ps.symm e1.1 e1.2;have T1:=hT.same pt.symm e1.1 e1.2;have Y1:=hy.wrote hP e1.1 e1.2;have e2:=put12_heap (put12 v p x0 x1 x2) q y0 y1 y2;have A2:=A1.other Q1 pq y0 y1 y2;have B2:=VarV.put Q1 Y1;have S2:=S1.same qs.symm e2.1 e2.2;have T2:=T1.same qt.symm e2.1 e2.2;have e3:=put3_heap (put12 (put12 v p x0 x1 x2) q y0 y1 y2) s (Js a0) (Js a1) (Js a2);have A3:=A2.at3 S2 (by rfl) ps (Js a0) (Js a1) (Js a2);have B3:=B2.at3 S2 (by rfl) qs (Js a0) (Js a1) (Js a2);have S3:=S2.put3 (Js a0) (Js a1) (Js a2);have T3:=T2.same st.symm e3.1 e3.2;have e4:=put3_heap (put3 (put12 (put12 v p x0 x1 x2) q y0 y1 y2) s (Js a0) (Js a1) (Js a2)) t (Js b0) (Js b1) (Js b2);exact⟨A3.at3 T3 (by rfl) pt _ _ _,B3.at3 T3 (by rfl) qt _ _ _,S3.same st e4.1 e4.2,T3.put3 _ _ _,below_put3 (below_put3 (below_put12 (below_put12 hb lp x0 x1 x2) lq y0 y1 y2) ls _ _ _) lt _ _ _⟩
theorem refAddV_any(a0 a1 a2 b0 b1 b2 c0 c1 c2:ByteArray)(w:JW)
  (h0:∀w',Calls Tryz.prog 71 #[Js a0,Js b0] w' fun e w''=>e= .returned (Js c0)/\Below w'.heap.size w' w'')
  (h1:∀w',Calls Tryz.prog 71 #[Js a1,Js b1] w' fun e w''=>e= .returned (Js c1)/\Below w'.heap.size w' w'')
  (h2:∀w',Calls Tryz.prog 71 #[Js a2,Js b2] w' fun e w''=>e= .returned (Js c2)/\Below w'.heap.size w' w'') :
  Calls Tryz.prog 26 #[Ja #[Js a0,Js a1,Js a2],Ja #[Js b0,Js b1,Js b2]] w fun e w'=>e= .returned (Ja #[Js c0,Js c1,Js c2])/\Below w.heap.size w w':=by
 have kb:=(((M1 w.heap.size w).alloc (M2 _) (Jc #[Js a0,Js a1,Js a2] 48)).alloc (by simp) (Jc #[Js b0,Js b1,Js b2] 48)).alloc (by simp;omega) (Jc #[Js ⟨#[]⟩,Js ⟨#[]⟩,Js ⟨#[]⟩] 48);have C0:=((Cells.new w #[Js a0,Js a1,Js a2] 48).keep ((M1 _ _).alloc (M2 _) (Jc #[Js b0,Js b1,Js b2] 48))).keep ((M1 _ _).alloc (M2 _) (Jc #[Js ⟨#[]⟩,Js ⟨#[]⟩,Js ⟨#[]⟩] 48));have C1:=(Cells.new (w.alloc (Jc #[Js a0,Js a1,Js a2] 48)) #[Js b0,Js b1,Js b2] 48).keep ((M1 _ _).alloc (M2 _) (Jc #[Js ⟨#[]⟩,Js ⟨#[]⟩,Js ⟨#[]⟩] 48));have C2:=Cells.new ((w.alloc (Jc #[Js a0,Js a1,Js a2] 48)).alloc (Jc #[Js b0,Js b1,Js b2] 48)) #[Js ⟨#[]⟩,Js ⟨#[]⟩,Js ⟨#[]⟩] 48;simp only[M4]at C1 C2;have HF0:=Lh h0;have HF1:=Lh h1;have HF2:=Lh h2;obtain⟨W,hW⟩:∃u,(((w.alloc (Jc #[Js a0,Js a1,Js a2] 48)).alloc (Jc #[Js b0,Js b1,Js b2] 48)).alloc (Jc #[Js ⟨#[]⟩,Js ⟨#[]⟩,Js ⟨#[]⟩] 48))=u:=⟨_,rfl⟩;rw[hW]at kb C0 C1 C2;have K0:=Lh kb;have V0:=Lh (show Cells W (w.heap.size) _ from C0);have V1:=Lh (show Cells W (w.heap.size+1) _ from C1);have V2:=Lh (show Cells W (w.heap.size+1+1) _ from C2);have HS:=Lh (fun w' (hb:Below W.heap.size W w')=>(⟨(V0.out.keep hb).at_ 0,(V0.out.keep hb).at_ 1,(V0.out.keep hb).at_ 2,(V1.out.keep hb).at_ 0,(V1.out.keep hb).at_ 1,(V1.out.keep hb).at_ 2⟩:w'.cell? ⟨w.heap.size,0,Jn⟩=Jo (Js a0)/\w'.cell? ⟨w.heap.size,1,Jn⟩=Jo (Js a1)/\w'.cell? ⟨w.heap.size,2,Jn⟩=Jo (Js a2)/\w'.cell? ⟨w.heap.size+1,0,Jn⟩=Jo (Js b0)/\w'.cell? ⟨w.heap.size+1,1,Jn⟩=Jo (Js b1)/\w'.cell? ⟨w.heap.size+1,2,Jn⟩=Jo (Js b2)));clear kb h0 h1 h2 C0 C1 C2
 go_enter Tryz.func26,Tryz.ntmps26;go_upto_region 1 with fail
 try simp only[hW]
 clear hW;refine Till.begin 16 (fun w'=>w'.cell? ⟨w.heap.size,0,Jn⟩=Jo (Js a0)/\w'.cell? ⟨w.heap.size,1,Jn⟩=Jo (Js a1)/\w'.cell? ⟨w.heap.size,2,Jn⟩=Jo (Js a2)/\w'.cell? ⟨w.heap.size+1,0,Jn⟩=Jo (Js b0)/\w'.cell? ⟨w.heap.size+1,1,Jn⟩=Jo (Js b1)/\w'.cell? ⟨w.heap.size+1,2,Jn⟩=Jo (Js b2)) (by kernel_rfl) (HS.out _ (M1 _ _).drew) (fun hH=>?_);clear hH;have HB:=Lh (M1 W.heap.size W).drew;generalize W.drew=v0 at HB ⊢;try simp only[Pls]
 refine Till.tk 0 1 5 (Jp (Jo ⟨w.heap.size,0,Jn⟩)) (HS.out _ HB.out) ?_;try simp only[M0,Pls]
 refine Till.tk 1 4 6 (Js a0) (HS.out _ HB.out) ?_;try simp only[M0,Pls]
 refine Till.tk 2 3 7 (Jp (Jo ⟨w.heap.size+1,0,Jn⟩)) (HS.out _ HB.out) ?_;try simp only[M0,Pls]
 refine Till.tk 3 4 8 (Js b0) (HS.out _ HB.out) ?_;try simp only[M0,Pls]
 refine Till.tk 5 6 10 (Jp (Jo ⟨w.heap.size,1,Jn⟩)) (HS.out _ HB.out) ?_;try simp only[M0,Pls]
 refine Till.tk 6 9 11 (Js a1) (HS.out _ HB.out) ?_;try simp only[M0,Pls]
 refine Till.tk 7 8 12 (Jp (Jo ⟨w.heap.size+1,1,Jn⟩)) (HS.out _ HB.out) ?_;try simp only[M0,Pls]
 refine Till.tk 8 9 13 (Js b1) (HS.out _ HB.out) ?_;try simp only[M0,Pls]
 refine Till.tk 10 11 15 (Jp (Jo ⟨w.heap.size,2,Jn⟩)) (HS.out _ HB.out) ?_;try simp only[M0,Pls]
 refine Till.tk 11 14 16 (Js a2) (HS.out _ HB.out) ?_;try simp only[M0,Pls]
 refine Till.tk 12 13 17 (Jp (Jo ⟨w.heap.size+1,2,Jn⟩)) (HS.out _ HB.out) ?_;try simp only[M0,Pls]
 refine Till.tk 13 14 18 (Js b2) (HS.out _ HB.out) ?_;try simp only[M0,Pls]
 refine Till.one (i:=4) (by kernel_rfl) rfl (fun K hK=>?_);go_simp;refine(HF0.out _).mono ?_;rintro e v1⟨rfl,g⟩;replace HB:=Lh (below_on HB.out g);clear g;go_wp2_with fail
 refine hK.out _ _ (fun _=>HS.out _ HB.out) ?_;clear hK K;try simp only[Pls]
 refine Till.one (i:=9) (by kernel_rfl) rfl (fun K hK=>?_);go_simp;refine(HF1.out _).mono ?_;rintro e v2⟨rfl,g⟩;replace HB:=Lh (below_on HB.out g);clear g;go_wp2_with fail
 refine hK.out _ _ (fun _=>HS.out _ HB.out) ?_;clear hK K;try simp only[Pls]
 refine Till.one (i:=14) (by kernel_rfl) rfl (fun K hK=>?_);go_simp;refine(HF2.out _).mono ?_;rintro e v3⟨rfl,g⟩;replace HB:=Lh (below_on HB.out g);have Cv:=V2.out.keep HB.out;have f0:v3.frozen? ⟨w.heap.size+1+1,0,Jn⟩=false:=Cv.fz 0;have k0:v3.cell? ⟨w.heap.size+1+1,0,Jn⟩=Jo (Js ⟨#[]⟩):=Cv.at_ 0;have f1:v3.frozen? ⟨w.heap.size+1+1,1,Jn⟩=false:=Cv.fz 1;have k1:v3.cell? ⟨w.heap.size+1+1,1,Jn⟩=Jo (Js ⟨#[]⟩):=Cv.at_ 1;have f2:v3.frozen? ⟨w.heap.size+1+1,2,Jn⟩=false:=Cv.fz 2;have k2:v3.cell? ⟨w.heap.size+1+1,2,Jn⟩=Jo (Js ⟨#[]⟩):=Cv.at_ 2;clear Cv;clear g;go_wp2_with fail
 refine hK.out _ _ (fun _=>HS.out _ HB.out) ?_;clear hK K;try simp only[Pls]
 refine Till.one (i:=15) (by kernel_rfl) rfl (fun K hK=>?_);go_simp;refine hK.out _ _ (fun _=>HS.out _ HB.out) ?_;clear hK K;try simp only[Pls]
 refine Till.one (i:=16) (by kernel_rfl) rfl (fun K hK=>?_);go_simp;refine hK.out _ _ (fun h=>absurd h (by simp)) ?_;clear hK K;try simp only[Pls]
 refine Till.done (by kernel_rfl) ?_ _;have Kf:=Lh ((((below_on K0.out HB.out).setCell (p:=⟨w.heap.size+1+1,0,Jn⟩) (show w.heap.size<=w.heap.size+1+1 by omega) (Js c0)).setCell (p:=⟨w.heap.size+1+1,1,Jn⟩) (show w.heap.size<=w.heap.size+1+1 by omega) (Js c1)).setCell (p:=⟨w.heap.size+1+1,2,Jn⟩) (show w.heap.size<=w.heap.size+1+1 by omega) (Js c2));go_wp2;exact bodyPost_ret (v:=Ja #[Js c0,Js c1,Js c2]) (by simp[results,Tryz.results26,go_sem,k0,k1,k2]) rfl ⟨rfl,Kf.out⟩
theorem refNegV_any(a0 a1 a2 c0 c1 c2:ByteArray)(w:JW)
  (h0:∀w',Calls Tryz.prog 73 #[Js a0] w' fun e w''=>e= .returned (Js c0)/\Below w'.heap.size w' w'')
  (h1:∀w',Calls Tryz.prog 73 #[Js a1] w' fun e w''=>e= .returned (Js c1)/\Below w'.heap.size w' w'')
  (h2:∀w',Calls Tryz.prog 73 #[Js a2] w' fun e w''=>e= .returned (Js c2)/\Below w'.heap.size w' w'') :
  Calls Tryz.prog 30 #[Ja #[Js a0,Js a1,Js a2]] w fun e w'=>e= .returned (Ja #[Js c0,Js c1,Js c2])/\Below w.heap.size w w':=by
 have kb:=((M1 w.heap.size w).alloc (M2 _) (Jc #[Js a0,Js a1,Js a2] 48)).alloc (by simp) (Jc #[Js ⟨#[]⟩,Js ⟨#[]⟩,Js ⟨#[]⟩] 48);have C0:=(Cells.new w #[Js a0,Js a1,Js a2] 48).keep ((M1 _ _).alloc (M2 _) (Jc #[Js ⟨#[]⟩,Js ⟨#[]⟩,Js ⟨#[]⟩] 48));have C1:=Cells.new (w.alloc (Jc #[Js a0,Js a1,Js a2] 48)) #[Js ⟨#[]⟩,Js ⟨#[]⟩,Js ⟨#[]⟩] 48;simp only[M4]at C1;have HF0:=Lh h0;have HF1:=Lh h1;have HF2:=Lh h2;obtain⟨W,hW⟩:∃u,((w.alloc (Jc #[Js a0,Js a1,Js a2] 48)).alloc (Jc #[Js ⟨#[]⟩,Js ⟨#[]⟩,Js ⟨#[]⟩] 48))=u:=⟨_,rfl⟩;rw[hW]at kb C0 C1;have K0:=Lh kb;have V0:=Lh (show Cells W (w.heap.size) _ from C0);have V1:=Lh (show Cells W (w.heap.size+1) _ from C1);have HS:=Lh (fun w' (hb:Below W.heap.size W w')=>(⟨(V0.out.keep hb).at_ 0,(V0.out.keep hb).at_ 1,(V0.out.keep hb).at_ 2⟩:w'.cell? ⟨w.heap.size,0,Jn⟩=Jo (Js a0)/\w'.cell? ⟨w.heap.size,1,Jn⟩=Jo (Js a1)/\w'.cell? ⟨w.heap.size,2,Jn⟩=Jo (Js a2)));clear kb h0 h1 h2 C0 C1;go_enter Tryz.func30,Tryz.ntmps30;go_upto_region 1 with fail
 try simp only[hW]
 clear hW;refine Till.begin 10 (fun w'=>w'.cell? ⟨w.heap.size,0,Jn⟩=Jo (Js a0)/\w'.cell? ⟨w.heap.size,1,Jn⟩=Jo (Js a1)/\w'.cell? ⟨w.heap.size,2,Jn⟩=Jo (Js a2)) (by kernel_rfl) (HS.out _ (M1 _ _).drew) (fun hH=>?_);clear hH;have HB:=Lh (M1 W.heap.size W).drew;generalize W.drew=v0 at HB ⊢;try simp only[Pls]
 refine Till.tk 0 1 3 (Jp (Jo ⟨w.heap.size,0,Jn⟩)) (HS.out _ HB.out) ?_;try simp only[M0,Pls]
 refine Till.tk 1 2 4 (Js a0) (HS.out _ HB.out) ?_;try simp only[M0,Pls]
 refine Till.tk 3 4 6 (Jp (Jo ⟨w.heap.size,1,Jn⟩)) (HS.out _ HB.out) ?_;try simp only[M0,Pls]
 refine Till.tk 4 5 7 (Js a1) (HS.out _ HB.out) ?_;try simp only[M0,Pls]
 refine Till.tk 6 7 9 (Jp (Jo ⟨w.heap.size,2,Jn⟩)) (HS.out _ HB.out) ?_;try simp only[M0,Pls]
 refine Till.tk 7 8 10 (Js a2) (HS.out _ HB.out) ?_;try simp only[M0,Pls]
 refine Till.one (i:=2) (by kernel_rfl) rfl (fun K hK=>?_);go_simp;refine(HF0.out _).mono ?_;rintro e v1⟨rfl,g⟩;replace HB:=Lh (below_on HB.out g);clear g;go_wp2_with fail
 refine hK.out _ _ (fun _=>HS.out _ HB.out) ?_;clear hK K;try simp only[Pls]
 refine Till.one (i:=5) (by kernel_rfl) rfl (fun K hK=>?_);go_simp;refine(HF1.out _).mono ?_;rintro e v2⟨rfl,g⟩;replace HB:=Lh (below_on HB.out g);clear g;go_wp2_with fail
 refine hK.out _ _ (fun _=>HS.out _ HB.out) ?_;clear hK K;try simp only[Pls]
 refine Till.one (i:=8) (by kernel_rfl) rfl (fun K hK=>?_);go_simp;refine(HF2.out _).mono ?_;rintro e v3⟨rfl,g⟩;replace HB:=Lh (below_on HB.out g);have Cv:=V1.out.keep HB.out;have f0:v3.frozen? ⟨w.heap.size+1,0,Jn⟩=false:=Cv.fz 0;have k0:v3.cell? ⟨w.heap.size+1,0,Jn⟩=Jo (Js ⟨#[]⟩):=Cv.at_ 0;have f1:v3.frozen? ⟨w.heap.size+1,1,Jn⟩=false:=Cv.fz 1;have k1:v3.cell? ⟨w.heap.size+1,1,Jn⟩=Jo (Js ⟨#[]⟩):=Cv.at_ 1;have f2:v3.frozen? ⟨w.heap.size+1,2,Jn⟩=false:=Cv.fz 2;have k2:v3.cell? ⟨w.heap.size+1,2,Jn⟩=Jo (Js ⟨#[]⟩):=Cv.at_ 2;clear Cv;clear g;go_wp2_with fail
 refine hK.out _ _ (fun _=>HS.out _ HB.out) ?_;clear hK K;try simp only[Pls]
 refine Till.one (i:=9) (by kernel_rfl) rfl (fun K hK=>?_);go_simp;refine hK.out _ _ (fun _=>HS.out _ HB.out) ?_;clear hK K;try simp only[Pls]
 refine Till.one (i:=10) (by kernel_rfl) rfl (fun K hK=>?_);go_simp;refine hK.out _ _ (fun h=>absurd h (by simp)) ?_;clear hK K;try simp only[Pls]
 refine Till.done (by kernel_rfl) ?_ _;have Kf:=Lh ((((below_on K0.out HB.out).setCell (p:=⟨w.heap.size+1,0,Jn⟩) (show w.heap.size<=w.heap.size+1 by omega) (Js c0)).setCell (p:=⟨w.heap.size+1,1,Jn⟩) (show w.heap.size<=w.heap.size+1 by omega) (Js c1)).setCell (p:=⟨w.heap.size+1,2,Jn⟩) (show w.heap.size<=w.heap.size+1 by omega) (Js c2));go_wp2;exact bodyPost_ret (v:=Ja #[Js c0,Js c1,Js c2]) (by simp[results,Tryz.results30,go_sem,k0,k1,k2]) rfl ⟨rfl,Kf.out⟩
theorem refScaleV_any(a0 a1 a2 z c0 c1 c2:ByteArray)(w:JW)
  (h0:∀w',Calls Tryz.prog 75 #[Js a0,Js z] w' fun e w''=>e= .returned (Js c0)/\Below w'.heap.size w' w'')
  (h1:∀w',Calls Tryz.prog 75 #[Js a1,Js z] w' fun e w''=>e= .returned (Js c1)/\Below w'.heap.size w' w'')
  (h2:∀w',Calls Tryz.prog 75 #[Js a2,Js z] w' fun e w''=>e= .returned (Js c2)/\Below w'.heap.size w' w'') :
  Calls Tryz.prog 32 #[Ja #[Js a0,Js a1,Js a2],Js z] w fun e w'=>e= .returned (Ja #[Js c0,Js c1,Js c2])/\Below w.heap.size w w':=by
 have kb:=((M1 w.heap.size w).alloc (M2 _) (Jc #[Js a0,Js a1,Js a2] 48)).alloc (by simp) (Jc #[Js ⟨#[]⟩,Js ⟨#[]⟩,Js ⟨#[]⟩] 48);have C0:=(Cells.new w #[Js a0,Js a1,Js a2] 48).keep ((M1 _ _).alloc (M2 _) (Jc #[Js ⟨#[]⟩,Js ⟨#[]⟩,Js ⟨#[]⟩] 48));have C1:=Cells.new (w.alloc (Jc #[Js a0,Js a1,Js a2] 48)) #[Js ⟨#[]⟩,Js ⟨#[]⟩,Js ⟨#[]⟩] 48;simp only[M4]at C1;have HF0:=Lh h0;have HF1:=Lh h1;have HF2:=Lh h2;obtain⟨W,hW⟩:∃u,((w.alloc (Jc #[Js a0,Js a1,Js a2] 48)).alloc (Jc #[Js ⟨#[]⟩,Js ⟨#[]⟩,Js ⟨#[]⟩] 48))=u:=⟨_,rfl⟩;rw[hW]at kb C0 C1;have K0:=Lh kb;have V0:=Lh (show Cells W (w.heap.size) _ from C0);have V1:=Lh (show Cells W (w.heap.size+1) _ from C1);have HS:=Lh (fun w' (hb:Below W.heap.size W w')=>(⟨(V0.out.keep hb).at_ 0,(V0.out.keep hb).at_ 1,(V0.out.keep hb).at_ 2⟩:w'.cell? ⟨w.heap.size,0,Jn⟩=Jo (Js a0)/\w'.cell? ⟨w.heap.size,1,Jn⟩=Jo (Js a1)/\w'.cell? ⟨w.heap.size,2,Jn⟩=Jo (Js a2)));clear kb h0 h1 h2 C0 C1;go_enter Tryz.func32,Tryz.ntmps32;go_upto_region 1 with fail
 try simp only[hW]
 clear hW;refine Till.begin 13 (fun w'=>w'.cell? ⟨w.heap.size,0,Jn⟩=Jo (Js a0)/\w'.cell? ⟨w.heap.size,1,Jn⟩=Jo (Js a1)/\w'.cell? ⟨w.heap.size,2,Jn⟩=Jo (Js a2)) (by kernel_rfl) (HS.out _ (M1 _ _).drew) (fun hH=>?_);clear hH;have HB:=Lh (M1 W.heap.size W).drew;generalize W.drew=v0 at HB ⊢;try simp only[Pls]
 refine Till.tk 0 1 5 (Jp (Jo ⟨w.heap.size,0,Jn⟩)) (HS.out _ HB.out) ?_;try simp only[M0,Pls]
 refine Till.tk 1 3 6 (Js a0) (HS.out _ HB.out) ?_;try simp only[M0,Pls]
 refine Till.tk 2 3 7 (Js z) (HS.out _ HB.out) ?_;try simp only[M0,Pls]
 refine Till.tk 4 5 9 (Jp (Jo ⟨w.heap.size,1,Jn⟩)) (HS.out _ HB.out) ?_;try simp only[M0,Pls]
 refine Till.tk 5 7 10 (Js a1) (HS.out _ HB.out) ?_;try simp only[M0,Pls]
 refine Till.tk 6 7 11 (Js z) (HS.out _ HB.out) ?_;try simp only[M0,Pls]
 refine Till.tk 8 9 13 (Jp (Jo ⟨w.heap.size,2,Jn⟩)) (HS.out _ HB.out) ?_;try simp only[M0,Pls]
 refine Till.tk 9 11 14 (Js a2) (HS.out _ HB.out) ?_;try simp only[M0,Pls]
 refine Till.tk 10 11 15 (Js z) (HS.out _ HB.out) ?_;try simp only[M0,Pls]
 refine Till.one (i:=3) (by kernel_rfl) rfl (fun K hK=>?_);go_simp;refine(HF0.out _).mono ?_;rintro e v1⟨rfl,g⟩;replace HB:=Lh (below_on HB.out g);clear g;go_wp2_with fail
 refine hK.out _ _ (fun _=>HS.out _ HB.out) ?_;clear hK K;try simp only[Pls]
 refine Till.one (i:=7) (by kernel_rfl) rfl (fun K hK=>?_);go_simp;refine(HF1.out _).mono ?_;rintro e v2⟨rfl,g⟩;replace HB:=Lh (below_on HB.out g);clear g;go_wp2_with fail
 refine hK.out _ _ (fun _=>HS.out _ HB.out) ?_;clear hK K;try simp only[Pls]
 refine Till.one (i:=11) (by kernel_rfl) rfl (fun K hK=>?_);go_simp;refine(HF2.out _).mono ?_;rintro e v3⟨rfl,g⟩;replace HB:=Lh (below_on HB.out g);have Cv:=V1.out.keep HB.out;have f0:v3.frozen? ⟨w.heap.size+1,0,Jn⟩=false:=Cv.fz 0;have k0:v3.cell? ⟨w.heap.size+1,0,Jn⟩=Jo (Js ⟨#[]⟩):=Cv.at_ 0;have f1:v3.frozen? ⟨w.heap.size+1,1,Jn⟩=false:=Cv.fz 1;have k1:v3.cell? ⟨w.heap.size+1,1,Jn⟩=Jo (Js ⟨#[]⟩):=Cv.at_ 1;have f2:v3.frozen? ⟨w.heap.size+1,2,Jn⟩=false:=Cv.fz 2;have k2:v3.cell? ⟨w.heap.size+1,2,Jn⟩=Jo (Js ⟨#[]⟩):=Cv.at_ 2;clear Cv;clear g;go_wp2_with fail
 refine hK.out _ _ (fun _=>HS.out _ HB.out) ?_;clear hK K;try simp only[Pls]
 refine Till.one (i:=12) (by kernel_rfl) rfl (fun K hK=>?_);go_simp;refine hK.out _ _ (fun _=>HS.out _ HB.out) ?_;clear hK K;try simp only[Pls]
 refine Till.one (i:=13) (by kernel_rfl) rfl (fun K hK=>?_);go_simp;refine hK.out _ _ (fun h=>absurd h (by simp)) ?_;clear hK K;try simp only[Pls]
 refine Till.done (by kernel_rfl) ?_ _;have Kf:=Lh ((((below_on K0.out HB.out).setCell (p:=⟨w.heap.size+1,0,Jn⟩) (show w.heap.size<=w.heap.size+1 by omega) (Js c0)).setCell (p:=⟨w.heap.size+1,1,Jn⟩) (show w.heap.size<=w.heap.size+1 by omega) (Js c1)).setCell (p:=⟨w.heap.size+1,2,Jn⟩) (show w.heap.size<=w.heap.size+1 by omega) (Js c2));go_wp2;exact bodyPost_ret (v:=Ja #[Js c0,Js c1,Js c2]) (by simp[results,Tryz.results32,go_sem,k0,k1,k2]) rfl ⟨rfl,Kf.out⟩
theorem refSubV_any(a0 a1 a2 b0 b1 b2 n0 n1 n2 c0 c1 c2:ByteArray)(w:JW)
  (h0:∀w',Calls Tryz.prog 73 #[Js b0] w' fun e w''=>e= .returned (Js n0)/\Below w'.heap.size w' w'')
  (g0:∀w',Calls Tryz.prog 71 #[Js a0,Js n0] w' fun e w''=>e= .returned (Js c0)/\Below w'.heap.size w' w'')
  (h1:∀w',Calls Tryz.prog 73 #[Js b1] w' fun e w''=>e= .returned (Js n1)/\Below w'.heap.size w' w'')
  (g1:∀w',Calls Tryz.prog 71 #[Js a1,Js n1] w' fun e w''=>e= .returned (Js c1)/\Below w'.heap.size w' w'')
  (h2:∀w',Calls Tryz.prog 73 #[Js b2] w' fun e w''=>e= .returned (Js n2)/\Below w'.heap.size w' w'')
  (g2:∀w',Calls Tryz.prog 71 #[Js a2,Js n2] w' fun e w''=>e= .returned (Js c2)/\Below w'.heap.size w' w'') :
  Calls Tryz.prog 28 #[Ja #[Js a0,Js a1,Js a2],Ja #[Js b0,Js b1,Js b2]] w fun e w'=>e= .returned (Ja #[Js c0,Js c1,Js c2])/\Below w.heap.size w w':=by
 have kb:=(((M1 w.heap.size w).alloc (M2 _) (Jc #[Js a0,Js a1,Js a2] 48)).alloc (by simp) (Jc #[Js b0,Js b1,Js b2] 48)).alloc (by simp;omega) (Jc #[Js ⟨#[]⟩,Js ⟨#[]⟩,Js ⟨#[]⟩] 48);have C0:=((Cells.new w #[Js a0,Js a1,Js a2] 48).keep ((M1 _ _).alloc (M2 _) (Jc #[Js b0,Js b1,Js b2] 48))).keep ((M1 _ _).alloc (M2 _) (Jc #[Js ⟨#[]⟩,Js ⟨#[]⟩,Js ⟨#[]⟩] 48));have C1:=(Cells.new (w.alloc (Jc #[Js a0,Js a1,Js a2] 48)) #[Js b0,Js b1,Js b2] 48).keep ((M1 _ _).alloc (M2 _) (Jc #[Js ⟨#[]⟩,Js ⟨#[]⟩,Js ⟨#[]⟩] 48));have C2:=Cells.new ((w.alloc (Jc #[Js a0,Js a1,Js a2] 48)).alloc (Jc #[Js b0,Js b1,Js b2] 48)) #[Js ⟨#[]⟩,Js ⟨#[]⟩,Js ⟨#[]⟩] 48;simp only[M4]at C1 C2;have HN:=Lh (fun w'=>refNegV_any b0 b1 b2 n0 n1 n2 w' h0 h1 h2);have HA:=Lh (fun w'=>refAddV_any a0 a1 a2 n0 n1 n2 c0 c1 c2 w' g0 g1 g2);obtain⟨W,hW⟩:∃u,((w.alloc (Jc #[Js a0,Js a1,Js a2] 48)).alloc (Jc #[Js b0,Js b1,Js b2] 48)).alloc (Jc #[Js ⟨#[]⟩,Js ⟨#[]⟩,Js ⟨#[]⟩] 48)=u:=⟨_,rfl⟩;rw[hW]at kb C0 C1 C2;have K0:=Lh kb;have V0:=Lh C0;have V1:=Lh (show Cells W (w.heap.size+1) _ from C1);have V2:=Lh (show Cells W (w.heap.size+1+1) _ from C2);have HS:=Lh (fun w' (hb:Below W.heap.size W w')=>(⟨(V0.out.keep hb).at_ 0,(V0.out.keep hb).at_ 1,(V0.out.keep hb).at_ 2,(V1.out.keep hb).at_ 0,(V1.out.keep hb).at_ 1,(V1.out.keep hb).at_ 2⟩:w'.cell? ⟨w.heap.size,0,Jn⟩=Jo (Js a0)/\w'.cell? ⟨w.heap.size,1,Jn⟩=Jo (Js a1)/\w'.cell? ⟨w.heap.size,2,Jn⟩=Jo (Js a2)/\w'.cell? ⟨w.heap.size+1,0,Jn⟩=Jo (Js b0)/\w'.cell? ⟨w.heap.size+1,1,Jn⟩=Jo (Js b1)/\w'.cell? ⟨w.heap.size+1,2,Jn⟩=Jo (Js b2)))
 clear kb h0 h1 h2 g0 g1 g2 C0 C1 C2;go_enter Tryz.func28,Tryz.ntmps28;go_upto_region 1 with fail
 try simp only[hW]
 clear hW;refine Till.begin 4 (fun w'=>w'.cell? ⟨w.heap.size,0,Jn⟩=Jo (Js a0)/\w'.cell? ⟨w.heap.size,1,Jn⟩=Jo (Js a1)/\w'.cell? ⟨w.heap.size,2,Jn⟩=Jo (Js a2)/\w'.cell? ⟨w.heap.size+1,0,Jn⟩=Jo (Js b0)/\w'.cell? ⟨w.heap.size+1,1,Jn⟩=Jo (Js b1)/\w'.cell? ⟨w.heap.size+1,2,Jn⟩=Jo (Js b2)) (by kernel_rfl) (HS.out _ (M1 _ _).drew) (fun hH=>?_);clear hH;have HB:=Lh (M1 W.heap.size W).drew;generalize W.drew=v0 at HB ⊢;try simp only[Pls]
 refine Till.tk 0 3 5 (Ja #[Js a0,Js a1,Js a2]) (HS.out _ HB.out) ?_;try simp only[M0,Pls]
 refine Till.tk 1 2 6 (Ja #[Js b0,Js b1,Js b2]) (HS.out _ HB.out) ?_;try simp only[M0,Pls]
 refine Till.one (i:=2) (by kernel_rfl) rfl (fun K hK=>?_);go_simp;refine(HN.out _).mono ?_;rintro e v1⟨rfl,g⟩;replace HB:=Lh (below_on HB.out g);clear g;go_wp2_with fail
 refine hK.out _ _ (fun _=>HS.out _ HB.out) ?_;clear hK K;try simp only[Pls]
 refine Till.one (i:=3) (by kernel_rfl) rfl (fun K hK=>?_);go_simp;refine(HA.out _).mono ?_;rintro e v2⟨rfl,g⟩;replace HB:=Lh (below_on HB.out g);have Cv:=V2.out.keep HB.out;have f0:v2.frozen? ⟨w.heap.size+1+1,0,Jn⟩=false:=Cv.fz 0;have k0:v2.cell? ⟨w.heap.size+1+1,0,Jn⟩=Jo (Js ⟨#[]⟩):=Cv.at_ 0;have f1:v2.frozen? ⟨w.heap.size+1+1,1,Jn⟩=false:=Cv.fz 1;have k1:v2.cell? ⟨w.heap.size+1+1,1,Jn⟩=Jo (Js ⟨#[]⟩):=Cv.at_ 1;have f2:v2.frozen? ⟨w.heap.size+1+1,2,Jn⟩=false:=Cv.fz 2;have k2:v2.cell? ⟨w.heap.size+1+1,2,Jn⟩=Jo (Js ⟨#[]⟩):=Cv.at_ 2;clear Cv;clear g;go_wp2_with fail
 refine hK.out _ _ (fun _=>HS.out _ HB.out) ?_;clear hK K;try simp only[Pls]
 refine Till.one (i:=4) (by kernel_rfl) rfl (fun K hK=>?_);go_simp;refine hK.out _ _ (fun h=>absurd h (by simp)) ?_;clear hK K;try simp only[Pls]
 refine Till.done (by kernel_rfl) ?_ _;have Kf:=Lh ((((below_on K0.out HB.out).setCell (p:=⟨w.heap.size+1+1,0,Jn⟩) (show w.heap.size<=w.heap.size+1+1 by omega) (Js c0)).setCell (p:=⟨w.heap.size+1+1,1,Jn⟩) (show w.heap.size<=w.heap.size+1+1 by omega) (Js c1)).setCell (p:=⟨w.heap.size+1+1,2,Jn⟩) (show w.heap.size<=w.heap.size+1+1 by omega) (Js c2));go_wp2;exact bodyPost_ret (v:=Ja #[Js c0,Js c1,Js c2]) (by simp[results,Tryz.results28,go_sem,k0,k1,k2]) rfl ⟨rfl,Kf.out⟩
theorem few_i64{n:Int}(h:I64 n):Few ((n:Int):Rat) 20:=⟨by rw[Rat.num_intCast];have:=h.1;have:=h.2;show n.natAbs<100000000000000000000;omega,by rw[Rat.den_intCast];decide⟩
