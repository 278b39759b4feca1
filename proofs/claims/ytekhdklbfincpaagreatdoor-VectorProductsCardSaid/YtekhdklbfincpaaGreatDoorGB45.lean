/- GB45: Vlib Vrf -/
import Derived.Test.YtekhdklbfincpaaGreatDoorGB44
set_option maxRecDepth 100000
set_option maxHeartbeats 16000000
namespace Go.Proofs.YtekhdklbfincpaaGreatDoor
open Go.Value renaming pointer→Jp,string→Js
open Go.Obj renaming cells→Jc
open _root_.Option renaming none→Jn,some→Jo
open Go renaming World→JW
open Go.RowKit.Below renaming refl→M0
open Go.Act renaming put→M1
open _root_.Nat renaming le_refl→M2
open Go.World renaming size_alloc→M3
open Go.RowKit
theorem Jg.same{w w':JW}{q p:Nat}{l:List Value}(h:Jg w q l)(hq:q≠p)(hs:w'.heap.size=w.heap.size)(hk:∀k,k≠p->w'.heap[k]?=w.heap[k]?):Jg w' q l:=
 ⟨fun i=>(World.cell?_of_block (hk q hq)).trans (h.at_ i),fun i=>(World.frozen?_of_block (hk q hq)).trans (h.fz i),by rw[hs];exact h.lt⟩
theorem Jg.put12{w:JW}{p:Nat}{u0 u1 u2:R4}(h:Jg w p (flat [u0,u1,u2]))(x0 x1 x2:R4):Jg (put12 w p x0 x1 x2) p (flat [x0,x1,x2]):=by
 have:=((((((((((((h.set 0 (.int .i64 x0.1) (by simp[flat,QL])).set 1 (Jp x0.2.1) (by simp[flat,QL])).set 2 (.int .i64 x0.2.2.1) (by simp[flat,QL])).set 3 (Jp x0.2.2.2) (by simp[flat,QL])).set 4 (.int .i64 x1.1) (by simp[flat,QL])).set 5 (Jp x1.2.1) (by simp[flat,QL])).set 6 (.int .i64 x1.2.2.1) (by simp[flat,QL])).set 7 (Jp x1.2.2.2) (by simp[flat,QL])).set 8 (.int .i64 x2.1) (by simp[flat,QL])).set 9 (Jp x2.2.1) (by simp[flat,QL])).set 10 (.int .i64 x2.2.2.1) (by simp[flat,QL])).set 11 (Jp x2.2.2.2) (by simp[flat,QL]));simpa[flat,QL,Go.Proofs.YtekhdklbfincpaaGreatDoor.put12]using this
theorem VarV.put{w:JW}{p:Nat}{u0 u1 u2 x0 x1 x2:R4}{q0 q1 q2:Rat}(h:Jg w p (flat [u0,u1,u2]))(hv:VecV w x0 x1 x2 q0 q1 q2):VarV (put12 w p x0 x1 x2) p x0 x1 x2 q0 q1 q2:=
 ⟨h.put12 x0 x1 x2,hv.wrote h (Jx w p x0 x1 x2).1 (Jx w p x0 x1 x2).2⟩
theorem VarV.other{w:JW}{q p:Nat}{u0 u1 u2 y0 y1 y2:R4}{q0 q1 q2:Rat}(h:VarV w q y0 y1 y2 q0 q1 q2)(hc:Jg w p (flat [u0,u1,u2]))(hq:q≠p)(x0 x1 x2:R4):VarV (put12 w p x0 x1 x2) q y0 y1 y2 q0 q1 q2:=
 ⟨h.cells.same hq (Jx w p x0 x1 x2).1 (Jx w p x0 x1 x2).2,h.vec.wrote hc (Jx w p x0 x1 x2).1 (Jx w p x0 x1 x2).2⟩
def UE(w:JW)(t:Value)(q0 q1 q2:Rat):Prop:=∃r0 r1 r2,t=Jj r0 r1 r2/\VecV w r0 r1 r2 q0 q1 q2
theorem UE.keep{w w':JW}{t:Value}{q0 q1 q2:Rat}(h:UE w t q0 q1 q2)(hb:Below w.heap.size w w'):UE w' t q0 q1 q2:=by
 obtain⟨r0,r1,r2,e,hx⟩:=h;exact⟨r0,r1,r2,e,hx.keep hb⟩
def PtrV(b:Nat)(w:JW)(t:Value):Prop:=∃p:Nat,t=Jp (Jo ⟨p,0,Jn⟩)/\b<=p/\Jg w p (flat [Jm,Jm,Jm])
theorem PtrV.keep{b:Nat}{w w':JW}{t:Value}(h:PtrV b w t)(hb:Below w.heap.size w w'):PtrV b w' t:=by
 obtain⟨p,e,hp,hc⟩:=h;exact⟨p,e,hp,hc.keep hb⟩
theorem PtrV.ne{b:Nat}{w:JW}{t:Value}(h:PtrV b w t):t≠ Jp (Jo ⟨w.heap.size,0,Jn⟩):=by
 obtain⟨p,rfl,hp,hc⟩:=h;intro e;have hl:=hc.lt
 injection e with e
 injection e with e
 injection e with e
 exact absurd e (Nat.ne_of_lt hl)
theorem WX(a0 a1 a2 b0 b1 b2 c0 c1 c2:ByteArray)(w:JW)
  (h0:∀w',Calls Tryz.prog 71 #[Js a0,Js b0] w' fun e w''=>e= .returned (Js c0)/\Below w'.heap.size w' w'')
  (h1:∀w',Calls Tryz.prog 71 #[Js a1,Js b1] w' fun e w''=>e= .returned (Js c1)/\Below w'.heap.size w' w'')
  (h2:∀w',Calls Tryz.prog 71 #[Js a2,Js b2] w' fun e w''=>e= .returned (Js c2)/\Below w'.heap.size w' w'') :
  Calls Tryz.prog 26 #[.agg #[Js a0,Js a1,Js a2],.agg #[Js b0,Js b1,Js b2]] w fun e w'=>e= .returned (.agg #[Js c0,Js c1,Js c2])/\Below w.heap.size w w':=by
 have kb:=(((M0 w.heap.size w).alloc (M2 _) (Jc #[Js a0,Js a1,Js a2] 48)).alloc (by simp) (Jc #[Js b0,Js b1,Js b2] 48)).alloc (by simp;omega) (Jc #[Js ⟨#[]⟩,Js ⟨#[]⟩,Js ⟨#[]⟩] 48);have C0:=((Jg.new w #[Js a0,Js a1,Js a2] 48).keep ((M0 _ _).alloc (M2 _) (Jc #[Js b0,Js b1,Js b2] 48))).keep ((M0 _ _).alloc (M2 _) (Jc #[Js ⟨#[]⟩,Js ⟨#[]⟩,Js ⟨#[]⟩] 48));have C1:=(Jg.new (w.alloc (Jc #[Js a0,Js a1,Js a2] 48)) #[Js b0,Js b1,Js b2] 48).keep ((M0 _ _).alloc (M2 _) (Jc #[Js ⟨#[]⟩,Js ⟨#[]⟩,Js ⟨#[]⟩] 48));have C2:=Jg.new ((w.alloc (Jc #[Js a0,Js a1,Js a2] 48)).alloc (Jc #[Js b0,Js b1,Js b2] 48)) #[Js ⟨#[]⟩,Js ⟨#[]⟩,Js ⟨#[]⟩] 48;simp only[M3]at C1 C2;have HF0:=Lh h0;have HF1:=Lh h1;have HF2:=Lh h2;obtain⟨W,hW⟩:∃u,(((w.alloc (Jc #[Js a0,Js a1,Js a2] 48)).alloc (Jc #[Js b0,Js b1,Js b2] 48)).alloc (Jc #[Js ⟨#[]⟩,Js ⟨#[]⟩,Js ⟨#[]⟩] 48))=u:=⟨_,rfl⟩;rw[hW]at kb C0 C1 C2;have K0:=Lh kb;have V0:=Lh (show Jg W (w.heap.size) _ from C0);have V1:=Lh (show Jg W (w.heap.size+1) _ from C1);have V2:=Lh (show Jg W (w.heap.size+1+1) _ from C2);have HS:=Lh (fun w' (hb:Below W.heap.size W w')=>(⟨(V0.out.keep hb).at_ 0,(V0.out.keep hb).at_ 1,(V0.out.keep hb).at_ 2,(V1.out.keep hb).at_ 0,(V1.out.keep hb).at_ 1,(V1.out.keep hb).at_ 2⟩:w'.cell? ⟨w.heap.size,0,Jn⟩=Jo (Js a0)/\w'.cell? ⟨w.heap.size,1,Jn⟩=Jo (Js a1)/\w'.cell? ⟨w.heap.size,2,Jn⟩=Jo (Js a2)/\w'.cell? ⟨w.heap.size+1,0,Jn⟩=Jo (Js b0)/\w'.cell? ⟨w.heap.size+1,1,Jn⟩=Jo (Js b1)/\w'.cell? ⟨w.heap.size+1,2,Jn⟩=Jo (Js b2)));clear kb h0 h1 h2 C0 C1 C2;go_enter Tryz.func26,Tryz.ntmps26
 go_upto_region 1 with fail
 try simp only[hW]
 clear hW;refine Till.begin 16 (fun w'=>w'.cell? ⟨w.heap.size,0,Jn⟩=Jo (Js a0)/\w'.cell? ⟨w.heap.size,1,Jn⟩=Jo (Js a1)/\w'.cell? ⟨w.heap.size,2,Jn⟩=Jo (Js a2)/\w'.cell? ⟨w.heap.size+1,0,Jn⟩=Jo (Js b0)/\w'.cell? ⟨w.heap.size+1,1,Jn⟩=Jo (Js b1)/\w'.cell? ⟨w.heap.size+1,2,Jn⟩=Jo (Js b2)) (by kernel_rfl) (HS.out _ (M0 _ _).drew) (fun hH=>?_);clear hH;have HB:=Lh (M0 W.heap.size W).drew;generalize W.drew=v0 at HB ⊢;try simp only[Pls]
 refine Till.tk 0 1 5 (Jp (Jo ⟨w.heap.size,0,Jn⟩)) (HS.out _ HB.out) ?_;try simp only[M1,Pls]
 refine Till.tk 1 4 6 (Js a0) (HS.out _ HB.out) ?_;try simp only[M1,Pls]
 refine Till.tk 2 3 7 (Jp (Jo ⟨w.heap.size+1,0,Jn⟩)) (HS.out _ HB.out) ?_;try simp only[M1,Pls]
 refine Till.tk 3 4 8 (Js b0) (HS.out _ HB.out) ?_;try simp only[M1,Pls]
 refine Till.tk 5 6 10 (Jp (Jo ⟨w.heap.size,1,Jn⟩)) (HS.out _ HB.out) ?_;try simp only[M1,Pls]
 refine Till.tk 6 9 11 (Js a1) (HS.out _ HB.out) ?_;try simp only[M1,Pls]
 refine Till.tk 7 8 12 (Jp (Jo ⟨w.heap.size+1,1,Jn⟩)) (HS.out _ HB.out) ?_;try simp only[M1,Pls]
 refine Till.tk 8 9 13 (Js b1) (HS.out _ HB.out) ?_;try simp only[M1,Pls]
 refine Till.tk 10 11 15 (Jp (Jo ⟨w.heap.size,2,Jn⟩)) (HS.out _ HB.out) ?_;try simp only[M1,Pls]
 refine Till.tk 11 14 16 (Js a2) (HS.out _ HB.out) ?_;try simp only[M1,Pls]
 refine Till.tk 12 13 17 (Jp (Jo ⟨w.heap.size+1,2,Jn⟩)) (HS.out _ HB.out) ?_;try simp only[M1,Pls]
 refine Till.tk 13 14 18 (Js b2) (HS.out _ HB.out) ?_;try simp only[M1,Pls]
 refine Till.one (i:=4) (by kernel_rfl) rfl (fun K hK=>?_);go_simp;refine(HF0.out _).mono ?_;rintro e v1⟨rfl,g⟩;replace HB:=Lh (Jd HB.out g);clear g;go_wp2_with fail
 refine hK.out _ _ (fun _=>HS.out _ HB.out) ?_;clear hK K;try simp only[Pls]
 refine Till.one (i:=9) (by kernel_rfl) rfl (fun K hK=>?_);go_simp;refine(HF1.out _).mono ?_;rintro e v2⟨rfl,g⟩;replace HB:=Lh (Jd HB.out g);clear g;go_wp2_with fail
 refine hK.out _ _ (fun _=>HS.out _ HB.out) ?_;clear hK K;try simp only[Pls]
 refine Till.one (i:=14) (by kernel_rfl) rfl (fun K hK=>?_);go_simp;refine(HF2.out _).mono ?_;rintro e v3⟨rfl,g⟩;replace HB:=Lh (Jd HB.out g);have Cv:=V2.out.keep HB.out;have f0:v3.frozen? ⟨w.heap.size+1+1,0,Jn⟩=false:=Cv.fz 0;have k0:v3.cell? ⟨w.heap.size+1+1,0,Jn⟩=Jo (Js ⟨#[]⟩):=Cv.at_ 0;have f1:v3.frozen? ⟨w.heap.size+1+1,1,Jn⟩=false:=Cv.fz 1;have k1:v3.cell? ⟨w.heap.size+1+1,1,Jn⟩=Jo (Js ⟨#[]⟩):=Cv.at_ 1;have f2:v3.frozen? ⟨w.heap.size+1+1,2,Jn⟩=false:=Cv.fz 2;have k2:v3.cell? ⟨w.heap.size+1+1,2,Jn⟩=Jo (Js ⟨#[]⟩):=Cv.at_ 2;clear Cv;clear g;go_wp2_with fail
 refine hK.out _ _ (fun _=>HS.out _ HB.out) ?_;clear hK K;try simp only[Pls]
 refine Till.one (i:=15) (by kernel_rfl) rfl (fun K hK=>?_);go_simp;refine hK.out _ _ (fun _=>HS.out _ HB.out) ?_;clear hK K;try simp only[Pls]
 refine Till.one (i:=16) (by kernel_rfl) rfl (fun K hK=>?_);go_simp;refine hK.out _ _ (fun h=>absurd h (by simp)) ?_;clear hK K;try simp only[Pls]
 refine Till.done (by kernel_rfl) ?_ _;have Kf:=Lh ((((Jd K0.out HB.out).setCell (p:=⟨w.heap.size+1+1,0,Jn⟩) (show w.heap.size<=w.heap.size+1+1 by omega) (Js c0)).setCell (p:=⟨w.heap.size+1+1,1,Jn⟩) (show w.heap.size<=w.heap.size+1+1 by omega) (Js c1)).setCell (p:=⟨w.heap.size+1+1,2,Jn⟩) (show w.heap.size<=w.heap.size+1+1 by omega) (Js c2));go_wp2;exact bodyPost_ret (v:= .agg #[Js c0,Js c1,Js c2]) (by simp[results,Tryz.results26,go_sem,k0,k1,k2]) rfl ⟨rfl,Kf.out⟩
theorem WW(a0 a1 a2 c0 c1 c2:ByteArray)(w:JW)
  (h0:∀w',Calls Tryz.prog 73 #[Js a0] w' fun e w''=>e= .returned (Js c0)/\Below w'.heap.size w' w'')
  (h1:∀w',Calls Tryz.prog 73 #[Js a1] w' fun e w''=>e= .returned (Js c1)/\Below w'.heap.size w' w'')
  (h2:∀w',Calls Tryz.prog 73 #[Js a2] w' fun e w''=>e= .returned (Js c2)/\Below w'.heap.size w' w'') :
  Calls Tryz.prog 30 #[.agg #[Js a0,Js a1,Js a2]] w fun e w'=>e= .returned (.agg #[Js c0,Js c1,Js c2])/\Below w.heap.size w w':=by
 have kb:=((M0 w.heap.size w).alloc (M2 _) (Jc #[Js a0,Js a1,Js a2] 48)).alloc (by simp) (Jc #[Js ⟨#[]⟩,Js ⟨#[]⟩,Js ⟨#[]⟩] 48);have C0:=(Jg.new w #[Js a0,Js a1,Js a2] 48).keep ((M0 _ _).alloc (M2 _) (Jc #[Js ⟨#[]⟩,Js ⟨#[]⟩,Js ⟨#[]⟩] 48));have C1:=Jg.new (w.alloc (Jc #[Js a0,Js a1,Js a2] 48)) #[Js ⟨#[]⟩,Js ⟨#[]⟩,Js ⟨#[]⟩] 48;simp only[M3]at C1;have HF0:=Lh h0;have HF1:=Lh h1;have HF2:=Lh h2;obtain⟨W,hW⟩:∃u,((w.alloc (Jc #[Js a0,Js a1,Js a2] 48)).alloc (Jc #[Js ⟨#[]⟩,Js ⟨#[]⟩,Js ⟨#[]⟩] 48))=u:=⟨_,rfl⟩;rw[hW]at kb C0 C1;have K0:=Lh kb;have V0:=Lh (show Jg W (w.heap.size) _ from C0);have V1:=Lh (show Jg W (w.heap.size+1) _ from C1);have HS:=Lh (fun w' (hb:Below W.heap.size W w')=>(⟨(V0.out.keep hb).at_ 0,(V0.out.keep hb).at_ 1,(V0.out.keep hb).at_ 2⟩:w'.cell? ⟨w.heap.size,0,Jn⟩=Jo (Js a0)/\w'.cell? ⟨w.heap.size,1,Jn⟩=Jo (Js a1)/\w'.cell? ⟨w.heap.size,2,Jn⟩=Jo (Js a2)));clear kb h0 h1 h2 C0 C1;go_enter Tryz.func30,Tryz.ntmps30;go_upto_region 1 with fail
 try simp only[hW]
 clear hW;refine Till.begin 10 (fun w'=>w'.cell? ⟨w.heap.size,0,Jn⟩=Jo (Js a0)/\w'.cell? ⟨w.heap.size,1,Jn⟩=Jo (Js a1)/\w'.cell? ⟨w.heap.size,2,Jn⟩=Jo (Js a2)) (by kernel_rfl) (HS.out _ (M0 _ _).drew) (fun hH=>?_);clear hH;have HB:=Lh (M0 W.heap.size W).drew;generalize W.drew=v0 at HB ⊢;try simp only[Pls]
 refine Till.tk 0 1 3 (Jp (Jo ⟨w.heap.size,0,Jn⟩)) (HS.out _ HB.out) ?_;try simp only[M1,Pls]
 refine Till.tk 1 2 4 (Js a0) (HS.out _ HB.out) ?_;try simp only[M1,Pls]
 refine Till.tk 3 4 6 (Jp (Jo ⟨w.heap.size,1,Jn⟩)) (HS.out _ HB.out) ?_;try simp only[M1,Pls]
 refine Till.tk 4 5 7 (Js a1) (HS.out _ HB.out) ?_;try simp only[M1,Pls]
 refine Till.tk 6 7 9 (Jp (Jo ⟨w.heap.size,2,Jn⟩)) (HS.out _ HB.out) ?_;try simp only[M1,Pls]
 refine Till.tk 7 8 10 (Js a2) (HS.out _ HB.out) ?_;try simp only[M1,Pls]
 refine Till.one (i:=2) (by kernel_rfl) rfl (fun K hK=>?_);go_simp;refine(HF0.out _).mono ?_;rintro e v1⟨rfl,g⟩;replace HB:=Lh (Jd HB.out g);clear g;go_wp2_with fail
 refine hK.out _ _ (fun _=>HS.out _ HB.out) ?_;clear hK K;try simp only[Pls]
 refine Till.one (i:=5) (by kernel_rfl) rfl (fun K hK=>?_);go_simp;refine(HF1.out _).mono ?_;rintro e v2⟨rfl,g⟩;replace HB:=Lh (Jd HB.out g);clear g;go_wp2_with fail
 refine hK.out _ _ (fun _=>HS.out _ HB.out) ?_;clear hK K;try simp only[Pls]
 refine Till.one (i:=8) (by kernel_rfl) rfl (fun K hK=>?_);go_simp;refine(HF2.out _).mono ?_;rintro e v3⟨rfl,g⟩;replace HB:=Lh (Jd HB.out g);have Cv:=V1.out.keep HB.out;have f0:v3.frozen? ⟨w.heap.size+1,0,Jn⟩=false:=Cv.fz 0;have k0:v3.cell? ⟨w.heap.size+1,0,Jn⟩=Jo (Js ⟨#[]⟩):=Cv.at_ 0;have f1:v3.frozen? ⟨w.heap.size+1,1,Jn⟩=false:=Cv.fz 1;have k1:v3.cell? ⟨w.heap.size+1,1,Jn⟩=Jo (Js ⟨#[]⟩):=Cv.at_ 1;have f2:v3.frozen? ⟨w.heap.size+1,2,Jn⟩=false:=Cv.fz 2;have k2:v3.cell? ⟨w.heap.size+1,2,Jn⟩=Jo (Js ⟨#[]⟩):=Cv.at_ 2;clear Cv;clear g;go_wp2_with fail
 refine hK.out _ _ (fun _=>HS.out _ HB.out) ?_;clear hK K;try simp only[Pls]
 refine Till.one (i:=9) (by kernel_rfl) rfl (fun K hK=>?_);go_simp;refine hK.out _ _ (fun _=>HS.out _ HB.out) ?_;clear hK K;try simp only[Pls]
 refine Till.one (i:=10) (by kernel_rfl) rfl (fun K hK=>?_);go_simp;refine hK.out _ _ (fun h=>absurd h (by simp)) ?_;clear hK K;try simp only[Pls]
 refine Till.done (by kernel_rfl) ?_ _;have Kf:=Lh ((((Jd K0.out HB.out).setCell (p:=⟨w.heap.size+1,0,Jn⟩) (show w.heap.size<=w.heap.size+1 by omega) (Js c0)).setCell (p:=⟨w.heap.size+1,1,Jn⟩) (show w.heap.size<=w.heap.size+1 by omega) (Js c1)).setCell (p:=⟨w.heap.size+1,2,Jn⟩) (show w.heap.size<=w.heap.size+1 by omega) (Js c2));go_wp2;exact bodyPost_ret (v:= .agg #[Js c0,Js c1,Js c2]) (by simp[results,Tryz.results30,go_sem,k0,k1,k2]) rfl ⟨rfl,Kf.out⟩
theorem WT(a0 a1 a2 b0 b1 b2 n0 n1 n2 c0 c1 c2:ByteArray)(w:JW)
  (h0:∀w',Calls Tryz.prog 73 #[Js b0] w' fun e w''=>e= .returned (Js n0)/\Below w'.heap.size w' w'')
  (g0:∀w',Calls Tryz.prog 71 #[Js a0,Js n0] w' fun e w''=>e= .returned (Js c0)/\Below w'.heap.size w' w'')
  (h1:∀w',Calls Tryz.prog 73 #[Js b1] w' fun e w''=>e= .returned (Js n1)/\Below w'.heap.size w' w'')
  (g1:∀w',Calls Tryz.prog 71 #[Js a1,Js n1] w' fun e w''=>e= .returned (Js c1)/\Below w'.heap.size w' w'')
  (h2:∀w',Calls Tryz.prog 73 #[Js b2] w' fun e w''=>e= .returned (Js n2)/\Below w'.heap.size w' w'')
  (g2:∀w',Calls Tryz.prog 71 #[Js a2,Js n2] w' fun e w''=>e= .returned (Js c2)/\Below w'.heap.size w' w'') :
  Calls Tryz.prog 28 #[.agg #[Js a0,Js a1,Js a2],.agg #[Js b0,Js b1,Js b2]] w fun e w'=>e= .returned (.agg #[Js c0,Js c1,Js c2])/\Below w.heap.size w w':=by
 have kb:=(((M0 w.heap.size w).alloc (M2 _) (Jc #[Js a0,Js a1,Js a2] 48)).alloc (by simp) (Jc #[Js b0,Js b1,Js b2] 48)).alloc (by simp;omega) (Jc #[Js ⟨#[]⟩,Js ⟨#[]⟩,Js ⟨#[]⟩] 48);have C0:=((Jg.new w #[Js a0,Js a1,Js a2] 48).keep ((M0 _ _).alloc (M2 _) (Jc #[Js b0,Js b1,Js b2] 48))).keep ((M0 _ _).alloc (M2 _) (Jc #[Js ⟨#[]⟩,Js ⟨#[]⟩,Js ⟨#[]⟩] 48));have C1:=(Jg.new (w.alloc (Jc #[Js a0,Js a1,Js a2] 48)) #[Js b0,Js b1,Js b2] 48).keep ((M0 _ _).alloc (M2 _) (Jc #[Js ⟨#[]⟩,Js ⟨#[]⟩,Js ⟨#[]⟩] 48));have C2:=Jg.new ((w.alloc (Jc #[Js a0,Js a1,Js a2] 48)).alloc (Jc #[Js b0,Js b1,Js b2] 48)) #[Js ⟨#[]⟩,Js ⟨#[]⟩,Js ⟨#[]⟩] 48;simp only[M3]at C1 C2;have HN:=Lh (fun w'=>WW b0 b1 b2 n0 n1 n2 w' h0 h1 h2);have HA:=Lh (fun w'=>WX a0 a1 a2 n0 n1 n2 c0 c1 c2 w' g0 g1 g2);obtain⟨W,hW⟩:∃u,((w.alloc (Jc #[Js a0,Js a1,Js a2] 48)).alloc (Jc #[Js b0,Js b1,Js b2] 48)).alloc (Jc #[Js ⟨#[]⟩,Js ⟨#[]⟩,Js ⟨#[]⟩] 48)=u:=⟨_,rfl⟩;rw[hW]at kb C0 C1 C2;have K0:=Lh kb;have V0:=Lh C0;have V1:=Lh (show Jg W (w.heap.size+1) _ from C1);have V2:=Lh (show Jg W (w.heap.size+1+1) _ from C2);have HS:=Lh (fun w' (hb:Below W.heap.size W w')=>(⟨(V0.out.keep hb).at_ 0,(V0.out.keep hb).at_ 1,(V0.out.keep hb).at_ 2,(V1.out.keep hb).at_ 0,(V1.out.keep hb).at_ 1,(V1.out.keep hb).at_ 2⟩:w'.cell? ⟨w.heap.size,0,Jn⟩=Jo (Js a0)/\w'.cell? ⟨w.heap.size,1,Jn⟩=Jo (Js a1)/\w'.cell? ⟨w.heap.size,2,Jn⟩=Jo (Js a2)/\w'.cell? ⟨w.heap.size+1,0,Jn⟩=Jo (Js b0)/\w'.cell? ⟨w.heap.size+1,1,Jn⟩=Jo (Js b1)/\w'.cell? ⟨w.heap.size+1,2,Jn⟩=Jo (Js b2)))
 clear kb h0 h1 h2 g0 g1 g2 C0 C1 C2;go_enter Tryz.func28,Tryz.ntmps28;go_upto_region 1 with fail
 try simp only[hW]
 clear hW;refine Till.begin 4 (fun w'=>w'.cell? ⟨w.heap.size,0,Jn⟩=Jo (Js a0)/\w'.cell? ⟨w.heap.size,1,Jn⟩=Jo (Js a1)/\w'.cell? ⟨w.heap.size,2,Jn⟩=Jo (Js a2)/\w'.cell? ⟨w.heap.size+1,0,Jn⟩=Jo (Js b0)/\w'.cell? ⟨w.heap.size+1,1,Jn⟩=Jo (Js b1)/\w'.cell? ⟨w.heap.size+1,2,Jn⟩=Jo (Js b2)) (by kernel_rfl) (HS.out _ (M0 _ _).drew) (fun hH=>?_);clear hH;have HB:=Lh (M0 W.heap.size W).drew;generalize W.drew=v0 at HB ⊢;try simp only[Pls]
 refine Till.tk 0 3 5 (.agg #[Js a0,Js a1,Js a2]) (HS.out _ HB.out) ?_;try simp only[M1,Pls]
 refine Till.tk 1 2 6 (.agg #[Js b0,Js b1,Js b2]) (HS.out _ HB.out) ?_;try simp only[M1,Pls]
 refine Till.one (i:=2) (by kernel_rfl) rfl (fun K hK=>?_);go_simp;refine(HN.out _).mono ?_;rintro e v1⟨rfl,g⟩;replace HB:=Lh (Jd HB.out g);clear g;go_wp2_with fail
 refine hK.out _ _ (fun _=>HS.out _ HB.out) ?_;clear hK K;try simp only[Pls]
 refine Till.one (i:=3) (by kernel_rfl) rfl (fun K hK=>?_);go_simp;refine(HA.out _).mono ?_;rintro e v2⟨rfl,g⟩;replace HB:=Lh (Jd HB.out g);have Cv:=V2.out.keep HB.out;have f0:v2.frozen? ⟨w.heap.size+1+1,0,Jn⟩=false:=Cv.fz 0;have k0:v2.cell? ⟨w.heap.size+1+1,0,Jn⟩=Jo (Js ⟨#[]⟩):=Cv.at_ 0;have f1:v2.frozen? ⟨w.heap.size+1+1,1,Jn⟩=false:=Cv.fz 1;have k1:v2.cell? ⟨w.heap.size+1+1,1,Jn⟩=Jo (Js ⟨#[]⟩):=Cv.at_ 1;have f2:v2.frozen? ⟨w.heap.size+1+1,2,Jn⟩=false:=Cv.fz 2;have k2:v2.cell? ⟨w.heap.size+1+1,2,Jn⟩=Jo (Js ⟨#[]⟩):=Cv.at_ 2;clear Cv;clear g;go_wp2_with fail
 refine hK.out _ _ (fun _=>HS.out _ HB.out) ?_;clear hK K;try simp only[Pls]
 refine Till.one (i:=4) (by kernel_rfl) rfl (fun K hK=>?_);go_simp;refine hK.out _ _ (fun h=>absurd h (by simp)) ?_;clear hK K;try simp only[Pls]
 refine Till.done (by kernel_rfl) ?_ _;have Kf:=Lh ((((Jd K0.out HB.out).setCell (p:=⟨w.heap.size+1+1,0,Jn⟩) (show w.heap.size<=w.heap.size+1+1 by omega) (Js c0)).setCell (p:=⟨w.heap.size+1+1,1,Jn⟩) (show w.heap.size<=w.heap.size+1+1 by omega) (Js c1)).setCell (p:=⟨w.heap.size+1+1,2,Jn⟩) (show w.heap.size<=w.heap.size+1+1 by omega) (Js c2));go_wp2;exact bodyPost_ret (v:= .agg #[Js c0,Js c1,Js c2]) (by simp[results,Tryz.results28,go_sem,k0,k1,k2]) rfl ⟨rfl,Kf.out⟩
