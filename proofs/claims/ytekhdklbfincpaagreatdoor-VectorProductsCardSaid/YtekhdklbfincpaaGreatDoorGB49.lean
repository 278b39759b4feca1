/- GB49: Vst5v Vof -/
import Derived.Test.YtekhdklbfincpaaGreatDoorGB48
import Derived.Test.YtekhdklbfincpaaGreatDoorGB44
import Derived.Test.YtekhdklbfincpaaGreatDoorGB33
import Derived.Test.YtekhdklbfincpaaGreatDoorGB26
set_option maxRecDepth 100000
set_option maxHeartbeats 16000000
namespace Go.Proofs.YtekhdklbfincpaaGreatDoor
open Go.Value renaming int→Ji,string→Js
open Go.IntKind renaming i64→Jl
open _root_.Option renaming none→Jn
open Go.Act renaming put→M0
open _root_.Nat renaming le_succ→M1,le_refl→M2
open Go.RowKit
theorem Nz{wb v W:World}{p0 p1 p2 p3 p4:Nat}{x0 y0 z0:R4}{i0 j0 l0:Rat}{x1 y1 z1:R4}{i1 j1 l1:Rat}{x2 y2 z2:R4}{i2 j2 l2:Rat}{x3 y3 z3:R4}{i3 j3 l3:Rat}{x4 y4 z4:R4}{i4 j4 l4:Rat}(h0:Jg v p0 (flat [Jm,Jm,Jm]))(v0:VecV v x0 y0 z0 i0 j0 l0)(h1:Jg v p1 (flat [Jm,Jm,Jm]))(v1:VecV v x1 y1 z1 i1 j1 l1)(h2:Jg v p2 (flat [Jm,Jm,Jm]))(v2:VecV v x2 y2 z2 i2 j2 l2)(h3:Jg v p3 (flat [Jm,Jm,Jm]))(v3:VecV v x3 y3 z3 i3 j3 l3)(h4:Jg v p4 (flat [Jm,Jm,Jm]))(v4:VecV v x4 y4 z4 i4 j4 l4)(n0_1:p0≠p1)(n0_2:p0≠p2)(n0_3:p0≠p3)(n0_4:p0≠p4)(n1_2:p1≠p2)(n1_3:p1≠p3)(n1_4:p1≠p4)(n2_3:p2≠p3)(n2_4:p2≠p4)(n3_4:p3≠p4)(hb:Below wb.heap.size wb v)(l0_:wb.heap.size<=p0)(l1_:wb.heap.size<=p1)(l2_:wb.heap.size<=p2)(l3_:wb.heap.size<=p3)(l4_:wb.heap.size<=p4)(hW:put12 (put12 (put12 (put12 (put12 v p0 x0 y0 z0) p1 x1 y1 z1) p2 x2 y2 z2) p3 x3 y3 z3) p4 x4 y4 z4=W) :
  VarV W p0 x0 y0 z0 i0 j0 l0/\VarV W p1 x1 y1 z1 i1 j1 l1/\VarV W p2 x2 y2 z2 i2 j2 l2/\VarV W p3 x3 y3 z3 i3 j3 l3/\VarV W p4 x4 y4 z4 i4 j4 l4/\Below wb.heap.size wb W:=by
 have e0:=Jx v p0 x0 y0 z0;have o0:=VarV.put h0 v0;have q0:=Jr hb l0_ x0 y0 z0;obtain⟨m0,g0⟩:∃u,put12 v p0 x0 y0 z0=u:=⟨_,rfl⟩;rw[g0]at e0 o0 q0 hW;have h1_0:=h1.same n0_1.symm e0.1 e0.2;have v1_0:VecV m0 x1 y1 z1 i1 j1 l1:=v1.wrote h0 e0.1 e0.2;have h2_0:=h2.same n0_2.symm e0.1 e0.2;have v2_0:VecV m0 x2 y2 z2 i2 j2 l2:=v2.wrote h0 e0.1 e0.2;have h3_0:=h3.same n0_3.symm e0.1 e0.2;have v3_0:VecV m0 x3 y3 z3 i3 j3 l3:=v3.wrote h0 e0.1 e0.2;have h4_0:=h4.same n0_4.symm e0.1 e0.2;have v4_0:VecV m0 x4 y4 z4 i4 j4 l4:=v4.wrote h0 e0.1 e0.2;have e1:=Jx m0 p1 x1 y1 z1;have o1:=VarV.put h1_0 v1_0;have q1:=Jr q0 l1_ x1 y1 z1;obtain⟨m1,g1⟩:∃u,put12 m0 p1 x1 y1 z1=u:=⟨_,rfl⟩;rw[g1]at e1 o1 q1 hW;have o0_1:VarV m1 p0 x0 y0 z0 i0 j0 l0:=⟨o0.cells.same n0_1 e1.1 e1.2,o0.vec.wrote h1_0 e1.1 e1.2⟩;have h2_1:=h2_0.same n1_2.symm e1.1 e1.2;have v2_1:VecV m1 x2 y2 z2 i2 j2 l2:=v2_0.wrote h1_0 e1.1 e1.2;have h3_1:=h3_0.same n1_3.symm e1.1 e1.2;have v3_1:VecV m1 x3 y3 z3 i3 j3 l3:=v3_0.wrote h1_0 e1.1 e1.2;have h4_1:=h4_0.same n1_4.symm e1.1 e1.2;have v4_1:VecV m1 x4 y4 z4 i4 j4 l4:=v4_0.wrote h1_0 e1.1 e1.2;have e2:=Jx m1 p2 x2 y2 z2;have o2:=VarV.put h2_1 v2_1;have q2:=Jr q1 l2_ x2 y2 z2;obtain⟨m2,g2⟩:∃u,put12 m1 p2 x2 y2 z2=u:=⟨_,rfl⟩;rw[g2]at e2 o2 q2 hW;have o0_2:VarV m2 p0 x0 y0 z0 i0 j0 l0:=⟨o0_1.cells.same n0_2 e2.1 e2.2,o0_1.vec.wrote h2_1 e2.1 e2.2⟩;have o1_2:VarV m2 p1 x1 y1 z1 i1 j1 l1:=⟨o1.cells.same n1_2 e2.1 e2.2,o1.vec.wrote h2_1 e2.1 e2.2⟩;have h3_2:=h3_1.same n2_3.symm e2.1 e2.2;have v3_2:VecV m2 x3 y3 z3 i3 j3 l3:=v3_1.wrote h2_1 e2.1 e2.2
 have h4_2:=h4_1.same n2_4.symm e2.1 e2.2;have v4_2:VecV m2 x4 y4 z4 i4 j4 l4:=v4_1.wrote h2_1 e2.1 e2.2;have e3:=Jx m2 p3 x3 y3 z3;have o3:=VarV.put h3_2 v3_2;have q3:=Jr q2 l3_ x3 y3 z3;obtain⟨m3,g3⟩:∃u,put12 m2 p3 x3 y3 z3=u:=⟨_,rfl⟩;rw[g3]at e3 o3 q3 hW;have o0_3:VarV m3 p0 x0 y0 z0 i0 j0 l0:=⟨o0_2.cells.same n0_3 e3.1 e3.2,o0_2.vec.wrote h3_2 e3.1 e3.2⟩;have o1_3:VarV m3 p1 x1 y1 z1 i1 j1 l1:=⟨o1_2.cells.same n1_3 e3.1 e3.2,o1_2.vec.wrote h3_2 e3.1 e3.2⟩;have o2_3:VarV m3 p2 x2 y2 z2 i2 j2 l2:=⟨o2.cells.same n2_3 e3.1 e3.2,o2.vec.wrote h3_2 e3.1 e3.2⟩;have h4_3:=h4_2.same n3_4.symm e3.1 e3.2;have v4_3:VecV m3 x4 y4 z4 i4 j4 l4:=v4_2.wrote h3_2 e3.1 e3.2;have e4:=Jx m3 p4 x4 y4 z4;have o4:=VarV.put h4_3 v4_3;have q4:=Jr q3 l4_ x4 y4 z4;obtain⟨m4,g4⟩:∃u,put12 m3 p4 x4 y4 z4=u:=⟨_,rfl⟩;rw[g4]at e4 o4 q4 hW;have o0_4:VarV m4 p0 x0 y0 z0 i0 j0 l0:=⟨o0_3.cells.same n0_4 e4.1 e4.2,o0_3.vec.wrote h4_3 e4.1 e4.2⟩;have o1_4:VarV m4 p1 x1 y1 z1 i1 j1 l1:=⟨o1_3.cells.same n1_4 e4.1 e4.2,o1_3.vec.wrote h4_3 e4.1 e4.2⟩;have o2_4:VarV m4 p2 x2 y2 z2 i2 j2 l2:=⟨o2_3.cells.same n2_4 e4.1 e4.2,o2_3.vec.wrote h4_3 e4.1 e4.2⟩;have o3_4:VarV m4 p3 x3 y3 z3 i3 j3 l3:=⟨o3.cells.same n3_4 e4.1 e4.2,o3.vec.wrote h4_3 e4.1 e4.2⟩;subst hW;exact⟨o0_4,o1_4,o2_4,o3_4,o4,q4⟩
theorem Lu(z:Int):sgn (-z)=0-sgn z:=by
 unfold sgn
 split <;> split <;> first|omega|(split <;> omega)|(split <;> first|omega|(split <;> omega))
theorem FY(z:Int):-1<=sgn z/\sgn z<=1:=by
 unfold sgn
 split <;> first|omega|(split <;> omega)
theorem Z1{x y:Rat}(h:y=-x):sgn y.num=0-sgn x.num:=by rw[h,Rat.neg_num];exact Lu _
theorem EJ(a0 a1 a2 b0 b1 b2 c0 c1 c2 d0 d1 d2:Rat):-1<=oriQ a0 a1 a2 b0 b1 b2 c0 c1 c2 d0 d1 d2/\oriQ a0 a1 a2 b0 b1 b2 c0 c1 c2 d0 d1 d2<=1:=FY _
theorem NS(a0 a1 a2 b0 b1 b2 c0 c1 c2 d0 d1 d2:Rat):oriQ b0 b1 b2 a0 a1 a2 c0 c1 c2 d0 d1 d2=0-oriQ a0 a1 a2 b0 b1 b2 c0 c1 c2 d0 d1 d2:=Z1 (by unfold detQ;grind)
theorem NQ(a0 a1 a2 b0 b1 b2 c0 c1 c2 d0 d1 d2:Rat):oriQ a0 a1 a2 b0 b1 b2 d0 d1 d2 c0 c1 c2=0-oriQ a0 a1 a2 b0 b1 b2 c0 c1 c2 d0 d1 d2:=Z1 (by unfold detQ;grind)
theorem NR(a0 a1 a2 b0 b1 b2 c0 c1 c2 d0 d1 d2:Rat):oriQ d0 d1 d2 b0 b1 b2 c0 c1 c2 a0 a1 a2=0-oriQ a0 a1 a2 b0 b1 b2 c0 c1 c2 d0 d1 d2:=Z1 (by unfold detQ;grind)
theorem EI(a0 a1 a2 b0 b1 b2 c0 c1 c2 d0 d1 d2 h0 h1 h2:Rat):oriQ (a0+h0) (a1+h1) (a2+h2) (b0+h0) (b1+h1) (b2+h2) (c0+h0) (c1+h1) (c2+h2) (d0+h0) (d1+h1) (d2+h2)=oriQ a0 a1 a2 b0 b1 b2 c0 c1 c2 d0 d1 d2:=by
 have e:∀x y z:Rat,x+z-(y+z)=x-y:=fun x y z=>by grind
 unfold oriQ;simp only[e]
theorem Gi(n0 n1 n2:Int)(w:World)(h0:I64 n0)(h1:I64 n1)(h2:I64 n2):Calls Tryz.prog 19 #[.agg #[Ji Jl n0,Ji Jl n1,Ji Jl n2]] w fun e w'=>e= .returned (.agg #[Js (txt n0),Js (txt n1),Js (txt n2)])/\Below w.heap.size w w':=by
 have kb:=((Below.refl w.heap.size w).alloc (M2 _) (.cells #[Ji Jl n0,Ji Jl n1,Ji Jl n2] 40)).alloc (by simp) (.cells #[Js ⟨#[]⟩,Js ⟨#[]⟩,Js ⟨#[]⟩] 48);have C0:=(Jg.new w #[Ji Jl n0,Ji Jl n1,Ji Jl n2] 40).keep ((Below.refl _ _).alloc (M2 _) (.cells #[Js ⟨#[]⟩,Js ⟨#[]⟩,Js ⟨#[]⟩] 48));have C1:=Jg.new (w.alloc (.cells #[Ji Jl n0,Ji Jl n1,Ji Jl n2] 40)) #[Js ⟨#[]⟩,Js ⟨#[]⟩,Js ⟨#[]⟩] 48;simp only[World.size_alloc]at C1;have HF0:=fun w'=>(show Calls Tryz.prog 64 #[Ji Jl n0] w' (fun e w''=>e= .returned (Js (txt n0))/\Below w'.heap.size w' w'')from UJ n0 w' h0);have HF1:=fun w'=>(show Calls Tryz.prog 64 #[Ji Jl n1] w' (fun e w''=>e= .returned (Js (txt n1))/\Below w'.heap.size w' w'')from UJ n1 w' h1);have HF2:=fun w'=>(show Calls Tryz.prog 64 #[Ji Jl n2] w' (fun e w''=>e= .returned (Js (txt n2))/\Below w'.heap.size w' w'')from UJ n2 w' h2);generalize txt n0=s0 at *
 generalize txt n1=s1 at *
 generalize txt n2=s2 at *
 have HF0:=Lh HF0;have HF1:=Lh HF1;have HF2:=Lh HF2;obtain⟨W,hW⟩:∃u,(w.alloc (.cells #[Ji Jl n0,Ji Jl n1,Ji Jl n2] 40)).alloc (.cells #[Js ⟨#[]⟩,Js ⟨#[]⟩,Js ⟨#[]⟩] 48)=u:=⟨_,rfl⟩;rw[hW]at kb C0 C1;have K0:=Lh kb;have V0:=Lh C0;have V1:=Lh (show Jg W (w.heap.size+1) [Js ⟨#[]⟩,Js ⟨#[]⟩,Js ⟨#[]⟩]from C1);have HS:=Lh (fun w' (hb:Below W.heap.size W w')=>(⟨(V0.out.keep hb).at_ 0,(V0.out.keep hb).at_ 1,(V0.out.keep hb).at_ 2⟩:w'.cell? ⟨w.heap.size,0,Jn⟩=some (Ji Jl n0)/\w'.cell? ⟨w.heap.size,1,Jn⟩=some (Ji Jl n1)/\w'.cell? ⟨w.heap.size,2,Jn⟩=some (Ji Jl n2)));clear kb C0 C1 h0 h1 h2;go_enter Tryz.func19,Tryz.ntmps19;go_upto_region 1 with fail
 try simp only[hW]
 clear hW;refine Till.begin 10 (fun w'=>w'.cell? ⟨w.heap.size,0,Jn⟩=some (Ji Jl n0)/\w'.cell? ⟨w.heap.size,1,Jn⟩=some (Ji Jl n1)/\w'.cell? ⟨w.heap.size,2,Jn⟩=some (Ji Jl n2)) (by kernel_rfl) (HS.out _ (Below.refl _ _).drew) (fun hH=>?_);clear hH;have HB:=Lh (Below.refl W.heap.size W).drew;generalize W.drew=v0 at HB ⊢;try simp only[Pls]
 refine Till.tk 0 1 3 (.pointer (some ⟨w.heap.size,0,Jn⟩)) (HS.out _ HB.out) ?_;try simp only[M0,Pls]
 refine Till.tk 1 2 4 (Ji Jl n0) (HS.out _ HB.out) ?_;try simp only[M0,Pls]
 refine Till.tk 3 4 6 (.pointer (some ⟨w.heap.size,1,Jn⟩)) (HS.out _ HB.out) ?_;try simp only[M0,Pls]
 refine Till.tk 4 5 7 (Ji Jl n1) (HS.out _ HB.out) ?_;try simp only[M0,Pls]
 refine Till.tk 6 7 9 (.pointer (some ⟨w.heap.size,2,Jn⟩)) (HS.out _ HB.out) ?_;try simp only[M0,Pls]
 refine Till.tk 7 8 10 (Ji Jl n2) (HS.out _ HB.out) ?_;try simp only[M0,Pls]
 refine Till.one (i:=2) (by kernel_rfl) rfl (fun K hK=>?_);go_simp;refine(HF0.out _).mono ?_;rintro e v1⟨rfl,g⟩;replace HB:=Lh (Jd HB.out g);clear g;go_wp2_with fail
 refine hK.out _ _ (fun _=>HS.out _ HB.out) ?_;clear hK K;try simp only[Pls]
 refine Till.one (i:=5) (by kernel_rfl) rfl (fun K hK=>?_);go_simp;refine(HF1.out _).mono ?_;rintro e v2⟨rfl,g⟩;replace HB:=Lh (Jd HB.out g);clear g;go_wp2_with fail
 refine hK.out _ _ (fun _=>HS.out _ HB.out) ?_;clear hK K;try simp only[Pls]
 refine Till.one (i:=8) (by kernel_rfl) rfl (fun K hK=>?_);go_simp;refine(HF2.out _).mono ?_;rintro e v3⟨rfl,g⟩;replace HB:=Lh (Jd HB.out g);have Cv:=V1.out.keep HB.out;have f0:v3.frozen? ⟨w.heap.size+1,0,Jn⟩=false:=Cv.fz 0;have k0:v3.cell? ⟨w.heap.size+1,0,Jn⟩=some (Js ⟨#[]⟩):=Cv.at_ 0;have f1:v3.frozen? ⟨w.heap.size+1,1,Jn⟩=false:=Cv.fz 1;have k1:v3.cell? ⟨w.heap.size+1,1,Jn⟩=some (Js ⟨#[]⟩):=Cv.at_ 1;have f2:v3.frozen? ⟨w.heap.size+1,2,Jn⟩=false:=Cv.fz 2;have k2:v3.cell? ⟨w.heap.size+1,2,Jn⟩=some (Js ⟨#[]⟩):=Cv.at_ 2;clear Cv;clear g;go_wp2_with fail
 refine hK.out _ _ (fun _=>HS.out _ HB.out) ?_;clear hK K;try simp only[Pls]
 refine Till.one (i:=9) (by kernel_rfl) rfl (fun K hK=>?_);go_simp;refine hK.out _ _ (fun _=>HS.out _ HB.out) ?_;clear hK K;try simp only[Pls]
 refine Till.one (i:=10) (by kernel_rfl) rfl (fun K hK=>?_);go_simp;refine hK.out _ _ (fun h=>absurd h (by simp)) ?_;clear hK K;try simp only[Pls]
 refine Till.done (by kernel_rfl) ?_ _;have Kf:=Lh ((((Jd K0.out HB.out).setCell (p:=⟨w.heap.size+1,0,Jn⟩) (M1 _) (Js s0)).setCell (p:=⟨w.heap.size+1,1,Jn⟩) (M1 _) (Js s1)).setCell (p:=⟨w.heap.size+1,2,Jn⟩) (M1 _) (Js s2));go_wp2;exact bodyPost_ret (v:= .agg #[Js s0,Js s1,Js s2]) (by simp[results,Tryz.results19,go_sem,k0,k1,k2]) rfl ⟨rfl,Kf.out⟩
theorem Ui{n:Int}(h:I64 n):Few ((n:Int):Rat) 20:=⟨by rw[Rat.num_intCast];have:=h.1;have:=h.2;show n.natAbs<100000000000000000000;omega,by rw[Rat.den_intCast];decide⟩
