/- The law TwistVelocities. -/
import Derived.Test.YthhobhjcnmmipaaGreatDoorKTwi
set_option maxRecDepth 100000
set_option maxHeartbeats 16000000
namespace Go.Proofs.YthhobhjcnmmipaaGreatDoor
open Go.Value renaming pointer→Jp,int→Ji
open Go.IntKind renaming i64→Jl
open Go.Obj renaming cells→Jc
open _root_.Option renaming none→Jn
open Go.RowKit
theorem Du{n0 n1 n2 n3 n4 n5 d r x0 x1 x2:Int}{w:World}(s1:S6 n0 n1 n2 n3 n4 n5 d r)(q0:I8 x0)(q1:I8 x1)(q2:I8 x2)(hg:Good w) :
  Calls Tryz.prog 4 #[.agg #[Ji .i8 n0,Ji .i8 n1,Ji .i8 n2,Ji .i8 n3,Ji .i8 n4,Ji .i8 n5,Ji .u8 d],.agg #[Ji .i8 x0,Ji .i8 x1,Ji .i8 x2]] w (Ret w (Fct.val (.bool true))):=by
 obtain⟨a0,ha0⟩:∃q,tq n0 r=q:=⟨_,rfl⟩;obtain⟨a1,ha1⟩:∃q,tq n1 r=q:=⟨_,rfl⟩;obtain⟨a2,ha2⟩:∃q,tq n2 r=q:=⟨_,rfl⟩;obtain⟨a3,ha3⟩:∃q,tq n3 r=q:=⟨_,rfl⟩;obtain⟨a4,ha4⟩:∃q,tq n4 r=q:=⟨_,rfl⟩;obtain⟨a5,ha5⟩:∃q,tq n5 r=q:=⟨_,rfl⟩;have Ha:=fun(v:World) (hg:Good v)=>c_of (w:=v) s1 hg;rw[ha0,ha1,ha2,ha3,ha4,ha5]at Ha;replace Ha:=Lh Ha;have H3a:=fun(v:World) (hg:Good v)=>FU (w:=v) s1 hg;rw[ha3,ha4,ha5]at H3a;replace H3a:=Lh H3a;have JJa:=fun(v:World) (hg:Good v)=>FV (w:=v) s1 hg;rw[ha0,ha1,ha2]at JJa;replace JJa:=Lh JJa;have WWa:=fun(v:World) (hg:Good v)=>FM (w:=v) s1 hg;rw[ha0,ha1,ha2,ha3,ha4,ha5]at WWa;replace WWa:=Lh WWa;obtain⟨xq0,hxq0⟩:∃q,((x0:Int):Rat)=q:=⟨_,rfl⟩;obtain⟨xq1,hxq1⟩:∃q,((x1:Int):Rat)=q:=⟨_,rfl⟩;obtain⟨xq2,hxq2⟩:∃q,((x2:Int):Rat)=q:=⟨_,rfl⟩;have Hx:=fun(v:World) (hg:Good v)=>DL (w:=v) q0 q1 q2 hg;rw[hxq0,hxq1,hxq2]at Hx;replace Hx:=Lh Hx;have E0:a3+(0*xq2-0*xq1)=a3:=by grind
 have E1:a4+(0*xq0-0*xq2)=a4:=by grind
 have E2:a5+(0*xq1-0*xq0)=a5:=by grind
 clear s1 ha0 ha1 ha2 ha3 ha4 ha5 hxq0 hxq1 hxq2;have k0:=(Below.refl w.heap.size w).alloc (Nat.le_refl _) (Jc #[Ji .i8 n0,Ji .i8 n1,Ji .i8 n2,Ji .i8 n3,Ji .i8 n4,Ji .i8 n5,Ji .u8 d] 53);have k1:=k0.alloc (by simp) (Jc #[Ji .i8 x0,Ji .i8 x1,Ji .i8 x2] 54);have V0:=Jh.new w #[Ji .i8 n0,Ji .i8 n1,Ji .i8 n2,Ji .i8 n3,Ji .i8 n4,Ji .i8 n5,Ji .u8 d] 53;have V1:=Jh.new (w.alloc (Jc #[Ji .i8 n0,Ji .i8 n1,Ji .i8 n2,Ji .i8 n3,Ji .i8 n4,Ji .i8 n5,Ji .u8 d] 53)) #[Ji .i8 x0,Ji .i8 x1,Ji .i8 x2] 54;have j1:=(Below.refl (w.alloc (Jc #[Ji .i8 n0,Ji .i8 n1,Ji .i8 n2,Ji .i8 n3,Ji .i8 n4,Ji .i8 n5,Ji .u8 d] 53)).heap.size (w.alloc (Jc #[Ji .i8 n0,Ji .i8 n1,Ji .i8 n2,Ji .i8 n3,Ji .i8 n4,Ji .i8 n5,Ji .u8 d] 53))).alloc (Nat.le_refl _) (Jc #[Ji .i8 x0,Ji .i8 x1,Ji .i8 x2] 54);replace V0:=(V0.keep j1);simp only[World.size_alloc]at V0 V1;obtain⟨W,hW⟩:∃W,(w.alloc (Jc #[Ji .i8 n0,Ji .i8 n1,Ji .i8 n2,Ji .i8 n3,Ji .i8 n4,Ji .i8 n5,Ji .u8 d] 53)).alloc (Jc #[Ji .i8 x0,Ji .i8 x1,Ji .i8 x2] 54)=W:=⟨_,rfl⟩;rw[hW]at k1 V0 V1;replace V0:=Lh (fun w' (hb:Below W.heap.size W w')=>(V0.keep hb));replace V1:=Lh (fun w' (hb:Below W.heap.size W w')=>(V1.keep hb));have K:=Lh k1;have G:=Lh (fun w' (hb:Below W.heap.size W w')=>hg.below (k1.trans (hb.mono k1.size)));clear hg k0 k1 j1;go_enter Tryz.func4,Tryz.ntmps4;go_upto_region 1 with fail
 try simp only[hW]
 clear hW;refine E8 35 [(7,false,0),(8,false,0)] []
  [Fct.val (.bool true),
  Fct.val (.bool false)]
  0 rfl (by kernel_rfl) rfl ⟨?_,?_,trivial⟩
  (fun val0=>⟨#[.agg #[Ji .i8 n0,Ji .i8 n1,Ji .i8 n2,Ji .i8 n3,Ji .i8 n4,Ji .i8 n5,Ji .u8 d],.agg #[Ji .i8 x0,Ji .i8 x1,Ji .i8 x2],Jp (some ⟨w.heap.size,0,Jn⟩),Jp (some ⟨w.heap.size+1,0,Jn⟩),.bool false,undef,undef,val0 7,val0 8,undef,undef,undef,undef,undef,undef,undef,undef,undef,undef,undef,undef,undef,undef,undef,undef,undef,undef,undef,undef,undef,undef,undef,undef,undef,undef],[]⟩) (fun val0=>by kernel_rfl) (fun val0 W0 hB hF=>⟨?_⟩)
 ·exact EZ cf13 rfl rfl rfl rfl rfl (by kernel_rfl) (fun a v hB hE hD=>FG (G.out v hB))
 ·exact Fm (op:= .unOp .not 4 (.tmp 7)) rfl rfl (fun _=>rfl) (.dep 0 rfl (by kernel_rfl)) rfl (by kernel_rfl) (fun a w e=>by unfold execOp bare;dsimp only;rw[e];go_simp <;> rfl)
 have e7:val0 7= .bool true:=hF 0 _ rfl;have e8:val0 8= .bool false:=hF 1 _ rfl;clear hF;generalize val0 7=t7 at *
 generalize val0 8=t8 at *
 subst e7 e8;replace V0:=Lh (fun w' (hb:Below W0.heap.size W0 w')=>V0.out w' (Jd hB hb));replace V1:=Lh (fun w' (hb:Below W0.heap.size W0 w')=>V1.out w' (Jd hB hb));replace K:=Lh (Jd K.out hB);replace G:=Lh (fun w' (hb:Below W0.heap.size W0 w')=>G.out w' (Jd hB hb));clear hB;refine Last.nil (by kernel_rfl) ?_;go_upto_region 3 with fail
 refine Fy 35 [(9,false,0),(10,false,0),(11,false,0),(12,false,0),(5,false,0),(6,false,0),(5,true,4),(6,true,5)] [4,5]
  [Fct.val (.agg #[Ji .i8 n0,Ji .i8 n1,Ji .i8 n2,Ji .i8 n3,Ji .i8 n4,Ji .i8 n5,Ji .u8 d]),
  Fct.num [] 4 [a0,a1,a2,a3,a4,a5],
  Fct.val (.agg #[Ji .i8 x0,Ji .i8 x1,Ji .i8 x2]),
  Fct.num [] 3 [xq0,xq1,xq2],
  Fct.ptr 24,
  Fct.ptr 12,
  Fct.var [] 4 [a0,a1,a2,a3,a4,a5],
  Fct.var [] 3 [xq0,xq1,xq2]]
  #[true,true,true,true,true,true,true,true] 0 rfl (by kernel_rfl) rfl (by kernel_rfl) ⟨?_,?_,?_,?_,?_,?_,?_,?_,trivial⟩
  (fun val1=>⟨#[.agg #[Ji .i8 n0,Ji .i8 n1,Ji .i8 n2,Ji .i8 n3,Ji .i8 n4,Ji .i8 n5,Ji .u8 d],.agg #[Ji .i8 x0,Ji .i8 x1,Ji .i8 x2],Jp (some ⟨w.heap.size,0,Jn⟩),Jp (some ⟨w.heap.size+1,0,Jn⟩),.bool false,val1 5,val1 6,.bool true,.bool false,val1 9,val1 10,val1 11,val1 12,undef,undef,undef,undef,undef,undef,undef,undef,undef,undef,undef,undef,undef,undef,undef,undef,undef,undef,undef,undef,undef,undef],[]⟩) (fun val1=>by kernel_rfl) (fun val1 W1 hB hF=>⟨?_⟩)
 ·exact Fk 7 V0.out (.env rfl (by kernel_rfl)) rfl rfl rfl (by kernel_rfl) (by kernel_rfl) rfl (by kernel_rfl)
 ·exact EZ cf21 rfl rfl rfl rfl rfl (by kernel_rfl) (fun a v hB hE hD=>(show Calls _ _ #[Act.at_ a 9] v _ from by rw[show Act.at_ a 9=_ from hD 0 _ (by kernel_rfl) rfl];exact Ha.out v (G.out v hB)))
 ·exact Fk 3 V1.out (.env rfl (by kernel_rfl)) rfl rfl rfl (by kernel_rfl) (by kernel_rfl) rfl (by kernel_rfl)
 ·exact EZ cf22 rfl rfl rfl rfl rfl (by kernel_rfl) (fun a v hB hE hD=>(show Calls _ _ #[Act.at_ a 11] v _ from by rw[show Act.at_ a 11=_ from hD 2 _ (by kernel_rfl) rfl];exact Hx.out v (G.out v hB)))
 ·exact Fb [Ji Jl 0,Jp Jn,Ji Jl 0,Jp Jn,Ji Jl 0,Jp Jn,Ji Jl 0,Jp Jn,Ji Jl 0,Jp Jn,Ji Jl 0,Jp Jn,Ji Jl 0,Jp Jn,Ji Jl 0,Jp Jn,Ji Jl 0,Jp Jn,Ji Jl 0,Jp Jn,Ji Jl 0,Jp Jn,Ji Jl 0,Jp Jn] 37 rfl rfl rfl (by kernel_rfl) (by kernel_rfl) (fun a w=>by go_simp)
 ·exact Fb [Ji Jl 0,Jp Jn,Ji Jl 0,Jp Jn,Ji Jl 0,Jp Jn,Ji Jl 0,Jp Jn,Ji Jl 0,Jp Jn,Ji Jl 0,Jp Jn] 35 rfl rfl rfl (by kernel_rfl) (by kernel_rfl) (fun a w=>by go_simp)
 ·exact E9 4 1 rfl rfl rfl rfl rfl (by kernel_rfl) (by kernel_rfl)
 ·exact E9 5 3 rfl rfl rfl rfl rfl (by kernel_rfl) (by kernel_rfl)
 obtain⟨p5,e5,V5⟩:(Fct.var [] 4 [a0,a1,a2,a3,a4,a5]).P W1 (val1 5):=hF 6 _ rfl;obtain⟨p6,e6,V6⟩:(Fct.var [] 3 [xq0,xq1,xq2]).P W1 (val1 6):=hF 7 _ rfl;clear hF;generalize val1 5=t5 at *
 generalize val1 6=t6 at *
 subst e5 e6;replace V0:=Lh (fun w' (hb:Below W1.heap.size W1 w')=>V0.out w' (Jd hB hb));replace V1:=Lh (fun w' (hb:Below W1.heap.size W1 w')=>V1.out w' (Jd hB hb));replace V5:=Lh (fun w' (hb:Below W1.heap.size W1 w')=>V5.keep hb);replace V6:=Lh (fun w' (hb:Below W1.heap.size W1 w')=>V6.keep hb);replace K:=Lh (Jd K.out hB);replace G:=Lh (fun w' (hb:Below W1.heap.size W1 w')=>G.out w' (Jd hB hb));clear hB;refine Last.nil (by kernel_rfl) ?_;go_upto_region 4 with fail
 refine Fy 35 [(13,false,0),(14,false,0),(15,false,0),(16,false,0),(17,false,0),(18,false,0),(19,false,0),(20,false,0),(21,false,0),(22,false,0),(23,false,0),(24,false,0),(25,false,0),(26,false,0),(27,false,0),(28,false,0),(29,false,0),(30,false,0),(31,false,0),(32,false,0),(33,false,0),(34,false,0),(4,false,0)] []
  [Fct.num [] 4 [a0,a1,a2,a3,a4,a5],
  Fct.num [] 3 [xq0,xq1,xq2],
  Fct.num [] 20 [a3+(a1*xq2-a2*xq1),a4+(a2*xq0-a0*xq2),a5+(a0*xq1-a1*xq0)],
  Fct.num [] 4 [a0,a1,a2,a3,a4,a5],
  Fct.num [] 3 [xq0,xq1,xq2],
  Fct.num [] 20 [a3+(a1*xq2-a2*xq1),a4+(a2*xq0-a0*xq2),a5+(a0*xq1-a1*xq0)],
  Fct.val (.bool true),
  Fct.val (.bool true),
  Fct.val (.agg #[Ji .i8 n0,Ji .i8 n1,Ji .i8 n2,Ji .i8 n3,Ji .i8 n4,Ji .i8 n5,Ji .u8 d]),
  Fct.num [] 4 [a3,a4,a5],
  Fct.num [] 4 [0,0,0,a3,a4,a5],
  Fct.num [] 3 [xq0,xq1,xq2],
  Fct.num [] 20 [a3+(0*xq2-0*xq1),a4+(0*xq0-0*xq2),a5+(0*xq1-0*xq0)],
  Fct.val (.agg #[Ji .i8 n0,Ji .i8 n1,Ji .i8 n2,Ji .i8 n3,Ji .i8 n4,Ji .i8 n5,Ji .u8 d]),
  Fct.num [] 4 [a3,a4,a5],
  Fct.val (.bool true),
  Fct.val (.bool true),
  Fct.val (.bool true),
  Fct.num [] 1 [0,0,0],
  Fct.num [] 1 [0,0,0,0,0,0],
  Fct.val (.bool true),
  Fct.val (.bool true),
  Fct.val (.bool true)]
  #[true,true,true,true,true,true,true,true,true,true,true,true,true,true,true,true,true,true,true,true,true,true,true] 0 rfl (by kernel_rfl) rfl (by kernel_rfl) ⟨?_,?_,?_,?_,?_,?_,?_,?_,?_,?_,?_,?_,?_,?_,?_,?_,?_,?_,?_,?_,?_,?_,?_,trivial⟩
  (fun val2=>⟨#[.agg #[Ji .i8 n0,Ji .i8 n1,Ji .i8 n2,Ji .i8 n3,Ji .i8 n4,Ji .i8 n5,Ji .u8 d],.agg #[Ji .i8 x0,Ji .i8 x1,Ji .i8 x2],Jp (some ⟨w.heap.size,0,Jn⟩),Jp (some ⟨w.heap.size+1,0,Jn⟩),val2 4,Jp (some ⟨p5,0,Jn⟩),Jp (some ⟨p6,0,Jn⟩),.bool true,.bool false,val1 9,val1 10,val1 11,val1 12,val2 13,val2 14,val2 15,val2 16,val2 17,val2 18,val2 19,val2 20,val2 21,val2 22,val2 23,val2 24,val2 25,val2 26,val2 27,val2 28,val2 29,val2 30,val2 31,val2 32,val2 33,val2 34],[]⟩) (fun val2=>by kernel_rfl) (fun val2 W2 hB hF=>⟨?_⟩)
 ·exact E7 V5.out (.env rfl (by kernel_rfl)) rfl rfl rfl (by kernel_rfl) (by kernel_rfl)
 ·exact E7 V6.out (.env rfl (by kernel_rfl)) rfl rfl rfl (by kernel_rfl) (by kernel_rfl)
 ·exact EZ cf24 rfl rfl rfl rfl rfl (by kernel_rfl) (fun a v hB hE hD=>Dq (hD 0 _ (by kernel_rfl) rfl) (hD 1 _ (by kernel_rfl) rfl) (by kernel_rfl) (G.out v hB))
 ·exact E7 V5.out (.env rfl (by kernel_rfl)) rfl rfl rfl (by kernel_rfl) (by kernel_rfl)
 ·exact E7 V6.out (.env rfl (by kernel_rfl)) rfl rfl rfl (by kernel_rfl) (by kernel_rfl)
 ·exact EZ cf25 rfl rfl rfl rfl rfl (by kernel_rfl) (fun a v hB hE hD=>L8 (hD 3 _ (by kernel_rfl) rfl) (hD 4 _ (by kernel_rfl) rfl) (by kernel_rfl) (G.out v hB))
 ·exact EZ cf23 rfl rfl rfl rfl rfl (by kernel_rfl) (fun a v hB hE hD=>FX (hD 2 _ (by kernel_rfl) rfl) (hD 5 _ (by kernel_rfl) rfl) rfl rfl rfl (by kernel_rfl))
 ·exact E5 6 rfl rfl rfl rfl (by kernel_rfl)
 ·exact Fk 7 V0.out (.env rfl (by kernel_rfl)) rfl rfl ⟨true,rfl,rfl,by kernel_rfl,rfl⟩ (by kernel_rfl) (by kernel_rfl) rfl (by kernel_rfl)
 ·exact EZ cf27 rfl rfl rfl rfl ⟨true,rfl,rfl,by kernel_rfl,rfl⟩ (by kernel_rfl) (fun a v hB hE hD=>(show Calls _ _ #[Act.at_ a 21,Ji Jl 3] v _ from by rw[show Act.at_ a 21=_ from hD 8 _ (by kernel_rfl) rfl];exact H3a.out v (G.out v hB)))
 ·exact EZ cf26 rfl rfl rfl rfl ⟨true,rfl,rfl,by kernel_rfl,rfl⟩ (by kernel_rfl) (fun a v hB hE hD=>Dr (hD 9 _ (by kernel_rfl) rfl) (by kernel_rfl) (G.out v hB))
 ·exact E7 V6.out (.env rfl (by kernel_rfl)) rfl rfl ⟨true,rfl,rfl,by kernel_rfl,rfl⟩ (by kernel_rfl) (by kernel_rfl)
 ·exact EZ cf24 rfl rfl rfl rfl ⟨true,rfl,rfl,by kernel_rfl,rfl⟩ (by kernel_rfl) (fun a v hB hE hD=>Dq (hD 10 _ (by kernel_rfl) rfl) (hD 11 _ (by kernel_rfl) rfl) (by kernel_rfl) (G.out v hB))
 ·exact Fk 7 V0.out (.env rfl (by kernel_rfl)) rfl rfl ⟨true,rfl,rfl,by kernel_rfl,rfl⟩ (by kernel_rfl) (by kernel_rfl) rfl (by kernel_rfl)
 ·exact EZ cf27 rfl rfl rfl rfl ⟨true,rfl,rfl,by kernel_rfl,rfl⟩ (by kernel_rfl) (fun a v hB hE hD=>(show Calls _ _ #[Act.at_ a 26,Ji Jl 3] v _ from by rw[show Act.at_ a 26=_ from hD 13 _ (by kernel_rfl) rfl];exact H3a.out v (G.out v hB)))
 ·exact EZ cf23 rfl rfl rfl rfl ⟨true,rfl,rfl,by kernel_rfl,rfl⟩ (by kernel_rfl) (fun a v hB hE hD=>FX (hD 12 _ (by kernel_rfl) rfl) (hD 14 _ (by kernel_rfl) rfl) E0 E1 E2 (by kernel_rfl))
 ·exact Fe 7 15 rfl rfl rfl rfl rfl (by kernel_rfl)
 ·exact E5 16 rfl rfl rfl rfl (by kernel_rfl)
 ·exact Fl (parts:=[]) rfl rfl ⟨true,rfl,rfl,by kernel_rfl,rfl⟩ (by kernel_rfl) (fun a w hB hE hD=>⟨(flat [Jm,Jm,Jm]).toArray,by kernel_rfl,[Jm,Jm,Jm],rfl,⟨vat0 w,vat0 w,vat0 w,trivial⟩,fun q hq=>by
   rw [show q=0 by simpa using hq]; exact few0⟩)
 ·exact EZ cf26 rfl rfl rfl rfl ⟨true,rfl,rfl,by kernel_rfl,rfl⟩ (by kernel_rfl) (fun a v hB hE hD=>Dr (hD 18 _ (by kernel_rfl) rfl) (by kernel_rfl) (G.out v hB))
 ·exact EZ cf17 rfl rfl rfl rfl ⟨true,rfl,rfl,by kernel_rfl,rfl⟩ (by kernel_rfl) (fun a v hB hE hD=>Lu (hD 19 _ (by kernel_rfl) rfl) rfl rfl rfl rfl rfl rfl (by kernel_rfl) (G.out v hB))
 ·exact Fe 17 20 rfl rfl rfl rfl rfl (by kernel_rfl)
 ·exact E5 21 rfl rfl rfl rfl (by kernel_rfl)
 have e4:val2 4= .bool true:=hF 22 _ rfl;clear hF;generalize val2 4=t4 at *
 subst e4;replace V0:=Lh (fun w' (hb:Below W2.heap.size W2 w')=>V0.out w' (Jd hB hb));replace V1:=Lh (fun w' (hb:Below W2.heap.size W2 w')=>V1.out w' (Jd hB hb));replace V5:=Lh (fun w' (hb:Below W2.heap.size W2 w')=>V5.out w' (Jd hB hb));replace V6:=Lh (fun w' (hb:Below W2.heap.size W2 w')=>V6.out w' (Jd hB hb));replace K:=Lh (Jd K.out hB);replace G:=Lh (fun w' (hb:Below W2.heap.size W2 w')=>G.out w' (Jd hB hb));clear hB;refine Last.nil (by kernel_rfl) ?_;clear G V0 V1 V5 V6;go_wp2_with fail
 exact bodyPost_ret (v:= .bool true) (by simp[results,Tryz.results4,go_sem]) rfl ⟨_,rfl,K.out,rfl⟩
