/- The law TwistRigid. -/
import Derived.Test.YthhobhjcnmmipaaGreatDoorKTwh
set_option maxRecDepth 100000
set_option maxHeartbeats 16000000
namespace Go.Proofs.YthhobhjcnmmipaaGreatDoor
open Go.Value renaming pointer→Jp,int→Ji,agg→Ja
open Go.IntKind renaming i64→Jl
open Go.Obj renaming cells→Jc
open _root_.Option renaming none→Jn,some→Jo
open Go renaming World→JW
open _root_.Nat renaming le_refl→N0
open Go.RowKit
theorem D4{n0 n1 n2 n3 n4 n5 d r m0 m1 m2 m3 m4 m5 e f x0 x1 x2 y0 y1 y2:Int}{w:JW}(s1:S6 n0 n1 n2 n3 n4 n5 d r)(s2:S6 m0 m1 m2 m3 m4 m5 e f)(q0:I8 x0)(q1:I8 x1)(q2:I8 x2)(p0:I8 y0)(p1:I8 y1)(p2:I8 y2)(hg:Good w) :
  Calls Tryz.prog 12 #[Ja #[Ji .i8 n0,Ji .i8 n1,Ji .i8 n2,Ji .i8 n3,Ji .i8 n4,Ji .i8 n5,Ji .u8 d],Ja #[Ji .i8 m0,Ji .i8 m1,Ji .i8 m2,Ji .i8 m3,Ji .i8 m4,Ji .i8 m5,Ji .u8 e],Ja #[Ji .i8 x0,Ji .i8 x1,Ji .i8 x2,Ji .i8 y0,Ji .i8 y1,Ji .i8 y2]] w (Ret w (Fct.val (.bool true))):=by
 obtain⟨a0,ha0⟩:∃q,tq n0 r=q:=⟨_,rfl⟩;obtain⟨a1,ha1⟩:∃q,tq n1 r=q:=⟨_,rfl⟩;obtain⟨a2,ha2⟩:∃q,tq n2 r=q:=⟨_,rfl⟩;obtain⟨a3,ha3⟩:∃q,tq n3 r=q:=⟨_,rfl⟩;obtain⟨a4,ha4⟩:∃q,tq n4 r=q:=⟨_,rfl⟩;obtain⟨a5,ha5⟩:∃q,tq n5 r=q:=⟨_,rfl⟩;have Ha:=fun(v:JW) (hg:Good v)=>c_of (w:=v) s1 hg;rw[ha0,ha1,ha2,ha3,ha4,ha5]at Ha;replace Ha:=Lh Ha;have H3a:=fun(v:JW) (hg:Good v)=>FU (w:=v) s1 hg;rw[ha3,ha4,ha5]at H3a;replace H3a:=Lh H3a;have JJa:=fun(v:JW) (hg:Good v)=>FV (w:=v) s1 hg;rw[ha0,ha1,ha2]at JJa;replace JJa:=Lh JJa;have WWa:=fun(v:JW) (hg:Good v)=>FM (w:=v) s1 hg;rw[ha0,ha1,ha2,ha3,ha4,ha5]at WWa;replace WWa:=Lh WWa;obtain⟨b0,hb0⟩:∃q,tq m0 f=q:=⟨_,rfl⟩;obtain⟨b1,hb1⟩:∃q,tq m1 f=q:=⟨_,rfl⟩;obtain⟨b2,hb2⟩:∃q,tq m2 f=q:=⟨_,rfl⟩;obtain⟨b3,hb3⟩:∃q,tq m3 f=q:=⟨_,rfl⟩;obtain⟨b4,hb4⟩:∃q,tq m4 f=q:=⟨_,rfl⟩;obtain⟨b5,hb5⟩:∃q,tq m5 f=q:=⟨_,rfl⟩;have Hb:=fun(v:JW) (hg:Good v)=>c_of (w:=v) s2 hg;rw[hb0,hb1,hb2,hb3,hb4,hb5]at Hb;replace Hb:=Lh Hb;have H3b:=fun(v:JW) (hg:Good v)=>FU (w:=v) s2 hg;rw[hb3,hb4,hb5]at H3b;replace H3b:=Lh H3b;have JJb:=fun(v:JW) (hg:Good v)=>FV (w:=v) s2 hg;rw[hb0,hb1,hb2]at JJb;replace JJb:=Lh JJb;have WWb:=fun(v:JW) (hg:Good v)=>FM (w:=v) s2 hg;rw[hb0,hb1,hb2,hb3,hb4,hb5]at WWb;replace WWb:=Lh WWb;obtain⟨xq0,hxq0⟩:∃q,((x0:Int):Rat)=q:=⟨_,rfl⟩;obtain⟨xq1,hxq1⟩:∃q,((x1:Int):Rat)=q:=⟨_,rfl⟩;obtain⟨xq2,hxq2⟩:∃q,((x2:Int):Rat)=q:=⟨_,rfl⟩;have Hx:=fun(v:JW) (hg:Good v)=>DL (w:=v) q0 q1 q2 hg;rw[hxq0,hxq1,hxq2]at Hx;replace Hx:=Lh Hx;obtain⟨yq0,hyq0⟩:∃q,((y0:Int):Rat)=q:=⟨_,rfl⟩;obtain⟨yq1,hyq1⟩:∃q,((y1:Int):Rat)=q:=⟨_,rfl⟩
 obtain⟨yq2,hyq2⟩:∃q,((y2:Int):Rat)=q:=⟨_,rfl⟩;have Hy:=fun(v:JW) (hg:Good v)=>DL (w:=v) p0 p1 p2 hg;rw[hyq0,hyq1,hyq2]at Hy;replace Hy:=Lh Hy;have E0:((a3+(a1*xq2-a2*xq1))-(a3+(a1*yq2-a2*yq1)))*(xq0-yq0)+((a4+(a2*xq0-a0*xq2))-(a4+(a2*yq0-a0*yq2)))*(xq1-yq1)+((a5+(a0*xq1-a1*xq0))-(a5+(a0*yq1-a1*yq0)))*(xq2-yq2)=0:=by grind
 have E1:(a3+b3)+((a1+b1)*xq2-(a2+b2)*xq1)=(a3+(a1*xq2-a2*xq1))+(b3+(b1*xq2-b2*xq1)):=by grind
 have E2:(a4+b4)+((a2+b2)*xq0-(a0+b0)*xq2)=(a4+(a2*xq0-a0*xq2))+(b4+(b2*xq0-b0*xq2)):=by grind
 have E3:(a5+b5)+((a0+b0)*xq1-(a1+b1)*xq0)=(a5+(a0*xq1-a1*xq0))+(b5+(b0*xq1-b1*xq0)):=by grind
 clear s1 s2 ha0 ha1 ha2 ha3 ha4 ha5 hb0 hb1 hb2 hb3 hb4 hb5 hxq0 hxq1 hxq2 hyq0 hyq1 hyq2;have k0:=(Below.refl w.heap.size w).alloc (N0 _) (Jc #[Ji .i8 n0,Ji .i8 n1,Ji .i8 n2,Ji .i8 n3,Ji .i8 n4,Ji .i8 n5,Ji .u8 d] 53);have k1:=k0.alloc (by simp) (Jc #[Ji .i8 m0,Ji .i8 m1,Ji .i8 m2,Ji .i8 m3,Ji .i8 m4,Ji .i8 m5,Ji .u8 e] 53);have k2:=k1.alloc (by simp;omega) (Jc #[Ji .i8 x0,Ji .i8 x1,Ji .i8 x2,Ji .i8 y0,Ji .i8 y1,Ji .i8 y2] 62);have V0:=Jh.new w #[Ji .i8 n0,Ji .i8 n1,Ji .i8 n2,Ji .i8 n3,Ji .i8 n4,Ji .i8 n5,Ji .u8 d] 53;have V1:=Jh.new (w.alloc (Jc #[Ji .i8 n0,Ji .i8 n1,Ji .i8 n2,Ji .i8 n3,Ji .i8 n4,Ji .i8 n5,Ji .u8 d] 53)) #[Ji .i8 m0,Ji .i8 m1,Ji .i8 m2,Ji .i8 m3,Ji .i8 m4,Ji .i8 m5,Ji .u8 e] 53;have V2:=Jh.new ((w.alloc (Jc #[Ji .i8 n0,Ji .i8 n1,Ji .i8 n2,Ji .i8 n3,Ji .i8 n4,Ji .i8 n5,Ji .u8 d] 53)).alloc (Jc #[Ji .i8 m0,Ji .i8 m1,Ji .i8 m2,Ji .i8 m3,Ji .i8 m4,Ji .i8 m5,Ji .u8 e] 53)) #[Ji .i8 x0,Ji .i8 x1,Ji .i8 x2,Ji .i8 y0,Ji .i8 y1,Ji .i8 y2] 62;have j1:=(Below.refl (w.alloc (Jc #[Ji .i8 n0,Ji .i8 n1,Ji .i8 n2,Ji .i8 n3,Ji .i8 n4,Ji .i8 n5,Ji .u8 d] 53)).heap.size (w.alloc (Jc #[Ji .i8 n0,Ji .i8 n1,Ji .i8 n2,Ji .i8 n3,Ji .i8 n4,Ji .i8 n5,Ji .u8 d] 53))).alloc (N0 _) (Jc #[Ji .i8 m0,Ji .i8 m1,Ji .i8 m2,Ji .i8 m3,Ji .i8 m4,Ji .i8 m5,Ji .u8 e] 53);have j2:=(Below.refl ((w.alloc (Jc #[Ji .i8 n0,Ji .i8 n1,Ji .i8 n2,Ji .i8 n3,Ji .i8 n4,Ji .i8 n5,Ji .u8 d] 53)).alloc (Jc #[Ji .i8 m0,Ji .i8 m1,Ji .i8 m2,Ji .i8 m3,Ji .i8 m4,Ji .i8 m5,Ji .u8 e] 53)).heap.size ((w.alloc (Jc #[Ji .i8 n0,Ji .i8 n1,Ji .i8 n2,Ji .i8 n3,Ji .i8 n4,Ji .i8 n5,Ji .u8 d] 53)).alloc (Jc #[Ji .i8 m0,Ji .i8 m1,Ji .i8 m2,Ji .i8 m3,Ji .i8 m4,Ji .i8 m5,Ji .u8 e] 53))).alloc (N0 _) (Jc #[Ji .i8 x0,Ji .i8 x1,Ji .i8 x2,Ji .i8 y0,Ji .i8 y1,Ji .i8 y2] 62)
 replace V0:=((V0.keep j1).keep j2);replace V1:=(V1.keep j2);simp only[World.size_alloc]at V0 V1 V2;obtain⟨W,hW⟩:∃W,((w.alloc (Jc #[Ji .i8 n0,Ji .i8 n1,Ji .i8 n2,Ji .i8 n3,Ji .i8 n4,Ji .i8 n5,Ji .u8 d] 53)).alloc (Jc #[Ji .i8 m0,Ji .i8 m1,Ji .i8 m2,Ji .i8 m3,Ji .i8 m4,Ji .i8 m5,Ji .u8 e] 53)).alloc (Jc #[Ji .i8 x0,Ji .i8 x1,Ji .i8 x2,Ji .i8 y0,Ji .i8 y1,Ji .i8 y2] 62)=W:=⟨_,rfl⟩;rw[hW]at k2 V0 V1 V2;replace V0:=Lh (fun w' (hb:Below W.heap.size W w')=>(V0.keep hb));replace V1:=Lh (fun w' (hb:Below W.heap.size W w')=>(V1.keep hb));replace V2:=Lh (fun w' (hb:Below W.heap.size W w')=>(V2.keep hb));have K:=Lh k2;have G:=Lh (fun w' (hb:Below W.heap.size W w')=>hg.below (k2.trans (hb.mono k2.size)));clear hg k0 k1 k2 j1 j2;go_enter Tryz.func12,Tryz.ntmps12;go_upto_region 1 with fail
 try simp only[hW]
 clear hW;refine E8 55 [(13,false,0),(14,false,0)] []
  [Fct.val (.bool true),
  Fct.val (.bool false)]
  0 rfl (by kernel_rfl) rfl ⟨?_,?_,trivial⟩
  (fun val0=>⟨#[Ja #[Ji .i8 n0,Ji .i8 n1,Ji .i8 n2,Ji .i8 n3,Ji .i8 n4,Ji .i8 n5,Ji .u8 d],Ja #[Ji .i8 m0,Ji .i8 m1,Ji .i8 m2,Ji .i8 m3,Ji .i8 m4,Ji .i8 m5,Ji .u8 e],Ja #[Ji .i8 x0,Ji .i8 x1,Ji .i8 x2,Ji .i8 y0,Ji .i8 y1,Ji .i8 y2],Jp (Jo ⟨w.heap.size,0,Jn⟩),Jp (Jo ⟨w.heap.size+1,0,Jn⟩),Jp (Jo ⟨w.heap.size+1+1,0,Jn⟩),.bool false,undef,undef,undef,undef,undef,undef,val0 13,val0 14,undef,undef,undef,undef,undef,undef,undef,undef,undef,undef,undef,undef,undef,undef,undef,undef,undef,undef,undef,undef,undef,undef,undef,undef,undef,undef,undef,undef,undef,undef,undef,undef,undef,undef,undef,undef,undef,undef,undef,undef],[]⟩) (fun val0=>by kernel_rfl) (fun val0 W0 hB hF=>⟨?_⟩)
 ·exact EZ cf13 rfl rfl rfl rfl rfl (by kernel_rfl) (fun a v hB hE hD=>FG (G.out v hB))
 ·exact Fm (op:= .unOp .not 4 (.tmp 13)) rfl rfl (fun _=>rfl) (.dep 0 rfl (by kernel_rfl)) rfl (by kernel_rfl) (fun a w e=>by unfold execOp bare;dsimp only;rw[e];go_simp <;> rfl)
 have e13:val0 13= .bool true:=hF 0 _ rfl;have e14:val0 14= .bool false:=hF 1 _ rfl;clear hF;generalize val0 13=t13 at *
 generalize val0 14=t14 at *
 subst e13 e14;replace V0:=Lh (fun w' (hb:Below W0.heap.size W0 w')=>V0.out w' (Jd hB hb));replace V1:=Lh (fun w' (hb:Below W0.heap.size W0 w')=>V1.out w' (Jd hB hb));replace V2:=Lh (fun w' (hb:Below W0.heap.size W0 w')=>V2.out w' (Jd hB hb));replace K:=Lh (Jd K.out hB);replace G:=Lh (fun w' (hb:Below W0.heap.size W0 w')=>G.out w' (Jd hB hb));clear hB;refine Last.nil (by kernel_rfl) ?_;go_upto_region 3 with fail
 refine Fy 55 [(15,false,0),(16,false,0),(17,false,0),(18,false,0),(19,false,0),(20,false,0),(21,false,0),(22,false,0),(23,false,0),(24,false,0),(7,false,0),(8,false,0),(9,false,0),(10,false,0),(7,true,10),(8,true,11),(9,true,12),(10,true,13)] [10,11,12,13]
  [Fct.val (Ja #[Ji .i8 n0,Ji .i8 n1,Ji .i8 n2,Ji .i8 n3,Ji .i8 n4,Ji .i8 n5,Ji .u8 d]),
  Fct.num [] 4 [a0,a1,a2,a3,a4,a5],
  Fct.val (Ja #[Ji .i8 m0,Ji .i8 m1,Ji .i8 m2,Ji .i8 m3,Ji .i8 m4,Ji .i8 m5,Ji .u8 e]),
  Fct.num [] 4 [b0,b1,b2,b3,b4,b5],
  Fct.val (Jp (Jo ⟨w.heap.size+1+1,0,Jn⟩)),
  Fct.val (Ja #[Ji .i8 x0,Ji .i8 x1,Ji .i8 x2]),
  Fct.num [] 3 [xq0,xq1,xq2],
  Fct.val (Jp (Jo ⟨w.heap.size+1+1,3,Jn⟩)),
  Fct.val (Ja #[Ji .i8 y0,Ji .i8 y1,Ji .i8 y2]),
  Fct.num [] 3 [yq0,yq1,yq2],
  Fct.ptr 24,
  Fct.ptr 24,
  Fct.ptr 12,
  Fct.ptr 12,
  Fct.var [] 4 [a0,a1,a2,a3,a4,a5],
  Fct.var [] 4 [b0,b1,b2,b3,b4,b5],
  Fct.var [] 3 [xq0,xq1,xq2],
  Fct.var [] 3 [yq0,yq1,yq2]]
  #[true,true,true,true,true,true,true,true,true,true,true,true,true,true,true,true,true,true] 0 rfl (by kernel_rfl) rfl (by kernel_rfl) ⟨?_,?_,?_,?_,?_,?_,?_,?_,?_,?_,?_,?_,?_,?_,?_,?_,?_,?_,trivial⟩
  (fun val1=>⟨#[Ja #[Ji .i8 n0,Ji .i8 n1,Ji .i8 n2,Ji .i8 n3,Ji .i8 n4,Ji .i8 n5,Ji .u8 d],Ja #[Ji .i8 m0,Ji .i8 m1,Ji .i8 m2,Ji .i8 m3,Ji .i8 m4,Ji .i8 m5,Ji .u8 e],Ja #[Ji .i8 x0,Ji .i8 x1,Ji .i8 x2,Ji .i8 y0,Ji .i8 y1,Ji .i8 y2],Jp (Jo ⟨w.heap.size,0,Jn⟩),Jp (Jo ⟨w.heap.size+1,0,Jn⟩),Jp (Jo ⟨w.heap.size+1+1,0,Jn⟩),.bool false,val1 7,val1 8,val1 9,val1 10,undef,undef,.bool true,.bool false,val1 15,val1 16,val1 17,val1 18,val1 19,val1 20,val1 21,val1 22,val1 23,val1 24,undef,undef,undef,undef,undef,undef,undef,undef,undef,undef,undef,undef,undef,undef,undef,undef,undef,undef,undef,undef,undef,undef,undef,undef,undef,undef,undef,undef,undef,undef],[]⟩) (fun val1=>by kernel_rfl) (fun val1 W1 hB hF=>⟨?_⟩)
 ·exact Fk 7 V0.out (.env rfl (by kernel_rfl)) rfl rfl rfl (by kernel_rfl) (by kernel_rfl) rfl (by kernel_rfl)
 ·exact EZ cf21 rfl rfl rfl rfl rfl (by kernel_rfl) (fun a v hB hE hD=>(show Calls _ _ #[Act.at_ a 15] v _ from by rw[show Act.at_ a 15=_ from hD 0 _ (by kernel_rfl) rfl];exact Ha.out v (G.out v hB)))
 ·exact Fk 7 V1.out (.env rfl (by kernel_rfl)) rfl rfl rfl (by kernel_rfl) (by kernel_rfl) rfl (by kernel_rfl)
 ·exact EZ cf21 rfl rfl rfl rfl rfl (by kernel_rfl) (fun a v hB hE hD=>(show Calls _ _ #[Act.at_ a 17] v _ from by rw[show Act.at_ a 17=_ from hD 2 _ (by kernel_rfl) rfl];exact Hb.out v (G.out v hB)))
 ·exact FA rfl rfl (.env rfl (by kernel_rfl)) rfl (by kernel_rfl) (fun _ _ _ _=>rfl) (fun w=>by go_simp)
 ·exact Fk 3 V2.out (.dep 4 rfl (by kernel_rfl)) rfl rfl rfl (by kernel_rfl) (by kernel_rfl) rfl (by kernel_rfl)
 ·exact EZ cf22 rfl rfl rfl rfl rfl (by kernel_rfl) (fun a v hB hE hD=>(show Calls _ _ #[Act.at_ a 20] v _ from by rw[show Act.at_ a 20=_ from hD 5 _ (by kernel_rfl) rfl];exact Hx.out v (G.out v hB)))
 ·exact FA rfl rfl (.env rfl (by kernel_rfl)) rfl (by kernel_rfl) (fun _ _ _ _=>rfl) (fun w=>by go_simp)
 ·exact Fk 3 V2.out (.dep 7 rfl (by kernel_rfl)) rfl rfl rfl (by kernel_rfl) (by kernel_rfl) rfl (by kernel_rfl)
 ·exact EZ cf22 rfl rfl rfl rfl rfl (by kernel_rfl) (fun a v hB hE hD=>(show Calls _ _ #[Act.at_ a 23] v _ from by rw[show Act.at_ a 23=_ from hD 8 _ (by kernel_rfl) rfl];exact Hy.out v (G.out v hB)))
 ·exact Fb [Ji Jl 0,Jp Jn,Ji Jl 0,Jp Jn,Ji Jl 0,Jp Jn,Ji Jl 0,Jp Jn,Ji Jl 0,Jp Jn,Ji Jl 0,Jp Jn,Ji Jl 0,Jp Jn,Ji Jl 0,Jp Jn,Ji Jl 0,Jp Jn,Ji Jl 0,Jp Jn,Ji Jl 0,Jp Jn,Ji Jl 0,Jp Jn] 37 rfl rfl rfl (by kernel_rfl) (by kernel_rfl) (fun a w=>by go_simp)
 ·exact Fb [Ji Jl 0,Jp Jn,Ji Jl 0,Jp Jn,Ji Jl 0,Jp Jn,Ji Jl 0,Jp Jn,Ji Jl 0,Jp Jn,Ji Jl 0,Jp Jn,Ji Jl 0,Jp Jn,Ji Jl 0,Jp Jn,Ji Jl 0,Jp Jn,Ji Jl 0,Jp Jn,Ji Jl 0,Jp Jn,Ji Jl 0,Jp Jn] 37 rfl rfl rfl (by kernel_rfl) (by kernel_rfl) (fun a w=>by go_simp)
 ·exact Fb [Ji Jl 0,Jp Jn,Ji Jl 0,Jp Jn,Ji Jl 0,Jp Jn,Ji Jl 0,Jp Jn,Ji Jl 0,Jp Jn,Ji Jl 0,Jp Jn] 35 rfl rfl rfl (by kernel_rfl) (by kernel_rfl) (fun a w=>by go_simp)
 ·exact Fb [Ji Jl 0,Jp Jn,Ji Jl 0,Jp Jn,Ji Jl 0,Jp Jn,Ji Jl 0,Jp Jn,Ji Jl 0,Jp Jn,Ji Jl 0,Jp Jn] 35 rfl rfl rfl (by kernel_rfl) (by kernel_rfl) (fun a w=>by go_simp)
 ·exact E9 10 1 rfl rfl rfl rfl rfl (by kernel_rfl) (by kernel_rfl)
 ·exact E9 11 3 rfl rfl rfl rfl rfl (by kernel_rfl) (by kernel_rfl)
 ·exact E9 12 6 rfl rfl rfl rfl rfl (by kernel_rfl) (by kernel_rfl)
 ·exact E9 13 9 rfl rfl rfl rfl rfl (by kernel_rfl) (by kernel_rfl)
 obtain⟨p7,e7,V7⟩:(Fct.var [] 4 [a0,a1,a2,a3,a4,a5]).P W1 (val1 7):=hF 14 _ rfl;obtain⟨p8,e8,V8⟩:(Fct.var [] 4 [b0,b1,b2,b3,b4,b5]).P W1 (val1 8):=hF 15 _ rfl;obtain⟨p9,e9,V9⟩:(Fct.var [] 3 [xq0,xq1,xq2]).P W1 (val1 9):=hF 16 _ rfl;obtain⟨p10,e10,V10⟩:(Fct.var [] 3 [yq0,yq1,yq2]).P W1 (val1 10):=hF 17 _ rfl;clear hF;generalize val1 7=t7 at *
 generalize val1 8=t8 at *
 generalize val1 9=t9 at *
 generalize val1 10=t10 at *
 subst e7 e8 e9 e10;replace V0:=Lh (fun w' (hb:Below W1.heap.size W1 w')=>V0.out w' (Jd hB hb));replace V1:=Lh (fun w' (hb:Below W1.heap.size W1 w')=>V1.out w' (Jd hB hb));replace V2:=Lh (fun w' (hb:Below W1.heap.size W1 w')=>V2.out w' (Jd hB hb));replace V7:=Lh (fun w' (hb:Below W1.heap.size W1 w')=>V7.keep hb);replace V8:=Lh (fun w' (hb:Below W1.heap.size W1 w')=>V8.keep hb);replace V9:=Lh (fun w' (hb:Below W1.heap.size W1 w')=>V9.keep hb);replace V10:=Lh (fun w' (hb:Below W1.heap.size W1 w')=>V10.keep hb);replace K:=Lh (Jd K.out hB);replace G:=Lh (fun w' (hb:Below W1.heap.size W1 w')=>G.out w' (Jd hB hb));clear hB;refine Last.nil (by kernel_rfl) ?_;go_upto_region 4 with fail
 refine Fy 55 [(25,false,0),(26,false,0),(27,false,0),(28,false,0),(29,false,0),(30,false,0),(31,false,0),(11,false,0),(11,true,7)] [7]
  [Fct.num [] 4 [a0,a1,a2,a3,a4,a5],
  Fct.num [] 3 [xq0,xq1,xq2],
  Fct.num [] 20 [a3+(a1*xq2-a2*xq1),a4+(a2*xq0-a0*xq2),a5+(a0*xq1-a1*xq0)],
  Fct.num [] 4 [a0,a1,a2,a3,a4,a5],
  Fct.num [] 3 [yq0,yq1,yq2],
  Fct.num [] 20 [a3+(a1*yq2-a2*yq1),a4+(a2*yq0-a0*yq2),a5+(a0*yq1-a1*yq0)],
  Fct.num [] 41 [(a3+(a1*xq2-a2*xq1))-(a3+(a1*yq2-a2*yq1)),(a4+(a2*xq0-a0*xq2))-(a4+(a2*yq0-a0*yq2)),(a5+(a0*xq1-a1*xq0))-(a5+(a0*yq1-a1*yq0))],
  Fct.ptr 12,
  Fct.var [] 41 [(a3+(a1*xq2 - a2*xq1)) - (a3+(a1*yq2 - a2*yq1)),(a4+(a2*xq0 - a0*xq2)) - (a4+(a2*yq0 - a0*yq2)),(a5+(a0*xq1 - a1*xq0)) - (a5+(a0*yq1 - a1*yq0))]]
  #[true,true,true,true,true,true,true,true,true] 0 rfl (by kernel_rfl) rfl (by kernel_rfl) ⟨?_,?_,?_,?_,?_,?_,?_,?_,?_,trivial⟩
  (fun val2=>⟨#[Ja #[Ji .i8 n0,Ji .i8 n1,Ji .i8 n2,Ji .i8 n3,Ji .i8 n4,Ji .i8 n5,Ji .u8 d],Ja #[Ji .i8 m0,Ji .i8 m1,Ji .i8 m2,Ji .i8 m3,Ji .i8 m4,Ji .i8 m5,Ji .u8 e],Ja #[Ji .i8 x0,Ji .i8 x1,Ji .i8 x2,Ji .i8 y0,Ji .i8 y1,Ji .i8 y2],Jp (Jo ⟨w.heap.size,0,Jn⟩),Jp (Jo ⟨w.heap.size+1,0,Jn⟩),Jp (Jo ⟨w.heap.size+1+1,0,Jn⟩),.bool false,Jp (Jo ⟨p7,0,Jn⟩),Jp (Jo ⟨p8,0,Jn⟩),Jp (Jo ⟨p9,0,Jn⟩),Jp (Jo ⟨p10,0,Jn⟩),val2 11,undef,.bool true,.bool false,val1 15,val1 16,val1 17,val1 18,val1 19,val1 20,val1 21,val1 22,val1 23,val1 24,val2 25,val2 26,val2 27,val2 28,val2 29,val2 30,val2 31,undef,undef,undef,undef,undef,undef,undef,undef,undef,undef,undef,undef,undef,undef,undef,undef,undef,undef,undef,undef,undef,undef,undef],[]⟩) (fun val2=>by kernel_rfl) (fun val2 W2 hB hF=>⟨?_⟩)
 ·exact E7 V7.out (.env rfl (by kernel_rfl)) rfl rfl rfl (by kernel_rfl) (by kernel_rfl)
 ·exact E7 V9.out (.env rfl (by kernel_rfl)) rfl rfl rfl (by kernel_rfl) (by kernel_rfl)
 ·exact EZ cf24 rfl rfl rfl rfl rfl (by kernel_rfl) (fun a v hB hE hD=>Dq (hD 0 _ (by kernel_rfl) rfl) (hD 1 _ (by kernel_rfl) rfl) (by kernel_rfl) (G.out v hB))
 ·exact E7 V7.out (.env rfl (by kernel_rfl)) rfl rfl rfl (by kernel_rfl) (by kernel_rfl)
 ·exact E7 V10.out (.env rfl (by kernel_rfl)) rfl rfl rfl (by kernel_rfl) (by kernel_rfl)
 ·exact EZ cf24 rfl rfl rfl rfl rfl (by kernel_rfl) (fun a v hB hE hD=>Dq (hD 3 _ (by kernel_rfl) rfl) (hD 4 _ (by kernel_rfl) rfl) (by kernel_rfl) (G.out v hB))
 ·exact EZ cf54 rfl rfl rfl rfl rfl (by kernel_rfl) (fun a v hB hE hD=>Lt (hD 2 _ (by kernel_rfl) rfl) (hD 5 _ (by kernel_rfl) rfl) (by kernel_rfl) (G.out v hB))
 ·exact Fb [Ji Jl 0,Jp Jn,Ji Jl 0,Jp Jn,Ji Jl 0,Jp Jn,Ji Jl 0,Jp Jn,Ji Jl 0,Jp Jn,Ji Jl 0,Jp Jn] 35 rfl rfl rfl (by kernel_rfl) (by kernel_rfl) (fun a w=>by go_simp)
 ·exact E9 7 6 rfl rfl rfl rfl rfl (by kernel_rfl) (by kernel_rfl)
 obtain⟨p11,e11,V11⟩:(Fct.var [] 41 [(a3+(a1*xq2-a2*xq1))-(a3+(a1*yq2-a2*yq1)),(a4+(a2*xq0-a0*xq2))-(a4+(a2*yq0-a0*yq2)),(a5+(a0*xq1-a1*xq0))-(a5+(a0*yq1-a1*yq0))]).P W2 (val2 11):=hF 8 _ rfl;clear hF;generalize val2 11=t11 at *
 subst e11;replace V0:=Lh (fun w' (hb:Below W2.heap.size W2 w')=>V0.out w' (Jd hB hb));replace V1:=Lh (fun w' (hb:Below W2.heap.size W2 w')=>V1.out w' (Jd hB hb));replace V2:=Lh (fun w' (hb:Below W2.heap.size W2 w')=>V2.out w' (Jd hB hb));replace V7:=Lh (fun w' (hb:Below W2.heap.size W2 w')=>V7.out w' (Jd hB hb));replace V8:=Lh (fun w' (hb:Below W2.heap.size W2 w')=>V8.out w' (Jd hB hb));replace V9:=Lh (fun w' (hb:Below W2.heap.size W2 w')=>V9.out w' (Jd hB hb));replace V10:=Lh (fun w' (hb:Below W2.heap.size W2 w')=>V10.out w' (Jd hB hb));replace V11:=Lh (fun w' (hb:Below W2.heap.size W2 w')=>V11.keep hb);replace K:=Lh (Jd K.out hB);replace G:=Lh (fun w' (hb:Below W2.heap.size W2 w')=>G.out w' (Jd hB hb));clear hB;refine Last.nil (by kernel_rfl) ?_;go_upto_region 5 with fail
 refine Fy 55 [(32,false,0),(33,false,0),(34,false,0),(35,false,0),(36,false,0),(12,false,0),(12,true,5)] [5]
  [Fct.num [] 4 [a0,a1,a2,a3,a4,a5],
  Fct.num [] 4 [b0,b1,b2,b3,b4,b5],
  Fct.num [] 9 [a0+b0,a1+b1,a2+b2,a3+b3,a4+b4,a5+b5],
  Fct.num [] 3 [xq0,xq1,xq2],
  Fct.num [] 35 [(a3+b3)+((a1+b1)*xq2-(a2+b2)*xq1),(a4+b4)+((a2+b2)*xq0-(a0+b0)*xq2),(a5+b5)+((a0+b0)*xq1-(a1+b1)*xq0)],
  Fct.ptr 12,
  Fct.var [] 35 [(a3+b3)+((a1+b1)*xq2 - (a2+b2)*xq1),(a4+b4)+((a2+b2)*xq0 - (a0+b0)*xq2),(a5+b5)+((a0+b0)*xq1 - (a1+b1)*xq0)]]
  #[true,true,true,true,true,true,true] 0 rfl (by kernel_rfl) rfl (by kernel_rfl) ⟨?_,?_,?_,?_,?_,?_,?_,trivial⟩
  (fun val3=>⟨#[Ja #[Ji .i8 n0,Ji .i8 n1,Ji .i8 n2,Ji .i8 n3,Ji .i8 n4,Ji .i8 n5,Ji .u8 d],Ja #[Ji .i8 m0,Ji .i8 m1,Ji .i8 m2,Ji .i8 m3,Ji .i8 m4,Ji .i8 m5,Ji .u8 e],Ja #[Ji .i8 x0,Ji .i8 x1,Ji .i8 x2,Ji .i8 y0,Ji .i8 y1,Ji .i8 y2],Jp (Jo ⟨w.heap.size,0,Jn⟩),Jp (Jo ⟨w.heap.size+1,0,Jn⟩),Jp (Jo ⟨w.heap.size+1+1,0,Jn⟩),.bool false,Jp (Jo ⟨p7,0,Jn⟩),Jp (Jo ⟨p8,0,Jn⟩),Jp (Jo ⟨p9,0,Jn⟩),Jp (Jo ⟨p10,0,Jn⟩),Jp (Jo ⟨p11,0,Jn⟩),val3 12,.bool true,.bool false,val1 15,val1 16,val1 17,val1 18,val1 19,val1 20,val1 21,val1 22,val1 23,val1 24,val2 25,val2 26,val2 27,val2 28,val2 29,val2 30,val2 31,val3 32,val3 33,val3 34,val3 35,val3 36,undef,undef,undef,undef,undef,undef,undef,undef,undef,undef,undef,undef,undef,undef,undef,undef,undef,undef],[]⟩) (fun val3=>by kernel_rfl) (fun val3 W3 hB hF=>⟨?_⟩)
 ·exact E7 V7.out (.env rfl (by kernel_rfl)) rfl rfl rfl (by kernel_rfl) (by kernel_rfl)
 ·exact E7 V8.out (.env rfl (by kernel_rfl)) rfl rfl rfl (by kernel_rfl) (by kernel_rfl)
 ·exact EZ cf55 rfl rfl rfl rfl rfl (by kernel_rfl) (fun a v hB hE hD=>L4 (hD 0 _ (by kernel_rfl) rfl) (hD 1 _ (by kernel_rfl) rfl) (by kernel_rfl) (G.out v hB))
 ·exact E7 V9.out (.env rfl (by kernel_rfl)) rfl rfl rfl (by kernel_rfl) (by kernel_rfl)
 ·exact EZ cf24 rfl rfl rfl rfl rfl (by kernel_rfl) (fun a v hB hE hD=>Dq (hD 2 _ (by kernel_rfl) rfl) (hD 3 _ (by kernel_rfl) rfl) (by kernel_rfl) (G.out v hB))
 ·exact Fb [Ji Jl 0,Jp Jn,Ji Jl 0,Jp Jn,Ji Jl 0,Jp Jn,Ji Jl 0,Jp Jn,Ji Jl 0,Jp Jn,Ji Jl 0,Jp Jn] 35 rfl rfl rfl (by kernel_rfl) (by kernel_rfl) (fun a w=>by go_simp)
 ·exact E9 5 4 rfl rfl rfl rfl rfl (by kernel_rfl) (by kernel_rfl)
 obtain⟨p12,e12,V12⟩:(Fct.var [] 35 [(a3+b3)+((a1+b1)*xq2-(a2+b2)*xq1),(a4+b4)+((a2+b2)*xq0-(a0+b0)*xq2),(a5+b5)+((a0+b0)*xq1-(a1+b1)*xq0)]).P W3 (val3 12):=hF 6 _ rfl;clear hF;generalize val3 12=t12 at *
 subst e12;replace V0:=Lh (fun w' (hb:Below W3.heap.size W3 w')=>V0.out w' (Jd hB hb));replace V1:=Lh (fun w' (hb:Below W3.heap.size W3 w')=>V1.out w' (Jd hB hb));replace V2:=Lh (fun w' (hb:Below W3.heap.size W3 w')=>V2.out w' (Jd hB hb));replace V7:=Lh (fun w' (hb:Below W3.heap.size W3 w')=>V7.out w' (Jd hB hb));replace V8:=Lh (fun w' (hb:Below W3.heap.size W3 w')=>V8.out w' (Jd hB hb));replace V9:=Lh (fun w' (hb:Below W3.heap.size W3 w')=>V9.out w' (Jd hB hb));replace V10:=Lh (fun w' (hb:Below W3.heap.size W3 w')=>V10.out w' (Jd hB hb));replace V11:=Lh (fun w' (hb:Below W3.heap.size W3 w')=>V11.out w' (Jd hB hb));replace V12:=Lh (fun w' (hb:Below W3.heap.size W3 w')=>V12.keep hb);replace K:=Lh (Jd K.out hB);replace G:=Lh (fun w' (hb:Below W3.heap.size W3 w')=>G.out w' (Jd hB hb));clear hB;refine Last.nil (by kernel_rfl) ?_;go_upto_region 6 with fail
 refine Fy 55 [(37,false,0),(38,false,0),(39,false,0),(40,false,0),(41,false,0),(42,false,0),(43,false,0),(44,false,0),(45,false,0),(46,false,0),(47,false,0),(48,false,0),(49,false,0),(50,false,0),(51,false,0),(52,false,0),(53,false,0),(54,false,0),(6,false,0)] []
  [Fct.num [] 41 [(a3+(a1*xq2 - a2*xq1)) - (a3+(a1*yq2 - a2*yq1)),(a4+(a2*xq0 - a0*xq2)) - (a4+(a2*yq0 - a0*yq2)),(a5+(a0*xq1 - a1*xq0)) - (a5+(a0*yq1 - a1*yq0))],
  Fct.num [] 3 [xq0,xq1,xq2],
  Fct.num [] 3 [yq0,yq1,yq2],
  Fct.num [] 7 [xq0-yq0,xq1-yq1,xq2-yq2],
  Fct.num [] 146 [((a3+(a1*xq2-a2*xq1))-(a3+(a1*yq2-a2*yq1)))*(xq0-yq0)+((a4+(a2*xq0-a0*xq2))-(a4+(a2*yq0-a0*yq2)))*(xq1-yq1)+((a5+(a0*xq1-a1*xq0))-(a5+(a0*yq1-a1*yq0)))*(xq2-yq2)],
  Fct.val (Ji Jl 0),
  Fct.val (.bool true),
  Fct.val (.bool true),
  Fct.num [] 35 [(a3+b3)+((a1+b1)*xq2-(a2+b2)*xq1),(a4+b4)+((a2+b2)*xq0-(a0+b0)*xq2),(a5+b5)+((a0+b0)*xq1-(a1+b1)*xq0)],
  Fct.num [] 4 [a0,a1,a2,a3,a4,a5],
  Fct.num [] 3 [xq0,xq1,xq2],
  Fct.num [] 20 [a3+(a1*xq2-a2*xq1),a4+(a2*xq0-a0*xq2),a5+(a0*xq1-a1*xq0)],
  Fct.num [] 4 [b0,b1,b2,b3,b4,b5],
  Fct.num [] 3 [xq0,xq1,xq2],
  Fct.num [] 20 [b3+(b1*xq2-b2*xq1),b4+(b2*xq0-b0*xq2),b5+(b0*xq1-b1*xq0)],
  Fct.num [] 41 [(a3+(a1*xq2-a2*xq1))+(b3+(b1*xq2-b2*xq1)),(a4+(a2*xq0-a0*xq2))+(b4+(b2*xq0-b0*xq2)),(a5+(a0*xq1-a1*xq0))+(b5+(b0*xq1-b1*xq0))],
  Fct.val (.bool true),
  Fct.val (.bool true),
  Fct.val (.bool true)]
  #[true,true,true,true,true,true,true,true,true,true,true,true,true,true,true,true,true,true,true] 0 rfl (by kernel_rfl) rfl (by kernel_rfl) ⟨?_,?_,?_,?_,?_,?_,?_,?_,?_,?_,?_,?_,?_,?_,?_,?_,?_,?_,?_,trivial⟩
  (fun val4=>⟨#[Ja #[Ji .i8 n0,Ji .i8 n1,Ji .i8 n2,Ji .i8 n3,Ji .i8 n4,Ji .i8 n5,Ji .u8 d],Ja #[Ji .i8 m0,Ji .i8 m1,Ji .i8 m2,Ji .i8 m3,Ji .i8 m4,Ji .i8 m5,Ji .u8 e],Ja #[Ji .i8 x0,Ji .i8 x1,Ji .i8 x2,Ji .i8 y0,Ji .i8 y1,Ji .i8 y2],Jp (Jo ⟨w.heap.size,0,Jn⟩),Jp (Jo ⟨w.heap.size+1,0,Jn⟩),Jp (Jo ⟨w.heap.size+1+1,0,Jn⟩),val4 6,Jp (Jo ⟨p7,0,Jn⟩),Jp (Jo ⟨p8,0,Jn⟩),Jp (Jo ⟨p9,0,Jn⟩),Jp (Jo ⟨p10,0,Jn⟩),Jp (Jo ⟨p11,0,Jn⟩),Jp (Jo ⟨p12,0,Jn⟩),.bool true,.bool false,val1 15,val1 16,val1 17,val1 18,val1 19,val1 20,val1 21,val1 22,val1 23,val1 24,val2 25,val2 26,val2 27,val2 28,val2 29,val2 30,val2 31,val3 32,val3 33,val3 34,val3 35,val3 36,val4 37,val4 38,val4 39,val4 40,val4 41,val4 42,val4 43,val4 44,val4 45,val4 46,val4 47,val4 48,val4 49,val4 50,val4 51,val4 52,val4 53,val4 54],[]⟩) (fun val4=>by kernel_rfl) (fun val4 W4 hB hF=>⟨?_⟩)
 ·exact E7 V11.out (.env rfl (by kernel_rfl)) rfl rfl rfl (by kernel_rfl) (by kernel_rfl)
 ·exact E7 V9.out (.env rfl (by kernel_rfl)) rfl rfl rfl (by kernel_rfl) (by kernel_rfl)
 ·exact E7 V10.out (.env rfl (by kernel_rfl)) rfl rfl rfl (by kernel_rfl) (by kernel_rfl)
 ·exact EZ cf54 rfl rfl rfl rfl rfl (by kernel_rfl) (fun a v hB hE hD=>Lt (hD 1 _ (by kernel_rfl) rfl) (hD 2 _ (by kernel_rfl) rfl) (by kernel_rfl) (G.out v hB))
 ·exact EZ cf31 rfl rfl rfl rfl rfl (by kernel_rfl) (fun a v hB hE hD=>FZ (hD 0 _ (by kernel_rfl) rfl) (hD 3 _ (by kernel_rfl) rfl) (by kernel_rfl) (G.out v hB))
 ·exact EZ cf48 rfl rfl rfl rfl rfl (by kernel_rfl) (fun a v hB hE hD=>FY (hD 4 _ (by kernel_rfl) rfl) E0)
 ·exact Fm (op:= .binOp .eql 3 (.tmp 42) (.const (Ji Jl 0)) 3) rfl rfl (fun _=>rfl) (.dep 5 rfl (by kernel_rfl)) rfl (by kernel_rfl) (fun a w e=>by unfold execOp bare;dsimp only;rw[e];go_simp <;> rfl)
 ·exact E5 6 rfl rfl rfl rfl (by kernel_rfl)
 ·exact E7 V12.out (.env rfl (by kernel_rfl)) rfl rfl ⟨true,rfl,rfl,by kernel_rfl,rfl⟩ (by kernel_rfl) (by kernel_rfl)
 ·exact E7 V7.out (.env rfl (by kernel_rfl)) rfl rfl ⟨true,rfl,rfl,by kernel_rfl,rfl⟩ (by kernel_rfl) (by kernel_rfl)
 ·exact E7 V9.out (.env rfl (by kernel_rfl)) rfl rfl ⟨true,rfl,rfl,by kernel_rfl,rfl⟩ (by kernel_rfl) (by kernel_rfl)
 ·exact EZ cf24 rfl rfl rfl rfl ⟨true,rfl,rfl,by kernel_rfl,rfl⟩ (by kernel_rfl) (fun a v hB hE hD=>Dq (hD 9 _ (by kernel_rfl) rfl) (hD 10 _ (by kernel_rfl) rfl) (by kernel_rfl) (G.out v hB))
 ·exact E7 V8.out (.env rfl (by kernel_rfl)) rfl rfl ⟨true,rfl,rfl,by kernel_rfl,rfl⟩ (by kernel_rfl) (by kernel_rfl)
 ·exact E7 V9.out (.env rfl (by kernel_rfl)) rfl rfl ⟨true,rfl,rfl,by kernel_rfl,rfl⟩ (by kernel_rfl) (by kernel_rfl)
 ·exact EZ cf24 rfl rfl rfl rfl ⟨true,rfl,rfl,by kernel_rfl,rfl⟩ (by kernel_rfl) (fun a v hB hE hD=>Dq (hD 12 _ (by kernel_rfl) rfl) (hD 13 _ (by kernel_rfl) rfl) (by kernel_rfl) (G.out v hB))
 ·exact EZ cf33 rfl rfl rfl rfl ⟨true,rfl,rfl,by kernel_rfl,rfl⟩ (by kernel_rfl) (fun a v hB hE hD=>DC (hD 11 _ (by kernel_rfl) rfl) (hD 14 _ (by kernel_rfl) rfl) (by kernel_rfl) (G.out v hB))
 ·exact EZ cf23 rfl rfl rfl rfl ⟨true,rfl,rfl,by kernel_rfl,rfl⟩ (by kernel_rfl) (fun a v hB hE hD=>FX (hD 8 _ (by kernel_rfl) rfl) (hD 15 _ (by kernel_rfl) rfl) E1 E2 E3 (by kernel_rfl))
 ·exact Fe 7 16 rfl rfl rfl rfl rfl (by kernel_rfl)
 ·exact E5 17 rfl rfl rfl rfl (by kernel_rfl)
 have e6:val4 6= .bool true:=hF 18 _ rfl;clear hF;generalize val4 6=t6 at *
 subst e6;replace V0:=Lh (fun w' (hb:Below W4.heap.size W4 w')=>V0.out w' (Jd hB hb));replace V1:=Lh (fun w' (hb:Below W4.heap.size W4 w')=>V1.out w' (Jd hB hb));replace V2:=Lh (fun w' (hb:Below W4.heap.size W4 w')=>V2.out w' (Jd hB hb));replace V7:=Lh (fun w' (hb:Below W4.heap.size W4 w')=>V7.out w' (Jd hB hb));replace V8:=Lh (fun w' (hb:Below W4.heap.size W4 w')=>V8.out w' (Jd hB hb));replace V9:=Lh (fun w' (hb:Below W4.heap.size W4 w')=>V9.out w' (Jd hB hb));replace V10:=Lh (fun w' (hb:Below W4.heap.size W4 w')=>V10.out w' (Jd hB hb));replace V11:=Lh (fun w' (hb:Below W4.heap.size W4 w')=>V11.out w' (Jd hB hb));replace V12:=Lh (fun w' (hb:Below W4.heap.size W4 w')=>V12.out w' (Jd hB hb));replace K:=Lh (Jd K.out hB);replace G:=Lh (fun w' (hb:Below W4.heap.size W4 w')=>G.out w' (Jd hB hb));clear hB;refine Last.nil (by kernel_rfl) ?_;clear G V0 V1 V2 V7 V8 V9 V10 V11 V12;go_wp2_with fail
 exact bodyPost_ret (v:= .bool true) (by simp[results,Tryz.results12,go_sem]) rfl ⟨_,rfl,K.out,rfl⟩
