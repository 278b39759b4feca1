/- GC48: LawVPrm -/
import Derived.Test.YtekhdklbfincpaaGreatDoorGC25
import Derived.Test.YtekhdklbfincpaaGreatDoorGC47
set_option maxRecDepth 100000
set_option maxHeartbeats 16000000
namespace Go.Proofs.YtekhdklbfincpaaGreatDoor
open Go.Value renaming pointer→Jp,int→Ji,string→Js,agg→Ja
open Go.IntKind renaming i64→Jl
open Go.Obj renaming cells→Jc
open _root_.Option renaming none→Jn,some→Jo
open Go.Act renaming put→M0
open _root_.And renaming intro→M1
open Go.RowKit.Below renaming refl→M2
open _root_.Nat renaming le_refl→M3
open _root_.Rat renaming divInt→M4
open Go.RowKit
theorem Jh.s9_0{w:World}{p:Nat}{a0 a1 a2 a3 a4 a5 a6 a7 a8:ByteArray}(h:Jh w p [Js a0,Js a1,Js a2,Js a3,Js a4,Js a5,Js a6,Js a7,Js a8]):w.cell? ⟨p,0,Jn⟩=Jo (Js a0)/\w.cell? ⟨p,1,Jn⟩=Jo (Js a1)/\w.cell? ⟨p,2,Jn⟩=Jo (Js a2):=⟨h.at_ 0,h.at_ 1,h.at_ 2⟩
theorem Jh.s9_1{w:World}{p:Nat}{a0 a1 a2 a3 a4 a5 a6 a7 a8:ByteArray}(h:Jh w p [Js a0,Js a1,Js a2,Js a3,Js a4,Js a5,Js a6,Js a7,Js a8]):w.cell? ⟨p,3,Jn⟩=Jo (Js a3)/\w.cell? ⟨p,4,Jn⟩=Jo (Js a4)/\w.cell? ⟨p,5,Jn⟩=Jo (Js a5):=⟨h.at_ 3,h.at_ 4,h.at_ 5⟩
theorem Jh.s9_2{w:World}{p:Nat}{a0 a1 a2 a3 a4 a5 a6 a7 a8:ByteArray}(h:Jh w p [Js a0,Js a1,Js a2,Js a3,Js a4,Js a5,Js a6,Js a7,Js a8]):w.cell? ⟨p,6,Jn⟩=Jo (Js a6)/\w.cell? ⟨p,7,Jn⟩=Jo (Js a7)/\w.cell? ⟨p,8,Jn⟩=Jo (Js a8):=⟨h.at_ 6,h.at_ 7,h.at_ 8⟩
theorem Jh.v36_0{w:World}{p:Nat}{x0 x1 x2 x3 x4 x5 x6 x7 x8:R4}(h:Jh w p [Ji Jl x0.1,Jp x0.2.1,Ji Jl x0.2.2.1,Jp x0.2.2.2,Ji Jl x1.1,Jp x1.2.1,Ji Jl x1.2.2.1,Jp x1.2.2.2,Ji Jl x2.1,Jp x2.2.1,Ji Jl x2.2.2.1,Jp x2.2.2.2,Ji Jl x3.1,Jp x3.2.1,Ji Jl x3.2.2.1,Jp x3.2.2.2,Ji Jl x4.1,Jp x4.2.1,Ji Jl x4.2.2.1,Jp x4.2.2.2,Ji Jl x5.1,Jp x5.2.1,Ji Jl x5.2.2.1,Jp x5.2.2.2,Ji Jl x6.1,Jp x6.2.1,Ji Jl x6.2.2.1,Jp x6.2.2.2,Ji Jl x7.1,Jp x7.2.1,Ji Jl x7.2.2.1,Jp x7.2.2.2,Ji Jl x8.1,Jp x8.2.1,Ji Jl x8.2.2.1,Jp x8.2.2.2]):w.cell? ⟨p,0,Jn⟩=Jo (Ji Jl x0.1)/\w.cell? ⟨p,1,Jn⟩=Jo (Jp x0.2.1)/\w.cell? ⟨p,2,Jn⟩=Jo (Ji Jl x0.2.2.1)/\w.cell? ⟨p,3,Jn⟩=Jo (Jp x0.2.2.2)/\w.cell? ⟨p,4,Jn⟩=Jo (Ji Jl x1.1)/\w.cell? ⟨p,5,Jn⟩=Jo (Jp x1.2.1)/\w.cell? ⟨p,6,Jn⟩=Jo (Ji Jl x1.2.2.1)/\w.cell? ⟨p,7,Jn⟩=Jo (Jp x1.2.2.2)/\w.cell? ⟨p,8,Jn⟩=Jo (Ji Jl x2.1)/\w.cell? ⟨p,9,Jn⟩=Jo (Jp x2.2.1)/\w.cell? ⟨p,10,Jn⟩=Jo (Ji Jl x2.2.2.1)/\w.cell? ⟨p,11,Jn⟩=Jo (Jp x2.2.2.2):=⟨h.at_ 0,h.at_ 1,h.at_ 2,h.at_ 3,h.at_ 4,h.at_ 5,h.at_ 6,h.at_ 7,h.at_ 8,h.at_ 9,h.at_ 10,h.at_ 11⟩
theorem Jh.v36_1{w:World}{p:Nat}{x0 x1 x2 x3 x4 x5 x6 x7 x8:R4}(h:Jh w p [Ji Jl x0.1,Jp x0.2.1,Ji Jl x0.2.2.1,Jp x0.2.2.2,Ji Jl x1.1,Jp x1.2.1,Ji Jl x1.2.2.1,Jp x1.2.2.2,Ji Jl x2.1,Jp x2.2.1,Ji Jl x2.2.2.1,Jp x2.2.2.2,Ji Jl x3.1,Jp x3.2.1,Ji Jl x3.2.2.1,Jp x3.2.2.2,Ji Jl x4.1,Jp x4.2.1,Ji Jl x4.2.2.1,Jp x4.2.2.2,Ji Jl x5.1,Jp x5.2.1,Ji Jl x5.2.2.1,Jp x5.2.2.2,Ji Jl x6.1,Jp x6.2.1,Ji Jl x6.2.2.1,Jp x6.2.2.2,Ji Jl x7.1,Jp x7.2.1,Ji Jl x7.2.2.1,Jp x7.2.2.2,Ji Jl x8.1,Jp x8.2.1,Ji Jl x8.2.2.1,Jp x8.2.2.2]):w.cell? ⟨p,12,Jn⟩=Jo (Ji Jl x3.1)/\w.cell? ⟨p,13,Jn⟩=Jo (Jp x3.2.1)/\w.cell? ⟨p,14,Jn⟩=Jo (Ji Jl x3.2.2.1)/\w.cell? ⟨p,15,Jn⟩=Jo (Jp x3.2.2.2)/\w.cell? ⟨p,16,Jn⟩=Jo (Ji Jl x4.1)/\w.cell? ⟨p,17,Jn⟩=Jo (Jp x4.2.1)/\w.cell? ⟨p,18,Jn⟩=Jo (Ji Jl x4.2.2.1)/\w.cell? ⟨p,19,Jn⟩=Jo (Jp x4.2.2.2)/\w.cell? ⟨p,20,Jn⟩=Jo (Ji Jl x5.1)/\w.cell? ⟨p,21,Jn⟩=Jo (Jp x5.2.1)/\w.cell? ⟨p,22,Jn⟩=Jo (Ji Jl x5.2.2.1)/\w.cell? ⟨p,23,Jn⟩=Jo (Jp x5.2.2.2):=⟨h.at_ 12,h.at_ 13,h.at_ 14,h.at_ 15,h.at_ 16,h.at_ 17,h.at_ 18,h.at_ 19,h.at_ 20,h.at_ 21,h.at_ 22,h.at_ 23⟩
theorem Jh.v36_2{w:World}{p:Nat}{x0 x1 x2 x3 x4 x5 x6 x7 x8:R4}(h:Jh w p [Ji Jl x0.1,Jp x0.2.1,Ji Jl x0.2.2.1,Jp x0.2.2.2,Ji Jl x1.1,Jp x1.2.1,Ji Jl x1.2.2.1,Jp x1.2.2.2,Ji Jl x2.1,Jp x2.2.1,Ji Jl x2.2.2.1,Jp x2.2.2.2,Ji Jl x3.1,Jp x3.2.1,Ji Jl x3.2.2.1,Jp x3.2.2.2,Ji Jl x4.1,Jp x4.2.1,Ji Jl x4.2.2.1,Jp x4.2.2.2,Ji Jl x5.1,Jp x5.2.1,Ji Jl x5.2.2.1,Jp x5.2.2.2,Ji Jl x6.1,Jp x6.2.1,Ji Jl x6.2.2.1,Jp x6.2.2.2,Ji Jl x7.1,Jp x7.2.1,Ji Jl x7.2.2.1,Jp x7.2.2.2,Ji Jl x8.1,Jp x8.2.1,Ji Jl x8.2.2.1,Jp x8.2.2.2]):w.cell? ⟨p,24,Jn⟩=Jo (Ji Jl x6.1)/\w.cell? ⟨p,25,Jn⟩=Jo (Jp x6.2.1)/\w.cell? ⟨p,26,Jn⟩=Jo (Ji Jl x6.2.2.1)/\w.cell? ⟨p,27,Jn⟩=Jo (Jp x6.2.2.2)/\w.cell? ⟨p,28,Jn⟩=Jo (Ji Jl x7.1)/\w.cell? ⟨p,29,Jn⟩=Jo (Jp x7.2.1)/\w.cell? ⟨p,30,Jn⟩=Jo (Ji Jl x7.2.2.1)/\w.cell? ⟨p,31,Jn⟩=Jo (Jp x7.2.2.2)/\w.cell? ⟨p,32,Jn⟩=Jo (Ji Jl x8.1)/\w.cell? ⟨p,33,Jn⟩=Jo (Jp x8.2.1)/\w.cell? ⟨p,34,Jn⟩=Jo (Ji Jl x8.2.2.1)/\w.cell? ⟨p,35,Jn⟩=Jo (Jp x8.2.2.2):=⟨h.at_ 24,h.at_ 25,h.at_ 26,h.at_ 27,h.at_ 28,h.at_ 29,h.at_ 30,h.at_ 31,h.at_ 32,h.at_ 33,h.at_ 34,h.at_ 35⟩
theorem Mr(n0 n1 n2 d r m0 m1 m2 e f ka0 ka1 ka2:Int)(w:World)(g0:Sm n0 n1 n2 d r)(g1:Sm m0 m1 m2 e f)(hka0:I64 ka0)(hka1:I64 ka1)(hka2:I64 ka2)(hg:Good w) :
  Calls Tryz.prog 8 #[smV n0 n1 n2 d,smV m0 m1 m2 e,Ja #[Ji Jl ka0,Ji Jl ka1,Ji Jl ka2]] w fun E w'=>E= .returned (.bool true)/\Below w.heap.size w w':=by
 have Hw:=Lh (fun w' (hb:Below w.heap.size w w')=>hg.below hb);have kb:=(((M2 w.heap.size w).alloc (M3 _) (Jc #[Ji .i8 n0,Ji .i8 n1,Ji .i8 n2,Ji .u8 d] 44)).alloc (by simp) (Jc #[Ji .i8 m0,Ji .i8 m1,Ji .i8 m2,Ji .u8 e] 44)).alloc (by simp;omega) (Jc #[Ji Jl ka0,Ji Jl ka1,Ji Jl ka2] 40);have C0:=((Jh.new w #[Ji .i8 n0,Ji .i8 n1,Ji .i8 n2,Ji .u8 d] 44).keep ((M2 _ _).alloc (M3 _) (Jc #[Ji .i8 m0,Ji .i8 m1,Ji .i8 m2,Ji .u8 e] 44))).keep ((M2 _ _).alloc (M3 _) (Jc #[Ji Jl ka0,Ji Jl ka1,Ji Jl ka2] 40));have C1:=(Jh.new (w.alloc (Jc #[Ji .i8 n0,Ji .i8 n1,Ji .i8 n2,Ji .u8 d] 44)) #[Ji .i8 m0,Ji .i8 m1,Ji .i8 m2,Ji .u8 e] 44).keep ((M2 _ _).alloc (M3 _) (Jc #[Ji Jl ka0,Ji Jl ka1,Ji Jl ka2] 40));have C2:=Jh.new ((w.alloc (Jc #[Ji .i8 n0,Ji .i8 n1,Ji .i8 n2,Ji .u8 d] 44)).alloc (Jc #[Ji .i8 m0,Ji .i8 m1,Ji .i8 m2,Ji .u8 e] 44)) #[Ji Jl ka0,Ji Jl ka1,Ji Jl ka2] 40;simp only[World.size_alloc]at C1 C2;have F0:Few3 4 (Qc n0 r) (Qc n1 r) (Qc n2 r):=⟨(GK g0.x0 g0.x1 g0.r0 g0.r1).2.2,(GK g0.y0 g0.y1 g0.r0 g0.r1).2.2,(GK g0.z0 g0.z1 g0.r0 g0.r1).2.2⟩;have HM0:=fun w' (hb:Below w.heap.size w w')=>Mm n0 n1 n2 d r w' g0 (hg.below hb);have HT0:=fun w'=>Fl n0 n1 n2 d r w' g0;unfold smV at HM0 HT0;generalize Qc n0 r=i_0 at HM0 HT0 F0;generalize Qc n1 r=i_1 at HM0 HT0 F0;generalize Qc n2 r=i_2 at HM0 HT0 F0;have F1:Few3 4 (Qc m0 f) (Qc m1 f) (Qc m2 f):=⟨(GK g1.x0 g1.x1 g1.r0 g1.r1).2.2,(GK g1.y0 g1.y1 g1.r0 g1.r1).2.2,(GK g1.z0 g1.z1 g1.r0 g1.r1).2.2⟩;have HM1:=fun w' (hb:Below w.heap.size w w')=>Mm m0 m1 m2 e f w' g1 (hg.below hb)
 have HT1:=fun w'=>Fl m0 m1 m2 e f w' g1;unfold smV at HM1 HT1;generalize Qc m0 f=j_0 at HM1 HT1 F1;generalize Qc m1 f=j_1 at HM1 HT1 F1;generalize Qc m2 f=j_2 at HM1 HT1 F1;have F2:Few3 20 ((ka0:Int):Rat) ((ka1:Int):Rat) ((ka2:Int):Rat):=⟨few_i64 hka0,few_i64 hka1,few_i64 hka2⟩;have HM2:=fun w' (_:Below w.heap.size w w')=>VM ka0 ka1 ka2 w' hka0 hka1 hka2;have HT2:=fun w'=>Mi ka0 ka1 ka2 w' hka0 hka1 hka2;rw[←Qs ka0,←Qs ka1,←Qs ka2]at HT2;generalize ((ka0:Int):Rat)=l_0 at HM2 HT2 F2;generalize ((ka1:Int):Rat)=l_1 at HM2 HT2 F2;generalize ((ka2:Int):Rat)=l_2 at HM2 HT2 F2;have HZ0:=fun v=>U3 (Jj i_0) (Jj i_1) (Jj i_2) i_0 i_1 i_2 v rfl rfl rfl;have HPZ0:=fun(h:QW i_0 i_1 i_2=true) (x0 x1 x2:R4) v (hx:VecV v x0 x1 x2 i_0 i_1 i_2)=>NR x0 x1 x2 i_0 i_1 i_2 v hx (F0.mid (by decide)) h;have HP0:=fun(h:QW i_0 i_1 i_2=false) (x0 x1 x2:R4) v (hb:Below w.heap.size w v) (hx:VecV v x0 x1 x2 i_0 i_1 i_2)=>Mh x0 x1 x2 i_0 i_1 i_2 4 v hx F0 (by decide) h (Hw.out _ hb);have HRP0:=fun(h:QW i_0 i_1 i_2=false) v=>Nf F0 (by decide) (EX h) v;have FP0:=fun(h:QW i_0 i_1 i_2=false)=>Ml F0 (EX h);have PP0:=fun(h:QW i_0 i_1 i_2=false)=>Mk h;generalize M4 (unK (qK i_0 i_1 i_2) 3) (ovK (qK i_0 i_1 i_2) 3)*i_0=pi_0 at HP0 HRP0 FP0 PP0;generalize M4 (unK (qK i_0 i_1 i_2) 3) (ovK (qK i_0 i_1 i_2) 3)*i_1=pi_1 at HP0 HRP0 FP0 PP0;generalize M4 (unK (qK i_0 i_1 i_2) 3) (ovK (qK i_0 i_1 i_2) 3)*i_2=pi_2 at HP0 HRP0 FP0 PP0;have HIS0:=fun(h:QW i_0 i_1 i_2=false) (x0 x1 x2:R4) v (hb:Below w.heap.size w v) (hx:VecV v x0 x1 x2 pi_0 pi_1 pi_2)=>isT_any x0 x1 x2 pi_0 pi_1 pi_2 _ _ _ _ v hx (FP0 h) (by decide) rfl rfl rfl (Hw.out _ hb)
 have HPA0:=fun(h:QW i_0 i_1 i_2=false) (x0 x1 x2 y0 y1 y2:R4) v (hb:Below w.heap.size w v) (hx:VecV v x0 x1 x2 pi_0 pi_1 pi_2) (hy:VecV v y0 y1 y2 i_0 i_1 i_2)=>(show Calls Tryz.prog 49 #[Jv x0 x1 x2,Jv y0 y1 y2] v (fun e w'=>e= .returned (.bool true)/\Below v.heap.size v w')from PP0 h ▸ Mj x0 x1 x2 y0 y1 y2 pi_0 pi_1 pi_2 i_0 i_1 i_2 _ 4 v hx hy (FP0 h) F0 (by decide) (Hw.out _ hb));generalize Jj pi_0=yi0 at HRP0 HIS0;generalize Jj pi_1=yi1 at HRP0 HIS0;generalize Jj pi_2=yi2 at HRP0 HIS0;have HZ1:=fun v=>U3 (Jj j_0) (Jj j_1) (Jj j_2) j_0 j_1 j_2 v rfl rfl rfl;have HPZ1:=fun(h:QW j_0 j_1 j_2=true) (x0 x1 x2:R4) v (hx:VecV v x0 x1 x2 j_0 j_1 j_2)=>NR x0 x1 x2 j_0 j_1 j_2 v hx (F1.mid (by decide)) h;have HP1:=fun(h:QW j_0 j_1 j_2=false) (x0 x1 x2:R4) v (hb:Below w.heap.size w v) (hx:VecV v x0 x1 x2 j_0 j_1 j_2)=>Mh x0 x1 x2 j_0 j_1 j_2 4 v hx F1 (by decide) h (Hw.out _ hb);have HRP1:=fun(h:QW j_0 j_1 j_2=false) v=>Nf F1 (by decide) (EX h) v;have FP1:=fun(h:QW j_0 j_1 j_2=false)=>Ml F1 (EX h);have PP1:=fun(h:QW j_0 j_1 j_2=false)=>Mk h;generalize M4 (unK (qK j_0 j_1 j_2) 3) (ovK (qK j_0 j_1 j_2) 3)*j_0=pj_0 at HP1 HRP1 FP1 PP1;generalize M4 (unK (qK j_0 j_1 j_2) 3) (ovK (qK j_0 j_1 j_2) 3)*j_1=pj_1 at HP1 HRP1 FP1 PP1;generalize M4 (unK (qK j_0 j_1 j_2) 3) (ovK (qK j_0 j_1 j_2) 3)*j_2=pj_2 at HP1 HRP1 FP1 PP1;have HIS1:=fun(h:QW j_0 j_1 j_2=false) (x0 x1 x2:R4) v (hb:Below w.heap.size w v) (hx:VecV v x0 x1 x2 pj_0 pj_1 pj_2)=>isT_any x0 x1 x2 pj_0 pj_1 pj_2 _ _ _ _ v hx (FP1 h) (by decide) rfl rfl rfl (Hw.out _ hb)
 have HPA1:=fun(h:QW j_0 j_1 j_2=false) (x0 x1 x2 y0 y1 y2:R4) v (hb:Below w.heap.size w v) (hx:VecV v x0 x1 x2 pj_0 pj_1 pj_2) (hy:VecV v y0 y1 y2 j_0 j_1 j_2)=>(show Calls Tryz.prog 49 #[Jv x0 x1 x2,Jv y0 y1 y2] v (fun e w'=>e= .returned (.bool true)/\Below v.heap.size v w')from PP1 h ▸ Mj x0 x1 x2 y0 y1 y2 pj_0 pj_1 pj_2 j_0 j_1 j_2 _ 4 v hx hy (FP1 h) F1 (by decide) (Hw.out _ hb));generalize Jj pj_0=yj0 at HRP1 HIS1;generalize Jj pj_1=yj1 at HRP1 HIS1;generalize Jj pj_2=yj2 at HRP1 HIS1;have HZ2:=fun v=>U3 (Jj l_0) (Jj l_1) (Jj l_2) l_0 l_1 l_2 v rfl rfl rfl;have HPZ2:=fun(h:QW l_0 l_1 l_2=true) (x0 x1 x2:R4) v (hx:VecV v x0 x1 x2 l_0 l_1 l_2)=>NR x0 x1 x2 l_0 l_1 l_2 v hx (F2.mid (by decide)) h;have HP2:=fun(h:QW l_0 l_1 l_2=false) (x0 x1 x2:R4) v (hb:Below w.heap.size w v) (hx:VecV v x0 x1 x2 l_0 l_1 l_2)=>Mh x0 x1 x2 l_0 l_1 l_2 20 v hx F2 (by decide) h (Hw.out _ hb);have HRP2:=fun(h:QW l_0 l_1 l_2=false) v=>Nf F2 (by decide) (EX h) v;have FP2:=fun(h:QW l_0 l_1 l_2=false)=>Ml F2 (EX h);have PP2:=fun(h:QW l_0 l_1 l_2=false)=>Mk h;generalize M4 (unK (qK l_0 l_1 l_2) 3) (ovK (qK l_0 l_1 l_2) 3)*l_0=pl_0 at HP2 HRP2 FP2 PP2;generalize M4 (unK (qK l_0 l_1 l_2) 3) (ovK (qK l_0 l_1 l_2) 3)*l_1=pl_1 at HP2 HRP2 FP2 PP2;generalize M4 (unK (qK l_0 l_1 l_2) 3) (ovK (qK l_0 l_1 l_2) 3)*l_2=pl_2 at HP2 HRP2 FP2 PP2;have HIS2:=fun(h:QW l_0 l_1 l_2=false) (x0 x1 x2:R4) v (hb:Below w.heap.size w v) (hx:VecV v x0 x1 x2 pl_0 pl_1 pl_2)=>isT_any x0 x1 x2 pl_0 pl_1 pl_2 _ _ _ _ v hx (FP2 h) (by decide) rfl rfl rfl (Hw.out _ hb)
 have HPA2:=fun(h:QW l_0 l_1 l_2=false) (x0 x1 x2 y0 y1 y2:R4) v (hb:Below w.heap.size w v) (hx:VecV v x0 x1 x2 pl_0 pl_1 pl_2) (hy:VecV v y0 y1 y2 l_0 l_1 l_2)=>(show Calls Tryz.prog 49 #[Jv x0 x1 x2,Jv y0 y1 y2] v (fun e w'=>e= .returned (.bool true)/\Below v.heap.size v w')from PP2 h ▸ Mj x0 x1 x2 y0 y1 y2 pl_0 pl_1 pl_2 l_0 l_1 l_2 _ 20 v hx hy (FP2 h) F2 (by decide) (Hw.out _ hb));generalize Jj pl_0=yl0 at HRP2 HIS2;generalize Jj pl_1=yl1 at HRP2 HIS2;generalize Jj pl_2=yl2 at HRP2 HIS2;have HV0:=fun(x0 x1 x2 y0 y1 y2:R4) v (hb:Below w.heap.size w v) (hx:VecV v x0 x1 x2 i_0 i_1 i_2) (hy:VecV v y0 y1 y2 j_0 j_1 j_2)=>Mj x0 x1 x2 y0 y1 y2 i_0 i_1 i_2 j_0 j_1 j_2 4 4 v hx hy F0 F1 (by decide) (Hw.out _ hb);have HR0:=fun v=>Fw F0 F1 (by decide) v;generalize parV i_0 i_1 i_2 j_0 j_1 j_2=pr0 at HV0 HR0;have HV1:=fun(x0 x1 x2 y0 y1 y2:R4) v (hb:Below w.heap.size w v) (hx:VecV v x0 x1 x2 j_0 j_1 j_2) (hy:VecV v y0 y1 y2 l_0 l_1 l_2)=>Mj x0 x1 x2 y0 y1 y2 j_0 j_1 j_2 l_0 l_1 l_2 4 20 v hx hy F1 F2 (by decide) (Hw.out _ hb);have HR1:=fun v=>Fw F1 F2 (by decide) v;generalize parV j_0 j_1 j_2 l_0 l_1 l_2=pr1 at HV1 HR1;have HV2:=fun(x0 x1 x2 y0 y1 y2:R4) v (hb:Below w.heap.size w v) (hx:VecV v x0 x1 x2 l_0 l_1 l_2) (hy:VecV v y0 y1 y2 i_0 i_1 i_2)=>Mj x0 x1 x2 y0 y1 y2 l_0 l_1 l_2 i_0 i_1 i_2 20 4 v hx hy F2 F0 (by decide) (Hw.out _ hb);have HR2:=fun v=>Fw F2 F0 (by decide) v;generalize parV l_0 l_1 l_2 i_0 i_1 i_2=pr2 at HV2 HR2;obtain⟨z0,hz0⟩:∃z,QW i_0 i_1 i_2=z:=⟨_,rfl⟩;rw[hz0]at HZ0 HPZ0 HP0 HRP0 HIS0 HPA0
 generalize Jj i_0=si0 at HT0 HZ0 HRP0 HR0 HR2;generalize Jj i_1=si1 at HT0 HZ0 HRP0 HR0 HR2;generalize Jj i_2=si2 at HT0 HZ0 HRP0 HR0 HR2;obtain⟨z1,hz1⟩:∃z,QW j_0 j_1 j_2=z:=⟨_,rfl⟩;rw[hz1]at HZ1 HPZ1 HP1 HRP1 HIS1 HPA1;generalize Jj j_0=sj0 at HT1 HZ1 HRP1 HR1 HR0;generalize Jj j_1=sj1 at HT1 HZ1 HRP1 HR1 HR0;generalize Jj j_2=sj2 at HT1 HZ1 HRP1 HR1 HR0;obtain⟨z2,hz2⟩:∃z,QW l_0 l_1 l_2=z:=⟨_,rfl⟩;rw[hz2]at HZ2 HPZ2 HP2 HRP2 HIS2 HPA2;generalize Jj l_0=sl0 at HT2 HZ2 HRP2 HR2 HR1;generalize Jj l_1=sl1 at HT2 HZ2 HRP2 HR2 HR1;generalize Jj l_2=sl2 at HT2 HZ2 HRP2 HR2 HR1;have HZZ:=Lh (fun (x0 x1 x2:R4) v (h:x0=Jm/\x1=Jm/\x2=Jm)=>(show Calls Tryz.prog 42 #[Ja #[Ji Jl x0.1,Jp x0.2.1,Ji Jl x0.2.2.1,Jp x0.2.2.2,Ji Jl x1.1,Jp x1.2.1,Ji Jl x1.2.2.1,Jp x1.2.2.2,Ji Jl x2.1,Jp x2.2.1,Ji Jl x2.2.2.1,Jp x2.2.2.2]] v (fun e w'=>e= .returned (.bool true)/\Below v.heap.size v w') from by
  obtain⟨rfl,rfl,rfl⟩:=h;exact Ug Jm Jm Jm 0 0 0 v ⟨VW v,VW v,VW v⟩ (Few3.mid (k:=1) ⟨few0,few0,few0⟩ (by decide))))
 unfold Jv at HPZ0 HIS0 HPA0 HV0;replace HM0:=Lh HM0;replace HT0:=Lh HT0;replace HZ0:=Lh HZ0;replace HPZ0:=Lh HPZ0;replace HP0:=Lh HP0;replace HRP0:=Lh HRP0;replace HIS0:=Lh HIS0;replace HPA0:=Lh HPA0;replace HV0:=Lh HV0;replace HR0:=Lh HR0;unfold Jv at HPZ1 HIS1 HPA1 HV1;replace HM1:=Lh HM1;replace HT1:=Lh HT1;replace HZ1:=Lh HZ1;replace HPZ1:=Lh HPZ1;replace HP1:=Lh HP1;replace HRP1:=Lh HRP1;replace HIS1:=Lh HIS1;replace HPA1:=Lh HPA1;replace HV1:=Lh HV1;replace HR1:=Lh HR1;unfold Jv at HPZ2 HIS2 HPA2 HV2;replace HM2:=Lh HM2;replace HT2:=Lh HT2;replace HZ2:=Lh HZ2;replace HPZ2:=Lh HPZ2;replace HP2:=Lh HP2;replace HRP2:=Lh HRP2;replace HIS2:=Lh HIS2;replace HPA2:=Lh HPA2;replace HV2:=Lh HV2;replace HR2:=Lh HR2;clear g0 g1 hka0 hka1 hka2 hg F0 F1 F2 FP0 FP1 FP2 PP0 PP1 PP2 hz0 hz1 hz2;obtain⟨W,hW⟩:∃u,((w.alloc (Jc #[Ji .i8 n0,Ji .i8 n1,Ji .i8 n2,Ji .u8 d] 44)).alloc (Jc #[Ji .i8 m0,Ji .i8 m1,Ji .i8 m2,Ji .u8 e] 44)).alloc (Jc #[Ji Jl ka0,Ji Jl ka1,Ji Jl ka2] 40)=u:=⟨_,rfl⟩;rw[hW]at kb C0 C1 C2;have C0:=Lh C0;have C1:=Lh C1;have C2:=Lh (show Jh W (w.heap.size+1+1) [Ji Jl ka0,Ji Jl ka1,Ji Jl ka2]from C2);have K0:=Lh kb;have HK:=Lh (fun w' (hb:Below w.heap.size w w')=>NP w' (Hw.out _ hb));clear kb;unfold smV;go_enter Tryz.func8,Tryz.ntmps8;go_wp2_with fail
 try simp only[hW]
 refine(HK.out _ K0.out).mono ?_;rintro E w1⟨rfl,g⟩;have C0:=Lh (C0.out.keep g);have C1:=Lh (C1.out.keep g);have C2:=Lh (C2.out.keep g);have K0:=Lh (Jd K0.out g);clear hW HK g;have HS:=Lh (fun w' (hb:Below w1.heap.size w1 w')=>(⟨(C0.out.keep hb).at_ 0,(C0.out.keep hb).at_ 1,(C0.out.keep hb).at_ 2,(C0.out.keep hb).at_ 3,(C1.out.keep hb).at_ 0,(C1.out.keep hb).at_ 1,(C1.out.keep hb).at_ 2,(C1.out.keep hb).at_ 3,(C2.out.keep hb).at_ 0,(C2.out.keep hb).at_ 1,(C2.out.keep hb).at_ 2⟩:w'.cell? ⟨w.heap.size,0,Jn⟩=Jo (Ji .i8 n0)/\w'.cell? ⟨w.heap.size,1,Jn⟩=Jo (Ji .i8 n1)/\w'.cell? ⟨w.heap.size,2,Jn⟩=Jo (Ji .i8 n2)/\w'.cell? ⟨w.heap.size,3,Jn⟩=Jo (Ji .u8 d)/\w'.cell? ⟨w.heap.size+1,0,Jn⟩=Jo (Ji .i8 m0)/\w'.cell? ⟨w.heap.size+1,1,Jn⟩=Jo (Ji .i8 m1)/\w'.cell? ⟨w.heap.size+1,2,Jn⟩=Jo (Ji .i8 m2)/\w'.cell? ⟨w.heap.size+1,3,Jn⟩=Jo (Ji .u8 e)/\w'.cell? ⟨w.heap.size+1+1,0,Jn⟩=Jo (Ji Jl ka0)/\w'.cell? ⟨w.heap.size+1+1,1,Jn⟩=Jo (Ji Jl ka1)/\w'.cell? ⟨w.heap.size+1+1,2,Jn⟩=Jo (Ji Jl ka2)));go_upto_region 3 with fail
 refine Till.begin 6 (fun w'=>w'.cell? ⟨w.heap.size,0,Jn⟩=Jo (Ji .i8 n0)/\w'.cell? ⟨w.heap.size,1,Jn⟩=Jo (Ji .i8 n1)/\w'.cell? ⟨w.heap.size,2,Jn⟩=Jo (Ji .i8 n2)/\w'.cell? ⟨w.heap.size,3,Jn⟩=Jo (Ji .u8 d)/\w'.cell? ⟨w.heap.size+1,0,Jn⟩=Jo (Ji .i8 m0)/\w'.cell? ⟨w.heap.size+1,1,Jn⟩=Jo (Ji .i8 m1)/\w'.cell? ⟨w.heap.size+1,2,Jn⟩=Jo (Ji .i8 m2)/\w'.cell? ⟨w.heap.size+1,3,Jn⟩=Jo (Ji .u8 e)/\w'.cell? ⟨w.heap.size+1+1,0,Jn⟩=Jo (Ji Jl ka0)/\w'.cell? ⟨w.heap.size+1+1,1,Jn⟩=Jo (Ji Jl ka1)/\w'.cell? ⟨w.heap.size+1+1,2,Jn⟩=Jo (Ji Jl ka2)) (by kernel_rfl) (HS.out _ (M2 _ _).drew) (fun hH=>?_);clear hH;have HB:=Lh (M2 w1.heap.size w1).drew;generalize w1.drew=v0 at HB ⊢;try simp only[Pls]
 refine Till.tk 0 1 15 (Ja #[Ji .i8 n0,Ji .i8 n1,Ji .i8 n2,Ji .u8 d]) (HS.out _ HB.out) ?_;try simp only[M0,Pls]
 refine Till.tk 2 3 17 (Ja #[Ji .i8 m0,Ji .i8 m1,Ji .i8 m2,Ji .u8 e]) (HS.out _ HB.out) ?_;try simp only[M0,Pls]
 refine Till.tk 4 5 19 (Ja #[Ji Jl ka0,Ji Jl ka1,Ji Jl ka2]) (HS.out _ HB.out) ?_;try simp only[M0,Pls]
 refine Till.one (i:=1) (by kernel_rfl) rfl (fun K hK=>?_);go_simp;refine(HT0.out _).mono ?_;rintro e v1⟨rfl,g⟩;replace HB:=Lh (Jd HB.out g);clear g;go_wp2_with fail
 refine hK.out _ _ (fun _=>HS.out _ HB.out) ?_;clear hK K;try simp only[Pls]
 refine Till.one (i:=3) (by kernel_rfl) rfl (fun K hK=>?_);go_simp;refine(HT1.out _).mono ?_;rintro e v2⟨rfl,g⟩;replace HB:=Lh (Jd HB.out g);clear g;go_wp2_with fail
 refine hK.out _ _ (fun _=>HS.out _ HB.out) ?_;clear hK K;try simp only[Pls]
 refine Till.one (i:=5) (by kernel_rfl) rfl (fun K hK=>?_);go_simp;refine(HT2.out _).mono ?_;rintro e v3⟨rfl,g⟩;replace HB:=Lh (Jd HB.out g);clear g;go_wp2_with fail
 refine hK.out _ _ (fun _=>HS.out _ HB.out) ?_;clear hK K;try simp only[Pls]
 refine Till.one (i:=6) (by kernel_rfl) rfl (fun K hK=>?_);go_simp;refine hK.out _ _ (fun h=>absurd h (by simp)) ?_;clear hK K;try simp only[Pls]
 refine Till.one (i:=7) (by kernel_rfl) rfl (fun K hK=>?_);go_simp;refine hK.out _ _ (fun h=>absurd h (by simp)) ?_;clear hK K;try simp only[Pls]
 refine Till.done (by kernel_rfl) ?_ _;have kv:=(M2 v3.heap.size v3).alloc (M3 _) (Jc #[Js si0,Js si1,Js si2,Js sj0,Js sj1,Js sj2,Js sl0,Js sl1,Js sl2] 48);have hL:=Jh.new v3 #[Js si0,Js si1,Js si2,Js sj0,Js sj1,Js sj2,Js sl0,Js sl1,Js sl2] 48;have hb2:=Jd HB.out kv;obtain⟨gL,hgL⟩:∃p,v3.heap.size=p:=⟨_,rfl⟩;obtain⟨W3,hW3⟩:∃u,v3.alloc (Jc #[Js si0,Js si1,Js si2,Js sj0,Js sj1,Js sj2,Js sl0,Js sl1,Js sl2] 48)=u:=⟨_,rfl⟩;rw[hW3]at hb2 hL kv;rw[hgL]at hL;have SL:=Lh hL;replace C0:=Lh (C0.out.keep hb2);replace C1:=Lh (C1.out.keep hb2);replace C2:=Lh (C2.out.keep hb2);replace K0:=Lh (Jd K0.out hb2);clear hL hb2 kv HS HB HT0 HT1 HT2;have HS:=Lh (fun w' (hb:Below W3.heap.size W3 w')=>(⟨(C0.out.keep hb).at_ 0,(C0.out.keep hb).at_ 1,(C0.out.keep hb).at_ 2,(C0.out.keep hb).at_ 3,(C1.out.keep hb).at_ 0,(C1.out.keep hb).at_ 1,(C1.out.keep hb).at_ 2,(C1.out.keep hb).at_ 3,(C2.out.keep hb).at_ 0,(C2.out.keep hb).at_ 1,(C2.out.keep hb).at_ 2⟩:w'.cell? ⟨w.heap.size,0,Jn⟩=Jo (Ji .i8 n0)/\w'.cell? ⟨w.heap.size,1,Jn⟩=Jo (Ji .i8 n1)/\w'.cell? ⟨w.heap.size,2,Jn⟩=Jo (Ji .i8 n2)/\w'.cell? ⟨w.heap.size,3,Jn⟩=Jo (Ji .u8 d)/\w'.cell? ⟨w.heap.size+1,0,Jn⟩=Jo (Ji .i8 m0)/\w'.cell? ⟨w.heap.size+1,1,Jn⟩=Jo (Ji .i8 m1)/\w'.cell? ⟨w.heap.size+1,2,Jn⟩=Jo (Ji .i8 m2)/\w'.cell? ⟨w.heap.size+1,3,Jn⟩=Jo (Ji .u8 e)/\w'.cell? ⟨w.heap.size+1+1,0,Jn⟩=Jo (Ji Jl ka0)/\w'.cell? ⟨w.heap.size+1+1,1,Jn⟩=Jo (Ji Jl ka1)/\w'.cell? ⟨w.heap.size+1+1,2,Jn⟩=Jo (Ji Jl ka2)));go_upto_region 4 with fail
 try simp only[hgL,hW3]
 clear hgL hW3;refine Till.begin 6 (fun w'=>w'.cell? ⟨w.heap.size,0,Jn⟩=Jo (Ji .i8 n0)/\w'.cell? ⟨w.heap.size,1,Jn⟩=Jo (Ji .i8 n1)/\w'.cell? ⟨w.heap.size,2,Jn⟩=Jo (Ji .i8 n2)/\w'.cell? ⟨w.heap.size,3,Jn⟩=Jo (Ji .u8 d)/\w'.cell? ⟨w.heap.size+1,0,Jn⟩=Jo (Ji .i8 m0)/\w'.cell? ⟨w.heap.size+1,1,Jn⟩=Jo (Ji .i8 m1)/\w'.cell? ⟨w.heap.size+1,2,Jn⟩=Jo (Ji .i8 m2)/\w'.cell? ⟨w.heap.size+1,3,Jn⟩=Jo (Ji .u8 e)/\w'.cell? ⟨w.heap.size+1+1,0,Jn⟩=Jo (Ji Jl ka0)/\w'.cell? ⟨w.heap.size+1+1,1,Jn⟩=Jo (Ji Jl ka1)/\w'.cell? ⟨w.heap.size+1+1,2,Jn⟩=Jo (Ji Jl ka2)) (by kernel_rfl) (HS.out _ (M2 _ _).drew) (fun hH=>?_);clear hH;have HB:=Lh (M2 W3.heap.size W3).drew;generalize W3.drew=v0 at HB ⊢;try simp only[Pls]
 refine Till.tk 0 1 22 (Ja #[Ji .i8 n0,Ji .i8 n1,Ji .i8 n2,Ji .u8 d]) (HS.out _ HB.out) ?_;try simp only[M0,Pls]
 refine Till.tk 2 3 24 (Ja #[Ji .i8 m0,Ji .i8 m1,Ji .i8 m2,Ji .u8 e]) (HS.out _ HB.out) ?_;try simp only[M0,Pls]
 refine Till.tk 4 5 26 (Ja #[Ji Jl ka0,Ji Jl ka1,Ji Jl ka2]) (HS.out _ HB.out) ?_;try simp only[M0,Pls]
 refine Till.one (i:=1) (by kernel_rfl) rfl (fun K hK=>?_);go_simp;refine(HM0.out _ (Jd K0.out HB.out)).mono ?_;rintro e v1⟨xi0,xi1,xi2,rfl,hx,g⟩;replace HB:=Lh (Jd HB.out g);have Vi:=Lh hx;clear hx;unfold Jv;clear g;go_wp2_with fail
 refine hK.out _ _ (fun _=>HS.out _ HB.out) ?_;clear hK K;try simp only[Pls]
 refine Till.one (i:=3) (by kernel_rfl) rfl (fun K hK=>?_);go_simp;refine(HM1.out _ (Jd K0.out HB.out)).mono ?_;rintro e v2⟨xj0,xj1,xj2,rfl,hx,g⟩;replace HB:=Lh (Jd HB.out g);have Vj:=Lh hx;clear hx;unfold Jv;replace Vi:=Lh (Vi.out.keep g);clear g;go_wp2_with fail
 refine hK.out _ _ (fun _=>HS.out _ HB.out) ?_;clear hK K;try simp only[Pls]
 refine Till.one (i:=5) (by kernel_rfl) rfl (fun K hK=>?_);go_simp;refine(HM2.out _ (Jd K0.out HB.out)).mono ?_;rintro e v3⟨xl0,xl1,xl2,rfl,hx,g⟩;replace HB:=Lh (Jd HB.out g);have Vl:=Lh hx;clear hx;unfold Jv;replace Vi:=Lh (Vi.out.keep g);replace Vj:=Lh (Vj.out.keep g);clear g;go_wp2_with fail
 refine hK.out _ _ (fun _=>HS.out _ HB.out) ?_;clear hK K;try simp only[Pls]
 refine Till.one (i:=6) (by kernel_rfl) rfl (fun K hK=>?_);go_simp;refine hK.out _ _ (fun h=>absurd h (by simp)) ?_;clear hK K;try simp only[Pls]
 refine Till.one (i:=7) (by kernel_rfl) rfl (fun K hK=>?_);go_simp;refine hK.out _ _ (fun h=>absurd h (by simp)) ?_;clear hK K;try simp only[Pls]
 refine Till.done (by kernel_rfl) ?_ _;have kv:=(M2 v3.heap.size v3).alloc (M3 _) (Jc #[Ji Jl xi0.1,Jp xi0.2.1,Ji Jl xi0.2.2.1,Jp xi0.2.2.2,Ji Jl xi1.1,Jp xi1.2.1,Ji Jl xi1.2.2.1,Jp xi1.2.2.2,Ji Jl xi2.1,Jp xi2.2.1,Ji Jl xi2.2.2.1,Jp xi2.2.2.2,Ji Jl xj0.1,Jp xj0.2.1,Ji Jl xj0.2.2.1,Jp xj0.2.2.2,Ji Jl xj1.1,Jp xj1.2.1,Ji Jl xj1.2.2.1,Jp xj1.2.2.2,Ji Jl xj2.1,Jp xj2.2.1,Ji Jl xj2.2.2.1,Jp xj2.2.2.2,Ji Jl xl0.1,Jp xl0.2.1,Ji Jl xl0.2.2.1,Jp xl0.2.2.2,Ji Jl xl1.1,Jp xl1.2.1,Ji Jl xl1.2.2.1,Jp xl1.2.2.2,Ji Jl xl2.1,Jp xl2.2.1,Ji Jl xl2.2.2.1,Jp xl2.2.2.2] 32);have hL:=Jh.new v3 #[Ji Jl xi0.1,Jp xi0.2.1,Ji Jl xi0.2.2.1,Jp xi0.2.2.2,Ji Jl xi1.1,Jp xi1.2.1,Ji Jl xi1.2.2.1,Jp xi1.2.2.2,Ji Jl xi2.1,Jp xi2.2.1,Ji Jl xi2.2.2.1,Jp xi2.2.2.2,Ji Jl xj0.1,Jp xj0.2.1,Ji Jl xj0.2.2.1,Jp xj0.2.2.2,Ji Jl xj1.1,Jp xj1.2.1,Ji Jl xj1.2.2.1,Jp xj1.2.2.2,Ji Jl xj2.1,Jp xj2.2.1,Ji Jl xj2.2.2.1,Jp xj2.2.2.2,Ji Jl xl0.1,Jp xl0.2.1,Ji Jl xl0.2.2.1,Jp xl0.2.2.2,Ji Jl xl1.1,Jp xl1.2.1,Ji Jl xl1.2.2.1,Jp xl1.2.2.2,Ji Jl xl2.1,Jp xl2.2.1,Ji Jl xl2.2.2.1,Jp xl2.2.2.2] 32;have hb2:=Jd HB.out kv;obtain⟨gW,hgW⟩:∃p,v3.heap.size=p:=⟨_,rfl⟩;obtain⟨W4,hW4⟩:∃u,v3.alloc (Jc #[Ji Jl xi0.1,Jp xi0.2.1,Ji Jl xi0.2.2.1,Jp xi0.2.2.2,Ji Jl xi1.1,Jp xi1.2.1,Ji Jl xi1.2.2.1,Jp xi1.2.2.2,Ji Jl xi2.1,Jp xi2.2.1,Ji Jl xi2.2.2.1,Jp xi2.2.2.2,Ji Jl xj0.1,Jp xj0.2.1,Ji Jl xj0.2.2.1,Jp xj0.2.2.2,Ji Jl xj1.1,Jp xj1.2.1,Ji Jl xj1.2.2.1,Jp xj1.2.2.2,Ji Jl xj2.1,Jp xj2.2.1,Ji Jl xj2.2.2.1,Jp xj2.2.2.2,Ji Jl xl0.1,Jp xl0.2.1,Ji Jl xl0.2.2.1,Jp xl0.2.2.2,Ji Jl xl1.1,Jp xl1.2.1,Ji Jl xl1.2.2.1,Jp xl1.2.2.2,Ji Jl xl2.1,Jp xl2.2.1,Ji Jl xl2.2.2.1,Jp xl2.2.2.2] 32)=u:=⟨_,rfl⟩
 rw[hW4]at hb2 hL kv;rw[hgW]at hL;have WL:=Lh hL;replace SL:=Lh (SL.out.keep hb2);replace K0:=Lh (Jd K0.out hb2);replace Vi:=Lh (Vi.out.keep kv);replace Vj:=Lh (Vj.out.keep kv);replace Vl:=Lh (Vl.out.keep kv);clear hL hb2 kv HS HB HM0 HM1 HM2 C0 C1 C2;go_wp2_with fail
 try simp only[hgW,hW4]
 clear hgW hW4;go_loopw [9] (fun v wr=>∃(k:Nat) (z:Int),k<=3/\z=(k:Int)/\v=Ji Jl z/\Below W4.heap.size W4 wr) (fun v _=>3-(intOf v).toNat)
 case atStart=>exact⟨0,0,by decide,rfl,rfl,M2 _ _⟩
 case round=>
  obtain⟨k,z,hk,hzk,rfl,hb⟩:=hrel;have K0:=Lh (Jd K0.out hb);have SL:=Lh (SL.out.keep hb);have WL:=Lh (WL.out.keep hb);have Vi:=Lh (Vi.out.keep hb);have Vj:=Lh (Vj.out.keep hb);have Vl:=Lh (Vl.out.keep hb);have Hb:=Lh hb;clear hb;obtain rfl|rfl|rfl|rfl:k=0\/k=1\/k=2\/k=3:=by omega
  ·obtain rfl:z=0:=hzk;obtain⟨c0_0,c0_1,c0_2,c0_3,c0_4,c0_5,c0_6,c0_7,c0_8,c0_9,c0_10,c0_11⟩:=WL.out.v36_0;go_wp2_with fail
   cases z0 with
   | true=>
    as_aux_lemma=>
     refine(HPZ0.out (by first|rfl|trivial) _ _ _ _ Vi.out).mono ?_;rintro e w1⟨t0_,t1_,t2_,rfl,hx,g⟩;clear c0_0 c0_1 c0_2 c0_3 c0_4 c0_5 c0_6 c0_7 c0_8 c0_9 c0_10 c0_11;replace SL:=Lh (SL.out.keep g);replace WL:=Lh (WL.out.keep g);replace Vi:=Lh (Vi.out.keep g);replace Vj:=Lh (Vj.out.keep g);replace Vl:=Lh (Vl.out.keep g);replace K0:=Lh (Jd K0.out g);replace Hb:=Lh (Jd Hb.out g);have kv:=(M2 w1.heap.size w1).alloc (M3 _) (Jc #[Ji Jl t0_.1,Jp t0_.2.1,Ji Jl t0_.2.2.1,Jp t0_.2.2.2,Ji Jl t1_.1,Jp t1_.2.1,Ji Jl t1_.2.2.1,Jp t1_.2.2.2,Ji Jl t2_.1,Jp t2_.2.1,Ji Jl t2_.2.2.1,Jp t2_.2.2.2] 32);have hP:=Jh.new w1 #[Ji Jl t0_.1,Jp t0_.2.1,Ji Jl t0_.2.2.1,Jp t0_.2.2.2,Ji Jl t1_.1,Jp t1_.2.1,Ji Jl t1_.2.2.1,Jp t1_.2.2.2,Ji Jl t2_.1,Jp t2_.2.1,Ji Jl t2_.2.2.1,Jp t2_.2.2.2] 32;obtain⟨pP,hpP⟩:∃p,w1.heap.size=p:=⟨_,rfl⟩;obtain⟨W5,hW5⟩:∃u,w1.alloc (Jc #[Ji Jl t0_.1,Jp t0_.2.1,Ji Jl t0_.2.2.1,Jp t0_.2.2.2,Ji Jl t1_.1,Jp t1_.2.1,Ji Jl t1_.2.2.1,Jp t1_.2.2.2,Ji Jl t2_.1,Jp t2_.2.1,Ji Jl t2_.2.2.1,Jp t2_.2.2.2] 32)=u:=⟨_,rfl⟩;rw[hW5]at hP kv;rw[hpP]at hP;have PL:=Lh (show Jh W5 pP (flat [t0_,t1_,t2_])from hP);have VP:=Lh hx;replace SL:=Lh (SL.out.keep kv);replace WL:=Lh (WL.out.keep kv);replace Vi:=Lh (Vi.out.keep kv);replace Vj:=Lh (Vj.out.keep kv);replace Vl:=Lh (Vl.out.keep kv);replace K0:=Lh (Jd K0.out kv);replace Hb:=Lh (Jd Hb.out kv);clear hP kv g hx;have HS:=Lh (fun w' (hb:Below W5.heap.size W5 w')=>M1 (SL.out.keep hb).s9_0 (M1 (Jh.r12 (PL.out.keep hb)) (WL.out.keep hb).v36_0));go_upto_region 9 with fail
     try simp only[hpP,hW5]
     clear hpP hW5;refine Till.bH 44 HS (fun v0 HB=>?_);try simp only[Pls]
     refine Till.tL 0 [2,3,4,5,13,14,44] 41 (.slice (Jo ⟨gL,0,Jn⟩) 3 3) (HS.out _ HB.out) ?_;try simp only[M0,Pls]
     refine Till.oP 1 42 (Ji Jl 0) (HS.out _ HB.out) ?_;try simp only[M0,Pls]
     refine Till.oP 2 43 (Jp (Jo ⟨gL,0,Jn⟩)) (HS.out _ HB.out) ?_;try simp only[M0,Pls]
     refine Till.tL 3 [4,5,13,14,44] 44 (Ja #[Js si0,Js si1,Js si2]) (HS.out _ HB.out) ?_;try simp only[M0,Pls]
     refine Till.one (i:=4) (by kernel_rfl) rfl (fun K hK=>?_);go_simp;refine(HZ0.out _).mono ?_;rintro e v1⟨rfl,g⟩;replace HB:=Lh (Jd HB.out g);clear g;go_wp2_with fail
     refine hK.out _ _ (fun _=>HS.out _ HB.out) ?_;clear hK K;try simp only[Pls]
     refine Till.oP 5 46 (.bool true) (HS.out _ HB.out) ?_;try simp only[M0,Pls]
     refine Till.oP 6 47 (Ji Jl 19) (HS.out _ HB.out) ?_;try simp only[M0,Pls]
     refine Till.oP 7 48 (.bool false) (HS.out _ HB.out) ?_;try simp only[M0,Pls]
     refine Till.oP 8 49 (.bool false) (HS.out _ HB.out) ?_;try simp only[M0,Pls]
     refine Till.tL 9 [10,14,44] 50 (Ja #[Ji Jl t0_.1,Jp t0_.2.1,Ji Jl t0_.2.2.1,Jp t0_.2.2.2,Ji Jl t1_.1,Jp t1_.2.1,Ji Jl t1_.2.2.1,Jp t1_.2.2.2,Ji Jl t2_.1,Jp t2_.2.1,Ji Jl t2_.2.2.1,Jp t2_.2.2.2]) (HS.out _ HB.out) ?_;try simp only[M0,Pls]
     refine Till.one (i:=10) (by kernel_rfl) rfl (fun K hK=>?_);go_simp;refine(HZZ.out _ _ _ _ VP.out).mono ?_;rintro e v2⟨rfl,g⟩;replace HB:=Lh (Jd HB.out g);clear g;go_wp2_with fail
     refine hK.out _ _ (fun _=>HS.out _ HB.out) ?_;clear hK K;try simp only[Pls]
     refine Till.oP 11 52 (.bool false) (HS.out _ HB.out) ?_;try simp only[M0,Pls]
     refine Till.oP 12 53 (.bool false) (HS.out _ HB.out) ?_;try simp only[M0,Pls]
     refine Till.oP 13 54 (.bool false) (HS.out _ HB.out) ?_;try simp only[M0,Pls]
     refine Till.oP 14 55 (.bool false) (HS.out _ HB.out) ?_;try simp only[M0,Pls]
     refine Till.tL 15 [17,18,19,21,43,44] 56 (.slice (Jo ⟨gL,0,Jn⟩) 3 3) (HS.out _ HB.out) ?_;try simp only[M0,Pls]
     refine Till.oP 16 57 (Ji Jl 0) (HS.out _ HB.out) ?_;try simp only[M0,Pls]
     refine Till.oP 17 58 (Jp (Jo ⟨gL,0,Jn⟩)) (HS.out _ HB.out) ?_;try simp only[M0,Pls]
     refine Till.tL 18 [19,21,43,44] 59 (Ja #[Js si0,Js si1,Js si2]) (HS.out _ HB.out) ?_;try simp only[M0,Pls]
     refine Till.one (i:=19) (by kernel_rfl) rfl (fun K hK=>?_);go_simp;refine(HZ0.out _).mono ?_;rintro e v3⟨rfl,g⟩;replace HB:=Lh (Jd HB.out g);clear g;go_wp2_with fail
     refine hK.out _ _ (fun _=>HS.out _ HB.out) ?_;clear hK K;try simp only[Pls]
     refine Till.oP 20 61 (.bool false) (HS.out _ HB.out) ?_;try simp only[M0,Pls]
     refine Till.oP 21 62 (.bool false) (HS.out _ HB.out) ?_;try simp only[M0,Pls]
     refine Till.oN 22 63 (HS.out _ HB.out) ?_;try simp only[M0,Pls]
     refine Till.oN 23 64 (HS.out _ HB.out) ?_;try simp only[M0,Pls]
     refine Till.oN 24 65 (HS.out _ HB.out) ?_;try simp only[M0,Pls]
     refine Till.sL 25 [31,34,42,43,44] 66 (HS.out _ HB.out) ?_;try simp only[M0,Pls]
     refine Till.sL 26 [28,29,30,31,34,42,43,44] 67 (HS.out _ HB.out) ?_;try simp only[M0,Pls]
     refine Till.oN 27 68 (HS.out _ HB.out) ?_;try simp only[M0,Pls]
     refine Till.oN 28 69 (HS.out _ HB.out) ?_;try simp only[M0,Pls]
     refine Till.oN 29 70 (HS.out _ HB.out) ?_;try simp only[M0,Pls]
     refine Till.oN 30 71 (HS.out _ HB.out) ?_;try simp only[M0,Pls]
     refine Till.oN 31 72 (HS.out _ HB.out) ?_;try simp only[M0,Pls]
     refine Till.oN 32 73 (HS.out _ HB.out) ?_;try simp only[M0,Pls]
     refine Till.oN 33 74 (HS.out _ HB.out) ?_;try simp only[M0,Pls]
     refine Till.oN 34 75 (HS.out _ HB.out) ?_;try simp only[M0,Pls]
     refine Till.sL 35 [40,41,42,43,44] 76 (HS.out _ HB.out) ?_;try simp only[M0,Pls]
     refine Till.sL 36 [38,39,40,41,42,43,44] 77 (HS.out _ HB.out) ?_;try simp only[M0,Pls]
     refine Till.oN 37 78 (HS.out _ HB.out) ?_;try simp only[M0,Pls]
     refine Till.oN 38 79 (HS.out _ HB.out) ?_;try simp only[M0,Pls]
     refine Till.oN 39 80 (HS.out _ HB.out) ?_;try simp only[M0,Pls]
     refine Till.oN 40 81 (HS.out _ HB.out) ?_;try simp only[M0,Pls]
     refine Till.oN 41 82 (HS.out _ HB.out) ?_;try simp only[M0,Pls]
     refine Till.oN 42 83 (HS.out _ HB.out) ?_;try simp only[M0,Pls]
     refine Till.oP 43 84 (.bool false) (HS.out _ HB.out) ?_;try simp only[M0,Pls]
     refine Till.one (i:=44) (by kernel_rfl) rfl (fun K hK=>?_);go_simp;refine hK.out _ _ (fun h=>absurd h (by simp)) ?_;clear hK K;try simp only[Pls]
     refine Till.done (by kernel_rfl) ?_ _;replace SL:=Lh (SL.out.keep HB.out);replace WL:=Lh (WL.out.keep HB.out);replace Vi:=Lh (Vi.out.keep HB.out);replace Vj:=Lh (Vj.out.keep HB.out);replace Vl:=Lh (Vl.out.keep HB.out);replace K0:=Lh (Jd K0.out HB.out);replace Hb:=Lh (Jd Hb.out HB.out);clear HB HS PL VP;generalize v3=W6 at *
     have HS:=Lh (fun w' (hb:Below W6.heap.size W6 w')=>M1 (SL.out.keep hb).s9_0 (M1 (SL.out.keep hb).s9_1 (M1 (WL.out.keep hb).v36_0 (WL.out.keep hb).v36_1)));go_upto_region 12 with fail
     refine Till.bH 18 HS (fun v0 HB=>?_);try simp only[Pls]
     refine Till.tL 0 [2,3,8,18] 89 (.slice (Jo ⟨gW,0,Jn⟩) 3 3) (HS.out _ HB.out) ?_;try simp only[M0,Pls]
     refine Till.tL 1 [2,3,8,18] 90 (Ji Jl 0) (HS.out _ HB.out) ?_;try simp only[M0,Pls]
     refine Till.tL 2 [3,8,18] 91 (Jp (Jo ⟨gW,0,Jn⟩)) (HS.out _ HB.out) ?_;try simp only[M0,Pls]
     refine Till.tk 3 8 92 (Ja #[Ji Jl xi0.1,Jp xi0.2.1,Ji Jl xi0.2.2.1,Jp xi0.2.2.2,Ji Jl xi1.1,Jp xi1.2.1,Ji Jl xi1.2.2.1,Jp xi1.2.2.2,Ji Jl xi2.1,Jp xi2.2.1,Ji Jl xi2.2.2.1,Jp xi2.2.2.2]) (HS.out _ HB.out) ?_;try simp only[M0,Pls]
     refine Till.tL 4 [6,7,8,18] 93 (.slice (Jo ⟨gW,0,Jn⟩) 3 3) (HS.out _ HB.out) ?_;try simp only[M0,Pls]
     refine Till.tL 5 [6,7,8,18] 94 (Ji Jl 1) (HS.out _ HB.out) ?_;try simp only[M0,Pls]
     refine Till.tL 6 [7,8,18] 95 (Jp (Jo ⟨gW,12,Jn⟩)) (HS.out _ HB.out) ?_;try simp only[M0,Pls]
     refine Till.tk 7 8 96 (Ja #[Ji Jl xj0.1,Jp xj0.2.1,Ji Jl xj0.2.2.1,Jp xj0.2.2.2,Ji Jl xj1.1,Jp xj1.2.1,Ji Jl xj1.2.2.1,Jp xj1.2.2.2,Ji Jl xj2.1,Jp xj2.2.1,Ji Jl xj2.2.2.1,Jp xj2.2.2.2]) (HS.out _ HB.out) ?_;try simp only[M0,Pls]
     refine Till.tL 9 [11,12,17,18] 98 (.slice (Jo ⟨gL,0,Jn⟩) 3 3) (HS.out _ HB.out) ?_;try simp only[M0,Pls]
     refine Till.tL 10 [11,12,17,18] 99 (Ji Jl 0) (HS.out _ HB.out) ?_;try simp only[M0,Pls]
     refine Till.tL 11 [12,17,18] 100 (Jp (Jo ⟨gL,0,Jn⟩)) (HS.out _ HB.out) ?_;try simp only[M0,Pls]
     refine Till.tk 12 17 101 (Ja #[Js si0,Js si1,Js si2]) (HS.out _ HB.out) ?_;try simp only[M0,Pls]
     refine Till.tL 13 [15,16,17,18] 102 (.slice (Jo ⟨gL,0,Jn⟩) 3 3) (HS.out _ HB.out) ?_;try simp only[M0,Pls]
     refine Till.tL 14 [15,16,17,18] 103 (Ji Jl 1) (HS.out _ HB.out) ?_;try simp only[M0,Pls]
     refine Till.tL 15 [16,17,18] 104 (Jp (Jo ⟨gL,3,Jn⟩)) (HS.out _ HB.out) ?_;try simp only[M0,Pls]
     refine Till.tk 16 17 105 (Ja #[Js sj0,Js sj1,Js sj2]) (HS.out _ HB.out) ?_;try simp only[M0,Pls]
     refine Till.one (i:=8) (by kernel_rfl) rfl (fun K hK=>?_);go_simp;refine(HV0.out _ _ _ _ _ _ _ (Jd K0.out HB.out) (Vi.out.keep HB.out) (Vj.out.keep HB.out)).mono ?_;rintro e v1⟨rfl,g⟩;replace HB:=Lh (Jd HB.out g);clear g;go_wp2_with fail
     refine hK.out _ _ (fun _=>HS.out _ HB.out) ?_;clear hK K;try simp only[Pls]
     refine Till.one (i:=17) (by kernel_rfl) rfl (fun K hK=>?_);go_simp;refine(HR0.out _).mono ?_;rintro e v2⟨rfl,g⟩;replace HB:=Lh (Jd HB.out g);clear g;go_wp2_with fail
     refine hK.out _ _ (fun _=>HS.out _ HB.out) ?_;clear hK K;try simp only[Pls]
     refine Till.one (i:=18) (by kernel_rfl) rfl (fun K hK=>?_);go_simp;refine hK.out _ _ (fun h=>absurd h (by simp)) ?_;clear hK K;try simp only[Pls]
     refine Till.done (by kernel_rfl) ?_ _;have Hf:=Lh (Jd Hb.out HB.out);go_wp2_with fail
     go_roundw;case rel=>exact⟨1,1,by decide,rfl,by go_num,Hf.out⟩
     case measure=>simp[intOf]
   | false=>
    as_aux_lemma=>
     refine(HP0.out (by first|rfl|trivial) _ _ _ _ K0.out Vi.out).mono ?_;rintro e w1⟨t0_,t1_,t2_,rfl,hx,g⟩;clear c0_0 c0_1 c0_2 c0_3 c0_4 c0_5 c0_6 c0_7 c0_8 c0_9 c0_10 c0_11;unfold Jv;replace SL:=Lh (SL.out.keep g);replace WL:=Lh (WL.out.keep g);replace Vi:=Lh (Vi.out.keep g);replace Vj:=Lh (Vj.out.keep g);replace Vl:=Lh (Vl.out.keep g);replace K0:=Lh (Jd K0.out g);replace Hb:=Lh (Jd Hb.out g);have kv:=(M2 w1.heap.size w1).alloc (M3 _) (Jc #[Ji Jl t0_.1,Jp t0_.2.1,Ji Jl t0_.2.2.1,Jp t0_.2.2.2,Ji Jl t1_.1,Jp t1_.2.1,Ji Jl t1_.2.2.1,Jp t1_.2.2.2,Ji Jl t2_.1,Jp t2_.2.1,Ji Jl t2_.2.2.1,Jp t2_.2.2.2] 32);have hP:=Jh.new w1 #[Ji Jl t0_.1,Jp t0_.2.1,Ji Jl t0_.2.2.1,Jp t0_.2.2.2,Ji Jl t1_.1,Jp t1_.2.1,Ji Jl t1_.2.2.1,Jp t1_.2.2.2,Ji Jl t2_.1,Jp t2_.2.1,Ji Jl t2_.2.2.1,Jp t2_.2.2.2] 32;have hx:=hx.keep kv;obtain⟨pP,hpP⟩:∃p,w1.heap.size=p:=⟨_,rfl⟩;obtain⟨W5,hW5⟩:∃u,w1.alloc (Jc #[Ji Jl t0_.1,Jp t0_.2.1,Ji Jl t0_.2.2.1,Jp t0_.2.2.2,Ji Jl t1_.1,Jp t1_.2.1,Ji Jl t1_.2.2.1,Jp t1_.2.2.2,Ji Jl t2_.1,Jp t2_.2.1,Ji Jl t2_.2.2.1,Jp t2_.2.2.2] 32)=u:=⟨_,rfl⟩;rw[hW5]at hP kv hx;rw[hpP]at hP;have PL:=Lh (show Jh W5 pP (flat [t0_,t1_,t2_])from hP);have VP:=Lh hx;replace SL:=Lh (SL.out.keep kv);replace WL:=Lh (WL.out.keep kv);replace Vi:=Lh (Vi.out.keep kv);replace Vj:=Lh (Vj.out.keep kv);replace Vl:=Lh (Vl.out.keep kv);replace K0:=Lh (Jd K0.out kv);replace Hb:=Lh (Jd Hb.out kv);clear hP kv g hx;have HS:=Lh (fun w' (hb:Below W5.heap.size W5 w')=>M1 (SL.out.keep hb).s9_0 (M1 (Jh.r12 (PL.out.keep hb)) (WL.out.keep hb).v36_0))
     go_upto_region 9 with fail
     try simp only[hpP,hW5]
     clear hpP hW5;refine Till.bH 44 HS (fun v0 HB=>?_);try simp only[Pls]
     refine Till.tL 0 [2,3,4,5,13,14,44] 41 (.slice (Jo ⟨gL,0,Jn⟩) 3 3) (HS.out _ HB.out) ?_;try simp only[M0,Pls]
     refine Till.oP 1 42 (Ji Jl 0) (HS.out _ HB.out) ?_;try simp only[M0,Pls]
     refine Till.oP 2 43 (Jp (Jo ⟨gL,0,Jn⟩)) (HS.out _ HB.out) ?_;try simp only[M0,Pls]
     refine Till.tL 3 [4,5,13,14,44] 44 (Ja #[Js si0,Js si1,Js si2]) (HS.out _ HB.out) ?_;try simp only[M0,Pls]
     refine Till.one (i:=4) (by kernel_rfl) rfl (fun K hK=>?_);go_simp;refine(HZ0.out _).mono ?_;rintro e v1⟨rfl,g⟩;replace HB:=Lh (Jd HB.out g);clear g;go_wp2_with fail
     refine hK.out _ _ (fun _=>HS.out _ HB.out) ?_;clear hK K;try simp only[Pls]
     refine Till.oP 5 46 (.bool false) (HS.out _ HB.out) ?_;try simp only[M0,Pls]
     refine Till.oN 6 47 (HS.out _ HB.out) ?_;try simp only[M0,Pls]
     refine Till.oN 7 48 (HS.out _ HB.out) ?_;try simp only[M0,Pls]
     refine Till.oN 8 49 (HS.out _ HB.out) ?_;try simp only[M0,Pls]
     refine Till.oN 9 50 (HS.out _ HB.out) ?_;try simp only[M0,Pls]
     refine Till.oN 10 51 (HS.out _ HB.out) ?_;try simp only[M0,Pls]
     refine Till.oN 11 52 (HS.out _ HB.out) ?_;try simp only[M0,Pls]
     refine Till.oN 12 53 (HS.out _ HB.out) ?_;try simp only[M0,Pls]
     refine Till.oP 13 54 (.bool false) (HS.out _ HB.out) ?_;try simp only[M0,Pls]
     refine Till.oP 14 55 (.bool false) (HS.out _ HB.out) ?_;try simp only[M0,Pls]
     refine Till.tL 15 [17,18,19,21,43,44] 56 (.slice (Jo ⟨gL,0,Jn⟩) 3 3) (HS.out _ HB.out) ?_;try simp only[M0,Pls]
     refine Till.oP 16 57 (Ji Jl 0) (HS.out _ HB.out) ?_;try simp only[M0,Pls]
     refine Till.oP 17 58 (Jp (Jo ⟨gL,0,Jn⟩)) (HS.out _ HB.out) ?_;try simp only[M0,Pls]
     refine Till.tL 18 [19,21,43,44] 59 (Ja #[Js si0,Js si1,Js si2]) (HS.out _ HB.out) ?_;try simp only[M0,Pls]
     refine Till.one (i:=19) (by kernel_rfl) rfl (fun K hK=>?_);go_simp;refine(HZ0.out _).mono ?_;rintro e v2⟨rfl,g⟩;replace HB:=Lh (Jd HB.out g);clear g;go_wp2_with fail
     refine hK.out _ _ (fun _=>HS.out _ HB.out) ?_;clear hK K;try simp only[Pls]
     refine Till.oP 20 61 (.bool true) (HS.out _ HB.out) ?_;try simp only[M0,Pls]
     refine Till.oP 21 62 (.bool true) (HS.out _ HB.out) ?_;try simp only[M0,Pls]
     refine Till.oP 22 63 (Ji Jl 0) (HS.out _ HB.out) ?_;try simp only[M0,Pls]
     refine Till.oP 23 64 (.bool false) (HS.out _ HB.out) ?_;try simp only[M0,Pls]
     refine Till.oP 24 65 (.bool false) (HS.out _ HB.out) ?_;try simp only[M0,Pls]
     refine Till.tL 25 [31,34,42,43,44] 66 (Ja #[Ji Jl t0_.1,Jp t0_.2.1,Ji Jl t0_.2.2.1,Jp t0_.2.2.2,Ji Jl t1_.1,Jp t1_.2.1,Ji Jl t1_.2.2.1,Jp t1_.2.2.2,Ji Jl t2_.1,Jp t2_.2.1,Ji Jl t2_.2.2.1,Jp t2_.2.2.2]) (HS.out _ HB.out) ?_;try simp only[M0,Pls]
     refine Till.tL 26 [28,29,30,31,34,42,43,44] 67 (.slice (Jo ⟨gL,0,Jn⟩) 3 3) (HS.out _ HB.out) ?_;try simp only[M0,Pls]
     refine Till.oP 27 68 (Ji Jl 0) (HS.out _ HB.out) ?_;try simp only[M0,Pls]
     refine Till.oP 28 69 (Jp (Jo ⟨gL,0,Jn⟩)) (HS.out _ HB.out) ?_;try simp only[M0,Pls]
     refine Till.tL 29 [30,31,34,42,43,44] 70 (Ja #[Js si0,Js si1,Js si2]) (HS.out _ HB.out) ?_;try simp only[M0,Pls]
     refine Till.one (i:=30) (by kernel_rfl) rfl (fun K hK=>?_);go_simp;refine(HRP0.out (by first|rfl|trivial) _).mono ?_;rintro e v3⟨rfl,g⟩;replace HB:=Lh (Jd HB.out g);clear g;go_wp2_with fail
     refine hK.out _ _ (fun _=>HS.out _ HB.out) ?_;clear hK K;try simp only[Pls]
     refine Till.one (i:=31) (by kernel_rfl) rfl (fun K hK=>?_);go_simp;refine(HIS0.out (by first|rfl|trivial) _ _ _ _ (Jd K0.out HB.out) (VP.out.keep HB.out)).mono ?_;rintro e v4⟨rfl,g⟩;replace HB:=Lh (Jd HB.out g);clear g;go_wp2_with fail
     refine hK.out _ _ (fun _=>HS.out _ HB.out) ?_;clear hK K;try simp only[Pls]
     refine Till.oP 32 73 (.bool false) (HS.out _ HB.out) ?_;try simp only[M0,Pls]
     refine Till.oP 33 74 (.bool false) (HS.out _ HB.out) ?_;try simp only[M0,Pls]
     refine Till.oP 34 75 (.bool false) (HS.out _ HB.out) ?_;try simp only[M0,Pls]
     refine Till.tL 35 [40,41,42,43,44] 76 (Ja #[Ji Jl t0_.1,Jp t0_.2.1,Ji Jl t0_.2.2.1,Jp t0_.2.2.2,Ji Jl t1_.1,Jp t1_.2.1,Ji Jl t1_.2.2.1,Jp t1_.2.2.2,Ji Jl t2_.1,Jp t2_.2.1,Ji Jl t2_.2.2.1,Jp t2_.2.2.2]) (HS.out _ HB.out) ?_;try simp only[M0,Pls]
     refine Till.tL 36 [38,39,40,41,42,43,44] 77 (.slice (Jo ⟨gW,0,Jn⟩) 3 3) (HS.out _ HB.out) ?_;try simp only[M0,Pls]
     refine Till.oP 37 78 (Ji Jl 0) (HS.out _ HB.out) ?_;try simp only[M0,Pls]
     refine Till.oP 38 79 (Jp (Jo ⟨gW,0,Jn⟩)) (HS.out _ HB.out) ?_;try simp only[M0,Pls]
     refine Till.tL 39 [40,41,42,43,44] 80 (Ja #[Ji Jl xi0.1,Jp xi0.2.1,Ji Jl xi0.2.2.1,Jp xi0.2.2.2,Ji Jl xi1.1,Jp xi1.2.1,Ji Jl xi1.2.2.1,Jp xi1.2.2.2,Ji Jl xi2.1,Jp xi2.2.1,Ji Jl xi2.2.2.1,Jp xi2.2.2.2]) (HS.out _ HB.out) ?_;try simp only[M0,Pls]
     refine Till.one (i:=40) (by kernel_rfl) rfl (fun K hK=>?_);go_simp;refine(HPA0.out (by first|rfl|trivial) _ _ _ _ _ _ _ (Jd K0.out HB.out) (VP.out.keep HB.out) (Vi.out.keep HB.out)).mono ?_;rintro e v5⟨rfl,g⟩;replace HB:=Lh (Jd HB.out g);clear g;go_wp2_with fail
     refine hK.out _ _ (fun _=>HS.out _ HB.out) ?_;clear hK K;try simp only[Pls]
     refine Till.oP 41 82 (.bool false) (HS.out _ HB.out) ?_;try simp only[M0,Pls]
     refine Till.oP 42 83 (.bool false) (HS.out _ HB.out) ?_;try simp only[M0,Pls]
     refine Till.oP 43 84 (.bool false) (HS.out _ HB.out) ?_;try simp only[M0,Pls]
     refine Till.one (i:=44) (by kernel_rfl) rfl (fun K hK=>?_);go_simp;refine hK.out _ _ (fun h=>absurd h (by simp)) ?_;clear hK K;try simp only[Pls]
     refine Till.done (by kernel_rfl) ?_ _;replace SL:=Lh (SL.out.keep HB.out);replace WL:=Lh (WL.out.keep HB.out);replace Vi:=Lh (Vi.out.keep HB.out);replace Vj:=Lh (Vj.out.keep HB.out);replace Vl:=Lh (Vl.out.keep HB.out);replace K0:=Lh (Jd K0.out HB.out);replace Hb:=Lh (Jd Hb.out HB.out);clear HB HS PL VP;generalize v5=W6 at *
     have HS:=Lh (fun w' (hb:Below W6.heap.size W6 w')=>M1 (SL.out.keep hb).s9_0 (M1 (SL.out.keep hb).s9_1 (M1 (WL.out.keep hb).v36_0 (WL.out.keep hb).v36_1)));go_upto_region 12 with fail
     refine Till.bH 18 HS (fun v0 HB=>?_);try simp only[Pls]
     refine Till.tL 0 [2,3,8,18] 89 (.slice (Jo ⟨gW,0,Jn⟩) 3 3) (HS.out _ HB.out) ?_;try simp only[M0,Pls]
     refine Till.tL 1 [2,3,8,18] 90 (Ji Jl 0) (HS.out _ HB.out) ?_;try simp only[M0,Pls]
     refine Till.tL 2 [3,8,18] 91 (Jp (Jo ⟨gW,0,Jn⟩)) (HS.out _ HB.out) ?_;try simp only[M0,Pls]
     refine Till.tk 3 8 92 (Ja #[Ji Jl xi0.1,Jp xi0.2.1,Ji Jl xi0.2.2.1,Jp xi0.2.2.2,Ji Jl xi1.1,Jp xi1.2.1,Ji Jl xi1.2.2.1,Jp xi1.2.2.2,Ji Jl xi2.1,Jp xi2.2.1,Ji Jl xi2.2.2.1,Jp xi2.2.2.2]) (HS.out _ HB.out) ?_;try simp only[M0,Pls]
     refine Till.tL 4 [6,7,8,18] 93 (.slice (Jo ⟨gW,0,Jn⟩) 3 3) (HS.out _ HB.out) ?_;try simp only[M0,Pls]
     refine Till.tL 5 [6,7,8,18] 94 (Ji Jl 1) (HS.out _ HB.out) ?_;try simp only[M0,Pls]
     refine Till.tL 6 [7,8,18] 95 (Jp (Jo ⟨gW,12,Jn⟩)) (HS.out _ HB.out) ?_;try simp only[M0,Pls]
     refine Till.tk 7 8 96 (Ja #[Ji Jl xj0.1,Jp xj0.2.1,Ji Jl xj0.2.2.1,Jp xj0.2.2.2,Ji Jl xj1.1,Jp xj1.2.1,Ji Jl xj1.2.2.1,Jp xj1.2.2.2,Ji Jl xj2.1,Jp xj2.2.1,Ji Jl xj2.2.2.1,Jp xj2.2.2.2]) (HS.out _ HB.out) ?_;try simp only[M0,Pls]
     refine Till.tL 9 [11,12,17,18] 98 (.slice (Jo ⟨gL,0,Jn⟩) 3 3) (HS.out _ HB.out) ?_;try simp only[M0,Pls]
     refine Till.tL 10 [11,12,17,18] 99 (Ji Jl 0) (HS.out _ HB.out) ?_;try simp only[M0,Pls]
     refine Till.tL 11 [12,17,18] 100 (Jp (Jo ⟨gL,0,Jn⟩)) (HS.out _ HB.out) ?_;try simp only[M0,Pls]
     refine Till.tk 12 17 101 (Ja #[Js si0,Js si1,Js si2]) (HS.out _ HB.out) ?_;try simp only[M0,Pls]
     refine Till.tL 13 [15,16,17,18] 102 (.slice (Jo ⟨gL,0,Jn⟩) 3 3) (HS.out _ HB.out) ?_;try simp only[M0,Pls]
     refine Till.tL 14 [15,16,17,18] 103 (Ji Jl 1) (HS.out _ HB.out) ?_;try simp only[M0,Pls]
     refine Till.tL 15 [16,17,18] 104 (Jp (Jo ⟨gL,3,Jn⟩)) (HS.out _ HB.out) ?_;try simp only[M0,Pls]
     refine Till.tk 16 17 105 (Ja #[Js sj0,Js sj1,Js sj2]) (HS.out _ HB.out) ?_;try simp only[M0,Pls]
     refine Till.one (i:=8) (by kernel_rfl) rfl (fun K hK=>?_);go_simp;refine(HV0.out _ _ _ _ _ _ _ (Jd K0.out HB.out) (Vi.out.keep HB.out) (Vj.out.keep HB.out)).mono ?_;rintro e v1⟨rfl,g⟩;replace HB:=Lh (Jd HB.out g);clear g;go_wp2_with fail
     refine hK.out _ _ (fun _=>HS.out _ HB.out) ?_;clear hK K;try simp only[Pls]
     refine Till.one (i:=17) (by kernel_rfl) rfl (fun K hK=>?_);go_simp;refine(HR0.out _).mono ?_;rintro e v2⟨rfl,g⟩;replace HB:=Lh (Jd HB.out g);clear g;go_wp2_with fail
     refine hK.out _ _ (fun _=>HS.out _ HB.out) ?_;clear hK K;try simp only[Pls]
     refine Till.one (i:=18) (by kernel_rfl) rfl (fun K hK=>?_);go_simp;refine hK.out _ _ (fun h=>absurd h (by simp)) ?_;clear hK K;try simp only[Pls]
     refine Till.done (by kernel_rfl) ?_ _;have Hf:=Lh (Jd Hb.out HB.out);go_wp2_with fail
     go_roundw;case rel=>exact⟨1,1,by decide,rfl,by go_num,Hf.out⟩
     case measure=>simp[intOf]
  ·obtain rfl:z=1:=hzk;obtain⟨c1_0,c1_1,c1_2,c1_3,c1_4,c1_5,c1_6,c1_7,c1_8,c1_9,c1_10,c1_11⟩:=WL.out.v36_1;go_wp2_with fail
   cases z1 with
   | true=>
    as_aux_lemma=>
     refine(HPZ1.out (by first|rfl|trivial) _ _ _ _ Vj.out).mono ?_;rintro e w1⟨t0_,t1_,t2_,rfl,hx,g⟩;clear c1_0 c1_1 c1_2 c1_3 c1_4 c1_5 c1_6 c1_7 c1_8 c1_9 c1_10 c1_11;replace SL:=Lh (SL.out.keep g);replace WL:=Lh (WL.out.keep g);replace Vi:=Lh (Vi.out.keep g);replace Vj:=Lh (Vj.out.keep g);replace Vl:=Lh (Vl.out.keep g);replace K0:=Lh (Jd K0.out g);replace Hb:=Lh (Jd Hb.out g);have kv:=(M2 w1.heap.size w1).alloc (M3 _) (Jc #[Ji Jl t0_.1,Jp t0_.2.1,Ji Jl t0_.2.2.1,Jp t0_.2.2.2,Ji Jl t1_.1,Jp t1_.2.1,Ji Jl t1_.2.2.1,Jp t1_.2.2.2,Ji Jl t2_.1,Jp t2_.2.1,Ji Jl t2_.2.2.1,Jp t2_.2.2.2] 32);have hP:=Jh.new w1 #[Ji Jl t0_.1,Jp t0_.2.1,Ji Jl t0_.2.2.1,Jp t0_.2.2.2,Ji Jl t1_.1,Jp t1_.2.1,Ji Jl t1_.2.2.1,Jp t1_.2.2.2,Ji Jl t2_.1,Jp t2_.2.1,Ji Jl t2_.2.2.1,Jp t2_.2.2.2] 32;obtain⟨pP,hpP⟩:∃p,w1.heap.size=p:=⟨_,rfl⟩;obtain⟨W5,hW5⟩:∃u,w1.alloc (Jc #[Ji Jl t0_.1,Jp t0_.2.1,Ji Jl t0_.2.2.1,Jp t0_.2.2.2,Ji Jl t1_.1,Jp t1_.2.1,Ji Jl t1_.2.2.1,Jp t1_.2.2.2,Ji Jl t2_.1,Jp t2_.2.1,Ji Jl t2_.2.2.1,Jp t2_.2.2.2] 32)=u:=⟨_,rfl⟩;rw[hW5]at hP kv;rw[hpP]at hP;have PL:=Lh (show Jh W5 pP (flat [t0_,t1_,t2_])from hP);have VP:=Lh hx;replace SL:=Lh (SL.out.keep kv);replace WL:=Lh (WL.out.keep kv);replace Vi:=Lh (Vi.out.keep kv);replace Vj:=Lh (Vj.out.keep kv);replace Vl:=Lh (Vl.out.keep kv);replace K0:=Lh (Jd K0.out kv);replace Hb:=Lh (Jd Hb.out kv);clear hP kv g hx;have HS:=Lh (fun w' (hb:Below W5.heap.size W5 w')=>M1 (SL.out.keep hb).s9_1 (M1 (Jh.r12 (PL.out.keep hb)) (WL.out.keep hb).v36_1));go_upto_region 9 with fail
     try simp only[hpP,hW5]
     clear hpP hW5;refine Till.bH 44 HS (fun v0 HB=>?_);try simp only[Pls]
     refine Till.tL 0 [2,3,4,5,13,14,44] 41 (.slice (Jo ⟨gL,0,Jn⟩) 3 3) (HS.out _ HB.out) ?_;try simp only[M0,Pls]
     refine Till.oP 1 42 (Ji Jl 1) (HS.out _ HB.out) ?_;try simp only[M0,Pls]
     refine Till.oP 2 43 (Jp (Jo ⟨gL,3,Jn⟩)) (HS.out _ HB.out) ?_;try simp only[M0,Pls]
     refine Till.tL 3 [4,5,13,14,44] 44 (Ja #[Js sj0,Js sj1,Js sj2]) (HS.out _ HB.out) ?_;try simp only[M0,Pls]
     refine Till.one (i:=4) (by kernel_rfl) rfl (fun K hK=>?_);go_simp;refine(HZ1.out _).mono ?_;rintro e v1⟨rfl,g⟩;replace HB:=Lh (Jd HB.out g);clear g;go_wp2_with fail
     refine hK.out _ _ (fun _=>HS.out _ HB.out) ?_;clear hK K;try simp only[Pls]
     refine Till.oP 5 46 (.bool true) (HS.out _ HB.out) ?_;try simp only[M0,Pls]
     refine Till.oP 6 47 (Ji Jl 19) (HS.out _ HB.out) ?_;try simp only[M0,Pls]
     refine Till.oP 7 48 (.bool false) (HS.out _ HB.out) ?_;try simp only[M0,Pls]
     refine Till.oP 8 49 (.bool false) (HS.out _ HB.out) ?_;try simp only[M0,Pls]
     refine Till.tL 9 [10,14,44] 50 (Ja #[Ji Jl t0_.1,Jp t0_.2.1,Ji Jl t0_.2.2.1,Jp t0_.2.2.2,Ji Jl t1_.1,Jp t1_.2.1,Ji Jl t1_.2.2.1,Jp t1_.2.2.2,Ji Jl t2_.1,Jp t2_.2.1,Ji Jl t2_.2.2.1,Jp t2_.2.2.2]) (HS.out _ HB.out) ?_;try simp only[M0,Pls]
     refine Till.one (i:=10) (by kernel_rfl) rfl (fun K hK=>?_);go_simp;refine(HZZ.out _ _ _ _ VP.out).mono ?_;rintro e v2⟨rfl,g⟩;replace HB:=Lh (Jd HB.out g);clear g;go_wp2_with fail
     refine hK.out _ _ (fun _=>HS.out _ HB.out) ?_;clear hK K;try simp only[Pls]
     refine Till.oP 11 52 (.bool false) (HS.out _ HB.out) ?_;try simp only[M0,Pls]
     refine Till.oP 12 53 (.bool false) (HS.out _ HB.out) ?_;try simp only[M0,Pls]
     refine Till.oP 13 54 (.bool false) (HS.out _ HB.out) ?_;try simp only[M0,Pls]
     refine Till.oP 14 55 (.bool false) (HS.out _ HB.out) ?_;try simp only[M0,Pls]
     refine Till.tL 15 [17,18,19,21,43,44] 56 (.slice (Jo ⟨gL,0,Jn⟩) 3 3) (HS.out _ HB.out) ?_;try simp only[M0,Pls]
     refine Till.oP 16 57 (Ji Jl 1) (HS.out _ HB.out) ?_;try simp only[M0,Pls]
     refine Till.oP 17 58 (Jp (Jo ⟨gL,3,Jn⟩)) (HS.out _ HB.out) ?_;try simp only[M0,Pls]
     refine Till.tL 18 [19,21,43,44] 59 (Ja #[Js sj0,Js sj1,Js sj2]) (HS.out _ HB.out) ?_;try simp only[M0,Pls]
     refine Till.one (i:=19) (by kernel_rfl) rfl (fun K hK=>?_);go_simp;refine(HZ1.out _).mono ?_;rintro e v3⟨rfl,g⟩;replace HB:=Lh (Jd HB.out g);clear g;go_wp2_with fail
     refine hK.out _ _ (fun _=>HS.out _ HB.out) ?_;clear hK K;try simp only[Pls]
     refine Till.oP 20 61 (.bool false) (HS.out _ HB.out) ?_;try simp only[M0,Pls]
     refine Till.oP 21 62 (.bool false) (HS.out _ HB.out) ?_;try simp only[M0,Pls]
     refine Till.oN 22 63 (HS.out _ HB.out) ?_;try simp only[M0,Pls]
     refine Till.oN 23 64 (HS.out _ HB.out) ?_;try simp only[M0,Pls]
     refine Till.oN 24 65 (HS.out _ HB.out) ?_;try simp only[M0,Pls]
     refine Till.sL 25 [31,34,42,43,44] 66 (HS.out _ HB.out) ?_;try simp only[M0,Pls]
     refine Till.sL 26 [28,29,30,31,34,42,43,44] 67 (HS.out _ HB.out) ?_;try simp only[M0,Pls]
     refine Till.oN 27 68 (HS.out _ HB.out) ?_;try simp only[M0,Pls]
     refine Till.oN 28 69 (HS.out _ HB.out) ?_;try simp only[M0,Pls]
     refine Till.oN 29 70 (HS.out _ HB.out) ?_;try simp only[M0,Pls]
     refine Till.oN 30 71 (HS.out _ HB.out) ?_;try simp only[M0,Pls]
     refine Till.oN 31 72 (HS.out _ HB.out) ?_;try simp only[M0,Pls]
     refine Till.oN 32 73 (HS.out _ HB.out) ?_;try simp only[M0,Pls]
     refine Till.oN 33 74 (HS.out _ HB.out) ?_;try simp only[M0,Pls]
     refine Till.oN 34 75 (HS.out _ HB.out) ?_;try simp only[M0,Pls]
     refine Till.sL 35 [40,41,42,43,44] 76 (HS.out _ HB.out) ?_;try simp only[M0,Pls]
     refine Till.sL 36 [38,39,40,41,42,43,44] 77 (HS.out _ HB.out) ?_;try simp only[M0,Pls]
     refine Till.oN 37 78 (HS.out _ HB.out) ?_;try simp only[M0,Pls]
     refine Till.oN 38 79 (HS.out _ HB.out) ?_;try simp only[M0,Pls]
     refine Till.oN 39 80 (HS.out _ HB.out) ?_;try simp only[M0,Pls]
     refine Till.oN 40 81 (HS.out _ HB.out) ?_;try simp only[M0,Pls]
     refine Till.oN 41 82 (HS.out _ HB.out) ?_;try simp only[M0,Pls]
     refine Till.oN 42 83 (HS.out _ HB.out) ?_;try simp only[M0,Pls]
     refine Till.oP 43 84 (.bool false) (HS.out _ HB.out) ?_;try simp only[M0,Pls]
     refine Till.one (i:=44) (by kernel_rfl) rfl (fun K hK=>?_);go_simp;refine hK.out _ _ (fun h=>absurd h (by simp)) ?_;clear hK K;try simp only[Pls]
     refine Till.done (by kernel_rfl) ?_ _;replace SL:=Lh (SL.out.keep HB.out);replace WL:=Lh (WL.out.keep HB.out);replace Vi:=Lh (Vi.out.keep HB.out);replace Vj:=Lh (Vj.out.keep HB.out);replace Vl:=Lh (Vl.out.keep HB.out);replace K0:=Lh (Jd K0.out HB.out);replace Hb:=Lh (Jd Hb.out HB.out);clear HB HS PL VP;generalize v3=W6 at *
     have HS:=Lh (fun w' (hb:Below W6.heap.size W6 w')=>M1 (SL.out.keep hb).s9_1 (M1 (SL.out.keep hb).s9_2 (M1 (WL.out.keep hb).v36_1 (WL.out.keep hb).v36_2)));go_upto_region 12 with fail
     refine Till.bH 18 HS (fun v0 HB=>?_);try simp only[Pls]
     refine Till.tL 0 [2,3,8,18] 89 (.slice (Jo ⟨gW,0,Jn⟩) 3 3) (HS.out _ HB.out) ?_;try simp only[M0,Pls]
     refine Till.tL 1 [2,3,8,18] 90 (Ji Jl 1) (HS.out _ HB.out) ?_;try simp only[M0,Pls]
     refine Till.tL 2 [3,8,18] 91 (Jp (Jo ⟨gW,12,Jn⟩)) (HS.out _ HB.out) ?_;try simp only[M0,Pls]
     refine Till.tk 3 8 92 (Ja #[Ji Jl xj0.1,Jp xj0.2.1,Ji Jl xj0.2.2.1,Jp xj0.2.2.2,Ji Jl xj1.1,Jp xj1.2.1,Ji Jl xj1.2.2.1,Jp xj1.2.2.2,Ji Jl xj2.1,Jp xj2.2.1,Ji Jl xj2.2.2.1,Jp xj2.2.2.2]) (HS.out _ HB.out) ?_;try simp only[M0,Pls]
     refine Till.tL 4 [6,7,8,18] 93 (.slice (Jo ⟨gW,0,Jn⟩) 3 3) (HS.out _ HB.out) ?_;try simp only[M0,Pls]
     refine Till.tL 5 [6,7,8,18] 94 (Ji Jl 2) (HS.out _ HB.out) ?_;try simp only[M0,Pls]
     refine Till.tL 6 [7,8,18] 95 (Jp (Jo ⟨gW,24,Jn⟩)) (HS.out _ HB.out) ?_;try simp only[M0,Pls]
     refine Till.tk 7 8 96 (Ja #[Ji Jl xl0.1,Jp xl0.2.1,Ji Jl xl0.2.2.1,Jp xl0.2.2.2,Ji Jl xl1.1,Jp xl1.2.1,Ji Jl xl1.2.2.1,Jp xl1.2.2.2,Ji Jl xl2.1,Jp xl2.2.1,Ji Jl xl2.2.2.1,Jp xl2.2.2.2]) (HS.out _ HB.out) ?_;try simp only[M0,Pls]
     refine Till.tL 9 [11,12,17,18] 98 (.slice (Jo ⟨gL,0,Jn⟩) 3 3) (HS.out _ HB.out) ?_;try simp only[M0,Pls]
     refine Till.tL 10 [11,12,17,18] 99 (Ji Jl 1) (HS.out _ HB.out) ?_;try simp only[M0,Pls]
     refine Till.tL 11 [12,17,18] 100 (Jp (Jo ⟨gL,3,Jn⟩)) (HS.out _ HB.out) ?_;try simp only[M0,Pls]
     refine Till.tk 12 17 101 (Ja #[Js sj0,Js sj1,Js sj2]) (HS.out _ HB.out) ?_;try simp only[M0,Pls]
     refine Till.tL 13 [15,16,17,18] 102 (.slice (Jo ⟨gL,0,Jn⟩) 3 3) (HS.out _ HB.out) ?_;try simp only[M0,Pls]
     refine Till.tL 14 [15,16,17,18] 103 (Ji Jl 2) (HS.out _ HB.out) ?_;try simp only[M0,Pls]
     refine Till.tL 15 [16,17,18] 104 (Jp (Jo ⟨gL,6,Jn⟩)) (HS.out _ HB.out) ?_;try simp only[M0,Pls]
     refine Till.tk 16 17 105 (Ja #[Js sl0,Js sl1,Js sl2]) (HS.out _ HB.out) ?_;try simp only[M0,Pls]
     refine Till.one (i:=8) (by kernel_rfl) rfl (fun K hK=>?_);go_simp;refine(HV1.out _ _ _ _ _ _ _ (Jd K0.out HB.out) (Vj.out.keep HB.out) (Vl.out.keep HB.out)).mono ?_;rintro e v1⟨rfl,g⟩;replace HB:=Lh (Jd HB.out g);clear g;go_wp2_with fail
     refine hK.out _ _ (fun _=>HS.out _ HB.out) ?_;clear hK K;try simp only[Pls]
     refine Till.one (i:=17) (by kernel_rfl) rfl (fun K hK=>?_);go_simp;refine(HR1.out _).mono ?_;rintro e v2⟨rfl,g⟩;replace HB:=Lh (Jd HB.out g);clear g;go_wp2_with fail
     refine hK.out _ _ (fun _=>HS.out _ HB.out) ?_;clear hK K;try simp only[Pls]
     refine Till.one (i:=18) (by kernel_rfl) rfl (fun K hK=>?_);go_simp;refine hK.out _ _ (fun h=>absurd h (by simp)) ?_;clear hK K;try simp only[Pls]
     refine Till.done (by kernel_rfl) ?_ _;have Hf:=Lh (Jd Hb.out HB.out);go_wp2_with fail
     go_roundw;case rel=>exact⟨2,2,by decide,rfl,by go_num,Hf.out⟩
     case measure=>simp[intOf]
   | false=>
    as_aux_lemma=>
     refine(HP1.out (by first|rfl|trivial) _ _ _ _ K0.out Vj.out).mono ?_;rintro e w1⟨t0_,t1_,t2_,rfl,hx,g⟩;clear c1_0 c1_1 c1_2 c1_3 c1_4 c1_5 c1_6 c1_7 c1_8 c1_9 c1_10 c1_11;unfold Jv;replace SL:=Lh (SL.out.keep g);replace WL:=Lh (WL.out.keep g);replace Vi:=Lh (Vi.out.keep g);replace Vj:=Lh (Vj.out.keep g);replace Vl:=Lh (Vl.out.keep g);replace K0:=Lh (Jd K0.out g);replace Hb:=Lh (Jd Hb.out g);have kv:=(M2 w1.heap.size w1).alloc (M3 _) (Jc #[Ji Jl t0_.1,Jp t0_.2.1,Ji Jl t0_.2.2.1,Jp t0_.2.2.2,Ji Jl t1_.1,Jp t1_.2.1,Ji Jl t1_.2.2.1,Jp t1_.2.2.2,Ji Jl t2_.1,Jp t2_.2.1,Ji Jl t2_.2.2.1,Jp t2_.2.2.2] 32);have hP:=Jh.new w1 #[Ji Jl t0_.1,Jp t0_.2.1,Ji Jl t0_.2.2.1,Jp t0_.2.2.2,Ji Jl t1_.1,Jp t1_.2.1,Ji Jl t1_.2.2.1,Jp t1_.2.2.2,Ji Jl t2_.1,Jp t2_.2.1,Ji Jl t2_.2.2.1,Jp t2_.2.2.2] 32;have hx:=hx.keep kv;obtain⟨pP,hpP⟩:∃p,w1.heap.size=p:=⟨_,rfl⟩;obtain⟨W5,hW5⟩:∃u,w1.alloc (Jc #[Ji Jl t0_.1,Jp t0_.2.1,Ji Jl t0_.2.2.1,Jp t0_.2.2.2,Ji Jl t1_.1,Jp t1_.2.1,Ji Jl t1_.2.2.1,Jp t1_.2.2.2,Ji Jl t2_.1,Jp t2_.2.1,Ji Jl t2_.2.2.1,Jp t2_.2.2.2] 32)=u:=⟨_,rfl⟩;rw[hW5]at hP kv hx;rw[hpP]at hP;have PL:=Lh (show Jh W5 pP (flat [t0_,t1_,t2_])from hP);have VP:=Lh hx;replace SL:=Lh (SL.out.keep kv);replace WL:=Lh (WL.out.keep kv);replace Vi:=Lh (Vi.out.keep kv);replace Vj:=Lh (Vj.out.keep kv);replace Vl:=Lh (Vl.out.keep kv);replace K0:=Lh (Jd K0.out kv);replace Hb:=Lh (Jd Hb.out kv);clear hP kv g hx;have HS:=Lh (fun w' (hb:Below W5.heap.size W5 w')=>M1 (SL.out.keep hb).s9_1 (M1 (Jh.r12 (PL.out.keep hb)) (WL.out.keep hb).v36_1))
     go_upto_region 9 with fail
     try simp only[hpP,hW5]
     clear hpP hW5;refine Till.bH 44 HS (fun v0 HB=>?_);try simp only[Pls]
     refine Till.tL 0 [2,3,4,5,13,14,44] 41 (.slice (Jo ⟨gL,0,Jn⟩) 3 3) (HS.out _ HB.out) ?_;try simp only[M0,Pls]
     refine Till.oP 1 42 (Ji Jl 1) (HS.out _ HB.out) ?_;try simp only[M0,Pls]
     refine Till.oP 2 43 (Jp (Jo ⟨gL,3,Jn⟩)) (HS.out _ HB.out) ?_;try simp only[M0,Pls]
     refine Till.tL 3 [4,5,13,14,44] 44 (Ja #[Js sj0,Js sj1,Js sj2]) (HS.out _ HB.out) ?_;try simp only[M0,Pls]
     refine Till.one (i:=4) (by kernel_rfl) rfl (fun K hK=>?_);go_simp;refine(HZ1.out _).mono ?_;rintro e v1⟨rfl,g⟩;replace HB:=Lh (Jd HB.out g);clear g;go_wp2_with fail
     refine hK.out _ _ (fun _=>HS.out _ HB.out) ?_;clear hK K;try simp only[Pls]
     refine Till.oP 5 46 (.bool false) (HS.out _ HB.out) ?_;try simp only[M0,Pls]
     refine Till.oN 6 47 (HS.out _ HB.out) ?_;try simp only[M0,Pls]
     refine Till.oN 7 48 (HS.out _ HB.out) ?_;try simp only[M0,Pls]
     refine Till.oN 8 49 (HS.out _ HB.out) ?_;try simp only[M0,Pls]
     refine Till.oN 9 50 (HS.out _ HB.out) ?_;try simp only[M0,Pls]
     refine Till.oN 10 51 (HS.out _ HB.out) ?_;try simp only[M0,Pls]
     refine Till.oN 11 52 (HS.out _ HB.out) ?_;try simp only[M0,Pls]
     refine Till.oN 12 53 (HS.out _ HB.out) ?_;try simp only[M0,Pls]
     refine Till.oP 13 54 (.bool false) (HS.out _ HB.out) ?_;try simp only[M0,Pls]
     refine Till.oP 14 55 (.bool false) (HS.out _ HB.out) ?_;try simp only[M0,Pls]
     refine Till.tL 15 [17,18,19,21,43,44] 56 (.slice (Jo ⟨gL,0,Jn⟩) 3 3) (HS.out _ HB.out) ?_;try simp only[M0,Pls]
     refine Till.oP 16 57 (Ji Jl 1) (HS.out _ HB.out) ?_;try simp only[M0,Pls]
     refine Till.oP 17 58 (Jp (Jo ⟨gL,3,Jn⟩)) (HS.out _ HB.out) ?_;try simp only[M0,Pls]
     refine Till.tL 18 [19,21,43,44] 59 (Ja #[Js sj0,Js sj1,Js sj2]) (HS.out _ HB.out) ?_;try simp only[M0,Pls]
     refine Till.one (i:=19) (by kernel_rfl) rfl (fun K hK=>?_);go_simp;refine(HZ1.out _).mono ?_;rintro e v2⟨rfl,g⟩;replace HB:=Lh (Jd HB.out g);clear g;go_wp2_with fail
     refine hK.out _ _ (fun _=>HS.out _ HB.out) ?_;clear hK K;try simp only[Pls]
     refine Till.oP 20 61 (.bool true) (HS.out _ HB.out) ?_;try simp only[M0,Pls]
     refine Till.oP 21 62 (.bool true) (HS.out _ HB.out) ?_;try simp only[M0,Pls]
     refine Till.oP 22 63 (Ji Jl 0) (HS.out _ HB.out) ?_;try simp only[M0,Pls]
     refine Till.oP 23 64 (.bool false) (HS.out _ HB.out) ?_;try simp only[M0,Pls]
     refine Till.oP 24 65 (.bool false) (HS.out _ HB.out) ?_;try simp only[M0,Pls]
     refine Till.tL 25 [31,34,42,43,44] 66 (Ja #[Ji Jl t0_.1,Jp t0_.2.1,Ji Jl t0_.2.2.1,Jp t0_.2.2.2,Ji Jl t1_.1,Jp t1_.2.1,Ji Jl t1_.2.2.1,Jp t1_.2.2.2,Ji Jl t2_.1,Jp t2_.2.1,Ji Jl t2_.2.2.1,Jp t2_.2.2.2]) (HS.out _ HB.out) ?_;try simp only[M0,Pls]
     refine Till.tL 26 [28,29,30,31,34,42,43,44] 67 (.slice (Jo ⟨gL,0,Jn⟩) 3 3) (HS.out _ HB.out) ?_;try simp only[M0,Pls]
     refine Till.oP 27 68 (Ji Jl 1) (HS.out _ HB.out) ?_;try simp only[M0,Pls]
     refine Till.oP 28 69 (Jp (Jo ⟨gL,3,Jn⟩)) (HS.out _ HB.out) ?_;try simp only[M0,Pls]
     refine Till.tL 29 [30,31,34,42,43,44] 70 (Ja #[Js sj0,Js sj1,Js sj2]) (HS.out _ HB.out) ?_;try simp only[M0,Pls]
     refine Till.one (i:=30) (by kernel_rfl) rfl (fun K hK=>?_);go_simp;refine(HRP1.out (by first|rfl|trivial) _).mono ?_;rintro e v3⟨rfl,g⟩;replace HB:=Lh (Jd HB.out g);clear g;go_wp2_with fail
     refine hK.out _ _ (fun _=>HS.out _ HB.out) ?_;clear hK K;try simp only[Pls]
     refine Till.one (i:=31) (by kernel_rfl) rfl (fun K hK=>?_);go_simp;refine(HIS1.out (by first|rfl|trivial) _ _ _ _ (Jd K0.out HB.out) (VP.out.keep HB.out)).mono ?_;rintro e v4⟨rfl,g⟩;replace HB:=Lh (Jd HB.out g);clear g;go_wp2_with fail
     refine hK.out _ _ (fun _=>HS.out _ HB.out) ?_;clear hK K;try simp only[Pls]
     refine Till.oP 32 73 (.bool false) (HS.out _ HB.out) ?_;try simp only[M0,Pls]
     refine Till.oP 33 74 (.bool false) (HS.out _ HB.out) ?_;try simp only[M0,Pls]
     refine Till.oP 34 75 (.bool false) (HS.out _ HB.out) ?_;try simp only[M0,Pls]
     refine Till.tL 35 [40,41,42,43,44] 76 (Ja #[Ji Jl t0_.1,Jp t0_.2.1,Ji Jl t0_.2.2.1,Jp t0_.2.2.2,Ji Jl t1_.1,Jp t1_.2.1,Ji Jl t1_.2.2.1,Jp t1_.2.2.2,Ji Jl t2_.1,Jp t2_.2.1,Ji Jl t2_.2.2.1,Jp t2_.2.2.2]) (HS.out _ HB.out) ?_;try simp only[M0,Pls]
     refine Till.tL 36 [38,39,40,41,42,43,44] 77 (.slice (Jo ⟨gW,0,Jn⟩) 3 3) (HS.out _ HB.out) ?_;try simp only[M0,Pls]
     refine Till.oP 37 78 (Ji Jl 1) (HS.out _ HB.out) ?_;try simp only[M0,Pls]
     refine Till.oP 38 79 (Jp (Jo ⟨gW,12,Jn⟩)) (HS.out _ HB.out) ?_;try simp only[M0,Pls]
     refine Till.tL 39 [40,41,42,43,44] 80 (Ja #[Ji Jl xj0.1,Jp xj0.2.1,Ji Jl xj0.2.2.1,Jp xj0.2.2.2,Ji Jl xj1.1,Jp xj1.2.1,Ji Jl xj1.2.2.1,Jp xj1.2.2.2,Ji Jl xj2.1,Jp xj2.2.1,Ji Jl xj2.2.2.1,Jp xj2.2.2.2]) (HS.out _ HB.out) ?_;try simp only[M0,Pls]
     refine Till.one (i:=40) (by kernel_rfl) rfl (fun K hK=>?_);go_simp;refine(HPA1.out (by first|rfl|trivial) _ _ _ _ _ _ _ (Jd K0.out HB.out) (VP.out.keep HB.out) (Vj.out.keep HB.out)).mono ?_;rintro e v5⟨rfl,g⟩;replace HB:=Lh (Jd HB.out g);clear g;go_wp2_with fail
     refine hK.out _ _ (fun _=>HS.out _ HB.out) ?_;clear hK K;try simp only[Pls]
     refine Till.oP 41 82 (.bool false) (HS.out _ HB.out) ?_;try simp only[M0,Pls]
     refine Till.oP 42 83 (.bool false) (HS.out _ HB.out) ?_;try simp only[M0,Pls]
     refine Till.oP 43 84 (.bool false) (HS.out _ HB.out) ?_;try simp only[M0,Pls]
     refine Till.one (i:=44) (by kernel_rfl) rfl (fun K hK=>?_);go_simp;refine hK.out _ _ (fun h=>absurd h (by simp)) ?_;clear hK K;try simp only[Pls]
     refine Till.done (by kernel_rfl) ?_ _;replace SL:=Lh (SL.out.keep HB.out);replace WL:=Lh (WL.out.keep HB.out);replace Vi:=Lh (Vi.out.keep HB.out);replace Vj:=Lh (Vj.out.keep HB.out);replace Vl:=Lh (Vl.out.keep HB.out);replace K0:=Lh (Jd K0.out HB.out);replace Hb:=Lh (Jd Hb.out HB.out);clear HB HS PL VP;generalize v5=W6 at *
     have HS:=Lh (fun w' (hb:Below W6.heap.size W6 w')=>M1 (SL.out.keep hb).s9_1 (M1 (SL.out.keep hb).s9_2 (M1 (WL.out.keep hb).v36_1 (WL.out.keep hb).v36_2)));go_upto_region 12 with fail
     refine Till.bH 18 HS (fun v0 HB=>?_);try simp only[Pls]
     refine Till.tL 0 [2,3,8,18] 89 (.slice (Jo ⟨gW,0,Jn⟩) 3 3) (HS.out _ HB.out) ?_;try simp only[M0,Pls]
     refine Till.tL 1 [2,3,8,18] 90 (Ji Jl 1) (HS.out _ HB.out) ?_;try simp only[M0,Pls]
     refine Till.tL 2 [3,8,18] 91 (Jp (Jo ⟨gW,12,Jn⟩)) (HS.out _ HB.out) ?_;try simp only[M0,Pls]
     refine Till.tk 3 8 92 (Ja #[Ji Jl xj0.1,Jp xj0.2.1,Ji Jl xj0.2.2.1,Jp xj0.2.2.2,Ji Jl xj1.1,Jp xj1.2.1,Ji Jl xj1.2.2.1,Jp xj1.2.2.2,Ji Jl xj2.1,Jp xj2.2.1,Ji Jl xj2.2.2.1,Jp xj2.2.2.2]) (HS.out _ HB.out) ?_;try simp only[M0,Pls]
     refine Till.tL 4 [6,7,8,18] 93 (.slice (Jo ⟨gW,0,Jn⟩) 3 3) (HS.out _ HB.out) ?_;try simp only[M0,Pls]
     refine Till.tL 5 [6,7,8,18] 94 (Ji Jl 2) (HS.out _ HB.out) ?_;try simp only[M0,Pls]
     refine Till.tL 6 [7,8,18] 95 (Jp (Jo ⟨gW,24,Jn⟩)) (HS.out _ HB.out) ?_;try simp only[M0,Pls]
     refine Till.tk 7 8 96 (Ja #[Ji Jl xl0.1,Jp xl0.2.1,Ji Jl xl0.2.2.1,Jp xl0.2.2.2,Ji Jl xl1.1,Jp xl1.2.1,Ji Jl xl1.2.2.1,Jp xl1.2.2.2,Ji Jl xl2.1,Jp xl2.2.1,Ji Jl xl2.2.2.1,Jp xl2.2.2.2]) (HS.out _ HB.out) ?_;try simp only[M0,Pls]
     refine Till.tL 9 [11,12,17,18] 98 (.slice (Jo ⟨gL,0,Jn⟩) 3 3) (HS.out _ HB.out) ?_;try simp only[M0,Pls]
     refine Till.tL 10 [11,12,17,18] 99 (Ji Jl 1) (HS.out _ HB.out) ?_;try simp only[M0,Pls]
     refine Till.tL 11 [12,17,18] 100 (Jp (Jo ⟨gL,3,Jn⟩)) (HS.out _ HB.out) ?_;try simp only[M0,Pls]
     refine Till.tk 12 17 101 (Ja #[Js sj0,Js sj1,Js sj2]) (HS.out _ HB.out) ?_;try simp only[M0,Pls]
     refine Till.tL 13 [15,16,17,18] 102 (.slice (Jo ⟨gL,0,Jn⟩) 3 3) (HS.out _ HB.out) ?_;try simp only[M0,Pls]
     refine Till.tL 14 [15,16,17,18] 103 (Ji Jl 2) (HS.out _ HB.out) ?_;try simp only[M0,Pls]
     refine Till.tL 15 [16,17,18] 104 (Jp (Jo ⟨gL,6,Jn⟩)) (HS.out _ HB.out) ?_;try simp only[M0,Pls]
     refine Till.tk 16 17 105 (Ja #[Js sl0,Js sl1,Js sl2]) (HS.out _ HB.out) ?_;try simp only[M0,Pls]
     refine Till.one (i:=8) (by kernel_rfl) rfl (fun K hK=>?_);go_simp;refine(HV1.out _ _ _ _ _ _ _ (Jd K0.out HB.out) (Vj.out.keep HB.out) (Vl.out.keep HB.out)).mono ?_;rintro e v1⟨rfl,g⟩;replace HB:=Lh (Jd HB.out g);clear g;go_wp2_with fail
     refine hK.out _ _ (fun _=>HS.out _ HB.out) ?_;clear hK K;try simp only[Pls]
     refine Till.one (i:=17) (by kernel_rfl) rfl (fun K hK=>?_);go_simp;refine(HR1.out _).mono ?_;rintro e v2⟨rfl,g⟩;replace HB:=Lh (Jd HB.out g);clear g;go_wp2_with fail
     refine hK.out _ _ (fun _=>HS.out _ HB.out) ?_;clear hK K;try simp only[Pls]
     refine Till.one (i:=18) (by kernel_rfl) rfl (fun K hK=>?_);go_simp;refine hK.out _ _ (fun h=>absurd h (by simp)) ?_;clear hK K;try simp only[Pls]
     refine Till.done (by kernel_rfl) ?_ _;have Hf:=Lh (Jd Hb.out HB.out);go_wp2_with fail
     go_roundw;case rel=>exact⟨2,2,by decide,rfl,by go_num,Hf.out⟩
     case measure=>simp[intOf]
  ·obtain rfl:z=2:=hzk;obtain⟨c2_0,c2_1,c2_2,c2_3,c2_4,c2_5,c2_6,c2_7,c2_8,c2_9,c2_10,c2_11⟩:=WL.out.v36_2;go_wp2_with fail
   cases z2 with
   | true=>
    as_aux_lemma=>
     refine(HPZ2.out (by first|rfl|trivial) _ _ _ _ Vl.out).mono ?_;rintro e w1⟨t0_,t1_,t2_,rfl,hx,g⟩;clear c2_0 c2_1 c2_2 c2_3 c2_4 c2_5 c2_6 c2_7 c2_8 c2_9 c2_10 c2_11;replace SL:=Lh (SL.out.keep g);replace WL:=Lh (WL.out.keep g);replace Vi:=Lh (Vi.out.keep g);replace Vj:=Lh (Vj.out.keep g);replace Vl:=Lh (Vl.out.keep g);replace K0:=Lh (Jd K0.out g);replace Hb:=Lh (Jd Hb.out g);have kv:=(M2 w1.heap.size w1).alloc (M3 _) (Jc #[Ji Jl t0_.1,Jp t0_.2.1,Ji Jl t0_.2.2.1,Jp t0_.2.2.2,Ji Jl t1_.1,Jp t1_.2.1,Ji Jl t1_.2.2.1,Jp t1_.2.2.2,Ji Jl t2_.1,Jp t2_.2.1,Ji Jl t2_.2.2.1,Jp t2_.2.2.2] 32);have hP:=Jh.new w1 #[Ji Jl t0_.1,Jp t0_.2.1,Ji Jl t0_.2.2.1,Jp t0_.2.2.2,Ji Jl t1_.1,Jp t1_.2.1,Ji Jl t1_.2.2.1,Jp t1_.2.2.2,Ji Jl t2_.1,Jp t2_.2.1,Ji Jl t2_.2.2.1,Jp t2_.2.2.2] 32;obtain⟨pP,hpP⟩:∃p,w1.heap.size=p:=⟨_,rfl⟩;obtain⟨W5,hW5⟩:∃u,w1.alloc (Jc #[Ji Jl t0_.1,Jp t0_.2.1,Ji Jl t0_.2.2.1,Jp t0_.2.2.2,Ji Jl t1_.1,Jp t1_.2.1,Ji Jl t1_.2.2.1,Jp t1_.2.2.2,Ji Jl t2_.1,Jp t2_.2.1,Ji Jl t2_.2.2.1,Jp t2_.2.2.2] 32)=u:=⟨_,rfl⟩;rw[hW5]at hP kv;rw[hpP]at hP;have PL:=Lh (show Jh W5 pP (flat [t0_,t1_,t2_])from hP);have VP:=Lh hx;replace SL:=Lh (SL.out.keep kv);replace WL:=Lh (WL.out.keep kv);replace Vi:=Lh (Vi.out.keep kv);replace Vj:=Lh (Vj.out.keep kv);replace Vl:=Lh (Vl.out.keep kv);replace K0:=Lh (Jd K0.out kv);replace Hb:=Lh (Jd Hb.out kv);clear hP kv g hx;have HS:=Lh (fun w' (hb:Below W5.heap.size W5 w')=>M1 (SL.out.keep hb).s9_2 (M1 (Jh.r12 (PL.out.keep hb)) (WL.out.keep hb).v36_2));go_upto_region 9 with fail
     try simp only[hpP,hW5]
     clear hpP hW5;refine Till.bH 44 HS (fun v0 HB=>?_);try simp only[Pls]
     refine Till.tL 0 [2,3,4,5,13,14,44] 41 (.slice (Jo ⟨gL,0,Jn⟩) 3 3) (HS.out _ HB.out) ?_;try simp only[M0,Pls]
     refine Till.oP 1 42 (Ji Jl 2) (HS.out _ HB.out) ?_;try simp only[M0,Pls]
     refine Till.oP 2 43 (Jp (Jo ⟨gL,6,Jn⟩)) (HS.out _ HB.out) ?_;try simp only[M0,Pls]
     refine Till.tL 3 [4,5,13,14,44] 44 (Ja #[Js sl0,Js sl1,Js sl2]) (HS.out _ HB.out) ?_;try simp only[M0,Pls]
     refine Till.one (i:=4) (by kernel_rfl) rfl (fun K hK=>?_);go_simp;refine(HZ2.out _).mono ?_;rintro e v1⟨rfl,g⟩;replace HB:=Lh (Jd HB.out g);clear g;go_wp2_with fail
     refine hK.out _ _ (fun _=>HS.out _ HB.out) ?_;clear hK K;try simp only[Pls]
     refine Till.oP 5 46 (.bool true) (HS.out _ HB.out) ?_;try simp only[M0,Pls]
     refine Till.oP 6 47 (Ji Jl 19) (HS.out _ HB.out) ?_;try simp only[M0,Pls]
     refine Till.oP 7 48 (.bool false) (HS.out _ HB.out) ?_;try simp only[M0,Pls]
     refine Till.oP 8 49 (.bool false) (HS.out _ HB.out) ?_;try simp only[M0,Pls]
     refine Till.tL 9 [10,14,44] 50 (Ja #[Ji Jl t0_.1,Jp t0_.2.1,Ji Jl t0_.2.2.1,Jp t0_.2.2.2,Ji Jl t1_.1,Jp t1_.2.1,Ji Jl t1_.2.2.1,Jp t1_.2.2.2,Ji Jl t2_.1,Jp t2_.2.1,Ji Jl t2_.2.2.1,Jp t2_.2.2.2]) (HS.out _ HB.out) ?_;try simp only[M0,Pls]
     refine Till.one (i:=10) (by kernel_rfl) rfl (fun K hK=>?_);go_simp;refine(HZZ.out _ _ _ _ VP.out).mono ?_;rintro e v2⟨rfl,g⟩;replace HB:=Lh (Jd HB.out g);clear g;go_wp2_with fail
     refine hK.out _ _ (fun _=>HS.out _ HB.out) ?_;clear hK K;try simp only[Pls]
     refine Till.oP 11 52 (.bool false) (HS.out _ HB.out) ?_;try simp only[M0,Pls]
     refine Till.oP 12 53 (.bool false) (HS.out _ HB.out) ?_;try simp only[M0,Pls]
     refine Till.oP 13 54 (.bool false) (HS.out _ HB.out) ?_;try simp only[M0,Pls]
     refine Till.oP 14 55 (.bool false) (HS.out _ HB.out) ?_;try simp only[M0,Pls]
     refine Till.tL 15 [17,18,19,21,43,44] 56 (.slice (Jo ⟨gL,0,Jn⟩) 3 3) (HS.out _ HB.out) ?_;try simp only[M0,Pls]
     refine Till.oP 16 57 (Ji Jl 2) (HS.out _ HB.out) ?_;try simp only[M0,Pls]
     refine Till.oP 17 58 (Jp (Jo ⟨gL,6,Jn⟩)) (HS.out _ HB.out) ?_;try simp only[M0,Pls]
     refine Till.tL 18 [19,21,43,44] 59 (Ja #[Js sl0,Js sl1,Js sl2]) (HS.out _ HB.out) ?_;try simp only[M0,Pls]
     refine Till.one (i:=19) (by kernel_rfl) rfl (fun K hK=>?_);go_simp;refine(HZ2.out _).mono ?_;rintro e v3⟨rfl,g⟩;replace HB:=Lh (Jd HB.out g);clear g;go_wp2_with fail
     refine hK.out _ _ (fun _=>HS.out _ HB.out) ?_;clear hK K;try simp only[Pls]
     refine Till.oP 20 61 (.bool false) (HS.out _ HB.out) ?_;try simp only[M0,Pls]
     refine Till.oP 21 62 (.bool false) (HS.out _ HB.out) ?_;try simp only[M0,Pls]
     refine Till.oN 22 63 (HS.out _ HB.out) ?_;try simp only[M0,Pls]
     refine Till.oN 23 64 (HS.out _ HB.out) ?_;try simp only[M0,Pls]
     refine Till.oN 24 65 (HS.out _ HB.out) ?_;try simp only[M0,Pls]
     refine Till.sL 25 [31,34,42,43,44] 66 (HS.out _ HB.out) ?_;try simp only[M0,Pls]
     refine Till.sL 26 [28,29,30,31,34,42,43,44] 67 (HS.out _ HB.out) ?_;try simp only[M0,Pls]
     refine Till.oN 27 68 (HS.out _ HB.out) ?_;try simp only[M0,Pls]
     refine Till.oN 28 69 (HS.out _ HB.out) ?_;try simp only[M0,Pls]
     refine Till.oN 29 70 (HS.out _ HB.out) ?_;try simp only[M0,Pls]
     refine Till.oN 30 71 (HS.out _ HB.out) ?_;try simp only[M0,Pls]
     refine Till.oN 31 72 (HS.out _ HB.out) ?_;try simp only[M0,Pls]
     refine Till.oN 32 73 (HS.out _ HB.out) ?_;try simp only[M0,Pls]
     refine Till.oN 33 74 (HS.out _ HB.out) ?_;try simp only[M0,Pls]
     refine Till.oN 34 75 (HS.out _ HB.out) ?_;try simp only[M0,Pls]
     refine Till.sL 35 [40,41,42,43,44] 76 (HS.out _ HB.out) ?_;try simp only[M0,Pls]
     refine Till.sL 36 [38,39,40,41,42,43,44] 77 (HS.out _ HB.out) ?_;try simp only[M0,Pls]
     refine Till.oN 37 78 (HS.out _ HB.out) ?_;try simp only[M0,Pls]
     refine Till.oN 38 79 (HS.out _ HB.out) ?_;try simp only[M0,Pls]
     refine Till.oN 39 80 (HS.out _ HB.out) ?_;try simp only[M0,Pls]
     refine Till.oN 40 81 (HS.out _ HB.out) ?_;try simp only[M0,Pls]
     refine Till.oN 41 82 (HS.out _ HB.out) ?_;try simp only[M0,Pls]
     refine Till.oN 42 83 (HS.out _ HB.out) ?_;try simp only[M0,Pls]
     refine Till.oP 43 84 (.bool false) (HS.out _ HB.out) ?_;try simp only[M0,Pls]
     refine Till.one (i:=44) (by kernel_rfl) rfl (fun K hK=>?_);go_simp;refine hK.out _ _ (fun h=>absurd h (by simp)) ?_;clear hK K;try simp only[Pls]
     refine Till.done (by kernel_rfl) ?_ _;replace SL:=Lh (SL.out.keep HB.out);replace WL:=Lh (WL.out.keep HB.out);replace Vi:=Lh (Vi.out.keep HB.out);replace Vj:=Lh (Vj.out.keep HB.out);replace Vl:=Lh (Vl.out.keep HB.out);replace K0:=Lh (Jd K0.out HB.out);replace Hb:=Lh (Jd Hb.out HB.out);clear HB HS PL VP;generalize v3=W6 at *
     have HS:=Lh (fun w' (hb:Below W6.heap.size W6 w')=>M1 (SL.out.keep hb).s9_2 (M1 (SL.out.keep hb).s9_0 (M1 (WL.out.keep hb).v36_2 (WL.out.keep hb).v36_0)));go_upto_region 12 with fail
     refine Till.bH 18 HS (fun v0 HB=>?_);try simp only[Pls]
     refine Till.tL 0 [2,3,8,18] 89 (.slice (Jo ⟨gW,0,Jn⟩) 3 3) (HS.out _ HB.out) ?_;try simp only[M0,Pls]
     refine Till.tL 1 [2,3,8,18] 90 (Ji Jl 2) (HS.out _ HB.out) ?_;try simp only[M0,Pls]
     refine Till.tL 2 [3,8,18] 91 (Jp (Jo ⟨gW,24,Jn⟩)) (HS.out _ HB.out) ?_;try simp only[M0,Pls]
     refine Till.tk 3 8 92 (Ja #[Ji Jl xl0.1,Jp xl0.2.1,Ji Jl xl0.2.2.1,Jp xl0.2.2.2,Ji Jl xl1.1,Jp xl1.2.1,Ji Jl xl1.2.2.1,Jp xl1.2.2.2,Ji Jl xl2.1,Jp xl2.2.1,Ji Jl xl2.2.2.1,Jp xl2.2.2.2]) (HS.out _ HB.out) ?_;try simp only[M0,Pls]
     refine Till.tL 4 [6,7,8,18] 93 (.slice (Jo ⟨gW,0,Jn⟩) 3 3) (HS.out _ HB.out) ?_;try simp only[M0,Pls]
     refine Till.tL 5 [6,7,8,18] 94 (Ji Jl 0) (HS.out _ HB.out) ?_;try simp only[M0,Pls]
     refine Till.tL 6 [7,8,18] 95 (Jp (Jo ⟨gW,0,Jn⟩)) (HS.out _ HB.out) ?_;try simp only[M0,Pls]
     refine Till.tk 7 8 96 (Ja #[Ji Jl xi0.1,Jp xi0.2.1,Ji Jl xi0.2.2.1,Jp xi0.2.2.2,Ji Jl xi1.1,Jp xi1.2.1,Ji Jl xi1.2.2.1,Jp xi1.2.2.2,Ji Jl xi2.1,Jp xi2.2.1,Ji Jl xi2.2.2.1,Jp xi2.2.2.2]) (HS.out _ HB.out) ?_;try simp only[M0,Pls]
     refine Till.tL 9 [11,12,17,18] 98 (.slice (Jo ⟨gL,0,Jn⟩) 3 3) (HS.out _ HB.out) ?_;try simp only[M0,Pls]
     refine Till.tL 10 [11,12,17,18] 99 (Ji Jl 2) (HS.out _ HB.out) ?_;try simp only[M0,Pls]
     refine Till.tL 11 [12,17,18] 100 (Jp (Jo ⟨gL,6,Jn⟩)) (HS.out _ HB.out) ?_;try simp only[M0,Pls]
     refine Till.tk 12 17 101 (Ja #[Js sl0,Js sl1,Js sl2]) (HS.out _ HB.out) ?_;try simp only[M0,Pls]
     refine Till.tL 13 [15,16,17,18] 102 (.slice (Jo ⟨gL,0,Jn⟩) 3 3) (HS.out _ HB.out) ?_;try simp only[M0,Pls]
     refine Till.tL 14 [15,16,17,18] 103 (Ji Jl 0) (HS.out _ HB.out) ?_;try simp only[M0,Pls]
     refine Till.tL 15 [16,17,18] 104 (Jp (Jo ⟨gL,0,Jn⟩)) (HS.out _ HB.out) ?_;try simp only[M0,Pls]
     refine Till.tk 16 17 105 (Ja #[Js si0,Js si1,Js si2]) (HS.out _ HB.out) ?_;try simp only[M0,Pls]
     refine Till.one (i:=8) (by kernel_rfl) rfl (fun K hK=>?_);go_simp;refine(HV2.out _ _ _ _ _ _ _ (Jd K0.out HB.out) (Vl.out.keep HB.out) (Vi.out.keep HB.out)).mono ?_;rintro e v1⟨rfl,g⟩;replace HB:=Lh (Jd HB.out g);clear g;go_wp2_with fail
     refine hK.out _ _ (fun _=>HS.out _ HB.out) ?_;clear hK K;try simp only[Pls]
     refine Till.one (i:=17) (by kernel_rfl) rfl (fun K hK=>?_);go_simp;refine(HR2.out _).mono ?_;rintro e v2⟨rfl,g⟩;replace HB:=Lh (Jd HB.out g);clear g;go_wp2_with fail
     refine hK.out _ _ (fun _=>HS.out _ HB.out) ?_;clear hK K;try simp only[Pls]
     refine Till.one (i:=18) (by kernel_rfl) rfl (fun K hK=>?_);go_simp;refine hK.out _ _ (fun h=>absurd h (by simp)) ?_;clear hK K;try simp only[Pls]
     refine Till.done (by kernel_rfl) ?_ _;have Hf:=Lh (Jd Hb.out HB.out);go_wp2_with fail
     go_roundw;case rel=>exact⟨3,3,by decide,rfl,by go_num,Hf.out⟩
     case measure=>simp[intOf]
   | false=>
    as_aux_lemma=>
     refine(HP2.out (by first|rfl|trivial) _ _ _ _ K0.out Vl.out).mono ?_;rintro e w1⟨t0_,t1_,t2_,rfl,hx,g⟩;clear c2_0 c2_1 c2_2 c2_3 c2_4 c2_5 c2_6 c2_7 c2_8 c2_9 c2_10 c2_11;unfold Jv;replace SL:=Lh (SL.out.keep g);replace WL:=Lh (WL.out.keep g);replace Vi:=Lh (Vi.out.keep g);replace Vj:=Lh (Vj.out.keep g);replace Vl:=Lh (Vl.out.keep g);replace K0:=Lh (Jd K0.out g);replace Hb:=Lh (Jd Hb.out g);have kv:=(M2 w1.heap.size w1).alloc (M3 _) (Jc #[Ji Jl t0_.1,Jp t0_.2.1,Ji Jl t0_.2.2.1,Jp t0_.2.2.2,Ji Jl t1_.1,Jp t1_.2.1,Ji Jl t1_.2.2.1,Jp t1_.2.2.2,Ji Jl t2_.1,Jp t2_.2.1,Ji Jl t2_.2.2.1,Jp t2_.2.2.2] 32);have hP:=Jh.new w1 #[Ji Jl t0_.1,Jp t0_.2.1,Ji Jl t0_.2.2.1,Jp t0_.2.2.2,Ji Jl t1_.1,Jp t1_.2.1,Ji Jl t1_.2.2.1,Jp t1_.2.2.2,Ji Jl t2_.1,Jp t2_.2.1,Ji Jl t2_.2.2.1,Jp t2_.2.2.2] 32;have hx:=hx.keep kv;obtain⟨pP,hpP⟩:∃p,w1.heap.size=p:=⟨_,rfl⟩;obtain⟨W5,hW5⟩:∃u,w1.alloc (Jc #[Ji Jl t0_.1,Jp t0_.2.1,Ji Jl t0_.2.2.1,Jp t0_.2.2.2,Ji Jl t1_.1,Jp t1_.2.1,Ji Jl t1_.2.2.1,Jp t1_.2.2.2,Ji Jl t2_.1,Jp t2_.2.1,Ji Jl t2_.2.2.1,Jp t2_.2.2.2] 32)=u:=⟨_,rfl⟩;rw[hW5]at hP kv hx;rw[hpP]at hP;have PL:=Lh (show Jh W5 pP (flat [t0_,t1_,t2_])from hP);have VP:=Lh hx;replace SL:=Lh (SL.out.keep kv);replace WL:=Lh (WL.out.keep kv);replace Vi:=Lh (Vi.out.keep kv);replace Vj:=Lh (Vj.out.keep kv);replace Vl:=Lh (Vl.out.keep kv);replace K0:=Lh (Jd K0.out kv);replace Hb:=Lh (Jd Hb.out kv);clear hP kv g hx;have HS:=Lh (fun w' (hb:Below W5.heap.size W5 w')=>M1 (SL.out.keep hb).s9_2 (M1 (Jh.r12 (PL.out.keep hb)) (WL.out.keep hb).v36_2))
     go_upto_region 9 with fail
     try simp only[hpP,hW5]
     clear hpP hW5;refine Till.bH 44 HS (fun v0 HB=>?_);try simp only[Pls]
     refine Till.tL 0 [2,3,4,5,13,14,44] 41 (.slice (Jo ⟨gL,0,Jn⟩) 3 3) (HS.out _ HB.out) ?_;try simp only[M0,Pls]
     refine Till.oP 1 42 (Ji Jl 2) (HS.out _ HB.out) ?_;try simp only[M0,Pls]
     refine Till.oP 2 43 (Jp (Jo ⟨gL,6,Jn⟩)) (HS.out _ HB.out) ?_;try simp only[M0,Pls]
     refine Till.tL 3 [4,5,13,14,44] 44 (Ja #[Js sl0,Js sl1,Js sl2]) (HS.out _ HB.out) ?_;try simp only[M0,Pls]
     refine Till.one (i:=4) (by kernel_rfl) rfl (fun K hK=>?_);go_simp;refine(HZ2.out _).mono ?_;rintro e v1⟨rfl,g⟩;replace HB:=Lh (Jd HB.out g);clear g;go_wp2_with fail
     refine hK.out _ _ (fun _=>HS.out _ HB.out) ?_;clear hK K;try simp only[Pls]
     refine Till.oP 5 46 (.bool false) (HS.out _ HB.out) ?_;try simp only[M0,Pls]
     refine Till.oN 6 47 (HS.out _ HB.out) ?_;try simp only[M0,Pls]
     refine Till.oN 7 48 (HS.out _ HB.out) ?_;try simp only[M0,Pls]
     refine Till.oN 8 49 (HS.out _ HB.out) ?_;try simp only[M0,Pls]
     refine Till.oN 9 50 (HS.out _ HB.out) ?_;try simp only[M0,Pls]
     refine Till.oN 10 51 (HS.out _ HB.out) ?_;try simp only[M0,Pls]
     refine Till.oN 11 52 (HS.out _ HB.out) ?_;try simp only[M0,Pls]
     refine Till.oN 12 53 (HS.out _ HB.out) ?_;try simp only[M0,Pls]
     refine Till.oP 13 54 (.bool false) (HS.out _ HB.out) ?_;try simp only[M0,Pls]
     refine Till.oP 14 55 (.bool false) (HS.out _ HB.out) ?_;try simp only[M0,Pls]
     refine Till.tL 15 [17,18,19,21,43,44] 56 (.slice (Jo ⟨gL,0,Jn⟩) 3 3) (HS.out _ HB.out) ?_;try simp only[M0,Pls]
     refine Till.oP 16 57 (Ji Jl 2) (HS.out _ HB.out) ?_;try simp only[M0,Pls]
     refine Till.oP 17 58 (Jp (Jo ⟨gL,6,Jn⟩)) (HS.out _ HB.out) ?_;try simp only[M0,Pls]
     refine Till.tL 18 [19,21,43,44] 59 (Ja #[Js sl0,Js sl1,Js sl2]) (HS.out _ HB.out) ?_;try simp only[M0,Pls]
     refine Till.one (i:=19) (by kernel_rfl) rfl (fun K hK=>?_);go_simp;refine(HZ2.out _).mono ?_;rintro e v2⟨rfl,g⟩;replace HB:=Lh (Jd HB.out g);clear g;go_wp2_with fail
     refine hK.out _ _ (fun _=>HS.out _ HB.out) ?_;clear hK K;try simp only[Pls]
     refine Till.oP 20 61 (.bool true) (HS.out _ HB.out) ?_;try simp only[M0,Pls]
     refine Till.oP 21 62 (.bool true) (HS.out _ HB.out) ?_;try simp only[M0,Pls]
     refine Till.oP 22 63 (Ji Jl 0) (HS.out _ HB.out) ?_;try simp only[M0,Pls]
     refine Till.oP 23 64 (.bool false) (HS.out _ HB.out) ?_;try simp only[M0,Pls]
     refine Till.oP 24 65 (.bool false) (HS.out _ HB.out) ?_;try simp only[M0,Pls]
     refine Till.tL 25 [31,34,42,43,44] 66 (Ja #[Ji Jl t0_.1,Jp t0_.2.1,Ji Jl t0_.2.2.1,Jp t0_.2.2.2,Ji Jl t1_.1,Jp t1_.2.1,Ji Jl t1_.2.2.1,Jp t1_.2.2.2,Ji Jl t2_.1,Jp t2_.2.1,Ji Jl t2_.2.2.1,Jp t2_.2.2.2]) (HS.out _ HB.out) ?_;try simp only[M0,Pls]
     refine Till.tL 26 [28,29,30,31,34,42,43,44] 67 (.slice (Jo ⟨gL,0,Jn⟩) 3 3) (HS.out _ HB.out) ?_;try simp only[M0,Pls]
     refine Till.oP 27 68 (Ji Jl 2) (HS.out _ HB.out) ?_;try simp only[M0,Pls]
     refine Till.oP 28 69 (Jp (Jo ⟨gL,6,Jn⟩)) (HS.out _ HB.out) ?_;try simp only[M0,Pls]
     refine Till.tL 29 [30,31,34,42,43,44] 70 (Ja #[Js sl0,Js sl1,Js sl2]) (HS.out _ HB.out) ?_;try simp only[M0,Pls]
     refine Till.one (i:=30) (by kernel_rfl) rfl (fun K hK=>?_);go_simp;refine(HRP2.out (by first|rfl|trivial) _).mono ?_;rintro e v3⟨rfl,g⟩;replace HB:=Lh (Jd HB.out g);clear g;go_wp2_with fail
     refine hK.out _ _ (fun _=>HS.out _ HB.out) ?_;clear hK K;try simp only[Pls]
     refine Till.one (i:=31) (by kernel_rfl) rfl (fun K hK=>?_);go_simp;refine(HIS2.out (by first|rfl|trivial) _ _ _ _ (Jd K0.out HB.out) (VP.out.keep HB.out)).mono ?_;rintro e v4⟨rfl,g⟩;replace HB:=Lh (Jd HB.out g);clear g;go_wp2_with fail
     refine hK.out _ _ (fun _=>HS.out _ HB.out) ?_;clear hK K;try simp only[Pls]
     refine Till.oP 32 73 (.bool false) (HS.out _ HB.out) ?_;try simp only[M0,Pls]
     refine Till.oP 33 74 (.bool false) (HS.out _ HB.out) ?_;try simp only[M0,Pls]
     refine Till.oP 34 75 (.bool false) (HS.out _ HB.out) ?_;try simp only[M0,Pls]
     refine Till.tL 35 [40,41,42,43,44] 76 (Ja #[Ji Jl t0_.1,Jp t0_.2.1,Ji Jl t0_.2.2.1,Jp t0_.2.2.2,Ji Jl t1_.1,Jp t1_.2.1,Ji Jl t1_.2.2.1,Jp t1_.2.2.2,Ji Jl t2_.1,Jp t2_.2.1,Ji Jl t2_.2.2.1,Jp t2_.2.2.2]) (HS.out _ HB.out) ?_;try simp only[M0,Pls]
     refine Till.tL 36 [38,39,40,41,42,43,44] 77 (.slice (Jo ⟨gW,0,Jn⟩) 3 3) (HS.out _ HB.out) ?_;try simp only[M0,Pls]
     refine Till.oP 37 78 (Ji Jl 2) (HS.out _ HB.out) ?_;try simp only[M0,Pls]
     refine Till.oP 38 79 (Jp (Jo ⟨gW,24,Jn⟩)) (HS.out _ HB.out) ?_;try simp only[M0,Pls]
     refine Till.tL 39 [40,41,42,43,44] 80 (Ja #[Ji Jl xl0.1,Jp xl0.2.1,Ji Jl xl0.2.2.1,Jp xl0.2.2.2,Ji Jl xl1.1,Jp xl1.2.1,Ji Jl xl1.2.2.1,Jp xl1.2.2.2,Ji Jl xl2.1,Jp xl2.2.1,Ji Jl xl2.2.2.1,Jp xl2.2.2.2]) (HS.out _ HB.out) ?_;try simp only[M0,Pls]
     refine Till.one (i:=40) (by kernel_rfl) rfl (fun K hK=>?_);go_simp;refine(HPA2.out (by first|rfl|trivial) _ _ _ _ _ _ _ (Jd K0.out HB.out) (VP.out.keep HB.out) (Vl.out.keep HB.out)).mono ?_;rintro e v5⟨rfl,g⟩;replace HB:=Lh (Jd HB.out g);clear g;go_wp2_with fail
     refine hK.out _ _ (fun _=>HS.out _ HB.out) ?_;clear hK K;try simp only[Pls]
     refine Till.oP 41 82 (.bool false) (HS.out _ HB.out) ?_;try simp only[M0,Pls]
     refine Till.oP 42 83 (.bool false) (HS.out _ HB.out) ?_;try simp only[M0,Pls]
     refine Till.oP 43 84 (.bool false) (HS.out _ HB.out) ?_;try simp only[M0,Pls]
     refine Till.one (i:=44) (by kernel_rfl) rfl (fun K hK=>?_);go_simp;refine hK.out _ _ (fun h=>absurd h (by simp)) ?_;clear hK K;try simp only[Pls]
     refine Till.done (by kernel_rfl) ?_ _;replace SL:=Lh (SL.out.keep HB.out);replace WL:=Lh (WL.out.keep HB.out);replace Vi:=Lh (Vi.out.keep HB.out);replace Vj:=Lh (Vj.out.keep HB.out);replace Vl:=Lh (Vl.out.keep HB.out);replace K0:=Lh (Jd K0.out HB.out);replace Hb:=Lh (Jd Hb.out HB.out);clear HB HS PL VP;generalize v5=W6 at *
     have HS:=Lh (fun w' (hb:Below W6.heap.size W6 w')=>M1 (SL.out.keep hb).s9_2 (M1 (SL.out.keep hb).s9_0 (M1 (WL.out.keep hb).v36_2 (WL.out.keep hb).v36_0)));go_upto_region 12 with fail
     refine Till.bH 18 HS (fun v0 HB=>?_);try simp only[Pls]
     refine Till.tL 0 [2,3,8,18] 89 (.slice (Jo ⟨gW,0,Jn⟩) 3 3) (HS.out _ HB.out) ?_;try simp only[M0,Pls]
     refine Till.tL 1 [2,3,8,18] 90 (Ji Jl 2) (HS.out _ HB.out) ?_;try simp only[M0,Pls]
     refine Till.tL 2 [3,8,18] 91 (Jp (Jo ⟨gW,24,Jn⟩)) (HS.out _ HB.out) ?_;try simp only[M0,Pls]
     refine Till.tk 3 8 92 (Ja #[Ji Jl xl0.1,Jp xl0.2.1,Ji Jl xl0.2.2.1,Jp xl0.2.2.2,Ji Jl xl1.1,Jp xl1.2.1,Ji Jl xl1.2.2.1,Jp xl1.2.2.2,Ji Jl xl2.1,Jp xl2.2.1,Ji Jl xl2.2.2.1,Jp xl2.2.2.2]) (HS.out _ HB.out) ?_;try simp only[M0,Pls]
     refine Till.tL 4 [6,7,8,18] 93 (.slice (Jo ⟨gW,0,Jn⟩) 3 3) (HS.out _ HB.out) ?_;try simp only[M0,Pls]
     refine Till.tL 5 [6,7,8,18] 94 (Ji Jl 0) (HS.out _ HB.out) ?_;try simp only[M0,Pls]
     refine Till.tL 6 [7,8,18] 95 (Jp (Jo ⟨gW,0,Jn⟩)) (HS.out _ HB.out) ?_;try simp only[M0,Pls]
     refine Till.tk 7 8 96 (Ja #[Ji Jl xi0.1,Jp xi0.2.1,Ji Jl xi0.2.2.1,Jp xi0.2.2.2,Ji Jl xi1.1,Jp xi1.2.1,Ji Jl xi1.2.2.1,Jp xi1.2.2.2,Ji Jl xi2.1,Jp xi2.2.1,Ji Jl xi2.2.2.1,Jp xi2.2.2.2]) (HS.out _ HB.out) ?_;try simp only[M0,Pls]
     refine Till.tL 9 [11,12,17,18] 98 (.slice (Jo ⟨gL,0,Jn⟩) 3 3) (HS.out _ HB.out) ?_;try simp only[M0,Pls]
     refine Till.tL 10 [11,12,17,18] 99 (Ji Jl 2) (HS.out _ HB.out) ?_;try simp only[M0,Pls]
     refine Till.tL 11 [12,17,18] 100 (Jp (Jo ⟨gL,6,Jn⟩)) (HS.out _ HB.out) ?_;try simp only[M0,Pls]
     refine Till.tk 12 17 101 (Ja #[Js sl0,Js sl1,Js sl2]) (HS.out _ HB.out) ?_;try simp only[M0,Pls]
     refine Till.tL 13 [15,16,17,18] 102 (.slice (Jo ⟨gL,0,Jn⟩) 3 3) (HS.out _ HB.out) ?_;try simp only[M0,Pls]
     refine Till.tL 14 [15,16,17,18] 103 (Ji Jl 0) (HS.out _ HB.out) ?_;try simp only[M0,Pls]
     refine Till.tL 15 [16,17,18] 104 (Jp (Jo ⟨gL,0,Jn⟩)) (HS.out _ HB.out) ?_;try simp only[M0,Pls]
     refine Till.tk 16 17 105 (Ja #[Js si0,Js si1,Js si2]) (HS.out _ HB.out) ?_;try simp only[M0,Pls]
     refine Till.one (i:=8) (by kernel_rfl) rfl (fun K hK=>?_);go_simp;refine(HV2.out _ _ _ _ _ _ _ (Jd K0.out HB.out) (Vl.out.keep HB.out) (Vi.out.keep HB.out)).mono ?_;rintro e v1⟨rfl,g⟩;replace HB:=Lh (Jd HB.out g);clear g;go_wp2_with fail
     refine hK.out _ _ (fun _=>HS.out _ HB.out) ?_;clear hK K;try simp only[Pls]
     refine Till.one (i:=17) (by kernel_rfl) rfl (fun K hK=>?_);go_simp;refine(HR2.out _).mono ?_;rintro e v2⟨rfl,g⟩;replace HB:=Lh (Jd HB.out g);clear g;go_wp2_with fail
     refine hK.out _ _ (fun _=>HS.out _ HB.out) ?_;clear hK K;try simp only[Pls]
     refine Till.one (i:=18) (by kernel_rfl) rfl (fun K hK=>?_);go_simp;refine hK.out _ _ (fun h=>absurd h (by simp)) ?_;clear hK K;try simp only[Pls]
     refine Till.done (by kernel_rfl) ?_ _;have Hf:=Lh (Jd Hb.out HB.out);go_wp2_with fail
     go_roundw;case rel=>exact⟨3,3,by decide,rfl,by go_num,Hf.out⟩
     case measure=>simp[intOf]
  ·obtain rfl:z=3:=hzk;go_wp2;go_ret;exact⟨rfl,K0.out⟩
