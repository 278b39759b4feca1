/- GC33: Vint Vsho -/
import Derived.Test.YtekhdklbfincpaaGreatDoorGC32
set_option maxRecDepth 100000
set_option maxHeartbeats 16000000
namespace Go.Proofs.YtekhdklbfincpaaGreatDoor
open Go.Value renaming pointer→Jp,int→Ji
open Go.IntKind renaming i64→Jl
open Go.Obj renaming cells→Jc
open _root_.Option renaming none→Jn,some→Jo
open Go renaming World→JW
open _root_.Nat renaming le_succ→M0,le_refl→M1,gcd→M3,gcd_zero_right→M4,le_trans→M5,gcd_dvd_left→M6,eq_zero_or_pos→M7,le_of_lt→M8,gcd_dvd_right→M9,gcd_comm→Mr
open Go.RowKit.Below renaming refl→M2
open Go.RowKit
theorem DA(w:JW):VecV w Jm Jm Jm 0 0 0:=⟨VW w,VW w,VW w⟩
theorem Lo:Mid3 0 0 0:=⟨⟨by decide +kernel,by decide +kernel⟩,⟨by decide +kernel,by decide +kernel⟩,⟨by decide +kernel,by decide +kernel⟩⟩
theorem L3(x0 x1 x2 y0 y1 y2:R4)(p0 p1 p2 q0 q1 q2:Rat)(w:JW)(h:VecV w x0 x1 x2 p0 p1 p2)(h':VecV w y0 y1 y2 q0 q1 q2)(m:Mid3 p0 p1 p2)(m':Mid3 q0 q1 q2) :
  Calls Tryz.prog 44 #[Jv x0 x1 x2,Jv y0 y1 y2] w fun e w'=>e= .returned (.bool (cmpV p0 p1 p2 q0 q1 q2 ==0))/\Below w.heap.size w w':=by
 have kb:=((M2 w.heap.size w).alloc (M1 _) (Jc #[Ji Jl x0.1,Jp x0.2.1,Ji Jl x0.2.2.1,Jp x0.2.2.2,Ji Jl x1.1,Jp x1.2.1,Ji Jl x1.2.2.1,Jp x1.2.2.2,Ji Jl x2.1,Jp x2.2.1,Ji Jl x2.2.2.1,Jp x2.2.2.2] 32)).alloc (by simp) (Jc #[Ji Jl y0.1,Jp y0.2.1,Ji Jl y0.2.2.1,Jp y0.2.2.2,Ji Jl y1.1,Jp y1.2.1,Ji Jl y1.2.2.1,Jp y1.2.2.2,Ji Jl y2.1,Jp y2.2.1,Ji Jl y2.2.2.1,Jp y2.2.2.2] 32);have HC:=Lh (DJ x0 x1 x2 y0 y1 y2 p0 p1 p2 q0 q1 q2 _ (h.keep kb) (h'.keep kb) m m');have Kb:=Lh kb;obtain⟨cv,hcv⟩:∃x,cmpV p0 p1 p2 q0 q1 q2=x:=⟨_,rfl⟩;rw[hcv]at HC ⊢;clear h h' m m' kb hcv;unfold Jv at *
 go_enter Tryz.func44,Tryz.ntmps44;go_wp2_with fail
 refine HC.out.mono ?_;rintro e w1⟨rfl,h1⟩;have Kf:=Lh (Jd Kb.out h1);clear h1;go_wp2;exact bodyPost_ret (v:= .bool (cv ==0)) (by simp[results,Tryz.results44,go_sem]) rfl ⟨rfl,Kf.out⟩
theorem Ug(x0 x1 x2:R4)(p0 p1 p2:Rat)(w:JW)(h:VecV w x0 x1 x2 p0 p1 p2)(m:Mid3 p0 p1 p2) :
  Calls Tryz.prog 42 #[Jv x0 x1 x2] w fun e w'=>e= .returned (.bool (cmpV p0 p1 p2 0 0 0 ==0))/\Below w.heap.size w w':=by
 have kb:=(M2 w.heap.size w).alloc (M1 _) (Jc #[Ji Jl x0.1,Jp x0.2.1,Ji Jl x0.2.2.1,Jp x0.2.2.2,Ji Jl x1.1,Jp x1.2.1,Ji Jl x1.2.2.1,Jp x1.2.2.2,Ji Jl x2.1,Jp x2.2.1,Ji Jl x2.2.2.1,Jp x2.2.2.2] 32);have HC:=Lh (L3 x0 x1 x2 Jm Jm Jm p0 p1 p2 0 0 0 _ (h.keep kb) (DA _) m Lo);have Kb:=Lh kb;obtain⟨cv,hcv⟩:∃x,cmpV p0 p1 p2 0 0 0=x:=⟨_,rfl⟩;rw[hcv]at HC ⊢;clear h m kb hcv;unfold Jv at *
 go_enter Tryz.func42,Tryz.ntmps42;go_wp2_with fail
 refine HC.out.mono ?_;rintro e w1⟨rfl,h1⟩;have Kf:=Lh (Jd Kb.out h1);clear h1;go_wp2;exact bodyPost_ret (v:= .bool (cv ==0)) (by simp[results,Tryz.results42,go_sem]) rfl ⟨rfl,Kf.out⟩
def IsI(q:Rat):Prop:=q.den=1/\I64 q.num
instance (q:Rat):Decidable (IsI q):=by unfold IsI I64;exact inferInstance
def Dx(q0 q1 q2:Rat)(w:JW)(e:Ending)(w':JW):Prop:=
 ∃n0 n1 n2 E:Int,e= .returned (.tuple #[.agg #[Ji Jl n0,Ji Jl n1,Ji Jl n2],Ji Jl E])/\(IsI q0/\IsI q1/\IsI q2->n0=q0.num/\n1=q1.num/\n2=q2.num/\E=0)/\(¬(IsI q0/\IsI q1/\IsI q2)->n0=0/\n1=0/\n2=0/\E=3)/\Below w.heap.size w w'
theorem OY(x0 x1 x2:R4)(q0 q1 q2:Rat)(w:JW)(h:VecV w x0 x1 x2 q0 q1 q2) :
  Calls Tryz.prog 20 #[Jv x0 x1 x2] w (Dx q0 q1 q2 w):=by
 have kb:=(((M2 w.heap.size w).alloc (M1 _) (Jc #[Ji Jl x0.1,Jp x0.2.1,Ji Jl x0.2.2.1,Jp x0.2.2.2,Ji Jl x1.1,Jp x1.2.1,Ji Jl x1.2.2.1,Jp x1.2.2.2,Ji Jl x2.1,Jp x2.2.1,Ji Jl x2.2.2.1,Jp x2.2.2.2] 32)).alloc (by simp) (Jc #[Ji Jl 0,Ji Jl 0,Ji Jl 0] 40)).alloc (by simp;omega) (Jc #[Ji Jl 0,Ji Jl 0,Ji Jl 0] 40);have C0:=((JZ w x0 x1 x2).keep ((M2 _ _).alloc (M1 _) (Jc #[Ji Jl 0,Ji Jl 0,Ji Jl 0] 40))).keep ((M2 _ _).alloc (M1 _) (Jc #[Ji Jl 0,Ji Jl 0,Ji Jl 0] 40));have C1:=(Jh.new (w.alloc (Jc #[Ji Jl x0.1,Jp x0.2.1,Ji Jl x0.2.2.1,Jp x0.2.2.2,Ji Jl x1.1,Jp x1.2.1,Ji Jl x1.2.2.1,Jp x1.2.2.2,Ji Jl x2.1,Jp x2.2.1,Ji Jl x2.2.2.1,Jp x2.2.2.2] 32)) #[Ji Jl 0,Ji Jl 0,Ji Jl 0] 40).keep ((M2 _ _).alloc (M1 _) (Jc #[Ji Jl 0,Ji Jl 0,Ji Jl 0] 40));have C2:=Jh.new ((w.alloc (Jc #[Ji Jl x0.1,Jp x0.2.1,Ji Jl x0.2.2.1,Jp x0.2.2.2,Ji Jl x1.1,Jp x1.2.1,Ji Jl x1.2.2.1,Jp x1.2.2.2,Ji Jl x2.1,Jp x2.2.1,Ji Jl x2.2.2.1,Jp x2.2.2.2] 32)).alloc (Jc #[Ji Jl 0,Ji Jl 0,Ji Jl 0] 40)) #[Ji Jl 0,Ji Jl 0,Ji Jl 0] 40;have hs:(((w.alloc (Jc #[Ji Jl x0.1,Jp x0.2.1,Ji Jl x0.2.2.1,Jp x0.2.2.2,Ji Jl x1.1,Jp x1.2.1,Ji Jl x1.2.2.1,Jp x1.2.2.2,Ji Jl x2.1,Jp x2.2.1,Ji Jl x2.2.2.1,Jp x2.2.2.2] 32)).alloc (Jc #[Ji Jl 0,Ji Jl 0,Ji Jl 0] 40)).alloc (Jc #[Ji Jl 0,Ji Jl 0,Ji Jl 0] 40)).heap.size=w.heap.size+1+1+1:=by simp
 simp only[World.size_alloc]at C1 C2;obtain⟨W,hW⟩:∃u,((w.alloc (Jc #[Ji Jl x0.1,Jp x0.2.1,Ji Jl x0.2.2.1,Jp x0.2.2.2,Ji Jl x1.1,Jp x1.2.1,Ji Jl x1.2.2.1,Jp x1.2.2.2,Ji Jl x2.1,Jp x2.2.1,Ji Jl x2.2.2.1,Jp x2.2.2.2] 32)).alloc (Jc #[Ji Jl 0,Ji Jl 0,Ji Jl 0] 40)).alloc (Jc #[Ji Jl 0,Ji Jl 0,Ji Jl 0] 40)=u:=⟨_,rfl⟩;rw[hW]at kb C0 C1 C2 hs;have H:=Lh h;have Kb:=Lh kb;have V0:=Lh C0;have V1:=Lh C1;have V2:=Lh C2;have HL:=Lh (fun wr (hb:Below (w.heap.size+1) W wr)=>(kb.trans (hb.mono (by omega)):Below w.heap.size w wr));have HX:=Lh (fun wr (hb:Below (w.heap.size+1) W wr) (i:Nat)=>(hb.cell (p:=⟨w.heap.size,i,Jn⟩) (Nat.lt_succ_self _)).trans (C0.at_ i));have HZ:=Lh (show W.heap.size=w.heap.size+1+1+1 from hs);have HR0:=Lh (fun w' (hb:Below w.heap.size w w')=>Vm _ _ _ _ q0 w' (H.out.x.keep hb));have HR1:=Lh (fun w' (hb:Below w.heap.size w w')=>Vm _ _ _ _ q1 w' (H.out.y.keep hb));have HR2:=Lh (fun w' (hb:Below w.heap.size w w')=>Vm _ _ _ _ q2 w' (H.out.z.keep hb));clear h kb C0 C1 C2 hs H;unfold Jv;go_enter Tryz.func20,Tryz.ntmps20;go_wp2_with fail
 try simp only[hW]
 clear hW;go_loopw [8] (fun v wr=>∃(k:Nat) (z m0 m1 m2:Int),k<=3/\z=(k:Int)/\v=Ji Jl z/\(0<k->m0=q0.num/\IsI q0)/\(1<k->m1=q1.num/\IsI q1)/\(2<k->m2=q2.num/\IsI q2)/\Jh wr (w.heap.size+1) [Ji Jl 0,Ji Jl 0,Ji Jl 0]/\Jh wr (w.heap.size+1+1) [Ji Jl m0,Ji Jl m1,Ji Jl m2]/\Below (w.heap.size+1) W wr) (fun v _=>3-(intOf v).toNat)
 case atStart=>exact⟨0,0,0,0,0,by decide,rfl,rfl,fun h=>absurd h (by decide),fun h=>absurd h (by decide),fun h=>absurd h (by decide),V1.out,V2.out,M2 _ _⟩
 case round=>
  obtain⟨k,z,m0,m1,m2,hk,hzk,rfl,e0,e1,e2,hc1,hc2,hb⟩:=hrel;have Hb:=Lh hb;have C1:=Lh hc1;have C2:=Lh hc2;have E0:=Lh e0;have E1:=Lh e1;have E2:=Lh e2;clear hb hc1 hc2 e0 e1 e2;obtain rfl|rfl|rfl|rfl:k=0\/k=1\/k=2\/k=3:=by omega
  ·obtain rfl:z=0:=hzk;have c0:wr.cell? ⟨w.heap.size,0,Jn⟩=Jo (Ji Jl x0.1):=HX.out wr Hb.out 0;have c1:wr.cell? ⟨w.heap.size,1,Jn⟩=Jo (Jp x0.2.1):=HX.out wr Hb.out 1;have c2:wr.cell? ⟨w.heap.size,2,Jn⟩=Jo (Ji Jl x0.2.2.1):=HX.out wr Hb.out 2;have c3:wr.cell? ⟨w.heap.size,3,Jn⟩=Jo (Jp x0.2.2.2):=HX.out wr Hb.out 3;go_wp2_with fail
   refine(HR0.out _ (HL.out _ Hb.out)).mono ?_;rintro e w1⟨⟨n,b,rfl,hr⟩,h1⟩;have hsz:=Hb.out.size;rw[HZ.out]at hsz;have C1:=Lh (C1.out.keep h1);have C2:=Lh (C2.out.keep h1);have Hb:=Lh (Hb.out.trans (h1.mono (by omega)));clear h1 hsz c0 c1 c2 c3;by_cases hi:IsI q0
   ·obtain⟨rfl,rfl⟩:=hr.1 hi;have Hi:=Lh hi;have f0:w1.frozen? ⟨w.heap.size+1+1,0,Jn⟩=false:=C2.out.fz 0;have a0:w1.cell? ⟨w.heap.size+1+1,0,Jn⟩=Jo (Ji Jl m0):=C2.out.at_ 0;have D1:=Lh (C1.out.other (show w.heap.size+1≠w.heap.size+1+1 by omega) 0 (Ji Jl q0.num));have D2:=Lh (C2.out.set 0 (Ji Jl q0.num) (by simp));have Db:=Lh (Hb.out.setCell (p:=⟨w.heap.size+1+1,0,Jn⟩) (by show w.heap.size+1<=w.heap.size+1+1;omega) (Ji Jl q0.num));clear hi hr;go_wp2_with fail
    go_roundw;case rel=>exact⟨1,1,q0.num,m1,m2,by decide,rfl,by go_num,fun _=>⟨rfl,Hi.out⟩,fun h=>absurd h (by decide),fun h=>absurd h (by decide),D1.out,D2.out,Db.out⟩
    case measure=>simp[intOf]
   ·obtain⟨rfl,rfl⟩:=hr.2 hi;have Hi:=Lh hi;have f0:w1.frozen? ⟨w.heap.size+1,0,Jn⟩=false:=C1.out.fz 0;have z0:w1.cell? ⟨w.heap.size+1,0,Jn⟩=Jo (Ji Jl 0):=C1.out.at_ 0;have f1:w1.frozen? ⟨w.heap.size+1,1,Jn⟩=false:=C1.out.fz 1;have z1:w1.cell? ⟨w.heap.size+1,1,Jn⟩=Jo (Ji Jl 0):=C1.out.at_ 1;have f2:w1.frozen? ⟨w.heap.size+1,2,Jn⟩=false:=C1.out.fz 2;have z2:w1.cell? ⟨w.heap.size+1,2,Jn⟩=Jo (Ji Jl 0):=C1.out.at_ 2;have Kf:=Lh ((((HL.out _ Hb.out).setCell (p:=⟨w.heap.size+1,0,Jn⟩) (M0 _) (Ji Jl 0)).setCell (p:=⟨w.heap.size+1,1,Jn⟩) (M0 _) (Ji Jl 0)).setCell (p:=⟨w.heap.size+1,2,Jn⟩) (M0 _) (Ji Jl 0));clear hi hr;go_wp2;exact bodyPost_ret (v:= .tuple #[.agg #[Ji Jl 0,Ji Jl 0,Ji Jl 0],Ji Jl 3]) (by simp[results,Tryz.results20,go_sem,z0,z1,z2]) rfl ⟨0,0,0,3,rfl,fun h=>absurd h.1 Hi.out,fun _=>⟨rfl,rfl,rfl,rfl⟩,Kf.out⟩
  ·obtain rfl:z=1:=hzk;have c0:wr.cell? ⟨w.heap.size,4,Jn⟩=Jo (Ji Jl x1.1):=HX.out wr Hb.out 4;have c1:wr.cell? ⟨w.heap.size,5,Jn⟩=Jo (Jp x1.2.1):=HX.out wr Hb.out 5;have c2:wr.cell? ⟨w.heap.size,6,Jn⟩=Jo (Ji Jl x1.2.2.1):=HX.out wr Hb.out 6;have c3:wr.cell? ⟨w.heap.size,7,Jn⟩=Jo (Jp x1.2.2.2):=HX.out wr Hb.out 7;go_wp2_with fail
   refine(HR1.out _ (HL.out _ Hb.out)).mono ?_;rintro e w1⟨⟨n,b,rfl,hr⟩,h1⟩;have hsz:=Hb.out.size;rw[HZ.out]at hsz;have C1:=Lh (C1.out.keep h1);have C2:=Lh (C2.out.keep h1);have Hb:=Lh (Hb.out.trans (h1.mono (by omega)));clear h1 hsz c0 c1 c2 c3;by_cases hi:IsI q1
   ·obtain⟨rfl,rfl⟩:=hr.1 hi;have Hi:=Lh hi;have f0:w1.frozen? ⟨w.heap.size+1+1,1,Jn⟩=false:=C2.out.fz 1;have a0:w1.cell? ⟨w.heap.size+1+1,1,Jn⟩=Jo (Ji Jl m1):=C2.out.at_ 1;have D1:=Lh (C1.out.other (show w.heap.size+1≠w.heap.size+1+1 by omega) 1 (Ji Jl q1.num));have D2:=Lh (C2.out.set 1 (Ji Jl q1.num) (by simp));have Db:=Lh (Hb.out.setCell (p:=⟨w.heap.size+1+1,1,Jn⟩) (by show w.heap.size+1<=w.heap.size+1+1;omega) (Ji Jl q1.num));clear hi hr;go_wp2_with fail
    go_roundw;case rel=>exact⟨2,2,m0,q1.num,m2,by decide,rfl,by go_num,fun h=>E0.out (by omega),fun _=>⟨rfl,Hi.out⟩,fun h=>absurd h (by decide),D1.out,D2.out,Db.out⟩
    case measure=>simp[intOf]
   ·obtain⟨rfl,rfl⟩:=hr.2 hi;have Hi:=Lh hi;have f0:w1.frozen? ⟨w.heap.size+1,0,Jn⟩=false:=C1.out.fz 0;have z0:w1.cell? ⟨w.heap.size+1,0,Jn⟩=Jo (Ji Jl 0):=C1.out.at_ 0;have f1:w1.frozen? ⟨w.heap.size+1,1,Jn⟩=false:=C1.out.fz 1;have z1:w1.cell? ⟨w.heap.size+1,1,Jn⟩=Jo (Ji Jl 0):=C1.out.at_ 1;have f2:w1.frozen? ⟨w.heap.size+1,2,Jn⟩=false:=C1.out.fz 2;have z2:w1.cell? ⟨w.heap.size+1,2,Jn⟩=Jo (Ji Jl 0):=C1.out.at_ 2;have Kf:=Lh ((((HL.out _ Hb.out).setCell (p:=⟨w.heap.size+1,0,Jn⟩) (M0 _) (Ji Jl 0)).setCell (p:=⟨w.heap.size+1,1,Jn⟩) (M0 _) (Ji Jl 0)).setCell (p:=⟨w.heap.size+1,2,Jn⟩) (M0 _) (Ji Jl 0));clear hi hr;go_wp2;exact bodyPost_ret (v:= .tuple #[.agg #[Ji Jl 0,Ji Jl 0,Ji Jl 0],Ji Jl 3]) (by simp[results,Tryz.results20,go_sem,z0,z1,z2]) rfl ⟨0,0,0,3,rfl,fun h=>absurd h.2.1 Hi.out,fun _=>⟨rfl,rfl,rfl,rfl⟩,Kf.out⟩
  ·obtain rfl:z=2:=hzk;have c0:wr.cell? ⟨w.heap.size,8,Jn⟩=Jo (Ji Jl x2.1):=HX.out wr Hb.out 8;have c1:wr.cell? ⟨w.heap.size,9,Jn⟩=Jo (Jp x2.2.1):=HX.out wr Hb.out 9;have c2:wr.cell? ⟨w.heap.size,10,Jn⟩=Jo (Ji Jl x2.2.2.1):=HX.out wr Hb.out 10;have c3:wr.cell? ⟨w.heap.size,11,Jn⟩=Jo (Jp x2.2.2.2):=HX.out wr Hb.out 11;go_wp2_with fail
   refine(HR2.out _ (HL.out _ Hb.out)).mono ?_;rintro e w1⟨⟨n,b,rfl,hr⟩,h1⟩;have hsz:=Hb.out.size;rw[HZ.out]at hsz;have C1:=Lh (C1.out.keep h1);have C2:=Lh (C2.out.keep h1);have Hb:=Lh (Hb.out.trans (h1.mono (by omega)));clear h1 hsz c0 c1 c2 c3;by_cases hi:IsI q2
   ·obtain⟨rfl,rfl⟩:=hr.1 hi;have Hi:=Lh hi;have f0:w1.frozen? ⟨w.heap.size+1+1,2,Jn⟩=false:=C2.out.fz 2;have a0:w1.cell? ⟨w.heap.size+1+1,2,Jn⟩=Jo (Ji Jl m2):=C2.out.at_ 2;have D1:=Lh (C1.out.other (show w.heap.size+1≠w.heap.size+1+1 by omega) 2 (Ji Jl q2.num));have D2:=Lh (C2.out.set 2 (Ji Jl q2.num) (by simp));have Db:=Lh (Hb.out.setCell (p:=⟨w.heap.size+1+1,2,Jn⟩) (by show w.heap.size+1<=w.heap.size+1+1;omega) (Ji Jl q2.num));clear hi hr;go_wp2_with fail
    go_roundw;case rel=>exact⟨3,3,m0,m1,q2.num,by decide,rfl,by go_num,fun h=>E0.out (by omega),fun h=>E1.out (by omega),fun _=>⟨rfl,Hi.out⟩,D1.out,D2.out,Db.out⟩
    case measure=>simp[intOf]
   ·obtain⟨rfl,rfl⟩:=hr.2 hi;have Hi:=Lh hi;have f0:w1.frozen? ⟨w.heap.size+1,0,Jn⟩=false:=C1.out.fz 0;have z0:w1.cell? ⟨w.heap.size+1,0,Jn⟩=Jo (Ji Jl 0):=C1.out.at_ 0;have f1:w1.frozen? ⟨w.heap.size+1,1,Jn⟩=false:=C1.out.fz 1;have z1:w1.cell? ⟨w.heap.size+1,1,Jn⟩=Jo (Ji Jl 0):=C1.out.at_ 1;have f2:w1.frozen? ⟨w.heap.size+1,2,Jn⟩=false:=C1.out.fz 2;have z2:w1.cell? ⟨w.heap.size+1,2,Jn⟩=Jo (Ji Jl 0):=C1.out.at_ 2;have Kf:=Lh ((((HL.out _ Hb.out).setCell (p:=⟨w.heap.size+1,0,Jn⟩) (M0 _) (Ji Jl 0)).setCell (p:=⟨w.heap.size+1,1,Jn⟩) (M0 _) (Ji Jl 0)).setCell (p:=⟨w.heap.size+1,2,Jn⟩) (M0 _) (Ji Jl 0));clear hi hr;go_wp2;exact bodyPost_ret (v:= .tuple #[.agg #[Ji Jl 0,Ji Jl 0,Ji Jl 0],Ji Jl 3]) (by simp[results,Tryz.results20,go_sem,z0,z1,z2]) rfl ⟨0,0,0,3,rfl,fun h=>absurd h.2.2 Hi.out,fun _=>⟨rfl,rfl,rfl,rfl⟩,Kf.out⟩
  ·obtain rfl:z=3:=hzk;obtain⟨rfl,i0⟩:=E0.out (by decide);obtain⟨rfl,i1⟩:=E1.out (by decide);obtain⟨rfl,i2⟩:=E2.out (by decide);have Hi:=Lh (show IsI q0/\IsI q1/\IsI q2 from⟨i0,i1,i2⟩);clear i0 i1 i2;have f0:wr.frozen? ⟨w.heap.size+1,0,Jn⟩=false:=C1.out.fz 0;have z0:wr.cell? ⟨w.heap.size+1,0,Jn⟩=Jo (Ji Jl 0):=C1.out.at_ 0;have a0:wr.cell? ⟨w.heap.size+1+1,0,Jn⟩=Jo (Ji Jl q0.num):=C2.out.at_ 0;have f1:wr.frozen? ⟨w.heap.size+1,1,Jn⟩=false:=C1.out.fz 1;have z1:wr.cell? ⟨w.heap.size+1,1,Jn⟩=Jo (Ji Jl 0):=C1.out.at_ 1;have a1:wr.cell? ⟨w.heap.size+1+1,1,Jn⟩=Jo (Ji Jl q1.num):=C2.out.at_ 1;have f2:wr.frozen? ⟨w.heap.size+1,2,Jn⟩=false:=C1.out.fz 2;have z2:wr.cell? ⟨w.heap.size+1,2,Jn⟩=Jo (Ji Jl 0):=C1.out.at_ 2;have a2:wr.cell? ⟨w.heap.size+1+1,2,Jn⟩=Jo (Ji Jl q2.num):=C2.out.at_ 2;have Kf:=Lh ((((HL.out _ Hb.out).setCell (p:=⟨w.heap.size+1,0,Jn⟩) (M0 _) (Ji Jl q0.num)).setCell (p:=⟨w.heap.size+1,1,Jn⟩) (M0 _) (Ji Jl q1.num)).setCell (p:=⟨w.heap.size+1,2,Jn⟩) (M0 _) (Ji Jl q2.num));go_wp2;exact bodyPost_ret (v:= .tuple #[.agg #[Ji Jl q0.num,Ji Jl q1.num,Ji Jl q2.num],Ji Jl 0]) (by simp[results,Tryz.results20,go_sem,z0,z1,z2]) rfl ⟨_,_,_,0,rfl,fun _=>⟨rfl,rfl,rfl,rfl⟩,fun h=>absurd Hi.out h,Kf.out⟩
def gcd3(a b c:Nat):Nat->Nat
 | 0=>0
 | 1=>a
 | 2=>M3 a b
 | _=>M3 (M3 a b) c
theorem Od(d n:Int):M3 n.natAbs (Int.tmod d n).natAbs=M3 d.natAbs n.natAbs:=by
 rw[Int.natAbs_tmod,Mr d.natAbs n.natAbs,Nat.gcd_rec n.natAbs d.natAbs,Mr]
theorem VN(d n:Int)(h:n≠0):(Int.tmod d n).natAbs<n.natAbs:=by
 rw[Int.natAbs_tmod];exact Nat.mod_lt _ (by omega)
theorem WQ{d:Int}{g:Nat}(h:d.natAbs=g):d=(g:Int)\/d=-(g:Int):=by omega
theorem ZX{n:Int}{g:Nat}(hg:0<g)(h:n.natAbs<=9223372036854775807):I64 (n/(g:Int)):=by
 have:=Ey hg h;exact⟨by omega,by omega⟩
def VG(n0 n1 n2:Int)(G:Nat)(w wr:JW)(k:Nat):Prop:=
 ∃m0 m1 m2:Int,Jh wr w.heap.size [Ji Jl m0,Ji Jl m1,Ji Jl m2]/\m0=(if 0<k then n0/(G:Int) else n0)/\m1=(if 1<k then n1/(G:Int) else n1)/\m2=(if 2<k then n2/(G:Int) else n2)/\Jh wr (w.heap.size+1) (flat [Jm,Jm,Jm])/\Below w.heap.size w wr
theorem Ws(n0 n1 n2:Int)(G:Nat)(w:JW)(h0:n0.natAbs<=9223372036854775807)(h1:n1.natAbs<=9223372036854775807)(h2:n2.natAbs<=9223372036854775807)(hG:M3 (M3 n0.natAbs n1.natAbs) n2.natAbs=G)(hp:0<G) :
  Calls Tryz.prog 82 #[.agg #[Ji Jl n0,Ji Jl n1,Ji Jl n2]] w (V6 ((n0/(G:Int):Int):Rat) ((n1/(G:Int):Int):Rat) ((n2/(G:Int):Int):Rat) w):=by
 have d0:G∣n0.natAbs:=hG ▸ Nat.dvd_trans (M6 _ _) (M6 _ _);have d1:G∣n1.natAbs:=hG ▸ Nat.dvd_trans (M6 _ _) (M9 _ _);have d2:G∣n2.natAbs:=hG ▸ M9 _ _;have gm:G<=9223372036854775807:=by
  rcases M7 n2.natAbs with h|h
  ·rw[h,M4]at hG;rcases M7 n1.natAbs with h'|h'
   ·rw[h',M4]at hG;omega
   ·exact M5 (Nat.le_of_dvd h' d1) h1
  ·exact M5 (Nat.le_of_dvd h d2) h2
 have T0:=Lh (YF hp d0);have T1:=Lh (YF hp d1);have T2:=Lh (YF hp d2);have I0:=Lh (ZX hp h0);have I1:=Lh (ZX hp h1);have I2:=Lh (ZX hp h2);have kb:=((M2 w.heap.size w).alloc (M1 _) (Jc #[Ji Jl n0,Ji Jl n1,Ji Jl n2] 40)).alloc (by simp) (Jc #[Ji Jl 0,Jp Jn,Ji Jl 0,Jp Jn,Ji Jl 0,Jp Jn,Ji Jl 0,Jp Jn,Ji Jl 0,Jp Jn,Ji Jl 0,Jp Jn] 32);have C0:=(Jh.new w #[Ji Jl n0,Ji Jl n1,Ji Jl n2] 40).keep ((M2 _ _).alloc (M1 _) (Jc #[Ji Jl 0,Jp Jn,Ji Jl 0,Jp Jn,Ji Jl 0,Jp Jn,Ji Jl 0,Jp Jn,Ji Jl 0,Jp Jn,Ji Jl 0,Jp Jn] 32));have C1:=Jh.new (w.alloc (Jc #[Ji Jl n0,Ji Jl n1,Ji Jl n2] 40)) #[Ji Jl 0,Jp Jn,Ji Jl 0,Jp Jn,Ji Jl 0,Jp Jn,Ji Jl 0,Jp Jn,Ji Jl 0,Jp Jn,Ji Jl 0,Jp Jn] 32;have hs:((w.alloc (Jc #[Ji Jl n0,Ji Jl n1,Ji Jl n2] 40)).alloc (Jc #[Ji Jl 0,Jp Jn,Ji Jl 0,Jp Jn,Ji Jl 0,Jp Jn,Ji Jl 0,Jp Jn,Ji Jl 0,Jp Jn,Ji Jl 0,Jp Jn] 32)).heap.size=w.heap.size+1+1:=by simp
 simp only[World.size_alloc]at C1;have hc:=Jh.new w #[Ji Jl n0,Ji Jl n1,Ji Jl n2] 40;obtain⟨W,hW⟩:∃u,(w.alloc (Jc #[Ji Jl n0,Ji Jl n1,Ji Jl n2] 40)).alloc (Jc #[Ji Jl 0,Jp Jn,Ji Jl 0,Jp Jn,Ji Jl 0,Jp Jn,Ji Jl 0,Jp Jn,Ji Jl 0,Jp Jn,Ji Jl 0,Jp Jn] 32)=u:=⟨_,rfl⟩;rw[hW]at kb C0 C1 hs;have V0:=Lh C0;have V1:=Lh (show Jh W (w.heap.size+1) (flat [Jm,Jm,Jm])from C1);have Kb:=Lh kb;have b0:W.cell? ⟨w.heap.size,0,Jn⟩=Jo (Ji Jl n0):=V0.out.at_ 0;have b1:W.cell? ⟨w.heap.size,1,Jn⟩=Jo (Ji Jl n1):=V0.out.at_ 1;have b2:W.cell? ⟨w.heap.size,2,Jn⟩=Jo (Ji Jl n2):=V0.out.at_ 2;have HG:=Lh hG;have hx0:=fun W:JW=>show(Instr.index 40 (.agg #[Ji Jl n0,Ji Jl n1,Ji Jl n2]) (Ji Jl 0)).run Tryz.prog W= .ok (Ji Jl n0) W from rfl;have hx1:=fun W:JW=>show(Instr.index 40 (.agg #[Ji Jl n0,Ji Jl n1,Ji Jl n2]) (Ji Jl 1)).run Tryz.prog W= .ok (Ji Jl n1) W from rfl;have hx2:=fun W:JW=>show(Instr.index 40 (.agg #[Ji Jl n0,Ji Jl n1,Ji Jl n2]) (Ji Jl 2)).run Tryz.prog W= .ok (Ji Jl n2) W from rfl;clear kb C0 C1 hs hc d0 d1 d2 hG;go_enter Tryz.func82,Tryz.ntmps82;go_wp2_with fail
 try simp only[hW]
 clear hW;go_loopw [3,8] (fun vd vk wr=>∃(k:Nat) (z d:Int),k<=3/\z=(k:Int)/\vk=Ji Jl z/\vd=Ji Jl d/\d.natAbs=gcd3 n0.natAbs n1.natAbs n2.natAbs k/\d.natAbs<=9223372036854775807/\Below W.heap.size W wr) (fun _ vk _=>3-(intOf vk).toNat)
 case atStart=>exact⟨0,0,0,by decide,rfl,rfl,rfl,rfl,by decide,M2 _ _⟩
 case round=>
  obtain⟨k,z,d,hk,hzk,rfl,rfl,hd,hm,hb⟩:=hrel;have Hb:=Lh hb;clear hb;obtain rfl|rfl|rfl|rfl:k=0\/k=1\/k=2\/k=3:=by omega
  ·obtain rfl:z=0:=hzk;have Hst:=Lh (show M3 d.natAbs n0.natAbs=gcd3 n0.natAbs n1.natAbs n2.natAbs 1 from by have h0:d.natAbs=0:=hd;rw[show d=0 by omega];exact Nat.gcd_zero_left _);clear hd;go_wp2_with fail
   go_loopw [3,5] (fun vd vn wr=>∃d n:Int,vd=Ji Jl d/\vn=Ji Jl n/\d.natAbs<=9223372036854775807/\n.natAbs<=9223372036854775807/\M3 d.natAbs n.natAbs=gcd3 n0.natAbs n1.natAbs n2.natAbs 1/\Below W.heap.size W wr) (fun _ vn _=>(intOf vn).natAbs)
   case atStart=>exact⟨d,n0,rfl,rfl,hm,h0,Hst.out,Hb.out⟩
   case round=>
    obtain⟨d,n,rfl,rfl,hd1,hn1,hg,hb⟩:=hrel;have Hb:=Lh hb;clear hb hm;by_cases e:n=0
    ·subst e;have Hg:=Lh (show d.natAbs=gcd3 n0.natAbs n1.natAbs n2.natAbs 1 by rw[←hg];exact(M4 _).symm);clear hg;go_wp2;exact⟨⟨1,1,d,by decide,rfl,by go_num,rfl,Hg.out,hd1,Hb.out⟩,by simp[intOf]⟩
    ·have t0:(n ==0)=false:=by rw[beq_eq_false_iff_ne];exact e
     have t1:(n !=0)=true:=by rw[bne,t0];rfl
     have hl:=VN d n e;have hgn:=Od d n;rw[hg]at hgn;obtain⟨r,hr⟩:∃r,Int.tmod d n=r:=⟨_,rfl⟩;rw[hr]at hl hgn;have Hl:=Lh hl;have Hgn:=Lh hgn;have Hn1:=Lh hn1;clear hg hgn;have hd2:-9223372036854775807<=d/\d<=9223372036854775807:=by omega
     go_wp2_with fail
     go_quiet (fail)
     go_wp2_with fail
     exact⟨⟨n,r,rfl,rfl,Hn1.out,M5 (M8 Hl.out) Hn1.out,Hgn.out,by first|exact Hb.out|exact below_drewN Hb.out _⟩,by simp[intOf];exact Hl.out⟩
  ·obtain rfl:z=1:=hzk;have Hst:=Lh (show M3 d.natAbs n1.natAbs=gcd3 n0.natAbs n1.natAbs n2.natAbs 2 from by rw[hd];rfl);clear hd;go_wp2_with fail
   go_loopw [3,5] (fun vd vn wr=>∃d n:Int,vd=Ji Jl d/\vn=Ji Jl n/\d.natAbs<=9223372036854775807/\n.natAbs<=9223372036854775807/\M3 d.natAbs n.natAbs=gcd3 n0.natAbs n1.natAbs n2.natAbs 2/\Below W.heap.size W wr) (fun _ vn _=>(intOf vn).natAbs)
   case atStart=>exact⟨d,n1,rfl,rfl,hm,h1,Hst.out,Hb.out⟩
   case round=>
    obtain⟨d,n,rfl,rfl,hd1,hn1,hg,hb⟩:=hrel;have Hb:=Lh hb;clear hb hm;by_cases e:n=0
    ·subst e;have Hg:=Lh (show d.natAbs=gcd3 n0.natAbs n1.natAbs n2.natAbs 2 by rw[←hg];exact(M4 _).symm);clear hg;go_wp2;exact⟨⟨2,2,d,by decide,rfl,by go_num,rfl,Hg.out,hd1,Hb.out⟩,by simp[intOf]⟩
    ·have t0:(n ==0)=false:=by rw[beq_eq_false_iff_ne];exact e
     have t1:(n !=0)=true:=by rw[bne,t0];rfl
     have hl:=VN d n e;have hgn:=Od d n;rw[hg]at hgn;obtain⟨r,hr⟩:∃r,Int.tmod d n=r:=⟨_,rfl⟩;rw[hr]at hl hgn;have Hl:=Lh hl;have Hgn:=Lh hgn;have Hn1:=Lh hn1;clear hg hgn;have hd2:-9223372036854775807<=d/\d<=9223372036854775807:=by omega
     go_wp2_with fail
     go_quiet (fail)
     go_wp2_with fail
     exact⟨⟨n,r,rfl,rfl,Hn1.out,M5 (M8 Hl.out) Hn1.out,Hgn.out,by first|exact Hb.out|exact below_drewN Hb.out _⟩,by simp[intOf];exact Hl.out⟩
  ·obtain rfl:z=2:=hzk;have Hst:=Lh (show M3 d.natAbs n2.natAbs=gcd3 n0.natAbs n1.natAbs n2.natAbs 3 from by rw[hd];rfl);clear hd;go_wp2_with fail
   go_loopw [3,5] (fun vd vn wr=>∃d n:Int,vd=Ji Jl d/\vn=Ji Jl n/\d.natAbs<=9223372036854775807/\n.natAbs<=9223372036854775807/\M3 d.natAbs n.natAbs=gcd3 n0.natAbs n1.natAbs n2.natAbs 3/\Below W.heap.size W wr) (fun _ vn _=>(intOf vn).natAbs)
   case atStart=>exact⟨d,n2,rfl,rfl,hm,h2,Hst.out,Hb.out⟩
   case round=>
    obtain⟨d,n,rfl,rfl,hd1,hn1,hg,hb⟩:=hrel;have Hb:=Lh hb;clear hb hm;by_cases e:n=0
    ·subst e;have Hg:=Lh (show d.natAbs=gcd3 n0.natAbs n1.natAbs n2.natAbs 3 by rw[←hg];exact(M4 _).symm);clear hg;go_wp2;exact⟨⟨3,3,d,by decide,rfl,by go_num,rfl,Hg.out,hd1,Hb.out⟩,by simp[intOf]⟩
    ·have t0:(n ==0)=false:=by rw[beq_eq_false_iff_ne];exact e
     have t1:(n !=0)=true:=by rw[bne,t0];rfl
     have hl:=VN d n e;have hgn:=Od d n;rw[hg]at hgn;obtain⟨r,hr⟩:∃r,Int.tmod d n=r:=⟨_,rfl⟩;rw[hr]at hl hgn;have Hl:=Lh hl;have Hgn:=Lh hgn;have Hn1:=Lh hn1;clear hg hgn;have hd2:-9223372036854775807<=d/\d<=9223372036854775807:=by omega
     go_wp2_with fail
     go_quiet (fail)
     go_wp2_with fail
     exact⟨⟨n,r,rfl,rfl,Hn1.out,M5 (M8 Hl.out) Hn1.out,Hgn.out,by first|exact Hb.out|exact below_drewN Hb.out _⟩,by simp[intOf];exact Hl.out⟩
  ·obtain rfl:z=3:=hzk;have hd':d.natAbs=G:=hd.trans HG.out;have hG0:(0:Int)<(G:Int):=by omega
   clear hd hm;rcases WQ hd' with rfl|rfl;all_goals
    clear hd';have tm:max (G:Int) (-(G:Int))=(G:Int):=by omega
    have tm2:max (-(G:Int)) (G:Int)=(G:Int):=by omega
    have Hs0:=Lh (show VG n0 n1 n2 G w wr 0 from⟨n0,n1,n2,V0.out.keep Hb.out,rfl,rfl,rfl,V1.out.keep Hb.out,Jd Kb.out Hb.out⟩);go_wp2_with fail
    go_loopw [22] (fun v wr=>∃(k:Nat) (z:Int),k<=3/\z=(k:Int)/\v=Ji Jl z/\VG n0 n1 n2 G w wr k) (fun v _=>3-(intOf v).toNat)
    case atStart=>exact⟨0,0,by decide,rfl,rfl,Hs0.out⟩
    case round=>
     obtain⟨k,z,hk,hzk,rfl,m0,m1,m2,hc0,e0,e1,e2,hc1,hb⟩:=hrel;have C0:=Lh hc0;have C1:=Lh hc1;have K:=Lh hb;clear hc0 hc1 hb;obtain rfl|rfl|rfl|rfl:k=0\/k=1\/k=2\/k=3:=by omega
     ·obtain rfl:z=0:=hzk;obtain rfl:n0=m0:=Eq.symm e0;have a0:wr.cell? ⟨w.heap.size,0,Jn⟩=Jo (Ji Jl n0):=C0.out.at_ 0;have f0:wr.frozen? ⟨w.heap.size,0,Jn⟩=false:=C0.out.fz 0;have tq:Int.tdiv n0 (G:Int)=n0/(G:Int):=T0.out;have tg:((G:Int) ==0)=false:=by rw[beq_eq_false_iff_ne];omega
      obtain⟨q,hq⟩:∃q,n0/(G:Int)=q:=⟨_,rfl⟩;have hqi:I64 q:=hq ▸ I0.out;have hq0:=hqi.1;have hq1:=hqi.2;rw[hq]at tq;have Hn:=Lh (show VG n0 n1 n2 G w (wr.setCell ⟨w.heap.size,0,Jn⟩ (Ji Jl q)) 1 from⟨q,m1,m2,C0.out.set 0 (Ji Jl q) (by simp),hq.symm,e1,e2,(C1.out.other (show w.heap.size+1≠w.heap.size by omega) _ _),K.out.setCell (p:=⟨w.heap.size,0,Jn⟩) (M1 _) _⟩);clear hqi hq e0 e1 e2;go_wp2_with fail
      go_roundw;case rel=>exact⟨1,1,by decide,rfl,by go_num,Hn.out⟩
      case measure=>simp[intOf]
     ·obtain rfl:z=1:=hzk;obtain rfl:n1=m1:=Eq.symm e1;have a0:wr.cell? ⟨w.heap.size,1,Jn⟩=Jo (Ji Jl n1):=C0.out.at_ 1;have f0:wr.frozen? ⟨w.heap.size,1,Jn⟩=false:=C0.out.fz 1;have tq:Int.tdiv n1 (G:Int)=n1/(G:Int):=T1.out;have tg:((G:Int) ==0)=false:=by rw[beq_eq_false_iff_ne];omega
      obtain⟨q,hq⟩:∃q,n1/(G:Int)=q:=⟨_,rfl⟩;have hqi:I64 q:=hq ▸ I1.out;have hq0:=hqi.1;have hq1:=hqi.2;rw[hq]at tq;have Hn:=Lh (show VG n0 n1 n2 G w (wr.setCell ⟨w.heap.size,1,Jn⟩ (Ji Jl q)) 2 from⟨m0,q,m2,C0.out.set 1 (Ji Jl q) (by simp),e0,hq.symm,e2,(C1.out.other (show w.heap.size+1≠w.heap.size by omega) _ _),K.out.setCell (p:=⟨w.heap.size,1,Jn⟩) (M1 _) _⟩);clear hqi hq e0 e1 e2;go_wp2_with fail
      go_roundw;case rel=>exact⟨2,2,by decide,rfl,by go_num,Hn.out⟩
      case measure=>simp[intOf]
     ·obtain rfl:z=2:=hzk;obtain rfl:n2=m2:=Eq.symm e2;have a0:wr.cell? ⟨w.heap.size,2,Jn⟩=Jo (Ji Jl n2):=C0.out.at_ 2;have f0:wr.frozen? ⟨w.heap.size,2,Jn⟩=false:=C0.out.fz 2;have tq:Int.tdiv n2 (G:Int)=n2/(G:Int):=T2.out;have tg:((G:Int) ==0)=false:=by rw[beq_eq_false_iff_ne];omega
      obtain⟨q,hq⟩:∃q,n2/(G:Int)=q:=⟨_,rfl⟩;have hqi:I64 q:=hq ▸ I2.out;have hq0:=hqi.1;have hq1:=hqi.2;rw[hq]at tq;have Hn:=Lh (show VG n0 n1 n2 G w (wr.setCell ⟨w.heap.size,2,Jn⟩ (Ji Jl q)) 3 from⟨m0,m1,q,C0.out.set 2 (Ji Jl q) (by simp),e0,e1,hq.symm,(C1.out.other (show w.heap.size+1≠w.heap.size by omega) _ _),K.out.setCell (p:=⟨w.heap.size,2,Jn⟩) (M1 _) _⟩);clear hqi hq e0 e1 e2;go_wp2_with fail
      go_roundw;case rel=>exact⟨3,3,by decide,rfl,by go_num,Hn.out⟩
      case measure=>simp[intOf]
     ·obtain rfl:z=3:=hzk;obtain rfl:m0=n0/(G:Int):=e0;obtain rfl:m1=n1/(G:Int):=e1;obtain rfl:m2=n2/(G:Int):=e2;have HO:=Lh (VM (n0/(G:Int)) (n1/(G:Int)) (n2/(G:Int)) wr I0.out I1.out I2.out);generalize n0/(G:Int)=q0 at *
      generalize n1/(G:Int)=q1 at *
      generalize n2/(G:Int)=q2 at *
      have a0:wr.cell? ⟨w.heap.size,0,Jn⟩=Jo (Ji Jl q0):=C0.out.at_ 0;have a1:wr.cell? ⟨w.heap.size,1,Jn⟩=Jo (Ji Jl q1):=C0.out.at_ 1;have a2:wr.cell? ⟨w.heap.size,2,Jn⟩=Jo (Ji Jl q2):=C0.out.at_ 2;go_wp2_with fail
      refine HO.out.mono ?_;rintro e w1⟨x0,x1,x2,rfl,hv,hb⟩;have C1:=Lh (C1.out.keep hb);have K:=Lh (Jd K.out hb);unfold Jv;have Hv:=Lh (hv.wrote C1.out (JF w1 _ x0 x1 x2).1 (JF w1 _ x0 x1 x2).2);have Hf:=Lh (JJ K.out (show w.heap.size<=w.heap.size+1 by omega) x0 x1 x2);obtain⟨z0,z1,z2,z3,z4,z5,z6,z7,z8,z9,z10,z11⟩:=Jh.q12 (p:=w.heap.size+1) C1.out;obtain⟨f0,f1,f2,f3,f4,f5,f6,f7,f8,f9,f10,f11⟩:=Jh.z12 (p:=w.heap.size+1) C1.out;clear hv hb a0 a1 a2;go_wp2;exact bodyPost_ret (v:=Jv x0 x1 x2) (by simp[Jv,results,Tryz.results82,go_sem,z0,z1,z2,z3,z4,z5,z6,z7,z8,z9,z10,z11]) rfl ⟨x0,x1,x2,rfl,Hv.out,Hf.out⟩
