/- GC32: Vcmp -/
import Derived.Test.YtekhdklbfincpaaGreatDoorGC31
set_option maxRecDepth 100000
set_option maxHeartbeats 16000000
namespace Go.Proofs.YtekhdklbfincpaaGreatDoor
open Go.Value renaming pointer→Jp,int→Ji
open Go.IntKind renaming i64→Jl
open Go.Obj renaming cells→Jc
open _root_.Option renaming none→Jn,some→Jo
open Go.RowKit.Below renaming refl→M0
open Go.RowKit
theorem Jh.r12{w:World}{p:Nat}{x0 x1 x2:R4}(h:Jh w p (flat [x0,x1,x2])):w.cell? ⟨p,0,Jn⟩=Jo (Ji Jl x0.1)/\w.cell? ⟨p,1,Jn⟩=Jo (Jp x0.2.1)/\w.cell? ⟨p,2,Jn⟩=Jo (Ji Jl x0.2.2.1)/\w.cell? ⟨p,3,Jn⟩=Jo (Jp x0.2.2.2)/\w.cell? ⟨p,4,Jn⟩=Jo (Ji Jl x1.1)/\w.cell? ⟨p,5,Jn⟩=Jo (Jp x1.2.1)/\w.cell? ⟨p,6,Jn⟩=Jo (Ji Jl x1.2.2.1)/\w.cell? ⟨p,7,Jn⟩=Jo (Jp x1.2.2.2)/\w.cell? ⟨p,8,Jn⟩=Jo (Ji Jl x2.1)/\w.cell? ⟨p,9,Jn⟩=Jo (Jp x2.2.1)/\w.cell? ⟨p,10,Jn⟩=Jo (Ji Jl x2.2.2.1)/\w.cell? ⟨p,11,Jn⟩=Jo (Jp x2.2.2.2):=⟨h.at_ 0,h.at_ 1,h.at_ 2,h.at_ 3,h.at_ 4,h.at_ 5,h.at_ 6,h.at_ 7,h.at_ 8,h.at_ 9,h.at_ 10,h.at_ 11⟩
theorem Jh.z12{w:World}{p:Nat}{l:List Value}(h:Jh w p l):w.frozen? ⟨p,0,Jn⟩=false/\w.frozen? ⟨p,1,Jn⟩=false/\w.frozen? ⟨p,2,Jn⟩=false/\w.frozen? ⟨p,3,Jn⟩=false/\w.frozen? ⟨p,4,Jn⟩=false/\w.frozen? ⟨p,5,Jn⟩=false/\w.frozen? ⟨p,6,Jn⟩=false/\w.frozen? ⟨p,7,Jn⟩=false/\w.frozen? ⟨p,8,Jn⟩=false/\w.frozen? ⟨p,9,Jn⟩=false/\w.frozen? ⟨p,10,Jn⟩=false/\w.frozen? ⟨p,11,Jn⟩=false:=⟨h.fz 0,h.fz 1,h.fz 2,h.fz 3,h.fz 4,h.fz 5,h.fz 6,h.fz 7,h.fz 8,h.fz 9,h.fz 10,h.fz 11⟩
theorem Jh.q12{w:World}{p:Nat}(h:Jh w p (flat [Jm,Jm,Jm])):w.cell? ⟨p,0,Jn⟩=Jo (Ji Jl 0)/\w.cell? ⟨p,1,Jn⟩=Jo (Jp Jn)/\w.cell? ⟨p,2,Jn⟩=Jo (Ji Jl 0)/\w.cell? ⟨p,3,Jn⟩=Jo (Jp Jn)/\w.cell? ⟨p,4,Jn⟩=Jo (Ji Jl 0)/\w.cell? ⟨p,5,Jn⟩=Jo (Jp Jn)/\w.cell? ⟨p,6,Jn⟩=Jo (Ji Jl 0)/\w.cell? ⟨p,7,Jn⟩=Jo (Jp Jn)/\w.cell? ⟨p,8,Jn⟩=Jo (Ji Jl 0)/\w.cell? ⟨p,9,Jn⟩=Jo (Jp Jn)/\w.cell? ⟨p,10,Jn⟩=Jo (Ji Jl 0)/\w.cell? ⟨p,11,Jn⟩=Jo (Jp Jn):=⟨h.at_ 0,h.at_ 1,h.at_ 2,h.at_ 3,h.at_ 4,h.at_ 5,h.at_ 6,h.at_ 7,h.at_ 8,h.at_ 9,h.at_ 10,h.at_ 11⟩
theorem JZ(w:World)(x0 x1 x2:R4):Jh (w.alloc (Jc #[Ji Jl x0.1,Jp x0.2.1,Ji Jl x0.2.2.1,Jp x0.2.2.2,Ji Jl x1.1,Jp x1.2.1,Ji Jl x1.2.2.1,Jp x1.2.2.2,Ji Jl x2.1,Jp x2.2.1,Ji Jl x2.2.2.1,Jp x2.2.2.2] 32)) w.heap.size (flat [x0,x1,x2]):=Jh.new w _ _
structure Mid (q:Rat):Prop where
 n:q.num.natAbs<base 47
 d:q.den<base 47
theorem Few.mid{q:Rat}{k:Nat}(h:Few q k)(hk:k<=900):Mid q:=⟨h.n47 hk,h.d47 hk⟩
structure Mid3 (q0 q1 q2:Rat):Prop where
 x:Mid q0
 y:Mid q1
 z:Mid q2
structure Few3 (k:Nat) (q0 q1 q2:Rat):Prop where
 x:Few q0 k
 y:Few q1 k
 z:Few q2 k
theorem Few3.mid{k:Nat}{q0 q1 q2:Rat}(h:Few3 k q0 q1 q2)(hk:k<=900):Mid3 q0 q1 q2:=⟨h.x.mid hk,h.y.mid hk,h.z.mid hk⟩
theorem VV{x y:R4}{p q:Rat}{w:World}(h:VAt w x p)(h':VAt w y q)(m:Mid p)(m':Mid q):Calls Tryz.prog 55 #[.agg #[Ji Jl x.1,Jp x.2.1,Ji Jl x.2.2.1,Jp x.2.2.2],.agg #[Ji Jl y.1,Jp y.2.1,Ji Jl y.2.2.1,Jp y.2.2.2]] w fun e w'=>e= .returned (Ji Jl (cmpR p q))/\Below w.heap.size w w':=
 Lc _ _ _ _ _ _ _ _ p q w h h' m.n m.d m'.n m'.d
def cmpV(p0 p1 p2 q0 q1 q2:Rat):Int:=if cmpR p0 q0=0 then if cmpR p1 q1=0 then cmpR p2 q2 else cmpR p1 q1 else cmpR p0 q0
theorem DJ(x0 x1 x2 y0 y1 y2:R4)(p0 p1 p2 q0 q1 q2:Rat)(w:World)(h:VecV w x0 x1 x2 p0 p1 p2)(h':VecV w y0 y1 y2 q0 q1 q2)(m:Mid3 p0 p1 p2)(m':Mid3 q0 q1 q2) :
  Calls Tryz.prog 45 #[Jv x0 x1 x2,Jv y0 y1 y2] w fun e w'=>e= .returned (Ji Jl (cmpV p0 p1 p2 q0 q1 q2))/\Below w.heap.size w w':=by
 have kb:=((M0 w.heap.size w).alloc (Nat.le_refl _) (Jc #[Ji Jl x0.1,Jp x0.2.1,Ji Jl x0.2.2.1,Jp x0.2.2.2,Ji Jl x1.1,Jp x1.2.1,Ji Jl x1.2.2.1,Jp x1.2.2.2,Ji Jl x2.1,Jp x2.2.1,Ji Jl x2.2.2.1,Jp x2.2.2.2] 32)).alloc (by simp) (Jc #[Ji Jl y0.1,Jp y0.2.1,Ji Jl y0.2.2.1,Jp y0.2.2.2,Ji Jl y1.1,Jp y1.2.1,Ji Jl y1.2.2.1,Jp y1.2.2.2,Ji Jl y2.1,Jp y2.2.1,Ji Jl y2.2.2.1,Jp y2.2.2.2] 32);have C0:=(JZ w x0 x1 x2).keep ((M0 _ _).alloc (Nat.le_refl _) (Jc #[Ji Jl y0.1,Jp y0.2.1,Ji Jl y0.2.2.1,Jp y0.2.2.2,Ji Jl y1.1,Jp y1.2.1,Ji Jl y1.2.2.1,Jp y1.2.2.2,Ji Jl y2.1,Jp y2.2.1,Ji Jl y2.2.2.1,Jp y2.2.2.2] 32));have C1:=JZ (w.alloc (Jc #[Ji Jl x0.1,Jp x0.2.1,Ji Jl x0.2.2.1,Jp x0.2.2.2,Ji Jl x1.1,Jp x1.2.1,Ji Jl x1.2.2.1,Jp x1.2.2.2,Ji Jl x2.1,Jp x2.2.1,Ji Jl x2.2.2.1,Jp x2.2.2.2] 32)) y0 y1 y2;have hs:((w.alloc (Jc #[Ji Jl x0.1,Jp x0.2.1,Ji Jl x0.2.2.1,Jp x0.2.2.2,Ji Jl x1.1,Jp x1.2.1,Ji Jl x1.2.2.1,Jp x1.2.2.2,Ji Jl x2.1,Jp x2.2.1,Ji Jl x2.2.2.1,Jp x2.2.2.2] 32)).alloc (Jc #[Ji Jl y0.1,Jp y0.2.1,Ji Jl y0.2.2.1,Jp y0.2.2.2,Ji Jl y1.1,Jp y1.2.1,Ji Jl y1.2.2.1,Jp y1.2.2.2,Ji Jl y2.1,Jp y2.2.1,Ji Jl y2.2.2.1,Jp y2.2.2.2] 32)).heap.size=w.heap.size+1+1:=by simp
 simp only[World.size_alloc]at C1;obtain⟨W,hW⟩:∃u,(w.alloc (Jc #[Ji Jl x0.1,Jp x0.2.1,Ji Jl x0.2.2.1,Jp x0.2.2.2,Ji Jl x1.1,Jp x1.2.1,Ji Jl x1.2.2.1,Jp x1.2.2.2,Ji Jl x2.1,Jp x2.2.1,Ji Jl x2.2.2.1,Jp x2.2.2.2] 32)).alloc (Jc #[Ji Jl y0.1,Jp y0.2.1,Ji Jl y0.2.2.1,Jp y0.2.2.2,Ji Jl y1.1,Jp y1.2.1,Ji Jl y1.2.2.1,Jp y1.2.2.2,Ji Jl y2.1,Jp y2.2.1,Ji Jl y2.2.2.1,Jp y2.2.2.2] 32)=u:=⟨_,rfl⟩;rw[hW]at kb C0 C1 hs;have H:=Lh h;have H':=Lh h';have M:=Lh m;have M':=Lh m';have Kb:=Lh kb;have V0:=Lh C0;have V1:=Lh C1;have Hs:=Lh hs;have HR0:=Lh (fun w' (hb:Below w.heap.size w w')=>VV (H.out.x.keep hb) (H'.out.x.keep hb) M.out.x M'.out.x);have HR1:=Lh (fun w' (hb:Below w.heap.size w w')=>VV (H.out.y.keep hb) (H'.out.y.keep hb) M.out.y M'.out.y);have HR2:=Lh (fun w' (hb:Below w.heap.size w w')=>VV (H.out.z.keep hb) (H'.out.z.keep hb) M.out.z M'.out.z);obtain⟨cv,hcv⟩:∃x,cmpV p0 p1 p2 q0 q1 q2=x:=⟨_,rfl⟩;unfold cmpV at hcv;obtain⟨c0,hc0⟩:∃x,cmpR p0 q0=x:=⟨_,rfl⟩;obtain⟨c1,hc1⟩:∃x,cmpR p1 q1=x:=⟨_,rfl⟩;obtain⟨c2,hc2⟩:∃x,cmpR p2 q2=x:=⟨_,rfl⟩;rw[show cmpV p0 p1 p2 q0 q1 q2=cv by unfold cmpV;exact hcv];simp only[hc0,hc1,hc2]at hcv HR0 HR1 HR2;have Hcv:=Lh hcv;clear h h' m m' kb C0 C1 hs hcv hc0 hc1 hc2 H H' M M';unfold Jv;go_enter Tryz.func45,Tryz.ntmps45;go_wp2_with fail
 try simp only[hW]
 clear hW;go_loopw [7] (fun v wr=>∃(k:Nat) (z:Int),k<=3/\z=(k:Int)/\v=Ji Jl z/\(0<k->c0=0)/\(1<k->c1=0)/\(2<k->c2=0)/\Below W.heap.size W wr) (fun v _=>3-(intOf v).toNat)
 case atStart=>exact⟨0,0,by decide,rfl,rfl,fun h=>absurd h (by decide),fun h=>absurd h (by decide),fun h=>absurd h (by decide),M0 _ _⟩
 case round=>
  obtain⟨k,z,hk,hzk,rfl,e0,e1,e2,hb⟩:=hrel;have Hb:=Lh hb;clear hb;obtain rfl|rfl|rfl|rfl:k=0\/k=1\/k=2\/k=3:=by omega
  ·obtain rfl:z=0:=hzk;have HS:=Lh (fun w' (hb:Below wr.heap.size wr w')=>(⟨⟨((V0.out.keep Hb.out).keep hb).at_ 0,((V0.out.keep Hb.out).keep hb).at_ 1,((V0.out.keep Hb.out).keep hb).at_ 2,((V0.out.keep Hb.out).keep hb).at_ 3,((V1.out.keep Hb.out).keep hb).at_ 0,((V1.out.keep Hb.out).keep hb).at_ 1,((V1.out.keep Hb.out).keep hb).at_ 2,((V1.out.keep Hb.out).keep hb).at_ 3⟩,hb⟩:(w'.cell? ⟨w.heap.size,0,Jn⟩=Jo (Ji Jl x0.1)/\w'.cell? ⟨w.heap.size,1,Jn⟩=Jo (Jp x0.2.1)/\w'.cell? ⟨w.heap.size,2,Jn⟩=Jo (Ji Jl x0.2.2.1)/\w'.cell? ⟨w.heap.size,3,Jn⟩=Jo (Jp x0.2.2.2)/\w'.cell? ⟨w.heap.size+1,0,Jn⟩=Jo (Ji Jl y0.1)/\w'.cell? ⟨w.heap.size+1,1,Jn⟩=Jo (Jp y0.2.1)/\w'.cell? ⟨w.heap.size+1,2,Jn⟩=Jo (Ji Jl y0.2.2.1)/\w'.cell? ⟨w.heap.size+1,3,Jn⟩=Jo (Jp y0.2.2.2))/\Below wr.heap.size wr w'));have HB:=Lh (fun w' (h:(w'.cell? ⟨w.heap.size,0,Jn⟩=Jo (Ji Jl x0.1)/\w'.cell? ⟨w.heap.size,1,Jn⟩=Jo (Jp x0.2.1)/\w'.cell? ⟨w.heap.size,2,Jn⟩=Jo (Ji Jl x0.2.2.1)/\w'.cell? ⟨w.heap.size,3,Jn⟩=Jo (Jp x0.2.2.2)/\w'.cell? ⟨w.heap.size+1,0,Jn⟩=Jo (Ji Jl y0.1)/\w'.cell? ⟨w.heap.size+1,1,Jn⟩=Jo (Jp y0.2.1)/\w'.cell? ⟨w.heap.size+1,2,Jn⟩=Jo (Ji Jl y0.2.2.1)/\w'.cell? ⟨w.heap.size+1,3,Jn⟩=Jo (Jp y0.2.2.2))/\Below wr.heap.size wr w')=>Jd Kb.out (Jd Hb.out h.2));have HK:=Lh (fun w' wx (h:(w'.cell? ⟨w.heap.size,0,Jn⟩=Jo (Ji Jl x0.1)/\w'.cell? ⟨w.heap.size,1,Jn⟩=Jo (Jp x0.2.1)/\w'.cell? ⟨w.heap.size,2,Jn⟩=Jo (Ji Jl x0.2.2.1)/\w'.cell? ⟨w.heap.size,3,Jn⟩=Jo (Jp x0.2.2.2)/\w'.cell? ⟨w.heap.size+1,0,Jn⟩=Jo (Ji Jl y0.1)/\w'.cell? ⟨w.heap.size+1,1,Jn⟩=Jo (Jp y0.2.1)/\w'.cell? ⟨w.heap.size+1,2,Jn⟩=Jo (Ji Jl y0.2.2.1)/\w'.cell? ⟨w.heap.size+1,3,Jn⟩=Jo (Jp y0.2.2.2))/\Below wr.heap.size wr w') (hb:Below w'.heap.size w' wx)=>HS.out _ (Jd h.2 hb))
   go_wp2_with fail
   go_region_held3 (fun w'=>(w'.cell? ⟨w.heap.size,0,Jn⟩=Jo (Ji Jl x0.1)/\w'.cell? ⟨w.heap.size,1,Jn⟩=Jo (Jp x0.2.1)/\w'.cell? ⟨w.heap.size,2,Jn⟩=Jo (Ji Jl x0.2.2.1)/\w'.cell? ⟨w.heap.size,3,Jn⟩=Jo (Jp x0.2.2.2)/\w'.cell? ⟨w.heap.size+1,0,Jn⟩=Jo (Ji Jl y0.1)/\w'.cell? ⟨w.heap.size+1,1,Jn⟩=Jo (Jp y0.2.1)/\w'.cell? ⟨w.heap.size+1,2,Jn⟩=Jo (Ji Jl y0.2.2.1)/\w'.cell? ⟨w.heap.size+1,3,Jn⟩=Jo (Jp y0.2.2.2))/\Below wr.heap.size wr w')
    (first
     | assumption
     | exact HS.out _ (M0 _ _).drew
     | exact HK.out _ _ (by assumption) (by assumption))
    (first
     | (go_at_call 55; refine (HR0.out _ (HB.out _ (by assumption))).mono ?_; rintro e w' ⟨rfl,hb⟩))
   go_split_ands
   have hw:Below wr.heap.size wr w':=by assumption
   have Hb:=Lh (Jd Hb.out hw);generalize w'=w1 at Hb ⊢;clear hw HS HK HB;by_cases h0:c0=0
   ·subst h0;go_wp2_with fail
    go_roundw;case rel=>exact⟨1,1,by decide,rfl,by go_num,fun _=>(by first|rfl|trivial),fun h=>absurd h (by decide),fun h=>absurd h (by decide),Hb.out⟩
    case measure=>simp[intOf]
   ·have t0:(c0 ==0)=false:=by rw[beq_eq_false_iff_ne];exact h0
    have t1:(c0 !=0)=true:=by rw[bne,t0];rfl
    obtain rfl:c0=cv:=by have:=Hcv.out;simpa[h0]using this
    have Kf:=Lh (Jd Kb.out Hb.out);go_wp2;exact bodyPost_ret (v:=Ji Jl c0) (by simp[results,Tryz.results45,go_sem]) rfl ⟨rfl,Kf.out⟩
  ·obtain rfl:z=1:=hzk;have HS:=Lh (fun w' (hb:Below wr.heap.size wr w')=>(⟨⟨((V0.out.keep Hb.out).keep hb).at_ 4,((V0.out.keep Hb.out).keep hb).at_ 5,((V0.out.keep Hb.out).keep hb).at_ 6,((V0.out.keep Hb.out).keep hb).at_ 7,((V1.out.keep Hb.out).keep hb).at_ 4,((V1.out.keep Hb.out).keep hb).at_ 5,((V1.out.keep Hb.out).keep hb).at_ 6,((V1.out.keep Hb.out).keep hb).at_ 7⟩,hb⟩:(w'.cell? ⟨w.heap.size,4,Jn⟩=Jo (Ji Jl x1.1)/\w'.cell? ⟨w.heap.size,5,Jn⟩=Jo (Jp x1.2.1)/\w'.cell? ⟨w.heap.size,6,Jn⟩=Jo (Ji Jl x1.2.2.1)/\w'.cell? ⟨w.heap.size,7,Jn⟩=Jo (Jp x1.2.2.2)/\w'.cell? ⟨w.heap.size+1,4,Jn⟩=Jo (Ji Jl y1.1)/\w'.cell? ⟨w.heap.size+1,5,Jn⟩=Jo (Jp y1.2.1)/\w'.cell? ⟨w.heap.size+1,6,Jn⟩=Jo (Ji Jl y1.2.2.1)/\w'.cell? ⟨w.heap.size+1,7,Jn⟩=Jo (Jp y1.2.2.2))/\Below wr.heap.size wr w'));have HB:=Lh (fun w' (h:(w'.cell? ⟨w.heap.size,4,Jn⟩=Jo (Ji Jl x1.1)/\w'.cell? ⟨w.heap.size,5,Jn⟩=Jo (Jp x1.2.1)/\w'.cell? ⟨w.heap.size,6,Jn⟩=Jo (Ji Jl x1.2.2.1)/\w'.cell? ⟨w.heap.size,7,Jn⟩=Jo (Jp x1.2.2.2)/\w'.cell? ⟨w.heap.size+1,4,Jn⟩=Jo (Ji Jl y1.1)/\w'.cell? ⟨w.heap.size+1,5,Jn⟩=Jo (Jp y1.2.1)/\w'.cell? ⟨w.heap.size+1,6,Jn⟩=Jo (Ji Jl y1.2.2.1)/\w'.cell? ⟨w.heap.size+1,7,Jn⟩=Jo (Jp y1.2.2.2))/\Below wr.heap.size wr w')=>Jd Kb.out (Jd Hb.out h.2));have HK:=Lh (fun w' wx (h:(w'.cell? ⟨w.heap.size,4,Jn⟩=Jo (Ji Jl x1.1)/\w'.cell? ⟨w.heap.size,5,Jn⟩=Jo (Jp x1.2.1)/\w'.cell? ⟨w.heap.size,6,Jn⟩=Jo (Ji Jl x1.2.2.1)/\w'.cell? ⟨w.heap.size,7,Jn⟩=Jo (Jp x1.2.2.2)/\w'.cell? ⟨w.heap.size+1,4,Jn⟩=Jo (Ji Jl y1.1)/\w'.cell? ⟨w.heap.size+1,5,Jn⟩=Jo (Jp y1.2.1)/\w'.cell? ⟨w.heap.size+1,6,Jn⟩=Jo (Ji Jl y1.2.2.1)/\w'.cell? ⟨w.heap.size+1,7,Jn⟩=Jo (Jp y1.2.2.2))/\Below wr.heap.size wr w') (hb:Below w'.heap.size w' wx)=>HS.out _ (Jd h.2 hb))
   obtain rfl:c0=0:=e0 (by decide);go_wp2_with fail
   go_region_held3 (fun w'=>(w'.cell? ⟨w.heap.size,4,Jn⟩=Jo (Ji Jl x1.1)/\w'.cell? ⟨w.heap.size,5,Jn⟩=Jo (Jp x1.2.1)/\w'.cell? ⟨w.heap.size,6,Jn⟩=Jo (Ji Jl x1.2.2.1)/\w'.cell? ⟨w.heap.size,7,Jn⟩=Jo (Jp x1.2.2.2)/\w'.cell? ⟨w.heap.size+1,4,Jn⟩=Jo (Ji Jl y1.1)/\w'.cell? ⟨w.heap.size+1,5,Jn⟩=Jo (Jp y1.2.1)/\w'.cell? ⟨w.heap.size+1,6,Jn⟩=Jo (Ji Jl y1.2.2.1)/\w'.cell? ⟨w.heap.size+1,7,Jn⟩=Jo (Jp y1.2.2.2))/\Below wr.heap.size wr w')
    (first
     | assumption
     | exact HS.out _ (M0 _ _).drew
     | exact HK.out _ _ (by assumption) (by assumption))
    (first
     | (go_at_call 55; refine (HR1.out _ (HB.out _ (by assumption))).mono ?_; rintro e w' ⟨rfl,hb⟩))
   go_split_ands
   have hw:Below wr.heap.size wr w':=by assumption
   have Hb:=Lh (Jd Hb.out hw);generalize w'=w1 at Hb ⊢;clear hw HS HK HB;by_cases h0:c1=0
   ·subst h0;go_wp2_with fail
    go_roundw;case rel=>exact⟨2,2,by decide,rfl,by go_num,fun _=>(by first|rfl|trivial),fun _=>(by first|rfl|trivial),fun h=>absurd h (by decide),Hb.out⟩
    case measure=>simp[intOf]
   ·have t0:(c1 ==0)=false:=by rw[beq_eq_false_iff_ne];exact h0
    have t1:(c1 !=0)=true:=by rw[bne,t0];rfl
    obtain rfl:c1=cv:=by have:=Hcv.out;simpa[h0]using this
    have Kf:=Lh (Jd Kb.out Hb.out);go_wp2;exact bodyPost_ret (v:=Ji Jl c1) (by simp[results,Tryz.results45,go_sem]) rfl ⟨rfl,Kf.out⟩
  ·obtain rfl:z=2:=hzk;have HS:=Lh (fun w' (hb:Below wr.heap.size wr w')=>(⟨⟨((V0.out.keep Hb.out).keep hb).at_ 8,((V0.out.keep Hb.out).keep hb).at_ 9,((V0.out.keep Hb.out).keep hb).at_ 10,((V0.out.keep Hb.out).keep hb).at_ 11,((V1.out.keep Hb.out).keep hb).at_ 8,((V1.out.keep Hb.out).keep hb).at_ 9,((V1.out.keep Hb.out).keep hb).at_ 10,((V1.out.keep Hb.out).keep hb).at_ 11⟩,hb⟩:(w'.cell? ⟨w.heap.size,8,Jn⟩=Jo (Ji Jl x2.1)/\w'.cell? ⟨w.heap.size,9,Jn⟩=Jo (Jp x2.2.1)/\w'.cell? ⟨w.heap.size,10,Jn⟩=Jo (Ji Jl x2.2.2.1)/\w'.cell? ⟨w.heap.size,11,Jn⟩=Jo (Jp x2.2.2.2)/\w'.cell? ⟨w.heap.size+1,8,Jn⟩=Jo (Ji Jl y2.1)/\w'.cell? ⟨w.heap.size+1,9,Jn⟩=Jo (Jp y2.2.1)/\w'.cell? ⟨w.heap.size+1,10,Jn⟩=Jo (Ji Jl y2.2.2.1)/\w'.cell? ⟨w.heap.size+1,11,Jn⟩=Jo (Jp y2.2.2.2))/\Below wr.heap.size wr w'));have HB:=Lh (fun w' (h:(w'.cell? ⟨w.heap.size,8,Jn⟩=Jo (Ji Jl x2.1)/\w'.cell? ⟨w.heap.size,9,Jn⟩=Jo (Jp x2.2.1)/\w'.cell? ⟨w.heap.size,10,Jn⟩=Jo (Ji Jl x2.2.2.1)/\w'.cell? ⟨w.heap.size,11,Jn⟩=Jo (Jp x2.2.2.2)/\w'.cell? ⟨w.heap.size+1,8,Jn⟩=Jo (Ji Jl y2.1)/\w'.cell? ⟨w.heap.size+1,9,Jn⟩=Jo (Jp y2.2.1)/\w'.cell? ⟨w.heap.size+1,10,Jn⟩=Jo (Ji Jl y2.2.2.1)/\w'.cell? ⟨w.heap.size+1,11,Jn⟩=Jo (Jp y2.2.2.2))/\Below wr.heap.size wr w')=>Jd Kb.out (Jd Hb.out h.2));have HK:=Lh (fun w' wx (h:(w'.cell? ⟨w.heap.size,8,Jn⟩=Jo (Ji Jl x2.1)/\w'.cell? ⟨w.heap.size,9,Jn⟩=Jo (Jp x2.2.1)/\w'.cell? ⟨w.heap.size,10,Jn⟩=Jo (Ji Jl x2.2.2.1)/\w'.cell? ⟨w.heap.size,11,Jn⟩=Jo (Jp x2.2.2.2)/\w'.cell? ⟨w.heap.size+1,8,Jn⟩=Jo (Ji Jl y2.1)/\w'.cell? ⟨w.heap.size+1,9,Jn⟩=Jo (Jp y2.2.1)/\w'.cell? ⟨w.heap.size+1,10,Jn⟩=Jo (Ji Jl y2.2.2.1)/\w'.cell? ⟨w.heap.size+1,11,Jn⟩=Jo (Jp y2.2.2.2))/\Below wr.heap.size wr w') (hb:Below w'.heap.size w' wx)=>HS.out _ (Jd h.2 hb))
   obtain rfl:c0=0:=e0 (by decide);obtain rfl:c1=0:=e1 (by decide);go_wp2_with fail
   go_region_held3 (fun w'=>(w'.cell? ⟨w.heap.size,8,Jn⟩=Jo (Ji Jl x2.1)/\w'.cell? ⟨w.heap.size,9,Jn⟩=Jo (Jp x2.2.1)/\w'.cell? ⟨w.heap.size,10,Jn⟩=Jo (Ji Jl x2.2.2.1)/\w'.cell? ⟨w.heap.size,11,Jn⟩=Jo (Jp x2.2.2.2)/\w'.cell? ⟨w.heap.size+1,8,Jn⟩=Jo (Ji Jl y2.1)/\w'.cell? ⟨w.heap.size+1,9,Jn⟩=Jo (Jp y2.2.1)/\w'.cell? ⟨w.heap.size+1,10,Jn⟩=Jo (Ji Jl y2.2.2.1)/\w'.cell? ⟨w.heap.size+1,11,Jn⟩=Jo (Jp y2.2.2.2))/\Below wr.heap.size wr w')
    (first
     | assumption
     | exact HS.out _ (M0 _ _).drew
     | exact HK.out _ _ (by assumption) (by assumption))
    (first
     | (go_at_call 55; refine (HR2.out _ (HB.out _ (by assumption))).mono ?_; rintro e w' ⟨rfl,hb⟩))
   go_split_ands
   have hw:Below wr.heap.size wr w':=by assumption
   have Hb:=Lh (Jd Hb.out hw);generalize w'=w1 at Hb ⊢;clear hw HS HK HB;by_cases h0:c2=0
   ·subst h0;go_wp2_with fail
    go_roundw;case rel=>exact⟨3,3,by decide,rfl,by go_num,fun _=>(by first|rfl|trivial),fun _=>(by first|rfl|trivial),fun _=>(by first|rfl|trivial),Hb.out⟩
    case measure=>simp[intOf]
   ·have t0:(c2 ==0)=false:=by rw[beq_eq_false_iff_ne];exact h0
    have t1:(c2 !=0)=true:=by rw[bne,t0];rfl
    obtain rfl:c2=cv:=by have:=Hcv.out;simpa[h0]using this
    have Kf:=Lh (Jd Kb.out Hb.out);go_wp2;exact bodyPost_ret (v:=Ji Jl c2) (by simp[results,Tryz.results45,go_sem]) rfl ⟨rfl,Kf.out⟩
  ·obtain rfl:z=3:=hzk;obtain rfl:c0=0:=e0 (by decide);obtain rfl:c1=0:=e1 (by decide);obtain rfl:c2=0:=e2 (by decide);obtain rfl:cv=0:=by have:=Hcv.out;simpa using this.symm
   have Kf:=Lh (Jd Kb.out Hb.out);go_wp2;exact bodyPost_ret (v:=Ji Jl 0) (by simp[results,Tryz.results45,go_sem]) rfl ⟨rfl,Kf.out⟩
