/- GO01: Ref2 Seq Vpar Vlib Vst5 Vro -/
import Derived.Test.YtekhdklbfincpaaGreatDoorGS49
set_option maxRecDepth 100000
set_option maxHeartbeats 16000000
namespace Go.Proofs.YtekhdklbfincpaaGreatDoor
open Go.Value renaming string→Js
open Go.Obj renaming cells→Jc
open _root_.Option renaming none→Jn,some→Jo
open Go renaming World→JW
open Go.RowKit.Below renaming refl→G0
open _root_.Array renaming getD_eq_getD_getElem?→G1
open _root_.Nat renaming le_refl→G2
open Go.RowKit
theorem refCompare_any(z k:Int)(w:JW)(hs:(txt z).size<=5000)(ht:(txt k).size<=5000) :
  Calls Tryz.prog 113 #[Js (txt z),Js (txt k)] w fun e w'=>e= .returned (.int .i64 (cmpZ z k))/\Below w.heap.size w w':=by
 have Hsz:=Lh (fun w=>refSign_any z w hs);have Hsk:=Lh (fun w=>refSign_any k w ht);have Hdz:=Lh (fun w=>refDigits_at z w hs);have Hdk:=Lh (fun w=>refDigits_at k w ht);have hsz:=sgn_cases z;have hsk:=sgn_cases k;obtain⟨S,hS⟩:∃S,txt z=S:=⟨_,rfl⟩;obtain⟨T,hT⟩:∃T,txt k=T:=⟨_,rfl⟩;rw[hS]at Hsz Hdz hs ⊢;rw[hT]at Hsk Hdk ht ⊢;clear hS hT;obtain⟨x,hx⟩:∃x,sgn z=x:=⟨_,rfl⟩;obtain⟨y,hy⟩:∃y,sgn k=y:=⟨_,rfl⟩;rw[hx]at Hsz hsz;rw[hy]at Hsk hsk;clear hx hy;by_cases h1:x<y
 ·have He:=Lh (show cmpZ z k=-1 by unfold cmpZ;rw[if_pos (by omega)]);clear hsz hsk;go_enter Tryz.func113,Tryz.ntmps113;go_wp2_with fail
  refine(Hsz.out _).mono ?_;rintro e w1⟨rfl,rfl⟩;go_wp2_with fail
  refine(Hsk.out _).mono ?_;rintro e w1⟨rfl,rfl⟩;go_wp2;go_ret;exact⟨by rw[He.out];rfl,G0 _ _⟩
 ·by_cases h2:y<x
  ·have He:=Lh (show cmpZ z k=1 by unfold cmpZ;rw[if_neg (by omega),if_pos (by omega)]);clear hsz hsk;go_enter Tryz.func113,Tryz.ntmps113;go_wp2_with fail
   refine(Hsz.out _).mono ?_;rintro e w1⟨rfl,rfl⟩;go_wp2_with fail
   refine(Hsk.out _).mono ?_;rintro e w1⟨rfl,rfl⟩;go_wp2;go_ret;exact⟨by rw[He.out];rfl,G0 _ _⟩
  ·obtain rfl:x=y:=by omega
   clear h1 h2;by_cases hneg:x<0
   ·have He:=Lh (cmpZ_neg (z:=z) (k:=k) (by omega) (by omega));clear hsz hsk;go_enter Tryz.func113,Tryz.ntmps113;go_wp2_with fail
    refine(Hsz.out _).mono ?_;rintro e w1⟨rfl,rfl⟩;go_wp2_with fail
    refine(Hsk.out _).mono ?_;rintro e w1⟨rfl,rfl⟩;go_wp2_with fail
    refine(Hdk.out _).mono ?_;rintro e w1⟨A,n,c,rfl,hd1,hn1,h1⟩;have K1:=Lh h1;have D1:=Lh hd1;clear h1 hd1;go_wp2_with fail
    refine(Hdz.out _).mono ?_;rintro e w2⟨A',n',c',rfl,hd2,hn2,h2⟩;have K2:=Lh (K1.out.trans (h2.mono K1.out.size));have D2:=Lh hd2;have D3:=Lh (D1.out.keep h2);clear h2 hd2;go_wp2_with fail
    refine(order_any _ D3.out D2.out).mono ?_;rintro e w3⟨rfl,h3⟩;have K3:=Lh (K2.out.trans (h3.mono K2.out.size));clear h3;go_wp2;go_ret;exact⟨by rw[←He.out];rfl,K3.out⟩
   ·have He:=Lh (cmpZ_pos (z:=z) (k:=k) (by omega) (by omega));clear hsz hsk;go_enter Tryz.func113,Tryz.ntmps113;go_wp2_with fail
    refine(Hsz.out _).mono ?_;rintro e w1⟨rfl,rfl⟩;go_wp2_with fail
    refine(Hsk.out _).mono ?_;rintro e w1⟨rfl,rfl⟩;go_wp2_with fail
    refine(Hdz.out _).mono ?_;rintro e w1⟨A,n,c,rfl,hd1,hn1,h1⟩;have K1:=Lh h1;have D1:=Lh hd1;clear h1 hd1;go_wp2_with fail
    refine(Hdk.out _).mono ?_;rintro e w2⟨A',n',c',rfl,hd2,hn2,h2⟩;have K2:=Lh (K1.out.trans (h2.mono K1.out.size));have D2:=Lh hd2;have D3:=Lh (D1.out.keep h2);clear h2 hd2;go_wp2_with fail
    refine(order_any _ D3.out D2.out).mono ?_;rintro e w3⟨rfl,h3⟩;have K3:=Lh (K2.out.trans (h3.mono K2.out.size));clear h3;go_wp2;go_ret;exact⟨by rw[←He.out];rfl,K3.out⟩
section
variable {P:Program} {md:Region.Mode} {ops:Array Oper} {Q:Exit->Act->JW->Prop} {S:JW->Prop} {k:Nat}
theorem Till.rek{k':Nat}:∀(n:Nat) (l:Array Bool) (a:Act) (w:JW),l.getD k true=true->Till P md ops Q S k' n l a w->Till P md ops Q S k n l a w
 | 0,_,_,_,_,h=>h
 | n+1,l,a,w,hk,h=>⟨h.1,fun i hi=>wpOp_mono (fun b v hb=>by
   have e:(l.setIfInBounds i true).getD k true=true:=by
    rw[G1,Array.getElem?_setIfInBounds];rw[G1]at hk
    split
    ·split <;> rfl
    ·exact hk
   exact ⟨fun hf=>absurd (e.symm.trans hf) (by decide),Till.rek n _ b v e hb.2⟩) (h.2 i hi)⟩
end
def zeroV(p0 p1 p2:Rat):Bool:=cmpV p0 p1 p2 0 0 0 ==0
theorem cmpR_spec(p q:Rat):(p<q/\cmpR p q=-1)\/(p=q/\cmpR p q=0)\/(q<p/\cmpR p q=1):=by
 unfold cmpR cmpZ;rcases Int.lt_trichotomy (p.num*(q.den:Int)) (q.num*(p.den:Int))with h|h|h
 ·exact .inl ⟨(Rat.lt_iff p q).2 h,by rw[if_pos h]⟩
 ·refine .inr (.inl ⟨Rat.le_antisymm ((Rat.le_iff p q).2 (by omega)) ((Rat.le_iff q p).2 (by omega)),by rw[if_neg (by omega),if_neg (by omega)]⟩)
 ·exact .inr (.inr ⟨(Rat.lt_iff q p).2 h,by rw[if_neg (by omega),if_pos h]⟩)
theorem cmpR_eq{p q:Rat}(h:cmpR p q=0):p=q:=by
 rcases cmpR_spec p q with h1|h1|h1
 ·rw[h]at h1;exact absurd h1.2 (by decide)
 ·exact h1.1
 ·rw[h]at h1;exact absurd h1.2 (by decide)
theorem cmpV_same{p0 p1 p2 q0 q1 q2:Rat}(h0:p0=q0)(h1:p1=q1)(h2:p2=q2):cmpV p0 p1 p2 q0 q1 q2=0:=by
 subst h0 h1 h2;have e:∀q:Rat,cmpR q q=0:=fun q=>by unfold cmpR cmpZ;simp
 unfold cmpV;simp[e]
theorem cmpV_eq{p0 p1 p2 q0 q1 q2:Rat}(h:cmpV p0 p1 p2 q0 q1 q2=0):p0=q0/\p1=q1/\p2=q2:=by
 unfold cmpV at h;by_cases h0:cmpR p0 q0=0
 ·rw[if_pos h0]at h;by_cases h1:cmpR p1 q1=0
  ·rw[if_pos h1]at h;exact⟨cmpR_eq h0,cmpR_eq h1,cmpR_eq h⟩
  ·rw[if_neg h1]at h;exact absurd h h1
 ·rw[if_neg h0]at h;exact absurd h h0
theorem store5{wb v W:JW}{p0 p1 p2 p3 p4:Nat}{x0 y0 z0:R4}{i0 j0 l0:Rat}{x1 y1 z1:R4}{i1 j1 l1:Rat}{x2 y2 z2:R4}{i2 j2 l2:Rat}(s3 t3 u3:ByteArray)(s4 t4 u4:ByteArray)(h0:Cells v p0 (flat [zero4,zero4,zero4]))(v0:VecV v x0 y0 z0 i0 j0 l0)(h1:Cells v p1 (flat [zero4,zero4,zero4]))(v1:VecV v x1 y1 z1 i1 j1 l1)(h2:Cells v p2 (flat [zero4,zero4,zero4]))(v2:VecV v x2 y2 z2 i2 j2 l2)(h3:Cells v p3 [Js ⟨#[]⟩,Js ⟨#[]⟩,Js ⟨#[]⟩])(h4:Cells v p4 [Js ⟨#[]⟩,Js ⟨#[]⟩,Js ⟨#[]⟩])(n0_1:p0≠p1)(n0_2:p0≠p2)(n0_3:p0≠p3)(n0_4:p0≠p4)(n1_2:p1≠p2)(n1_3:p1≠p3)(n1_4:p1≠p4)(n2_3:p2≠p3)(n2_4:p2≠p4)(n3_4:p3≠p4)(hb:Below wb.heap.size wb v)(l0_:wb.heap.size<=p0)(l1_:wb.heap.size<=p1)(l2_:wb.heap.size<=p2)(l3_:wb.heap.size<=p3)(l4_:wb.heap.size<=p4)(hW:put3 (put3 (put12 (put12 (put12 v p0 x0 y0 z0) p1 x1 y1 z1) p2 x2 y2 z2) p3 (Js s3) (Js t3) (Js u3)) p4 (Js s4) (Js t4) (Js u4)=W) :
  VarV W p0 x0 y0 z0 i0 j0 l0/\VarV W p1 x1 y1 z1 i1 j1 l1/\VarV W p2 x2 y2 z2 i2 j2 l2/\Cells W p3 [Js s3,Js t3,Js u3]/\Cells W p4 [Js s4,Js t4,Js u4]/\Below wb.heap.size wb W:=by
 have e0:=put12_heap v p0 x0 y0 z0;have o0:=VarV.put h0 v0;have q0:=below_put12 hb l0_ x0 y0 z0;obtain⟨m0,g0⟩:∃u,put12 v p0 x0 y0 z0=u:=⟨_,rfl⟩;rw[g0]at e0 o0 q0 hW;have h1_0:=h1.same n0_1.symm e0.1 e0.2;have v1_0:VecV m0 x1 y1 z1 i1 j1 l1:=v1.wrote h0 e0.1 e0.2;have h2_0:=h2.same n0_2.symm e0.1 e0.2;have v2_0:VecV m0 x2 y2 z2 i2 j2 l2:=v2.wrote h0 e0.1 e0.2;have h3_0:=h3.same n0_3.symm e0.1 e0.2;have h4_0:=h4.same n0_4.symm e0.1 e0.2;have e1:=put12_heap m0 p1 x1 y1 z1;have o1:=VarV.put h1_0 v1_0;have q1:=below_put12 q0 l1_ x1 y1 z1;obtain⟨m1,g1⟩:∃u,put12 m0 p1 x1 y1 z1=u:=⟨_,rfl⟩;rw[g1]at e1 o1 q1 hW;have o0_1:VarV m1 p0 x0 y0 z0 i0 j0 l0:=⟨o0.cells.same n0_1 e1.1 e1.2,o0.vec.wrote h1_0 e1.1 e1.2⟩;have h2_1:=h2_0.same n1_2.symm e1.1 e1.2;have v2_1:VecV m1 x2 y2 z2 i2 j2 l2:=v2_0.wrote h1_0 e1.1 e1.2;have h3_1:=h3_0.same n1_3.symm e1.1 e1.2;have h4_1:=h4_0.same n1_4.symm e1.1 e1.2;have e2:=put12_heap m1 p2 x2 y2 z2;have o2:=VarV.put h2_1 v2_1;have q2:=below_put12 q1 l2_ x2 y2 z2;obtain⟨m2,g2⟩:∃u,put12 m1 p2 x2 y2 z2=u:=⟨_,rfl⟩;rw[g2]at e2 o2 q2 hW;have o0_2:VarV m2 p0 x0 y0 z0 i0 j0 l0:=⟨o0_1.cells.same n0_2 e2.1 e2.2,o0_1.vec.wrote h2_1 e2.1 e2.2⟩;have o1_2:VarV m2 p1 x1 y1 z1 i1 j1 l1:=⟨o1.cells.same n1_2 e2.1 e2.2,o1.vec.wrote h2_1 e2.1 e2.2⟩;have h3_2:=h3_1.same n2_3.symm e2.1 e2.2;have h4_2:=h4_1.same n2_4.symm e2.1 e2.2;have e3:=put3_heap m2 p3 (Js s3) (Js t3) (Js u3);have o3:=h3_2.put3 (Js s3) (Js t3) (Js u3);have q3:=below_put3 q2 l3_ (Js s3) (Js t3) (Js u3);obtain⟨m3,g3⟩:∃u,put3 m2 p3 (Js s3) (Js t3) (Js u3)=u:=⟨_,rfl⟩
 rw[g3]at e3 o3 q3 hW;have o0_3:VarV m3 p0 x0 y0 z0 i0 j0 l0:=⟨o0_2.cells.same n0_3 e3.1 e3.2,⟨RatV.wroteS o0_2.vec.x h3_2 (by rfl) e3.1 e3.2,RatV.wroteS o0_2.vec.y h3_2 (by rfl) e3.1 e3.2,RatV.wroteS o0_2.vec.z h3_2 (by rfl) e3.1 e3.2⟩⟩;have o1_3:VarV m3 p1 x1 y1 z1 i1 j1 l1:=⟨o1_2.cells.same n1_3 e3.1 e3.2,⟨RatV.wroteS o1_2.vec.x h3_2 (by rfl) e3.1 e3.2,RatV.wroteS o1_2.vec.y h3_2 (by rfl) e3.1 e3.2,RatV.wroteS o1_2.vec.z h3_2 (by rfl) e3.1 e3.2⟩⟩;have o2_3:VarV m3 p2 x2 y2 z2 i2 j2 l2:=⟨o2.cells.same n2_3 e3.1 e3.2,⟨RatV.wroteS o2.vec.x h3_2 (by rfl) e3.1 e3.2,RatV.wroteS o2.vec.y h3_2 (by rfl) e3.1 e3.2,RatV.wroteS o2.vec.z h3_2 (by rfl) e3.1 e3.2⟩⟩;have h4_3:=h4_2.same n3_4.symm e3.1 e3.2;have e4:=put3_heap m3 p4 (Js s4) (Js t4) (Js u4);have o4:=h4_3.put3 (Js s4) (Js t4) (Js u4);have q4:=below_put3 q3 l4_ (Js s4) (Js t4) (Js u4);obtain⟨m4,g4⟩:∃u,put3 m3 p4 (Js s4) (Js t4) (Js u4)=u:=⟨_,rfl⟩;rw[g4]at e4 o4 q4 hW;have o0_4:VarV m4 p0 x0 y0 z0 i0 j0 l0:=⟨o0_3.cells.same n0_4 e4.1 e4.2,⟨RatV.wroteS o0_3.vec.x h4_3 (by rfl) e4.1 e4.2,RatV.wroteS o0_3.vec.y h4_3 (by rfl) e4.1 e4.2,RatV.wroteS o0_3.vec.z h4_3 (by rfl) e4.1 e4.2⟩⟩;have o1_4:VarV m4 p1 x1 y1 z1 i1 j1 l1:=⟨o1_3.cells.same n1_4 e4.1 e4.2,⟨RatV.wroteS o1_3.vec.x h4_3 (by rfl) e4.1 e4.2,RatV.wroteS o1_3.vec.y h4_3 (by rfl) e4.1 e4.2,RatV.wroteS o1_3.vec.z h4_3 (by rfl) e4.1 e4.2⟩⟩;have o2_4:VarV m4 p2 x2 y2 z2 i2 j2 l2:=⟨o2_3.cells.same n2_4 e4.1 e4.2,⟨RatV.wroteS o2_3.vec.x h4_3 (by rfl) e4.1 e4.2,RatV.wroteS o2_3.vec.y h4_3 (by rfl) e4.1 e4.2,RatV.wroteS o2_3.vec.z h4_3 (by rfl) e4.1 e4.2⟩⟩
 have o3_4:=o3.same n3_4 e4.1 e4.2;subst hW;exact⟨o0_4,o1_4,o2_4,o3_4,o4,q4⟩
theorem byte_ne {s t:ByteArray} (h:s≠t):¬ s.toList=t.toList:=fun e=>h (by
 rw[ByteArray.toList_eq,ByteArray.toList_eq]at e;exact ByteArray.ext (Array.toList_inj.1 e))
theorem vtext_eq(s0 s1 s2 t0 t1 t2:ByteArray)(w:JW):(Op.equalIn 10000 48 (.agg #[Js s0,Js s1,Js s2]) (.agg #[Js t0,Js t1,Js t2])).run Tryz.prog w= .ok (decide (s0=t0) && (decide (s1=t1) && decide (s2=t2))) w:=by
 have u3:=Tryz.underlying9;have a3:=Tryz.isAgg9;have z3:=Tryz.sizeOf9;rw[show(10000:Nat)=9999+1 from rfl,Op.equalIn];simp only[Sem.run_bind,run_underlying Tryz.underlying48,Result.andThen_ok];simp only[Std.Legacy.Range.forIn_eq_forIn_range',Std.Legacy.Range.size,Nat.sub_zero,Nat.add_sub_cancel,Nat.div_one,List.range'_succ,List.range'_zero,List.forIn_cons,List.forIn_nil];by_cases h0:s0=t0
 ·subst h0;by_cases h1:s1=t1
  ·subst h1;by_cases h2:s2=t2
   ·subst h2;go_simp
   ·have q2:decide (s2=t2)=false:=decide_eq_false h2;have n2:=byte_ne h2;go_simp
  ·have q1:decide (s1=t1)=false:=decide_eq_false h1;have n1:=byte_ne h1;go_simp
 ·have q0:decide (s0=t0)=false:=decide_eq_false h0;have n0:=byte_ne h0;go_simp
theorem ratTxt_beq{p q:Rat}{s t:ByteArray}(h:ratTxt p=s)(h':ratTxt q=t):decide (s=t)=decide (p=q):=by
 by_cases e:p=q
 ·subst e;rw[←h,←h'];simp
 ·rw[decide_eq_false e];have:s≠t:=fun e2=>e (ratTxt_inj (h.trans (e2.trans h'.symm)));simpa using this
theorem eqV_iff{p0 p1 p2 q0 q1 q2:Rat}:(cmpV p0 p1 p2 q0 q1 q2 ==0)=(decide (p0=q0) && (decide (p1=q1) && decide (p2=q2))):=by
 by_cases h:cmpV p0 p1 p2 q0 q1 q2=0
 ·obtain⟨h0,h1,h2⟩:=cmpV_eq h;rw[h];simp[h0,h1,h2]
 ·have hn:¬(p0=q0/\p1=q1/\p2=q2):=fun e=>h (cmpV_same e.1 e.2.1 e.2.2);rw[beq_eq_false_iff_ne.2 h]
  symm
  rw[←Bool.not_eq_true];simpa[and_assoc]using hn
theorem text_rat0:ratTxt 0=⟨#[48]⟩:=by decide +kernel
theorem refZeroV_any(a0 a1 a2:ByteArray)(p0 p1 p2:Rat)(w:JW)(h0:ratTxt p0=a0)(h1:ratTxt p1=a1)(h2:ratTxt p2=a2) :
  Calls Tryz.prog 43 #[.agg #[Js a0,Js a1,Js a2]] w fun e w'=>e= .returned (.bool (zeroV p0 p1 p2))/\Below w.heap.size w w':=by
 have kb:=(G0 w.heap.size w).alloc (G2 _) (Jc #[Js a0,Js a1,Js a2] 48);have C0:=Cells.new w #[Js a0,Js a1,Js a2] 48;have hq:=fun W=>vtext_eq a0 a1 a2 ⟨#[48]⟩ ⟨#[48]⟩ ⟨#[48]⟩ W;have hz:(decide (a0=⟨#[48]⟩) && (decide (a1=⟨#[48]⟩) && decide (a2=⟨#[48]⟩)))=zeroV p0 p1 p2:=by
  rw[ratTxt_beq h0 text_rat0,ratTxt_beq h1 text_rat0,ratTxt_beq h2 text_rat0];exact eqV_iff.symm
 rw[hz]at hq;generalize zeroV p0 p1 p2=z at hq ⊢;obtain⟨W,hW⟩:∃u,w.alloc (Jc #[Js a0,Js a1,Js a2] 48)=u:=⟨_,rfl⟩;rw[hW]at kb C0;have k0:W.cell? ⟨w.heap.size,0,Jn⟩=Jo (Js a0):=C0.at_ 0;have k1:W.cell? ⟨w.heap.size,1,Jn⟩=Jo (Js a1):=C0.at_ 1;have k2:W.cell? ⟨w.heap.size,2,Jn⟩=Jo (Js a2):=C0.at_ 2;have Kb:=Lh kb;clear kb C0 hz h0 h1 h2;go_enter Tryz.func43,Tryz.ntmps43;go_wp2_with fail
 try simp only[hW]
 go_wp2;go_ret;exact⟨rfl,Kb.out⟩
theorem refCompareF_any{p q:Rat}{k m:Nat}(hp:Few p k)(hq:Few q m)(hk:k<=900)(hm:m<=900)(w:JW):Calls Tryz.prog 81 #[Js (ratTxt p),Js (ratTxt q)] w fun e w'=>e= .returned (.int .i64 (cmpR p q))/\Below w.heap.size w w':=by
 have n1:=hp.ns hk;have n2:=hp.ds hk;have m1:=hq.ns hm;have m2:=hq.ds hm;have z1:=txt_size (p.num*(q.den:Int)) (ten_mul (hp.up (m:=k+1) (by omega)).n hq.di) (by omega);have z2:=txt_size (q.num*(p.den:Int)) (ten_mul (hq.up (m:=m+1) (by omega)).n hp.di) (by omega);have HP:=Lh (fun w=>refParts_any p w (by omega) (by omega));have HQ:=Lh (fun w=>refParts_any q w (by omega) (by omega));have HA:=Lh (fun w=>refMul_any p.num (q.den:Int) w (by omega) (by omega));have HB:=Lh (fun w=>refMul_any q.num (p.den:Int) w (by omega) (by omega));have HC:=Lh (fun w=>refCompare_any (p.num*(q.den:Int)) (q.num*(p.den:Int)) w (by omega) (by omega));have Hv:=Lh (show cmpZ (p.num*(q.den:Int)) (q.num*(p.den:Int))=cmpR p q from rfl);rw[Hv.out]at HC;clear n1 n2 m1 m2 z1 z2 Hv hp hq hk hm;generalize cmpR p q=cv at HC ⊢;generalize ratTxt p=sp at HP ⊢;generalize ratTxt q=sq at HQ ⊢;generalize txt (p.num*(q.den:Int))=A at HA HC;generalize txt (q.num*(p.den:Int))=B at HB HC;generalize txt p.num=A1 at HP HA;generalize txt (p.den:Int)=A2 at HP HB;generalize txt q.num=B1 at HQ HB;generalize txt (q.den:Int)=B2 at HQ HA;go_enter Tryz.func81,Tryz.ntmps81;go_wp2_with fail
 refine(HP.out _).mono ?_;rintro e w1⟨rfl,h1⟩;have K1:=Lh h1;clear h1;go_wp2_with fail
 refine(HQ.out _).mono ?_;rintro e w2⟨rfl,h1⟩;have K2:=Lh (below_on K1.out h1);clear h1;go_wp2_with fail
 refine(HA.out _).mono ?_;rintro e w3⟨rfl,h1⟩;have K3:=Lh (below_on K2.out h1);clear h1;go_wp2_with fail
 refine(HB.out _).mono ?_;rintro e w4⟨rfl,h1⟩;have K4:=Lh (below_on K3.out h1);clear h1;go_wp2_with fail
 refine(HC.out _).mono ?_;rintro e w5⟨rfl,h1⟩;have K5:=Lh (below_on K4.out h1);clear h1;go_wp2;go_ret;exact⟨rfl,K5.out⟩
theorem refCompareV_any(a0 a1 a2 b0 b1 b2:ByteArray)(p0 p1 p2 q0 q1 q2:Rat)(w:JW)
  (h0:∀w',Calls Tryz.prog 81 #[Js a0,Js b0] w' fun e w''=>e= .returned (.int .i64 (cmpR p0 q0))/\Below w'.heap.size w' w'')
  (h1:∀w',Calls Tryz.prog 81 #[Js a1,Js b1] w' fun e w''=>e= .returned (.int .i64 (cmpR p1 q1))/\Below w'.heap.size w' w'')
  (h2:∀w',Calls Tryz.prog 81 #[Js a2,Js b2] w' fun e w''=>e= .returned (.int .i64 (cmpR p2 q2))/\Below w'.heap.size w' w'') :
  Calls Tryz.prog 46 #[.agg #[Js a0,Js a1,Js a2],.agg #[Js b0,Js b1,Js b2]] w fun e w'=>e= .returned (.int .i64 (cmpV p0 p1 p2 q0 q1 q2))/\Below w.heap.size w w':=by
 have kb:=((G0 w.heap.size w).alloc (G2 _) (Jc #[Js a0,Js a1,Js a2] 48)).alloc (by simp) (Jc #[Js b0,Js b1,Js b2] 48);have C0:=(Cells.new w #[Js a0,Js a1,Js a2] 48).keep ((G0 _ _).alloc (G2 _) (Jc #[Js b0,Js b1,Js b2] 48));have C1:=Cells.new (w.alloc (Jc #[Js a0,Js a1,Js a2] 48)) #[Js b0,Js b1,Js b2] 48;simp only[World.size_alloc]at C1;obtain⟨W,hW⟩:∃u,(w.alloc (Jc #[Js a0,Js a1,Js a2] 48)).alloc (Jc #[Js b0,Js b1,Js b2] 48)=u:=⟨_,rfl⟩;rw[hW]at kb C0 C1;have Kb:=Lh kb;have V0:=Lh C0;have V1:=Lh C1;obtain⟨cv,hcv⟩:∃x,cmpV p0 p1 p2 q0 q1 q2=x:=⟨_,rfl⟩;unfold cmpV at hcv;obtain⟨c0,hc0⟩:∃x,cmpR p0 q0=x:=⟨_,rfl⟩;obtain⟨c1,hc1⟩:∃x,cmpR p1 q1=x:=⟨_,rfl⟩;obtain⟨c2,hc2⟩:∃x,cmpR p2 q2=x:=⟨_,rfl⟩;rw[show cmpV p0 p1 p2 q0 q1 q2=cv by unfold cmpV;exact hcv];simp only[hc0,hc1,hc2]at hcv h0 h1 h2;have Hcv:=Lh hcv;have HR0:=Lh h0;have HR1:=Lh h1;have HR2:=Lh h2;clear kb C0 C1 hcv hc0 hc1 hc2 h0 h1 h2;go_enter Tryz.func46,Tryz.ntmps46;go_wp2_with fail
 try simp only[hW]
 clear hW;go_loopw [5] (fun v wr=>∃(k:Nat) (z:Int),k<=3/\z=(k:Int)/\v= .int .i64 z/\(0<k->c0=0)/\(1<k->c1=0)/\(2<k->c2=0)/\Below W.heap.size W wr) (fun v _=>3-(intOf v).toNat)
 case atStart=>exact⟨0,0,by decide,rfl,rfl,fun h=>absurd h (by decide),fun h=>absurd h (by decide),fun h=>absurd h (by decide),G0 _ _⟩
 case round=>
  obtain⟨k,z,hk,hzk,rfl,e0,e1,e2,hb⟩:=hrel;have Hb:=Lh hb;clear hb;obtain rfl|rfl|rfl|rfl:k=0\/k=1\/k=2\/k=3:=by omega
  ·obtain rfl:z=0:=hzk;have HS:=Lh (fun w' (hb:Below wr.heap.size wr w')=>(⟨⟨((V0.out.keep Hb.out).keep hb).at_ 0,((V1.out.keep Hb.out).keep hb).at_ 0⟩,hb⟩:(w'.cell? ⟨w.heap.size,0,Jn⟩=Jo (Js a0)/\w'.cell? ⟨w.heap.size+1,0,Jn⟩=Jo (Js b0))/\Below wr.heap.size wr w'));have HK:=Lh (fun w' wx (h:(w'.cell? ⟨w.heap.size,0,Jn⟩=Jo (Js a0)/\w'.cell? ⟨w.heap.size+1,0,Jn⟩=Jo (Js b0))/\Below wr.heap.size wr w') (hb:Below w'.heap.size w' wx)=>HS.out _ (below_on h.2 hb));go_wp2_with fail
   go_region_held3 (fun w'=>(w'.cell? ⟨w.heap.size,0,Jn⟩=Jo (Js a0)/\w'.cell? ⟨w.heap.size+1,0,Jn⟩=Jo (Js b0))/\Below wr.heap.size wr w')
    (first
     | assumption
     | exact HS.out _ (G0 _ _).drew
     | exact HK.out _ _ (by assumption) (by assumption))
    (first
     | (go_at_call 81; refine (HR0.out _).mono ?_; rintro e w' ⟨rfl,hb⟩))
   go_split_ands
   have hw:Below wr.heap.size wr w':=by assumption
   have Hb:=Lh (below_on Hb.out hw);generalize w'=w1 at Hb ⊢;clear hw HS HK;by_cases h0:c0=0
   ·subst h0;go_wp2_with fail
    go_roundw;case rel=>exact⟨1,1,by decide,rfl,by go_num,fun _=>(by first|rfl|trivial),fun h=>absurd h (by decide),fun h=>absurd h (by decide),Hb.out⟩
    case measure=>simp[intOf]
   ·have t0:(c0 ==0)=false:=by rw[beq_eq_false_iff_ne];exact h0
    have t1:(c0 !=0)=true:=by rw[bne,t0];rfl
    obtain rfl:c0=cv:=by have:=Hcv.out;simpa[h0]using this
    have Kf:=Lh (below_on Kb.out Hb.out);go_wp2;exact bodyPost_ret (v:= .int .i64 c0) (by simp[results,Tryz.results46,go_sem]) rfl ⟨rfl,Kf.out⟩
  ·obtain rfl:z=1:=hzk;have HS:=Lh (fun w' (hb:Below wr.heap.size wr w')=>(⟨⟨((V0.out.keep Hb.out).keep hb).at_ 1,((V1.out.keep Hb.out).keep hb).at_ 1⟩,hb⟩:(w'.cell? ⟨w.heap.size,1,Jn⟩=Jo (Js a1)/\w'.cell? ⟨w.heap.size+1,1,Jn⟩=Jo (Js b1))/\Below wr.heap.size wr w'));have HK:=Lh (fun w' wx (h:(w'.cell? ⟨w.heap.size,1,Jn⟩=Jo (Js a1)/\w'.cell? ⟨w.heap.size+1,1,Jn⟩=Jo (Js b1))/\Below wr.heap.size wr w') (hb:Below w'.heap.size w' wx)=>HS.out _ (below_on h.2 hb));obtain rfl:c0=0:=e0 (by decide);go_wp2_with fail
   go_region_held3 (fun w'=>(w'.cell? ⟨w.heap.size,1,Jn⟩=Jo (Js a1)/\w'.cell? ⟨w.heap.size+1,1,Jn⟩=Jo (Js b1))/\Below wr.heap.size wr w')
    (first
     | assumption
     | exact HS.out _ (G0 _ _).drew
     | exact HK.out _ _ (by assumption) (by assumption))
    (first
     | (go_at_call 81; refine (HR1.out _).mono ?_; rintro e w' ⟨rfl,hb⟩))
   go_split_ands
   have hw:Below wr.heap.size wr w':=by assumption
   have Hb:=Lh (below_on Hb.out hw);generalize w'=w1 at Hb ⊢;clear hw HS HK;by_cases h0:c1=0
   ·subst h0;go_wp2_with fail
    go_roundw;case rel=>exact⟨2,2,by decide,rfl,by go_num,fun _=>(by first|rfl|trivial),fun _=>(by first|rfl|trivial),fun h=>absurd h (by decide),Hb.out⟩
    case measure=>simp[intOf]
   ·have t0:(c1 ==0)=false:=by rw[beq_eq_false_iff_ne];exact h0
    have t1:(c1 !=0)=true:=by rw[bne,t0];rfl
    obtain rfl:c1=cv:=by have:=Hcv.out;simpa[h0]using this
    have Kf:=Lh (below_on Kb.out Hb.out);go_wp2;exact bodyPost_ret (v:= .int .i64 c1) (by simp[results,Tryz.results46,go_sem]) rfl ⟨rfl,Kf.out⟩
  ·obtain rfl:z=2:=hzk;have HS:=Lh (fun w' (hb:Below wr.heap.size wr w')=>(⟨⟨((V0.out.keep Hb.out).keep hb).at_ 2,((V1.out.keep Hb.out).keep hb).at_ 2⟩,hb⟩:(w'.cell? ⟨w.heap.size,2,Jn⟩=Jo (Js a2)/\w'.cell? ⟨w.heap.size+1,2,Jn⟩=Jo (Js b2))/\Below wr.heap.size wr w'));have HK:=Lh (fun w' wx (h:(w'.cell? ⟨w.heap.size,2,Jn⟩=Jo (Js a2)/\w'.cell? ⟨w.heap.size+1,2,Jn⟩=Jo (Js b2))/\Below wr.heap.size wr w') (hb:Below w'.heap.size w' wx)=>HS.out _ (below_on h.2 hb));obtain rfl:c0=0:=e0 (by decide);obtain rfl:c1=0:=e1 (by decide);go_wp2_with fail
   go_region_held3 (fun w'=>(w'.cell? ⟨w.heap.size,2,Jn⟩=Jo (Js a2)/\w'.cell? ⟨w.heap.size+1,2,Jn⟩=Jo (Js b2))/\Below wr.heap.size wr w')
    (first
     | assumption
     | exact HS.out _ (G0 _ _).drew
     | exact HK.out _ _ (by assumption) (by assumption))
    (first
     | (go_at_call 81; refine (HR2.out _).mono ?_; rintro e w' ⟨rfl,hb⟩))
   go_split_ands
   have hw:Below wr.heap.size wr w':=by assumption
   have Hb:=Lh (below_on Hb.out hw);generalize w'=w1 at Hb ⊢;clear hw HS HK;by_cases h0:c2=0
   ·subst h0;go_wp2_with fail
    go_roundw;case rel=>exact⟨3,3,by decide,rfl,by go_num,fun _=>(by first|rfl|trivial),fun _=>(by first|rfl|trivial),fun _=>(by first|rfl|trivial),Hb.out⟩
    case measure=>simp[intOf]
   ·have t0:(c2 ==0)=false:=by rw[beq_eq_false_iff_ne];exact h0
    have t1:(c2 !=0)=true:=by rw[bne,t0];rfl
    obtain rfl:c2=cv:=by have:=Hcv.out;simpa[h0]using this
    have Kf:=Lh (below_on Kb.out Hb.out);go_wp2;exact bodyPost_ret (v:= .int .i64 c2) (by simp[results,Tryz.results46,go_sem]) rfl ⟨rfl,Kf.out⟩
  ·obtain rfl:z=3:=hzk;obtain rfl:c0=0:=e0 (by decide);obtain rfl:c1=0:=e1 (by decide);obtain rfl:c2=0:=e2 (by decide);obtain rfl:cv=0:=by have:=Hcv.out;simpa using this.symm
   have Kf:=Lh (below_on Kb.out Hb.out);go_wp2;exact bodyPost_ret (v:= .int .i64 0) (by simp[results,Tryz.results46,go_sem]) rfl ⟨rfl,Kf.out⟩
theorem cmpR_swap0(p q:Rat):cmpR q p=0-cmpR p q:=by
 rcases cmpR_spec p q with h|h|h
 ·rw[h.2];rcases cmpR_spec q p with h'|h'|h'
  ·exact absurd h'.1 (Rat.not_lt.2 (Rat.le_of_lt h.1))
  ·exact absurd h.1 (by rw[h'.1];exact Rat.lt_irrefl)
  ·rw[h'.2];rfl
 ·obtain⟨rfl,h⟩:=h;rw[h];rfl
 ·rw[h.2];rcases cmpR_spec q p with h'|h'|h'
  ·rw[h'.2];rfl
  ·exact absurd h.1 (by rw[h'.1];exact Rat.lt_irrefl)
  ·exact absurd h'.1 (Rat.not_lt.2 (Rat.le_of_lt h.1))
theorem cmpV_swap(p0 p1 p2 q0 q1 q2:Rat):cmpV q0 q1 q2 p0 p1 p2=0-cmpV p0 p1 p2 q0 q1 q2:=by
 unfold cmpV;rw[cmpR_swap0 p0 q0,cmpR_swap0 p1 q1,cmpR_swap0 p2 q2];by_cases h0:cmpR p0 q0=0
 ·by_cases h1:cmpR p1 q1=0
  ·simp[h0,h1]
  ·have:¬(0-cmpR p1 q1=0):=by omega
   simp[h0,h1]
 ·simp[h0]
theorem cmpR_range(p q:Rat):-1<=cmpR p q/\cmpR p q<=1:=by rcases cmpR_spec p q with h|h|h <;> rw[h.2] <;> decide
theorem cmpV_range(p0 p1 p2 q0 q1 q2:Rat):-1<=cmpV p0 p1 p2 q0 q1 q2/\cmpV p0 p1 p2 q0 q1 q2<=1:=by
 unfold cmpV
 split
 ·split
  ·exact cmpR_range _ _
  ·exact cmpR_range _ _
 ·exact cmpR_range _ _
theorem cmpR_leq{p q:Rat}:cmpR p q<=0↔p<=q:=by
 rcases cmpR_spec p q with h|h|h
 ·rw[h.2];exact⟨fun _=>Rat.le_of_lt h.1,fun _=>by decide⟩
 ·rw[h.2,h.1];exact⟨fun _=>Rat.le_refl,fun _=>by decide⟩
 ·rw[h.2];exact⟨fun h'=>absurd h' (by decide),fun h'=>absurd h.1 (Rat.not_lt.2 h')⟩
theorem cmpR_zero{p q:Rat}:cmpR p q=0↔p=q:=⟨cmpR_eq,fun h=>by subst h;unfold cmpR cmpZ;simp⟩
theorem cmpV_leq{p0 p1 p2 q0 q1 q2:Rat}:cmpV p0 p1 p2 q0 q1 q2<=0↔p0<q0\/(p0=q0/\(p1<q1\/(p1=q1/\p2<=q2))):=by
 have hl:∀ {p q:Rat},cmpR p q≠0->(cmpR p q<=0↔p<q):=fun {p q} h=>by
  rw[cmpR_leq];have hn:p≠q:=fun e=>h (cmpR_zero.2 e);exact⟨fun h'=>Rat.lt_of_le_of_ne h' hn,Rat.le_of_lt⟩
 unfold cmpV;by_cases h0:cmpR p0 q0=0
 ·have e0:=cmpR_eq h0;subst e0;rw[if_pos h0];by_cases h1:cmpR p1 q1=0
  ·have e1:=cmpR_eq h1;subst e1;rw[if_pos h1,cmpR_leq];simp[Rat.lt_irrefl]
  ·rw[if_neg h1,hl h1];have hn:p1≠q1:=fun e=>h1 (cmpR_zero.2 e);simp[Rat.lt_irrefl,hn]
 ·rw[if_neg h0,hl h0];have hn:p0≠q0:=fun e=>h0 (cmpR_zero.2 e);simp[hn]
theorem cmpV_trans{p0 p1 p2 q0 q1 q2 r0 r1 r2:Rat}(h:cmpV p0 p1 p2 q0 q1 q2<=0)(h':cmpV q0 q1 q2 r0 r1 r2<=0):cmpV p0 p1 p2 r0 r1 r2<=0:=by
 rw[cmpV_leq]at *
 grind
