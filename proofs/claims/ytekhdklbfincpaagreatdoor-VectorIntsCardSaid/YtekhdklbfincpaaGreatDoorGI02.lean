/- GI02: LawVInt Open OpenV -/
import Derived.Test.YtekhdklbfincpaaGreatDoorGI01
set_option maxRecDepth 100000
set_option maxHeartbeats 16000000
namespace Go.Proofs.YtekhdklbfincpaaGreatDoor
open Go.RowKit
theorem vectorInts_walk (n0 n1 n2 m0 m1 m2 d r:Int) (w:World) (h:I64 n0∧I64 n1∧I64 n2) (h':Sm m0 m1 m2 d r) (hg:Good w) :
  Calls Tryz.prog 4 #[.agg #[.int .i64 n0,.int .i64 n1,.int .i64 n2],smV m0 m1 m2 d] w fun E w'=>E= .returned (.bool true)∧Below w.heap.size w w':=by
 obtain ⟨k0,k1,k2⟩:=h
 have hr0:=h'.r0
 have hr1:=h'.r1
 have hw0:IntKind.wrap .i64 m0=m0:=wrap_i64 (by have:=h'.x0; omega) (by have:=h'.x1; omega)
 have hw1:IntKind.wrap .i64 m1=m1:=wrap_i64 (by have:=h'.y0; omega) (by have:=h'.y1; omega)
 have hw2:IntKind.wrap .i64 m2=m2:=wrap_i64 (by have:=h'.z0; omega) (by have:=h'.z1; omega)
 have hwr:IntKind.wrap .i64 r=r:=wrap_i64 (by omega) (by omega)
 have hw1r:IntKind.wrap .i64 (1+r)=1+r:=wrap_i64 (by omega) (by omega)
 have hwu:IntKind.wrap .u8 r=r:=by unfold IntKind.wrap; simp [go_sem]; omega
 have htm:Int.tmod d 6=r:=by rw [Int.tmod_eq_emod_of_nonneg h'.d0]; exact h'.r_
 have hem:d % 6=r:=h'.r_
 have hz1:((1+r) == 0)=false:=by rw [beq_eq_false_iff_ne]; omega
 have hz2:(1+r=0)=False:=by simp; omega
 have hz3:1+r≠0:=by omega
 have hz4:((1+r) == -1)=false:=by rw [beq_eq_false_iff_ne]; omega
 have hm0:-9223372036854775807≤m0∧m0≤9223372036854775807:=by have:=h'.x0; have:=h'.x1; omega
 have hm1:-9223372036854775807≤m1∧m1≤9223372036854775807:=by have:=h'.y0; have:=h'.y1; omega
 have hm2:-9223372036854775807≤m2∧m2≤9223372036854775807:=by have:=h'.z0; have:=h'.z1; omega
 have hn0:(m0 == -9223372036854775808)=false:=by rw [beq_eq_false_iff_ne]; omega
 have hn1:(m1 == -9223372036854775808)=false:=by rw [beq_eq_false_iff_ne]; omega
 have hn2:(m2 == -9223372036854775808)=false:=by rw [beq_eq_false_iff_ne]; omega
 have Hw:=Lh (fun w' (hb:Below w.heap.size w w')=>hg.below hb)
 have kb:=((Below.refl w.heap.size w).alloc (Nat.le_refl _) (.cells #[.int .i64 n0,.int .i64 n1,.int .i64 n2] 40)).alloc (by simp) (.cells #[.int .i8 m0,.int .i8 m1,.int .i8 m2,.int .u8 d] 44)
 have C0:=(Cells.new w #[.int .i64 n0,.int .i64 n1,.int .i64 n2] 40).keep ((Below.refl _ _).alloc (Nat.le_refl _) (.cells #[.int .i8 m0,.int .i8 m1,.int .i8 m2,.int .u8 d] 44))
 have C1:=Cells.new (w.alloc (.cells #[.int .i64 n0,.int .i64 n1,.int .i64 n2] 40)) #[.int .i8 m0,.int .i8 m1,.int .i8 m2,.int .u8 d] 44
 simp only [World.size_alloc] at C1
 have HK:=Lh (fun w' (hb:Below w.heap.size w w')=>known3_true w' (hg.below hb))
 have HO:=Lh (fun w'=>vecOf_any n0 n1 n2 w' k0 k1 k2)
 have HT:=Lh (fun w'=>refOf_any n0 n1 n2 w' k0 k1 k2)
 have HI:=Lh (fun (x0 x1 x2:R4) w' (hb:Below w.heap.size w w') hv=>isT_any x0 x1 x2 ((n0:Int):Rat) ((n1:Int):Rat) ((n2:Int):Rat) (txt n0) (txt n1) (txt n2) 20 w' hv ⟨few_i64 k0,few_i64 k1,few_i64 k2⟩ (by decide) (ratTxt_int n0) (ratTxt_int n1) (ratTxt_int n2) (hg.below hb))
 have HN:=Lh (fun (x0 x1 x2:R4) w' hv=>(show Calls Tryz.prog 20 #[vecVal x0 x1 x2] w' (fun e w''=>e= .returned (.tuple #[.agg #[.int .i64 n0,.int .i64 n1,.int .i64 n2],.int .i64 0])∧Below w'.heap.size w' w'') from (vints_any x0 x1 x2 ((n0:Int):Rat) ((n1:Int):Rat) ((n2:Int):Rat) w' hv).mono fun e w'' ⟨a,b,c,E,he,hi,_,hb⟩=>by
  obtain ⟨ea,eb,ec,eE⟩:=hi ⟨isI_int k0,isI_int k1,isI_int k2⟩
  rw [Rat.num_intCast] at ea eb ec
  rw [he,ea,eb,ec,eE]
  exact ⟨rfl,hb⟩))
 have HM:=Lh (fun w' (hb:Below w.heap.size w w')=>made_any m0 m1 m2 d r w' h' (hg.below hb))
 have g0:=small_is h'.x0 h'.x1 hr0 hr1
 have g1:=small_is h'.y0 h'.y1 hr0 hr1
 have g2:=small_is h'.z0 h'.z1 hr0 hr1
 have fq:Few3 4 (smallQ m0 r) (smallQ m1 r) (smallQ m2 r):=⟨(small_ok h'.x0 h'.x1 hr0 hr1).2.2,(small_ok h'.y0 h'.y1 hr0 hr1).2.2,(small_ok h'.z0 h'.z1 hr0 hr1).2.2⟩
 generalize smallQ m0 r=i0 at *
 generalize smallQ m1 r=i1 at *
 generalize smallQ m2 r=i2 at *
 have HQ:=Lh (fun (x0 x1 x2:R4) w' (hb:Below w.heap.size w w') (u:IsI i0∧IsI i1∧IsI i2) hv=>isT_any x0 x1 x2 i0 i1 i2 (txt i0.num) (txt i1.num) (txt i2.num) 4 w' hv fq (by decide) (by unfold ratTxt; rw [if_pos u.1.1]) (by unfold ratTxt; rw [if_pos u.2.1.1]) (by unfold ratTxt; rw [if_pos u.2.2.1]) (hg.below hb))
 have HT2:=Lh (fun w'=>refOf_any i0.num i1.num i2.num w' g0.2 g1.2 g2.2)
 have HN2:=Lh (fun (x0 x1 x2:R4) w' hv=>vints_any x0 x1 x2 i0 i1 i2 w' hv)
 unfold VIntsPost at HN2
 obtain ⟨t0,ht0⟩:∃ t,(Int.tmod m0 (1+r) == 0)=t:=⟨_,rfl⟩
 obtain ⟨t1,ht1⟩:∃ t,(Int.tmod m1 (1+r) == 0)=t:=⟨_,rfl⟩
 obtain ⟨t2,ht2⟩:∃ t,(Int.tmod m2 (1+r) == 0)=t:=⟨_,rfl⟩
 have T0:=Lh (show t0=decide (IsI i0) from ht0.symm.trans g0.1)
 have T1:=Lh (show t1=decide (IsI i1) from ht1.symm.trans g1.1)
 have T2:=Lh (show t2=decide (IsI i2) from ht2.symm.trans g2.1)
 obtain ⟨q0,hq0⟩:∃ q,Int.tmod m0 (1+r)=q:=⟨_,rfl⟩
 obtain ⟨q1,hq1⟩:∃ q,Int.tmod m1 (1+r)=q:=⟨_,rfl⟩
 obtain ⟨q2,hq2⟩:∃ q,Int.tmod m2 (1+r)=q:=⟨_,rfl⟩
 rw [hq0] at ht0
 rw [hq1] at ht1
 rw [hq2] at ht2
 have hwq0:IntKind.wrap .i64 q0=q0:=by have:=tmod_less m0 (1+r) (by omega); rw [hq0] at this; exact wrap_i64 (by omega) (by omega)
 have hwq1:IntKind.wrap .i64 q1=q1:=by have:=tmod_less m1 (1+r) (by omega); rw [hq1] at this; exact wrap_i64 (by omega) (by omega)
 have hwq2:IntKind.wrap .i64 q2=q2:=by have:=tmod_less m2 (1+r) (by omega); rw [hq2] at this; exact wrap_i64 (by omega) (by omega)
 obtain ⟨W,hW⟩:∃ u,(w.alloc (.cells #[.int .i64 n0,.int .i64 n1,.int .i64 n2] 40)).alloc (.cells #[.int .i8 m0,.int .i8 m1,.int .i8 m2,.int .u8 d] 44)=u:=⟨_,rfl⟩
 rw [hW] at kb C0 C1
 have C0:=Lh (show Cells W w.heap.size [.int .i64 n0,.int .i64 n1,.int .i64 n2] from C0)
 have C1:=Lh (show Cells W (w.heap.size+1) [.int .i8 m0,.int .i8 m1,.int .i8 m2,.int .u8 d] from C1)
 have K0:=Lh kb
 generalize txt n0=s0 at *
 generalize txt n1=s1 at *
 generalize txt n2=s2 at *
 generalize txt i0.num=u0 at *
 generalize txt i1.num=u1 at *
 generalize txt i2.num=u2 at *
 have he:=fun W:World=>vector_eq n0 n1 n2 W
 have he0:=fun W:World=>vector_eq 0 0 0 W
 clear k0 k1 k2 h' hg kb g0 g1 g2 fq hr0 hr1
 unfold smV at *
 go_enter Tryz.func4,Tryz.ntmps4
 have HS:=Lh (fun w' (hb:Below W.heap.size W w')=>(⟨(C0.out.keep hb).at_ 0,(C0.out.keep hb).at_ 1,(C0.out.keep hb).at_ 2⟩:w'.cell? ⟨w.heap.size,0,none⟩=some (.int .i64 n0)∧w'.cell? ⟨w.heap.size,1,none⟩=some (.int .i64 n1)∧w'.cell? ⟨w.heap.size,2,none⟩=some (.int .i64 n2)))
 go_upto_region 1 with fail
 try simp only [hW]
 clear hW
 refine Till.begin 7 (fun w'=>w'.cell? ⟨w.heap.size,0,none⟩=some (.int .i64 n0)∧w'.cell? ⟨w.heap.size,1,none⟩=some (.int .i64 n1)∧w'.cell? ⟨w.heap.size,2,none⟩=some (.int .i64 n2)) (by kernel_rfl) (HS.out _ (Below.refl _ _).drew) (fun hH=>?_)
 clear hH
 have HB:=Lh (Below.refl W.heap.size W).drew
 generalize W.drew=v0 at HB ⊢
 try simp only [Pls]
 refine Till.one (i:=0) (by kernel_rfl) rfl (fun K hK=>?_)
 go_simp
 refine (HK.out _ (below_on K0.out HB.out)).mono ?_
 rintro e v1 ⟨rfl,g⟩
 replace HB:=Lh (below_on HB.out g)
 clear g
 go_wp2_with fail
 refine hK.out _ _ (fun _=>HS.out _ HB.out) ?_
 clear hK K
 try simp only [Pls]
 refine Till.one (i:=1) (by kernel_rfl) rfl (fun K hK=>?_)
 go_simp
 refine hK.out _ _ (fun _=>HS.out _ HB.out) ?_
 clear hK K
 try simp only [Pls]
 refine Till.one (i:=2) (by kernel_rfl) rfl (fun K hK=>?_)
 go_simp
 refine hK.out _ _ (fun _=>HS.out _ HB.out) ?_
 clear hK K
 try simp only [Pls]
 refine Till.tk 3 4 14 (.agg #[.int .i64 n0,.int .i64 n1,.int .i64 n2]) (HS.out _ HB.out) ?_
 try simp only [Act.put,Pls]
 refine Till.tk 5 6 16 (.agg #[.int .i64 n0,.int .i64 n1,.int .i64 n2]) (HS.out _ HB.out) ?_
 try simp only [Act.put,Pls]
 refine Till.one (i:=4) (by kernel_rfl) rfl (fun K hK=>?_)
 go_simp
 refine (HO.out _).mono ?_
 rintro e v2 ⟨x0,x1,x2,rfl,hx,g⟩
 replace HB:=Lh (below_on HB.out g)
 have VX:=Lh hx
 clear hx
 unfold vecVal
 clear g
 go_wp2_with fail
 refine hK.out _ _ (fun _=>HS.out _ HB.out) ?_
 clear hK K
 try simp only [Pls]
 refine Till.one (i:=6) (by kernel_rfl) rfl (fun K hK=>?_)
 go_simp
 refine (HT.out _).mono ?_
 rintro e v3 ⟨rfl,g⟩
 replace HB:=Lh (below_on HB.out g)
 replace VX:=Lh (VX.out.keep g)
 clear g
 go_wp2_with fail
 refine hK.out _ _ (fun _=>HS.out _ HB.out) ?_
 clear hK K
 try simp only [Pls]
 refine Till.one (i:=7) (by kernel_rfl) rfl (fun K hK=>?_)
 go_simp
 refine (HI.out _ _ _ _ (below_on K0.out HB.out) VX.out).mono ?_
 rintro e v4 ⟨rfl,g⟩
 replace HB:=Lh (below_on HB.out g)
 clear g
 go_wp2_with fail
 refine hK.out _ _ (fun h=>absurd h (by simp)) ?_
 clear hK K
 try simp only [Pls]
 refine Till.one (i:=8) (by kernel_rfl) rfl (fun K hK=>?_)
 go_simp
 refine hK.out _ _ (fun h=>absurd h (by simp)) ?_
 clear hK K
 try simp only [Pls]
 refine Till.one (i:=9) (by kernel_rfl) rfl (fun K hK=>?_)
 go_simp
 refine hK.out _ _ (fun h=>absurd h (by simp)) ?_
 clear hK K
 try simp only [Pls]
 refine Till.done (by kernel_rfl) ?_ _
 have HB0:=HB.out
 replace C0:=Lh (C0.out.keep HB0)
 replace C1:=Lh (C1.out.keep HB0)
 replace K0:=Lh (below_on K0.out HB0)
 clear HB HB0 HS VX
 generalize v4=w1 at *
 have a0:w1.cell? ⟨w.heap.size,0,none⟩=some (.int .i64 n0):=C0.out.at_ 0
 have a1:w1.cell? ⟨w.heap.size,1,none⟩=some (.int .i64 n1):=C0.out.at_ 1
 have a2:w1.cell? ⟨w.heap.size,2,none⟩=some (.int .i64 n2):=C0.out.at_ 2
 go_wp2_with fail
 refine (HO.out _).mono ?_
 rintro E w2 ⟨x0,x1,x2,rfl,hx,g⟩
 have VX:=Lh hx
 replace C0:=Lh (C0.out.keep g)
 replace C1:=Lh (C1.out.keep g)
 replace K0:=Lh (below_on K0.out g)
 clear hx g a0 a1 a2
 unfold vecVal
 go_wp2_with fail
 refine (HN.out _ _ _ _ VX.out).mono ?_
 rintro E w3 ⟨rfl,g⟩
 have kv:=(Below.refl w3.heap.size w3).alloc (Nat.le_refl _) (.cells #[.int .i64 n0,.int .i64 n1,.int .i64 n2] 40)
 have hP:=Cells.new w3 #[.int .i64 n0,.int .i64 n1,.int .i64 n2] 40
 replace C0:=Lh (C0.out.keep g)
 replace C1:=Lh (C1.out.keep g)
 replace C0:=Lh (C0.out.keep kv)
 replace C1:=Lh (C1.out.keep kv)
 replace K0:=Lh (below_on (below_on K0.out g) kv)
 obtain ⟨pP,hpP⟩:∃ p,w3.heap.size=p:=⟨_,rfl⟩
 obtain ⟨W3,hW3⟩:∃ u,w3.alloc (.cells #[.int .i64 n0,.int .i64 n1,.int .i64 n2] 40)=u:=⟨_,rfl⟩
 rw [hW3] at hP K0 C0 C1
 rw [hpP] at hP
 have P:=Lh (show Cells W3 pP [.int .i64 n0,.int .i64 n1,.int .i64 n2] from hP)
 clear kv hP g VX
 have a0:W3.cell? ⟨w.heap.size+1,0,none⟩=some (.int .i8 m0):=C1.out.at_ 0
 have a1:W3.cell? ⟨w.heap.size+1,1,none⟩=some (.int .i8 m1):=C1.out.at_ 1
 have a2:W3.cell? ⟨w.heap.size+1,2,none⟩=some (.int .i8 m2):=C1.out.at_ 2
 have a3:W3.cell? ⟨w.heap.size+1,3,none⟩=some (.int .u8 d):=C1.out.at_ 3
 go_wp2_with fail
 try simp only [hpP,hW3]
 refine (HM.out _ K0.out).mono ?_
 rintro E w4 ⟨x0,x1,x2,rfl,hx,g⟩
 have VX:=Lh hx
 replace C0:=Lh (C0.out.keep g)
 replace C1:=Lh (C1.out.keep g)
 replace P:=Lh (P.out.keep g)
 replace K0:=Lh (below_on K0.out g)
 clear hx g a0 a1 a2 a3 hpP hW3
 unfold vecVal
 go_wp2_with fail
 refine (HN2.out _ _ _ _ VX.out).mono ?_
 rintro E w5 ⟨y0,y1,y2,ee,rfl,hy1,hy2,g⟩
 have HY:=Lh (And.intro hy1 hy2)
 have kv:=(Below.refl w5.heap.size w5).alloc (Nat.le_refl _) (.cells #[.int .i64 y0,.int .i64 y1,.int .i64 y2] 40)
 have hP:=Cells.new w5 #[.int .i64 y0,.int .i64 y1,.int .i64 y2] 40
 replace C0:=Lh (C0.out.keep g)
 replace C1:=Lh (C1.out.keep g)
 replace P:=Lh (P.out.keep g)
 replace C0:=Lh (C0.out.keep kv)
 replace C1:=Lh (C1.out.keep kv)
 replace P:=Lh (P.out.keep kv)
 replace K0:=Lh (below_on (below_on K0.out g) kv)
 obtain ⟨pQ,hpQ⟩:∃ p,w5.heap.size=p:=⟨_,rfl⟩
 obtain ⟨W5,hW5⟩:∃ u,w5.alloc (.cells #[.int .i64 y0,.int .i64 y1,.int .i64 y2] 40)=u:=⟨_,rfl⟩
 rw [hW5] at hP K0 C0 C1 P
 rw [hpQ] at hP
 have Q:=Lh (show Cells W5 pQ [.int .i64 y0,.int .i64 y1,.int .i64 y2] from hP)
 clear kv hP g VX hy1 hy2
 go_wp2_with fail
 try simp only [hpQ,hW5]
 clear hpQ hW5
 go_loopw [9,10] (fun vb vk wr=>∃ (k:Nat) (z:Int) (b:Bool),k≤3∧z=(k:Int)∧vk= .int .i64 z∧vb= .bool b∧whK t0 t1 t2 k=b∧Below W5.heap.size W5 wr) (fun _ vk _=>3 - (intOf vk).toNat)
 case atStart=>exact ⟨0,0,true,by decide,rfl,rfl,rfl,rfl,Below.refl _ _⟩
 case round=>
  obtain ⟨k,z,b,hk,hzk,rfl,rfl,hb,hB⟩:=hrel
  have C0:=Lh (C0.out.keep hB)
  have C1:=Lh (C1.out.keep hB)
  have P:=Lh (P.out.keep hB)
  have Q:=Lh (Q.out.keep hB)
  have K0:=Lh (below_on K0.out hB)
  have BW:=Lh hB
  clear hB
  obtain rfl | rfl | rfl | rfl:k=0∨k=1∨k=2∨k=3:=by omega
  ·obtain rfl:z=0:=hzk
   cases b with
   | true=>
    have HS:=Lh (fun w' (hb:Below wr.heap.size wr w')=>(⟨(C1.out.keep hb).at_ 0,(C1.out.keep hb).at_ 1,(C1.out.keep hb).at_ 2,(C1.out.keep hb).at_ 3⟩:w'.cell? ⟨w.heap.size+1,0,none⟩=some (.int .i8 m0)∧w'.cell? ⟨w.heap.size+1,1,none⟩=some (.int .i8 m1)∧w'.cell? ⟨w.heap.size+1,2,none⟩=some (.int .i8 m2)∧w'.cell? ⟨w.heap.size+1,3,none⟩=some (.int .u8 d)))
    go_upto_region 9 with fail
    refine Till.begin 15 (fun w'=>w'.cell? ⟨w.heap.size+1,0,none⟩=some (.int .i8 m0)∧w'.cell? ⟨w.heap.size+1,1,none⟩=some (.int .i8 m1)∧w'.cell? ⟨w.heap.size+1,2,none⟩=some (.int .i8 m2)∧w'.cell? ⟨w.heap.size+1,3,none⟩=some (.int .u8 d)) (by kernel_rfl) (HS.out _ (Below.refl _ _).drew) (fun hH=>?_)
    clear hH
    have HB:=Lh (Below.refl wr.heap.size wr).drew
    generalize wr.drew=v0 at HB ⊢
    try simp only [Pls]
    refine Till.one (i:=0) (by kernel_rfl) rfl (fun K hK=>?_)
    go_simp
    refine hK.out _ _ (fun _=>HS.out _ HB.out) ?_
    clear hK K
    try simp only [Pls]
    refine Till.one (i:=1) (by kernel_rfl) rfl (fun K hK=>?_)
    go_simp
    refine hK.out _ _ (fun _=>HS.out _ HB.out) ?_
    clear hK K
    try simp only [Pls]
    refine Till.tk 2 4 39 (.int .i64 0) (HS.out _ HB.out) ?_
    try simp only [Act.put,Pls]
    refine Till.tk 3 4 40 (.pointer (some ⟨w.heap.size+1,0,none⟩)) (HS.out _ HB.out) ?_
    try simp only [Act.put,Pls]
    refine Till.tk 4 5 41 (.pointer (some ⟨w.heap.size+1,0,none⟩)) (HS.out _ HB.out) ?_
    try simp only [Act.put,Pls]
    refine Till.tk 5 6 42 (.int .i8 m0) (HS.out _ HB.out) ?_
    try simp only [Act.put,Pls]
    refine Till.tk 6 12 43 (.int .i64 m0) (HS.out _ HB.out) ?_
    try simp only [Act.put,Pls]
    refine Till.one (i:=7) (by kernel_rfl) rfl (fun K hK=>?_)
    go_simp
    refine hK.out _ _ (fun _=>HS.out _ HB.out) ?_
    clear hK K
    try simp only [Pls]
    refine Till.tk 8 9 45 (.int .u8 d) (HS.out _ HB.out) ?_
    try simp only [Act.put,Pls]
    refine Till.one (i:=9) (by kernel_rfl) rfl (fun K hK=>?_)
    go_simp
    refine hK.out _ _ (fun _=>HS.out _ HB.out) ?_
    clear hK K
    try simp only [Pls]
    refine Till.one (i:=10) (by kernel_rfl) rfl (fun K hK=>?_)
    go_simp
    refine hK.out _ _ (fun _=>HS.out _ HB.out) ?_
    clear hK K
    try simp only [Pls]
    refine Till.one (i:=11) (by kernel_rfl) rfl (fun K hK=>?_)
    go_simp
    refine hK.out _ _ (fun _=>HS.out _ HB.out) ?_
    clear hK K
    try simp only [Pls]
    refine Till.one (i:=12) (by kernel_rfl) rfl (fun K hK=>?_)
    go_simp
    refine hK.out _ _ (fun _=>HS.out _ HB.out) ?_
    clear hK K
    try simp only [Pls]
    refine Till.one (i:=13) (by kernel_rfl) rfl (fun K hK=>?_)
    go_simp
    refine hK.out _ _ (fun _=>HS.out _ HB.out) ?_
    clear hK K
    try simp only [Pls]
    refine Till.one (i:=14) (by kernel_rfl) rfl (fun K hK=>?_)
    go_simp
    refine hK.out _ _ (fun _=>HS.out _ HB.out) ?_
    clear hK K
    try simp only [Pls]
    refine Till.one (i:=15) (by kernel_rfl) rfl (fun K hK=>?_)
    go_simp
    refine hK.out _ _ (fun h=>absurd h (by simp)) ?_
    clear hK K
    try simp only [Pls]
    refine Till.done (by kernel_rfl) ?_ _
    have Hf:=Lh (below_on BW.out HB.out)
    have Hh:=Lh (show whK t0 t1 t2 1=t0 by exact rfl)
    go_wp2_with fail
    go_roundw
    case rel=>exact ⟨1,1,t0,by decide,rfl,by go_num,rfl,Hh.out,Hf.out⟩
    case measure=>simp [intOf]
   | false=>
    exact absurd (show true=false from hb) (by decide)
  ·obtain rfl:z=1:=hzk
   cases b with
   | true=>
    have HS:=Lh (fun w' (hb:Below wr.heap.size wr w')=>(⟨(C1.out.keep hb).at_ 0,(C1.out.keep hb).at_ 1,(C1.out.keep hb).at_ 2,(C1.out.keep hb).at_ 3⟩:w'.cell? ⟨w.heap.size+1,0,none⟩=some (.int .i8 m0)∧w'.cell? ⟨w.heap.size+1,1,none⟩=some (.int .i8 m1)∧w'.cell? ⟨w.heap.size+1,2,none⟩=some (.int .i8 m2)∧w'.cell? ⟨w.heap.size+1,3,none⟩=some (.int .u8 d)))
    go_upto_region 9 with fail
    refine Till.begin 15 (fun w'=>w'.cell? ⟨w.heap.size+1,0,none⟩=some (.int .i8 m0)∧w'.cell? ⟨w.heap.size+1,1,none⟩=some (.int .i8 m1)∧w'.cell? ⟨w.heap.size+1,2,none⟩=some (.int .i8 m2)∧w'.cell? ⟨w.heap.size+1,3,none⟩=some (.int .u8 d)) (by kernel_rfl) (HS.out _ (Below.refl _ _).drew) (fun hH=>?_)
    clear hH
    have HB:=Lh (Below.refl wr.heap.size wr).drew
    generalize wr.drew=v0 at HB ⊢
    try simp only [Pls]
    refine Till.one (i:=0) (by kernel_rfl) rfl (fun K hK=>?_)
    go_simp
    refine hK.out _ _ (fun _=>HS.out _ HB.out) ?_
    clear hK K
    try simp only [Pls]
    refine Till.one (i:=1) (by kernel_rfl) rfl (fun K hK=>?_)
    go_simp
    refine hK.out _ _ (fun _=>HS.out _ HB.out) ?_
    clear hK K
    try simp only [Pls]
    refine Till.tk 2 4 39 (.int .i64 1) (HS.out _ HB.out) ?_
    try simp only [Act.put,Pls]
    refine Till.tk 3 4 40 (.pointer (some ⟨w.heap.size+1,0,none⟩)) (HS.out _ HB.out) ?_
    try simp only [Act.put,Pls]
    refine Till.tk 4 5 41 (.pointer (some ⟨w.heap.size+1,1,none⟩)) (HS.out _ HB.out) ?_
    try simp only [Act.put,Pls]
    refine Till.tk 5 6 42 (.int .i8 m1) (HS.out _ HB.out) ?_
    try simp only [Act.put,Pls]
    refine Till.tk 6 12 43 (.int .i64 m1) (HS.out _ HB.out) ?_
    try simp only [Act.put,Pls]
    refine Till.one (i:=7) (by kernel_rfl) rfl (fun K hK=>?_)
    go_simp
    refine hK.out _ _ (fun _=>HS.out _ HB.out) ?_
    clear hK K
    try simp only [Pls]
    refine Till.tk 8 9 45 (.int .u8 d) (HS.out _ HB.out) ?_
    try simp only [Act.put,Pls]
    refine Till.one (i:=9) (by kernel_rfl) rfl (fun K hK=>?_)
    go_simp
    refine hK.out _ _ (fun _=>HS.out _ HB.out) ?_
    clear hK K
    try simp only [Pls]
    refine Till.one (i:=10) (by kernel_rfl) rfl (fun K hK=>?_)
    go_simp
    refine hK.out _ _ (fun _=>HS.out _ HB.out) ?_
    clear hK K
    try simp only [Pls]
    refine Till.one (i:=11) (by kernel_rfl) rfl (fun K hK=>?_)
    go_simp
    refine hK.out _ _ (fun _=>HS.out _ HB.out) ?_
    clear hK K
    try simp only [Pls]
    refine Till.one (i:=12) (by kernel_rfl) rfl (fun K hK=>?_)
    go_simp
    refine hK.out _ _ (fun _=>HS.out _ HB.out) ?_
    clear hK K
    try simp only [Pls]
    refine Till.one (i:=13) (by kernel_rfl) rfl (fun K hK=>?_)
    go_simp
    refine hK.out _ _ (fun _=>HS.out _ HB.out) ?_
    clear hK K
    try simp only [Pls]
    refine Till.one (i:=14) (by kernel_rfl) rfl (fun K hK=>?_)
    go_simp
    refine hK.out _ _ (fun _=>HS.out _ HB.out) ?_
    clear hK K
    try simp only [Pls]
    refine Till.one (i:=15) (by kernel_rfl) rfl (fun K hK=>?_)
    go_simp
    refine hK.out _ _ (fun h=>absurd h (by simp)) ?_
    clear hK K
    try simp only [Pls]
    refine Till.done (by kernel_rfl) ?_ _
    have Hf:=Lh (below_on BW.out HB.out)
    have Hh:=Lh (show whK t0 t1 t2 2=t1 by show (t0 && t1)=t1; rw [show t0=true from hb]; rfl)
    go_wp2_with fail
    go_roundw
    case rel=>exact ⟨2,2,t1,by decide,rfl,by go_num,rfl,Hh.out,Hf.out⟩
    case measure=>simp [intOf]
   | false=>
    have HS:=Lh (fun w' (hb:Below wr.heap.size wr w')=>(⟨(C1.out.keep hb).at_ 0,(C1.out.keep hb).at_ 1,(C1.out.keep hb).at_ 2,(C1.out.keep hb).at_ 3⟩:w'.cell? ⟨w.heap.size+1,0,none⟩=some (.int .i8 m0)∧w'.cell? ⟨w.heap.size+1,1,none⟩=some (.int .i8 m1)∧w'.cell? ⟨w.heap.size+1,2,none⟩=some (.int .i8 m2)∧w'.cell? ⟨w.heap.size+1,3,none⟩=some (.int .u8 d)))
    go_upto_region 9 with fail
    refine Till.begin 15 (fun w'=>w'.cell? ⟨w.heap.size+1,0,none⟩=some (.int .i8 m0)∧w'.cell? ⟨w.heap.size+1,1,none⟩=some (.int .i8 m1)∧w'.cell? ⟨w.heap.size+1,2,none⟩=some (.int .i8 m2)∧w'.cell? ⟨w.heap.size+1,3,none⟩=some (.int .u8 d)) (by kernel_rfl) (HS.out _ (Below.refl _ _).drew) (fun hH=>?_)
    clear hH
    have HB:=Lh (Below.refl wr.heap.size wr).drew
    generalize wr.drew=v0 at HB ⊢
    try simp only [Pls]
    refine Till.one (i:=0) (by kernel_rfl) rfl (fun K hK=>?_)
    go_simp
    refine hK.out _ _ (fun _=>HS.out _ HB.out) ?_
    clear hK K
    try simp only [Pls]
    refine Till.one (i:=1) (by kernel_rfl) rfl (fun K hK=>?_)
    go_simp
    refine hK.out _ _ (fun _=>HS.out _ HB.out) ?_
    clear hK K
    try simp only [Pls]
    refine Till.sk 2 4 39 (HS.out _ HB.out) ?_
    try simp only [Act.put,Pls]
    refine Till.sk 3 4 40 (HS.out _ HB.out) ?_
    try simp only [Act.put,Pls]
    refine Till.sk 4 5 41 (HS.out _ HB.out) ?_
    try simp only [Act.put,Pls]
    refine Till.sk 5 6 42 (HS.out _ HB.out) ?_
    try simp only [Act.put,Pls]
    refine Till.sk 6 12 43 (HS.out _ HB.out) ?_
    try simp only [Act.put,Pls]
    refine Till.one (i:=7) (by kernel_rfl) rfl (fun K hK=>?_)
    go_simp
    refine hK.out _ _ (fun _=>HS.out _ HB.out) ?_
    clear hK K
    try simp only [Pls]
    refine Till.one (i:=8) (by kernel_rfl) rfl (fun K hK=>?_)
    go_simp
    refine hK.out _ _ (fun _=>HS.out _ HB.out) ?_
    clear hK K
    try simp only [Pls]
    refine Till.one (i:=9) (by kernel_rfl) rfl (fun K hK=>?_)
    go_simp
    refine hK.out _ _ (fun _=>HS.out _ HB.out) ?_
    clear hK K
    try simp only [Pls]
    refine Till.one (i:=10) (by kernel_rfl) rfl (fun K hK=>?_)
    go_simp
    refine hK.out _ _ (fun _=>HS.out _ HB.out) ?_
    clear hK K
    try simp only [Pls]
    refine Till.one (i:=11) (by kernel_rfl) rfl (fun K hK=>?_)
    go_simp
    refine hK.out _ _ (fun _=>HS.out _ HB.out) ?_
    clear hK K
    try simp only [Pls]
    refine Till.one (i:=12) (by kernel_rfl) rfl (fun K hK=>?_)
    go_simp
    refine hK.out _ _ (fun _=>HS.out _ HB.out) ?_
    clear hK K
    try simp only [Pls]
    refine Till.one (i:=13) (by kernel_rfl) rfl (fun K hK=>?_)
    go_simp
    refine hK.out _ _ (fun _=>HS.out _ HB.out) ?_
    clear hK K
    try simp only [Pls]
    refine Till.one (i:=14) (by kernel_rfl) rfl (fun K hK=>?_)
    go_simp
    refine hK.out _ _ (fun _=>HS.out _ HB.out) ?_
    clear hK K
    try simp only [Pls]
    refine Till.one (i:=15) (by kernel_rfl) rfl (fun K hK=>?_)
    go_simp
    refine hK.out _ _ (fun h=>absurd h (by simp)) ?_
    clear hK K
    try simp only [Pls]
    refine Till.done (by kernel_rfl) ?_ _
    have Hf:=Lh (below_on BW.out HB.out)
    have Hh:=Lh (show whK t0 t1 t2 2=false by show (t0 && t1)=false; rw [show t0=false from hb]; rfl)
    go_wp2_with fail
    go_roundw
    case rel=>exact ⟨2,2,false,by decide,rfl,by go_num,rfl,Hh.out,Hf.out⟩
    case measure=>simp [intOf]
  ·obtain rfl:z=2:=hzk
   cases b with
   | true=>
    have HS:=Lh (fun w' (hb:Below wr.heap.size wr w')=>(⟨(C1.out.keep hb).at_ 0,(C1.out.keep hb).at_ 1,(C1.out.keep hb).at_ 2,(C1.out.keep hb).at_ 3⟩:w'.cell? ⟨w.heap.size+1,0,none⟩=some (.int .i8 m0)∧w'.cell? ⟨w.heap.size+1,1,none⟩=some (.int .i8 m1)∧w'.cell? ⟨w.heap.size+1,2,none⟩=some (.int .i8 m2)∧w'.cell? ⟨w.heap.size+1,3,none⟩=some (.int .u8 d)))
    go_upto_region 9 with fail
    refine Till.begin 15 (fun w'=>w'.cell? ⟨w.heap.size+1,0,none⟩=some (.int .i8 m0)∧w'.cell? ⟨w.heap.size+1,1,none⟩=some (.int .i8 m1)∧w'.cell? ⟨w.heap.size+1,2,none⟩=some (.int .i8 m2)∧w'.cell? ⟨w.heap.size+1,3,none⟩=some (.int .u8 d)) (by kernel_rfl) (HS.out _ (Below.refl _ _).drew) (fun hH=>?_)
    clear hH
    have HB:=Lh (Below.refl wr.heap.size wr).drew
    generalize wr.drew=v0 at HB ⊢
    try simp only [Pls]
    refine Till.one (i:=0) (by kernel_rfl) rfl (fun K hK=>?_)
    go_simp
    refine hK.out _ _ (fun _=>HS.out _ HB.out) ?_
    clear hK K
    try simp only [Pls]
    refine Till.one (i:=1) (by kernel_rfl) rfl (fun K hK=>?_)
    go_simp
    refine hK.out _ _ (fun _=>HS.out _ HB.out) ?_
    clear hK K
    try simp only [Pls]
    refine Till.tk 2 4 39 (.int .i64 2) (HS.out _ HB.out) ?_
    try simp only [Act.put,Pls]
    refine Till.tk 3 4 40 (.pointer (some ⟨w.heap.size+1,0,none⟩)) (HS.out _ HB.out) ?_
    try simp only [Act.put,Pls]
    refine Till.tk 4 5 41 (.pointer (some ⟨w.heap.size+1,2,none⟩)) (HS.out _ HB.out) ?_
    try simp only [Act.put,Pls]
    refine Till.tk 5 6 42 (.int .i8 m2) (HS.out _ HB.out) ?_
    try simp only [Act.put,Pls]
    refine Till.tk 6 12 43 (.int .i64 m2) (HS.out _ HB.out) ?_
    try simp only [Act.put,Pls]
    refine Till.one (i:=7) (by kernel_rfl) rfl (fun K hK=>?_)
    go_simp
    refine hK.out _ _ (fun _=>HS.out _ HB.out) ?_
    clear hK K
    try simp only [Pls]
    refine Till.tk 8 9 45 (.int .u8 d) (HS.out _ HB.out) ?_
    try simp only [Act.put,Pls]
    refine Till.one (i:=9) (by kernel_rfl) rfl (fun K hK=>?_)
    go_simp
    refine hK.out _ _ (fun _=>HS.out _ HB.out) ?_
    clear hK K
    try simp only [Pls]
    refine Till.one (i:=10) (by kernel_rfl) rfl (fun K hK=>?_)
    go_simp
    refine hK.out _ _ (fun _=>HS.out _ HB.out) ?_
    clear hK K
    try simp only [Pls]
    refine Till.one (i:=11) (by kernel_rfl) rfl (fun K hK=>?_)
    go_simp
    refine hK.out _ _ (fun _=>HS.out _ HB.out) ?_
    clear hK K
    try simp only [Pls]
    refine Till.one (i:=12) (by kernel_rfl) rfl (fun K hK=>?_)
    go_simp
    refine hK.out _ _ (fun _=>HS.out _ HB.out) ?_
    clear hK K
    try simp only [Pls]
    refine Till.one (i:=13) (by kernel_rfl) rfl (fun K hK=>?_)
    go_simp
    refine hK.out _ _ (fun _=>HS.out _ HB.out) ?_
    clear hK K
    try simp only [Pls]
    refine Till.one (i:=14) (by kernel_rfl) rfl (fun K hK=>?_)
    go_simp
    refine hK.out _ _ (fun _=>HS.out _ HB.out) ?_
    clear hK K
    try simp only [Pls]
    refine Till.one (i:=15) (by kernel_rfl) rfl (fun K hK=>?_)
    go_simp
    refine hK.out _ _ (fun h=>absurd h (by simp)) ?_
    clear hK K
    try simp only [Pls]
    refine Till.done (by kernel_rfl) ?_ _
    have Hf:=Lh (below_on BW.out HB.out)
    have Hh:=Lh (show whK t0 t1 t2 3=t2 by show (t0 && t1 && t2)=t2; rw [show (t0 && t1)=true from hb]; rfl)
    go_wp2_with fail
    go_roundw
    case rel=>exact ⟨3,3,t2,by decide,rfl,by go_num,rfl,Hh.out,Hf.out⟩
    case measure=>simp [intOf]
   | false=>
    have HS:=Lh (fun w' (hb:Below wr.heap.size wr w')=>(⟨(C1.out.keep hb).at_ 0,(C1.out.keep hb).at_ 1,(C1.out.keep hb).at_ 2,(C1.out.keep hb).at_ 3⟩:w'.cell? ⟨w.heap.size+1,0,none⟩=some (.int .i8 m0)∧w'.cell? ⟨w.heap.size+1,1,none⟩=some (.int .i8 m1)∧w'.cell? ⟨w.heap.size+1,2,none⟩=some (.int .i8 m2)∧w'.cell? ⟨w.heap.size+1,3,none⟩=some (.int .u8 d)))
    go_upto_region 9 with fail
    refine Till.begin 15 (fun w'=>w'.cell? ⟨w.heap.size+1,0,none⟩=some (.int .i8 m0)∧w'.cell? ⟨w.heap.size+1,1,none⟩=some (.int .i8 m1)∧w'.cell? ⟨w.heap.size+1,2,none⟩=some (.int .i8 m2)∧w'.cell? ⟨w.heap.size+1,3,none⟩=some (.int .u8 d)) (by kernel_rfl) (HS.out _ (Below.refl _ _).drew) (fun hH=>?_)
    clear hH
    have HB:=Lh (Below.refl wr.heap.size wr).drew
    generalize wr.drew=v0 at HB ⊢
    try simp only [Pls]
    refine Till.one (i:=0) (by kernel_rfl) rfl (fun K hK=>?_)
    go_simp
    refine hK.out _ _ (fun _=>HS.out _ HB.out) ?_
    clear hK K
    try simp only [Pls]
    refine Till.one (i:=1) (by kernel_rfl) rfl (fun K hK=>?_)
    go_simp
    refine hK.out _ _ (fun _=>HS.out _ HB.out) ?_
    clear hK K
    try simp only [Pls]
    refine Till.sk 2 4 39 (HS.out _ HB.out) ?_
    try simp only [Act.put,Pls]
    refine Till.sk 3 4 40 (HS.out _ HB.out) ?_
    try simp only [Act.put,Pls]
    refine Till.sk 4 5 41 (HS.out _ HB.out) ?_
    try simp only [Act.put,Pls]
    refine Till.sk 5 6 42 (HS.out _ HB.out) ?_
    try simp only [Act.put,Pls]
    refine Till.sk 6 12 43 (HS.out _ HB.out) ?_
    try simp only [Act.put,Pls]
    refine Till.one (i:=7) (by kernel_rfl) rfl (fun K hK=>?_)
    go_simp
    refine hK.out _ _ (fun _=>HS.out _ HB.out) ?_
    clear hK K
    try simp only [Pls]
    refine Till.one (i:=8) (by kernel_rfl) rfl (fun K hK=>?_)
    go_simp
    refine hK.out _ _ (fun _=>HS.out _ HB.out) ?_
    clear hK K
    try simp only [Pls]
    refine Till.one (i:=9) (by kernel_rfl) rfl (fun K hK=>?_)
    go_simp
    refine hK.out _ _ (fun _=>HS.out _ HB.out) ?_
    clear hK K
    try simp only [Pls]
    refine Till.one (i:=10) (by kernel_rfl) rfl (fun K hK=>?_)
    go_simp
    refine hK.out _ _ (fun _=>HS.out _ HB.out) ?_
    clear hK K
    try simp only [Pls]
    refine Till.one (i:=11) (by kernel_rfl) rfl (fun K hK=>?_)
    go_simp
    refine hK.out _ _ (fun _=>HS.out _ HB.out) ?_
    clear hK K
    try simp only [Pls]
    refine Till.one (i:=12) (by kernel_rfl) rfl (fun K hK=>?_)
    go_simp
    refine hK.out _ _ (fun _=>HS.out _ HB.out) ?_
    clear hK K
    try simp only [Pls]
    refine Till.one (i:=13) (by kernel_rfl) rfl (fun K hK=>?_)
    go_simp
    refine hK.out _ _ (fun _=>HS.out _ HB.out) ?_
    clear hK K
    try simp only [Pls]
    refine Till.one (i:=14) (by kernel_rfl) rfl (fun K hK=>?_)
    go_simp
    refine hK.out _ _ (fun _=>HS.out _ HB.out) ?_
    clear hK K
    try simp only [Pls]
    refine Till.one (i:=15) (by kernel_rfl) rfl (fun K hK=>?_)
    go_simp
    refine hK.out _ _ (fun h=>absurd h (by simp)) ?_
    clear hK K
    try simp only [Pls]
    refine Till.done (by kernel_rfl) ?_ _
    have Hf:=Lh (below_on BW.out HB.out)
    have Hh:=Lh (show whK t0 t1 t2 3=false by show (t0 && t1 && t2)=false; rw [show (t0 && t1)=false from hb]; rfl)
    go_wp2_with fail
    go_roundw
    case rel=>exact ⟨3,3,false,by decide,rfl,by go_num,rfl,Hh.out,Hf.out⟩
    case measure=>simp [intOf]
  ·obtain rfl:z=3:=hzk
   cases b with
   | true=>
    have ui:IsI i0∧IsI i1∧IsI i2:=by
     unfold whK at hb
     rw [T0.out,T1.out,T2.out] at hb
     simpa [and_assoc] using hb
    obtain ⟨rfl,rfl,rfl,rfl⟩:=HY.out.1 ui
    have UI:=Lh ui
    clear ui hb
    have HS:=Lh (fun w' (hb:Below wr.heap.size wr w')=>(⟨(P.out.keep hb).at_ 0,(P.out.keep hb).at_ 1,(P.out.keep hb).at_ 2,(C0.out.keep hb).at_ 0,(C0.out.keep hb).at_ 1,(C0.out.keep hb).at_ 2,(C1.out.keep hb).at_ 0,(C1.out.keep hb).at_ 1,(C1.out.keep hb).at_ 2,(C1.out.keep hb).at_ 3,(Q.out.keep hb).at_ 0,(Q.out.keep hb).at_ 1,(Q.out.keep hb).at_ 2⟩:w'.cell? ⟨pP,0,none⟩=some (.int .i64 n0)∧w'.cell? ⟨pP,1,none⟩=some (.int .i64 n1)∧w'.cell? ⟨pP,2,none⟩=some (.int .i64 n2)∧w'.cell? ⟨w.heap.size,0,none⟩=some (.int .i64 n0)∧w'.cell? ⟨w.heap.size,1,none⟩=some (.int .i64 n1)∧w'.cell? ⟨w.heap.size,2,none⟩=some (.int .i64 n2)∧w'.cell? ⟨w.heap.size+1,0,none⟩=some (.int .i8 m0)∧w'.cell? ⟨w.heap.size+1,1,none⟩=some (.int .i8 m1)∧w'.cell? ⟨w.heap.size+1,2,none⟩=some (.int .i8 m2)∧w'.cell? ⟨w.heap.size+1,3,none⟩=some (.int .u8 d)∧w'.cell? ⟨pQ,0,none⟩=some (.int .i64 i0.num)∧w'.cell? ⟨pQ,1,none⟩=some (.int .i64 i1.num)∧w'.cell? ⟨pQ,2,none⟩=some (.int .i64 i2.num)))
    go_upto_region 10 with fail
    refine Till.begin 36 (fun w'=>w'.cell? ⟨pP,0,none⟩=some (.int .i64 n0)∧w'.cell? ⟨pP,1,none⟩=some (.int .i64 n1)∧w'.cell? ⟨pP,2,none⟩=some (.int .i64 n2)∧w'.cell? ⟨w.heap.size,0,none⟩=some (.int .i64 n0)∧w'.cell? ⟨w.heap.size,1,none⟩=some (.int .i64 n1)∧w'.cell? ⟨w.heap.size,2,none⟩=some (.int .i64 n2)∧w'.cell? ⟨w.heap.size+1,0,none⟩=some (.int .i8 m0)∧w'.cell? ⟨w.heap.size+1,1,none⟩=some (.int .i8 m1)∧w'.cell? ⟨w.heap.size+1,2,none⟩=some (.int .i8 m2)∧w'.cell? ⟨w.heap.size+1,3,none⟩=some (.int .u8 d)∧w'.cell? ⟨pQ,0,none⟩=some (.int .i64 i0.num)∧w'.cell? ⟨pQ,1,none⟩=some (.int .i64 i1.num)∧w'.cell? ⟨pQ,2,none⟩=some (.int .i64 i2.num)) (by kernel_rfl) (HS.out _ (Below.refl _ _).drew) (fun hH=>?_)
    clear hH
    have HB:=Lh (Below.refl wr.heap.size wr).drew
    generalize wr.drew=v0 at HB ⊢
    try simp only [Pls]
    refine Till.one (i:=0) (by kernel_rfl) rfl (fun K hK=>?_)
    go_simp
    refine hK.out _ _ (fun _=>HS.out _ HB.out) ?_
    clear hK K
    try simp only [Pls]
    refine Till.one (i:=1) (by kernel_rfl) rfl (fun K hK=>?_)
    go_simp
    refine hK.out _ _ (fun _=>HS.out _ HB.out) ?_
    clear hK K
    try simp only [Pls]
    refine Till.one (i:=2) (by kernel_rfl) rfl (fun K hK=>?_)
    go_simp
    refine hK.out _ _ (fun _=>HS.out _ HB.out) ?_
    clear hK K
    try simp only [Pls]
    refine Till.tk 3 5 55 (.agg #[.int .i64 n0,.int .i64 n1,.int .i64 n2]) (HS.out _ HB.out) ?_
    try simp only [Act.put,Pls]
    refine Till.tk 4 5 56 (.agg #[.int .i64 n0,.int .i64 n1,.int .i64 n2]) (HS.out _ HB.out) ?_
    try simp only [Act.put,Pls]
    refine Till.one (i:=5) (by kernel_rfl) rfl (fun K hK=>?_)
    go_simp
    refine hK.out _ _ (fun _=>HS.out _ HB.out) ?_
    clear hK K
    try simp only [Pls]
    refine Till.one (i:=6) (by kernel_rfl) rfl (fun K hK=>?_)
    go_simp
    refine hK.out _ _ (fun _=>HS.out _ HB.out) ?_
    clear hK K
    try simp only [Pls]
    refine Till.one (i:=7) (by kernel_rfl) rfl (fun K hK=>?_)
    go_simp
    refine hK.out _ _ (fun _=>HS.out _ HB.out) ?_
    clear hK K
    try simp only [Pls]
    refine Till.tk 8 9 60 (.int .i64 0) (HS.out _ HB.out) ?_
    try simp only [Act.put,Pls]
    refine Till.tk 9 11 61 (.bool true) (HS.out _ HB.out) ?_
    try simp only [Act.put,Pls]
    refine Till.one (i:=10) (by kernel_rfl) rfl (fun K hK=>?_)
    go_simp
    refine hK.out _ _ (fun _=>HS.out _ HB.out) ?_
    clear hK K
    try simp only [Pls]
    refine Till.one (i:=11) (by kernel_rfl) rfl (fun K hK=>?_)
    go_simp
    refine hK.out _ _ (fun _=>HS.out _ HB.out) ?_
    clear hK K
    try simp only [Pls]
    refine Till.one (i:=12) (by kernel_rfl) rfl (fun K hK=>?_)
    go_simp
    refine hK.out _ _ (fun _=>HS.out _ HB.out) ?_
    clear hK K
    try simp only [Pls]
    refine Till.one (i:=13) (by kernel_rfl) rfl (fun K hK=>?_)
    go_simp
    refine hK.out _ _ (fun _=>HS.out _ HB.out) ?_
    clear hK K
    try simp only [Pls]
    refine Till.one (i:=14) (by kernel_rfl) rfl (fun K hK=>?_)
    go_simp
    refine hK.out _ _ (fun _=>HS.out _ HB.out) ?_
    clear hK K
    try simp only [Pls]
    refine Till.one (i:=15) (by kernel_rfl) rfl (fun K hK=>?_)
    go_simp
    refine hK.out _ _ (fun _=>HS.out _ HB.out) ?_
    clear hK K
    try simp only [Pls]
    refine Till.tk 16 17 68 (.agg #[.int .i8 m0,.int .i8 m1,.int .i8 m2,.int .u8 d]) (HS.out _ HB.out) ?_
    try simp only [Act.put,Pls]
    refine Till.tk 18 19 70 (.agg #[.int .i64 i0.num,.int .i64 i1.num,.int .i64 i2.num]) (HS.out _ HB.out) ?_
    try simp only [Act.put,Pls]
    refine Till.one (i:=17) (by kernel_rfl) rfl (fun K hK=>?_)
    go_simp
    refine (HM.out _ (below_on K0.out HB.out)).mono ?_
    rintro e v1 ⟨x0,x1,x2,rfl,hx,g⟩
    replace HB:=Lh (below_on HB.out g)
    have VX:=Lh hx
    clear hx
    unfold vecVal
    clear g
    go_wp2_with fail
    refine hK.out _ _ (fun _=>HS.out _ HB.out) ?_
    clear hK K
    try simp only [Pls]
    refine Till.one (i:=19) (by kernel_rfl) rfl (fun K hK=>?_)
    go_simp
    refine (HT2.out _).mono ?_
    rintro e v2 ⟨rfl,g⟩
    replace HB:=Lh (below_on HB.out g)
    replace VX:=Lh (VX.out.keep g)
    clear g
    go_wp2_with fail
    refine hK.out _ _ (fun _=>HS.out _ HB.out) ?_
    clear hK K
    try simp only [Pls]
    refine Till.one (i:=20) (by kernel_rfl) rfl (fun K hK=>?_)
    go_simp
    refine (HQ.out _ _ _ _ (below_on K0.out HB.out) UI.out VX.out).mono ?_
    rintro e v3 ⟨rfl,g⟩
    replace HB:=Lh (below_on HB.out g)
    clear g
    go_wp2_with fail
    refine hK.out _ _ (fun _=>HS.out _ HB.out) ?_
    clear hK K
    try simp only [Pls]
    refine Till.one (i:=21) (by kernel_rfl) rfl (fun K hK=>?_)
    go_simp
    refine hK.out _ _ (fun _=>HS.out _ HB.out) ?_
    clear hK K
    try simp only [Pls]
    refine Till.one (i:=22) (by kernel_rfl) rfl (fun K hK=>?_)
    go_simp
    refine hK.out _ _ (fun _=>HS.out _ HB.out) ?_
    clear hK K
    try simp only [Pls]
    refine Till.one (i:=23) (by kernel_rfl) rfl (fun K hK=>?_)
    go_simp
    refine hK.out _ _ (fun _=>HS.out _ HB.out) ?_
    clear hK K
    try simp only [Pls]
    refine Till.one (i:=24) (by kernel_rfl) rfl (fun K hK=>?_)
    go_simp
    refine hK.out _ _ (fun _=>HS.out _ HB.out) ?_
    clear hK K
    try simp only [Pls]
    refine Till.one (i:=25) (by kernel_rfl) rfl (fun K hK=>?_)
    go_simp
    refine hK.out _ _ (fun _=>HS.out _ HB.out) ?_
    clear hK K
    try simp only [Pls]
    refine Till.one (i:=26) (by kernel_rfl) rfl (fun K hK=>?_)
    go_simp
    refine hK.out _ _ (fun _=>HS.out _ HB.out) ?_
    clear hK K
    try simp only [Pls]
    refine Till.one (i:=27) (by kernel_rfl) rfl (fun K hK=>?_)
    go_simp
    refine hK.out _ _ (fun _=>HS.out _ HB.out) ?_
    clear hK K
    try simp only [Pls]
    refine Till.one (i:=28) (by kernel_rfl) rfl (fun K hK=>?_)
    go_simp
    refine hK.out _ _ (fun _=>HS.out _ HB.out) ?_
    clear hK K
    try simp only [Pls]
    refine Till.one (i:=29) (by kernel_rfl) rfl (fun K hK=>?_)
    go_simp
    refine hK.out _ _ (fun _=>HS.out _ HB.out) ?_
    clear hK K
    try simp only [Pls]
    refine Till.sk 30 32 82 (HS.out _ HB.out) ?_
    try simp only [Act.put,Pls]
    refine Till.one (i:=31) (by kernel_rfl) rfl (fun K hK=>?_)
    go_simp
    refine hK.out _ _ (fun _=>HS.out _ HB.out) ?_
    clear hK K
    try simp only [Pls]
    refine Till.one (i:=32) (by kernel_rfl) rfl (fun K hK=>?_)
    go_simp
    refine hK.out _ _ (fun _=>HS.out _ HB.out) ?_
    clear hK K
    try simp only [Pls]
    refine Till.one (i:=33) (by kernel_rfl) rfl (fun K hK=>?_)
    go_simp
    refine hK.out _ _ (fun _=>HS.out _ HB.out) ?_
    clear hK K
    try simp only [Pls]
    refine Till.one (i:=34) (by kernel_rfl) rfl (fun K hK=>?_)
    go_simp
    refine hK.out _ _ (fun _=>HS.out _ HB.out) ?_
    clear hK K
    try simp only [Pls]
    refine Till.one (i:=35) (by kernel_rfl) rfl (fun K hK=>?_)
    go_simp
    refine hK.out _ _ (fun _=>HS.out _ HB.out) ?_
    clear hK K
    try simp only [Pls]
    refine Till.one (i:=36) (by kernel_rfl) rfl (fun K hK=>?_)
    go_simp
    refine hK.out _ _ (fun h=>absurd h (by simp)) ?_
    clear hK K
    try simp only [Pls]
    refine Till.done (by kernel_rfl) ?_ _
    replace K0:=Lh (below_on K0.out HB.out)
    go_wp2
    exact bodyPost_ret (v:= .bool true) (by simp [results,Tryz.results4,go_sem]) rfl ⟨rfl,K0.out⟩
   | false=>
    have ui:¬ (IsI i0∧IsI i1∧IsI i2):=fun u=>by
     unfold whK at hb
     rw [T0.out,T1.out,T2.out] at hb
     simp [u.1,u.2.1,u.2.2] at hb
    obtain ⟨rfl,rfl,rfl,rfl⟩:=HY.out.2 ui
    clear ui hb
    have HS:=Lh (fun w' (hb:Below wr.heap.size wr w')=>(⟨(P.out.keep hb).at_ 0,(P.out.keep hb).at_ 1,(P.out.keep hb).at_ 2,(C0.out.keep hb).at_ 0,(C0.out.keep hb).at_ 1,(C0.out.keep hb).at_ 2,(C1.out.keep hb).at_ 0,(C1.out.keep hb).at_ 1,(C1.out.keep hb).at_ 2,(C1.out.keep hb).at_ 3,(Q.out.keep hb).at_ 0,(Q.out.keep hb).at_ 1,(Q.out.keep hb).at_ 2⟩:w'.cell? ⟨pP,0,none⟩=some (.int .i64 n0)∧w'.cell? ⟨pP,1,none⟩=some (.int .i64 n1)∧w'.cell? ⟨pP,2,none⟩=some (.int .i64 n2)∧w'.cell? ⟨w.heap.size,0,none⟩=some (.int .i64 n0)∧w'.cell? ⟨w.heap.size,1,none⟩=some (.int .i64 n1)∧w'.cell? ⟨w.heap.size,2,none⟩=some (.int .i64 n2)∧w'.cell? ⟨w.heap.size+1,0,none⟩=some (.int .i8 m0)∧w'.cell? ⟨w.heap.size+1,1,none⟩=some (.int .i8 m1)∧w'.cell? ⟨w.heap.size+1,2,none⟩=some (.int .i8 m2)∧w'.cell? ⟨w.heap.size+1,3,none⟩=some (.int .u8 d)∧w'.cell? ⟨pQ,0,none⟩=some (.int .i64 0)∧w'.cell? ⟨pQ,1,none⟩=some (.int .i64 0)∧w'.cell? ⟨pQ,2,none⟩=some (.int .i64 0)))
    go_upto_region 10 with fail
    refine Till.begin 36 (fun w'=>w'.cell? ⟨pP,0,none⟩=some (.int .i64 n0)∧w'.cell? ⟨pP,1,none⟩=some (.int .i64 n1)∧w'.cell? ⟨pP,2,none⟩=some (.int .i64 n2)∧w'.cell? ⟨w.heap.size,0,none⟩=some (.int .i64 n0)∧w'.cell? ⟨w.heap.size,1,none⟩=some (.int .i64 n1)∧w'.cell? ⟨w.heap.size,2,none⟩=some (.int .i64 n2)∧w'.cell? ⟨w.heap.size+1,0,none⟩=some (.int .i8 m0)∧w'.cell? ⟨w.heap.size+1,1,none⟩=some (.int .i8 m1)∧w'.cell? ⟨w.heap.size+1,2,none⟩=some (.int .i8 m2)∧w'.cell? ⟨w.heap.size+1,3,none⟩=some (.int .u8 d)∧w'.cell? ⟨pQ,0,none⟩=some (.int .i64 0)∧w'.cell? ⟨pQ,1,none⟩=some (.int .i64 0)∧w'.cell? ⟨pQ,2,none⟩=some (.int .i64 0)) (by kernel_rfl) (HS.out _ (Below.refl _ _).drew) (fun hH=>?_)
    clear hH
    have HB:=Lh (Below.refl wr.heap.size wr).drew
    generalize wr.drew=v0 at HB ⊢
    try simp only [Pls]
    refine Till.one (i:=0) (by kernel_rfl) rfl (fun K hK=>?_)
    go_simp
    refine hK.out _ _ (fun _=>HS.out _ HB.out) ?_
    clear hK K
    try simp only [Pls]
    refine Till.one (i:=1) (by kernel_rfl) rfl (fun K hK=>?_)
    go_simp
    refine hK.out _ _ (fun _=>HS.out _ HB.out) ?_
    clear hK K
    try simp only [Pls]
    refine Till.one (i:=2) (by kernel_rfl) rfl (fun K hK=>?_)
    go_simp
    refine hK.out _ _ (fun _=>HS.out _ HB.out) ?_
    clear hK K
    try simp only [Pls]
    refine Till.tk 3 5 55 (.agg #[.int .i64 n0,.int .i64 n1,.int .i64 n2]) (HS.out _ HB.out) ?_
    try simp only [Act.put,Pls]
    refine Till.tk 4 5 56 (.agg #[.int .i64 n0,.int .i64 n1,.int .i64 n2]) (HS.out _ HB.out) ?_
    try simp only [Act.put,Pls]
    refine Till.one (i:=5) (by kernel_rfl) rfl (fun K hK=>?_)
    go_simp
    refine hK.out _ _ (fun _=>HS.out _ HB.out) ?_
    clear hK K
    try simp only [Pls]
    refine Till.one (i:=6) (by kernel_rfl) rfl (fun K hK=>?_)
    go_simp
    refine hK.out _ _ (fun _=>HS.out _ HB.out) ?_
    clear hK K
    try simp only [Pls]
    refine Till.one (i:=7) (by kernel_rfl) rfl (fun K hK=>?_)
    go_simp
    refine hK.out _ _ (fun _=>HS.out _ HB.out) ?_
    clear hK K
    try simp only [Pls]
    refine Till.tk 8 9 60 (.int .i64 3) (HS.out _ HB.out) ?_
    try simp only [Act.put,Pls]
    refine Till.tk 9 11 61 (.bool false) (HS.out _ HB.out) ?_
    try simp only [Act.put,Pls]
    refine Till.one (i:=10) (by kernel_rfl) rfl (fun K hK=>?_)
    go_simp
    refine hK.out _ _ (fun _=>HS.out _ HB.out) ?_
    clear hK K
    try simp only [Pls]
    refine Till.one (i:=11) (by kernel_rfl) rfl (fun K hK=>?_)
    go_simp
    refine hK.out _ _ (fun _=>HS.out _ HB.out) ?_
    clear hK K
    try simp only [Pls]
    refine Till.one (i:=12) (by kernel_rfl) rfl (fun K hK=>?_)
    go_simp
    refine hK.out _ _ (fun _=>HS.out _ HB.out) ?_
    clear hK K
    try simp only [Pls]
    refine Till.one (i:=13) (by kernel_rfl) rfl (fun K hK=>?_)
    go_simp
    refine hK.out _ _ (fun _=>HS.out _ HB.out) ?_
    clear hK K
    try simp only [Pls]
    refine Till.one (i:=14) (by kernel_rfl) rfl (fun K hK=>?_)
    go_simp
    refine hK.out _ _ (fun _=>HS.out _ HB.out) ?_
    clear hK K
    try simp only [Pls]
    refine Till.one (i:=15) (by kernel_rfl) rfl (fun K hK=>?_)
    go_simp
    refine hK.out _ _ (fun _=>HS.out _ HB.out) ?_
    clear hK K
    try simp only [Pls]
    refine Till.sk 16 17 68 (HS.out _ HB.out) ?_
    try simp only [Act.put,Pls]
    refine Till.sk 17 19 69 (HS.out _ HB.out) ?_
    try simp only [Act.put,Pls]
    refine Till.one (i:=18) (by kernel_rfl) rfl (fun K hK=>?_)
    go_simp
    refine hK.out _ _ (fun _=>HS.out _ HB.out) ?_
    clear hK K
    try simp only [Pls]
    refine Till.one (i:=19) (by kernel_rfl) rfl (fun K hK=>?_)
    go_simp
    refine hK.out _ _ (fun _=>HS.out _ HB.out) ?_
    clear hK K
    try simp only [Pls]
    refine Till.one (i:=20) (by kernel_rfl) rfl (fun K hK=>?_)
    go_simp
    refine hK.out _ _ (fun _=>HS.out _ HB.out) ?_
    clear hK K
    try simp only [Pls]
    refine Till.one (i:=21) (by kernel_rfl) rfl (fun K hK=>?_)
    go_simp
    refine hK.out _ _ (fun _=>HS.out _ HB.out) ?_
    clear hK K
    try simp only [Pls]
    refine Till.one (i:=22) (by kernel_rfl) rfl (fun K hK=>?_)
    go_simp
    refine hK.out _ _ (fun _=>HS.out _ HB.out) ?_
    clear hK K
    try simp only [Pls]
    refine Till.one (i:=23) (by kernel_rfl) rfl (fun K hK=>?_)
    go_simp
    refine hK.out _ _ (fun _=>HS.out _ HB.out) ?_
    clear hK K
    try simp only [Pls]
    refine Till.one (i:=24) (by kernel_rfl) rfl (fun K hK=>?_)
    go_simp
    refine hK.out _ _ (fun _=>HS.out _ HB.out) ?_
    clear hK K
    try simp only [Pls]
    refine Till.one (i:=25) (by kernel_rfl) rfl (fun K hK=>?_)
    go_simp
    refine hK.out _ _ (fun _=>HS.out _ HB.out) ?_
    clear hK K
    try simp only [Pls]
    refine Till.one (i:=26) (by kernel_rfl) rfl (fun K hK=>?_)
    go_simp
    refine hK.out _ _ (fun _=>HS.out _ HB.out) ?_
    clear hK K
    try simp only [Pls]
    refine Till.one (i:=27) (by kernel_rfl) rfl (fun K hK=>?_)
    go_simp
    refine hK.out _ _ (fun _=>HS.out _ HB.out) ?_
    clear hK K
    try simp only [Pls]
    refine Till.one (i:=28) (by kernel_rfl) rfl (fun K hK=>?_)
    go_simp
    refine hK.out _ _ (fun _=>HS.out _ HB.out) ?_
    clear hK K
    try simp only [Pls]
    refine Till.one (i:=29) (by kernel_rfl) rfl (fun K hK=>?_)
    go_simp
    refine hK.out _ _ (fun _=>HS.out _ HB.out) ?_
    clear hK K
    try simp only [Pls]
    refine Till.tk 30 32 82 (.agg #[.int .i64 0,.int .i64 0,.int .i64 0]) (HS.out _ HB.out) ?_
    try simp only [Act.put,Pls]
    refine Till.one (i:=31) (by kernel_rfl) rfl (fun K hK=>?_)
    go_simp
    refine hK.out _ _ (fun _=>HS.out _ HB.out) ?_
    clear hK K
    try simp only [Pls]
    refine Till.one (i:=32) (by kernel_rfl) rfl (fun K hK=>?_)
    go_simp
    refine hK.out _ _ (fun _=>HS.out _ HB.out) ?_
    clear hK K
    try simp only [Pls]
    refine Till.one (i:=33) (by kernel_rfl) rfl (fun K hK=>?_)
    go_simp
    refine hK.out _ _ (fun _=>HS.out _ HB.out) ?_
    clear hK K
    try simp only [Pls]
    refine Till.one (i:=34) (by kernel_rfl) rfl (fun K hK=>?_)
    go_simp
    refine hK.out _ _ (fun _=>HS.out _ HB.out) ?_
    clear hK K
    try simp only [Pls]
    refine Till.one (i:=35) (by kernel_rfl) rfl (fun K hK=>?_)
    go_simp
    refine hK.out _ _ (fun _=>HS.out _ HB.out) ?_
    clear hK K
    try simp only [Pls]
    refine Till.one (i:=36) (by kernel_rfl) rfl (fun K hK=>?_)
    go_simp
    refine hK.out _ _ (fun h=>absurd h (by simp)) ?_
    clear hK K
    try simp only [Pls]
    refine Till.done (by kernel_rfl) ?_ _
    replace K0:=Lh (below_on K0.out HB.out)
    go_wp2
    exact bodyPost_ret (v:= .bool true) (by simp [results,Tryz.results4,go_sem]) rfl ⟨rfl,K0.out⟩
end Go.Proofs.YtekhdklbfincpaaGreatDoor
namespace Go.Proofs.YtekhdklbfincpaaGreatDoor
open Go.ChangeShapes Go.WideShapes Go.ChangeAt Go.RowKit
theorem wf_i64 {n:Int} (h:(Lit.int .i64 n).wf=true):I64 n:=by
 simp [Lit.wf,IntKind.min,IntKind.max,IntKind.signed,IntKind.bits] at h
 exact ⟨by omega,by omega⟩
end Go.Proofs.YtekhdklbfincpaaGreatDoor
namespace Go.Proofs.YtekhdklbfincpaaGreatDoor
open Go.ChangeShapes Go.WideShapes Go.ChangeAt Go.RowKit
theorem cells40:Tryz.prog.cellsOf 40=3:=by kernel_rfl
theorem cells3:Tryz.prog.cellsOf 3=1:=by kernel_rfl
section
variable {H:Type} {enc:TypeId × Value→H} {W:World} {base:Nat} {spare:Nat→Bool} {held:Bool}
theorem open_vector {r:Reach} {b0:Nat} {v:Value} {d:DataW H} {p:List MemPlace} (hv:Value.okWide Tryz.prog W r b0 40 v) (h:DataW.Trod enc Tryz.prog W base spare held 40 v d p) :
  ∃ n0 n1 n2:Int,v= .agg #[.int .i64 n0,.int .i64 n1,.int .i64 n2]∧I64 n0∧I64 n1∧I64 n2:=by
 simp only [Value.okWide,Tryz.underlying40] at hv
 obtain ⟨cs,rfl,hsz,_⟩:=hv
 rw [cells40] at hsz
 obtain ⟨l⟩:=cs
 obtain ⟨a,b,c,rfl⟩:=list3 (by simpa using hsz)
 obtain ⟨fuel,hf⟩:=h
 obtain ⟨y0,y1,y2,m,_,g0,g1,g2⟩:=trod_array3 Tryz.underlying40 cells3 (by simpa [Value.cells] using hf)
 obtain ⟨n0,e0,_,w0⟩:=DataW.trod_int Tryz.underlying3 g0
 obtain ⟨n1,e1,_,w1⟩:=DataW.trod_int Tryz.underlying3 g1
 obtain ⟨n2,e2,_,w2⟩:=DataW.trod_int Tryz.underlying3 g2
 simp at e0 e1 e2
 subst e0 e1 e2
 exact ⟨n0,n1,n2,rfl,wf_i64 w0,wf_i64 w1,wf_i64 w2⟩
end
end Go.Proofs.YtekhdklbfincpaaGreatDoor
