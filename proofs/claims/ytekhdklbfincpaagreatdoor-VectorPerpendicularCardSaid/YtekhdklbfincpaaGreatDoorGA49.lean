/- GA49: LawVPerp -/
import Derived.Test.YtekhdklbfincpaaGreatDoorGA48
set_option maxRecDepth 100000
set_option maxHeartbeats 16000000
namespace Go.Proofs.YtekhdklbfincpaaGreatDoor
open Go.RowKit
theorem vectorPerpendicular_walk (n0 n1 n2 d r m0 m1 m2 e f:Int) (w:World) (h:Sm n0 n1 n2 d r) (h':Sm m0 m1 m2 e f) (hg:Good w) :
  Calls Tryz.prog 11 #[smV n0 n1 n2 d,smV m0 m1 m2 e] w fun E w'=>E= .returned (.bool true)∧Below w.heap.size w w':=by
 have Hw:=Lh (fun w' (hb:Below w.heap.size w w')=>hg.below hb)
 have kb:=((Below.refl w.heap.size w).alloc (Nat.le_refl _) (.cells #[.int .i8 n0,.int .i8 n1,.int .i8 n2,.int .u8 d] 44)).alloc (by simp) (.cells #[.int .i8 m0,.int .i8 m1,.int .i8 m2,.int .u8 e] 44)
 have C0:=(Cells.new w #[.int .i8 n0,.int .i8 n1,.int .i8 n2,.int .u8 d] 44).keep ((Below.refl _ _).alloc (Nat.le_refl _) (.cells #[.int .i8 m0,.int .i8 m1,.int .i8 m2,.int .u8 e] 44))
 have C1:=Cells.new (w.alloc (.cells #[.int .i8 n0,.int .i8 n1,.int .i8 n2,.int .u8 d] 44)) #[.int .i8 m0,.int .i8 m1,.int .i8 m2,.int .u8 e] 44
 simp only [World.size_alloc] at C1
 have fa:Few3 4 (smallQ n0 r) (smallQ n1 r) (smallQ n2 r):=⟨(small_ok h.x0 h.x1 h.r0 h.r1).2.2,(small_ok h.y0 h.y1 h.r0 h.r1).2.2,(small_ok h.z0 h.z1 h.r0 h.r1).2.2⟩
 have fb:Few3 4 (smallQ m0 f) (smallQ m1 f) (smallQ m2 f):=⟨(small_ok h'.x0 h'.x1 h'.r0 h'.r1).2.2,(small_ok h'.y0 h'.y1 h'.r0 h'.r1).2.2,(small_ok h'.z0 h'.z1 h'.r0 h'.r1).2.2⟩
 have HM1:=Lh (fun w' (hb:Below w.heap.size w w')=>made_any n0 n1 n2 d r w' h (hg.below hb))
 have HM2:=Lh (fun w' (hb:Below w.heap.size w w')=>made_any m0 m1 m2 e f w' h' (hg.below hb))
 obtain ⟨i0,hi0⟩:∃ q,smallQ n0 r=q:=⟨_,rfl⟩
 obtain ⟨j0,hj0⟩:∃ q,smallQ m0 f=q:=⟨_,rfl⟩
 obtain ⟨i1,hi1⟩:∃ q,smallQ n1 r=q:=⟨_,rfl⟩
 obtain ⟨j1,hj1⟩:∃ q,smallQ m1 f=q:=⟨_,rfl⟩
 obtain ⟨i2,hi2⟩:∃ q,smallQ n2 r=q:=⟨_,rfl⟩
 obtain ⟨j2,hj2⟩:∃ q,smallQ m2 f=q:=⟨_,rfl⟩
 rw [hi0,hi1,hi2] at HM1 fa
 rw [hj0,hj1,hj2] at HM2 fb
 have FA:=Lh fa
 have FB:=Lh fb
 obtain ⟨W,hW⟩:∃ u,(w.alloc (.cells #[.int .i8 n0,.int .i8 n1,.int .i8 n2,.int .u8 d] 44)).alloc (.cells #[.int .i8 m0,.int .i8 m1,.int .i8 m2,.int .u8 e] 44)=u:=⟨_,rfl⟩
 rw [hW] at kb C0 C1
 have C0:=Lh C0
 have C1:=Lh C1
 have K0:=Lh kb
 have HK:=Lh (known3_true W (hg.below kb))
 clear h h' hg kb fa fb hi0 hi1 hi2 hj0 hj1 hj2
 unfold smV
 go_enter Tryz.func11,Tryz.ntmps11
 go_wp2_with fail
 try simp only [hW]
 refine HK.out.mono ?_
 rintro E w1 ⟨rfl,g⟩
 have C0:=Lh (C0.out.keep g)
 have C1:=Lh (C1.out.keep g)
 have K0:=Lh (below_on K0.out g)
 have HM1:=Lh (fun v (hb:Below w1.heap.size w1 v)=>HM1.out v (below_on K0.out hb))
 have HM2:=Lh (fun v (hb:Below w1.heap.size w1 v)=>HM2.out v (below_on K0.out hb))
 have HS:=Lh (fun w' (hb:Below w1.heap.size w1 w')=>(⟨(C0.out.keep hb).at_ 0,(C0.out.keep hb).at_ 1,(C0.out.keep hb).at_ 2,(C0.out.keep hb).at_ 3,(C1.out.keep hb).at_ 0,(C1.out.keep hb).at_ 1,(C1.out.keep hb).at_ 2,(C1.out.keep hb).at_ 3⟩:w'.cell? ⟨w.heap.size,0,none⟩=some (.int .i8 n0)∧w'.cell? ⟨w.heap.size,1,none⟩=some (.int .i8 n1)∧w'.cell? ⟨w.heap.size,2,none⟩=some (.int .i8 n2)∧w'.cell? ⟨w.heap.size,3,none⟩=some (.int .u8 d)∧w'.cell? ⟨w.heap.size+1,0,none⟩=some (.int .i8 m0)∧w'.cell? ⟨w.heap.size+1,1,none⟩=some (.int .i8 m1)∧w'.cell? ⟨w.heap.size+1,2,none⟩=some (.int .i8 m2)∧w'.cell? ⟨w.heap.size+1,3,none⟩=some (.int .u8 e)))
 clear hW HK g
 go_upto_region 3 with fail
 refine Till.begin 6 (fun w'=>w'.cell? ⟨w.heap.size,0,none⟩=some (.int .i8 n0)∧w'.cell? ⟨w.heap.size,1,none⟩=some (.int .i8 n1)∧w'.cell? ⟨w.heap.size,2,none⟩=some (.int .i8 n2)∧w'.cell? ⟨w.heap.size,3,none⟩=some (.int .u8 d)∧w'.cell? ⟨w.heap.size+1,0,none⟩=some (.int .i8 m0)∧w'.cell? ⟨w.heap.size+1,1,none⟩=some (.int .i8 m1)∧w'.cell? ⟨w.heap.size+1,2,none⟩=some (.int .i8 m2)∧w'.cell? ⟨w.heap.size+1,3,none⟩=some (.int .u8 e)) (by kernel_rfl) (HS.out _ (Below.refl _ _).drew) (fun hH=>?_)
 refine Till.tk 0 1 10 (.agg #[.int .i8 n0,.int .i8 n1,.int .i8 n2,.int .u8 d]) hH ?_
 try simp only [Act.put,Pls]
 refine Till.tk 2 3 12 (.agg #[.int .i8 m0,.int .i8 m1,.int .i8 m2,.int .u8 e]) hH ?_
 try simp only [Act.put,Pls]
 clear hH
 have B0:=Lh (Below.refl w1.heap.size w1).drew
 generalize w1.drew=v0 at B0 ⊢
 refine Till.phaseP [1,3,4,5] #[true,true,true,true,true,true,false,false] 2 (fun a0 dn an v=>∃ t1 t3 t4 t5:Value,an=puts a0 [(11,t1),(13,t3),(5,t4),(6,t5)]∧Below w1.heap.size w1 v∧(dn 1=true→VecAt v t1 (i0) (i1) (i2))∧(dn 3=true→VecAt v t3 (j0) (j1) (j2))∧(dn 4=true→PtrV w1.heap.size v t4)∧(dn 5=true→PtrV w1.heap.size v t5)∧(dn 4=true→dn 5=true→t4≠t5)) rfl (by kernel_rfl) (by rintro dn an v ⟨_,_,_,_,rfl,hB,_⟩; exact HS.out _ hB) ⟨_,_,_,_,rfl,B0.out,(fun h=>absurd h (by decide)),(fun h=>absurd h (by decide)),(fun h=>absurd h (by decide)),(fun h=>absurd h (by decide)),(fun h=>absurd h (by decide))⟩ ⟨⟨_,rfl,?_⟩,⟨_,rfl,?_⟩,⟨_,rfl,?_⟩,⟨_,rfl,?_⟩,trivial⟩ ?_
 ·rintro dn an v ⟨t1,t3,t4,t5,rfl,hB,F1,F3,F4,F5,D4_5⟩ hi ha K hK
  replace hB:=Lh hB
  replace F1:=Lh F1
  replace F3:=Lh F3
  replace F4:=Lh F4
  replace F5:=Lh F5
  replace D4_5:=Lh D4_5
  clear ha
  refine Pent.mk ?_
  try simp only [puts,Act.put,Pls]
  go_simp
  refine (HM1.out _ hB.out).mono ?_
  rintro e v1 ⟨x1,y1,z1,rfl,hx,g⟩
  unfold vecVal
  replace hx:=Lh hx
  replace g:=Lh g
  go_wp2_with fail
  exact hK.out _ _ ⟨.agg #[.int .i64 x1.1,.pointer x1.2.1,.int .i64 x1.2.2.1,.pointer x1.2.2.2,.int .i64 y1.1,.pointer y1.2.1,.int .i64 y1.2.2.1,.pointer y1.2.2.2,.int .i64 z1.1,.pointer z1.2.1,.int .i64 z1.2.2.1,.pointer z1.2.2.2],t3,t4,t5,(by kernel_rfl),below_on hB.out g.out,fun _=>⟨x1,y1,z1,rfl,hx.out⟩,fun h=>(F3.out h).keep g.out,fun h=>(F4.out h).keep g.out,fun h=>(F5.out h).keep g.out,fun h h2=>D4_5.out h h2⟩
 ·rintro dn an v ⟨t1,t3,t4,t5,rfl,hB,F1,F3,F4,F5,D4_5⟩ hi ha K hK
  obtain ⟨x1,y1,z1,rfl,I1⟩:=F1 (ha 1 (by kernel_rfl))
  replace hB:=Lh hB
  replace F1:=Lh F1
  replace F3:=Lh F3
  replace F4:=Lh F4
  replace F5:=Lh F5
  replace I1:=Lh I1
  replace D4_5:=Lh D4_5
  clear ha
  refine Pent.mk ?_
  try simp only [puts,Act.put,Pls]
  go_simp
  refine (HM2.out _ hB.out).mono ?_
  rintro e v1 ⟨x3,y3,z3,rfl,hx,g⟩
  unfold vecVal
  replace hx:=Lh hx
  replace g:=Lh g
  go_wp2_with fail
  exact hK.out _ _ ⟨.agg #[.int .i64 x1.1,.pointer x1.2.1,.int .i64 x1.2.2.1,.pointer x1.2.2.2,.int .i64 y1.1,.pointer y1.2.1,.int .i64 y1.2.2.1,.pointer y1.2.2.2,.int .i64 z1.1,.pointer z1.2.1,.int .i64 z1.2.2.1,.pointer z1.2.2.2],.agg #[.int .i64 x3.1,.pointer x3.2.1,.int .i64 x3.2.2.1,.pointer x3.2.2.2,.int .i64 y3.1,.pointer y3.2.1,.int .i64 y3.2.2.1,.pointer y3.2.2.2,.int .i64 z3.1,.pointer z3.2.1,.int .i64 z3.2.2.1,.pointer z3.2.2.2],t4,t5,(by kernel_rfl),below_on hB.out g.out,fun h=>(F1.out h).keep g.out,fun _=>⟨x3,y3,z3,rfl,hx.out⟩,fun h=>(F4.out h).keep g.out,fun h=>(F5.out h).keep g.out,fun h h2=>D4_5.out h h2⟩
 ·rintro dn an v ⟨t1,t3,t4,t5,rfl,hB,F1,F3,F4,F5,D4_5⟩ hi ha K hK
  replace hB:=Lh hB
  replace F1:=Lh F1
  replace F3:=Lh F3
  replace F4:=Lh F4
  replace F5:=Lh F5
  replace D4_5:=Lh D4_5
  clear ha
  refine Pent.mk ?_
  try simp only [puts,Act.put,Pls]
  have g:=Lh ((Below.refl v.heap.size v).alloc (Nat.le_refl _) (.cells #[.int .i64 0,.pointer none,.int .i64 0,.pointer none,.int .i64 0,.pointer none,.int .i64 0,.pointer none,.int .i64 0,.pointer none,.int .i64 0,.pointer none] 32))
  go_simp
  exact hK.out _ _ ⟨t1,t3,.pointer (some ⟨v.heap.size,0,none⟩),t5,(by kernel_rfl),below_on hB.out g.out,fun h=>(F1.out h).keep g.out,fun h=>(F3.out h).keep g.out,fun _=>⟨v.heap.size,rfl,hB.out.size,Cells.new v _ _⟩,fun h=>(F5.out h).keep g.out,fun _ h=>((F5.out h).ne).symm⟩
 ·rintro dn an v ⟨t1,t3,t4,t5,rfl,hB,F1,F3,F4,F5,D4_5⟩ hi ha K hK
  replace hB:=Lh hB
  replace F1:=Lh F1
  replace F3:=Lh F3
  replace F4:=Lh F4
  replace F5:=Lh F5
  replace D4_5:=Lh D4_5
  clear ha
  refine Pent.mk ?_
  try simp only [puts,Act.put,Pls]
  have g:=Lh ((Below.refl v.heap.size v).alloc (Nat.le_refl _) (.cells #[.int .i64 0,.pointer none,.int .i64 0,.pointer none,.int .i64 0,.pointer none,.int .i64 0,.pointer none,.int .i64 0,.pointer none,.int .i64 0,.pointer none] 32))
  go_simp
  exact hK.out _ _ ⟨t1,t3,t4,.pointer (some ⟨v.heap.size,0,none⟩),(by kernel_rfl),below_on hB.out g.out,fun h=>(F1.out h).keep g.out,fun h=>(F3.out h).keep g.out,fun h=>(F4.out h).keep g.out,fun _=>⟨v.heap.size,rfl,hB.out.size,Cells.new v _ _⟩,fun h _=>(F4.out h).ne⟩
 ·rintro dn an v ⟨t1,t3,t4,t5,rfl,hB,F1,F3,F4,F5,D4_5⟩ hE
  obtain ⟨x1,y1,z1,rfl,I1⟩:=F1 (hE 1 (by decide))
  obtain ⟨x3,y3,z3,rfl,I3⟩:=F3 (hE 3 (by decide))
  obtain ⟨p4,rfl,le4,N4⟩:=F4 (hE 4 (by decide))
  obtain ⟨p5,rfl,le5,N5⟩:=F5 (hE 5 (by decide))
  have ne4_5:p4≠p5:=fun h=>D4_5 (hE 4 (by decide)) (hE 5 (by decide)) (by rw [h])
  have ne5_4:p5≠p4:=Ne.symm ne4_5
  clear hE F1 F3 F4 F5 D4_5
  replace hB:=Lh hB
  replace I1:=Lh I1
  replace I3:=Lh I3
  replace N4:=Lh N4
  replace N5:=Lh N5
  refine Pent.mk ?_
  try simp only [puts,Act.put,Pls]
  unfold vecVal
  obtain ⟨k4_0,k4_1,k4_2,k4_3,k4_4,k4_5,k4_6,k4_7,k4_8,k4_9,k4_10,k4_11⟩:=Cells.q12 (p:=p4) N4.out
  obtain ⟨f4_0,f4_1,f4_2,f4_3,f4_4,f4_5,f4_6,f4_7,f4_8,f4_9,f4_10,f4_11⟩:=Cells.z12 (p:=p4) N4.out
  obtain ⟨k5_0,k5_1,k5_2,k5_3,k5_4,k5_5,k5_6,k5_7,k5_8,k5_9,k5_10,k5_11⟩:=Cells.q12 (p:=p5) N5.out
  obtain ⟨f5_0,f5_1,f5_2,f5_3,f5_4,f5_5,f5_6,f5_7,f5_8,f5_9,f5_10,f5_11⟩:=Cells.z12 (p:=p5) N5.out
  refine Till.one (i:=6) (by kernel_rfl) rfl (fun K hK=>?_)
  go_simp
  refine hK.out _ _ (fun h=>absurd h (by simp)) ?_
  clear hK K
  try simp only [Pls]
  refine Till.one (i:=7) (by kernel_rfl) rfl (fun K hK=>?_)
  go_simp
  refine hK.out _ _ (fun h=>absurd h (by simp)) ?_
  clear hK K
  try simp only [Pls]
  refine Till.done (by kernel_rfl) ?_ _
  have hA0:=VarV.put N4.out I1.out
  have hN:=N5.out.same ne5_4 (put12_heap v p4 x1 y1 z1).1 (put12_heap v p4 x1 y1 z1).2
  have hB0:=VarV.put hN (I3.out.wrote N4.out (put12_heap v p4 x1 y1 z1).1 (put12_heap v p4 x1 y1 z1).2)
  have hA:=hA0.other hN ne4_5 x3 y3 z3
  have hK:=below_put12 (below_put12 hB.out le4 x1 y1 z1) le5 x3 y3 z3
  obtain ⟨W3,hW3⟩:∃ u,put12 (put12 v p4 x1 y1 z1) p5 x3 y3 z3=u:=⟨_,rfl⟩
  rw [hW3] at hA hB0 hK
  unfold put12 at hW3
  have A:=Lh hA
  have B:=Lh hB0
  replace K0:=Lh (below_on K0.out hK)
  clear hA hA0 hN hB0 hK N4 N5 I1 I3 hB HS HM1 HM2 k4_0 f4_0 k4_1 f4_1 k4_2 f4_2 k4_3 f4_3 k4_4 f4_4 k4_5 f4_5 k4_6 f4_6 k4_7 f4_7 k4_8 f4_8 k4_9 f4_9 k4_10 f4_10 k4_11 f4_11 k5_0 f5_0 k5_1 f5_1 k5_2 f5_2 k5_3 f5_3 k5_4 f5_4 k5_5 f5_5 k5_6 f5_6 k5_7 f5_7 k5_8 f5_8 k5_9 f5_9 k5_10 f5_10 k5_11 f5_11
  generalize p4=pA at *
  generalize p5=pB at *
  obtain ⟨Ac0,Ac1,Ac2,Ac3,Ac4,Ac5,Ac6,Ac7,Ac8,Ac9,Ac10,Ac11⟩:=Cells.r12 (p:=pA) A.out.cells
  obtain ⟨Bc0,Bc1,Bc2,Bc3,Bc4,Bc5,Bc6,Bc7,Bc8,Bc9,Bc10,Bc11⟩:=Cells.r12 (p:=pB) B.out.cells
  have HC:=Lh (vcross_any x1 y1 z1 x3 y3 z3 i0 i1 i2 j0 j1 j2 4 4 W3 A.out.vec B.out.vec FA.out FB.out (by decide) (Hw.out _ K0.out))
  go_wp2_with fail
  try simp only [hW3]
  refine (HC.out).mono ?_
  rintro e w4 ⟨c0,c1,c2,rfl,hc,g⟩
  replace A:=Lh (A.out.keep g)
  replace B:=Lh (B.out.keep g)
  replace K0:=Lh (below_on K0.out g)
  clear Ac0 Ac1 Ac2 Ac3 Ac4 Ac5 Ac6 Ac7 Ac8 Ac9 Ac10 Ac11 Bc0 Bc1 Bc2 Bc3 Bc4 Bc5 Bc6 Bc7 Bc8 Bc9 Bc10 Bc11
  clear hW3 HC
  unfold vecVal
  have kv:=(Below.refl w4.heap.size w4).alloc (Nat.le_refl _) (.cells #[.int .i64 c0.1,.pointer c0.2.1,.int .i64 c0.2.2.1,.pointer c0.2.2.2,.int .i64 c1.1,.pointer c1.2.1,.int .i64 c1.2.2.1,.pointer c1.2.2.2,.int .i64 c2.1,.pointer c2.2.1,.int .i64 c2.2.2.1,.pointer c2.2.2.2] 32)
  have hV:=VarV.new hc
  replace A:=Lh (A.out.keep kv)
  replace B:=Lh (B.out.keep kv)
  replace K0:=Lh (below_on K0.out kv)
  obtain ⟨pC,hpC⟩:∃ p,w4.heap.size=p:=⟨_,rfl⟩
  obtain ⟨W4,hW4⟩:∃ u,w4.alloc (.cells #[.int .i64 c0.1,.pointer c0.2.1,.int .i64 c0.2.2.1,.pointer c0.2.2.2,.int .i64 c1.1,.pointer c1.2.1,.int .i64 c1.2.2.1,.pointer c1.2.2.2,.int .i64 c2.1,.pointer c2.2.1,.int .i64 c2.2.2.1,.pointer c2.2.2.2] 32)=u:=⟨_,rfl⟩
  rw [hW4] at hV K0 A B
  rw [hpC] at hV
  have C:=Lh hV
  clear kv hV hc g
  obtain ⟨l0,hl0⟩:∃ q,i1*j2 - i2*j1=q:=⟨_,rfl⟩
  obtain ⟨l1,hl1⟩:∃ q,i2*j0 - i0*j2=q:=⟨_,rfl⟩
  obtain ⟨l2,hl2⟩:∃ q,i0*j1 - i1*j0=q:=⟨_,rfl⟩
  rw [hl0,hl1,hl2] at C
  have FC:Few3 17 l0 l1 l2:=by rw [← hl0,← hl1,← hl2]; exact FA.out.cross FB.out
  have e1:i0*l0+i1*l1+i2*l2=0:=by rw [← hl0,← hl1,← hl2]; grind
  have e2:j0*l0+j1*l1+j2*l2=0:=by rw [← hl0,← hl1,← hl2]; grind
  have e3:cmpV (j1*i2 - j2*i1) (j2*i0 - j0*i2) (j0*i1 - j1*i0) (0 - l0) (0 - l1) (0 - l2)=0:=cmpV_same (by rw [← hl0]; grind) (by rw [← hl1]; grind) (by rw [← hl2]; grind)
  have HD1:=fun v (hb:Below W4.heap.size W4 v)=>vdot_any x1 y1 z1 c0 c1 c2 i0 i1 i2 l0 l1 l2 4 17 v (A.out.vec.keep hb) (C.out.vec.keep hb) FA.out FC (by decide) (Hw.out _ (below_on K0.out hb))
  rw [e1] at HD1
  have HD2:=fun v (hb:Below W4.heap.size W4 v)=>vdot_any x3 y3 z3 c0 c1 c2 j0 j1 j2 l0 l1 l2 4 17 v (B.out.vec.keep hb) (C.out.vec.keep hb) FB.out FC (by decide) (Hw.out _ (below_on K0.out hb))
  rw [e2] at HD2
  have HG:=Lh (fun a P b Q v (hr:RatV v a P b Q 0)=>(show Calls Tryz.prog 57 #[.agg #[.int .i64 a,.pointer P,.int .i64 b,.pointer Q]] v (fun e w'=>e= .returned (.int .i64 0)∧Below v.heap.size v w') from by have h:=rsign_any a P b Q 0 v hr; exact h))
  have HX:=Lh (fun v (hb:Below W4.heap.size W4 v)=>vcross_any x3 y3 z3 x1 y1 z1 j0 j1 j2 i0 i1 i2 4 4 v (B.out.vec.keep hb) (A.out.vec.keep hb) FB.out FA.out (by decide) (Hw.out _ (below_on K0.out hb)))
  have HN:=Lh (fun v (hb:Below W4.heap.size W4 v)=>vneg_any c0 c1 c2 l0 l1 l2 v (C.out.vec.keep hb) (FC.mid (by decide)) (Hw.out _ (below_on K0.out hb)))
  have HE:=Lh (fun (g0 g1 g2 h0 h1 h2:R4) v (hx:VecV v g0 g1 g2 (j1*i2 - j2*i1) (j2*i0 - j0*i2) (j0*i1 - j1*i0)) (hy:VecV v h0 h1 h2 (0 - l0) (0 - l1) (0 - l2))=>(show Calls Tryz.prog 44 #[vecVal g0 g1 g2,vecVal h0 h1 h2] v (fun e w'=>e= .returned (.bool true)∧Below v.heap.size v w') from by
   have h:=veq_any g0 g1 g2 h0 h1 h2 _ _ _ _ _ _ v hx hy ((FB.out.cross FA.out).mid (by decide)) ⟨((few0.sub FC.x).mid (by decide)),((few0.sub FC.y).mid (by decide)),((few0.sub FC.z).mid (by decide))⟩
   rw [e3] at h
   exact h))
  obtain ⟨z1',hz1⟩:∃ z,zeroV i0 i1 i2=z:=⟨_,rfl⟩
  obtain ⟨z2',hz2⟩:∃ z,zeroV j0 j1 j2=z:=⟨_,rfl⟩
  obtain ⟨z3',hz3⟩:∃ z,zeroV l0 l1 l2=z:=⟨_,rfl⟩
  have HZ1:=Lh (fun v (hb:Below W4.heap.size W4 v)=>(show Calls Tryz.prog 42 #[vecVal x1 y1 z1] v (fun e w'=>e= .returned (.bool z1')∧Below v.heap.size v w') from hz1 ▸ vzero_any x1 y1 z1 i0 i1 i2 v (A.out.vec.keep hb) (FA.out.mid (by decide))))
  have HZ2:=Lh (fun v (hb:Below W4.heap.size W4 v)=>(show Calls Tryz.prog 42 #[vecVal x3 y3 z3] v (fun e w'=>e= .returned (.bool z2')∧Below v.heap.size v w') from hz2 ▸ vzero_any x3 y3 z3 j0 j1 j2 v (B.out.vec.keep hb) (FB.out.mid (by decide))))
  have HZ3:=Lh (fun v (hb:Below W4.heap.size W4 v)=>(show Calls Tryz.prog 42 #[vecVal c0 c1 c2] v (fun e w'=>e= .returned (.bool z3')∧Below v.heap.size v w') from hz3 ▸ vzero_any c0 c1 c2 l0 l1 l2 v (C.out.vec.keep hb) (FC.mid (by decide))))
  have HP:=Lh (fun v (hb:Below W4.heap.size W4 v)=>(show z1'=false→z2'=false→Calls Tryz.prog 49 #[vecVal x1 y1 z1,vecVal x3 y3 z3] v (fun e w'=>e= .returned (.bool z3')∧Below v.heap.size v w') from fun u1 u2=>by
   have h:=vpar_any x1 y1 z1 x3 y3 z3 i0 i1 i2 j0 j1 j2 4 4 v (A.out.vec.keep hb) (B.out.vec.keep hb) FA.out FB.out (by decide) (Hw.out _ (below_on K0.out hb))
   unfold parV at h
   rw [hl0,hl1,hl2,hz1,hz2,hz3,u1,u2] at h
   exact h))
  have Z1:=Lh (show z1'=true→z3'=true from fun u=>by
   obtain ⟨u0,u1,u2⟩:=zeroV_iff.1 (hz1.trans u)
   rw [← hz3,← hl0,← hl1,← hl2,u0,u1,u2]
   exact zeroV_iff.2 ⟨by grind,by grind,by grind⟩)
  have Z2:=Lh (show z2'=true→z3'=true from fun u=>by
   obtain ⟨u0,u1,u2⟩:=zeroV_iff.1 (hz2.trans u)
   rw [← hz3,← hl0,← hl1,← hl2,u0,u1,u2]
   exact zeroV_iff.2 ⟨by grind,by grind,by grind⟩)
  replace HD1:=Lh HD1
  replace HD2:=Lh HD2
  clear hl0 hl1 hl2 e1 e2 e3 FC hz1 hz2 hz3 FA FB
  have HS:=Lh (fun w' (hb:Below W4.heap.size W4 w')=>(⟨(A.out.cells.keep hb).at_ 0,(A.out.cells.keep hb).at_ 1,(A.out.cells.keep hb).at_ 2,(A.out.cells.keep hb).at_ 3,(A.out.cells.keep hb).at_ 4,(A.out.cells.keep hb).at_ 5,(A.out.cells.keep hb).at_ 6,(A.out.cells.keep hb).at_ 7,(A.out.cells.keep hb).at_ 8,(A.out.cells.keep hb).at_ 9,(A.out.cells.keep hb).at_ 10,(A.out.cells.keep hb).at_ 11,(B.out.cells.keep hb).at_ 0,(B.out.cells.keep hb).at_ 1,(B.out.cells.keep hb).at_ 2,(B.out.cells.keep hb).at_ 3,(B.out.cells.keep hb).at_ 4,(B.out.cells.keep hb).at_ 5,(B.out.cells.keep hb).at_ 6,(B.out.cells.keep hb).at_ 7,(B.out.cells.keep hb).at_ 8,(B.out.cells.keep hb).at_ 9,(B.out.cells.keep hb).at_ 10,(B.out.cells.keep hb).at_ 11,(C.out.cells.keep hb).at_ 0,(C.out.cells.keep hb).at_ 1,(C.out.cells.keep hb).at_ 2,(C.out.cells.keep hb).at_ 3,(C.out.cells.keep hb).at_ 4,(C.out.cells.keep hb).at_ 5,(C.out.cells.keep hb).at_ 6,(C.out.cells.keep hb).at_ 7,(C.out.cells.keep hb).at_ 8,(C.out.cells.keep hb).at_ 9,(C.out.cells.keep hb).at_ 10,(C.out.cells.keep hb).at_ 11⟩:w'.cell? ⟨pA,0,none⟩=some (.int .i64 x1.1)∧w'.cell? ⟨pA,1,none⟩=some (.pointer x1.2.1)∧w'.cell? ⟨pA,2,none⟩=some (.int .i64 x1.2.2.1)∧w'.cell? ⟨pA,3,none⟩=some (.pointer x1.2.2.2)∧w'.cell? ⟨pA,4,none⟩=some (.int .i64 y1.1)∧w'.cell? ⟨pA,5,none⟩=some (.pointer y1.2.1)∧w'.cell? ⟨pA,6,none⟩=some (.int .i64 y1.2.2.1)∧w'.cell? ⟨pA,7,none⟩=some (.pointer y1.2.2.2)∧w'.cell? ⟨pA,8,none⟩=some (.int .i64 z1.1)∧w'.cell? ⟨pA,9,none⟩=some (.pointer z1.2.1)∧w'.cell? ⟨pA,10,none⟩=some (.int .i64 z1.2.2.1)∧w'.cell? ⟨pA,11,none⟩=some (.pointer z1.2.2.2)∧w'.cell? ⟨pB,0,none⟩=some (.int .i64 x3.1)∧w'.cell? ⟨pB,1,none⟩=some (.pointer x3.2.1)∧w'.cell? ⟨pB,2,none⟩=some (.int .i64 x3.2.2.1)∧w'.cell? ⟨pB,3,none⟩=some (.pointer x3.2.2.2)∧w'.cell? ⟨pB,4,none⟩=some (.int .i64 y3.1)∧w'.cell? ⟨pB,5,none⟩=some (.pointer y3.2.1)∧w'.cell? ⟨pB,6,none⟩=some (.int .i64 y3.2.2.1)∧w'.cell? ⟨pB,7,none⟩=some (.pointer y3.2.2.2)∧w'.cell? ⟨pB,8,none⟩=some (.int .i64 z3.1)∧w'.cell? ⟨pB,9,none⟩=some (.pointer z3.2.1)∧w'.cell? ⟨pB,10,none⟩=some (.int .i64 z3.2.2.1)∧w'.cell? ⟨pB,11,none⟩=some (.pointer z3.2.2.2)∧w'.cell? ⟨pC,0,none⟩=some (.int .i64 c0.1)∧w'.cell? ⟨pC,1,none⟩=some (.pointer c0.2.1)∧w'.cell? ⟨pC,2,none⟩=some (.int .i64 c0.2.2.1)∧w'.cell? ⟨pC,3,none⟩=some (.pointer c0.2.2.2)∧w'.cell? ⟨pC,4,none⟩=some (.int .i64 c1.1)∧w'.cell? ⟨pC,5,none⟩=some (.pointer c1.2.1)∧w'.cell? ⟨pC,6,none⟩=some (.int .i64 c1.2.2.1)∧w'.cell? ⟨pC,7,none⟩=some (.pointer c1.2.2.2)∧w'.cell? ⟨pC,8,none⟩=some (.int .i64 c2.1)∧w'.cell? ⟨pC,9,none⟩=some (.pointer c2.2.1)∧w'.cell? ⟨pC,10,none⟩=some (.int .i64 c2.2.2.1)∧w'.cell? ⟨pC,11,none⟩=some (.pointer c2.2.2.2)))
  go_upto_region 5 with fail
  try simp only [hpC,hW4]
  clear hpC hW4
  refine Till.begin 3 (fun w'=>w'.cell? ⟨pA,0,none⟩=some (.int .i64 x1.1)∧w'.cell? ⟨pA,1,none⟩=some (.pointer x1.2.1)∧w'.cell? ⟨pA,2,none⟩=some (.int .i64 x1.2.2.1)∧w'.cell? ⟨pA,3,none⟩=some (.pointer x1.2.2.2)∧w'.cell? ⟨pA,4,none⟩=some (.int .i64 y1.1)∧w'.cell? ⟨pA,5,none⟩=some (.pointer y1.2.1)∧w'.cell? ⟨pA,6,none⟩=some (.int .i64 y1.2.2.1)∧w'.cell? ⟨pA,7,none⟩=some (.pointer y1.2.2.2)∧w'.cell? ⟨pA,8,none⟩=some (.int .i64 z1.1)∧w'.cell? ⟨pA,9,none⟩=some (.pointer z1.2.1)∧w'.cell? ⟨pA,10,none⟩=some (.int .i64 z1.2.2.1)∧w'.cell? ⟨pA,11,none⟩=some (.pointer z1.2.2.2)∧w'.cell? ⟨pB,0,none⟩=some (.int .i64 x3.1)∧w'.cell? ⟨pB,1,none⟩=some (.pointer x3.2.1)∧w'.cell? ⟨pB,2,none⟩=some (.int .i64 x3.2.2.1)∧w'.cell? ⟨pB,3,none⟩=some (.pointer x3.2.2.2)∧w'.cell? ⟨pB,4,none⟩=some (.int .i64 y3.1)∧w'.cell? ⟨pB,5,none⟩=some (.pointer y3.2.1)∧w'.cell? ⟨pB,6,none⟩=some (.int .i64 y3.2.2.1)∧w'.cell? ⟨pB,7,none⟩=some (.pointer y3.2.2.2)∧w'.cell? ⟨pB,8,none⟩=some (.int .i64 z3.1)∧w'.cell? ⟨pB,9,none⟩=some (.pointer z3.2.1)∧w'.cell? ⟨pB,10,none⟩=some (.int .i64 z3.2.2.1)∧w'.cell? ⟨pB,11,none⟩=some (.pointer z3.2.2.2)∧w'.cell? ⟨pC,0,none⟩=some (.int .i64 c0.1)∧w'.cell? ⟨pC,1,none⟩=some (.pointer c0.2.1)∧w'.cell? ⟨pC,2,none⟩=some (.int .i64 c0.2.2.1)∧w'.cell? ⟨pC,3,none⟩=some (.pointer c0.2.2.2)∧w'.cell? ⟨pC,4,none⟩=some (.int .i64 c1.1)∧w'.cell? ⟨pC,5,none⟩=some (.pointer c1.2.1)∧w'.cell? ⟨pC,6,none⟩=some (.int .i64 c1.2.2.1)∧w'.cell? ⟨pC,7,none⟩=some (.pointer c1.2.2.2)∧w'.cell? ⟨pC,8,none⟩=some (.int .i64 c2.1)∧w'.cell? ⟨pC,9,none⟩=some (.pointer c2.2.1)∧w'.cell? ⟨pC,10,none⟩=some (.int .i64 c2.2.2.1)∧w'.cell? ⟨pC,11,none⟩=some (.pointer c2.2.2.2)) (by kernel_rfl) (HS.out _ (Below.refl _ _).drew) (fun hH=>?_)
  clear hH
  have HB:=Lh (Below.refl W4.heap.size W4).drew
  generalize W4.drew=v0 at HB ⊢
  try simp only [Pls]
  refine Till.tk 0 2 17 (.agg #[.int .i64 x1.1,.pointer x1.2.1,.int .i64 x1.2.2.1,.pointer x1.2.2.2,.int .i64 y1.1,.pointer y1.2.1,.int .i64 y1.2.2.1,.pointer y1.2.2.2,.int .i64 z1.1,.pointer z1.2.1,.int .i64 z1.2.2.1,.pointer z1.2.2.2]) (HS.out _ HB.out) ?_
  try simp only [Act.put,Pls]
  refine Till.tk 1 2 18 (.agg #[.int .i64 c0.1,.pointer c0.2.1,.int .i64 c0.2.2.1,.pointer c0.2.2.2,.int .i64 c1.1,.pointer c1.2.1,.int .i64 c1.2.2.1,.pointer c1.2.2.2,.int .i64 c2.1,.pointer c2.2.1,.int .i64 c2.2.2.1,.pointer c2.2.2.2]) (HS.out _ HB.out) ?_
  try simp only [Act.put,Pls]
  refine Till.one (i:=2) (by kernel_rfl) rfl (fun K hK=>?_)
  go_simp
  refine (HD1.out _ HB.out).mono ?_
  rintro e v1 ⟨ra,rP,rb,rQ,rfl,hd,g⟩
  replace HB:=Lh (below_on HB.out g)
  have RD:=Lh hd
  clear hd
  clear g
  go_wp2_with fail
  refine hK.out _ _ (fun _=>HS.out _ HB.out) ?_
  clear hK K
  try simp only [Pls]
  refine Till.one (i:=3) (by kernel_rfl) rfl (fun K hK=>?_)
  go_simp
  refine (HG.out _ _ _ _ _ RD.out).mono ?_
  rintro e v2 ⟨rfl,g⟩
  replace HB:=Lh (below_on HB.out g)
  clear g
  go_wp2_with fail
  refine hK.out _ _ (fun h=>absurd h (by simp)) ?_
  clear hK K
  try simp only [Pls]
  refine Till.one (i:=4) (by kernel_rfl) rfl (fun K hK=>?_)
  go_simp
  refine hK.out _ _ (fun h=>absurd h (by simp)) ?_
  clear hK K
  try simp only [Pls]
  refine Till.one (i:=5) (by kernel_rfl) rfl (fun K hK=>?_)
  go_simp
  refine hK.out _ _ (fun h=>absurd h (by simp)) ?_
  clear hK K
  try simp only [Pls]
  refine Till.rek (k:=3) (k':=9) _ _ _ _ (by kernel_rfl) ?_
  refine Till.tk 6 8 23 (.agg #[.int .i64 x3.1,.pointer x3.2.1,.int .i64 x3.2.2.1,.pointer x3.2.2.2,.int .i64 y3.1,.pointer y3.2.1,.int .i64 y3.2.2.1,.pointer y3.2.2.2,.int .i64 z3.1,.pointer z3.2.1,.int .i64 z3.2.2.1,.pointer z3.2.2.2]) (HS.out _ HB.out) ?_
  try simp only [Act.put,Pls]
  refine Till.tk 7 8 24 (.agg #[.int .i64 c0.1,.pointer c0.2.1,.int .i64 c0.2.2.1,.pointer c0.2.2.2,.int .i64 c1.1,.pointer c1.2.1,.int .i64 c1.2.2.1,.pointer c1.2.2.2,.int .i64 c2.1,.pointer c2.2.1,.int .i64 c2.2.2.1,.pointer c2.2.2.2]) (HS.out _ HB.out) ?_
  try simp only [Act.put,Pls]
  refine Till.one (i:=8) (by kernel_rfl) rfl (fun K hK=>?_)
  go_simp
  refine (HD2.out _ HB.out).mono ?_
  rintro e v3 ⟨sa,sP,sb,sQ,rfl,hd,g⟩
  replace HB:=Lh (below_on HB.out g)
  replace RD:=Lh hd
  clear hd
  clear g
  go_wp2_with fail
  refine hK.out _ _ (fun _=>HS.out _ HB.out) ?_
  clear hK K
  try simp only [Pls]
  refine Till.one (i:=9) (by kernel_rfl) rfl (fun K hK=>?_)
  go_simp
  refine (HG.out _ _ _ _ _ RD.out).mono ?_
  rintro e v4 ⟨rfl,g⟩
  replace HB:=Lh (below_on HB.out g)
  clear g
  go_wp2_with fail
  refine hK.out _ _ (fun h=>absurd h (by simp)) ?_
  clear hK K
  try simp only [Pls]
  refine Till.one (i:=10) (by kernel_rfl) rfl (fun K hK=>?_)
  go_simp
  refine hK.out _ _ (fun h=>absurd h (by simp)) ?_
  clear hK K
  try simp only [Pls]
  refine Till.one (i:=11) (by kernel_rfl) rfl (fun K hK=>?_)
  go_simp
  refine hK.out _ _ (fun h=>absurd h (by simp)) ?_
  clear hK K
  try simp only [Pls]
  refine Till.one (i:=12) (by kernel_rfl) rfl (fun K hK=>?_)
  go_simp
  refine hK.out _ _ (fun h=>absurd h (by simp)) ?_
  clear hK K
  try simp only [Pls]
  refine Till.rek (k:=9) (k':=18) _ _ _ _ (by kernel_rfl) ?_
  refine Till.tk 13 15 30 (.agg #[.int .i64 x3.1,.pointer x3.2.1,.int .i64 x3.2.2.1,.pointer x3.2.2.2,.int .i64 y3.1,.pointer y3.2.1,.int .i64 y3.2.2.1,.pointer y3.2.2.2,.int .i64 z3.1,.pointer z3.2.1,.int .i64 z3.2.2.1,.pointer z3.2.2.2]) (HS.out _ HB.out) ?_
  try simp only [Act.put,Pls]
  refine Till.tk 14 15 31 (.agg #[.int .i64 x1.1,.pointer x1.2.1,.int .i64 x1.2.2.1,.pointer x1.2.2.2,.int .i64 y1.1,.pointer y1.2.1,.int .i64 y1.2.2.1,.pointer y1.2.2.2,.int .i64 z1.1,.pointer z1.2.1,.int .i64 z1.2.2.1,.pointer z1.2.2.2]) (HS.out _ HB.out) ?_
  try simp only [Act.put,Pls]
  refine Till.tk 16 17 33 (.agg #[.int .i64 c0.1,.pointer c0.2.1,.int .i64 c0.2.2.1,.pointer c0.2.2.2,.int .i64 c1.1,.pointer c1.2.1,.int .i64 c1.2.2.1,.pointer c1.2.2.2,.int .i64 c2.1,.pointer c2.2.1,.int .i64 c2.2.2.1,.pointer c2.2.2.2]) (HS.out _ HB.out) ?_
  try simp only [Act.put,Pls]
  refine Till.one (i:=15) (by kernel_rfl) rfl (fun K hK=>?_)
  go_simp
  refine (HX.out _ HB.out).mono ?_
  rintro e v5 ⟨g0,g1,g2,rfl,hx,g⟩
  replace HB:=Lh (below_on HB.out g)
  have VX:=Lh hx
  clear hx
  unfold vecVal
  clear g
  go_wp2_with fail
  refine hK.out _ _ (fun _=>HS.out _ HB.out) ?_
  clear hK K
  try simp only [Pls]
  refine Till.one (i:=17) (by kernel_rfl) rfl (fun K hK=>?_)
  go_simp
  refine (HN.out _ HB.out).mono ?_
  rintro e v6 ⟨h0,h1,h2,rfl,hx,g⟩
  replace HB:=Lh (below_on HB.out g)
  have VN:=Lh hx
  clear hx
  replace VX:=Lh (VX.out.keep g)
  unfold vecVal
  clear g
  go_wp2_with fail
  refine hK.out _ _ (fun _=>HS.out _ HB.out) ?_
  clear hK K
  try simp only [Pls]
  refine Till.one (i:=18) (by kernel_rfl) rfl (fun K hK=>?_)
  go_simp
  refine (HE.out _ _ _ _ _ _ _ VX.out VN.out).mono ?_
  rintro e v7 ⟨rfl,g⟩
  replace HB:=Lh (below_on HB.out g)
  clear g
  go_wp2_with fail
  refine hK.out _ _ (fun h=>absurd h (by simp)) ?_
  clear hK K
  try simp only [Pls]
  refine Till.one (i:=19) (by kernel_rfl) rfl (fun K hK=>?_)
  go_simp
  refine hK.out _ _ (fun h=>absurd h (by simp)) ?_
  clear hK K
  try simp only [Pls]
  refine Till.one (i:=20) (by kernel_rfl) rfl (fun K hK=>?_)
  go_simp
  refine hK.out _ _ (fun h=>absurd h (by simp)) ?_
  clear hK K
  try simp only [Pls]
  refine Till.done (by kernel_rfl) ?_ _
  replace K0:=Lh (below_on K0.out HB.out)
  have A:=Lh (A.out.keep HB.out)
  have B:=Lh (B.out.keep HB.out)
  have C:=Lh (C.out.keep HB.out)
  have KW:=HB
  clear HB HS RD VX VN HD1 HD2 HG HX HN HE
  generalize v7=W5 at *
  have HS:=Lh (fun w' (hb:Below W5.heap.size W5 w')=>(⟨(A.out.cells.keep hb).at_ 0,(A.out.cells.keep hb).at_ 1,(A.out.cells.keep hb).at_ 2,(A.out.cells.keep hb).at_ 3,(A.out.cells.keep hb).at_ 4,(A.out.cells.keep hb).at_ 5,(A.out.cells.keep hb).at_ 6,(A.out.cells.keep hb).at_ 7,(A.out.cells.keep hb).at_ 8,(A.out.cells.keep hb).at_ 9,(A.out.cells.keep hb).at_ 10,(A.out.cells.keep hb).at_ 11,(B.out.cells.keep hb).at_ 0,(B.out.cells.keep hb).at_ 1,(B.out.cells.keep hb).at_ 2,(B.out.cells.keep hb).at_ 3,(B.out.cells.keep hb).at_ 4,(B.out.cells.keep hb).at_ 5,(B.out.cells.keep hb).at_ 6,(B.out.cells.keep hb).at_ 7,(B.out.cells.keep hb).at_ 8,(B.out.cells.keep hb).at_ 9,(B.out.cells.keep hb).at_ 10,(B.out.cells.keep hb).at_ 11,(C.out.cells.keep hb).at_ 0,(C.out.cells.keep hb).at_ 1,(C.out.cells.keep hb).at_ 2,(C.out.cells.keep hb).at_ 3,(C.out.cells.keep hb).at_ 4,(C.out.cells.keep hb).at_ 5,(C.out.cells.keep hb).at_ 6,(C.out.cells.keep hb).at_ 7,(C.out.cells.keep hb).at_ 8,(C.out.cells.keep hb).at_ 9,(C.out.cells.keep hb).at_ 10,(C.out.cells.keep hb).at_ 11⟩:w'.cell? ⟨pA,0,none⟩=some (.int .i64 x1.1)∧w'.cell? ⟨pA,1,none⟩=some (.pointer x1.2.1)∧w'.cell? ⟨pA,2,none⟩=some (.int .i64 x1.2.2.1)∧w'.cell? ⟨pA,3,none⟩=some (.pointer x1.2.2.2)∧w'.cell? ⟨pA,4,none⟩=some (.int .i64 y1.1)∧w'.cell? ⟨pA,5,none⟩=some (.pointer y1.2.1)∧w'.cell? ⟨pA,6,none⟩=some (.int .i64 y1.2.2.1)∧w'.cell? ⟨pA,7,none⟩=some (.pointer y1.2.2.2)∧w'.cell? ⟨pA,8,none⟩=some (.int .i64 z1.1)∧w'.cell? ⟨pA,9,none⟩=some (.pointer z1.2.1)∧w'.cell? ⟨pA,10,none⟩=some (.int .i64 z1.2.2.1)∧w'.cell? ⟨pA,11,none⟩=some (.pointer z1.2.2.2)∧w'.cell? ⟨pB,0,none⟩=some (.int .i64 x3.1)∧w'.cell? ⟨pB,1,none⟩=some (.pointer x3.2.1)∧w'.cell? ⟨pB,2,none⟩=some (.int .i64 x3.2.2.1)∧w'.cell? ⟨pB,3,none⟩=some (.pointer x3.2.2.2)∧w'.cell? ⟨pB,4,none⟩=some (.int .i64 y3.1)∧w'.cell? ⟨pB,5,none⟩=some (.pointer y3.2.1)∧w'.cell? ⟨pB,6,none⟩=some (.int .i64 y3.2.2.1)∧w'.cell? ⟨pB,7,none⟩=some (.pointer y3.2.2.2)∧w'.cell? ⟨pB,8,none⟩=some (.int .i64 z3.1)∧w'.cell? ⟨pB,9,none⟩=some (.pointer z3.2.1)∧w'.cell? ⟨pB,10,none⟩=some (.int .i64 z3.2.2.1)∧w'.cell? ⟨pB,11,none⟩=some (.pointer z3.2.2.2)∧w'.cell? ⟨pC,0,none⟩=some (.int .i64 c0.1)∧w'.cell? ⟨pC,1,none⟩=some (.pointer c0.2.1)∧w'.cell? ⟨pC,2,none⟩=some (.int .i64 c0.2.2.1)∧w'.cell? ⟨pC,3,none⟩=some (.pointer c0.2.2.2)∧w'.cell? ⟨pC,4,none⟩=some (.int .i64 c1.1)∧w'.cell? ⟨pC,5,none⟩=some (.pointer c1.2.1)∧w'.cell? ⟨pC,6,none⟩=some (.int .i64 c1.2.2.1)∧w'.cell? ⟨pC,7,none⟩=some (.pointer c1.2.2.2)∧w'.cell? ⟨pC,8,none⟩=some (.int .i64 c2.1)∧w'.cell? ⟨pC,9,none⟩=some (.pointer c2.2.1)∧w'.cell? ⟨pC,10,none⟩=some (.int .i64 c2.2.2.1)∧w'.cell? ⟨pC,11,none⟩=some (.pointer c2.2.2.2)))
  cases z1' with
  | true=>
   obtain rfl:z3'=true:=Z1.out rfl
   go_upto_region 7 with fail
   refine Till.begin 14 (fun w'=>w'.cell? ⟨pA,0,none⟩=some (.int .i64 x1.1)∧w'.cell? ⟨pA,1,none⟩=some (.pointer x1.2.1)∧w'.cell? ⟨pA,2,none⟩=some (.int .i64 x1.2.2.1)∧w'.cell? ⟨pA,3,none⟩=some (.pointer x1.2.2.2)∧w'.cell? ⟨pA,4,none⟩=some (.int .i64 y1.1)∧w'.cell? ⟨pA,5,none⟩=some (.pointer y1.2.1)∧w'.cell? ⟨pA,6,none⟩=some (.int .i64 y1.2.2.1)∧w'.cell? ⟨pA,7,none⟩=some (.pointer y1.2.2.2)∧w'.cell? ⟨pA,8,none⟩=some (.int .i64 z1.1)∧w'.cell? ⟨pA,9,none⟩=some (.pointer z1.2.1)∧w'.cell? ⟨pA,10,none⟩=some (.int .i64 z1.2.2.1)∧w'.cell? ⟨pA,11,none⟩=some (.pointer z1.2.2.2)∧w'.cell? ⟨pB,0,none⟩=some (.int .i64 x3.1)∧w'.cell? ⟨pB,1,none⟩=some (.pointer x3.2.1)∧w'.cell? ⟨pB,2,none⟩=some (.int .i64 x3.2.2.1)∧w'.cell? ⟨pB,3,none⟩=some (.pointer x3.2.2.2)∧w'.cell? ⟨pB,4,none⟩=some (.int .i64 y3.1)∧w'.cell? ⟨pB,5,none⟩=some (.pointer y3.2.1)∧w'.cell? ⟨pB,6,none⟩=some (.int .i64 y3.2.2.1)∧w'.cell? ⟨pB,7,none⟩=some (.pointer y3.2.2.2)∧w'.cell? ⟨pB,8,none⟩=some (.int .i64 z3.1)∧w'.cell? ⟨pB,9,none⟩=some (.pointer z3.2.1)∧w'.cell? ⟨pB,10,none⟩=some (.int .i64 z3.2.2.1)∧w'.cell? ⟨pB,11,none⟩=some (.pointer z3.2.2.2)∧w'.cell? ⟨pC,0,none⟩=some (.int .i64 c0.1)∧w'.cell? ⟨pC,1,none⟩=some (.pointer c0.2.1)∧w'.cell? ⟨pC,2,none⟩=some (.int .i64 c0.2.2.1)∧w'.cell? ⟨pC,3,none⟩=some (.pointer c0.2.2.2)∧w'.cell? ⟨pC,4,none⟩=some (.int .i64 c1.1)∧w'.cell? ⟨pC,5,none⟩=some (.pointer c1.2.1)∧w'.cell? ⟨pC,6,none⟩=some (.int .i64 c1.2.2.1)∧w'.cell? ⟨pC,7,none⟩=some (.pointer c1.2.2.2)∧w'.cell? ⟨pC,8,none⟩=some (.int .i64 c2.1)∧w'.cell? ⟨pC,9,none⟩=some (.pointer c2.2.1)∧w'.cell? ⟨pC,10,none⟩=some (.int .i64 c2.2.2.1)∧w'.cell? ⟨pC,11,none⟩=some (.pointer c2.2.2.2)) (by kernel_rfl) (HS.out _ (Below.refl _ _).drew) (fun hH=>?_)
   clear hH
   have HB:=Lh (Below.refl W5.heap.size W5).drew
   generalize W5.drew=v0 at HB ⊢
   try simp only [Pls]
   refine Till.tk 0 1 38 (.agg #[.int .i64 c0.1,.pointer c0.2.1,.int .i64 c0.2.2.1,.pointer c0.2.2.2,.int .i64 c1.1,.pointer c1.2.1,.int .i64 c1.2.2.1,.pointer c1.2.2.2,.int .i64 c2.1,.pointer c2.2.1,.int .i64 c2.2.2.1,.pointer c2.2.2.2]) (HS.out _ HB.out) ?_
   try simp only [Act.put,Pls]
   refine Till.tk 2 3 40 (.agg #[.int .i64 x1.1,.pointer x1.2.1,.int .i64 x1.2.2.1,.pointer x1.2.2.2,.int .i64 y1.1,.pointer y1.2.1,.int .i64 y1.2.2.1,.pointer y1.2.2.2,.int .i64 z1.1,.pointer z1.2.1,.int .i64 z1.2.2.1,.pointer z1.2.2.2]) (HS.out _ HB.out) ?_
   try simp only [Act.put,Pls]
   refine Till.one (i:=1) (by kernel_rfl) rfl (fun K hK=>?_)
   go_simp
   refine (HZ3.out _ (below_on KW.out HB.out)).mono ?_
   rintro e v1 ⟨rfl,g⟩
   replace HB:=Lh (below_on HB.out g)
   clear g
   go_wp2_with fail
   refine hK.out _ _ (fun _=>HS.out _ HB.out) ?_
   clear hK K
   try simp only [Pls]
   refine Till.one (i:=3) (by kernel_rfl) rfl (fun K hK=>?_)
   go_simp
   refine (HZ1.out _ (below_on KW.out HB.out)).mono ?_
   rintro e v2 ⟨rfl,g⟩
   replace HB:=Lh (below_on HB.out g)
   clear g
   go_wp2_with fail
   refine hK.out _ _ (fun _=>HS.out _ HB.out) ?_
   clear hK K
   try simp only [Pls]
   refine Till.one (i:=4) (by kernel_rfl) rfl (fun K hK=>?_)
   go_simp
   refine hK.out _ _ (fun _=>HS.out _ HB.out) ?_
   clear hK K
   try simp only [Pls]
   refine Till.one (i:=5) (by kernel_rfl) rfl (fun K hK=>?_)
   go_simp
   refine hK.out _ _ (fun _=>HS.out _ HB.out) ?_
   clear hK K
   try simp only [Pls]
   refine Till.one (i:=6) (by kernel_rfl) rfl (fun K hK=>?_)
   go_simp
   refine hK.out _ _ (fun _=>HS.out _ HB.out) ?_
   clear hK K
   try simp only [Pls]
   refine Till.one (i:=7) (by kernel_rfl) rfl (fun K hK=>?_)
   go_simp
   refine hK.out _ _ (fun _=>HS.out _ HB.out) ?_
   clear hK K
   try simp only [Pls]
   refine Till.one (i:=8) (by kernel_rfl) rfl (fun K hK=>?_)
   go_simp
   refine hK.out _ _ (fun _=>HS.out _ HB.out) ?_
   clear hK K
   try simp only [Pls]
   refine Till.sk 9 11 47 (HS.out _ HB.out) ?_
   try simp only [Act.put,Pls]
   refine Till.one (i:=10) (by kernel_rfl) rfl (fun K hK=>?_)
   go_simp
   refine hK.out _ _ (fun _=>HS.out _ HB.out) ?_
   clear hK K
   try simp only [Pls]
   refine Till.one (i:=11) (by kernel_rfl) rfl (fun K hK=>?_)
   go_simp
   refine hK.out _ _ (fun _=>HS.out _ HB.out) ?_
   clear hK K
   try simp only [Pls]
   refine Till.one (i:=12) (by kernel_rfl) rfl (fun K hK=>?_)
   go_simp
   refine hK.out _ _ (fun _=>HS.out _ HB.out) ?_
   clear hK K
   try simp only [Pls]
   refine Till.one (i:=13) (by kernel_rfl) rfl (fun K hK=>?_)
   go_simp
   refine hK.out _ _ (fun _=>HS.out _ HB.out) ?_
   clear hK K
   try simp only [Pls]
   refine Till.one (i:=14) (by kernel_rfl) rfl (fun K hK=>?_)
   go_simp
   refine hK.out _ _ (fun h=>absurd h (by simp)) ?_
   clear hK K
   try simp only [Pls]
   refine Till.done (by kernel_rfl) ?_ _
   replace K0:=Lh (below_on K0.out HB.out)
   go_wp2
   exact bodyPost_ret (v:= .bool true) (by simp [results,Tryz.results11,go_sem]) rfl ⟨rfl,K0.out⟩
  | false=>
   cases z2' with
   | true=>
    obtain rfl:z3'=true:=Z2.out rfl
    go_upto_region 7 with fail
    refine Till.begin 14 (fun w'=>w'.cell? ⟨pA,0,none⟩=some (.int .i64 x1.1)∧w'.cell? ⟨pA,1,none⟩=some (.pointer x1.2.1)∧w'.cell? ⟨pA,2,none⟩=some (.int .i64 x1.2.2.1)∧w'.cell? ⟨pA,3,none⟩=some (.pointer x1.2.2.2)∧w'.cell? ⟨pA,4,none⟩=some (.int .i64 y1.1)∧w'.cell? ⟨pA,5,none⟩=some (.pointer y1.2.1)∧w'.cell? ⟨pA,6,none⟩=some (.int .i64 y1.2.2.1)∧w'.cell? ⟨pA,7,none⟩=some (.pointer y1.2.2.2)∧w'.cell? ⟨pA,8,none⟩=some (.int .i64 z1.1)∧w'.cell? ⟨pA,9,none⟩=some (.pointer z1.2.1)∧w'.cell? ⟨pA,10,none⟩=some (.int .i64 z1.2.2.1)∧w'.cell? ⟨pA,11,none⟩=some (.pointer z1.2.2.2)∧w'.cell? ⟨pB,0,none⟩=some (.int .i64 x3.1)∧w'.cell? ⟨pB,1,none⟩=some (.pointer x3.2.1)∧w'.cell? ⟨pB,2,none⟩=some (.int .i64 x3.2.2.1)∧w'.cell? ⟨pB,3,none⟩=some (.pointer x3.2.2.2)∧w'.cell? ⟨pB,4,none⟩=some (.int .i64 y3.1)∧w'.cell? ⟨pB,5,none⟩=some (.pointer y3.2.1)∧w'.cell? ⟨pB,6,none⟩=some (.int .i64 y3.2.2.1)∧w'.cell? ⟨pB,7,none⟩=some (.pointer y3.2.2.2)∧w'.cell? ⟨pB,8,none⟩=some (.int .i64 z3.1)∧w'.cell? ⟨pB,9,none⟩=some (.pointer z3.2.1)∧w'.cell? ⟨pB,10,none⟩=some (.int .i64 z3.2.2.1)∧w'.cell? ⟨pB,11,none⟩=some (.pointer z3.2.2.2)∧w'.cell? ⟨pC,0,none⟩=some (.int .i64 c0.1)∧w'.cell? ⟨pC,1,none⟩=some (.pointer c0.2.1)∧w'.cell? ⟨pC,2,none⟩=some (.int .i64 c0.2.2.1)∧w'.cell? ⟨pC,3,none⟩=some (.pointer c0.2.2.2)∧w'.cell? ⟨pC,4,none⟩=some (.int .i64 c1.1)∧w'.cell? ⟨pC,5,none⟩=some (.pointer c1.2.1)∧w'.cell? ⟨pC,6,none⟩=some (.int .i64 c1.2.2.1)∧w'.cell? ⟨pC,7,none⟩=some (.pointer c1.2.2.2)∧w'.cell? ⟨pC,8,none⟩=some (.int .i64 c2.1)∧w'.cell? ⟨pC,9,none⟩=some (.pointer c2.2.1)∧w'.cell? ⟨pC,10,none⟩=some (.int .i64 c2.2.2.1)∧w'.cell? ⟨pC,11,none⟩=some (.pointer c2.2.2.2)) (by kernel_rfl) (HS.out _ (Below.refl _ _).drew) (fun hH=>?_)
    clear hH
    have HB:=Lh (Below.refl W5.heap.size W5).drew
    generalize W5.drew=v0 at HB ⊢
    try simp only [Pls]
    refine Till.tk 0 1 38 (.agg #[.int .i64 c0.1,.pointer c0.2.1,.int .i64 c0.2.2.1,.pointer c0.2.2.2,.int .i64 c1.1,.pointer c1.2.1,.int .i64 c1.2.2.1,.pointer c1.2.2.2,.int .i64 c2.1,.pointer c2.2.1,.int .i64 c2.2.2.1,.pointer c2.2.2.2]) (HS.out _ HB.out) ?_
    try simp only [Act.put,Pls]
    refine Till.tk 2 3 40 (.agg #[.int .i64 x1.1,.pointer x1.2.1,.int .i64 x1.2.2.1,.pointer x1.2.2.2,.int .i64 y1.1,.pointer y1.2.1,.int .i64 y1.2.2.1,.pointer y1.2.2.2,.int .i64 z1.1,.pointer z1.2.1,.int .i64 z1.2.2.1,.pointer z1.2.2.2]) (HS.out _ HB.out) ?_
    try simp only [Act.put,Pls]
    refine Till.one (i:=1) (by kernel_rfl) rfl (fun K hK=>?_)
    go_simp
    refine (HZ3.out _ (below_on KW.out HB.out)).mono ?_
    rintro e v1 ⟨rfl,g⟩
    replace HB:=Lh (below_on HB.out g)
    clear g
    go_wp2_with fail
    refine hK.out _ _ (fun _=>HS.out _ HB.out) ?_
    clear hK K
    try simp only [Pls]
    refine Till.one (i:=3) (by kernel_rfl) rfl (fun K hK=>?_)
    go_simp
    refine (HZ1.out _ (below_on KW.out HB.out)).mono ?_
    rintro e v2 ⟨rfl,g⟩
    replace HB:=Lh (below_on HB.out g)
    clear g
    go_wp2_with fail
    refine hK.out _ _ (fun _=>HS.out _ HB.out) ?_
    clear hK K
    try simp only [Pls]
    refine Till.one (i:=4) (by kernel_rfl) rfl (fun K hK=>?_)
    go_simp
    refine hK.out _ _ (fun _=>HS.out _ HB.out) ?_
    clear hK K
    try simp only [Pls]
    refine Till.tk 5 6 43 (.agg #[.int .i64 x3.1,.pointer x3.2.1,.int .i64 x3.2.2.1,.pointer x3.2.2.2,.int .i64 y3.1,.pointer y3.2.1,.int .i64 y3.2.2.1,.pointer y3.2.2.2,.int .i64 z3.1,.pointer z3.2.1,.int .i64 z3.2.2.1,.pointer z3.2.2.2]) (HS.out _ HB.out) ?_
    try simp only [Act.put,Pls]
    refine Till.one (i:=6) (by kernel_rfl) rfl (fun K hK=>?_)
    go_simp
    refine (HZ2.out _ (below_on KW.out HB.out)).mono ?_
    rintro e v3 ⟨rfl,g⟩
    replace HB:=Lh (below_on HB.out g)
    clear g
    go_wp2_with fail
    refine hK.out _ _ (fun _=>HS.out _ HB.out) ?_
    clear hK K
    try simp only [Pls]
    refine Till.one (i:=7) (by kernel_rfl) rfl (fun K hK=>?_)
    go_simp
    refine hK.out _ _ (fun _=>HS.out _ HB.out) ?_
    clear hK K
    try simp only [Pls]
    refine Till.one (i:=8) (by kernel_rfl) rfl (fun K hK=>?_)
    go_simp
    refine hK.out _ _ (fun _=>HS.out _ HB.out) ?_
    clear hK K
    try simp only [Pls]
    refine Till.sk 9 11 47 (HS.out _ HB.out) ?_
    try simp only [Act.put,Pls]
    refine Till.one (i:=10) (by kernel_rfl) rfl (fun K hK=>?_)
    go_simp
    refine hK.out _ _ (fun _=>HS.out _ HB.out) ?_
    clear hK K
    try simp only [Pls]
    refine Till.one (i:=11) (by kernel_rfl) rfl (fun K hK=>?_)
    go_simp
    refine hK.out _ _ (fun _=>HS.out _ HB.out) ?_
    clear hK K
    try simp only [Pls]
    refine Till.one (i:=12) (by kernel_rfl) rfl (fun K hK=>?_)
    go_simp
    refine hK.out _ _ (fun _=>HS.out _ HB.out) ?_
    clear hK K
    try simp only [Pls]
    refine Till.one (i:=13) (by kernel_rfl) rfl (fun K hK=>?_)
    go_simp
    refine hK.out _ _ (fun _=>HS.out _ HB.out) ?_
    clear hK K
    try simp only [Pls]
    refine Till.one (i:=14) (by kernel_rfl) rfl (fun K hK=>?_)
    go_simp
    refine hK.out _ _ (fun h=>absurd h (by simp)) ?_
    clear hK K
    try simp only [Pls]
    refine Till.done (by kernel_rfl) ?_ _
    replace K0:=Lh (below_on K0.out HB.out)
    go_wp2
    exact bodyPost_ret (v:= .bool true) (by simp [results,Tryz.results11,go_sem]) rfl ⟨rfl,K0.out⟩
   | false=>
    have tz:(z3' == z3')=true:=by simp
    go_upto_region 7 with fail
    refine Till.begin 14 (fun w'=>w'.cell? ⟨pA,0,none⟩=some (.int .i64 x1.1)∧w'.cell? ⟨pA,1,none⟩=some (.pointer x1.2.1)∧w'.cell? ⟨pA,2,none⟩=some (.int .i64 x1.2.2.1)∧w'.cell? ⟨pA,3,none⟩=some (.pointer x1.2.2.2)∧w'.cell? ⟨pA,4,none⟩=some (.int .i64 y1.1)∧w'.cell? ⟨pA,5,none⟩=some (.pointer y1.2.1)∧w'.cell? ⟨pA,6,none⟩=some (.int .i64 y1.2.2.1)∧w'.cell? ⟨pA,7,none⟩=some (.pointer y1.2.2.2)∧w'.cell? ⟨pA,8,none⟩=some (.int .i64 z1.1)∧w'.cell? ⟨pA,9,none⟩=some (.pointer z1.2.1)∧w'.cell? ⟨pA,10,none⟩=some (.int .i64 z1.2.2.1)∧w'.cell? ⟨pA,11,none⟩=some (.pointer z1.2.2.2)∧w'.cell? ⟨pB,0,none⟩=some (.int .i64 x3.1)∧w'.cell? ⟨pB,1,none⟩=some (.pointer x3.2.1)∧w'.cell? ⟨pB,2,none⟩=some (.int .i64 x3.2.2.1)∧w'.cell? ⟨pB,3,none⟩=some (.pointer x3.2.2.2)∧w'.cell? ⟨pB,4,none⟩=some (.int .i64 y3.1)∧w'.cell? ⟨pB,5,none⟩=some (.pointer y3.2.1)∧w'.cell? ⟨pB,6,none⟩=some (.int .i64 y3.2.2.1)∧w'.cell? ⟨pB,7,none⟩=some (.pointer y3.2.2.2)∧w'.cell? ⟨pB,8,none⟩=some (.int .i64 z3.1)∧w'.cell? ⟨pB,9,none⟩=some (.pointer z3.2.1)∧w'.cell? ⟨pB,10,none⟩=some (.int .i64 z3.2.2.1)∧w'.cell? ⟨pB,11,none⟩=some (.pointer z3.2.2.2)∧w'.cell? ⟨pC,0,none⟩=some (.int .i64 c0.1)∧w'.cell? ⟨pC,1,none⟩=some (.pointer c0.2.1)∧w'.cell? ⟨pC,2,none⟩=some (.int .i64 c0.2.2.1)∧w'.cell? ⟨pC,3,none⟩=some (.pointer c0.2.2.2)∧w'.cell? ⟨pC,4,none⟩=some (.int .i64 c1.1)∧w'.cell? ⟨pC,5,none⟩=some (.pointer c1.2.1)∧w'.cell? ⟨pC,6,none⟩=some (.int .i64 c1.2.2.1)∧w'.cell? ⟨pC,7,none⟩=some (.pointer c1.2.2.2)∧w'.cell? ⟨pC,8,none⟩=some (.int .i64 c2.1)∧w'.cell? ⟨pC,9,none⟩=some (.pointer c2.2.1)∧w'.cell? ⟨pC,10,none⟩=some (.int .i64 c2.2.2.1)∧w'.cell? ⟨pC,11,none⟩=some (.pointer c2.2.2.2)) (by kernel_rfl) (HS.out _ (Below.refl _ _).drew) (fun hH=>?_)
    clear hH
    have HB:=Lh (Below.refl W5.heap.size W5).drew
    generalize W5.drew=v0 at HB ⊢
    try simp only [Pls]
    refine Till.tk 0 1 38 (.agg #[.int .i64 c0.1,.pointer c0.2.1,.int .i64 c0.2.2.1,.pointer c0.2.2.2,.int .i64 c1.1,.pointer c1.2.1,.int .i64 c1.2.2.1,.pointer c1.2.2.2,.int .i64 c2.1,.pointer c2.2.1,.int .i64 c2.2.2.1,.pointer c2.2.2.2]) (HS.out _ HB.out) ?_
    try simp only [Act.put,Pls]
    refine Till.tk 2 3 40 (.agg #[.int .i64 x1.1,.pointer x1.2.1,.int .i64 x1.2.2.1,.pointer x1.2.2.2,.int .i64 y1.1,.pointer y1.2.1,.int .i64 y1.2.2.1,.pointer y1.2.2.2,.int .i64 z1.1,.pointer z1.2.1,.int .i64 z1.2.2.1,.pointer z1.2.2.2]) (HS.out _ HB.out) ?_
    try simp only [Act.put,Pls]
    refine Till.one (i:=1) (by kernel_rfl) rfl (fun K hK=>?_)
    go_simp
    refine (HZ3.out _ (below_on KW.out HB.out)).mono ?_
    rintro e v1 ⟨rfl,g⟩
    replace HB:=Lh (below_on HB.out g)
    clear g
    go_wp2_with fail
    refine hK.out _ _ (fun _=>HS.out _ HB.out) ?_
    clear hK K
    try simp only [Pls]
    refine Till.one (i:=3) (by kernel_rfl) rfl (fun K hK=>?_)
    go_simp
    refine (HZ1.out _ (below_on KW.out HB.out)).mono ?_
    rintro e v2 ⟨rfl,g⟩
    replace HB:=Lh (below_on HB.out g)
    clear g
    go_wp2_with fail
    refine hK.out _ _ (fun _=>HS.out _ HB.out) ?_
    clear hK K
    try simp only [Pls]
    refine Till.one (i:=4) (by kernel_rfl) rfl (fun K hK=>?_)
    go_simp
    refine hK.out _ _ (fun _=>HS.out _ HB.out) ?_
    clear hK K
    try simp only [Pls]
    refine Till.tk 5 6 43 (.agg #[.int .i64 x3.1,.pointer x3.2.1,.int .i64 x3.2.2.1,.pointer x3.2.2.2,.int .i64 y3.1,.pointer y3.2.1,.int .i64 y3.2.2.1,.pointer y3.2.2.2,.int .i64 z3.1,.pointer z3.2.1,.int .i64 z3.2.2.1,.pointer z3.2.2.2]) (HS.out _ HB.out) ?_
    try simp only [Act.put,Pls]
    refine Till.one (i:=6) (by kernel_rfl) rfl (fun K hK=>?_)
    go_simp
    refine (HZ2.out _ (below_on KW.out HB.out)).mono ?_
    rintro e v3 ⟨rfl,g⟩
    replace HB:=Lh (below_on HB.out g)
    clear g
    go_wp2_with fail
    refine hK.out _ _ (fun _=>HS.out _ HB.out) ?_
    clear hK K
    try simp only [Pls]
    refine Till.one (i:=7) (by kernel_rfl) rfl (fun K hK=>?_)
    go_simp
    refine hK.out _ _ (fun _=>HS.out _ HB.out) ?_
    clear hK K
    try simp only [Pls]
    refine Till.one (i:=8) (by kernel_rfl) rfl (fun K hK=>?_)
    go_simp
    refine hK.out _ _ (fun _=>HS.out _ HB.out) ?_
    clear hK K
    try simp only [Pls]
    refine Till.tk 9 11 47 (.agg #[.int .i64 x1.1,.pointer x1.2.1,.int .i64 x1.2.2.1,.pointer x1.2.2.2,.int .i64 y1.1,.pointer y1.2.1,.int .i64 y1.2.2.1,.pointer y1.2.2.2,.int .i64 z1.1,.pointer z1.2.1,.int .i64 z1.2.2.1,.pointer z1.2.2.2]) (HS.out _ HB.out) ?_
    try simp only [Act.put,Pls]
    refine Till.tk 10 11 48 (.agg #[.int .i64 x3.1,.pointer x3.2.1,.int .i64 x3.2.2.1,.pointer x3.2.2.2,.int .i64 y3.1,.pointer y3.2.1,.int .i64 y3.2.2.1,.pointer y3.2.2.2,.int .i64 z3.1,.pointer z3.2.1,.int .i64 z3.2.2.1,.pointer z3.2.2.2]) (HS.out _ HB.out) ?_
    try simp only [Act.put,Pls]
    refine Till.one (i:=11) (by kernel_rfl) rfl (fun K hK=>?_)
    go_simp
    refine (HP.out _ (below_on KW.out HB.out) (by first | rfl | trivial) (by first | rfl | trivial)).mono ?_
    rintro e v4 ⟨rfl,g⟩
    replace HB:=Lh (below_on HB.out g)
    clear g
    go_wp2_with fail
    refine hK.out _ _ (fun _=>HS.out _ HB.out) ?_
    clear hK K
    try simp only [Pls]
    refine Till.one (i:=12) (by kernel_rfl) rfl (fun K hK=>?_)
    go_simp
    refine hK.out _ _ (fun _=>HS.out _ HB.out) ?_
    clear hK K
    try simp only [Pls]
    refine Till.one (i:=13) (by kernel_rfl) rfl (fun K hK=>?_)
    go_simp
    refine hK.out _ _ (fun _=>HS.out _ HB.out) ?_
    clear hK K
    try simp only [Pls]
    refine Till.one (i:=14) (by kernel_rfl) rfl (fun K hK=>?_)
    go_simp
    refine hK.out _ _ (fun h=>absurd h (by simp)) ?_
    clear hK K
    try simp only [Pls]
    refine Till.done (by kernel_rfl) ?_ _
    replace K0:=Lh (below_on K0.out HB.out)
    go_wp2
    exact bodyPost_ret (v:= .bool true) (by simp [results,Tryz.results11,go_sem]) rfl ⟨rfl,K0.out⟩
end Go.Proofs.YtekhdklbfincpaaGreatDoor
