/- GA48: Vlib Vopn -/
import Derived.Test.YtekhdklbfincpaaGreatDoorGA47
import Derived.Test.YtekhdklbfincpaaGreatDoorGA46
import Derived.Test.YtekhdklbfincpaaGreatDoorGA35
import Derived.Test.YtekhdklbfincpaaGreatDoorGA41
set_option maxRecDepth 100000
set_option maxHeartbeats 16000000
namespace Go.Proofs.YtekhdklbfincpaaGreatDoor
open Go.RowKit
theorem Cells.same {w w':World} {q p:Nat} {l:List Value} (h:Cells w q l) (hq:q≠p) (hs:w'.heap.size=w.heap.size) (hk:∀ k,k≠p→w'.heap[k]?=w.heap[k]?):Cells w' q l:=
 ⟨fun i=>(World.cell?_of_block (hk q hq)).trans (h.at_ i),fun i=>(World.frozen?_of_block (hk q hq)).trans (h.fz i),by rw [hs]; exact h.lt⟩
theorem Cells.put12 {w:World} {p:Nat} {u0 u1 u2:R4} (h:Cells w p (flat [u0,u1,u2])) (x0 x1 x2:R4):Cells (put12 w p x0 x1 x2) p (flat [x0,x1,x2]):=by
 have:=((((((((((((h.set 0 (.int .i64 x0.1) (by simp [flat,cells4])).set 1 (.pointer x0.2.1) (by simp [flat,cells4])).set 2 (.int .i64 x0.2.2.1) (by simp [flat,cells4])).set 3 (.pointer x0.2.2.2) (by simp [flat,cells4])).set 4 (.int .i64 x1.1) (by simp [flat,cells4])).set 5 (.pointer x1.2.1) (by simp [flat,cells4])).set 6 (.int .i64 x1.2.2.1) (by simp [flat,cells4])).set 7 (.pointer x1.2.2.2) (by simp [flat,cells4])).set 8 (.int .i64 x2.1) (by simp [flat,cells4])).set 9 (.pointer x2.2.1) (by simp [flat,cells4])).set 10 (.int .i64 x2.2.2.1) (by simp [flat,cells4])).set 11 (.pointer x2.2.2.2) (by simp [flat,cells4]))
 simpa [flat,cells4,Go.Proofs.YtekhdklbfincpaaGreatDoor.put12] using this
theorem VarV.put {w:World} {p:Nat} {u0 u1 u2 x0 x1 x2:R4} {q0 q1 q2:Rat} (h:Cells w p (flat [u0,u1,u2])) (hv:VecV w x0 x1 x2 q0 q1 q2):VarV (put12 w p x0 x1 x2) p x0 x1 x2 q0 q1 q2:=
 ⟨h.put12 x0 x1 x2,hv.wrote h (put12_heap w p x0 x1 x2).1 (put12_heap w p x0 x1 x2).2⟩
theorem VarV.other {w:World} {q p:Nat} {u0 u1 u2 y0 y1 y2:R4} {q0 q1 q2:Rat} (h:VarV w q y0 y1 y2 q0 q1 q2) (hc:Cells w p (flat [u0,u1,u2])) (hq:q≠p) (x0 x1 x2:R4):VarV (put12 w p x0 x1 x2) q y0 y1 y2 q0 q1 q2:=
 ⟨h.cells.same hq (put12_heap w p x0 x1 x2).1 (put12_heap w p x0 x1 x2).2,h.vec.wrote hc (put12_heap w p x0 x1 x2).1 (put12_heap w p x0 x1 x2).2⟩
def VecAt (w:World) (t:Value) (q0 q1 q2:Rat):Prop:=∃ r0 r1 r2,t=vecVal r0 r1 r2∧VecV w r0 r1 r2 q0 q1 q2
theorem VecAt.keep {w w':World} {t:Value} {q0 q1 q2:Rat} (h:VecAt w t q0 q1 q2) (hb:Below w.heap.size w w'):VecAt w' t q0 q1 q2:=by
 obtain ⟨r0,r1,r2,e,hx⟩:=h
 exact ⟨r0,r1,r2,e,hx.keep hb⟩
def PtrV (b:Nat) (w:World) (t:Value):Prop:=∃ p:Nat,t= .pointer (some ⟨p,0,none⟩)∧b≤p∧Cells w p (flat [zero4,zero4,zero4])
theorem PtrV.keep {b:Nat} {w w':World} {t:Value} (h:PtrV b w t) (hb:Below w.heap.size w w'):PtrV b w' t:=by
 obtain ⟨p,e,hp,hc⟩:=h
 exact ⟨p,e,hp,hc.keep hb⟩
theorem PtrV.ne {b:Nat} {w:World} {t:Value} (h:PtrV b w t):t≠ .pointer (some ⟨w.heap.size,0,none⟩):=by
 obtain ⟨p,rfl,hp,hc⟩:=h
 intro e
 have hl:=hc.lt
 injection e with e
 injection e with e
 injection e with e
 exact absurd e (Nat.ne_of_lt hl)
theorem cmpR_spec (p q:Rat):(p<q∧cmpR p q=-1)∨(p=q∧cmpR p q=0)∨(q<p∧cmpR p q=1):=by
 unfold cmpR cmpZ
 rcases Int.lt_trichotomy (p.num*(q.den:Int)) (q.num*(p.den:Int)) with h | h | h
 ·exact .inl ⟨(Rat.lt_iff p q).2 h,by rw [if_pos h]⟩
 ·refine .inr (.inl ⟨Rat.le_antisymm ((Rat.le_iff p q).2 (by omega)) ((Rat.le_iff q p).2 (by omega)),by rw [if_neg (by omega),if_neg (by omega)]⟩)
 ·exact .inr (.inr ⟨(Rat.lt_iff q p).2 h,by rw [if_neg (by omega),if_pos h]⟩)
theorem cmpR_eq {p q:Rat} (h:cmpR p q=0):p=q:=by
 rcases cmpR_spec p q with h1 | h1 | h1
 ·rw [h] at h1; exact absurd h1.2 (by decide)
 ·exact h1.1
 ·rw [h] at h1; exact absurd h1.2 (by decide)
theorem cmpV_same {p0 p1 p2 q0 q1 q2:Rat} (h0:p0=q0) (h1:p1=q1) (h2:p2=q2):cmpV p0 p1 p2 q0 q1 q2=0:=by
 subst h0 h1 h2
 have e:∀ q:Rat,cmpR q q=0:=fun q=>by unfold cmpR cmpZ; simp
 unfold cmpV
 simp [e]
theorem cmpV_eq {p0 p1 p2 q0 q1 q2:Rat} (h:cmpV p0 p1 p2 q0 q1 q2=0):p0=q0∧p1=q1∧p2=q2:=by
 unfold cmpV at h
 by_cases h0:cmpR p0 q0=0
 ·rw [if_pos h0] at h
  by_cases h1:cmpR p1 q1=0
  ·rw [if_pos h1] at h
   exact ⟨cmpR_eq h0,cmpR_eq h1,cmpR_eq h⟩
  ·rw [if_neg h1] at h
   exact absurd h h1
 ·rw [if_neg h0] at h
  exact absurd h h0
theorem zeroV_iff {p0 p1 p2:Rat}:zeroV p0 p1 p2=true↔p0=0∧p1=0∧p2=0:=by
 unfold zeroV
 rw [beq_iff_eq]
 exact ⟨cmpV_eq,fun h=>cmpV_same h.1 h.2.1 h.2.2⟩
theorem few0:Few 0 1:=⟨by decide +kernel,by decide +kernel⟩
end Go.Proofs.YtekhdklbfincpaaGreatDoor
namespace Go.Proofs.YtekhdklbfincpaaGreatDoor
open Go.RowKit
theorem vneg_any (x0 x1 x2:R4) (p0 p1 p2:Rat) (w:World) (h:VecV w x0 x1 x2 p0 p1 p2) (m:Mid3 p0 p1 p2) (hg:Good w) :
  Calls Tryz.prog 29 #[vecVal x0 x1 x2] w (NewVec (0 - p0) (0 - p1) (0 - p2) w):=by
 have kb:=((Below.refl w.heap.size w).alloc (Nat.le_refl _) (.cells #[.int .i64 x0.1,.pointer x0.2.1,.int .i64 x0.2.2.1,.pointer x0.2.2.2,.int .i64 x1.1,.pointer x1.2.1,.int .i64 x1.2.2.1,.pointer x1.2.2.2,.int .i64 x2.1,.pointer x2.2.1,.int .i64 x2.2.2.1,.pointer x2.2.2.2] 32)).alloc (by simp) (.cells #[.int .i64 0,.pointer none,.int .i64 0,.pointer none,.int .i64 0,.pointer none,.int .i64 0,.pointer none,.int .i64 0,.pointer none,.int .i64 0,.pointer none] 32)
 have C0:=(box_vec w x0 x1 x2).keep ((Below.refl _ _).alloc (Nat.le_refl _) (.cells #[.int .i64 0,.pointer none,.int .i64 0,.pointer none,.int .i64 0,.pointer none,.int .i64 0,.pointer none,.int .i64 0,.pointer none,.int .i64 0,.pointer none] 32))
 have C2:=box_vec (w.alloc (.cells #[.int .i64 x0.1,.pointer x0.2.1,.int .i64 x0.2.2.1,.pointer x0.2.2.2,.int .i64 x1.1,.pointer x1.2.1,.int .i64 x1.2.2.1,.pointer x1.2.2.2,.int .i64 x2.1,.pointer x2.2.1,.int .i64 x2.2.2.1,.pointer x2.2.2.2] 32)) zero4 zero4 zero4
 simp only [World.size_alloc] at C2
 obtain ⟨W,hW⟩:∃ u,(w.alloc (.cells #[.int .i64 x0.1,.pointer x0.2.1,.int .i64 x0.2.2.1,.pointer x0.2.2.2,.int .i64 x1.1,.pointer x1.2.1,.int .i64 x1.2.2.1,.pointer x1.2.2.2,.int .i64 x2.1,.pointer x2.2.1,.int .i64 x2.2.2.1,.pointer x2.2.2.2] 32)).alloc (.cells #[.int .i64 0,.pointer none,.int .i64 0,.pointer none,.int .i64 0,.pointer none,.int .i64 0,.pointer none,.int .i64 0,.pointer none,.int .i64 0,.pointer none] 32)=u:=⟨_,rfl⟩
 simp only [zero4] at C2
 rw [hW] at kb C0 C2
 have HS:=vcombSub_any zero4 zero4 zero4 x0 x1 x2 (0 - p0) (0 - p1) (0 - p2) W
  (fun w' hb=>rsub_any _ _ _ _ _ _ _ _ 0 p0 w' (rat_zero0 w') ((h.x.keep kb).keep hb) mid_zero.x.n mid_zero.x.d m.x.n m.x.d ((hg.below kb).below hb))
  (fun w' hb=>rsub_any _ _ _ _ _ _ _ _ 0 p1 w' (rat_zero0 w') ((h.y.keep kb).keep hb) mid_zero.x.n mid_zero.x.d m.y.n m.y.d ((hg.below kb).below hb))
  (fun w' hb=>rsub_any _ _ _ _ _ _ _ _ 0 p2 w' (rat_zero0 w') ((h.z.keep kb).keep hb) mid_zero.x.n mid_zero.x.d m.z.n m.z.d ((hg.below kb).below hb))
 generalize 0 - p0=z0 at *
 generalize 0 - p1=z1 at *
 generalize 0 - p2=z2 at *
 have HS:=Lh HS
 obtain ⟨m0,m1,m2,m3,m4,m5,m6,m7,m8,m9,m10,m11⟩:=Cells.r12 (p:=w.heap.size) C0
 have R:=Lh (show Cells W (w.heap.size+1) (flat [zero4,zero4,zero4]) from C2)
 have Kb:=Lh kb
 clear h m hg kb C0 C2
 unfold vecVal at *
 go_enter Tryz.func29,Tryz.ntmps29
 go_wp2_with fail
 try simp only [hW]
 refine HS.out.mono ?_
 rintro e w1 ⟨x0,x1,x2,rfl,hv,h1⟩
 have R:=Lh (R.out.keep h1)
 have K1:=Lh (below_on Kb.out h1)
 unfold vecVal
 clear m0 m1 m2 m3 m4 m5 m6 m7 m8 m9 m10 m11
 have Hv:=Lh (hv.wrote R.out (put12_heap w1 _ x0 x1 x2).1 (put12_heap w1 _ x0 x1 x2).2)
 have Hf:=Lh (below_put12 K1.out (show w.heap.size≤w.heap.size+1 by omega) x0 x1 x2)
 obtain ⟨z0,z1,z2,z3,z4,z5,z6,z7,z8,z9,z10,z11⟩:=Cells.q12 (p:=w.heap.size+1) R.out
 obtain ⟨f0,f1,f2,f3,f4,f5,f6,f7,f8,f9,f10,f11⟩:=Cells.z12 (p:=w.heap.size+1) R.out
 clear hv h1
 go_wp2
 exact bodyPost_ret (v:=vecVal x0 x1 x2) (by simp [vecVal,results,Tryz.results29,go_sem,z0,z1,z2,z3,z4,z5,z6,z7,z8,z9,z10,z11]) rfl ⟨x0,x1,x2,rfl,Hv.out,Hf.out⟩
end Go.Proofs.YtekhdklbfincpaaGreatDoor
