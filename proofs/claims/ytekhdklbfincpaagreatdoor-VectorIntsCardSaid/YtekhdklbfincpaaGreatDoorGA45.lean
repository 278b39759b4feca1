/- GA45: Vec4 Vec5 Vkno Seq RatT -/
import Derived.Test.YtekhdklbfincpaaGreatDoorGA44
import Derived.Test.YtekhdklbfincpaaGreatDoorGA39
import Derived.Test.YtekhdklbfincpaaGreatDoorGA42
import Derived.Test.YtekhdklbfincpaaGreatDoorGA43
import Derived.Test.YtekhdklbfincpaaGreatDoorGA29
import Derived.Test.YtekhdklbfincpaaGreatDoorGA30
set_option maxRecDepth 100000
set_option maxHeartbeats 16000000
namespace Go.Proofs.YtekhdklbfincpaaGreatDoor
open Go.RowKit
theorem vParse_any (s0 s1 s2:ByteArray) (w:World) (h0:s0.size≤500) (h1:s1.size≤500) (h2:s2.size≤500) (hg:Good w) :
  Calls Tryz.prog 13 #[.agg #[.string s0,.string s1,.string s2]] w (VPost 400 s0 s1 s2 w):=by
 have kb:=((Below.refl w.heap.size w).alloc (Nat.le_refl _) (.cells #[.string s0,.string s1,.string s2] 24)).alloc (by simp) (.cells #[.int .i64 0,.pointer none,.int .i64 0,.pointer none,.int .i64 0,.pointer none,.int .i64 0,.pointer none,.int .i64 0,.pointer none,.int .i64 0,.pointer none] 32)
 have HP:=Lh (vreadP_any s0 s1 s2 _ h0 h1 h2 (hg.below kb))
 have Hz:=Lh (show Cells ((w.alloc (.cells #[.string s0,.string s1,.string s2] 24)).alloc (.cells #[.int .i64 0,.pointer none,.int .i64 0,.pointer none,.int .i64 0,.pointer none,.int .i64 0,.pointer none,.int .i64 0,.pointer none,.int .i64 0,.pointer none] 32)) (w.heap.size+1) (flat [zero4,zero4,zero4]) by have:=Cells.new (w.alloc (.cells #[.string s0,.string s1,.string s2] 24)) #[.int .i64 0,.pointer none,.int .i64 0,.pointer none,.int .i64 0,.pointer none,.int .i64 0,.pointer none,.int .i64 0,.pointer none,.int .i64 0,.pointer none] 32; simp only [World.size_alloc] at this; exact this)
 have K:=Lh kb
 unfold VPost at *
 obtain ⟨E,hE⟩:∃ E,errV 400 s0 s1 s2=E:=⟨_,rfl⟩
 rw [hE] at HP ⊢
 clear h0 h1 h2 hg kb hE
 go_enter Tryz.func13,Tryz.ntmps13
 go_wp2_with fail
 refine HP.out.mono ?_
 rintro e w1 ⟨x0,x1,x2,rfl,g1,g2,hb⟩
 have Hz:=Lh (Hz.out.keep hb)
 have K:=Lh (below_on K.out hb)
 have hh:=put12_heap w1 (w.heap.size+1) x0 x1 x2
 have G1:=Lh (fun h=>(⟨(g1 h).1.wrote Hz.out hh.1 hh.2,(g1 h).2.1.wrote Hz.out hh.1 hh.2,(g1 h).2.2.wrote Hz.out hh.1 hh.2⟩:RatT (put12 w1 (w.heap.size+1) x0 x1 x2) x0 s0∧RatT (put12 w1 (w.heap.size+1) x0 x1 x2) x1 s1∧RatT (put12 w1 (w.heap.size+1) x0 x1 x2) x2 s2))
 have G2:=Lh g2
 have Hf:=Lh (below_put12 K.out (show w.heap.size≤w.heap.size+1 by omega) x0 x1 x2)
 clear g1 g2 hb hh
 have f0:w1.frozen? ⟨w.heap.size+1,0,none⟩=false:=Hz.out.fz 0
 have z0:w1.cell? ⟨w.heap.size+1,0,none⟩=some (.int .i64 0):=Hz.out.at_ 0
 have f1:w1.frozen? ⟨w.heap.size+1,1,none⟩=false:=Hz.out.fz 1
 have z1:w1.cell? ⟨w.heap.size+1,1,none⟩=some (.pointer none):=Hz.out.at_ 1
 have f2:w1.frozen? ⟨w.heap.size+1,2,none⟩=false:=Hz.out.fz 2
 have z2:w1.cell? ⟨w.heap.size+1,2,none⟩=some (.int .i64 0):=Hz.out.at_ 2
 have f3:w1.frozen? ⟨w.heap.size+1,3,none⟩=false:=Hz.out.fz 3
 have z3:w1.cell? ⟨w.heap.size+1,3,none⟩=some (.pointer none):=Hz.out.at_ 3
 have f4:w1.frozen? ⟨w.heap.size+1,4,none⟩=false:=Hz.out.fz 4
 have z4:w1.cell? ⟨w.heap.size+1,4,none⟩=some (.int .i64 0):=Hz.out.at_ 4
 have f5:w1.frozen? ⟨w.heap.size+1,5,none⟩=false:=Hz.out.fz 5
 have z5:w1.cell? ⟨w.heap.size+1,5,none⟩=some (.pointer none):=Hz.out.at_ 5
 have f6:w1.frozen? ⟨w.heap.size+1,6,none⟩=false:=Hz.out.fz 6
 have z6:w1.cell? ⟨w.heap.size+1,6,none⟩=some (.int .i64 0):=Hz.out.at_ 6
 have f7:w1.frozen? ⟨w.heap.size+1,7,none⟩=false:=Hz.out.fz 7
 have z7:w1.cell? ⟨w.heap.size+1,7,none⟩=some (.pointer none):=Hz.out.at_ 7
 have f8:w1.frozen? ⟨w.heap.size+1,8,none⟩=false:=Hz.out.fz 8
 have z8:w1.cell? ⟨w.heap.size+1,8,none⟩=some (.int .i64 0):=Hz.out.at_ 8
 have f9:w1.frozen? ⟨w.heap.size+1,9,none⟩=false:=Hz.out.fz 9
 have z9:w1.cell? ⟨w.heap.size+1,9,none⟩=some (.pointer none):=Hz.out.at_ 9
 have f10:w1.frozen? ⟨w.heap.size+1,10,none⟩=false:=Hz.out.fz 10
 have z10:w1.cell? ⟨w.heap.size+1,10,none⟩=some (.int .i64 0):=Hz.out.at_ 10
 have f11:w1.frozen? ⟨w.heap.size+1,11,none⟩=false:=Hz.out.fz 11
 have z11:w1.cell? ⟨w.heap.size+1,11,none⟩=some (.pointer none):=Hz.out.at_ 11
 unfold vecVal
 go_wp2
 exact bodyPost_ret (v:= .tuple #[vecVal x0 x1 x2,.int .i64 E]) (by simp [vecVal,results,Tryz.results13,go_sem,z0,z1,z2,z3,z4,z5,z6,z7,z8,z9,z10,z11]) rfl ⟨x0,x1,x2,rfl,G1.out,G2.out,Hf.out⟩
theorem vRead_any (s0 s1 s2:ByteArray) (w:World) (h0:s0.size≤500) (h1:s1.size≤500) (h2:s2.size≤500) (hg:Good w) :
  Calls Tryz.prog 14 #[.agg #[.string s0,.string s1,.string s2]] w (VPost 65536 s0 s1 s2 w):=by
 have kb:=((Below.refl w.heap.size w).alloc (Nat.le_refl _) (.cells #[.string s0,.string s1,.string s2] 24)).alloc (by simp) (.cells #[.int .i64 0,.pointer none,.int .i64 0,.pointer none,.int .i64 0,.pointer none,.int .i64 0,.pointer none,.int .i64 0,.pointer none,.int .i64 0,.pointer none] 32)
 have HP:=Lh (vreadR_any s0 s1 s2 _ h0 h1 h2 (hg.below kb))
 have Hz:=Lh (show Cells ((w.alloc (.cells #[.string s0,.string s1,.string s2] 24)).alloc (.cells #[.int .i64 0,.pointer none,.int .i64 0,.pointer none,.int .i64 0,.pointer none,.int .i64 0,.pointer none,.int .i64 0,.pointer none,.int .i64 0,.pointer none] 32)) (w.heap.size+1) (flat [zero4,zero4,zero4]) by have:=Cells.new (w.alloc (.cells #[.string s0,.string s1,.string s2] 24)) #[.int .i64 0,.pointer none,.int .i64 0,.pointer none,.int .i64 0,.pointer none,.int .i64 0,.pointer none,.int .i64 0,.pointer none,.int .i64 0,.pointer none] 32; simp only [World.size_alloc] at this; exact this)
 have K:=Lh kb
 unfold VPost at *
 obtain ⟨E,hE⟩:∃ E,errV 65536 s0 s1 s2=E:=⟨_,rfl⟩
 rw [hE] at HP ⊢
 clear h0 h1 h2 hg kb hE
 go_enter Tryz.func14,Tryz.ntmps14
 go_wp2_with fail
 refine HP.out.mono ?_
 rintro e w1 ⟨x0,x1,x2,rfl,g1,g2,hb⟩
 have Hz:=Lh (Hz.out.keep hb)
 have K:=Lh (below_on K.out hb)
 have hh:=put12_heap w1 (w.heap.size+1) x0 x1 x2
 have G1:=Lh (fun h=>(⟨(g1 h).1.wrote Hz.out hh.1 hh.2,(g1 h).2.1.wrote Hz.out hh.1 hh.2,(g1 h).2.2.wrote Hz.out hh.1 hh.2⟩:RatT (put12 w1 (w.heap.size+1) x0 x1 x2) x0 s0∧RatT (put12 w1 (w.heap.size+1) x0 x1 x2) x1 s1∧RatT (put12 w1 (w.heap.size+1) x0 x1 x2) x2 s2))
 have G2:=Lh g2
 have Hf:=Lh (below_put12 K.out (show w.heap.size≤w.heap.size+1 by omega) x0 x1 x2)
 clear g1 g2 hb hh
 have f0:w1.frozen? ⟨w.heap.size+1,0,none⟩=false:=Hz.out.fz 0
 have z0:w1.cell? ⟨w.heap.size+1,0,none⟩=some (.int .i64 0):=Hz.out.at_ 0
 have f1:w1.frozen? ⟨w.heap.size+1,1,none⟩=false:=Hz.out.fz 1
 have z1:w1.cell? ⟨w.heap.size+1,1,none⟩=some (.pointer none):=Hz.out.at_ 1
 have f2:w1.frozen? ⟨w.heap.size+1,2,none⟩=false:=Hz.out.fz 2
 have z2:w1.cell? ⟨w.heap.size+1,2,none⟩=some (.int .i64 0):=Hz.out.at_ 2
 have f3:w1.frozen? ⟨w.heap.size+1,3,none⟩=false:=Hz.out.fz 3
 have z3:w1.cell? ⟨w.heap.size+1,3,none⟩=some (.pointer none):=Hz.out.at_ 3
 have f4:w1.frozen? ⟨w.heap.size+1,4,none⟩=false:=Hz.out.fz 4
 have z4:w1.cell? ⟨w.heap.size+1,4,none⟩=some (.int .i64 0):=Hz.out.at_ 4
 have f5:w1.frozen? ⟨w.heap.size+1,5,none⟩=false:=Hz.out.fz 5
 have z5:w1.cell? ⟨w.heap.size+1,5,none⟩=some (.pointer none):=Hz.out.at_ 5
 have f6:w1.frozen? ⟨w.heap.size+1,6,none⟩=false:=Hz.out.fz 6
 have z6:w1.cell? ⟨w.heap.size+1,6,none⟩=some (.int .i64 0):=Hz.out.at_ 6
 have f7:w1.frozen? ⟨w.heap.size+1,7,none⟩=false:=Hz.out.fz 7
 have z7:w1.cell? ⟨w.heap.size+1,7,none⟩=some (.pointer none):=Hz.out.at_ 7
 have f8:w1.frozen? ⟨w.heap.size+1,8,none⟩=false:=Hz.out.fz 8
 have z8:w1.cell? ⟨w.heap.size+1,8,none⟩=some (.int .i64 0):=Hz.out.at_ 8
 have f9:w1.frozen? ⟨w.heap.size+1,9,none⟩=false:=Hz.out.fz 9
 have z9:w1.cell? ⟨w.heap.size+1,9,none⟩=some (.pointer none):=Hz.out.at_ 9
 have f10:w1.frozen? ⟨w.heap.size+1,10,none⟩=false:=Hz.out.fz 10
 have z10:w1.cell? ⟨w.heap.size+1,10,none⟩=some (.int .i64 0):=Hz.out.at_ 10
 have f11:w1.frozen? ⟨w.heap.size+1,11,none⟩=false:=Hz.out.fz 11
 have z11:w1.cell? ⟨w.heap.size+1,11,none⟩=some (.pointer none):=Hz.out.at_ 11
 unfold vecVal
 go_wp2
 exact bodyPost_ret (v:= .tuple #[vecVal x0 x1 x2,.int .i64 E]) (by simp [vecVal,results,Tryz.results14,go_sem,z0,z1,z2,z3,z4,z5,z6,z7,z8,z9,z10,z11]) rfl ⟨x0,x1,x2,rfl,G1.out,G2.out,Hf.out⟩
end Go.Proofs.YtekhdklbfincpaaGreatDoor
namespace Go.Proofs.YtekhdklbfincpaaGreatDoor
open Go.RowKit
theorem point_eq (s0 s1 s2:ByteArray) (w:World):(Op.equalIn 10000 24 (.agg #[.string s0,.string s1,.string s2]) (.agg #[.string s0,.string s1,.string s2])).run Tryz.prog w= .ok true w:=by
 have u3:=Tryz.underlying22
 have a3:=Tryz.isAgg22
 have z3:=Tryz.sizeOf22
 rw [show (10000:Nat)=9999+1 from rfl,Op.equalIn]
 simp only [Sem.run_bind,run_underlying Tryz.underlying24,Result.andThen_ok]
 simp only [Std.Legacy.Range.forIn_eq_forIn_range',Std.Legacy.Range.size,Nat.sub_zero,Nat.add_sub_cancel,Nat.div_one,List.range'_succ,List.range'_zero,List.forIn_cons,List.forIn_nil]
 go_simp
end Go.Proofs.YtekhdklbfincpaaGreatDoor
namespace Go.Proofs.YtekhdklbfincpaaGreatDoor
open Go.RowKit
theorem txt_inj {z k:Int} (h:txt z=txt k):z=k:=by
 have h1:=(dl_txt z).2
 have h2:=(dl_txt k).2
 rw [h] at h1
 have e:z.natAbs=k.natAbs:=h1.symm.trans h2
 by_cases hz:z=0
 ·omega
 ·have hk:k≠0:=by omega
  obtain ⟨n,s1,e1,a1,b1⟩:=txt_first hz
  obtain ⟨n',s2,e2,a2,b2⟩:=txt_first hk
  have e3:(txt z)[0]=(txt k)[0]:=by simp only [h]
  rw [e3,e2] at e1
  omega
theorem split_47:∀ {a b c d:List UInt8},(∀ x ∈ a,x≠47)→(∀ x ∈ c,x≠47)→a ++ 47 :: b=c ++ 47 :: d→a=c∧b=d
 | [],b,[],d,_,_,h=>by simpa using h
 | [],b,x :: c,d,_,hc,h=>by
  simp at h
  exact absurd h.1.symm (hc x (by simp))
 | x :: a,b,[],d,ha,_,h=>by
  simp at h
  exact absurd h.1 (ha x (by simp))
 | x :: a,b,y :: c,d,ha,hc,h=>by
  simp at h
  obtain ⟨h1,h2⟩:=split_47 (fun z hz=>ha z (by simp [hz])) (fun z hz=>hc z (by simp [hz])) h.2
  exact ⟨by rw [h.1,h1],h2⟩
theorem ratTxt_inj {p q:Rat} (h:ratTxt p=ratTxt q):p=q:=by
 have hl:∀ (a b:ByteArray),(a ++ ⟨#[47]⟩ ++ b).data.toList=a.data.toList ++ 47 :: b.data.toList:=fun a b=>by simp
 unfold ratTxt at h
 by_cases h1:p.den=1 <;> by_cases h2:q.den=1
 ·rw [if_pos h1,if_pos h2] at h
  exact Rat.ext (txt_inj h) (h1.trans h2.symm)
 ·rw [if_pos h1,if_neg h2] at h
  exact absurd rfl (txt_plain p.num 47 (by rw [h,hl]; simp))
 ·rw [if_neg h1,if_pos h2] at h
  exact absurd rfl (txt_plain q.num 47 (by rw [← h,hl]; simp))
 ·rw [if_neg h1,if_neg h2] at h
  have h3:=congrArg (fun s:ByteArray=>s.data.toList) h
  simp only [hl] at h3
  obtain ⟨e1,e2⟩:=split_47 (txt_plain p.num) (txt_plain q.num) h3
  have e3:=txt_inj (ByteArray.ext (Array.toList_inj.1 e1))
  have e4:=txt_inj (ByteArray.ext (Array.toList_inj.1 e2))
  exact Rat.ext e3 (by omega)
theorem RatT.at_ {w:World} {r:R4} {s:ByteArray} {q:Rat} (h:RatT w r s) (hq:ratTxt q=s):VAt w r q:=by
 obtain ⟨p,hv,ht,_,_⟩:=h
 rw [← ratTxt_inj (ht.trans hq.symm)]
 exact hv
theorem VAt.txt {w:World} {r:R4} {s:ByteArray} {q:Rat} {k:Nat} (h:VAt w r q) (f:Few q k) (hk:k≤3000) (hq:ratTxt q=s):RatT w r s:=⟨q,h,hq,Nat.lt_of_lt_of_le f.n (ten_le hk),Nat.lt_of_lt_of_le f.d (ten_le hk)⟩
structure VarV (w:World) (p:Nat) (x0 x1 x2:R4) (q0 q1 q2:Rat):Prop where
 cells:Cells w p (flat [x0,x1,x2])
 vec:VecV w x0 x1 x2 q0 q1 q2
theorem VarV.keep {w w':World} {p:Nat} {x0 x1 x2:R4} {q0 q1 q2:Rat} (h:VarV w p x0 x1 x2 q0 q1 q2) (hb:Below w.heap.size w w'):VarV w' p x0 x1 x2 q0 q1 q2:=⟨h.cells.keep hb,h.vec.keep hb⟩
theorem VarV.new {w:World} {x0 x1 x2:R4} {q0 q1 q2:Rat} (h:VecV w x0 x1 x2 q0 q1 q2):VarV (w.alloc (.cells #[.int .i64 x0.1,.pointer x0.2.1,.int .i64 x0.2.2.1,.pointer x0.2.2.2,.int .i64 x1.1,.pointer x1.2.1,.int .i64 x1.2.2.1,.pointer x1.2.2.2,.int .i64 x2.1,.pointer x2.2.1,.int .i64 x2.2.2.1,.pointer x2.2.2.2] 32)) w.heap.size x0 x1 x2 q0 q1 q2:=⟨box_vec w x0 x1 x2,h.keep ((Below.refl w.heap.size w).alloc (Nat.le_refl _) _)⟩
theorem few1 (n:Int) (h:n.natAbs<10):Few ((n:Int):Rat) 1:=⟨by rw [Rat.num_intCast]; exact h,by rw [Rat.den_intCast]; decide⟩
theorem known3_true (w:World) (hg:Good w):Calls Tryz.prog 12 #[] w fun e w'=>e= .returned (.bool true)∧Below w.heap.size w w':=by
 have Hw:=Lh (fun w' (hb:Below w.heap.size w w')=>hg.below hb)
 have K0:=Lh (Below.refl w.heap.size w)
 have P1:=Lh (fun W:World=>point_eq ⟨#[45,51]⟩ ⟨#[54]⟩ ⟨#[45,51]⟩ W)
 clear hg
 go_enter Tryz.func12,Tryz.ntmps12
 go_wp2_with fail
 refine (vecOf_any 1 2 3 _ ⟨by decide,by decide⟩ ⟨by decide,by decide⟩ ⟨by decide,by decide⟩).mono ?_
 rintro e w1 ⟨a0,a1,a2,rfl,ha,g⟩
 replace K0:=Lh (below_on K0.out g)
 clear g
 unfold vecVal
 go_wp2_with fail
 refine (vecOf_any 4 5 6 _ ⟨by decide,by decide⟩ ⟨by decide,by decide⟩ ⟨by decide,by decide⟩).mono ?_
 rintro e w2 ⟨b0,b1,b2,rfl,hb,g⟩
 replace K0:=Lh (below_on K0.out g)
 have kv:=(Below.refl w2.heap.size w2).alloc (Nat.le_refl _) (.cells #[.int .i64 a0.1,.pointer a0.2.1,.int .i64 a0.2.2.1,.pointer a0.2.2.2,.int .i64 a1.1,.pointer a1.2.1,.int .i64 a1.2.2.1,.pointer a1.2.2.2,.int .i64 a2.1,.pointer a2.2.1,.int .i64 a2.2.2.1,.pointer a2.2.2.2] 32)
 have kv2:=(Below.refl (w2.alloc (.cells #[.int .i64 a0.1,.pointer a0.2.1,.int .i64 a0.2.2.1,.pointer a0.2.2.2,.int .i64 a1.1,.pointer a1.2.1,.int .i64 a1.2.2.1,.pointer a1.2.2.2,.int .i64 a2.1,.pointer a2.2.1,.int .i64 a2.2.2.1,.pointer a2.2.2.2] 32)).heap.size (w2.alloc (.cells #[.int .i64 a0.1,.pointer a0.2.1,.int .i64 a0.2.2.1,.pointer a0.2.2.2,.int .i64 a1.1,.pointer a1.2.1,.int .i64 a1.2.2.1,.pointer a1.2.2.2,.int .i64 a2.1,.pointer a2.2.1,.int .i64 a2.2.2.1,.pointer a2.2.2.2] 32))).alloc (Nat.le_refl _) (.cells #[.int .i64 b0.1,.pointer b0.2.1,.int .i64 b0.2.2.1,.pointer b0.2.2.2,.int .i64 b1.1,.pointer b1.2.1,.int .i64 b1.2.2.1,.pointer b1.2.2.2,.int .i64 b2.1,.pointer b2.2.1,.int .i64 b2.2.2.1,.pointer b2.2.2.2] 32)
 have hA:=(VarV.new (ha.keep g)).keep kv2
 have hB:=VarV.new (hb.keep kv)
 simp only [World.size_alloc] at hB
 replace K0:=Lh (below_on (below_on K0.out kv) kv2)
 obtain ⟨pA,hpA⟩:∃ p,w2.heap.size=p:=⟨_,rfl⟩
 obtain ⟨W1,hW1⟩:∃ u,(w2.alloc (.cells #[.int .i64 a0.1,.pointer a0.2.1,.int .i64 a0.2.2.1,.pointer a0.2.2.2,.int .i64 a1.1,.pointer a1.2.1,.int .i64 a1.2.2.1,.pointer a1.2.2.2,.int .i64 a2.1,.pointer a2.2.1,.int .i64 a2.2.2.1,.pointer a2.2.2.2] 32)).alloc (.cells #[.int .i64 b0.1,.pointer b0.2.1,.int .i64 b0.2.2.1,.pointer b0.2.2.2,.int .i64 b1.1,.pointer b1.2.1,.int .i64 b1.2.2.1,.pointer b1.2.2.2,.int .i64 b2.1,.pointer b2.2.1,.int .i64 b2.2.2.1,.pointer b2.2.2.2] 32)=u:=⟨_,rfl⟩
 rw [hW1] at hA hB K0
 rw [hpA] at hA hB
 have A:=Lh hA
 have B:=Lh hB
 clear kv kv2 hA hB ha hb g
 unfold vecVal
 obtain ⟨Ac0,Ac1,Ac2,Ac3,Ac4,Ac5,Ac6,Ac7,Ac8,Ac9,Ac10,Ac11⟩:=Cells.r12 (p:=pA) A.out.cells
 obtain ⟨Bc0,Bc1,Bc2,Bc3,Bc4,Bc5,Bc6,Bc7,Bc8,Bc9,Bc10,Bc11⟩:=Cells.r12 (p:=pA+1) B.out.cells
 have HC:=vcross_any a0 a1 a2 b0 b1 b2 ((1:Int):Rat) ((2:Int):Rat) ((3:Int):Rat) ((4:Int):Rat) ((5:Int):Rat) ((6:Int):Rat) 1 1 W1 A.out.vec B.out.vec ⟨few1 1 (by decide),few1 2 (by decide),few1 3 (by decide)⟩ ⟨few1 4 (by decide),few1 5 (by decide),few1 6 (by decide)⟩ (by decide) (Hw.out _ K0.out)
 rw [show ((2:Int):Rat)*((6:Int):Rat) - ((3:Int):Rat)*((5:Int):Rat)=(((-3):Int):Rat) by decide +kernel,show ((3:Int):Rat)*((4:Int):Rat) - ((1:Int):Rat)*((6:Int):Rat)=((6:Int):Rat) by decide +kernel,show ((1:Int):Rat)*((5:Int):Rat) - ((2:Int):Rat)*((4:Int):Rat)=(((-3):Int):Rat) by decide +kernel] at HC
 replace HC:=Lh HC
 go_wp2_with fail
 try simp only [hpA,hW1]
 refine (HC.out).mono ?_
 rintro e w3 ⟨c0,c1,c2,rfl,hc,g⟩
 replace A:=Lh (A.out.keep g)
 replace B:=Lh (B.out.keep g)
 replace K0:=Lh (below_on K0.out g)
 clear Ac0 Ac1 Ac2 Ac3 Ac4 Ac5 Ac6 Ac7 Ac8 Ac9 Ac10 Ac11 Bc0 Bc1 Bc2 Bc3 Bc4 Bc5 Bc6 Bc7 Bc8 Bc9 Bc10 Bc11
 clear hpA hW1 HC
 unfold vecVal
 have kv:=(Below.refl w3.heap.size w3).alloc (Nat.le_refl _) (.cells #[.int .i64 c0.1,.pointer c0.2.1,.int .i64 c0.2.2.1,.pointer c0.2.2.2,.int .i64 c1.1,.pointer c1.2.1,.int .i64 c1.2.2.1,.pointer c1.2.2.2,.int .i64 c2.1,.pointer c2.2.1,.int .i64 c2.2.2.1,.pointer c2.2.2.2] 32)
 have hV:=VarV.new hc
 replace A:=Lh (A.out.keep kv)
 replace B:=Lh (B.out.keep kv)
 replace K0:=Lh (below_on K0.out kv)
 obtain ⟨pC,hpC⟩:∃ p,w3.heap.size=p:=⟨_,rfl⟩
 obtain ⟨W2,hW2⟩:∃ u,w3.alloc (.cells #[.int .i64 c0.1,.pointer c0.2.1,.int .i64 c0.2.2.1,.pointer c0.2.2.2,.int .i64 c1.1,.pointer c1.2.1,.int .i64 c1.2.2.1,.pointer c1.2.2.2,.int .i64 c2.1,.pointer c2.2.1,.int .i64 c2.2.2.1,.pointer c2.2.2.2] 32)=u:=⟨_,rfl⟩
 rw [hW2] at hV K0 A B
 rw [hpC] at hV
 have C:=Lh hV
 clear kv hV hc g
 obtain ⟨Cc0,Cc1,Cc2,Cc3,Cc4,Cc5,Cc6,Cc7,Cc8,Cc9,Cc10,Cc11⟩:=Cells.r12 (p:=pC) C.out.cells
 have HC:=vprimI_any c0 c1 c2 (((-3):Int):Rat) ((6:Int):Rat) (((-3):Int):Rat) 3 W2 C.out.vec ⟨(few1 (-3) (by decide)).mid (by decide),(few1 6 (by decide)).mid (by decide),(few1 (-3) (by decide)).mid (by decide)⟩ (by decide +kernel) (by decide +kernel) (by decide +kernel) (by decide +kernel) (by decide +kernel) (by decide +kernel) (by decide)
 rw [show (((((-3):Int):Rat).num / ((3:Nat):Int):Int):Rat)=(((-1):Int):Rat) by decide +kernel,show ((((6:Int):Rat).num / ((3:Nat):Int):Int):Rat)=((2:Int):Rat) by decide +kernel] at HC
 replace HC:=Lh HC
 go_wp2_with fail
 try simp only [hpC,hW2]
 refine (HC.out).mono ?_
 rintro e w4 ⟨d0,d1,d2,rfl,hd,g⟩
 replace A:=Lh (A.out.keep g)
 replace B:=Lh (B.out.keep g)
 replace C:=Lh (C.out.keep g)
 replace K0:=Lh (below_on K0.out g)
 clear Cc0 Cc1 Cc2 Cc3 Cc4 Cc5 Cc6 Cc7 Cc8 Cc9 Cc10 Cc11
 clear hpC hW2 HC
 unfold vecVal
 have kv:=(Below.refl w4.heap.size w4).alloc (Nat.le_refl _) (.cells #[.int .i64 d0.1,.pointer d0.2.1,.int .i64 d0.2.2.1,.pointer d0.2.2.2,.int .i64 d1.1,.pointer d1.2.1,.int .i64 d1.2.2.1,.pointer d1.2.2.2,.int .i64 d2.1,.pointer d2.2.1,.int .i64 d2.2.2.1,.pointer d2.2.2.2] 32)
 have hV:=VarV.new hd
 replace A:=Lh (A.out.keep kv)
 replace B:=Lh (B.out.keep kv)
 replace C:=Lh (C.out.keep kv)
 replace K0:=Lh (below_on K0.out kv)
 obtain ⟨pD,hpD⟩:∃ p,w4.heap.size=p:=⟨_,rfl⟩
 obtain ⟨W3,hW3⟩:∃ u,w4.alloc (.cells #[.int .i64 d0.1,.pointer d0.2.1,.int .i64 d0.2.2.1,.pointer d0.2.2.2,.int .i64 d1.1,.pointer d1.2.1,.int .i64 d1.2.2.1,.pointer d1.2.2.2,.int .i64 d2.1,.pointer d2.2.1,.int .i64 d2.2.2.1,.pointer d2.2.2.2] 32)=u:=⟨_,rfl⟩
 rw [hW3] at hV K0 A B C
 rw [hpD] at hV
 have D:=Lh hV
 clear kv hV hd g
 have HC:=vParse_any ⟨#[49,47,50]⟩ ⟨#[45,49,47,51]⟩ ⟨#[48]⟩ W3 (by decide) (by decide) (by decide) (Hw.out _ K0.out)
 unfold VPost at HC
 rw [show errV 400 ⟨#[49,47,50]⟩ ⟨#[45,49,47,51]⟩ ⟨#[48]⟩=0 by decide +kernel] at HC
 replace HC:=Lh HC
 go_wp2_with fail
 try simp only [hpD,hW3]
 refine (HC.out).mono ?_
 rintro e w5 ⟨h0,h1,h2,rfl,hr,_,g⟩
 replace A:=Lh (A.out.keep g)
 replace B:=Lh (B.out.keep g)
 replace C:=Lh (C.out.keep g)
 replace D:=Lh (D.out.keep g)
 replace K0:=Lh (below_on K0.out g)
 clear hpD hW3 HC
 have hh:VecV w5 h0 h1 h2 (1 / 2:Rat) (-1 / 3:Rat) (0:Rat):=⟨(hr (by trivial)).1.at_ (by decide +kernel),(hr (by trivial)).2.1.at_ (by decide +kernel),(hr (by trivial)).2.2.at_ (by decide +kernel)⟩
 clear hr
 unfold vecVal
 have kv:=(Below.refl w5.heap.size w5).alloc (Nat.le_refl _) (.cells #[.int .i64 h0.1,.pointer h0.2.1,.int .i64 h0.2.2.1,.pointer h0.2.2.2,.int .i64 h1.1,.pointer h1.2.1,.int .i64 h1.2.2.1,.pointer h1.2.2.2,.int .i64 h2.1,.pointer h2.2.1,.int .i64 h2.2.2.1,.pointer h2.2.2.2] 32)
 have hV:=VarV.new hh
 replace A:=Lh (A.out.keep kv)
 replace B:=Lh (B.out.keep kv)
 replace C:=Lh (C.out.keep kv)
 replace D:=Lh (D.out.keep kv)
 replace K0:=Lh (below_on K0.out kv)
 obtain ⟨pE,hpE⟩:∃ p,w5.heap.size=p:=⟨_,rfl⟩
 obtain ⟨W4,hW4⟩:∃ u,w5.alloc (.cells #[.int .i64 h0.1,.pointer h0.2.1,.int .i64 h0.2.2.1,.pointer h0.2.2.2,.int .i64 h1.1,.pointer h1.2.1,.int .i64 h1.2.2.1,.pointer h1.2.2.2,.int .i64 h2.1,.pointer h2.2.1,.int .i64 h2.2.2.1,.pointer h2.2.2.2] 32)=u:=⟨_,rfl⟩
 rw [hW4] at hV K0 A B C D
 rw [hpE] at hV
 have E:=Lh hV
 clear kv hV hh g
 obtain ⟨Ec0,Ec1,Ec2,Ec3,Ec4,Ec5,Ec6,Ec7,Ec8,Ec9,Ec10,Ec11⟩:=Cells.r12 (p:=pE) E.out.cells
 have HC:=vprimF_any h0 h1 h2 (1 / 2:Rat) (-1 / 3:Rat) (0:Rat) 1 W4 E.out.vec ⟨⟨by decide +kernel,by decide +kernel⟩,⟨by decide +kernel,by decide +kernel⟩,⟨by decide +kernel,by decide +kernel⟩⟩ (by decide) (by decide +kernel) (by decide +kernel) (by decide +kernel) (Hw.out _ K0.out)
 rw [show Rat.divInt (unK (qK (1 / 2:Rat) (-1 / 3:Rat) (0:Rat)) 3) (ovK (qK (1 / 2:Rat) (-1 / 3:Rat) (0:Rat)) 3)*(1 / 2:Rat)=((3:Int):Rat) by decide +kernel,show Rat.divInt (unK (qK (1 / 2:Rat) (-1 / 3:Rat) (0:Rat)) 3) (ovK (qK (1 / 2:Rat) (-1 / 3:Rat) (0:Rat)) 3)*(-1 / 3:Rat)=(((-2):Int):Rat) by decide +kernel,show Rat.divInt (unK (qK (1 / 2:Rat) (-1 / 3:Rat) (0:Rat)) 3) (ovK (qK (1 / 2:Rat) (-1 / 3:Rat) (0:Rat)) 3)*(0:Rat)=((0:Int):Rat) by decide +kernel] at HC
 replace HC:=Lh HC
 go_wp2_with fail
 try simp only [hpE,hW4]
 refine (HC.out).mono ?_
 rintro e w6 ⟨f0,f1,f2,rfl,hf,g⟩
 replace A:=Lh (A.out.keep g)
 replace B:=Lh (B.out.keep g)
 replace C:=Lh (C.out.keep g)
 replace D:=Lh (D.out.keep g)
 replace E:=Lh (E.out.keep g)
 replace K0:=Lh (below_on K0.out g)
 clear Ec0 Ec1 Ec2 Ec3 Ec4 Ec5 Ec6 Ec7 Ec8 Ec9 Ec10 Ec11
 clear hpE hW4 HC
 unfold vecVal
 have kv:=(Below.refl w6.heap.size w6).alloc (Nat.le_refl _) (.cells #[.int .i64 f0.1,.pointer f0.2.1,.int .i64 f0.2.2.1,.pointer f0.2.2.2,.int .i64 f1.1,.pointer f1.2.1,.int .i64 f1.2.2.1,.pointer f1.2.2.2,.int .i64 f2.1,.pointer f2.2.1,.int .i64 f2.2.2.1,.pointer f2.2.2.2] 32)
 have hV:=VarV.new hf
 replace A:=Lh (A.out.keep kv)
 replace B:=Lh (B.out.keep kv)
 replace C:=Lh (C.out.keep kv)
 replace D:=Lh (D.out.keep kv)
 replace K0:=Lh (below_on K0.out kv)
 obtain ⟨pF,hpF⟩:∃ p,w6.heap.size=p:=⟨_,rfl⟩
 obtain ⟨W5,hW5⟩:∃ u,w6.alloc (.cells #[.int .i64 f0.1,.pointer f0.2.1,.int .i64 f0.2.2.1,.pointer f0.2.2.2,.int .i64 f1.1,.pointer f1.2.1,.int .i64 f1.2.2.1,.pointer f1.2.2.2,.int .i64 f2.1,.pointer f2.2.1,.int .i64 f2.2.2.1,.pointer f2.2.2.2] 32)=u:=⟨_,rfl⟩
 rw [hW5] at hV K0 A B C D
 rw [hpF] at hV
 have F:=Lh hV
 clear kv hV hf g
 obtain ⟨Ac0,Ac1,Ac2,Ac3,Ac4,Ac5,Ac6,Ac7,Ac8,Ac9,Ac10,Ac11⟩:=Cells.r12 (p:=pA) A.out.cells
 obtain ⟨Bc0,Bc1,Bc2,Bc3,Bc4,Bc5,Bc6,Bc7,Bc8,Bc9,Bc10,Bc11⟩:=Cells.r12 (p:=pA+1) B.out.cells
 have HC:=vdot_any a0 a1 a2 b0 b1 b2 ((1:Int):Rat) ((2:Int):Rat) ((3:Int):Rat) ((4:Int):Rat) ((5:Int):Rat) ((6:Int):Rat) 1 1 W5 A.out.vec B.out.vec ⟨few1 1 (by decide),few1 2 (by decide),few1 3 (by decide)⟩ ⟨few1 4 (by decide),few1 5 (by decide),few1 6 (by decide)⟩ (by decide) (Hw.out _ K0.out)
 rw [show ((1:Int):Rat)*((4:Int):Rat)+((2:Int):Rat)*((5:Int):Rat)+((3:Int):Rat)*((6:Int):Rat)=((32:Int):Rat) by decide +kernel] at HC
 replace HC:=Lh HC
 go_wp2_with fail
 try simp only [hpF,hW5]
 refine (HC.out).mono ?_
 rintro e w7 ⟨ra,rP,rb,rQ,rfl,hr,g⟩
 replace A:=Lh (A.out.keep g)
 replace B:=Lh (B.out.keep g)
 replace C:=Lh (C.out.keep g)
 replace D:=Lh (D.out.keep g)
 replace F:=Lh (F.out.keep g)
 replace K0:=Lh (below_on K0.out g)
 clear Ac0 Ac1 Ac2 Ac3 Ac4 Ac5 Ac6 Ac7 Ac8 Ac9 Ac10 Ac11 Bc0 Bc1 Bc2 Bc3 Bc4 Bc5 Bc6 Bc7 Bc8 Bc9 Bc10 Bc11
 clear hpF hW5 HC g A B
 have HC:=Lh (rint_any ra rP rb rQ ((32:Int):Rat) w7 hr)
 clear hr
 go_wp2_with fail
 refine (HC.out).mono ?_
 rintro e w8 ⟨⟨n,is,rfl,hn⟩,g⟩
 replace C:=Lh (C.out.keep g)
 replace D:=Lh (D.out.keep g)
 replace F:=Lh (F.out.keep g)
 replace K0:=Lh (below_on K0.out g)
 clear HC g
 obtain ⟨rfl,rfl⟩:=hn.1 ⟨by decide +kernel,by decide +kernel,by decide +kernel⟩
 rw [show ((32:Int):Rat).num=32 by decide +kernel]
 clear hn
 obtain ⟨Cc0,Cc1,Cc2,Cc3,Cc4,Cc5,Cc6,Cc7,Cc8,Cc9,Cc10,Cc11⟩:=Cells.r12 (p:=pC) C.out.cells
 have HC:=Lh (vecPoint_any c0 c1 c2 ⟨#[45,51]⟩ ⟨#[54]⟩ ⟨#[45,51]⟩ _ (C.out.vec.x.txt (few1 (-3) (by decide)) (by decide) (by decide +kernel)) (C.out.vec.y.txt (few1 6 (by decide)) (by decide) (by decide +kernel)) (C.out.vec.z.txt (few1 (-3) (by decide)) (by decide) (by decide +kernel)) (Hw.out _ K0.out))
 have hq:=fun W:World=>point_eq ⟨#[45,51]⟩ ⟨#[54]⟩ ⟨#[45,51]⟩ W
 go_wp2_with fail
 refine (HC.out).mono ?_
 rintro e w9 ⟨rfl,g⟩
 replace C:=Lh (C.out.keep g)
 replace D:=Lh (D.out.keep g)
 replace F:=Lh (F.out.keep g)
 replace K0:=Lh (below_on K0.out g)
 clear HC g
 clear Cc0 Cc1 Cc2 Cc3 Cc4 Cc5 Cc6 Cc7 Cc8 Cc9 Cc10 Cc11
 clear C
 obtain ⟨Dc0,Dc1,Dc2,Dc3,Dc4,Dc5,Dc6,Dc7,Dc8,Dc9,Dc10,Dc11⟩:=Cells.r12 (p:=pD) D.out.cells
 have HC:=Lh (vecPoint_any d0 d1 d2 ⟨#[45,49]⟩ ⟨#[50]⟩ ⟨#[45,49]⟩ _ (D.out.vec.x.txt (few1 (-1) (by decide)) (by decide) (by decide +kernel)) (D.out.vec.y.txt (few1 2 (by decide)) (by decide) (by decide +kernel)) (D.out.vec.z.txt (few1 (-1) (by decide)) (by decide) (by decide +kernel)) (Hw.out _ K0.out))
 have hq:=fun W:World=>point_eq ⟨#[45,49]⟩ ⟨#[50]⟩ ⟨#[45,49]⟩ W
 go_wp2_with fail
 refine (HC.out).mono ?_
 rintro e v1 ⟨rfl,g⟩
 replace D:=Lh (D.out.keep g)
 replace F:=Lh (F.out.keep g)
 replace K0:=Lh (below_on K0.out g)
 clear HC g
 clear Dc0 Dc1 Dc2 Dc3 Dc4 Dc5 Dc6 Dc7 Dc8 Dc9 Dc10 Dc11
 clear D
 obtain ⟨Fc0,Fc1,Fc2,Fc3,Fc4,Fc5,Fc6,Fc7,Fc8,Fc9,Fc10,Fc11⟩:=Cells.r12 (p:=pF) F.out.cells
 have HC:=Lh (vecPoint_any f0 f1 f2 ⟨#[51]⟩ ⟨#[45,50]⟩ ⟨#[48]⟩ _ (F.out.vec.x.txt (few1 3 (by decide)) (by decide) (by decide +kernel)) (F.out.vec.y.txt (few1 (-2) (by decide)) (by decide) (by decide +kernel)) (F.out.vec.z.txt (few1 0 (by decide)) (by decide) (by decide +kernel)) (Hw.out _ K0.out))
 have hq:=fun W:World=>point_eq ⟨#[51]⟩ ⟨#[45,50]⟩ ⟨#[48]⟩ W
 go_wp2_with fail
 refine (HC.out).mono ?_
 rintro e v2 ⟨rfl,g⟩
 replace F:=Lh (F.out.keep g)
 replace K0:=Lh (below_on K0.out g)
 clear HC g
 clear Fc0 Fc1 Fc2 Fc3 Fc4 Fc5 Fc6 Fc7 Fc8 Fc9 Fc10 Fc11
 go_wp2
 go_ret
 exact ⟨rfl,K0.out⟩
end Go.Proofs.YtekhdklbfincpaaGreatDoor
namespace Go.Proofs.YtekhdklbfincpaaGreatDoor
open Go.RowKit
section
variable {P:Program} {md:Region.Mode} {ops:Array Oper} {Q:Exit→Act→World→Prop} {S:World→Prop} {k:Nat}
theorem Till.sk (i m:Nat) (d:Tmp) {oi:Oper} {n:Nat} {l:Array Bool} {a:Act} {w:World} (hS:S w) (h:Till P md ops Q S k n (l.setIfInBounds i true) (a.put (some d) undef) w) (hi:ops[i]?=some oi:=by exact rfl) (hd:oi.dst=some d:=by exact rfl) (hs:Region.noSelect ops=true:=by kernel_rfl) (hf:Region.free md ops l i=true:=by kernel_rfl) (hr:(Region.ready md ops l).contains i=true:=by kernel_rfl) (hm:waits md ops m i=true:=by kernel_rfl) (hmk:(m == k || waits md ops k m)=true:=by kernel_rfl) (hik:(i == k || i == m)=false:=by kernel_rfl) (hkl:(l.getD k true || l.getD m true)=false:=by kernel_rfl)
  (hQ:∀ c a w,Q (.panic c) (a.put (some d) undef) w→Q (.panic c) a w:=by exact fun _ _ _ h=>h) (hw:Region.wanted oi (yielded ops a.tmps)=false:=by kernel_rfl):Till P md ops Q S k (n+1) l a w:=by
 rw [Bool.or_eq_false_iff] at hkl hik
 rw [← hd] at h hQ
 exact Till.first hi hs hQ hm (by simpa using hmk) (by simpa using hik.1) (by simpa using hik.2) n l a w hkl.2 (Region.free_spec hi hf) (by simpa using hr) hkl.1 (Or.inr ⟨hw,rfl⟩) hS h
theorem Till.rek {k':Nat}:∀ (n:Nat) (l:Array Bool) (a:Act) (w:World),l.getD k true=true→Till P md ops Q S k' n l a w→Till P md ops Q S k n l a w
 | 0,_,_,_,_,h=>h
 | n+1,l,a,w,hk,h=>⟨h.1,fun i hi=>wpOp_mono (fun b v hb=>by
   have e:(l.setIfInBounds i true).getD k true=true:=by
    rw [Array.getD_eq_getD_getElem?,Array.getElem?_setIfInBounds]
    rw [Array.getD_eq_getD_getElem?] at hk
    split
    ·split <;> rfl
    ·exact hk
   exact ⟨fun hf=>absurd (e.symm.trans hf) (by decide),Till.rek n _ b v e hb.2⟩) (h.2 i hi)⟩
end
end Go.Proofs.YtekhdklbfincpaaGreatDoor
namespace Go.Proofs.YtekhdklbfincpaaGreatDoor
open Go.RowKit
end Go.Proofs.YtekhdklbfincpaaGreatDoor
