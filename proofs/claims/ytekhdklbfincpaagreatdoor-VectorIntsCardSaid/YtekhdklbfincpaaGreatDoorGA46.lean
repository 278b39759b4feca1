/- GA46: VcbA -/
import Derived.Test.YtekhdklbfincpaaGreatDoorGA37
set_option maxRecDepth 100000
set_option maxHeartbeats 16000000
namespace Go.Proofs.YtekhdklbfincpaaGreatDoor
open Go.RowKit
theorem vcombSub_any (x0 x1 x2 y0 y1 y2:R4) (q0 q1 q2:Rat) (w:World)
  (h0:∀ w',Below w.heap.size w w'→Calls Tryz.prog 72 #[.agg #[.int .i64 x0.1,.pointer x0.2.1,.int .i64 x0.2.2.1,.pointer x0.2.2.2],.agg #[.int .i64 y0.1,.pointer y0.2.1,.int .i64 y0.2.2.1,.pointer y0.2.2.2]] w' (NewRat q0 w'))
  (h1:∀ w',Below w.heap.size w w'→Calls Tryz.prog 72 #[.agg #[.int .i64 x1.1,.pointer x1.2.1,.int .i64 x1.2.2.1,.pointer x1.2.2.2],.agg #[.int .i64 y1.1,.pointer y1.2.1,.int .i64 y1.2.2.1,.pointer y1.2.2.2]] w' (NewRat q1 w'))
  (h2:∀ w',Below w.heap.size w w'→Calls Tryz.prog 72 #[.agg #[.int .i64 x2.1,.pointer x2.2.1,.int .i64 x2.2.2.1,.pointer x2.2.2.2],.agg #[.int .i64 y2.1,.pointer y2.2.1,.int .i64 y2.2.2.1,.pointer y2.2.2.2]] w' (NewRat q2 w')) :
  Calls Tryz.prog 70 #[vecVal x0 x1 x2,vecVal y0 y1 y2,.func (.func 72) #[] #[]] w (NewVec q0 q1 q2 w):=by
 have HF0:=Lh h0
 have HF1:=Lh h1
 have HF2:=Lh h2
 have kb:=((((Below.refl w.heap.size w).alloc (Nat.le_refl _) (.cells #[.int .i64 x0.1,.pointer x0.2.1,.int .i64 x0.2.2.1,.pointer x0.2.2.2,.int .i64 x1.1,.pointer x1.2.1,.int .i64 x1.2.2.1,.pointer x1.2.2.2,.int .i64 x2.1,.pointer x2.2.1,.int .i64 x2.2.2.1,.pointer x2.2.2.2] 32)).alloc (by simp) (.cells #[.int .i64 y0.1,.pointer y0.2.1,.int .i64 y0.2.2.1,.pointer y0.2.2.2,.int .i64 y1.1,.pointer y1.2.1,.int .i64 y1.2.2.1,.pointer y1.2.2.2,.int .i64 y2.1,.pointer y2.2.1,.int .i64 y2.2.2.1,.pointer y2.2.2.2] 32)).alloc (by simp; omega) (.cells #[.int .i64 0,.pointer none,.int .i64 0,.pointer none,.int .i64 0,.pointer none,.int .i64 0,.pointer none,.int .i64 0,.pointer none,.int .i64 0,.pointer none] 32)).alloc (by simp; omega) (.cells #[.int .i64 0,.pointer none,.int .i64 0,.pointer none,.int .i64 0,.pointer none,.int .i64 0,.pointer none,.int .i64 0,.pointer none,.int .i64 0,.pointer none] 32)
 have C0:=(((box_vec w x0 x1 x2).keep ((Below.refl _ _).alloc (Nat.le_refl _) (.cells #[.int .i64 y0.1,.pointer y0.2.1,.int .i64 y0.2.2.1,.pointer y0.2.2.2,.int .i64 y1.1,.pointer y1.2.1,.int .i64 y1.2.2.1,.pointer y1.2.2.2,.int .i64 y2.1,.pointer y2.2.1,.int .i64 y2.2.2.1,.pointer y2.2.2.2] 32))).keep ((Below.refl _ _).alloc (Nat.le_refl _) (.cells #[.int .i64 0,.pointer none,.int .i64 0,.pointer none,.int .i64 0,.pointer none,.int .i64 0,.pointer none,.int .i64 0,.pointer none,.int .i64 0,.pointer none] 32))).keep ((Below.refl _ _).alloc (Nat.le_refl _) (.cells #[.int .i64 0,.pointer none,.int .i64 0,.pointer none,.int .i64 0,.pointer none,.int .i64 0,.pointer none,.int .i64 0,.pointer none,.int .i64 0,.pointer none] 32))
 have C1:=((box_vec (w.alloc (.cells #[.int .i64 x0.1,.pointer x0.2.1,.int .i64 x0.2.2.1,.pointer x0.2.2.2,.int .i64 x1.1,.pointer x1.2.1,.int .i64 x1.2.2.1,.pointer x1.2.2.2,.int .i64 x2.1,.pointer x2.2.1,.int .i64 x2.2.2.1,.pointer x2.2.2.2] 32)) y0 y1 y2).keep ((Below.refl _ _).alloc (Nat.le_refl _) (.cells #[.int .i64 0,.pointer none,.int .i64 0,.pointer none,.int .i64 0,.pointer none,.int .i64 0,.pointer none,.int .i64 0,.pointer none,.int .i64 0,.pointer none] 32))).keep ((Below.refl _ _).alloc (Nat.le_refl _) (.cells #[.int .i64 0,.pointer none,.int .i64 0,.pointer none,.int .i64 0,.pointer none,.int .i64 0,.pointer none,.int .i64 0,.pointer none,.int .i64 0,.pointer none] 32))
 have C2:=(box_vec ((w.alloc (.cells #[.int .i64 x0.1,.pointer x0.2.1,.int .i64 x0.2.2.1,.pointer x0.2.2.2,.int .i64 x1.1,.pointer x1.2.1,.int .i64 x1.2.2.1,.pointer x1.2.2.2,.int .i64 x2.1,.pointer x2.2.1,.int .i64 x2.2.2.1,.pointer x2.2.2.2] 32)).alloc (.cells #[.int .i64 y0.1,.pointer y0.2.1,.int .i64 y0.2.2.1,.pointer y0.2.2.2,.int .i64 y1.1,.pointer y1.2.1,.int .i64 y1.2.2.1,.pointer y1.2.2.2,.int .i64 y2.1,.pointer y2.2.1,.int .i64 y2.2.2.1,.pointer y2.2.2.2] 32)) zero4 zero4 zero4).keep ((Below.refl _ _).alloc (Nat.le_refl _) (.cells #[.int .i64 0,.pointer none,.int .i64 0,.pointer none,.int .i64 0,.pointer none,.int .i64 0,.pointer none,.int .i64 0,.pointer none,.int .i64 0,.pointer none] 32))
 have C3:=box_vec (((w.alloc (.cells #[.int .i64 x0.1,.pointer x0.2.1,.int .i64 x0.2.2.1,.pointer x0.2.2.2,.int .i64 x1.1,.pointer x1.2.1,.int .i64 x1.2.2.1,.pointer x1.2.2.2,.int .i64 x2.1,.pointer x2.2.1,.int .i64 x2.2.2.1,.pointer x2.2.2.2] 32)).alloc (.cells #[.int .i64 y0.1,.pointer y0.2.1,.int .i64 y0.2.2.1,.pointer y0.2.2.2,.int .i64 y1.1,.pointer y1.2.1,.int .i64 y1.2.2.1,.pointer y1.2.2.2,.int .i64 y2.1,.pointer y2.2.1,.int .i64 y2.2.2.1,.pointer y2.2.2.2] 32)).alloc (.cells #[.int .i64 0,.pointer none,.int .i64 0,.pointer none,.int .i64 0,.pointer none,.int .i64 0,.pointer none,.int .i64 0,.pointer none,.int .i64 0,.pointer none] 32)) zero4 zero4 zero4
 have hs:((((w.alloc (.cells #[.int .i64 x0.1,.pointer x0.2.1,.int .i64 x0.2.2.1,.pointer x0.2.2.2,.int .i64 x1.1,.pointer x1.2.1,.int .i64 x1.2.2.1,.pointer x1.2.2.2,.int .i64 x2.1,.pointer x2.2.1,.int .i64 x2.2.2.1,.pointer x2.2.2.2] 32)).alloc (.cells #[.int .i64 y0.1,.pointer y0.2.1,.int .i64 y0.2.2.1,.pointer y0.2.2.2,.int .i64 y1.1,.pointer y1.2.1,.int .i64 y1.2.2.1,.pointer y1.2.2.2,.int .i64 y2.1,.pointer y2.2.1,.int .i64 y2.2.2.1,.pointer y2.2.2.2] 32)).alloc (.cells #[.int .i64 0,.pointer none,.int .i64 0,.pointer none,.int .i64 0,.pointer none,.int .i64 0,.pointer none,.int .i64 0,.pointer none,.int .i64 0,.pointer none] 32)).alloc (.cells #[.int .i64 0,.pointer none,.int .i64 0,.pointer none,.int .i64 0,.pointer none,.int .i64 0,.pointer none,.int .i64 0,.pointer none,.int .i64 0,.pointer none] 32)).heap.size=w.heap.size+1+1+1+1:=by simp
 simp only [World.size_alloc] at C1 C2 C3
 obtain ⟨W,hW⟩:∃ u,((((w.alloc (.cells #[.int .i64 x0.1,.pointer x0.2.1,.int .i64 x0.2.2.1,.pointer x0.2.2.2,.int .i64 x1.1,.pointer x1.2.1,.int .i64 x1.2.2.1,.pointer x1.2.2.2,.int .i64 x2.1,.pointer x2.2.1,.int .i64 x2.2.2.1,.pointer x2.2.2.2] 32)).alloc (.cells #[.int .i64 y0.1,.pointer y0.2.1,.int .i64 y0.2.2.1,.pointer y0.2.2.2,.int .i64 y1.1,.pointer y1.2.1,.int .i64 y1.2.2.1,.pointer y1.2.2.2,.int .i64 y2.1,.pointer y2.2.1,.int .i64 y2.2.2.1,.pointer y2.2.2.2] 32)).alloc (.cells #[.int .i64 0,.pointer none,.int .i64 0,.pointer none,.int .i64 0,.pointer none,.int .i64 0,.pointer none,.int .i64 0,.pointer none,.int .i64 0,.pointer none] 32)).alloc (.cells #[.int .i64 0,.pointer none,.int .i64 0,.pointer none,.int .i64 0,.pointer none,.int .i64 0,.pointer none,.int .i64 0,.pointer none,.int .i64 0,.pointer none] 32))=u:=⟨_,rfl⟩
 simp only [zero4] at C2 C3
 rw [hW] at kb C0 C1 C2 C3 hs
 have Kb:=Lh kb
 have Hst:=Lh (show VecInv w (w.heap.size+3) [q0,q1,q2] 0 W from ⟨⟨[zero4,zero4,zero4],rfl,C3,fun i r q h=>absurd h (Nat.not_lt_zero _)⟩,C2,kb⟩)
 have HX:=Lh (fun wr (hb:Below (w.heap.size+2) W wr) (i:Nat)=>(hb.cell (p:=⟨w.heap.size,i,none⟩) (by show w.heap.size<w.heap.size+2; omega)).trans (C0.at_ i))
 have HY:=Lh (fun wr (hb:Below (w.heap.size+2) W wr) (i:Nat)=>(hb.cell (p:=⟨w.heap.size+1,i,none⟩) (by show w.heap.size+1<w.heap.size+2; omega)).trans (C1.at_ i))
 have HZ:=Lh (show W.heap.size=w.heap.size+4 from hs)
 clear h0 h1 h2 kb C0 C1 C2 C3 hs
 unfold vecVal
 go_enter Tryz.func70,Tryz.ntmps70
 go_wp2_with fail
 try simp only [hW]
 clear hW
 go_loopw [9] (fun v wr=>∃ (k:Nat) (z:Int),k≤3∧z=(k:Int)∧v= .int .i64 z∧VecInv w (w.heap.size+3) [q0,q1,q2] k wr∧Below (w.heap.size+2) W wr) (fun v _=>3 - (intOf v).toNat)
 case atStart=>exact ⟨0,0,by decide,rfl,rfl,Hst.out,Below.refl _ _⟩
 case round=>
  obtain ⟨k,z,hk,hzk,rfl,⟨⟨rs,hl,hc,hr⟩,hz,hb⟩,hb1⟩:=hrel
  obtain ⟨u0,u1,u2,rfl⟩:∃ x y z,rs=[x,y,z]:=list3 hl
  have Hc:=Lh (show Cells wr (w.heap.size+1+1+1) _ from hc)
  have Hr:=Lh hr
  have Hz:=Lh (show Cells wr (w.heap.size+1+1) _ from hz)
  have Hb:=Lh hb
  have Hb1:=Lh hb1
  have Hsz:=Lh (show w.heap.size+4≤wr.heap.size by have:=hb1.size; rw [HZ.out] at this; exact this)
  clear hl hc hr hz hb hb1
  obtain rfl | rfl | rfl | rfl:k=0∨k=1∨k=2∨k=3:=by omega
  ·obtain rfl:z=0:=hzk
   have HS:=Lh (fun w' (hb:Below wr.heap.size wr w')=>have hb2:=Hb1.out.trans (hb.mono (Nat.le_trans (show w.heap.size+2≤w.heap.size+4 by omega) Hsz.out)); (⟨HX.out w' hb2 0,HX.out w' hb2 1,HX.out w' hb2 2,HX.out w' hb2 3,HY.out w' hb2 0,HY.out w' hb2 1,HY.out w' hb2 2,HY.out w' hb2 3⟩:w'.cell? ⟨w.heap.size,0,none⟩=some (.int .i64 x0.1)∧w'.cell? ⟨w.heap.size,1,none⟩=some (.pointer x0.2.1)∧w'.cell? ⟨w.heap.size,2,none⟩=some (.int .i64 x0.2.2.1)∧w'.cell? ⟨w.heap.size,3,none⟩=some (.pointer x0.2.2.2)∧w'.cell? ⟨w.heap.size+1,0,none⟩=some (.int .i64 y0.1)∧w'.cell? ⟨w.heap.size+1,1,none⟩=some (.pointer y0.2.1)∧w'.cell? ⟨w.heap.size+1,2,none⟩=some (.int .i64 y0.2.2.1)∧w'.cell? ⟨w.heap.size+1,3,none⟩=some (.pointer y0.2.2.2)))
   go_upto_region 5 with fail
   refine Till.begin 10 (fun w'=>w'.cell? ⟨w.heap.size,0,none⟩=some (.int .i64 x0.1)∧w'.cell? ⟨w.heap.size,1,none⟩=some (.pointer x0.2.1)∧w'.cell? ⟨w.heap.size,2,none⟩=some (.int .i64 x0.2.2.1)∧w'.cell? ⟨w.heap.size,3,none⟩=some (.pointer x0.2.2.2)∧w'.cell? ⟨w.heap.size+1,0,none⟩=some (.int .i64 y0.1)∧w'.cell? ⟨w.heap.size+1,1,none⟩=some (.pointer y0.2.1)∧w'.cell? ⟨w.heap.size+1,2,none⟩=some (.int .i64 y0.2.2.1)∧w'.cell? ⟨w.heap.size+1,3,none⟩=some (.pointer y0.2.2.2)) (by kernel_rfl) (HS.out _ (Below.refl _ _).drew) (fun hH=>?_)
   refine Till.tk 0 9 12 (.int .i64 0) hH ?_
   try simp only [Act.put,Pls]
   refine Till.tk 1 8 13 (.func (.func 72) #[] #[]) hH ?_
   try simp only [Act.put,Pls]
   refine Till.tk 2 3 14 (.int .i64 0) hH ?_
   try simp only [Act.put,Pls]
   refine Till.tk 3 4 15 (.pointer (some ⟨w.heap.size,0,none⟩)) hH ?_
   try simp only [Act.put,Pls]
   refine Till.tk 4 8 16 (.agg #[.int .i64 x0.1,.pointer x0.2.1,.int .i64 x0.2.2.1,.pointer x0.2.2.2]) hH ?_
   try simp only [Act.put,Pls]
   refine Till.tk 5 6 17 (.int .i64 0) hH ?_
   try simp only [Act.put,Pls]
   refine Till.tk 6 7 18 (.pointer (some ⟨w.heap.size+1,0,none⟩)) hH ?_
   try simp only [Act.put,Pls]
   refine Till.tk 7 8 19 (.agg #[.int .i64 y0.1,.pointer y0.2.1,.int .i64 y0.2.2.1,.pointer y0.2.2.2]) hH ?_
   try simp only [Act.put,Pls]
   clear hH
   have B0:=Lh (Below.refl wr.heap.size wr).drew
   generalize wr.drew=v0 at B0 ⊢
   refine Till.phaseP [8] #[true,true,true,true,true,true,true,true,true,false,false] 2 (fun a0 dn an v=>∃ t8:Value,an=puts a0 [(20,t8)]∧Below wr.heap.size wr v∧(dn 8=true→RatAt v t8 (q0))) rfl (by kernel_rfl) (by rintro dn an v ⟨_,rfl,hB,_⟩; exact HS.out _ hB) ⟨_,rfl,B0.out,(fun h=>absurd h (by decide))⟩ ⟨⟨_,rfl,?_⟩,trivial⟩ ?_
   ·rintro dn an v ⟨t8,rfl,hB,F8⟩ hi ha K hK
    replace hB:=Lh hB
    replace F8:=Lh F8
    clear ha
    refine Pent.mk ?_
    try simp only [puts,Act.put,Pls]
    go_simp
    refine (HF0.out _ (below_on Hb.out hB.out)).mono ?_
    rintro e v1 ⟨x8,X8,y8,Y8,rfl,hx,g⟩
    replace hx:=Lh hx
    replace g:=Lh g
    go_wp2_with fail
    exact hK.out _ _ ⟨.agg #[.int .i64 x8,.pointer X8,.int .i64 y8,.pointer Y8],(by kernel_rfl),below_on hB.out g.out,fun _=>⟨x8,X8,y8,Y8,rfl,hx.out⟩⟩
   ·rintro dn an v ⟨t8,rfl,hB,F8⟩ hE
    obtain ⟨x8,X8,y8,Y8,rfl,I8⟩:=F8 (hE 8 (by decide))
    clear hE F8
    replace hB:=Lh hB
    replace I8:=Lh I8
    refine Pent.mk ?_
    try simp only [puts,Act.put,Pls]
    replace Hc:=Lh (Hc.out.keep hB.out)
    replace Hz:=Lh (Hz.out.keep hB.out)
    replace Hb:=Lh (below_on Hb.out hB.out)
    replace Hb1:=Lh (Hb1.out.trans (hB.out.mono (Nat.le_trans (show w.heap.size+2≤w.heap.size+4 by omega) Hsz.out)))
    have f0:v.frozen? ⟨w.heap.size+1+1+1,0,none⟩=false:=Hc.out.fz 0
    have m0:v.cell? ⟨w.heap.size+1+1+1,0,none⟩=some (.int .i64 u0.1):=Hc.out.at_ 0
    have f1:v.frozen? ⟨w.heap.size+1+1+1,1,none⟩=false:=Hc.out.fz 1
    have m1:v.cell? ⟨w.heap.size+1+1+1,1,none⟩=some (.pointer u0.2.1):=Hc.out.at_ 1
    have f2:v.frozen? ⟨w.heap.size+1+1+1,2,none⟩=false:=Hc.out.fz 2
    have m2:v.cell? ⟨w.heap.size+1+1+1,2,none⟩=some (.int .i64 u0.2.2.1):=Hc.out.at_ 2
    have f3:v.frozen? ⟨w.heap.size+1+1+1,3,none⟩=false:=Hc.out.fz 3
    have m3:v.cell? ⟨w.heap.size+1+1+1,3,none⟩=some (.pointer u0.2.2.2):=Hc.out.at_ 3
    have Hf:=Lh (vecInv_up (k:=0) (r0:=(x8,X8,y8,Y8)) (by decide) rfl Hc.out rfl I8.out (fun i r q h2 h3 h4=>(Hr.out i r q h2 h3 h4).keep hB.out) Hz.out (show w.heap.size<w.heap.size+1+1+1 by omega) Hb.out)
    have hle:w.heap.size+2≤w.heap.size+1+1+1:=by omega
    have Hg:=Lh ((((Hb1.out.setCell (p:=⟨w.heap.size+1+1+1,0,none⟩) hle (.int .i64 x8)).setCell (p:=⟨w.heap.size+1+1+1,1,none⟩) hle (.pointer X8)).setCell (p:=⟨w.heap.size+1+1+1,2,none⟩) hle (.int .i64 y8)).setCell (p:=⟨w.heap.size+1+1+1,3,none⟩) hle (.pointer Y8))
    clear hle
    refine Till.one (i:=9) (by kernel_rfl) rfl (fun K hK=>?_)
    go_simp
    refine hK.out _ _ (fun _=>HS.out _ hB.out) ?_
    clear hK K
    try simp only [Pls]
    refine Till.one (i:=10) (by kernel_rfl) rfl (fun K hK=>?_)
    go_simp
    refine hK.out _ _ (fun h=>absurd h (by simp)) ?_
    clear hK K
    try simp only [Pls]
    refine Till.done (by kernel_rfl) ?_ _
    go_wp2_with fail
    go_roundw
    case rel=>exact ⟨1,1,by decide,rfl,by go_num,Hf.out,Hg.out⟩
    case measure=>simp [intOf]
  ·obtain rfl:z=1:=hzk
   have HS:=Lh (fun w' (hb:Below wr.heap.size wr w')=>have hb2:=Hb1.out.trans (hb.mono (Nat.le_trans (show w.heap.size+2≤w.heap.size+4 by omega) Hsz.out)); (⟨HX.out w' hb2 4,HX.out w' hb2 5,HX.out w' hb2 6,HX.out w' hb2 7,HY.out w' hb2 4,HY.out w' hb2 5,HY.out w' hb2 6,HY.out w' hb2 7⟩:w'.cell? ⟨w.heap.size,4,none⟩=some (.int .i64 x1.1)∧w'.cell? ⟨w.heap.size,5,none⟩=some (.pointer x1.2.1)∧w'.cell? ⟨w.heap.size,6,none⟩=some (.int .i64 x1.2.2.1)∧w'.cell? ⟨w.heap.size,7,none⟩=some (.pointer x1.2.2.2)∧w'.cell? ⟨w.heap.size+1,4,none⟩=some (.int .i64 y1.1)∧w'.cell? ⟨w.heap.size+1,5,none⟩=some (.pointer y1.2.1)∧w'.cell? ⟨w.heap.size+1,6,none⟩=some (.int .i64 y1.2.2.1)∧w'.cell? ⟨w.heap.size+1,7,none⟩=some (.pointer y1.2.2.2)))
   go_upto_region 5 with fail
   refine Till.begin 10 (fun w'=>w'.cell? ⟨w.heap.size,4,none⟩=some (.int .i64 x1.1)∧w'.cell? ⟨w.heap.size,5,none⟩=some (.pointer x1.2.1)∧w'.cell? ⟨w.heap.size,6,none⟩=some (.int .i64 x1.2.2.1)∧w'.cell? ⟨w.heap.size,7,none⟩=some (.pointer x1.2.2.2)∧w'.cell? ⟨w.heap.size+1,4,none⟩=some (.int .i64 y1.1)∧w'.cell? ⟨w.heap.size+1,5,none⟩=some (.pointer y1.2.1)∧w'.cell? ⟨w.heap.size+1,6,none⟩=some (.int .i64 y1.2.2.1)∧w'.cell? ⟨w.heap.size+1,7,none⟩=some (.pointer y1.2.2.2)) (by kernel_rfl) (HS.out _ (Below.refl _ _).drew) (fun hH=>?_)
   refine Till.tk 0 9 12 (.int .i64 1) hH ?_
   try simp only [Act.put,Pls]
   refine Till.tk 1 8 13 (.func (.func 72) #[] #[]) hH ?_
   try simp only [Act.put,Pls]
   refine Till.tk 2 3 14 (.int .i64 1) hH ?_
   try simp only [Act.put,Pls]
   refine Till.tk 3 4 15 (.pointer (some ⟨w.heap.size,4,none⟩)) hH ?_
   try simp only [Act.put,Pls]
   refine Till.tk 4 8 16 (.agg #[.int .i64 x1.1,.pointer x1.2.1,.int .i64 x1.2.2.1,.pointer x1.2.2.2]) hH ?_
   try simp only [Act.put,Pls]
   refine Till.tk 5 6 17 (.int .i64 1) hH ?_
   try simp only [Act.put,Pls]
   refine Till.tk 6 7 18 (.pointer (some ⟨w.heap.size+1,4,none⟩)) hH ?_
   try simp only [Act.put,Pls]
   refine Till.tk 7 8 19 (.agg #[.int .i64 y1.1,.pointer y1.2.1,.int .i64 y1.2.2.1,.pointer y1.2.2.2]) hH ?_
   try simp only [Act.put,Pls]
   clear hH
   have B0:=Lh (Below.refl wr.heap.size wr).drew
   generalize wr.drew=v0 at B0 ⊢
   refine Till.phaseP [8] #[true,true,true,true,true,true,true,true,true,false,false] 2 (fun a0 dn an v=>∃ t8:Value,an=puts a0 [(20,t8)]∧Below wr.heap.size wr v∧(dn 8=true→RatAt v t8 (q1))) rfl (by kernel_rfl) (by rintro dn an v ⟨_,rfl,hB,_⟩; exact HS.out _ hB) ⟨_,rfl,B0.out,(fun h=>absurd h (by decide))⟩ ⟨⟨_,rfl,?_⟩,trivial⟩ ?_
   ·rintro dn an v ⟨t8,rfl,hB,F8⟩ hi ha K hK
    replace hB:=Lh hB
    replace F8:=Lh F8
    clear ha
    refine Pent.mk ?_
    try simp only [puts,Act.put,Pls]
    go_simp
    refine (HF1.out _ (below_on Hb.out hB.out)).mono ?_
    rintro e v1 ⟨x8,X8,y8,Y8,rfl,hx,g⟩
    replace hx:=Lh hx
    replace g:=Lh g
    go_wp2_with fail
    exact hK.out _ _ ⟨.agg #[.int .i64 x8,.pointer X8,.int .i64 y8,.pointer Y8],(by kernel_rfl),below_on hB.out g.out,fun _=>⟨x8,X8,y8,Y8,rfl,hx.out⟩⟩
   ·rintro dn an v ⟨t8,rfl,hB,F8⟩ hE
    obtain ⟨x8,X8,y8,Y8,rfl,I8⟩:=F8 (hE 8 (by decide))
    clear hE F8
    replace hB:=Lh hB
    replace I8:=Lh I8
    refine Pent.mk ?_
    try simp only [puts,Act.put,Pls]
    replace Hc:=Lh (Hc.out.keep hB.out)
    replace Hz:=Lh (Hz.out.keep hB.out)
    replace Hb:=Lh (below_on Hb.out hB.out)
    replace Hb1:=Lh (Hb1.out.trans (hB.out.mono (Nat.le_trans (show w.heap.size+2≤w.heap.size+4 by omega) Hsz.out)))
    have f0:v.frozen? ⟨w.heap.size+1+1+1,4,none⟩=false:=Hc.out.fz 4
    have m0:v.cell? ⟨w.heap.size+1+1+1,4,none⟩=some (.int .i64 u1.1):=Hc.out.at_ 4
    have f1:v.frozen? ⟨w.heap.size+1+1+1,5,none⟩=false:=Hc.out.fz 5
    have m1:v.cell? ⟨w.heap.size+1+1+1,5,none⟩=some (.pointer u1.2.1):=Hc.out.at_ 5
    have f2:v.frozen? ⟨w.heap.size+1+1+1,6,none⟩=false:=Hc.out.fz 6
    have m2:v.cell? ⟨w.heap.size+1+1+1,6,none⟩=some (.int .i64 u1.2.2.1):=Hc.out.at_ 6
    have f3:v.frozen? ⟨w.heap.size+1+1+1,7,none⟩=false:=Hc.out.fz 7
    have m3:v.cell? ⟨w.heap.size+1+1+1,7,none⟩=some (.pointer u1.2.2.2):=Hc.out.at_ 7
    have Hf:=Lh (vecInv_up (k:=1) (r0:=(x8,X8,y8,Y8)) (by decide) rfl Hc.out rfl I8.out (fun i r q h2 h3 h4=>(Hr.out i r q h2 h3 h4).keep hB.out) Hz.out (show w.heap.size<w.heap.size+1+1+1 by omega) Hb.out)
    have hle:w.heap.size+2≤w.heap.size+1+1+1:=by omega
    have Hg:=Lh ((((Hb1.out.setCell (p:=⟨w.heap.size+1+1+1,4,none⟩) hle (.int .i64 x8)).setCell (p:=⟨w.heap.size+1+1+1,5,none⟩) hle (.pointer X8)).setCell (p:=⟨w.heap.size+1+1+1,6,none⟩) hle (.int .i64 y8)).setCell (p:=⟨w.heap.size+1+1+1,7,none⟩) hle (.pointer Y8))
    clear hle
    refine Till.one (i:=9) (by kernel_rfl) rfl (fun K hK=>?_)
    go_simp
    refine hK.out _ _ (fun _=>HS.out _ hB.out) ?_
    clear hK K
    try simp only [Pls]
    refine Till.one (i:=10) (by kernel_rfl) rfl (fun K hK=>?_)
    go_simp
    refine hK.out _ _ (fun h=>absurd h (by simp)) ?_
    clear hK K
    try simp only [Pls]
    refine Till.done (by kernel_rfl) ?_ _
    go_wp2_with fail
    go_roundw
    case rel=>exact ⟨2,2,by decide,rfl,by go_num,Hf.out,Hg.out⟩
    case measure=>simp [intOf]
  ·obtain rfl:z=2:=hzk
   have HS:=Lh (fun w' (hb:Below wr.heap.size wr w')=>have hb2:=Hb1.out.trans (hb.mono (Nat.le_trans (show w.heap.size+2≤w.heap.size+4 by omega) Hsz.out)); (⟨HX.out w' hb2 8,HX.out w' hb2 9,HX.out w' hb2 10,HX.out w' hb2 11,HY.out w' hb2 8,HY.out w' hb2 9,HY.out w' hb2 10,HY.out w' hb2 11⟩:w'.cell? ⟨w.heap.size,8,none⟩=some (.int .i64 x2.1)∧w'.cell? ⟨w.heap.size,9,none⟩=some (.pointer x2.2.1)∧w'.cell? ⟨w.heap.size,10,none⟩=some (.int .i64 x2.2.2.1)∧w'.cell? ⟨w.heap.size,11,none⟩=some (.pointer x2.2.2.2)∧w'.cell? ⟨w.heap.size+1,8,none⟩=some (.int .i64 y2.1)∧w'.cell? ⟨w.heap.size+1,9,none⟩=some (.pointer y2.2.1)∧w'.cell? ⟨w.heap.size+1,10,none⟩=some (.int .i64 y2.2.2.1)∧w'.cell? ⟨w.heap.size+1,11,none⟩=some (.pointer y2.2.2.2)))
   go_upto_region 5 with fail
   refine Till.begin 10 (fun w'=>w'.cell? ⟨w.heap.size,8,none⟩=some (.int .i64 x2.1)∧w'.cell? ⟨w.heap.size,9,none⟩=some (.pointer x2.2.1)∧w'.cell? ⟨w.heap.size,10,none⟩=some (.int .i64 x2.2.2.1)∧w'.cell? ⟨w.heap.size,11,none⟩=some (.pointer x2.2.2.2)∧w'.cell? ⟨w.heap.size+1,8,none⟩=some (.int .i64 y2.1)∧w'.cell? ⟨w.heap.size+1,9,none⟩=some (.pointer y2.2.1)∧w'.cell? ⟨w.heap.size+1,10,none⟩=some (.int .i64 y2.2.2.1)∧w'.cell? ⟨w.heap.size+1,11,none⟩=some (.pointer y2.2.2.2)) (by kernel_rfl) (HS.out _ (Below.refl _ _).drew) (fun hH=>?_)
   refine Till.tk 0 9 12 (.int .i64 2) hH ?_
   try simp only [Act.put,Pls]
   refine Till.tk 1 8 13 (.func (.func 72) #[] #[]) hH ?_
   try simp only [Act.put,Pls]
   refine Till.tk 2 3 14 (.int .i64 2) hH ?_
   try simp only [Act.put,Pls]
   refine Till.tk 3 4 15 (.pointer (some ⟨w.heap.size,8,none⟩)) hH ?_
   try simp only [Act.put,Pls]
   refine Till.tk 4 8 16 (.agg #[.int .i64 x2.1,.pointer x2.2.1,.int .i64 x2.2.2.1,.pointer x2.2.2.2]) hH ?_
   try simp only [Act.put,Pls]
   refine Till.tk 5 6 17 (.int .i64 2) hH ?_
   try simp only [Act.put,Pls]
   refine Till.tk 6 7 18 (.pointer (some ⟨w.heap.size+1,8,none⟩)) hH ?_
   try simp only [Act.put,Pls]
   refine Till.tk 7 8 19 (.agg #[.int .i64 y2.1,.pointer y2.2.1,.int .i64 y2.2.2.1,.pointer y2.2.2.2]) hH ?_
   try simp only [Act.put,Pls]
   clear hH
   have B0:=Lh (Below.refl wr.heap.size wr).drew
   generalize wr.drew=v0 at B0 ⊢
   refine Till.phaseP [8] #[true,true,true,true,true,true,true,true,true,false,false] 2 (fun a0 dn an v=>∃ t8:Value,an=puts a0 [(20,t8)]∧Below wr.heap.size wr v∧(dn 8=true→RatAt v t8 (q2))) rfl (by kernel_rfl) (by rintro dn an v ⟨_,rfl,hB,_⟩; exact HS.out _ hB) ⟨_,rfl,B0.out,(fun h=>absurd h (by decide))⟩ ⟨⟨_,rfl,?_⟩,trivial⟩ ?_
   ·rintro dn an v ⟨t8,rfl,hB,F8⟩ hi ha K hK
    replace hB:=Lh hB
    replace F8:=Lh F8
    clear ha
    refine Pent.mk ?_
    try simp only [puts,Act.put,Pls]
    go_simp
    refine (HF2.out _ (below_on Hb.out hB.out)).mono ?_
    rintro e v1 ⟨x8,X8,y8,Y8,rfl,hx,g⟩
    replace hx:=Lh hx
    replace g:=Lh g
    go_wp2_with fail
    exact hK.out _ _ ⟨.agg #[.int .i64 x8,.pointer X8,.int .i64 y8,.pointer Y8],(by kernel_rfl),below_on hB.out g.out,fun _=>⟨x8,X8,y8,Y8,rfl,hx.out⟩⟩
   ·rintro dn an v ⟨t8,rfl,hB,F8⟩ hE
    obtain ⟨x8,X8,y8,Y8,rfl,I8⟩:=F8 (hE 8 (by decide))
    clear hE F8
    replace hB:=Lh hB
    replace I8:=Lh I8
    refine Pent.mk ?_
    try simp only [puts,Act.put,Pls]
    replace Hc:=Lh (Hc.out.keep hB.out)
    replace Hz:=Lh (Hz.out.keep hB.out)
    replace Hb:=Lh (below_on Hb.out hB.out)
    replace Hb1:=Lh (Hb1.out.trans (hB.out.mono (Nat.le_trans (show w.heap.size+2≤w.heap.size+4 by omega) Hsz.out)))
    have f0:v.frozen? ⟨w.heap.size+1+1+1,8,none⟩=false:=Hc.out.fz 8
    have m0:v.cell? ⟨w.heap.size+1+1+1,8,none⟩=some (.int .i64 u2.1):=Hc.out.at_ 8
    have f1:v.frozen? ⟨w.heap.size+1+1+1,9,none⟩=false:=Hc.out.fz 9
    have m1:v.cell? ⟨w.heap.size+1+1+1,9,none⟩=some (.pointer u2.2.1):=Hc.out.at_ 9
    have f2:v.frozen? ⟨w.heap.size+1+1+1,10,none⟩=false:=Hc.out.fz 10
    have m2:v.cell? ⟨w.heap.size+1+1+1,10,none⟩=some (.int .i64 u2.2.2.1):=Hc.out.at_ 10
    have f3:v.frozen? ⟨w.heap.size+1+1+1,11,none⟩=false:=Hc.out.fz 11
    have m3:v.cell? ⟨w.heap.size+1+1+1,11,none⟩=some (.pointer u2.2.2.2):=Hc.out.at_ 11
    have Hf:=Lh (vecInv_up (k:=2) (r0:=(x8,X8,y8,Y8)) (by decide) rfl Hc.out rfl I8.out (fun i r q h2 h3 h4=>(Hr.out i r q h2 h3 h4).keep hB.out) Hz.out (show w.heap.size<w.heap.size+1+1+1 by omega) Hb.out)
    have hle:w.heap.size+2≤w.heap.size+1+1+1:=by omega
    have Hg:=Lh ((((Hb1.out.setCell (p:=⟨w.heap.size+1+1+1,8,none⟩) hle (.int .i64 x8)).setCell (p:=⟨w.heap.size+1+1+1,9,none⟩) hle (.pointer X8)).setCell (p:=⟨w.heap.size+1+1+1,10,none⟩) hle (.int .i64 y8)).setCell (p:=⟨w.heap.size+1+1+1,11,none⟩) hle (.pointer Y8))
    clear hle
    refine Till.one (i:=9) (by kernel_rfl) rfl (fun K hK=>?_)
    go_simp
    refine hK.out _ _ (fun _=>HS.out _ hB.out) ?_
    clear hK K
    try simp only [Pls]
    refine Till.one (i:=10) (by kernel_rfl) rfl (fun K hK=>?_)
    go_simp
    refine hK.out _ _ (fun h=>absurd h (by simp)) ?_
    clear hK K
    try simp only [Pls]
    refine Till.done (by kernel_rfl) ?_ _
    go_wp2_with fail
    go_roundw
    case rel=>exact ⟨3,3,by decide,rfl,by go_num,Hf.out,Hg.out⟩
    case measure=>simp [intOf]
  ·obtain rfl:z=3:=hzk
   obtain ⟨m0,m1,m2,m3,m4,m5,m6,m7,m8,m9,m10,m11⟩:=Cells.r12 (p:=w.heap.size+1+1+1) Hc.out
   have hv:VecV wr u0 u1 u2 q0 q1 q2:=⟨Hr.out 0 u0 _ (by decide) rfl rfl,Hr.out 1 u1 _ (by decide) rfl rfl,Hr.out 2 u2 _ (by decide) rfl rfl⟩
   have Hv:=Lh (hv.wrote Hz.out (put12_heap wr _ u0 u1 u2).1 (put12_heap wr _ u0 u1 u2).2)
   have Hf:=Lh (below_put12 Hb.out (show w.heap.size≤w.heap.size+1+1 by omega) u0 u1 u2)
   obtain ⟨z0,z1,z2,z3,z4,z5,z6,z7,z8,z9,z10,z11⟩:=Cells.q12 (p:=w.heap.size+1+1) Hz.out
   obtain ⟨f0,f1,f2,f3,f4,f5,f6,f7,f8,f9,f10,f11⟩:=Cells.z12 (p:=w.heap.size+1+1) Hz.out
   clear hv
   go_wp2
   exact bodyPost_ret (v:=vecVal u0 u1 u2) (by simp [vecVal,results,Tryz.results70,go_sem,z0,z1,z2,z3,z4,z5,z6,z7,z8,z9,z10,z11]) rfl ⟨u0,u1,u2,rfl,Hv.out,Hf.out⟩
end Go.Proofs.YtekhdklbfincpaaGreatDoor
