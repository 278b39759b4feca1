/- GA43: Vdot -/
import Derived.Test.YtekhdklbfincpaaGreatDoorGA34
import Derived.Test.YtekhdklbfincpaaGreatDoorGA41
import Derived.Test.YtekhdklbfincpaaGreatDoorGA36
set_option maxRecDepth 100000
set_option maxHeartbeats 16000000
namespace Go.Proofs.YtekhdklbfincpaaGreatDoor
open Go.RowKit
def dotK (l0 l1 l2 o0 o1 o2:Rat):Nat→Rat
 | 0=>0
 | 1=>l0*o0
 | 2=>l0*o0+l1*o1
 | _=>l0*o0+l1*o1+l2*o2
theorem vdot_any (x0 x1 x2 y0 y1 y2:R4) (l0 l1 l2 o0 o1 o2:Rat) (m n:Nat) (w:World) (h:VecV w x0 x1 x2 l0 l1 l2) (h':VecV w y0 y1 y2 o0 o1 o2) (f:Few3 m l0 l1 l2) (f':Few3 n o0 o1 o2) (hm:m+n+(m+n)+1≤900) (hg:Good w) :
  Calls Tryz.prog 35 #[vecVal x0 x1 x2,vecVal y0 y1 y2] w (NewRat (l0*o0+l1*o1+l2*o2) w):=by
 have HM0:=Lh (fun w' (hb:Below w.heap.size w w')=>rmul_any _ _ _ _ _ _ _ _ l0 o0 w' (h.x.keep hb) (h'.x.keep hb) (f.x.n47 (by omega)) (f.x.d47 (by omega)) (f'.x.n47 (by omega)) (f'.x.d47 (by omega)) (hg.below hb))
 have HM1:=Lh (fun w' (hb:Below w.heap.size w w')=>rmul_any _ _ _ _ _ _ _ _ l1 o1 w' (h.y.keep hb) (h'.y.keep hb) (f.y.n47 (by omega)) (f.y.d47 (by omega)) (f'.y.n47 (by omega)) (f'.y.d47 (by omega)) (hg.below hb))
 have HM2:=Lh (fun w' (hb:Below w.heap.size w w')=>rmul_any _ _ _ _ _ _ _ _ l2 o2 w' (h.z.keep hb) (h'.z.keep hb) (f.z.n47 (by omega)) (f.z.d47 (by omega)) (f'.z.n47 (by omega)) (f'.z.d47 (by omega)) (hg.below hb))
 have HA1:=Lh (fun c C d D e E g G w' (hb:Below w.heap.size w w') h1 h2=>radd_any c C d D e E g G (l0*o0) (l1*o1) w' h1 h2 ((f.x.mul f'.x).n47 (by omega)) ((f.x.mul f'.x).d47 (by omega)) ((f.y.mul f'.y).n47 (by omega)) ((f.y.mul f'.y).d47 (by omega)) (hg.below hb))
 have HA2:=Lh (fun c C d D e E g G w' (hb:Below w.heap.size w w') h1 h2=>radd_any c C d D e E g G (l0*o0+l1*o1) (l2*o2) w' h1 h2 (((f.x.mul f'.x).add (f.y.mul f'.y)).n47 (by omega)) (((f.x.mul f'.x).add (f.y.mul f'.y)).d47 (by omega)) ((f.z.mul f'.z).n47 (by omega)) ((f.z.mul f'.z).d47 (by omega)) (hg.below hb))
 have kb:=(((Below.refl w.heap.size w).alloc (Nat.le_refl _) (.cells #[.int .i64 x0.1,.pointer x0.2.1,.int .i64 x0.2.2.1,.pointer x0.2.2.2,.int .i64 x1.1,.pointer x1.2.1,.int .i64 x1.2.2.1,.pointer x1.2.2.2,.int .i64 x2.1,.pointer x2.2.1,.int .i64 x2.2.2.1,.pointer x2.2.2.2] 32)).alloc (by simp) (.cells #[.int .i64 y0.1,.pointer y0.2.1,.int .i64 y0.2.2.1,.pointer y0.2.2.2,.int .i64 y1.1,.pointer y1.2.1,.int .i64 y1.2.2.1,.pointer y1.2.2.2,.int .i64 y2.1,.pointer y2.2.1,.int .i64 y2.2.2.1,.pointer y2.2.2.2] 32)).alloc (by simp; omega) (.cells #[.int .i64 0,.pointer none,.int .i64 0,.pointer none] 30)
 have C0:=((box_vec w x0 x1 x2).keep ((Below.refl _ _).alloc (Nat.le_refl _) (.cells #[.int .i64 y0.1,.pointer y0.2.1,.int .i64 y0.2.2.1,.pointer y0.2.2.2,.int .i64 y1.1,.pointer y1.2.1,.int .i64 y1.2.2.1,.pointer y1.2.2.2,.int .i64 y2.1,.pointer y2.2.1,.int .i64 y2.2.2.1,.pointer y2.2.2.2] 32))).keep ((Below.refl _ _).alloc (Nat.le_refl _) (.cells #[.int .i64 0,.pointer none,.int .i64 0,.pointer none] 30))
 have C1:=(box_vec (w.alloc (.cells #[.int .i64 x0.1,.pointer x0.2.1,.int .i64 x0.2.2.1,.pointer x0.2.2.2,.int .i64 x1.1,.pointer x1.2.1,.int .i64 x1.2.2.1,.pointer x1.2.2.2,.int .i64 x2.1,.pointer x2.2.1,.int .i64 x2.2.2.1,.pointer x2.2.2.2] 32)) y0 y1 y2).keep ((Below.refl _ _).alloc (Nat.le_refl _) (.cells #[.int .i64 0,.pointer none,.int .i64 0,.pointer none] 30))
 have C2:=Cells.new ((w.alloc (.cells #[.int .i64 x0.1,.pointer x0.2.1,.int .i64 x0.2.2.1,.pointer x0.2.2.2,.int .i64 x1.1,.pointer x1.2.1,.int .i64 x1.2.2.1,.pointer x1.2.2.2,.int .i64 x2.1,.pointer x2.2.1,.int .i64 x2.2.2.1,.pointer x2.2.2.2] 32)).alloc (.cells #[.int .i64 y0.1,.pointer y0.2.1,.int .i64 y0.2.2.1,.pointer y0.2.2.2,.int .i64 y1.1,.pointer y1.2.1,.int .i64 y1.2.2.1,.pointer y1.2.2.2,.int .i64 y2.1,.pointer y2.2.1,.int .i64 y2.2.2.1,.pointer y2.2.2.2] 32)) #[.int .i64 0,.pointer none,.int .i64 0,.pointer none] 30
 have hs:(((w.alloc (.cells #[.int .i64 x0.1,.pointer x0.2.1,.int .i64 x0.2.2.1,.pointer x0.2.2.2,.int .i64 x1.1,.pointer x1.2.1,.int .i64 x1.2.2.1,.pointer x1.2.2.2,.int .i64 x2.1,.pointer x2.2.1,.int .i64 x2.2.2.1,.pointer x2.2.2.2] 32)).alloc (.cells #[.int .i64 y0.1,.pointer y0.2.1,.int .i64 y0.2.2.1,.pointer y0.2.2.2,.int .i64 y1.1,.pointer y1.2.1,.int .i64 y1.2.2.1,.pointer y1.2.2.2,.int .i64 y2.1,.pointer y2.2.1,.int .i64 y2.2.2.1,.pointer y2.2.2.2] 32)).alloc (.cells #[.int .i64 0,.pointer none,.int .i64 0,.pointer none] 30)).heap.size=w.heap.size+1+1+1:=by simp
 simp only [World.size_alloc] at C1 C2
 obtain ⟨W,hW⟩:∃ u,((w.alloc (.cells #[.int .i64 x0.1,.pointer x0.2.1,.int .i64 x0.2.2.1,.pointer x0.2.2.2,.int .i64 x1.1,.pointer x1.2.1,.int .i64 x1.2.2.1,.pointer x1.2.2.2,.int .i64 x2.1,.pointer x2.2.1,.int .i64 x2.2.2.1,.pointer x2.2.2.2] 32)).alloc (.cells #[.int .i64 y0.1,.pointer y0.2.1,.int .i64 y0.2.2.1,.pointer y0.2.2.2,.int .i64 y1.1,.pointer y1.2.1,.int .i64 y1.2.2.1,.pointer y1.2.2.2,.int .i64 y2.1,.pointer y2.2.1,.int .i64 y2.2.2.1,.pointer y2.2.2.2] 32)).alloc (.cells #[.int .i64 0,.pointer none,.int .i64 0,.pointer none] 30)=u:=⟨_,rfl⟩
 rw [hW] at kb C0 C1 C2 hs
 have Kb:=Lh kb
 have HX:=Lh (fun wr (hb:Below W.heap.size W wr)=>C0.keep hb)
 have HY:=Lh (fun wr (hb:Below W.heap.size W wr)=>C1.keep hb)
 have HR:=Lh (fun wr (hb:Below W.heap.size W wr)=>C2.keep hb)
 have c0:W.cell? ⟨w.heap.size,0,none⟩=some (.int .i64 x0.1):=C0.at_ 0
 have c1:W.cell? ⟨w.heap.size,1,none⟩=some (.pointer x0.2.1):=C0.at_ 1
 have c2:W.cell? ⟨w.heap.size,2,none⟩=some (.int .i64 x0.2.2.1):=C0.at_ 2
 have c3:W.cell? ⟨w.heap.size,3,none⟩=some (.pointer x0.2.2.2):=C0.at_ 3
 have d0:W.cell? ⟨w.heap.size+1,0,none⟩=some (.int .i64 y0.1):=C1.at_ 0
 have d1:W.cell? ⟨w.heap.size+1,1,none⟩=some (.pointer y0.2.1):=C1.at_ 1
 have d2:W.cell? ⟨w.heap.size+1,2,none⟩=some (.int .i64 y0.2.2.1):=C1.at_ 2
 have d3:W.cell? ⟨w.heap.size+1,3,none⟩=some (.pointer y0.2.2.2):=C1.at_ 3
 clear h h' f f' hm hg kb C0 C1 C2 hs
 unfold vecVal
 go_enter Tryz.func35,Tryz.ntmps35
 go_wp2_with fail
 try simp only [hW]
 refine (HM0.out _ Kb.out).mono ?_
 rintro e w1 ⟨a,P,b,Q,rfl,hv,h1⟩
 have kv:=(Below.refl w1.heap.size w1).alloc (Nat.le_refl _) (.cells #[.int .i64 a,.pointer P,.int .i64 b,.pointer Q] 30)
 have hV:=VarR.new hv
 obtain ⟨ps,hps⟩:∃ p,w1.heap.size=p:=⟨_,rfl⟩
 obtain ⟨W1,hW1⟩:∃ u,w1.alloc (.cells #[.int .i64 a,.pointer P,.int .i64 b,.pointer Q] 30)=u:=⟨_,rfl⟩
 have hle:W.heap.size≤ps:=hps ▸ h1.size
 have hb:=below_on h1 kv
 rw [hW1] at kv hV hb
 rw [hps] at hV
 have Hst:=Lh hV
 have Hb:=Lh hb
 have Hle:=Lh hle
 clear hW kv hV hb h1 hle hv c0 c1 c2 c3 d0 d1 d2 d3
 go_wp2_with fail
 try simp only [hps,hW1]
 clear hps hW1
 go_loopw [6] (fun v wr=>∃ (k:Nat) (z a:Int) (P:Option Addr) (b:Int) (Q:Option Addr),1≤k∧k≤3∧z=(k:Int)∧v= .int .i64 z∧VarR wr ps a P b Q (dotK l0 l1 l2 o0 o1 o2 k)∧Below W.heap.size W wr) (fun v _=>3 - (intOf v).toNat)
 case atStart=>exact ⟨1,1,_,_,_,_,by decide,by decide,rfl,rfl,Hst.out,Hb.out⟩
 case round=>
  obtain ⟨k,z,ra,rP,rb,rQ,hk1,hk,hzk,rfl,hv,hb⟩:=hrel
  have Hb:=Lh hb
  obtain rfl | rfl | rfl:k=1∨k=2∨k=3:=by omega
  ·obtain rfl:z=1:=hzk
   have V:=Lh (show VarR wr ps ra rP rb rQ (l0*o0) from hv)
   clear hv hb
   have HS:=Lh (fun w' (hb:Below wr.heap.size wr w')=>(⟨(V.out.keep hb).cells.at_ 0,(V.out.keep hb).cells.at_ 1,(V.out.keep hb).cells.at_ 2,(V.out.keep hb).cells.at_ 3,(HX.out _ (below_on Hb.out hb)).at_ 4,(HX.out _ (below_on Hb.out hb)).at_ 5,(HX.out _ (below_on Hb.out hb)).at_ 6,(HX.out _ (below_on Hb.out hb)).at_ 7,(HY.out _ (below_on Hb.out hb)).at_ 4,(HY.out _ (below_on Hb.out hb)).at_ 5,(HY.out _ (below_on Hb.out hb)).at_ 6,(HY.out _ (below_on Hb.out hb)).at_ 7⟩:w'.cell? ⟨ps,0,none⟩=some (.int .i64 ra)∧w'.cell? ⟨ps,1,none⟩=some (.pointer rP)∧w'.cell? ⟨ps,2,none⟩=some (.int .i64 rb)∧w'.cell? ⟨ps,3,none⟩=some (.pointer rQ)∧w'.cell? ⟨w.heap.size,4,none⟩=some (.int .i64 x1.1)∧w'.cell? ⟨w.heap.size,5,none⟩=some (.pointer x1.2.1)∧w'.cell? ⟨w.heap.size,6,none⟩=some (.int .i64 x1.2.2.1)∧w'.cell? ⟨w.heap.size,7,none⟩=some (.pointer x1.2.2.2)∧w'.cell? ⟨w.heap.size+1,4,none⟩=some (.int .i64 y1.1)∧w'.cell? ⟨w.heap.size+1,5,none⟩=some (.pointer y1.2.1)∧w'.cell? ⟨w.heap.size+1,6,none⟩=some (.int .i64 y1.2.2.1)∧w'.cell? ⟨w.heap.size+1,7,none⟩=some (.pointer y1.2.2.2)))
   go_upto_region 5 with fail
   refine Till.begin 9 (fun w'=>w'.cell? ⟨ps,0,none⟩=some (.int .i64 ra)∧w'.cell? ⟨ps,1,none⟩=some (.pointer rP)∧w'.cell? ⟨ps,2,none⟩=some (.int .i64 rb)∧w'.cell? ⟨ps,3,none⟩=some (.pointer rQ)∧w'.cell? ⟨w.heap.size,4,none⟩=some (.int .i64 x1.1)∧w'.cell? ⟨w.heap.size,5,none⟩=some (.pointer x1.2.1)∧w'.cell? ⟨w.heap.size,6,none⟩=some (.int .i64 x1.2.2.1)∧w'.cell? ⟨w.heap.size,7,none⟩=some (.pointer x1.2.2.2)∧w'.cell? ⟨w.heap.size+1,4,none⟩=some (.int .i64 y1.1)∧w'.cell? ⟨w.heap.size+1,5,none⟩=some (.pointer y1.2.1)∧w'.cell? ⟨w.heap.size+1,6,none⟩=some (.int .i64 y1.2.2.1)∧w'.cell? ⟨w.heap.size+1,7,none⟩=some (.pointer y1.2.2.2)) (by kernel_rfl) (HS.out _ (Below.refl _ _).drew) (fun hH=>?_)
   refine Till.tk 0 8 16 (.agg #[.int .i64 ra,.pointer rP,.int .i64 rb,.pointer rQ]) hH ?_
   try simp only [Act.put,Pls]
   refine Till.tk 1 2 17 (.int .i64 1) hH ?_
   try simp only [Act.put,Pls]
   refine Till.tk 2 3 18 (.pointer (some ⟨w.heap.size,4,none⟩)) hH ?_
   try simp only [Act.put,Pls]
   refine Till.tk 3 7 19 (.agg #[.int .i64 x1.1,.pointer x1.2.1,.int .i64 x1.2.2.1,.pointer x1.2.2.2]) hH ?_
   try simp only [Act.put,Pls]
   refine Till.tk 4 5 20 (.int .i64 1) hH ?_
   try simp only [Act.put,Pls]
   refine Till.tk 5 6 21 (.pointer (some ⟨w.heap.size+1,4,none⟩)) hH ?_
   try simp only [Act.put,Pls]
   refine Till.tk 6 7 22 (.agg #[.int .i64 y1.1,.pointer y1.2.1,.int .i64 y1.2.2.1,.pointer y1.2.2.2]) hH ?_
   try simp only [Act.put,Pls]
   clear hH
   have B0:=Lh (Below.refl wr.heap.size wr).drew
   generalize wr.drew=v0 at B0 ⊢
   refine Till.phaseP [7,8] #[true,true,true,true,true,true,true,true,true,false] 1 (fun a0 dn an v=>∃ t7 t8:Value,an=puts a0 [(23,t7),(24,t8)]∧Below wr.heap.size wr v∧(dn 7=true→RatAt v t7 (l1*o1))∧(dn 8=true→RatAt v t8 (l0*o0+l1*o1))) rfl (by kernel_rfl) (by rintro dn an v ⟨_,_,rfl,hB,_⟩; exact HS.out _ hB) ⟨_,_,rfl,B0.out,(fun h=>absurd h (by decide)),(fun h=>absurd h (by decide))⟩ ⟨⟨_,rfl,?_⟩,⟨_,rfl,?_⟩,trivial⟩ ?_
   ·rintro dn an v ⟨t7,t8,rfl,hB,F7,F8⟩ hi ha K hK
    replace hB:=Lh hB
    replace F7:=Lh F7
    replace F8:=Lh F8
    clear ha
    refine Pent.mk ?_
    try simp only [puts,Act.put,Pls]
    go_simp
    refine (HM1.out _ (below_on Kb.out (below_on Hb.out hB.out))).mono ?_
    rintro e v1 ⟨x7,X7,y7,Y7,rfl,hx,g⟩
    replace hx:=Lh hx
    replace g:=Lh g
    go_wp2_with fail
    exact hK.out _ _ ⟨.agg #[.int .i64 x7,.pointer X7,.int .i64 y7,.pointer Y7],t8,(by kernel_rfl),below_on hB.out g.out,fun _=>⟨x7,X7,y7,Y7,rfl,hx.out⟩,fun h=>(F8.out h).keep g.out⟩
   ·rintro dn an v ⟨t7,t8,rfl,hB,F7,F8⟩ hi ha K hK
    obtain ⟨x7,X7,y7,Y7,rfl,I7⟩:=F7 (ha 7 (by kernel_rfl))
    replace hB:=Lh hB
    replace F7:=Lh F7
    replace F8:=Lh F8
    replace I7:=Lh I7
    clear ha
    refine Pent.mk ?_
    try simp only [puts,Act.put,Pls]
    go_simp
    refine (HA1.out _ _ _ _ _ _ _ _ _ (below_on Kb.out (below_on Hb.out hB.out)) (V.out.keep hB.out).rat I7.out).mono ?_
    rintro e v1 ⟨x8,X8,y8,Y8,rfl,hx,g⟩
    replace hx:=Lh hx
    replace g:=Lh g
    go_wp2_with fail
    exact hK.out _ _ ⟨.agg #[.int .i64 x7,.pointer X7,.int .i64 y7,.pointer Y7],.agg #[.int .i64 x8,.pointer X8,.int .i64 y8,.pointer Y8],(by kernel_rfl),below_on hB.out g.out,fun h=>(F7.out h).keep g.out,fun _=>⟨x8,X8,y8,Y8,rfl,hx.out⟩⟩
   ·rintro dn an v ⟨t7,t8,rfl,hB,F7,F8⟩ hE
    obtain ⟨x7,X7,y7,Y7,rfl,I7⟩:=F7 (hE 7 (by decide))
    obtain ⟨x8,X8,y8,Y8,rfl,I8⟩:=F8 (hE 8 (by decide))
    clear hE F7 F8
    replace hB:=Lh hB
    replace I7:=Lh I7
    replace I8:=Lh I8
    refine Pent.mk ?_
    try simp only [puts,Act.put,Pls]
    have hN:=(V.out.keep hB.out).cells
    have f0:v.frozen? ⟨ps,0,none⟩=false:=hN.fz 0
    have m0:v.cell? ⟨ps,0,none⟩=some (.int .i64 ra):=hN.at_ 0
    have f1:v.frozen? ⟨ps,1,none⟩=false:=hN.fz 1
    have m1:v.cell? ⟨ps,1,none⟩=some (.pointer rP):=hN.at_ 1
    have f2:v.frozen? ⟨ps,2,none⟩=false:=hN.fz 2
    have m2:v.cell? ⟨ps,2,none⟩=some (.int .i64 rb):=hN.at_ 2
    have f3:v.frozen? ⟨ps,3,none⟩=false:=hN.fz 3
    have m3:v.cell? ⟨ps,3,none⟩=some (.pointer rQ):=hN.at_ 3
    have Hf:=Lh (varR_put hN (by rfl) I8.out)
    have Hg:=Lh (below_put4 (below_on Hb.out hB.out) Hle.out (.int .i64 x8) (.pointer X8) (.int .i64 y8) (.pointer Y8))
    clear hN
    refine Till.one (i:=9) (by kernel_rfl) rfl (fun K hK=>?_)
    go_simp
    refine hK.out _ _ (fun h=>absurd h (by simp)) ?_
    clear hK K
    try simp only [Pls]
    refine Till.done (by kernel_rfl) ?_ _
    go_wp2_with fail
    go_roundw
    case rel=>exact ⟨2,2,_,_,_,_,by decide,by decide,rfl,by go_num,Hf.out,Hg.out⟩
    case measure=>simp [intOf]
  ·obtain rfl:z=2:=hzk
   have V:=Lh (show VarR wr ps ra rP rb rQ (l0*o0+l1*o1) from hv)
   clear hv hb
   have HS:=Lh (fun w' (hb:Below wr.heap.size wr w')=>(⟨(V.out.keep hb).cells.at_ 0,(V.out.keep hb).cells.at_ 1,(V.out.keep hb).cells.at_ 2,(V.out.keep hb).cells.at_ 3,(HX.out _ (below_on Hb.out hb)).at_ 8,(HX.out _ (below_on Hb.out hb)).at_ 9,(HX.out _ (below_on Hb.out hb)).at_ 10,(HX.out _ (below_on Hb.out hb)).at_ 11,(HY.out _ (below_on Hb.out hb)).at_ 8,(HY.out _ (below_on Hb.out hb)).at_ 9,(HY.out _ (below_on Hb.out hb)).at_ 10,(HY.out _ (below_on Hb.out hb)).at_ 11⟩:w'.cell? ⟨ps,0,none⟩=some (.int .i64 ra)∧w'.cell? ⟨ps,1,none⟩=some (.pointer rP)∧w'.cell? ⟨ps,2,none⟩=some (.int .i64 rb)∧w'.cell? ⟨ps,3,none⟩=some (.pointer rQ)∧w'.cell? ⟨w.heap.size,8,none⟩=some (.int .i64 x2.1)∧w'.cell? ⟨w.heap.size,9,none⟩=some (.pointer x2.2.1)∧w'.cell? ⟨w.heap.size,10,none⟩=some (.int .i64 x2.2.2.1)∧w'.cell? ⟨w.heap.size,11,none⟩=some (.pointer x2.2.2.2)∧w'.cell? ⟨w.heap.size+1,8,none⟩=some (.int .i64 y2.1)∧w'.cell? ⟨w.heap.size+1,9,none⟩=some (.pointer y2.2.1)∧w'.cell? ⟨w.heap.size+1,10,none⟩=some (.int .i64 y2.2.2.1)∧w'.cell? ⟨w.heap.size+1,11,none⟩=some (.pointer y2.2.2.2)))
   go_upto_region 5 with fail
   refine Till.begin 9 (fun w'=>w'.cell? ⟨ps,0,none⟩=some (.int .i64 ra)∧w'.cell? ⟨ps,1,none⟩=some (.pointer rP)∧w'.cell? ⟨ps,2,none⟩=some (.int .i64 rb)∧w'.cell? ⟨ps,3,none⟩=some (.pointer rQ)∧w'.cell? ⟨w.heap.size,8,none⟩=some (.int .i64 x2.1)∧w'.cell? ⟨w.heap.size,9,none⟩=some (.pointer x2.2.1)∧w'.cell? ⟨w.heap.size,10,none⟩=some (.int .i64 x2.2.2.1)∧w'.cell? ⟨w.heap.size,11,none⟩=some (.pointer x2.2.2.2)∧w'.cell? ⟨w.heap.size+1,8,none⟩=some (.int .i64 y2.1)∧w'.cell? ⟨w.heap.size+1,9,none⟩=some (.pointer y2.2.1)∧w'.cell? ⟨w.heap.size+1,10,none⟩=some (.int .i64 y2.2.2.1)∧w'.cell? ⟨w.heap.size+1,11,none⟩=some (.pointer y2.2.2.2)) (by kernel_rfl) (HS.out _ (Below.refl _ _).drew) (fun hH=>?_)
   refine Till.tk 0 8 16 (.agg #[.int .i64 ra,.pointer rP,.int .i64 rb,.pointer rQ]) hH ?_
   try simp only [Act.put,Pls]
   refine Till.tk 1 2 17 (.int .i64 2) hH ?_
   try simp only [Act.put,Pls]
   refine Till.tk 2 3 18 (.pointer (some ⟨w.heap.size,8,none⟩)) hH ?_
   try simp only [Act.put,Pls]
   refine Till.tk 3 7 19 (.agg #[.int .i64 x2.1,.pointer x2.2.1,.int .i64 x2.2.2.1,.pointer x2.2.2.2]) hH ?_
   try simp only [Act.put,Pls]
   refine Till.tk 4 5 20 (.int .i64 2) hH ?_
   try simp only [Act.put,Pls]
   refine Till.tk 5 6 21 (.pointer (some ⟨w.heap.size+1,8,none⟩)) hH ?_
   try simp only [Act.put,Pls]
   refine Till.tk 6 7 22 (.agg #[.int .i64 y2.1,.pointer y2.2.1,.int .i64 y2.2.2.1,.pointer y2.2.2.2]) hH ?_
   try simp only [Act.put,Pls]
   clear hH
   have B0:=Lh (Below.refl wr.heap.size wr).drew
   generalize wr.drew=v0 at B0 ⊢
   refine Till.phaseP [7,8] #[true,true,true,true,true,true,true,true,true,false] 1 (fun a0 dn an v=>∃ t7 t8:Value,an=puts a0 [(23,t7),(24,t8)]∧Below wr.heap.size wr v∧(dn 7=true→RatAt v t7 (l2*o2))∧(dn 8=true→RatAt v t8 (l0*o0+l1*o1+l2*o2))) rfl (by kernel_rfl) (by rintro dn an v ⟨_,_,rfl,hB,_⟩; exact HS.out _ hB) ⟨_,_,rfl,B0.out,(fun h=>absurd h (by decide)),(fun h=>absurd h (by decide))⟩ ⟨⟨_,rfl,?_⟩,⟨_,rfl,?_⟩,trivial⟩ ?_
   ·rintro dn an v ⟨t7,t8,rfl,hB,F7,F8⟩ hi ha K hK
    replace hB:=Lh hB
    replace F7:=Lh F7
    replace F8:=Lh F8
    clear ha
    refine Pent.mk ?_
    try simp only [puts,Act.put,Pls]
    go_simp
    refine (HM2.out _ (below_on Kb.out (below_on Hb.out hB.out))).mono ?_
    rintro e v1 ⟨x7,X7,y7,Y7,rfl,hx,g⟩
    replace hx:=Lh hx
    replace g:=Lh g
    go_wp2_with fail
    exact hK.out _ _ ⟨.agg #[.int .i64 x7,.pointer X7,.int .i64 y7,.pointer Y7],t8,(by kernel_rfl),below_on hB.out g.out,fun _=>⟨x7,X7,y7,Y7,rfl,hx.out⟩,fun h=>(F8.out h).keep g.out⟩
   ·rintro dn an v ⟨t7,t8,rfl,hB,F7,F8⟩ hi ha K hK
    obtain ⟨x7,X7,y7,Y7,rfl,I7⟩:=F7 (ha 7 (by kernel_rfl))
    replace hB:=Lh hB
    replace F7:=Lh F7
    replace F8:=Lh F8
    replace I7:=Lh I7
    clear ha
    refine Pent.mk ?_
    try simp only [puts,Act.put,Pls]
    go_simp
    refine (HA2.out _ _ _ _ _ _ _ _ _ (below_on Kb.out (below_on Hb.out hB.out)) (V.out.keep hB.out).rat I7.out).mono ?_
    rintro e v1 ⟨x8,X8,y8,Y8,rfl,hx,g⟩
    replace hx:=Lh hx
    replace g:=Lh g
    go_wp2_with fail
    exact hK.out _ _ ⟨.agg #[.int .i64 x7,.pointer X7,.int .i64 y7,.pointer Y7],.agg #[.int .i64 x8,.pointer X8,.int .i64 y8,.pointer Y8],(by kernel_rfl),below_on hB.out g.out,fun h=>(F7.out h).keep g.out,fun _=>⟨x8,X8,y8,Y8,rfl,hx.out⟩⟩
   ·rintro dn an v ⟨t7,t8,rfl,hB,F7,F8⟩ hE
    obtain ⟨x7,X7,y7,Y7,rfl,I7⟩:=F7 (hE 7 (by decide))
    obtain ⟨x8,X8,y8,Y8,rfl,I8⟩:=F8 (hE 8 (by decide))
    clear hE F7 F8
    replace hB:=Lh hB
    replace I7:=Lh I7
    replace I8:=Lh I8
    refine Pent.mk ?_
    try simp only [puts,Act.put,Pls]
    have hN:=(V.out.keep hB.out).cells
    have f0:v.frozen? ⟨ps,0,none⟩=false:=hN.fz 0
    have m0:v.cell? ⟨ps,0,none⟩=some (.int .i64 ra):=hN.at_ 0
    have f1:v.frozen? ⟨ps,1,none⟩=false:=hN.fz 1
    have m1:v.cell? ⟨ps,1,none⟩=some (.pointer rP):=hN.at_ 1
    have f2:v.frozen? ⟨ps,2,none⟩=false:=hN.fz 2
    have m2:v.cell? ⟨ps,2,none⟩=some (.int .i64 rb):=hN.at_ 2
    have f3:v.frozen? ⟨ps,3,none⟩=false:=hN.fz 3
    have m3:v.cell? ⟨ps,3,none⟩=some (.pointer rQ):=hN.at_ 3
    have Hf:=Lh (varR_put hN (by rfl) I8.out)
    have Hg:=Lh (below_put4 (below_on Hb.out hB.out) Hle.out (.int .i64 x8) (.pointer X8) (.int .i64 y8) (.pointer Y8))
    clear hN
    refine Till.one (i:=9) (by kernel_rfl) rfl (fun K hK=>?_)
    go_simp
    refine hK.out _ _ (fun h=>absurd h (by simp)) ?_
    clear hK K
    try simp only [Pls]
    refine Till.done (by kernel_rfl) ?_ _
    go_wp2_with fail
    go_roundw
    case rel=>exact ⟨3,3,_,_,_,_,by decide,by decide,rfl,by go_num,Hf.out,Hg.out⟩
    case measure=>simp [intOf]
  ·obtain rfl:z=3:=hzk
   have V:=Lh (show VarR wr ps ra rP rb rQ (l0*o0+l1*o1+l2*o2) from hv)
   have R:=Lh (HR.out _ hb)
   have K:=Lh (below_on Kb.out hb)
   clear hv hb
   have m0:wr.cell? ⟨ps,0,none⟩=some (.int .i64 ra):=V.out.cells.at_ 0
   have m1:wr.cell? ⟨ps,1,none⟩=some (.pointer rP):=V.out.cells.at_ 1
   have m2:wr.cell? ⟨ps,2,none⟩=some (.int .i64 rb):=V.out.cells.at_ 2
   have m3:wr.cell? ⟨ps,3,none⟩=some (.pointer rQ):=V.out.cells.at_ 3
   have f0:wr.frozen? ⟨w.heap.size+1+1,0,none⟩=false:=R.out.fz 0
   have k0:wr.cell? ⟨w.heap.size+1+1,0,none⟩=some (.int .i64 0):=R.out.at_ 0
   have f1:wr.frozen? ⟨w.heap.size+1+1,1,none⟩=false:=R.out.fz 1
   have k1:wr.cell? ⟨w.heap.size+1+1,1,none⟩=some (.pointer none):=R.out.at_ 1
   have f2:wr.frozen? ⟨w.heap.size+1+1,2,none⟩=false:=R.out.fz 2
   have k2:wr.cell? ⟨w.heap.size+1+1,2,none⟩=some (.int .i64 0):=R.out.at_ 2
   have f3:wr.frozen? ⟨w.heap.size+1+1,3,none⟩=false:=R.out.fz 3
   have k3:wr.cell? ⟨w.heap.size+1+1,3,none⟩=some (.pointer none):=R.out.at_ 3
   have Hv:=Lh (V.out.rat.wrote R.out (by rfl) (put4_heap wr (w.heap.size+1+1) (.int .i64 ra) (.pointer rP) (.int .i64 rb) (.pointer rQ)).1 (put4_heap _ _ _ _ _ _).2)
   have Kf:=Lh (below_put4 K.out (show w.heap.size≤w.heap.size+1+1 by omega) (.int .i64 ra) (.pointer rP) (.int .i64 rb) (.pointer rQ))
   go_wp2
   exact bodyPost_ret (v:= .agg #[.int .i64 ra,.pointer rP,.int .i64 rb,.pointer rQ]) (by simp [results,Tryz.results35,go_sem,k0,k1,k2,k3]) rfl ⟨ra,rP,rb,rQ,rfl,Hv.out,Kf.out⟩
end Go.Proofs.YtekhdklbfincpaaGreatDoor
