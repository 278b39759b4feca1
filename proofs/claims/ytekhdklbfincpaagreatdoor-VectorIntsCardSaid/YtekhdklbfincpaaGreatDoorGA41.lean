/- GA41: RatU -/
import Derived.Test.YtekhdklbfincpaaGreatDoorGA31
import Derived.Test.YtekhdklbfincpaaGreatDoorGA40
set_option maxRecDepth 100000
set_option maxHeartbeats 16000000
namespace Go.Proofs.YtekhdklbfincpaaGreatDoor
open Go.RowKit
theorem base94:base 47*base 47≤base 94:=by decide +kernel
theorem base95:base 94+base 94≤base 95:=by decide +kernel
theorem mul94 {x y:Int} (hx:x.natAbs<base 47) (hy:y.natAbs<base 47):(x*y).natAbs<base 94:=by
 rw [Int.natAbs_mul]
 exact Nat.lt_of_lt_of_le (Nat.mul_lt_mul'' hx hy) base94
theorem add95 {x y:Int} (hx:x.natAbs<base 94) (hy:y.natAbs<base 94):(x+y).natAbs<base 95:=by
 have:=base95
 omega
theorem nat_quot_lt {a g n:Nat} (h:a<n):((a / g:Nat):Int).natAbs<n:=by rw [Int.natAbs_natCast]; exact Nat.lt_of_le_of_lt (Nat.div_le_self _ _) h
theorem raddLong_any (a:Int) (P:Option Addr) (b:Int) (Q:Option Addr) (c:Int) (U:Option Addr) (d:Int) (V:Option Addr) (p q:Rat) (w:World) (h:RatV w a P b Q p) (h':RatV w c U d V q) (hpn:p.num.natAbs<base 47) (hpd:p.den<base 47) (hqn:q.num.natAbs<base 47) (hqd:q.den<base 47) (hg:Good w) :
  Calls Tryz.prog 93 #[.agg #[.int .i64 a,.pointer P,.int .i64 b,.pointer Q],.agg #[.int .i64 c,.pointer U,.int .i64 d,.pointer V]] w (NewRat (p+q) w):=by
 have kk:=(((Below.refl w.heap.size w).alloc (Nat.le_refl _) (.cells #[.int .i64 a,.pointer P,.int .i64 b,.pointer Q] 30)).alloc (by simp) (.cells #[.int .i64 c,.pointer U,.int .i64 d,.pointer V] 30)).alloc (by simp; omega) (.cells #[.int .i64 0,.pointer none,.int .i64 0,.pointer none] 30)
 have V0:=Lh (((box_rat w a P b Q).keep ((Below.refl _ _).alloc (Nat.le_refl _) (.cells #[.int .i64 c,.pointer U,.int .i64 d,.pointer V] 30))).keep ((Below.refl _ _).alloc (Nat.le_refl _) (.cells #[.int .i64 0,.pointer none,.int .i64 0,.pointer none] 30)))
 have V1:=Lh ((box_rat (w.alloc (.cells #[.int .i64 a,.pointer P,.int .i64 b,.pointer Q] 30)) c U d V).keep ((Below.refl _ _).alloc (Nat.le_refl _) (.cells #[.int .i64 0,.pointer none,.int .i64 0,.pointer none] 30)))
 have R:=Lh (Cells.new ((w.alloc (.cells #[.int .i64 a,.pointer P,.int .i64 b,.pointer Q] 30)).alloc (.cells #[.int .i64 c,.pointer U,.int .i64 d,.pointer V] 30)) #[.int .i64 0,.pointer none,.int .i64 0,.pointer none] 30)
 simp only [World.size_alloc] at V1 R
 have HP:=Lh (fun w' (hb:Below w.heap.size w w')=>h.keep hb)
 have HQ:=Lh (fun w' (hb:Below w.heap.size w w')=>h'.keep hb)
 have Hw:=Lh (fun w' (hb:Below w.heap.size w w')=>hg.below hb)
 have Bd:=Lh (And.intro hpn (And.intro hpd (And.intro hqn hqd)))
 obtain ⟨wm,hwm⟩:∃ u,((w.alloc (.cells #[.int .i64 a,.pointer P,.int .i64 b,.pointer Q] 30)).alloc (.cells #[.int .i64 c,.pointer U,.int .i64 d,.pointer V] 30)).alloc (.cells #[.int .i64 0,.pointer none,.int .i64 0,.pointer none] 30)=u:=⟨_,rfl⟩
 rw [hwm] at kk V0 V1 R
 have K0:=Lh kk
 clear h h' kk hpn hpd hqn hqd hg
 have HS:=Lh (fun w' (hb:Below wm.heap.size wm w')=>(⟨(V0.out.keep hb).c0,(V0.out.keep hb).c1,(V0.out.keep hb).c2,(V0.out.keep hb).c3,(V1.out.keep hb).c0,(V1.out.keep hb).c1,(V1.out.keep hb).c2,(V1.out.keep hb).c3⟩:w'.cell? ⟨w.heap.size,0,none⟩=some (.int .i64 a)∧w'.cell? ⟨w.heap.size,1,none⟩=some (.pointer P)∧w'.cell? ⟨w.heap.size,2,none⟩=some (.int .i64 b)∧w'.cell? ⟨w.heap.size,3,none⟩=some (.pointer Q)∧w'.cell? ⟨w.heap.size+1,0,none⟩=some (.int .i64 c)∧w'.cell? ⟨w.heap.size+1,1,none⟩=some (.pointer U)∧w'.cell? ⟨w.heap.size+1,2,none⟩=some (.int .i64 d)∧w'.cell? ⟨w.heap.size+1,3,none⟩=some (.pointer V)))
 have HD1:=Lh (fun v (hb:Below wm.heap.size wm v)=>den_any a P b Q p v (HP.out v (below_on K0.out hb)))
 have HD2:=Lh (fun v (hb:Below wm.heap.size wm v)=>den_any c U d V q v (HQ.out v (below_on K0.out hb)))
 go_enter Tryz.func93,Tryz.ntmps93
 go_upto_region 1 with fail
 try simp only [hwm]
 clear hwm
 go_cut [5,6] (fun s s' wx=>∃ (p1:Nat) (x:Int) (X:Option Addr) (p2:Nat) (y:Int) (Y:Option Addr),s= .pointer (some ⟨p1,0,none⟩)∧s'= .pointer (some ⟨p2,0,none⟩)∧Var wx p1 x X ((p.den:Int))∧Var wx p2 y Y ((q.den:Int))∧p1≠p2∧wm.heap.size≤p1∧wm.heap.size≤p2∧Below wm.heap.size wm wx)
 case first=>
  refine Till.begin 7 (fun w'=>w'.cell? ⟨w.heap.size,0,none⟩=some (.int .i64 a)∧w'.cell? ⟨w.heap.size,1,none⟩=some (.pointer P)∧w'.cell? ⟨w.heap.size,2,none⟩=some (.int .i64 b)∧w'.cell? ⟨w.heap.size,3,none⟩=some (.pointer Q)∧w'.cell? ⟨w.heap.size+1,0,none⟩=some (.int .i64 c)∧w'.cell? ⟨w.heap.size+1,1,none⟩=some (.pointer U)∧w'.cell? ⟨w.heap.size+1,2,none⟩=some (.int .i64 d)∧w'.cell? ⟨w.heap.size+1,3,none⟩=some (.pointer V)) (by kernel_rfl) (HS.out _ (Below.refl _ _).drew) (fun hH=>?_)
  refine Till.tk 0 1 12 (.agg #[.int .i64 a,.pointer P,.int .i64 b,.pointer Q]) hH ?_
  try simp only [Act.put,Pls]
  refine Till.tk 2 3 14 (.agg #[.int .i64 c,.pointer U,.int .i64 d,.pointer V]) hH ?_
  try simp only [Act.put,Pls]
  clear hH
  have B0:=Lh (Below.refl wm.heap.size wm).drew
  generalize wm.drew=v0 at B0 ⊢
  refine Till.phase [1,3,4,5] #[true,true,true,true,true,true,false,false] 2 (fun a0 d a v=>∃ t1 t3 t4 t5:Value,a=puts a0 [(13,t1),(15,t3),(5,t4),(6,t5)]∧Below wm.heap.size wm v∧(d 1=true→IntAt v t1 ((p.den:Int)))∧(d 3=true→IntAt v t3 ((q.den:Int)))∧(d 4=true→PtrI wm.heap.size v t4)∧(d 5=true→PtrI wm.heap.size v t5)∧(d 4=true→d 5=true→t4≠t5)) rfl (by kernel_rfl) (by rintro d a v ⟨_,_,_,_,rfl,hB,_⟩; exact HS.out _ hB) ⟨_,_,_,_,rfl,B0.out,(fun h=>absurd h (by decide)),(fun h=>absurd h (by decide)),(fun h=>absurd h (by decide)),(fun h=>absurd h (by decide)),(fun h=>absurd h (by decide))⟩ ⟨⟨_,rfl,?_⟩,⟨_,rfl,?_⟩,⟨_,rfl,?_⟩,⟨_,rfl,?_⟩,trivial⟩ ?_
  ·rintro d a v ⟨t1,t3,t4,t5,rfl,hB,F1,F3,F4,F5,D4_5⟩ _ ha K hK
   replace hB:=Lh hB
   replace F1:=Lh F1
   replace F3:=Lh F3
   replace F4:=Lh F4
   replace F5:=Lh F5
   replace D4_5:=Lh D4_5
   clear ha
   try simp only [puts,Act.put,Pls]
   go_simp
   refine (HD1.out _ hB.out).mono ?_
   rintro e v1 ⟨x1,X1,rfl,hx,g⟩
   replace hx:=Lh hx
   replace g:=Lh g
   go_wp2_with fail
   exact hK.out _ _ ⟨.agg #[.int .i64 x1,.pointer X1],t3,t4,t5,rfl,below_on hB.out g.out,fun _=>⟨x1,X1,rfl,hx.out⟩,fun h=>(F3.out h).keep g.out,fun h=>(F4.out h).keep g.out,fun h=>(F5.out h).keep g.out,fun h h2=>D4_5.out h h2⟩
  ·rintro d a v ⟨t1,t3,t4,t5,rfl,hB,F1,F3,F4,F5,D4_5⟩ _ ha K hK
   obtain ⟨x1,X1,rfl,I1⟩:=F1 (ha 1 (by kernel_rfl))
   replace hB:=Lh hB
   replace F1:=Lh F1
   replace F3:=Lh F3
   replace F4:=Lh F4
   replace F5:=Lh F5
   replace I1:=Lh I1
   replace D4_5:=Lh D4_5
   clear ha
   try simp only [puts,Act.put,Pls]
   go_simp
   refine (HD2.out _ hB.out).mono ?_
   rintro e v1 ⟨x3,X3,rfl,hx,g⟩
   replace hx:=Lh hx
   replace g:=Lh g
   go_wp2_with fail
   exact hK.out _ _ ⟨.agg #[.int .i64 x1,.pointer X1],.agg #[.int .i64 x3,.pointer X3],t4,t5,rfl,below_on hB.out g.out,fun h=>(F1.out h).keep g.out,fun _=>⟨x3,X3,rfl,hx.out⟩,fun h=>(F4.out h).keep g.out,fun h=>(F5.out h).keep g.out,fun h h2=>D4_5.out h h2⟩
  ·rintro d a v ⟨t1,t3,t4,t5,rfl,hB,F1,F3,F4,F5,D4_5⟩ _ ha K hK
   replace hB:=Lh hB
   replace F1:=Lh F1
   replace F3:=Lh F3
   replace F4:=Lh F4
   replace F5:=Lh F5
   replace D4_5:=Lh D4_5
   clear ha
   try simp only [puts,Act.put,Pls]
   have g:=Lh ((Below.refl v.heap.size v).alloc (Nat.le_refl _) (.cells #[.int .i64 0,.pointer none] 28))
   go_simp
   exact hK.out _ _ ⟨t1,t3,.pointer (some ⟨v.heap.size,0,none⟩),t5,rfl,below_on hB.out g.out,fun h=>(F1.out h).keep g.out,fun h=>(F3.out h).keep g.out,fun _=>⟨v.heap.size,rfl,hB.out.size,Hold.new v 0 none⟩,fun h=>(F5.out h).keep g.out,fun _ h=>((F5.out h).ne).symm⟩
  ·rintro d a v ⟨t1,t3,t4,t5,rfl,hB,F1,F3,F4,F5,D4_5⟩ _ ha K hK
   replace hB:=Lh hB
   replace F1:=Lh F1
   replace F3:=Lh F3
   replace F4:=Lh F4
   replace F5:=Lh F5
   replace D4_5:=Lh D4_5
   clear ha
   try simp only [puts,Act.put,Pls]
   have g:=Lh ((Below.refl v.heap.size v).alloc (Nat.le_refl _) (.cells #[.int .i64 0,.pointer none] 28))
   go_simp
   exact hK.out _ _ ⟨t1,t3,t4,.pointer (some ⟨v.heap.size,0,none⟩),rfl,below_on hB.out g.out,fun h=>(F1.out h).keep g.out,fun h=>(F3.out h).keep g.out,fun h=>(F4.out h).keep g.out,fun _=>⟨v.heap.size,rfl,hB.out.size,Hold.new v 0 none⟩,fun h _=>(F4.out h).ne⟩
  ·rintro d a v ⟨t1,t3,t4,t5,rfl,hB,F1,F3,F4,F5,D4_5⟩ hE
   obtain ⟨x1,X1,rfl,I1⟩:=F1 (hE 1 (by decide))
   obtain ⟨x3,X3,rfl,I3⟩:=F3 (hE 3 (by decide))
   obtain ⟨p4,rfl,le4,N4⟩:=F4 (hE 4 (by decide))
   obtain ⟨p5,rfl,le5,N5⟩:=F5 (hE 5 (by decide))
   have ne4_5:p4≠p5:=fun h=>D4_5 (hE 4 (by decide)) (hE 5 (by decide)) (by rw [h])
   have ne5_4:p5≠p4:=Ne.symm ne4_5
   clear hE F1 F3 F4 F5 D4_5
   replace hB:=Lh hB
   replace I1:=Lh I1
   replace I3:=Lh I3
   replace N4:=Lh N4
   replace N5:=Lh N5
   try simp only [puts,Act.put,Pls]
   have k40:=N4.out.c0
   have k41:=N4.out.c1
   have f40:=N4.out.f0
   have f41:=N4.out.f1
   have k50:=N5.out.c0
   have k51:=N5.out.c1
   have f50:=N5.out.f0
   have f51:=N5.out.f1
   refine Till.one (i:=6) (by kernel_rfl) rfl (fun K hK=>?_)
   go_simp
   refine hK.out _ _ (fun _=>HS.out _ (below_stored hB.out le4 (.int .i64 x1) (.pointer X1))) ?_
   clear hK K
   try simp only [Pls]
   refine Till.one (i:=7) (by kernel_rfl) rfl (fun K hK=>?_)
   go_simp
   refine hK.out _ _ (fun h=>absurd h (by simp)) ?_
   clear hK K
   try simp only [Pls]
   refine Till.done (by kernel_rfl) ?_ _
   go_wp2_with fail
   go_meet
   exact ⟨p4,x1,X1,p5,x3,X3,rfl,rfl,(var_put N4.out I1.out).held (N5.out.other ne5_4 (.int .i64 x1) (.pointer X1)) ne4_5 (.int .i64 x3) (.pointer X3),var_put (N5.out.other ne5_4 (.int .i64 x1) (.pointer X1)) (I3.out.held N4.out _ _),ne4_5,le4,le5,below_stored (below_stored hB.out le4 (.int .i64 x1) (.pointer X1)) le5 (.int .i64 x3) (.pointer X3)⟩
 case rest=>
  obtain ⟨p11,x1,X1,p12,y1,Y1,rfl,rfl,hv1,hv2,hne,le11,le12,hb⟩:=hcut
  replace V0:=Lh (V0.out.keep hb)
  replace V1:=Lh (V1.out.keep hb)
  replace R:=Lh (R.out.keep hb)
  have K1:=Lh (below_on K0.out hb)
  have A1:=Lh hv1
  have A2:=Lh hv2
  clear hv1 hv2 hb HS HD1 HD2 hne le11 le12
  generalize wc=wn at *
  obtain ⟨hpn,hpd,hqn,hqd⟩:=Bd.out
  have HG:=Lh (gcd_any x1 y1 X1 Y1 (p.den:Int) (q.den:Int) wn A1.out.int A2.out.int (by rw [Int.natAbs_natCast]; exact base_up hpd (by decide)) (by rw [Int.natAbs_natCast]; exact base_up hqd (by decide)) (Hw.out wn K1.out).2 (Nat.lt_of_le_of_lt (Nat.zero_le _) A1.out.lt))
  simp only [Int.natAbs_natCast] at HG
  obtain ⟨g,hg⟩:∃ g,Nat.gcd p.den q.den=g:=⟨_,rfl⟩
  rw [hg] at HG
  have gp:0<g:=by rw [← hg]; exact Nat.gcd_pos_of_pos_left _ p.den_pos
  have gl:g<base 47:=by rw [← hg]; exact Nat.lt_of_le_of_lt (Nat.gcd_le_left _ p.den_pos) hpd
  have Gg:=Lh hg
  have Gp:=Lh gp
  have Gl:=Lh gl
  clear hpn hpd hqn hqd hg gp gl
  have c0:=A1.out.c0
  have c1:=A1.out.c1
  have d0:=A2.out.c0
  have d1:=A2.out.c1
  go_wp2_with fail
  refine HG.out.mono ?_
  rintro e n1 ⟨ga,gP,rfl,hig,g1⟩
  have k3:=(Below.refl n1.heap.size n1).alloc (Nat.le_refl _) (.cells #[.int .i64 ga,.pointer gP] 28)
  have A3:=Lh (Var.new hig)
  replace V0:=Lh ((V0.out.keep g1).keep k3)
  replace V1:=Lh ((V1.out.keep g1).keep k3)
  replace R:=Lh ((R.out.keep g1).keep k3)
  replace A1:=Lh ((A1.out.keep g1).keep k3)
  replace A2:=Lh ((A2.out.keep g1).keep k3)
  have K2:=Lh (below_on (below_on K1.out g1) k3)
  obtain ⟨pg,hpg⟩:∃ p,n1.heap.size=p:=⟨_,rfl⟩
  obtain ⟨wo,hwo⟩:∃ wu,n1.alloc (.cells #[.int .i64 ga,.pointer gP] 28)=wu:=⟨_,rfl⟩
  rw [hwo] at A3 V0 V1 R A1 A2 K2
  rw [hpg] at A3
  clear g1 hig k3 c0 c1 d0 d1 HG
  have HS:=Lh (fun w' (hb:Below wo.heap.size wo w')=>(⟨(A1.out.keep hb).c0,(A1.out.keep hb).c1,(A3.out.keep hb).c0,(A3.out.keep hb).c1,(A2.out.keep hb).c0,(A2.out.keep hb).c1⟩:w'.cell? ⟨p11,0,none⟩=some (.int .i64 x1)∧w'.cell? ⟨p11,1,none⟩=some (.pointer X1)∧w'.cell? ⟨pg,0,none⟩=some (.int .i64 ga)∧w'.cell? ⟨pg,1,none⟩=some (.pointer gP)∧w'.cell? ⟨p12,0,none⟩=some (.int .i64 y1)∧w'.cell? ⟨p12,1,none⟩=some (.pointer Y1)))
  have HQ1:=Lh (fun v (hb:Below wo.heap.size wo v)=>quotient_any x1 X1 ga gP (p.den:Int) (g:Int) v (A1.out.keep hb).int (A3.out.keep hb).int (by have:=Gp.out; omega) (by rw [Int.natAbs_natCast]; exact base_up Bd.out.2.1 (by decide)) (by rw [Int.natAbs_natCast]; exact base_up Gl.out (by decide)))
  have HQ2:=Lh (fun v (hb:Below wo.heap.size wo v)=>quotient_any y1 Y1 ga gP (q.den:Int) (g:Int) v (A2.out.keep hb).int (A3.out.keep hb).int (by have:=Gp.out; omega) (by rw [Int.natAbs_natCast]; exact base_up Bd.out.2.2.2 (by decide)) (by rw [Int.natAbs_natCast]; exact base_up Gl.out (by decide)))
  simp only [← Int.natCast_ediv] at HQ1 HQ2
  go_upto_region 3 with fail
  try simp only [hpg,hwo]
  clear hpg hwo
  go_cut [8,9] (fun s s' wx=>∃ (p1:Nat) (x:Int) (X:Option Addr) (p2:Nat) (y:Int) (Y:Option Addr),s= .pointer (some ⟨p1,0,none⟩)∧s'= .pointer (some ⟨p2,0,none⟩)∧Var wx p1 x X (((p.den / g:Nat):Int))∧Var wx p2 y Y (((q.den / g:Nat):Int))∧p1≠p2∧wo.heap.size≤p1∧wo.heap.size≤p2∧Below wo.heap.size wo wx)
  case first=>
   refine Till.begin 9 (fun w'=>w'.cell? ⟨p11,0,none⟩=some (.int .i64 x1)∧w'.cell? ⟨p11,1,none⟩=some (.pointer X1)∧w'.cell? ⟨pg,0,none⟩=some (.int .i64 ga)∧w'.cell? ⟨pg,1,none⟩=some (.pointer gP)∧w'.cell? ⟨p12,0,none⟩=some (.int .i64 y1)∧w'.cell? ⟨p12,1,none⟩=some (.pointer Y1)) (by kernel_rfl) (HS.out _ (Below.refl _ _).drew) (fun hH=>?_)
   refine Till.tk 0 2 19 (.agg #[.int .i64 x1,.pointer X1]) hH ?_
   try simp only [Act.put,Pls]
   refine Till.tk 1 2 20 (.agg #[.int .i64 ga,.pointer gP]) hH ?_
   try simp only [Act.put,Pls]
   refine Till.tk 3 5 22 (.agg #[.int .i64 y1,.pointer Y1]) hH ?_
   try simp only [Act.put,Pls]
   refine Till.tk 4 5 23 (.agg #[.int .i64 ga,.pointer gP]) hH ?_
   try simp only [Act.put,Pls]
   clear hH
   have B0:=Lh (Below.refl wo.heap.size wo).drew
   generalize wo.drew=v0 at B0 ⊢
   refine Till.phase [2,5,6,7] #[true,true,true,true,true,true,true,true,false,false] 2 (fun a0 d a v=>∃ t2 t5 t6 t7:Value,a=puts a0 [(21,t2),(24,t5),(8,t6),(9,t7)]∧Below wo.heap.size wo v∧(d 2=true→IntAt v t2 (((p.den / g:Nat):Int)))∧(d 5=true→IntAt v t5 (((q.den / g:Nat):Int)))∧(d 6=true→PtrI wo.heap.size v t6)∧(d 7=true→PtrI wo.heap.size v t7)∧(d 6=true→d 7=true→t6≠t7)) rfl (by kernel_rfl) (by rintro d a v ⟨_,_,_,_,rfl,hB,_⟩; exact HS.out _ hB) ⟨_,_,_,_,rfl,B0.out,(fun h=>absurd h (by decide)),(fun h=>absurd h (by decide)),(fun h=>absurd h (by decide)),(fun h=>absurd h (by decide)),(fun h=>absurd h (by decide))⟩ ⟨⟨_,rfl,?_⟩,⟨_,rfl,?_⟩,⟨_,rfl,?_⟩,⟨_,rfl,?_⟩,trivial⟩ ?_
   ·rintro d a v ⟨t2,t5,t6,t7,rfl,hB,F2,F5,F6,F7,D6_7⟩ _ ha K hK
    replace hB:=Lh hB
    replace F2:=Lh F2
    replace F5:=Lh F5
    replace F6:=Lh F6
    replace F7:=Lh F7
    replace D6_7:=Lh D6_7
    clear ha
    try simp only [puts,Act.put,Pls]
    go_simp
    refine (HQ1.out _ hB.out).mono ?_
    rintro e v1 ⟨x2,X2,rfl,hx,g⟩
    replace hx:=Lh hx
    replace g:=Lh g
    go_wp2_with fail
    exact hK.out _ _ ⟨.agg #[.int .i64 x2,.pointer X2],t5,t6,t7,rfl,below_on hB.out g.out,fun _=>⟨x2,X2,rfl,hx.out⟩,fun h=>(F5.out h).keep g.out,fun h=>(F6.out h).keep g.out,fun h=>(F7.out h).keep g.out,fun h h2=>D6_7.out h h2⟩
   ·rintro d a v ⟨t2,t5,t6,t7,rfl,hB,F2,F5,F6,F7,D6_7⟩ _ ha K hK
    obtain ⟨x2,X2,rfl,I2⟩:=F2 (ha 2 (by kernel_rfl))
    replace hB:=Lh hB
    replace F2:=Lh F2
    replace F5:=Lh F5
    replace F6:=Lh F6
    replace F7:=Lh F7
    replace I2:=Lh I2
    replace D6_7:=Lh D6_7
    clear ha
    try simp only [puts,Act.put,Pls]
    go_simp
    refine (HQ2.out _ hB.out).mono ?_
    rintro e v1 ⟨x5,X5,rfl,hx,g⟩
    replace hx:=Lh hx
    replace g:=Lh g
    go_wp2_with fail
    exact hK.out _ _ ⟨.agg #[.int .i64 x2,.pointer X2],.agg #[.int .i64 x5,.pointer X5],t6,t7,rfl,below_on hB.out g.out,fun h=>(F2.out h).keep g.out,fun _=>⟨x5,X5,rfl,hx.out⟩,fun h=>(F6.out h).keep g.out,fun h=>(F7.out h).keep g.out,fun h h2=>D6_7.out h h2⟩
   ·rintro d a v ⟨t2,t5,t6,t7,rfl,hB,F2,F5,F6,F7,D6_7⟩ _ ha K hK
    replace hB:=Lh hB
    replace F2:=Lh F2
    replace F5:=Lh F5
    replace F6:=Lh F6
    replace F7:=Lh F7
    replace D6_7:=Lh D6_7
    clear ha
    try simp only [puts,Act.put,Pls]
    have g:=Lh ((Below.refl v.heap.size v).alloc (Nat.le_refl _) (.cells #[.int .i64 0,.pointer none] 28))
    go_simp
    exact hK.out _ _ ⟨t2,t5,.pointer (some ⟨v.heap.size,0,none⟩),t7,rfl,below_on hB.out g.out,fun h=>(F2.out h).keep g.out,fun h=>(F5.out h).keep g.out,fun _=>⟨v.heap.size,rfl,hB.out.size,Hold.new v 0 none⟩,fun h=>(F7.out h).keep g.out,fun _ h=>((F7.out h).ne).symm⟩
   ·rintro d a v ⟨t2,t5,t6,t7,rfl,hB,F2,F5,F6,F7,D6_7⟩ _ ha K hK
    replace hB:=Lh hB
    replace F2:=Lh F2
    replace F5:=Lh F5
    replace F6:=Lh F6
    replace F7:=Lh F7
    replace D6_7:=Lh D6_7
    clear ha
    try simp only [puts,Act.put,Pls]
    have g:=Lh ((Below.refl v.heap.size v).alloc (Nat.le_refl _) (.cells #[.int .i64 0,.pointer none] 28))
    go_simp
    exact hK.out _ _ ⟨t2,t5,t6,.pointer (some ⟨v.heap.size,0,none⟩),rfl,below_on hB.out g.out,fun h=>(F2.out h).keep g.out,fun h=>(F5.out h).keep g.out,fun h=>(F6.out h).keep g.out,fun _=>⟨v.heap.size,rfl,hB.out.size,Hold.new v 0 none⟩,fun h _=>(F6.out h).ne⟩
   ·rintro d a v ⟨t2,t5,t6,t7,rfl,hB,F2,F5,F6,F7,D6_7⟩ hE
    obtain ⟨x2,X2,rfl,I2⟩:=F2 (hE 2 (by decide))
    obtain ⟨x5,X5,rfl,I5⟩:=F5 (hE 5 (by decide))
    obtain ⟨p6,rfl,le6,N6⟩:=F6 (hE 6 (by decide))
    obtain ⟨p7,rfl,le7,N7⟩:=F7 (hE 7 (by decide))
    have ne6_7:p6≠p7:=fun h=>D6_7 (hE 6 (by decide)) (hE 7 (by decide)) (by rw [h])
    have ne7_6:p7≠p6:=Ne.symm ne6_7
    clear hE F2 F5 F6 F7 D6_7
    replace hB:=Lh hB
    replace I2:=Lh I2
    replace I5:=Lh I5
    replace N6:=Lh N6
    replace N7:=Lh N7
    try simp only [puts,Act.put,Pls]
    have k60:=N6.out.c0
    have k61:=N6.out.c1
    have f60:=N6.out.f0
    have f61:=N6.out.f1
    have k70:=N7.out.c0
    have k71:=N7.out.c1
    have f70:=N7.out.f0
    have f71:=N7.out.f1
    refine Till.one (i:=8) (by kernel_rfl) rfl (fun K hK=>?_)
    go_simp
    refine hK.out _ _ (fun _=>HS.out _ (below_stored hB.out le6 (.int .i64 x2) (.pointer X2))) ?_
    clear hK K
    try simp only [Pls]
    refine Till.one (i:=9) (by kernel_rfl) rfl (fun K hK=>?_)
    go_simp
    refine hK.out _ _ (fun h=>absurd h (by simp)) ?_
    clear hK K
    try simp only [Pls]
    refine Till.done (by kernel_rfl) ?_ _
    go_wp2_with fail
    go_meet
    exact ⟨p6,x2,X2,p7,x5,X5,rfl,rfl,(var_put N6.out I2.out).held (N7.out.other ne7_6 (.int .i64 x2) (.pointer X2)) ne6_7 (.int .i64 x5) (.pointer X5),var_put (N7.out.other ne7_6 (.int .i64 x2) (.pointer X2)) (I5.out.held N6.out _ _),ne6_7,le6,le7,below_stored (below_stored hB.out le6 (.int .i64 x2) (.pointer X2)) le7 (.int .i64 x5) (.pointer X5)⟩
  case rest=>
   obtain ⟨p13,x2,X2,p14,y2,Y2,rfl,rfl,hv1,hv2,hne,le11,le12,hb⟩:=hcut
   replace V0:=Lh (V0.out.keep hb)
   replace V1:=Lh (V1.out.keep hb)
   replace R:=Lh (R.out.keep hb)
   replace A1:=Lh (A1.out.keep hb)
   replace A2:=Lh (A2.out.keep hb)
   replace A3:=Lh (A3.out.keep hb)
   have K3:=Lh (below_on K2.out hb)
   have A4:=Lh hv1
   have A5:=Lh hv2
   clear hv1 hv2 hb HS HQ1 HQ2 hne le11 le12
   generalize wc=wp at *
   obtain ⟨x,hx⟩:∃ x,p.den / g=x:=⟨_,rfl⟩
   obtain ⟨y,hy⟩:∃ y,q.den / g=y:=⟨_,rfl⟩
   have Hx:=Lh hx
   have Hy:=Lh hy
   have lx:=Lh (show ((x:Nat):Int).natAbs<base 47 by rw [← hx]; exact nat_quot_lt Bd.out.2.1)
   have ly:=Lh (show ((y:Nat):Int).natAbs<base 47 by rw [← hy]; exact nat_quot_lt Bd.out.2.2.2)
   rw [hx] at A4
   rw [hy] at A5
   clear hx hy
   obtain ⟨m,hm⟩:∃ m,p.num*(y:Int)+q.num*(x:Int)=m:=⟨_,rfl⟩
   have Hm:=Lh hm
   have lm:=Lh (show m.natAbs<base 95 by rw [← hm]; exact add95 (mul94 Bd.out.1 ly.out) (mul94 Bd.out.2.2.1 lx.out))
   have HM1:=Lh (fun v (hb:Below wp.heap.size wp v)=>mul_any a y2 P Y2 p.num (y:Int) v (HP.out v (below_on K3.out hb)).num (A5.out.keep hb).int (base_up Bd.out.1 (by decide)) (base_up ly.out (by decide)) (.inl Bd.out.1))
   have HM2:=Lh (fun v (hb:Below wp.heap.size wp v)=>mul_any c x2 U X2 q.num (x:Int) v (HQ.out v (below_on K3.out hb)).num (A4.out.keep hb).int (base_up Bd.out.2.2.1 (by decide)) (base_up lx.out (by decide)) (.inl Bd.out.2.2.1))
   have HA:=Lh (fun xa xA xb xB v (h1:IsInt 0 v (.agg #[.int .i64 xa,.pointer xA]) (p.num*(y:Int))) (h2:IsInt 0 v (.agg #[.int .i64 xb,.pointer xB]) (q.num*(x:Int)))=>add_any xa xb xA xB _ _ v h1 h2 (base_up (mul94 Bd.out.1 ly.out) (by decide)) (base_up (mul94 Bd.out.2.2.1 lx.out) (by decide)))
   rw [hm] at HA
   clear hm
   have HS:=Lh (fun w' (hb:Below wp.heap.size wp w')=>(⟨(V0.out.keep hb).c0,(V0.out.keep hb).c1,(V0.out.keep hb).c2,(V0.out.keep hb).c3,(A5.out.keep hb).c0,(A5.out.keep hb).c1,(V1.out.keep hb).c0,(V1.out.keep hb).c1,(V1.out.keep hb).c2,(V1.out.keep hb).c3,(A4.out.keep hb).c0,(A4.out.keep hb).c1⟩:w'.cell? ⟨w.heap.size,0,none⟩=some (.int .i64 a)∧w'.cell? ⟨w.heap.size,1,none⟩=some (.pointer P)∧w'.cell? ⟨w.heap.size,2,none⟩=some (.int .i64 b)∧w'.cell? ⟨w.heap.size,3,none⟩=some (.pointer Q)∧w'.cell? ⟨p14,0,none⟩=some (.int .i64 y2)∧w'.cell? ⟨p14,1,none⟩=some (.pointer Y2)∧w'.cell? ⟨w.heap.size+1,0,none⟩=some (.int .i64 c)∧w'.cell? ⟨w.heap.size+1,1,none⟩=some (.pointer U)∧w'.cell? ⟨w.heap.size+1,2,none⟩=some (.int .i64 d)∧w'.cell? ⟨w.heap.size+1,3,none⟩=some (.pointer V)∧w'.cell? ⟨p13,0,none⟩=some (.int .i64 x2)∧w'.cell? ⟨p13,1,none⟩=some (.pointer X2)))
   go_upto_region 4 with fail
   go_cut [10] (fun s wx=>∃ (p1:Nat) (x:Int) (X:Option Addr),s= .pointer (some ⟨p1,0,none⟩)∧Var wx p1 x X (m)∧wp.heap.size≤p1∧Below wp.heap.size wp wx)
   case first=>
    refine Till.begin 10 (fun w'=>w'.cell? ⟨w.heap.size,0,none⟩=some (.int .i64 a)∧w'.cell? ⟨w.heap.size,1,none⟩=some (.pointer P)∧w'.cell? ⟨w.heap.size,2,none⟩=some (.int .i64 b)∧w'.cell? ⟨w.heap.size,3,none⟩=some (.pointer Q)∧w'.cell? ⟨p14,0,none⟩=some (.int .i64 y2)∧w'.cell? ⟨p14,1,none⟩=some (.pointer Y2)∧w'.cell? ⟨w.heap.size+1,0,none⟩=some (.int .i64 c)∧w'.cell? ⟨w.heap.size+1,1,none⟩=some (.pointer U)∧w'.cell? ⟨w.heap.size+1,2,none⟩=some (.int .i64 d)∧w'.cell? ⟨w.heap.size+1,3,none⟩=some (.pointer V)∧w'.cell? ⟨p13,0,none⟩=some (.int .i64 x2)∧w'.cell? ⟨p13,1,none⟩=some (.pointer X2)) (by kernel_rfl) (HS.out _ (Below.refl _ _).drew) (fun hH=>?_)
    refine Till.tk 0 1 25 (.pointer (some ⟨w.heap.size,0,none⟩)) hH ?_
    try simp only [Act.put,Pls]
    refine Till.tk 1 3 26 (.agg #[.int .i64 a,.pointer P]) hH ?_
    try simp only [Act.put,Pls]
    refine Till.tk 2 3 27 (.agg #[.int .i64 y2,.pointer Y2]) hH ?_
    try simp only [Act.put,Pls]
    refine Till.tk 4 5 29 (.pointer (some ⟨w.heap.size+1,0,none⟩)) hH ?_
    try simp only [Act.put,Pls]
    refine Till.tk 5 7 30 (.agg #[.int .i64 c,.pointer U]) hH ?_
    try simp only [Act.put,Pls]
    refine Till.tk 6 7 31 (.agg #[.int .i64 x2,.pointer X2]) hH ?_
    try simp only [Act.put,Pls]
    clear hH
    have B0:=Lh (Below.refl wp.heap.size wp).drew
    generalize wp.drew=v0 at B0 ⊢
    refine Till.phase [3,7,8,9] #[true,true,true,true,true,true,true,true,true,true,false] 1 (fun a0 d a v=>∃ t3 t7 t8 t9:Value,a=puts a0 [(28,t3),(32,t7),(33,t8),(10,t9)]∧Below wp.heap.size wp v∧(d 3=true→IntAt v t3 (p.num*(y:Int)))∧(d 7=true→IntAt v t7 (q.num*(x:Int)))∧(d 8=true→IntAt v t8 (m))∧(d 9=true→PtrI wp.heap.size v t9)) rfl (by kernel_rfl) (by rintro d a v ⟨_,_,_,_,rfl,hB,_⟩; exact HS.out _ hB) ⟨_,_,_,_,rfl,B0.out,(fun h=>absurd h (by decide)),(fun h=>absurd h (by decide)),(fun h=>absurd h (by decide)),(fun h=>absurd h (by decide))⟩ ⟨⟨_,rfl,?_⟩,⟨_,rfl,?_⟩,⟨_,rfl,?_⟩,⟨_,rfl,?_⟩,trivial⟩ ?_
    ·rintro d a v ⟨t3,t7,t8,t9,rfl,hB,F3,F7,F8,F9⟩ _ ha K hK
     replace hB:=Lh hB
     replace F3:=Lh F3
     replace F7:=Lh F7
     replace F8:=Lh F8
     replace F9:=Lh F9
     clear ha
     try simp only [puts,Act.put,Pls]
     go_simp
     refine (HM1.out _ hB.out).mono ?_
     rintro e v1 ⟨x3,X3,rfl,hx,g⟩
     replace hx:=Lh hx
     replace g:=Lh g
     go_wp2_with fail
     exact hK.out _ _ ⟨.agg #[.int .i64 x3,.pointer X3],t7,t8,t9,rfl,below_on hB.out g.out,fun _=>⟨x3,X3,rfl,hx.out⟩,fun h=>(F7.out h).keep g.out,fun h=>(F8.out h).keep g.out,fun h=>(F9.out h).keep g.out⟩
    ·rintro d a v ⟨t3,t7,t8,t9,rfl,hB,F3,F7,F8,F9⟩ _ ha K hK
     obtain ⟨x3,X3,rfl,I3⟩:=F3 (ha 3 (by kernel_rfl))
     replace hB:=Lh hB
     replace F3:=Lh F3
     replace F7:=Lh F7
     replace F8:=Lh F8
     replace F9:=Lh F9
     replace I3:=Lh I3
     clear ha
     try simp only [puts,Act.put,Pls]
     go_simp
     refine (HM2.out _ hB.out).mono ?_
     rintro e v1 ⟨x7,X7,rfl,hx,g⟩
     replace hx:=Lh hx
     replace g:=Lh g
     go_wp2_with fail
     exact hK.out _ _ ⟨.agg #[.int .i64 x3,.pointer X3],.agg #[.int .i64 x7,.pointer X7],t8,t9,rfl,below_on hB.out g.out,fun h=>(F3.out h).keep g.out,fun _=>⟨x7,X7,rfl,hx.out⟩,fun h=>(F8.out h).keep g.out,fun h=>(F9.out h).keep g.out⟩
    ·rintro d a v ⟨t3,t7,t8,t9,rfl,hB,F3,F7,F8,F9⟩ _ ha K hK
     obtain ⟨x3,X3,rfl,I3⟩:=F3 (ha 3 (by kernel_rfl))
     obtain ⟨x7,X7,rfl,I7⟩:=F7 (ha 7 (by kernel_rfl))
     replace hB:=Lh hB
     replace F3:=Lh F3
     replace F7:=Lh F7
     replace F8:=Lh F8
     replace F9:=Lh F9
     replace I3:=Lh I3
     replace I7:=Lh I7
     clear ha
     try simp only [puts,Act.put,Pls]
     go_simp
     refine (HA.out _ _ _ _ _ I3.out I7.out).mono ?_
     rintro e v1 ⟨x8,X8,rfl,hx,g⟩
     replace hx:=Lh hx
     replace g:=Lh g
     go_wp2_with fail
     exact hK.out _ _ ⟨.agg #[.int .i64 x3,.pointer X3],.agg #[.int .i64 x7,.pointer X7],.agg #[.int .i64 x8,.pointer X8],t9,rfl,below_on hB.out g.out,fun h=>(F3.out h).keep g.out,fun h=>(F7.out h).keep g.out,fun _=>⟨x8,X8,rfl,hx.out⟩,fun h=>(F9.out h).keep g.out⟩
    ·rintro d a v ⟨t3,t7,t8,t9,rfl,hB,F3,F7,F8,F9⟩ _ ha K hK
     replace hB:=Lh hB
     replace F3:=Lh F3
     replace F7:=Lh F7
     replace F8:=Lh F8
     replace F9:=Lh F9
     clear ha
     try simp only [puts,Act.put,Pls]
     have g:=Lh ((Below.refl v.heap.size v).alloc (Nat.le_refl _) (.cells #[.int .i64 0,.pointer none] 28))
     go_simp
     exact hK.out _ _ ⟨t3,t7,t8,.pointer (some ⟨v.heap.size,0,none⟩),rfl,below_on hB.out g.out,fun h=>(F3.out h).keep g.out,fun h=>(F7.out h).keep g.out,fun h=>(F8.out h).keep g.out,fun _=>⟨v.heap.size,rfl,hB.out.size,Hold.new v 0 none⟩⟩
    ·rintro d a v ⟨t3,t7,t8,t9,rfl,hB,F3,F7,F8,F9⟩ hE
     obtain ⟨x3,X3,rfl,I3⟩:=F3 (hE 3 (by decide))
     obtain ⟨x7,X7,rfl,I7⟩:=F7 (hE 7 (by decide))
     obtain ⟨x8,X8,rfl,I8⟩:=F8 (hE 8 (by decide))
     obtain ⟨p9,rfl,le9,N9⟩:=F9 (hE 9 (by decide))
     clear hE F3 F7 F8 F9
     replace hB:=Lh hB
     replace I3:=Lh I3
     replace I7:=Lh I7
     replace I8:=Lh I8
     replace N9:=Lh N9
     try simp only [puts,Act.put,Pls]
     have k90:=N9.out.c0
     have k91:=N9.out.c1
     have f90:=N9.out.f0
     have f91:=N9.out.f1
     refine Till.one (i:=10) (by kernel_rfl) rfl (fun K hK=>?_)
     go_simp
     refine hK.out _ _ (fun h=>absurd h (by simp)) ?_
     clear hK K
     try simp only [Pls]
     refine Till.done (by kernel_rfl) ?_ _
     go_wp2_with fail
     go_meet
     exact ⟨p9,x8,X8,rfl,var_put N9.out I8.out,le9,below_stored hB.out le9 (.int .i64 x8) (.pointer X8)⟩
   case rest=>
    obtain ⟨p15,x3,X3,rfl,hv1,le11,hb⟩:=hcut
    replace R:=Lh (R.out.keep hb)
    replace A2:=Lh (A2.out.keep hb)
    replace A3:=Lh (A3.out.keep hb)
    replace A4:=Lh (A4.out.keep hb)
    have K4:=Lh (below_on K3.out hb)
    have A6:=Lh hv1
    clear hv1 hb HS HM1 HM2 HA le11 V0 V1 A1 A5
    generalize wc=ws at *
    have HG:=Lh (gcd_any x3 ga X3 gP m (g:Int) ws A6.out.int A3.out.int (base_up lm.out (by decide)) (by rw [Int.natAbs_natCast]; exact base_up Gl.out (by decide)) (Hw.out ws K4.out).2 (Nat.lt_of_le_of_lt (Nat.zero_le _) A6.out.lt))
    simp only [Int.natAbs_natCast] at HG
    obtain ⟨k,hk⟩:∃ k,Nat.gcd m.natAbs g=k:=⟨_,rfl⟩
    rw [hk] at HG
    have kp:0<k:=by rw [← hk]; exact Nat.gcd_pos_of_pos_right _ Gp.out
    have kl:k<base 47:=by rw [← hk]; exact Nat.lt_of_le_of_lt (Nat.gcd_le_right _ Gp.out) Gl.out
    obtain ⟨r1,r2⟩:=rat_add p q Gg.out Hx.out Hy.out Hm.out hk
    have Q1:=Lh r1
    have Q2:=Lh r2
    have Kp:=Lh kp
    have Kl:=Lh kl
    clear hk kp kl r1 r2
    have c0:=A6.out.c0
    have c1:=A6.out.c1
    have d0:=A3.out.c0
    have d1:=A3.out.c1
    go_wp2_with fail
    refine HG.out.mono ?_
    rintro e n1 ⟨ka,kP,rfl,hig,g1⟩
    have k3:=(Below.refl n1.heap.size n1).alloc (Nat.le_refl _) (.cells #[.int .i64 ka,.pointer kP] 28)
    have A7:=Lh (Var.new hig)
    replace R:=Lh ((R.out.keep g1).keep k3)
    replace A2:=Lh ((A2.out.keep g1).keep k3)
    replace A4:=Lh ((A4.out.keep g1).keep k3)
    replace A6:=Lh ((A6.out.keep g1).keep k3)
    have K5:=Lh (below_on (below_on K4.out g1) k3)
    obtain ⟨pg2,hpg⟩:∃ p,n1.heap.size=p:=⟨_,rfl⟩
    obtain ⟨wt,hwt⟩:∃ wu,n1.alloc (.cells #[.int .i64 ka,.pointer kP] 28)=wu:=⟨_,rfl⟩
    rw [hwt] at A7 R A2 A4 A6 K5
    rw [hpg] at A7
    clear g1 hig k3 c0 c1 d0 d1 HG A3
    have HS:=Lh (fun w' (hb:Below wt.heap.size wt w')=>(⟨(A6.out.keep hb).c0,(A6.out.keep hb).c1,(A7.out.keep hb).c0,(A7.out.keep hb).c1,(A4.out.keep hb).c0,(A4.out.keep hb).c1,(A2.out.keep hb).c0,(A2.out.keep hb).c1⟩:w'.cell? ⟨p15,0,none⟩=some (.int .i64 x3)∧w'.cell? ⟨p15,1,none⟩=some (.pointer X3)∧w'.cell? ⟨pg2,0,none⟩=some (.int .i64 ka)∧w'.cell? ⟨pg2,1,none⟩=some (.pointer kP)∧w'.cell? ⟨p13,0,none⟩=some (.int .i64 x2)∧w'.cell? ⟨p13,1,none⟩=some (.pointer X2)∧w'.cell? ⟨p12,0,none⟩=some (.int .i64 y1)∧w'.cell? ⟨p12,1,none⟩=some (.pointer Y1)))
    have HQ1:=Lh (fun v (hb:Below wt.heap.size wt v)=>quotient_any x3 X3 ka kP m (k:Int) v (A6.out.keep hb).int (A7.out.keep hb).int (by have:=Kp.out; omega) (base_up lm.out (by decide)) (by rw [Int.natAbs_natCast]; exact base_up Kl.out (by decide)))
    have HQ2:=Lh (fun v (hb:Below wt.heap.size wt v)=>quotient_any y1 Y1 ka kP (q.den:Int) (k:Int) v (A2.out.keep hb).int (A7.out.keep hb).int (by have:=Kp.out; omega) (by rw [Int.natAbs_natCast]; exact base_up Bd.out.2.2.2 (by decide)) (by rw [Int.natAbs_natCast]; exact base_up Kl.out (by decide)))
    simp only [← Int.natCast_ediv] at HQ2
    rw [← Q1.out] at HQ1
    have HMx:=Lh (fun xb xB v (hb:Below wt.heap.size wt v) (h2:IsInt 0 v (.agg #[.int .i64 xb,.pointer xB]) ((q.den / k:Nat):Int))=>mul_any x2 xb X2 xB (x:Int) ((q.den / k:Nat):Int) v (A4.out.keep hb).int h2 (base_up lx.out (by decide)) (base_up (nat_quot_lt Bd.out.2.2.2) (by decide)) (.inl lx.out))
    rw [← Q2.out] at HMx
    go_upto_region 6 with fail
    try simp only [hpg,hwt]
    clear hpg hwt
    refine Till.begin 9 (fun w'=>w'.cell? ⟨p15,0,none⟩=some (.int .i64 x3)∧w'.cell? ⟨p15,1,none⟩=some (.pointer X3)∧w'.cell? ⟨pg2,0,none⟩=some (.int .i64 ka)∧w'.cell? ⟨pg2,1,none⟩=some (.pointer kP)∧w'.cell? ⟨p13,0,none⟩=some (.int .i64 x2)∧w'.cell? ⟨p13,1,none⟩=some (.pointer X2)∧w'.cell? ⟨p12,0,none⟩=some (.int .i64 y1)∧w'.cell? ⟨p12,1,none⟩=some (.pointer Y1)) (by kernel_rfl) (HS.out _ (Below.refl _ _).drew) (fun hH=>?_)
    refine Till.tk 0 2 37 (.agg #[.int .i64 x3,.pointer X3]) hH ?_
    try simp only [Act.put,Pls]
    refine Till.tk 1 2 38 (.agg #[.int .i64 ka,.pointer kP]) hH ?_
    try simp only [Act.put,Pls]
    refine Till.tk 3 7 40 (.agg #[.int .i64 x2,.pointer X2]) hH ?_
    try simp only [Act.put,Pls]
    refine Till.tk 4 6 41 (.agg #[.int .i64 y1,.pointer Y1]) hH ?_
    try simp only [Act.put,Pls]
    refine Till.tk 5 6 42 (.agg #[.int .i64 ka,.pointer kP]) hH ?_
    try simp only [Act.put,Pls]
    clear hH
    have B0:=Lh (Below.refl wt.heap.size wt).drew
    generalize wt.drew=v0 at B0 ⊢
    refine Till.phase [2,6,7,8] #[true,true,true,true,true,true,true,true,true,false] 1 (fun a0 d a v=>∃ t2 t6 t7 t8:Value,a=puts a0 [(39,t2),(43,t6),(44,t7),(45,t8)]∧Below wt.heap.size wt v∧(d 2=true→IntAt v t2 ((p+q).num))∧(d 6=true→IntAt v t6 (((q.den / k:Nat):Int)))∧(d 7=true→IntAt v t7 (((p+q).den:Int)))∧(d 8=true→RatAt v t8 (p+q))) rfl (by kernel_rfl) (by rintro d a v ⟨_,_,_,_,rfl,hB,_⟩; exact HS.out _ hB) ⟨_,_,_,_,rfl,B0.out,(fun h=>absurd h (by decide)),(fun h=>absurd h (by decide)),(fun h=>absurd h (by decide)),(fun h=>absurd h (by decide))⟩ ⟨⟨_,rfl,?_⟩,⟨_,rfl,?_⟩,⟨_,rfl,?_⟩,⟨_,rfl,?_⟩,trivial⟩ ?_
    ·rintro d a v ⟨t2,t6,t7,t8,rfl,hB,F2,F6,F7,F8⟩ _ ha K hK
     replace hB:=Lh hB
     replace F2:=Lh F2
     replace F6:=Lh F6
     replace F7:=Lh F7
     replace F8:=Lh F8
     clear ha
     try simp only [puts,Act.put,Pls]
     go_simp
     refine (HQ1.out _ hB.out).mono ?_
     rintro e v1 ⟨x2,X2,rfl,hx,g⟩
     replace hx:=Lh hx
     replace g:=Lh g
     go_wp2_with fail
     exact hK.out _ _ ⟨.agg #[.int .i64 x2,.pointer X2],t6,t7,t8,rfl,below_on hB.out g.out,fun _=>⟨x2,X2,rfl,hx.out⟩,fun h=>(F6.out h).keep g.out,fun h=>(F7.out h).keep g.out,fun h=>(F8.out h).keep g.out⟩
    ·rintro d a v ⟨t2,t6,t7,t8,rfl,hB,F2,F6,F7,F8⟩ _ ha K hK
     obtain ⟨x2,X2,rfl,I2⟩:=F2 (ha 2 (by kernel_rfl))
     replace hB:=Lh hB
     replace F2:=Lh F2
     replace F6:=Lh F6
     replace F7:=Lh F7
     replace F8:=Lh F8
     replace I2:=Lh I2
     clear ha
     try simp only [puts,Act.put,Pls]
     go_simp
     refine (HQ2.out _ hB.out).mono ?_
     rintro e v1 ⟨x6,X6,rfl,hx,g⟩
     replace hx:=Lh hx
     replace g:=Lh g
     go_wp2_with fail
     exact hK.out _ _ ⟨.agg #[.int .i64 x2,.pointer X2],.agg #[.int .i64 x6,.pointer X6],t7,t8,rfl,below_on hB.out g.out,fun h=>(F2.out h).keep g.out,fun _=>⟨x6,X6,rfl,hx.out⟩,fun h=>(F7.out h).keep g.out,fun h=>(F8.out h).keep g.out⟩
    ·rintro d a v ⟨t2,t6,t7,t8,rfl,hB,F2,F6,F7,F8⟩ _ ha K hK
     obtain ⟨x6,X6,rfl,I6⟩:=F6 (ha 6 (by kernel_rfl))
     replace hB:=Lh hB
     replace F2:=Lh F2
     replace F6:=Lh F6
     replace F7:=Lh F7
     replace F8:=Lh F8
     replace I6:=Lh I6
     clear ha
     try simp only [puts,Act.put,Pls]
     go_simp
     refine (HMx.out _ _ _ hB.out I6.out).mono ?_
     rintro e v1 ⟨x7,X7,rfl,hx,g⟩
     replace hx:=Lh hx
     replace g:=Lh g
     go_wp2_with fail
     exact hK.out _ _ ⟨t2,.agg #[.int .i64 x6,.pointer X6],.agg #[.int .i64 x7,.pointer X7],t8,rfl,below_on hB.out g.out,fun h=>(F2.out h).keep g.out,fun h=>(F6.out h).keep g.out,fun _=>⟨x7,X7,rfl,hx.out⟩,fun h=>(F8.out h).keep g.out⟩
    ·rintro d a v ⟨t2,t6,t7,t8,rfl,hB,F2,F6,F7,F8⟩ _ ha K hK
     obtain ⟨x2,X2,rfl,I2⟩:=F2 (ha 2 (by kernel_rfl))
     obtain ⟨x7,X7,rfl,I7⟩:=F7 (ha 7 (by kernel_rfl))
     replace hB:=Lh hB
     replace F2:=Lh F2
     replace F6:=Lh F6
     replace F7:=Lh F7
     replace F8:=Lh F8
     replace I2:=Lh I2
     replace I7:=Lh I7
     clear ha
     try simp only [puts,Act.put,Pls]
     go_simp
     refine (of_any _ _ _ _ (p+q) _ I2.out I7.out).mono ?_
     rintro e v1 ⟨x8,X8,y8,Y8,rfl,hx,g⟩
     replace hx:=Lh hx
     replace g:=Lh g
     go_wp2_with fail
     exact hK.out _ _ ⟨.agg #[.int .i64 x2,.pointer X2],t6,.agg #[.int .i64 x7,.pointer X7],.agg #[.int .i64 x8,.pointer X8,.int .i64 y8,.pointer Y8],rfl,below_on hB.out g.out,fun h=>(F2.out h).keep g.out,fun h=>(F6.out h).keep g.out,fun h=>(F7.out h).keep g.out,fun _=>⟨x8,X8,y8,Y8,rfl,hx.out⟩⟩
    ·rintro d a v ⟨t2,t6,t7,t8,rfl,hB,F2,F6,F7,F8⟩ hE
     obtain ⟨x2,X2,rfl,I2⟩:=F2 (hE 2 (by decide))
     obtain ⟨x6,X6,rfl,I6⟩:=F6 (hE 6 (by decide))
     obtain ⟨x7,X7,rfl,I7⟩:=F7 (hE 7 (by decide))
     obtain ⟨x8,X8,y8,Y8,rfl,I8⟩:=F8 (hE 8 (by decide))
     clear hE F2 F6 F7 F8
     replace hB:=Lh hB
     replace I2:=Lh I2
     replace I6:=Lh I6
     replace I7:=Lh I7
     replace I8:=Lh I8
     try simp only [puts,Act.put,Pls]
     replace R:=Lh (R.out.keep hB.out)
     have k0:=R.out.c0
     have f0:=R.out.fz 0
     have k1:=R.out.c1
     have f1:=R.out.fz 1
     have k2:=R.out.c2
     have f2:=R.out.fz 2
     have k3:=R.out.c3
     have f3:=R.out.fz 3
     refine Till.one (i:=9) (by kernel_rfl) rfl (fun K hK=>?_)
     go_simp
     refine hK.out _ _ (fun h=>absurd h (by simp)) ?_
     clear hK K
     try simp only [Pls]
     refine Till.done (by kernel_rfl) ?_ _
     have Hv:=Lh (I8.out.wrote R.out (by rfl) (put4_heap v (w.heap.size+1+1) (.int .i64 x8) (.pointer X8) (.int .i64 y8) (.pointer Y8)).1 (put4_heap _ _ _ _ _ _).2)
     have Kf:=Lh (below_put4 (below_on K5.out hB.out) (show w.heap.size≤w.heap.size+1+1 by omega) (.int .i64 x8) (.pointer X8) (.int .i64 y8) (.pointer Y8))
     go_wp2
     exact bodyPost_ret (v:= .agg #[.int .i64 x8,.pointer X8,.int .i64 y8,.pointer Y8]) (by simp [results,Tryz.results93,go_sem,k0,k1,k2,k3]) rfl ⟨x8,X8,y8,Y8,rfl,Hv.out,Kf.out⟩
theorem radd_any (a:Int) (P:Option Addr) (b:Int) (Q:Option Addr) (c:Int) (U:Option Addr) (d:Int) (V:Option Addr) (p q:Rat) (w:World) (h:RatV w a P b Q p) (h':RatV w c U d V q) (hpn:p.num.natAbs<base 47) (hpd:p.den<base 47) (hqn:q.num.natAbs<base 47) (hqd:q.den<base 47) (hg:Good w) :
  Calls Tryz.prog 53 #[.agg #[.int .i64 a,.pointer P,.int .i64 b,.pointer Q],.agg #[.int .i64 c,.pointer U,.int .i64 d,.pointer V]] w (NewRat (p+q) w):=by
 by_cases hs:shortB p.num p.den=true∧shortB q.num q.den=true
 ·exact add_short a P b Q c U d V p q w h h' hs.1 hs.2
 ·have kk:=(((Below.refl w.heap.size w).alloc (Nat.le_refl _) (.cells #[.int .i64 a,.pointer P,.int .i64 b,.pointer Q] 30)).alloc (by simp) (.cells #[.int .i64 c,.pointer U,.int .i64 d,.pointer V] 30)).alloc (by simp; omega) (.cells #[.int .i64 0,.pointer none,.int .i64 0,.pointer none] 30)
  have V0:=Lh (((box_rat w a P b Q).keep ((Below.refl _ _).alloc (Nat.le_refl _) (.cells #[.int .i64 c,.pointer U,.int .i64 d,.pointer V] 30))).keep ((Below.refl _ _).alloc (Nat.le_refl _) (.cells #[.int .i64 0,.pointer none,.int .i64 0,.pointer none] 30)))
  have V1:=Lh ((box_rat (w.alloc (.cells #[.int .i64 a,.pointer P,.int .i64 b,.pointer Q] 30)) c U d V).keep ((Below.refl _ _).alloc (Nat.le_refl _) (.cells #[.int .i64 0,.pointer none,.int .i64 0,.pointer none] 30)))
  have R:=Lh (Cells.new ((w.alloc (.cells #[.int .i64 a,.pointer P,.int .i64 b,.pointer Q] 30)).alloc (.cells #[.int .i64 c,.pointer U,.int .i64 d,.pointer V] 30)) #[.int .i64 0,.pointer none,.int .i64 0,.pointer none] 30)
  simp only [World.size_alloc] at V1 R
  have HP:=Lh (fun w' (hb:Below w.heap.size w w')=>h.keep hb)
  have HQ:=Lh (fun w' (hb:Below w.heap.size w w')=>h'.keep hb)
  have HA:=Lh (ints_any a P b Q p _ (h.keep kk))
  have HB:=Lh (fun w' (hb:Below w.heap.size w w')=>ints_any c U d V q w' (h'.keep hb))
  have HL:=Lh (fun w' (hb:Below w.heap.size w w')=>raddLong_any a P b Q c U d V p q w' (h.keep hb) (h'.keep hb) hpn hpd hqn hqd (hg.below hb))
  have Kk:=Lh kk
  have Hs:=Lh hs
  clear h h' kk hpn hpd hqn hqd hg hs
  have c0:=V0.out.c0
  have c1:=V0.out.c1
  have c2:=V0.out.c2
  have c3:=V0.out.c3
  go_enter Tryz.func53,Tryz.ntmps53
  go_wp2_with fail
  refine HA.out.mono ?_
  rintro e w1 ⟨n1,d1,b1,rfl,h1,_,i1,j1,h3⟩
  replace V0:=Lh (V0.out.keep h3)
  replace V1:=Lh (V1.out.keep h3)
  replace R:=Lh (R.out.keep h3)
  have K1:=Lh (below_on Kk.out h3)
  have H1:=Lh h1
  clear h1 h3 i1 j1 c0 c1 c2 c3
  have c0:=V1.out.c0
  have c1:=V1.out.c1
  have c2:=V1.out.c2
  have c3:=V1.out.c3
  go_wp2_with fail
  refine (HB.out _ K1.out).mono ?_
  rintro e w2 ⟨n2,d2,b2,rfl,h1,_,i1,j1,h3⟩
  replace V0:=Lh (V0.out.keep h3)
  replace V1:=Lh (V1.out.keep h3)
  replace R:=Lh (R.out.keep h3)
  have K2:=Lh (below_on K1.out h3)
  have H2:=Lh h1
  clear h1 h3 i1 j1 c0 c1 c2 c3
  have HC:=Lh (fun w'=>isShort_any n1 d1 w')
  have HD:=Lh (fun w'=>isShort_any n2 d2 w')
  obtain ⟨s1,hs1⟩:∃ t,shortB n1 d1=t:=⟨_,rfl⟩
  obtain ⟨s2,hs2⟩:∃ t,shortB n2 d2=t:=⟨_,rfl⟩
  rw [hs1] at HC
  rw [hs2] at HD
  have Hs1:=Lh hs1
  have Hs2:=Lh hs2
  clear hs1 hs2
  go_upto_region 3 with fail
  go_cut [36] (fun s wx=>s= .bool (b1 && b2 && s1 && s2)∧wx=w2)
  case first=>
   cases b1 with
   | false=>
    go_wp2_with fail
    go_meet
    exact ⟨rfl,rfl⟩
   | true=>
    cases b2 with
    | false=>
     go_wp2_with fail
     go_meet
     exact ⟨rfl,rfl⟩
    | true=>
     cases s1 with
     | false=>
      go_wp2_with fail
      refine (HC.out _).mono ?_
      rintro e w3 ⟨rfl,rfl⟩
      go_wp2_with fail
      go_meet
      exact ⟨rfl,rfl⟩
     | true=>
      go_wp2_with fail
      refine (HC.out _).mono ?_
      rintro e w3 ⟨rfl,rfl⟩
      go_wp2_with fail
      refine (HD.out _).mono ?_
      rintro e w3 ⟨rfl,rfl⟩
      go_wp2_with fail
      go_meet
      exact ⟨rfl,rfl⟩
  case rest=>
   obtain ⟨rfl,rfl⟩:=hcut
   generalize wc=wm at *
   have hB:(b1 && b2 && s1 && s2)=false:=by
    cases hB:(b1 && b2 && s1 && s2) with
    | false=>rfl
    | true=>
     exfalso
     obtain ⟨⟨⟨rfl,rfl⟩,rfl⟩,rfl⟩:((b1=true∧b2=true)∧s1=true)∧s2=true:=by simpa only [Bool.and_eq_true] using hB
     obtain ⟨e1,e2⟩:=H1.out rfl
     obtain ⟨e3,e4⟩:=H2.out rfl
     refine Hs.out ⟨?_,?_⟩
     ·rw [← e1,← e2]; exact Hs1.out
     ·rw [← e3,← e4]; exact Hs2.out
   rw [hB]
   clear hB
   have c0:=V0.out.c0
   have c1:=V0.out.c1
   have c2:=V0.out.c2
   have c3:=V0.out.c3
   have d0:=V1.out.c0
   have d1':=V1.out.c1
   have d2':=V1.out.c2
   have d3:=V1.out.c3
   go_wp2_with fail
   refine (HL.out _ K2.out).mono ?_
   rintro e w5 ⟨xa,xP,xb,xQ,rfl,hv,h5⟩
   replace R:=Lh (R.out.keep h5)
   have Hv:=Lh (hv.wrote R.out (by rfl) (put4_heap w5 (w.heap.size+1+1) (.int .i64 xa) (.pointer xP) (.int .i64 xb) (.pointer xQ)).1 (put4_heap _ _ _ _ _ _).2)
   have K5:=Lh (below_put4 (below_on K2.out h5) (show w.heap.size≤w.heap.size+1+1 by omega) (.int .i64 xa) (.pointer xP) (.int .i64 xb) (.pointer xQ))
   clear h5 hv
   have k0:=R.out.c0
   have k1:=R.out.c1
   have k2:=R.out.c2
   have k3:=R.out.c3
   have f0:=R.out.fz 0
   have f1:=R.out.fz 1
   have f2:=R.out.fz 2
   have f3:=R.out.fz 3
   go_wp2
   exact bodyPost_ret (v:= .agg #[.int .i64 xa,.pointer xP,.int .i64 xb,.pointer xQ]) (by simp [results,Tryz.results53,go_sem,k0,k1,k2,k3]) rfl ⟨xa,xP,xb,xQ,rfl,Hv.out,K5.out⟩
theorem rsub_any (a:Int) (P:Option Addr) (b:Int) (Q:Option Addr) (c:Int) (U:Option Addr) (d:Int) (V:Option Addr) (p q:Rat) (w:World) (h:RatV w a P b Q p) (h':RatV w c U d V q) (hpn:p.num.natAbs<base 47) (hpd:p.den<base 47) (hqn:q.num.natAbs<base 47) (hqd:q.den<base 47) (hg:Good w) :
  Calls Tryz.prog 72 #[.agg #[.int .i64 a,.pointer P,.int .i64 b,.pointer Q],.agg #[.int .i64 c,.pointer U,.int .i64 d,.pointer V]] w (NewRat (p - q) w):=by
 rw [Rat.sub_eq_add_neg]
 have kk:=(((Below.refl w.heap.size w).alloc (Nat.le_refl _) (.cells #[.int .i64 a,.pointer P,.int .i64 b,.pointer Q] 30)).alloc (by simp) (.cells #[.int .i64 c,.pointer U,.int .i64 d,.pointer V] 30)).alloc (by simp; omega) (.cells #[.int .i64 0,.pointer none,.int .i64 0,.pointer none] 30)
 have V0:=Lh (((box_rat w a P b Q).keep ((Below.refl _ _).alloc (Nat.le_refl _) (.cells #[.int .i64 c,.pointer U,.int .i64 d,.pointer V] 30))).keep ((Below.refl _ _).alloc (Nat.le_refl _) (.cells #[.int .i64 0,.pointer none,.int .i64 0,.pointer none] 30)))
 have V1:=Lh ((box_rat (w.alloc (.cells #[.int .i64 a,.pointer P,.int .i64 b,.pointer Q] 30)) c U d V).keep ((Below.refl _ _).alloc (Nat.le_refl _) (.cells #[.int .i64 0,.pointer none,.int .i64 0,.pointer none] 30)))
 have R:=Lh (Cells.new ((w.alloc (.cells #[.int .i64 a,.pointer P,.int .i64 b,.pointer Q] 30)).alloc (.cells #[.int .i64 c,.pointer U,.int .i64 d,.pointer V] 30)) #[.int .i64 0,.pointer none,.int .i64 0,.pointer none] 30)
 simp only [World.size_alloc] at V1 R
 have HP:=Lh (fun w' (hb:Below w.heap.size w w')=>h.keep hb)
 have HQ:=Lh (fun w' (hb:Below w.heap.size w w')=>h'.keep hb)
 have HN:=Lh (fun w' (hb:Below w.heap.size w w')=>rneg_any c U d V q w' (h'.keep hb))
 have HL:=Lh (fun xc xU xd xV w' (hb:Below w.heap.size w w') (h2:RatV w' xc xU xd xV (-q))=>radd_any a P b Q xc xU xd xV p (-q) w' (h.keep hb) h2 hpn hpd (by rw [Rat.neg_num,Int.natAbs_neg]; exact hqn) (by rw [Rat.neg_den]; exact hqd) (hg.below hb))
 obtain ⟨wm,hwm⟩:∃ u,((w.alloc (.cells #[.int .i64 a,.pointer P,.int .i64 b,.pointer Q] 30)).alloc (.cells #[.int .i64 c,.pointer U,.int .i64 d,.pointer V] 30)).alloc (.cells #[.int .i64 0,.pointer none,.int .i64 0,.pointer none] 30)=u:=⟨_,rfl⟩
 rw [hwm] at kk V0 V1 R
 have K0:=Lh kk
 clear h h' kk hpn hpd hqn hqd hg
 have HS:=Lh (fun w' (hb:Below wm.heap.size wm w')=>(⟨(V0.out.keep hb).c0,(V0.out.keep hb).c1,(V0.out.keep hb).c2,(V0.out.keep hb).c3,(V1.out.keep hb).c0,(V1.out.keep hb).c1,(V1.out.keep hb).c2,(V1.out.keep hb).c3⟩:w'.cell? ⟨w.heap.size,0,none⟩=some (.int .i64 a)∧w'.cell? ⟨w.heap.size,1,none⟩=some (.pointer P)∧w'.cell? ⟨w.heap.size,2,none⟩=some (.int .i64 b)∧w'.cell? ⟨w.heap.size,3,none⟩=some (.pointer Q)∧w'.cell? ⟨w.heap.size+1,0,none⟩=some (.int .i64 c)∧w'.cell? ⟨w.heap.size+1,1,none⟩=some (.pointer U)∧w'.cell? ⟨w.heap.size+1,2,none⟩=some (.int .i64 d)∧w'.cell? ⟨w.heap.size+1,3,none⟩=some (.pointer V)))
 go_enter Tryz.func72,Tryz.ntmps72
 go_upto_region 1 with fail
 try simp only [hwm]
 clear hwm
 refine Till.begin 4 (fun w'=>w'.cell? ⟨w.heap.size,0,none⟩=some (.int .i64 a)∧w'.cell? ⟨w.heap.size,1,none⟩=some (.pointer P)∧w'.cell? ⟨w.heap.size,2,none⟩=some (.int .i64 b)∧w'.cell? ⟨w.heap.size,3,none⟩=some (.pointer Q)∧w'.cell? ⟨w.heap.size+1,0,none⟩=some (.int .i64 c)∧w'.cell? ⟨w.heap.size+1,1,none⟩=some (.pointer U)∧w'.cell? ⟨w.heap.size+1,2,none⟩=some (.int .i64 d)∧w'.cell? ⟨w.heap.size+1,3,none⟩=some (.pointer V)) (by kernel_rfl) (HS.out _ (Below.refl _ _).drew) (fun hH=>?_)
 refine Till.tk 0 3 5 (.agg #[.int .i64 a,.pointer P,.int .i64 b,.pointer Q]) hH ?_
 try simp only [Act.put,Pls]
 refine Till.tk 1 2 6 (.agg #[.int .i64 c,.pointer U,.int .i64 d,.pointer V]) hH ?_
 try simp only [Act.put,Pls]
 clear hH
 have B0:=Lh (Below.refl wm.heap.size wm).drew
 generalize wm.drew=v0 at B0 ⊢
 refine Till.phase [2,3] #[true,true,true,true,false] 1 (fun a0 d a v=>∃ t2 t3:Value,a=puts a0 [(7,t2),(8,t3)]∧Below wm.heap.size wm v∧(d 2=true→RatAt v t2 (-q))∧(d 3=true→RatAt v t3 (p+-q))) rfl (by kernel_rfl) (by rintro d a v ⟨_,_,rfl,hB,_⟩; exact HS.out _ hB) ⟨_,_,rfl,B0.out,(fun h=>absurd h (by decide)),(fun h=>absurd h (by decide))⟩ ⟨⟨_,rfl,?_⟩,⟨_,rfl,?_⟩,trivial⟩ ?_
 ·rintro d a v ⟨t2,t3,rfl,hB,F2,F3⟩ _ ha K hK
  replace hB:=Lh hB
  replace F2:=Lh F2
  replace F3:=Lh F3
  clear ha
  try simp only [puts,Act.put,Pls]
  go_simp
  refine (HN.out _ (below_on K0.out hB.out)).mono ?_
  rintro e v1 ⟨x2,X2,y2,Y2,rfl,hx,g⟩
  replace hx:=Lh hx
  replace g:=Lh g
  go_wp2_with fail
  exact hK.out _ _ ⟨.agg #[.int .i64 x2,.pointer X2,.int .i64 y2,.pointer Y2],t3,rfl,below_on hB.out g.out,fun _=>⟨x2,X2,y2,Y2,rfl,hx.out⟩,fun h=>(F3.out h).keep g.out⟩
 ·rintro d a v ⟨t2,t3,rfl,hB,F2,F3⟩ _ ha K hK
  obtain ⟨x2,X2,y2,Y2,rfl,I2⟩:=F2 (ha 2 (by kernel_rfl))
  replace hB:=Lh hB
  replace F2:=Lh F2
  replace F3:=Lh F3
  replace I2:=Lh I2
  clear ha
  try simp only [puts,Act.put,Pls]
  go_simp
  refine (HL.out _ _ _ _ _ (below_on K0.out hB.out) I2.out).mono ?_
  rintro e v1 ⟨x3,X3,y3,Y3,rfl,hx,g⟩
  replace hx:=Lh hx
  replace g:=Lh g
  go_wp2_with fail
  exact hK.out _ _ ⟨.agg #[.int .i64 x2,.pointer X2,.int .i64 y2,.pointer Y2],.agg #[.int .i64 x3,.pointer X3,.int .i64 y3,.pointer Y3],rfl,below_on hB.out g.out,fun h=>(F2.out h).keep g.out,fun _=>⟨x3,X3,y3,Y3,rfl,hx.out⟩⟩
 ·rintro d a v ⟨t2,t3,rfl,hB,F2,F3⟩ hE
  obtain ⟨x2,X2,y2,Y2,rfl,I2⟩:=F2 (hE 2 (by decide))
  obtain ⟨x3,X3,y3,Y3,rfl,I3⟩:=F3 (hE 3 (by decide))
  clear hE F2 F3
  replace hB:=Lh hB
  replace I2:=Lh I2
  replace I3:=Lh I3
  try simp only [puts,Act.put,Pls]
  replace R:=Lh (R.out.keep hB.out)
  have k0:=R.out.c0
  have f0:=R.out.fz 0
  have k1:=R.out.c1
  have f1:=R.out.fz 1
  have k2:=R.out.c2
  have f2:=R.out.fz 2
  have k3:=R.out.c3
  have f3:=R.out.fz 3
  refine Till.one (i:=4) (by kernel_rfl) rfl (fun K hK=>?_)
  go_simp
  refine hK.out _ _ (fun h=>absurd h (by simp)) ?_
  clear hK K
  try simp only [Pls]
  refine Till.done (by kernel_rfl) ?_ _
  have Hv:=Lh (I3.out.wrote R.out (by rfl) (put4_heap v (w.heap.size+1+1) (.int .i64 x3) (.pointer X3) (.int .i64 y3) (.pointer Y3)).1 (put4_heap _ _ _ _ _ _).2)
  have Kf:=Lh (below_put4 (below_on K0.out hB.out) (show w.heap.size≤w.heap.size+1+1 by omega) (.int .i64 x3) (.pointer X3) (.int .i64 y3) (.pointer Y3))
  go_wp2
  exact bodyPost_ret (v:= .agg #[.int .i64 x3,.pointer X3,.int .i64 y3,.pointer Y3]) (by simp [results,Tryz.results72,go_sem,k0,k1,k2,k3]) rfl ⟨x3,X3,y3,Y3,rfl,Hv.out,Kf.out⟩
end Go.Proofs.YtekhdklbfincpaaGreatDoor
