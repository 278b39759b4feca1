/- GP02: LawVPar OpenP -/
import Derived.Test.YtekhdklbfincpaaGreatDoorGA01
import Derived.Test.YtekhdklbfincpaaGreatDoorGA02
import Derived.Test.YtekhdklbfincpaaGreatDoorGA03
import Derived.Test.YtekhdklbfincpaaGreatDoorGA04
import Derived.Test.YtekhdklbfincpaaGreatDoorGA05
import Derived.Test.YtekhdklbfincpaaGreatDoorGA06
import Derived.Test.YtekhdklbfincpaaGreatDoorGA07
import Derived.Test.YtekhdklbfincpaaGreatDoorGA08
import Derived.Test.YtekhdklbfincpaaGreatDoorGA09
import Derived.Test.YtekhdklbfincpaaGreatDoorGA10
import Derived.Test.YtekhdklbfincpaaGreatDoorGA11
import Derived.Test.YtekhdklbfincpaaGreatDoorGA12
import Derived.Test.YtekhdklbfincpaaGreatDoorGA13
import Derived.Test.YtekhdklbfincpaaGreatDoorGA14
import Derived.Test.YtekhdklbfincpaaGreatDoorGA15
import Derived.Test.YtekhdklbfincpaaGreatDoorGA16
import Derived.Test.YtekhdklbfincpaaGreatDoorGA17
import Derived.Test.YtekhdklbfincpaaGreatDoorGA18
import Derived.Test.YtekhdklbfincpaaGreatDoorGA19
import Derived.Test.YtekhdklbfincpaaGreatDoorGA20
import Derived.Test.YtekhdklbfincpaaGreatDoorGA21
import Derived.Test.YtekhdklbfincpaaGreatDoorGA22
import Derived.Test.YtekhdklbfincpaaGreatDoorGA23
import Derived.Test.YtekhdklbfincpaaGreatDoorGA24
import Derived.Test.YtekhdklbfincpaaGreatDoorGA25
import Derived.Test.YtekhdklbfincpaaGreatDoorGA26
import Derived.Test.YtekhdklbfincpaaGreatDoorGA27
import Derived.Test.YtekhdklbfincpaaGreatDoorGA28
import Derived.Test.YtekhdklbfincpaaGreatDoorGA29
import Derived.Test.YtekhdklbfincpaaGreatDoorGA30
import Derived.Test.YtekhdklbfincpaaGreatDoorGA31
import Derived.Test.YtekhdklbfincpaaGreatDoorGA32
import Derived.Test.YtekhdklbfincpaaGreatDoorGA33
import Derived.Test.YtekhdklbfincpaaGreatDoorGA34
import Derived.Test.YtekhdklbfincpaaGreatDoorGA35
import Derived.Test.YtekhdklbfincpaaGreatDoorGA36
import Derived.Test.YtekhdklbfincpaaGreatDoorGA37
import Derived.Test.YtekhdklbfincpaaGreatDoorGA38
import Derived.Test.YtekhdklbfincpaaGreatDoorGA39
import Derived.Test.YtekhdklbfincpaaGreatDoorGA40
import Derived.Test.YtekhdklbfincpaaGreatDoorGA41
import Derived.Test.YtekhdklbfincpaaGreatDoorGA42
import Derived.Test.YtekhdklbfincpaaGreatDoorGA43
import Derived.Test.YtekhdklbfincpaaGreatDoorGA44
import Derived.Test.YtekhdklbfincpaaGreatDoorGA45
import Derived.Laws.IdiomArrays
import Derived.Test.YtekhdklbfincpaaGreatDoorGP01
set_option maxRecDepth 100000
set_option maxHeartbeats 16000000
namespace Go.Proofs.YtekhdklbfincpaaGreatDoor
open Go.RowKit
theorem wrap64 {n:Int} (h0:-9223372036854775808≤n) (h1:n≤9223372036854775807):IntKind.wrap .i64 n=n:=by
 simp [IntKind.wrap,IntKind.signed,IntKind.bits]
 omega
theorem vectorParses_walk (s0 s1 s2:ByteArray) (w:World) (h0:s0.size≤1152921504606846976) (h1:s1.size≤1152921504606846976) (h2:s2.size≤1152921504606846976) (hg:Good w) :
  Calls Tryz.prog 3 #[.agg #[.string s0,.string s1,.string s2]] w fun E w'=>E= .returned (.bool true)∧Below w.heap.size w w':=by
 have Hw:=Lh (fun w' (hb:Below w.heap.size w w')=>hg.below hb)
 have kb:=(Below.refl w.heap.size w).alloc (Nat.le_refl _) (.cells #[.string s0,.string s1,.string s2] 24)
 have C0:=Cells.new w #[.string s0,.string s1,.string s2] 24
 obtain ⟨W,hW⟩:∃ u,w.alloc (.cells #[.string s0,.string s1,.string s2] 24)=u:=⟨_,rfl⟩
 rw [hW] at kb C0
 have C:=Lh (show Cells W w.heap.size [.string s0,.string s1,.string s2] from C0)
 have K0:=Lh kb
 have HK:=Lh (fun w' (hb:Below w.heap.size w w')=>known3_true w' (hg.below hb))
 have hA1:IntKind.wrap .i64 ((s0.size:Int)+(s1.size:Int))=(s0.size:Int)+(s1.size:Int):=wrap64 (by omega) (by omega)
 have hA2:IntKind.wrap .i64 ((s0.size:Int)+(s1.size:Int)+(s2.size:Int))=(s0.size:Int)+(s1.size:Int)+(s2.size:Int):=wrap64 (by omega) (by omega)
 clear kb C0 hg
 go_enter Tryz.func3,Tryz.ntmps3
 go_wp2_with fail
 try simp only [hW]
 refine (HK.out _ K0.out).mono ?_
 rintro E w1 ⟨rfl,g⟩
 have C:=Lh (C.out.keep g)
 have K0:=Lh (below_on K0.out g)
 clear hW g
 have a0:w1.cell? ⟨w.heap.size,0,none⟩=some (.string s0):=C.out.at_ 0
 have a1:w1.cell? ⟨w.heap.size,1,none⟩=some (.string s1):=C.out.at_ 1
 have a2:w1.cell? ⟨w.heap.size,2,none⟩=some (.string s2):=C.out.at_ 2
 by_cases hbig:500<s0.size+s1.size+s2.size
 ·have tb:decide (500<(s0.size:Int)+(s1.size:Int)+(s2.size:Int))=true:=by simp; omega
  have tb2:(500<(s0.size:Int)+(s1.size:Int)+(s2.size:Int))=True:=by simp; omega
  go_wp2_with fail
  refine (HK.out _ K0.out).mono ?_
  rintro E w2 ⟨rfl,g⟩
  have K0:=Lh (below_on K0.out g)
  clear g
  go_wp2
  go_ret
  exact ⟨rfl,K0.out⟩
 ·have tb:decide (500<(s0.size:Int)+(s1.size:Int)+(s2.size:Int))=false:=by simp; omega
  have tb2:(500<(s0.size:Int)+(s1.size:Int)+(s2.size:Int))=False:=by simp; omega
  have z0:s0.size≤500:=by omega
  have z1:s1.size≤500:=by omega
  have z2:s2.size≤500:=by omega
  have HC1:=fun w' (hb:Below w.heap.size w w')=>refCheckV_any s0 s1 s2 400 w' z0 z1 z2 (by decide)
  have HC2:=fun w' (hb:Below w.heap.size w w')=>refCheckV_any s0 s1 s2 65536 w' z0 z1 z2 (by decide)
  have HP:=fun w' (hb:Below w.heap.size w w')=>vParse_any s0 s1 s2 w' z0 z1 z2 (Hw.out _ hb)
  have HR:=fun w' (hb:Below w.heap.size w w')=>vRead_any s0 s1 s2 w' z0 z1 z2 (Hw.out _ hb)
  unfold VPost at HP HR
  generalize errV 400 s0 s1 s2=e1 at *
  generalize errV 65536 s0 s1 s2=e2 at *
  have HC1:=Lh HC1
  have HC2:=Lh HC2
  have HP:=Lh HP
  have HR:=Lh HR
  clear hbig z0 z1 z2
  go_wp2_with fail
  refine (HP.out _ K0.out).mono ?_
  rintro E w2 ⟨x0,x1,x2,rfl,hr,hz,g⟩
  replace C:=Lh (C.out.keep g)
  replace K0:=Lh (below_on K0.out g)
  have Z1:=Lh hz
  clear hz a0 a1 a2
  unfold vecVal
  have kv:=(Below.refl w2.heap.size w2).alloc (Nat.le_refl _) (.cells #[.int .i64 x0.1,.pointer x0.2.1,.int .i64 x0.2.2.1,.pointer x0.2.2.2,.int .i64 x1.1,.pointer x1.2.1,.int .i64 x1.2.2.1,.pointer x1.2.2.2,.int .i64 x2.1,.pointer x2.2.1,.int .i64 x2.2.2.1,.pointer x2.2.2.2] 32)
  have hV:=box_vec w2 x0 x1 x2
  have hT:=fun h=>(let t:=hr h; (⟨t.1.keep kv,t.2.1.keep kv,t.2.2.keep kv⟩:RatT _ x0 s0∧RatT _ x1 s1∧RatT _ x2 s2))
  replace C:=Lh (C.out.keep kv)
  replace K0:=Lh (below_on K0.out kv)
  obtain ⟨pA,hpA⟩:∃ p,w2.heap.size=p:=⟨_,rfl⟩
  obtain ⟨W2,hW2⟩:∃ u,w2.alloc (.cells #[.int .i64 x0.1,.pointer x0.2.1,.int .i64 x0.2.2.1,.pointer x0.2.2.2,.int .i64 x1.1,.pointer x1.2.1,.int .i64 x1.2.2.1,.pointer x1.2.2.2,.int .i64 x2.1,.pointer x2.2.1,.int .i64 x2.2.2.1,.pointer x2.2.2.2] 32)=u:=⟨_,rfl⟩
  rw [hW2] at hV hT K0 C
  rw [hpA] at hV
  have A:=Lh hV
  have TA:=Lh hT
  clear kv hV hT hr g
  have a0:W2.cell? ⟨w.heap.size,0,none⟩=some (.string s0):=C.out.at_ 0
  have a1:W2.cell? ⟨w.heap.size,1,none⟩=some (.string s1):=C.out.at_ 1
  have a2:W2.cell? ⟨w.heap.size,2,none⟩=some (.string s2):=C.out.at_ 2
  go_wp2_with fail
  try simp only [hpA,hW2]
  refine (HR.out _ K0.out).mono ?_
  rintro E w3 ⟨y0,y1,y2,rfl,hr,hz,g⟩
  replace C:=Lh (C.out.keep g)
  replace A:=Lh (A.out.keep g)
  replace TA:=Lh (fun h=>(let t:=TA.out h; (⟨t.1.keep g,t.2.1.keep g,t.2.2.keep g⟩:RatT _ _ s0∧RatT _ _ s1∧RatT _ _ s2)))
  replace K0:=Lh (below_on K0.out g)
  have Z2:=Lh hz
  clear hz a0 a1 a2 hpA hW2
  unfold vecVal
  have kv:=(Below.refl w3.heap.size w3).alloc (Nat.le_refl _) (.cells #[.int .i64 y0.1,.pointer y0.2.1,.int .i64 y0.2.2.1,.pointer y0.2.2.2,.int .i64 y1.1,.pointer y1.2.1,.int .i64 y1.2.2.1,.pointer y1.2.2.2,.int .i64 y2.1,.pointer y2.2.1,.int .i64 y2.2.2.1,.pointer y2.2.2.2] 32)
  have hV:=box_vec w3 y0 y1 y2
  have hT:=fun h=>(let t:=hr h; (⟨t.1.keep kv,t.2.1.keep kv,t.2.2.keep kv⟩:RatT _ y0 s0∧RatT _ y1 s1∧RatT _ y2 s2))
  replace C:=Lh (C.out.keep kv)
  replace A:=Lh (A.out.keep kv)
  replace TA:=Lh (fun h=>(let t:=TA.out h; (⟨t.1.keep kv,t.2.1.keep kv,t.2.2.keep kv⟩:RatT _ _ s0∧RatT _ _ s1∧RatT _ _ s2)))
  replace K0:=Lh (below_on K0.out kv)
  obtain ⟨pB,hpB⟩:∃ p,w3.heap.size=p:=⟨_,rfl⟩
  obtain ⟨W3,hW3⟩:∃ u,w3.alloc (.cells #[.int .i64 y0.1,.pointer y0.2.1,.int .i64 y0.2.2.1,.pointer y0.2.2.2,.int .i64 y1.1,.pointer y1.2.1,.int .i64 y1.2.2.1,.pointer y1.2.2.2,.int .i64 y2.1,.pointer y2.2.1,.int .i64 y2.2.2.1,.pointer y2.2.2.2] 32)=u:=⟨_,rfl⟩
  rw [hW3] at hV hT K0 C A TA
  rw [hpB] at hV
  have B:=Lh hV
  have TB:=Lh hT
  clear kv hV hT hr g
  have a0:W3.cell? ⟨w.heap.size,0,none⟩=some (.string s0):=C.out.at_ 0
  have a1:W3.cell? ⟨w.heap.size,1,none⟩=some (.string s1):=C.out.at_ 1
  have a2:W3.cell? ⟨w.heap.size,2,none⟩=some (.string s2):=C.out.at_ 2
  go_wp2_with fail
  try simp only [hpB,hW3]
  refine (HC1.out _ K0.out).mono ?_
  rintro E w4 ⟨rfl,g⟩
  replace C:=Lh (C.out.keep g)
  replace A:=Lh (A.out.keep g)
  replace TA:=Lh (fun h=>(let t:=TA.out h; (⟨t.1.keep g,t.2.1.keep g,t.2.2.keep g⟩:RatT _ _ s0∧RatT _ _ s1∧RatT _ _ s2)))
  replace B:=Lh (B.out.keep g)
  replace TB:=Lh (fun h=>(let t:=TB.out h; (⟨t.1.keep g,t.2.1.keep g,t.2.2.keep g⟩:RatT _ _ s0∧RatT _ _ s1∧RatT _ _ s2)))
  replace K0:=Lh (below_on K0.out g)
  clear hpB hW3 a0 a1 a2 g
  have a0:w4.cell? ⟨w.heap.size,0,none⟩=some (.string s0):=C.out.at_ 0
  have a1:w4.cell? ⟨w.heap.size,1,none⟩=some (.string s1):=C.out.at_ 1
  have a2:w4.cell? ⟨w.heap.size,2,none⟩=some (.string s2):=C.out.at_ 2
  go_wp2_with fail
  refine (HC2.out _ K0.out).mono ?_
  rintro E w5 ⟨rfl,g⟩
  replace C:=Lh (C.out.keep g)
  replace A:=Lh (A.out.keep g)
  replace TA:=Lh (fun h=>(let t:=TA.out h; (⟨t.1.keep g,t.2.1.keep g,t.2.2.keep g⟩:RatT _ _ s0∧RatT _ _ s1∧RatT _ _ s2)))
  replace B:=Lh (B.out.keep g)
  replace TB:=Lh (fun h=>(let t:=TB.out h; (⟨t.1.keep g,t.2.1.keep g,t.2.2.keep g⟩:RatT _ _ s0∧RatT _ _ s1∧RatT _ _ s2)))
  replace K0:=Lh (below_on K0.out g)
  clear a0 a1 a2 g HC1 HC2 HP HR HK
  have kv:=(Below.refl w5.heap.size w5).alloc (Nat.le_refl _) (.cells #[.string ⟨#[48]⟩,.string ⟨#[48]⟩,.string ⟨#[48]⟩] 24)
  have hD:=Cells.new w5 #[.string ⟨#[48]⟩,.string ⟨#[48]⟩,.string ⟨#[48]⟩] 24
  replace C:=Lh (C.out.keep kv)
  replace A:=Lh (A.out.keep kv)
  replace TA:=Lh (fun h=>(let t:=TA.out h; (⟨t.1.keep kv,t.2.1.keep kv,t.2.2.keep kv⟩:RatT _ _ s0∧RatT _ _ s1∧RatT _ _ s2)))
  replace B:=Lh (B.out.keep kv)
  replace TB:=Lh (fun h=>(let t:=TB.out h; (⟨t.1.keep kv,t.2.1.keep kv,t.2.2.keep kv⟩:RatT _ _ s0∧RatT _ _ s1∧RatT _ _ s2)))
  replace K0:=Lh (below_on K0.out kv)
  obtain ⟨pD,hpD⟩:∃ p,w5.heap.size=p:=⟨_,rfl⟩
  obtain ⟨W5,hW5⟩:∃ u,w5.alloc (.cells #[.string ⟨#[48]⟩,.string ⟨#[48]⟩,.string ⟨#[48]⟩] 24)=u:=⟨_,rfl⟩
  rw [hW5] at hD K0 C A TA B TB
  rw [hpD] at hD
  have D:=Lh (show Cells W5 pD [.string ⟨#[48]⟩,.string ⟨#[48]⟩,.string ⟨#[48]⟩] from hD)
  clear kv hD
  have HA:=fun v (hb:Below W5.heap.size W5 v) (h:e1=0)=>vecPoint_any x0 x1 x2 s0 s1 s2 v ((TA.out h).1.keep hb) ((TA.out h).2.1.keep hb) ((TA.out h).2.2.keep hb) (Hw.out _ (below_on K0.out hb))
  have HB':=fun v (hb:Below W5.heap.size W5 v) (h:e2=0)=>vecPoint_any y0 y1 y2 s0 s1 s2 v ((TB.out h).1.keep hb) ((TB.out h).2.1.keep hb) ((TB.out h).2.2.keep hb) (Hw.out _ (below_on K0.out hb))
  have HZ:=fun v (hb:Below W5.heap.size W5 v)=>vecPoint_any zero4 zero4 zero4 ⟨#[48]⟩ ⟨#[48]⟩ ⟨#[48]⟩ v ⟨0,rat_zero0 v,by decide +kernel,by decide +kernel,by decide +kernel⟩ ⟨0,rat_zero0 v,by decide +kernel,by decide +kernel,by decide +kernel⟩ ⟨0,rat_zero0 v,by decide +kernel,by decide +kernel,by decide +kernel⟩ (Hw.out _ (below_on K0.out hb))
  have HA:=Lh HA
  have HB':=Lh HB'
  have HZ:=Lh HZ
  have hq:=fun W:World=>point_eq s0 s1 s2 W
  have hq0:=fun W:World=>point_eq ⟨#[48]⟩ ⟨#[48]⟩ ⟨#[48]⟩ W
  clear TA TB
  by_cases u1:e1=0
  ·subst u1
   by_cases u2:e2=0
   ·subst u2
    have HS:=Lh (fun w' (hb:Below W5.heap.size W5 w')=>(⟨(A.out.keep hb).at_ 0,(A.out.keep hb).at_ 1,(A.out.keep hb).at_ 2,(A.out.keep hb).at_ 3,(A.out.keep hb).at_ 4,(A.out.keep hb).at_ 5,(A.out.keep hb).at_ 6,(A.out.keep hb).at_ 7,(A.out.keep hb).at_ 8,(A.out.keep hb).at_ 9,(A.out.keep hb).at_ 10,(A.out.keep hb).at_ 11,(B.out.keep hb).at_ 0,(B.out.keep hb).at_ 1,(B.out.keep hb).at_ 2,(B.out.keep hb).at_ 3,(B.out.keep hb).at_ 4,(B.out.keep hb).at_ 5,(B.out.keep hb).at_ 6,(B.out.keep hb).at_ 7,(B.out.keep hb).at_ 8,(B.out.keep hb).at_ 9,(B.out.keep hb).at_ 10,(B.out.keep hb).at_ 11,(C.out.keep hb).at_ 0,(C.out.keep hb).at_ 1,(C.out.keep hb).at_ 2,(D.out.keep hb).at_ 0,(D.out.keep hb).at_ 1,(D.out.keep hb).at_ 2⟩:w'.cell? ⟨pA,0,none⟩=some (.int .i64 x0.1)∧w'.cell? ⟨pA,1,none⟩=some (.pointer x0.2.1)∧w'.cell? ⟨pA,2,none⟩=some (.int .i64 x0.2.2.1)∧w'.cell? ⟨pA,3,none⟩=some (.pointer x0.2.2.2)∧w'.cell? ⟨pA,4,none⟩=some (.int .i64 x1.1)∧w'.cell? ⟨pA,5,none⟩=some (.pointer x1.2.1)∧w'.cell? ⟨pA,6,none⟩=some (.int .i64 x1.2.2.1)∧w'.cell? ⟨pA,7,none⟩=some (.pointer x1.2.2.2)∧w'.cell? ⟨pA,8,none⟩=some (.int .i64 x2.1)∧w'.cell? ⟨pA,9,none⟩=some (.pointer x2.2.1)∧w'.cell? ⟨pA,10,none⟩=some (.int .i64 x2.2.2.1)∧w'.cell? ⟨pA,11,none⟩=some (.pointer x2.2.2.2)∧w'.cell? ⟨pB,0,none⟩=some (.int .i64 y0.1)∧w'.cell? ⟨pB,1,none⟩=some (.pointer y0.2.1)∧w'.cell? ⟨pB,2,none⟩=some (.int .i64 y0.2.2.1)∧w'.cell? ⟨pB,3,none⟩=some (.pointer y0.2.2.2)∧w'.cell? ⟨pB,4,none⟩=some (.int .i64 y1.1)∧w'.cell? ⟨pB,5,none⟩=some (.pointer y1.2.1)∧w'.cell? ⟨pB,6,none⟩=some (.int .i64 y1.2.2.1)∧w'.cell? ⟨pB,7,none⟩=some (.pointer y1.2.2.2)∧w'.cell? ⟨pB,8,none⟩=some (.int .i64 y2.1)∧w'.cell? ⟨pB,9,none⟩=some (.pointer y2.2.1)∧w'.cell? ⟨pB,10,none⟩=some (.int .i64 y2.2.2.1)∧w'.cell? ⟨pB,11,none⟩=some (.pointer y2.2.2.2)∧w'.cell? ⟨w.heap.size,0,none⟩=some (.string s0)∧w'.cell? ⟨w.heap.size,1,none⟩=some (.string s1)∧w'.cell? ⟨w.heap.size,2,none⟩=some (.string s2)∧w'.cell? ⟨pD,0,none⟩=some (.string ⟨#[48]⟩)∧w'.cell? ⟨pD,1,none⟩=some (.string ⟨#[48]⟩)∧w'.cell? ⟨pD,2,none⟩=some (.string ⟨#[48]⟩)))
    go_upto_region 8 with fail
    try simp only [hpD,hW5]
    clear hpD hW5
    refine Till.begin 38 (fun w'=>w'.cell? ⟨pA,0,none⟩=some (.int .i64 x0.1)∧w'.cell? ⟨pA,1,none⟩=some (.pointer x0.2.1)∧w'.cell? ⟨pA,2,none⟩=some (.int .i64 x0.2.2.1)∧w'.cell? ⟨pA,3,none⟩=some (.pointer x0.2.2.2)∧w'.cell? ⟨pA,4,none⟩=some (.int .i64 x1.1)∧w'.cell? ⟨pA,5,none⟩=some (.pointer x1.2.1)∧w'.cell? ⟨pA,6,none⟩=some (.int .i64 x1.2.2.1)∧w'.cell? ⟨pA,7,none⟩=some (.pointer x1.2.2.2)∧w'.cell? ⟨pA,8,none⟩=some (.int .i64 x2.1)∧w'.cell? ⟨pA,9,none⟩=some (.pointer x2.2.1)∧w'.cell? ⟨pA,10,none⟩=some (.int .i64 x2.2.2.1)∧w'.cell? ⟨pA,11,none⟩=some (.pointer x2.2.2.2)∧w'.cell? ⟨pB,0,none⟩=some (.int .i64 y0.1)∧w'.cell? ⟨pB,1,none⟩=some (.pointer y0.2.1)∧w'.cell? ⟨pB,2,none⟩=some (.int .i64 y0.2.2.1)∧w'.cell? ⟨pB,3,none⟩=some (.pointer y0.2.2.2)∧w'.cell? ⟨pB,4,none⟩=some (.int .i64 y1.1)∧w'.cell? ⟨pB,5,none⟩=some (.pointer y1.2.1)∧w'.cell? ⟨pB,6,none⟩=some (.int .i64 y1.2.2.1)∧w'.cell? ⟨pB,7,none⟩=some (.pointer y1.2.2.2)∧w'.cell? ⟨pB,8,none⟩=some (.int .i64 y2.1)∧w'.cell? ⟨pB,9,none⟩=some (.pointer y2.2.1)∧w'.cell? ⟨pB,10,none⟩=some (.int .i64 y2.2.2.1)∧w'.cell? ⟨pB,11,none⟩=some (.pointer y2.2.2.2)∧w'.cell? ⟨w.heap.size,0,none⟩=some (.string s0)∧w'.cell? ⟨w.heap.size,1,none⟩=some (.string s1)∧w'.cell? ⟨w.heap.size,2,none⟩=some (.string s2)∧w'.cell? ⟨pD,0,none⟩=some (.string ⟨#[48]⟩)∧w'.cell? ⟨pD,1,none⟩=some (.string ⟨#[48]⟩)∧w'.cell? ⟨pD,2,none⟩=some (.string ⟨#[48]⟩)) (by kernel_rfl) (HS.out _ (Below.refl _ _).drew) (fun hH=>?_)
    clear hH
    have HB:=Lh (Below.refl W5.heap.size W5).drew
    generalize W5.drew=v0 at HB ⊢
    try simp only [Pls]
    refine Till.one (i:=0) (by kernel_rfl) rfl (fun K hK=>?_)
    go_simp
    refine hK.out _ _ (fun _=>HS.out _ HB.out) ?_
    clear hK K
    try simp only [Pls]
    refine Till.one (i:=1) (by kernel_rfl) rfl (fun K hK=>?_)
    go_simp
    refine hK.out _ _ (fun _=>HS.out _ HB.out) ?_
    clear hK K
    try simp only [Pls]
    refine Till.one (i:=2) (by kernel_rfl) rfl (fun K hK=>?_)
    go_simp
    refine hK.out _ _ (fun _=>HS.out _ HB.out) ?_
    clear hK K
    try simp only [Pls]
    refine Till.tk 3 4 49 (.agg #[.int .i64 x0.1,.pointer x0.2.1,.int .i64 x0.2.2.1,.pointer x0.2.2.2,.int .i64 x1.1,.pointer x1.2.1,.int .i64 x1.2.2.1,.pointer x1.2.2.2,.int .i64 x2.1,.pointer x2.2.1,.int .i64 x2.2.2.1,.pointer x2.2.2.2]) (HS.out _ HB.out) ?_
    try simp only [Act.put,Pls]
    refine Till.tk 5 6 51 (.agg #[.string s0,.string s1,.string s2]) (HS.out _ HB.out) ?_
    try simp only [Act.put,Pls]
    refine Till.one (i:=4) (by kernel_rfl) rfl (fun K hK=>?_)
    go_simp
    refine (HA.out _ HB.out (by first | rfl | trivial)).mono ?_
    rintro e v1 ⟨rfl,g⟩
    replace HB:=Lh (below_on HB.out g)
    clear g
    go_wp2_with fail
    refine hK.out _ _ (fun _=>HS.out _ HB.out) ?_
    clear hK K
    try simp only [Pls]
    refine Till.one (i:=6) (by kernel_rfl) rfl (fun K hK=>?_)
    go_simp
    refine hK.out _ _ (fun _=>HS.out _ HB.out) ?_
    clear hK K
    try simp only [Pls]
    refine Till.one (i:=7) (by kernel_rfl) rfl (fun K hK=>?_)
    go_simp
    refine hK.out _ _ (fun _=>HS.out _ HB.out) ?_
    clear hK K
    try simp only [Pls]
    refine Till.one (i:=8) (by kernel_rfl) rfl (fun K hK=>?_)
    go_simp
    refine hK.out _ _ (fun _=>HS.out _ HB.out) ?_
    clear hK K
    try simp only [Pls]
    refine Till.one (i:=9) (by kernel_rfl) rfl (fun K hK=>?_)
    go_simp
    refine hK.out _ _ (fun _=>HS.out _ HB.out) ?_
    clear hK K
    try simp only [Pls]
    refine Till.one (i:=10) (by kernel_rfl) rfl (fun K hK=>?_)
    go_simp
    refine hK.out _ _ (fun _=>HS.out _ HB.out) ?_
    clear hK K
    try simp only [Pls]
    refine Till.one (i:=11) (by kernel_rfl) rfl (fun K hK=>?_)
    go_simp
    refine hK.out _ _ (fun _=>HS.out _ HB.out) ?_
    clear hK K
    try simp only [Pls]
    refine Till.sk 12 13 58 (HS.out _ HB.out) ?_
    try simp only [Act.put,Pls]
    refine Till.sk 13 15 59 (HS.out _ HB.out) ?_
    try simp only [Act.put,Pls]
    refine Till.one (i:=14) (by kernel_rfl) rfl (fun K hK=>?_)
    go_simp
    refine hK.out _ _ (fun _=>HS.out _ HB.out) ?_
    clear hK K
    try simp only [Pls]
    refine Till.one (i:=15) (by kernel_rfl) rfl (fun K hK=>?_)
    go_simp
    refine hK.out _ _ (fun _=>HS.out _ HB.out) ?_
    clear hK K
    try simp only [Pls]
    refine Till.one (i:=16) (by kernel_rfl) rfl (fun K hK=>?_)
    go_simp
    refine hK.out _ _ (fun _=>HS.out _ HB.out) ?_
    clear hK K
    try simp only [Pls]
    refine Till.one (i:=17) (by kernel_rfl) rfl (fun K hK=>?_)
    go_simp
    refine hK.out _ _ (fun _=>HS.out _ HB.out) ?_
    clear hK K
    try simp only [Pls]
    refine Till.one (i:=18) (by kernel_rfl) rfl (fun K hK=>?_)
    go_simp
    refine hK.out _ _ (fun _=>HS.out _ HB.out) ?_
    clear hK K
    try simp only [Pls]
    refine Till.one (i:=19) (by kernel_rfl) rfl (fun K hK=>?_)
    go_simp
    refine hK.out _ _ (fun _=>HS.out _ HB.out) ?_
    clear hK K
    try simp only [Pls]
    refine Till.one (i:=20) (by kernel_rfl) rfl (fun K hK=>?_)
    go_simp
    refine hK.out _ _ (fun _=>HS.out _ HB.out) ?_
    clear hK K
    try simp only [Pls]
    refine Till.one (i:=21) (by kernel_rfl) rfl (fun K hK=>?_)
    go_simp
    refine hK.out _ _ (fun _=>HS.out _ HB.out) ?_
    clear hK K
    try simp only [Pls]
    refine Till.tk 22 23 68 (.agg #[.int .i64 y0.1,.pointer y0.2.1,.int .i64 y0.2.2.1,.pointer y0.2.2.2,.int .i64 y1.1,.pointer y1.2.1,.int .i64 y1.2.2.1,.pointer y1.2.2.2,.int .i64 y2.1,.pointer y2.2.1,.int .i64 y2.2.2.1,.pointer y2.2.2.2]) (HS.out _ HB.out) ?_
    try simp only [Act.put,Pls]
    refine Till.tk 24 25 70 (.agg #[.string s0,.string s1,.string s2]) (HS.out _ HB.out) ?_
    try simp only [Act.put,Pls]
    refine Till.one (i:=23) (by kernel_rfl) rfl (fun K hK=>?_)
    go_simp
    refine (HB'.out _ HB.out (by first | rfl | trivial)).mono ?_
    rintro e v2 ⟨rfl,g⟩
    replace HB:=Lh (below_on HB.out g)
    clear g
    go_wp2_with fail
    refine hK.out _ _ (fun _=>HS.out _ HB.out) ?_
    clear hK K
    try simp only [Pls]
    refine Till.one (i:=25) (by kernel_rfl) rfl (fun K hK=>?_)
    go_simp
    refine hK.out _ _ (fun _=>HS.out _ HB.out) ?_
    clear hK K
    try simp only [Pls]
    refine Till.one (i:=26) (by kernel_rfl) rfl (fun K hK=>?_)
    go_simp
    refine hK.out _ _ (fun _=>HS.out _ HB.out) ?_
    clear hK K
    try simp only [Pls]
    refine Till.one (i:=27) (by kernel_rfl) rfl (fun K hK=>?_)
    go_simp
    refine hK.out _ _ (fun _=>HS.out _ HB.out) ?_
    clear hK K
    try simp only [Pls]
    refine Till.one (i:=28) (by kernel_rfl) rfl (fun K hK=>?_)
    go_simp
    refine hK.out _ _ (fun _=>HS.out _ HB.out) ?_
    clear hK K
    try simp only [Pls]
    refine Till.one (i:=29) (by kernel_rfl) rfl (fun K hK=>?_)
    go_simp
    refine hK.out _ _ (fun _=>HS.out _ HB.out) ?_
    clear hK K
    try simp only [Pls]
    refine Till.one (i:=30) (by kernel_rfl) rfl (fun K hK=>?_)
    go_simp
    refine hK.out _ _ (fun _=>HS.out _ HB.out) ?_
    clear hK K
    try simp only [Pls]
    refine Till.sk 31 32 77 (HS.out _ HB.out) ?_
    try simp only [Act.put,Pls]
    refine Till.sk 32 34 78 (HS.out _ HB.out) ?_
    try simp only [Act.put,Pls]
    refine Till.one (i:=33) (by kernel_rfl) rfl (fun K hK=>?_)
    go_simp
    refine hK.out _ _ (fun _=>HS.out _ HB.out) ?_
    clear hK K
    try simp only [Pls]
    refine Till.one (i:=34) (by kernel_rfl) rfl (fun K hK=>?_)
    go_simp
    refine hK.out _ _ (fun _=>HS.out _ HB.out) ?_
    clear hK K
    try simp only [Pls]
    refine Till.one (i:=35) (by kernel_rfl) rfl (fun K hK=>?_)
    go_simp
    refine hK.out _ _ (fun _=>HS.out _ HB.out) ?_
    clear hK K
    try simp only [Pls]
    refine Till.one (i:=36) (by kernel_rfl) rfl (fun K hK=>?_)
    go_simp
    refine hK.out _ _ (fun _=>HS.out _ HB.out) ?_
    clear hK K
    try simp only [Pls]
    refine Till.one (i:=37) (by kernel_rfl) rfl (fun K hK=>?_)
    go_simp
    refine hK.out _ _ (fun _=>HS.out _ HB.out) ?_
    clear hK K
    try simp only [Pls]
    refine Till.one (i:=38) (by kernel_rfl) rfl (fun K hK=>?_)
    go_simp
    refine hK.out _ _ (fun h=>absurd h (by simp)) ?_
    clear hK K
    try simp only [Pls]
    refine Till.done (by kernel_rfl) ?_ _
    replace K0:=Lh (below_on K0.out HB.out)
    go_wp2
    exact bodyPost_ret (v:= .bool true) (by simp [results,Tryz.results3,go_sem]) rfl ⟨rfl,K0.out⟩
   ·obtain ⟨rfl,rfl,rfl⟩:=Z2.out u2
    have v2:(e2 == 0)=false:=by rw [beq_eq_false_iff_ne]; exact u2
    have n2:(e2 != 0)=true:=by rw [bne,v2]; rfl
    have HS:=Lh (fun w' (hb:Below W5.heap.size W5 w')=>(⟨(A.out.keep hb).at_ 0,(A.out.keep hb).at_ 1,(A.out.keep hb).at_ 2,(A.out.keep hb).at_ 3,(A.out.keep hb).at_ 4,(A.out.keep hb).at_ 5,(A.out.keep hb).at_ 6,(A.out.keep hb).at_ 7,(A.out.keep hb).at_ 8,(A.out.keep hb).at_ 9,(A.out.keep hb).at_ 10,(A.out.keep hb).at_ 11,(B.out.keep hb).at_ 0,(B.out.keep hb).at_ 1,(B.out.keep hb).at_ 2,(B.out.keep hb).at_ 3,(B.out.keep hb).at_ 4,(B.out.keep hb).at_ 5,(B.out.keep hb).at_ 6,(B.out.keep hb).at_ 7,(B.out.keep hb).at_ 8,(B.out.keep hb).at_ 9,(B.out.keep hb).at_ 10,(B.out.keep hb).at_ 11,(C.out.keep hb).at_ 0,(C.out.keep hb).at_ 1,(C.out.keep hb).at_ 2,(D.out.keep hb).at_ 0,(D.out.keep hb).at_ 1,(D.out.keep hb).at_ 2⟩:w'.cell? ⟨pA,0,none⟩=some (.int .i64 x0.1)∧w'.cell? ⟨pA,1,none⟩=some (.pointer x0.2.1)∧w'.cell? ⟨pA,2,none⟩=some (.int .i64 x0.2.2.1)∧w'.cell? ⟨pA,3,none⟩=some (.pointer x0.2.2.2)∧w'.cell? ⟨pA,4,none⟩=some (.int .i64 x1.1)∧w'.cell? ⟨pA,5,none⟩=some (.pointer x1.2.1)∧w'.cell? ⟨pA,6,none⟩=some (.int .i64 x1.2.2.1)∧w'.cell? ⟨pA,7,none⟩=some (.pointer x1.2.2.2)∧w'.cell? ⟨pA,8,none⟩=some (.int .i64 x2.1)∧w'.cell? ⟨pA,9,none⟩=some (.pointer x2.2.1)∧w'.cell? ⟨pA,10,none⟩=some (.int .i64 x2.2.2.1)∧w'.cell? ⟨pA,11,none⟩=some (.pointer x2.2.2.2)∧w'.cell? ⟨pB,0,none⟩=some (.int .i64 0)∧w'.cell? ⟨pB,1,none⟩=some (.pointer none)∧w'.cell? ⟨pB,2,none⟩=some (.int .i64 0)∧w'.cell? ⟨pB,3,none⟩=some (.pointer none)∧w'.cell? ⟨pB,4,none⟩=some (.int .i64 0)∧w'.cell? ⟨pB,5,none⟩=some (.pointer none)∧w'.cell? ⟨pB,6,none⟩=some (.int .i64 0)∧w'.cell? ⟨pB,7,none⟩=some (.pointer none)∧w'.cell? ⟨pB,8,none⟩=some (.int .i64 0)∧w'.cell? ⟨pB,9,none⟩=some (.pointer none)∧w'.cell? ⟨pB,10,none⟩=some (.int .i64 0)∧w'.cell? ⟨pB,11,none⟩=some (.pointer none)∧w'.cell? ⟨w.heap.size,0,none⟩=some (.string s0)∧w'.cell? ⟨w.heap.size,1,none⟩=some (.string s1)∧w'.cell? ⟨w.heap.size,2,none⟩=some (.string s2)∧w'.cell? ⟨pD,0,none⟩=some (.string ⟨#[48]⟩)∧w'.cell? ⟨pD,1,none⟩=some (.string ⟨#[48]⟩)∧w'.cell? ⟨pD,2,none⟩=some (.string ⟨#[48]⟩)))
    go_upto_region 8 with fail
    try simp only [hpD,hW5]
    clear hpD hW5
    refine Till.begin 38 (fun w'=>w'.cell? ⟨pA,0,none⟩=some (.int .i64 x0.1)∧w'.cell? ⟨pA,1,none⟩=some (.pointer x0.2.1)∧w'.cell? ⟨pA,2,none⟩=some (.int .i64 x0.2.2.1)∧w'.cell? ⟨pA,3,none⟩=some (.pointer x0.2.2.2)∧w'.cell? ⟨pA,4,none⟩=some (.int .i64 x1.1)∧w'.cell? ⟨pA,5,none⟩=some (.pointer x1.2.1)∧w'.cell? ⟨pA,6,none⟩=some (.int .i64 x1.2.2.1)∧w'.cell? ⟨pA,7,none⟩=some (.pointer x1.2.2.2)∧w'.cell? ⟨pA,8,none⟩=some (.int .i64 x2.1)∧w'.cell? ⟨pA,9,none⟩=some (.pointer x2.2.1)∧w'.cell? ⟨pA,10,none⟩=some (.int .i64 x2.2.2.1)∧w'.cell? ⟨pA,11,none⟩=some (.pointer x2.2.2.2)∧w'.cell? ⟨pB,0,none⟩=some (.int .i64 0)∧w'.cell? ⟨pB,1,none⟩=some (.pointer none)∧w'.cell? ⟨pB,2,none⟩=some (.int .i64 0)∧w'.cell? ⟨pB,3,none⟩=some (.pointer none)∧w'.cell? ⟨pB,4,none⟩=some (.int .i64 0)∧w'.cell? ⟨pB,5,none⟩=some (.pointer none)∧w'.cell? ⟨pB,6,none⟩=some (.int .i64 0)∧w'.cell? ⟨pB,7,none⟩=some (.pointer none)∧w'.cell? ⟨pB,8,none⟩=some (.int .i64 0)∧w'.cell? ⟨pB,9,none⟩=some (.pointer none)∧w'.cell? ⟨pB,10,none⟩=some (.int .i64 0)∧w'.cell? ⟨pB,11,none⟩=some (.pointer none)∧w'.cell? ⟨w.heap.size,0,none⟩=some (.string s0)∧w'.cell? ⟨w.heap.size,1,none⟩=some (.string s1)∧w'.cell? ⟨w.heap.size,2,none⟩=some (.string s2)∧w'.cell? ⟨pD,0,none⟩=some (.string ⟨#[48]⟩)∧w'.cell? ⟨pD,1,none⟩=some (.string ⟨#[48]⟩)∧w'.cell? ⟨pD,2,none⟩=some (.string ⟨#[48]⟩)) (by kernel_rfl) (HS.out _ (Below.refl _ _).drew) (fun hH=>?_)
    clear hH
    have HB:=Lh (Below.refl W5.heap.size W5).drew
    generalize W5.drew=v0 at HB ⊢
    try simp only [Pls]
    refine Till.one (i:=0) (by kernel_rfl) rfl (fun K hK=>?_)
    go_simp
    refine hK.out _ _ (fun _=>HS.out _ HB.out) ?_
    clear hK K
    try simp only [Pls]
    refine Till.one (i:=1) (by kernel_rfl) rfl (fun K hK=>?_)
    go_simp
    refine hK.out _ _ (fun _=>HS.out _ HB.out) ?_
    clear hK K
    try simp only [Pls]
    refine Till.one (i:=2) (by kernel_rfl) rfl (fun K hK=>?_)
    go_simp
    refine hK.out _ _ (fun _=>HS.out _ HB.out) ?_
    clear hK K
    try simp only [Pls]
    refine Till.tk 3 4 49 (.agg #[.int .i64 x0.1,.pointer x0.2.1,.int .i64 x0.2.2.1,.pointer x0.2.2.2,.int .i64 x1.1,.pointer x1.2.1,.int .i64 x1.2.2.1,.pointer x1.2.2.2,.int .i64 x2.1,.pointer x2.2.1,.int .i64 x2.2.2.1,.pointer x2.2.2.2]) (HS.out _ HB.out) ?_
    try simp only [Act.put,Pls]
    refine Till.tk 5 6 51 (.agg #[.string s0,.string s1,.string s2]) (HS.out _ HB.out) ?_
    try simp only [Act.put,Pls]
    refine Till.one (i:=4) (by kernel_rfl) rfl (fun K hK=>?_)
    go_simp
    refine (HA.out _ HB.out (by first | rfl | trivial)).mono ?_
    rintro e v1 ⟨rfl,g⟩
    replace HB:=Lh (below_on HB.out g)
    clear g
    go_wp2_with fail
    refine hK.out _ _ (fun _=>HS.out _ HB.out) ?_
    clear hK K
    try simp only [Pls]
    refine Till.one (i:=6) (by kernel_rfl) rfl (fun K hK=>?_)
    go_simp
    refine hK.out _ _ (fun _=>HS.out _ HB.out) ?_
    clear hK K
    try simp only [Pls]
    refine Till.one (i:=7) (by kernel_rfl) rfl (fun K hK=>?_)
    go_simp
    refine hK.out _ _ (fun _=>HS.out _ HB.out) ?_
    clear hK K
    try simp only [Pls]
    refine Till.one (i:=8) (by kernel_rfl) rfl (fun K hK=>?_)
    go_simp
    refine hK.out _ _ (fun _=>HS.out _ HB.out) ?_
    clear hK K
    try simp only [Pls]
    refine Till.one (i:=9) (by kernel_rfl) rfl (fun K hK=>?_)
    go_simp
    refine hK.out _ _ (fun _=>HS.out _ HB.out) ?_
    clear hK K
    try simp only [Pls]
    refine Till.one (i:=10) (by kernel_rfl) rfl (fun K hK=>?_)
    go_simp
    refine hK.out _ _ (fun _=>HS.out _ HB.out) ?_
    clear hK K
    try simp only [Pls]
    refine Till.one (i:=11) (by kernel_rfl) rfl (fun K hK=>?_)
    go_simp
    refine hK.out _ _ (fun _=>HS.out _ HB.out) ?_
    clear hK K
    try simp only [Pls]
    refine Till.sk 12 13 58 (HS.out _ HB.out) ?_
    try simp only [Act.put,Pls]
    refine Till.sk 13 15 59 (HS.out _ HB.out) ?_
    try simp only [Act.put,Pls]
    refine Till.one (i:=14) (by kernel_rfl) rfl (fun K hK=>?_)
    go_simp
    refine hK.out _ _ (fun _=>HS.out _ HB.out) ?_
    clear hK K
    try simp only [Pls]
    refine Till.one (i:=15) (by kernel_rfl) rfl (fun K hK=>?_)
    go_simp
    refine hK.out _ _ (fun _=>HS.out _ HB.out) ?_
    clear hK K
    try simp only [Pls]
    refine Till.one (i:=16) (by kernel_rfl) rfl (fun K hK=>?_)
    go_simp
    refine hK.out _ _ (fun _=>HS.out _ HB.out) ?_
    clear hK K
    try simp only [Pls]
    refine Till.one (i:=17) (by kernel_rfl) rfl (fun K hK=>?_)
    go_simp
    refine hK.out _ _ (fun _=>HS.out _ HB.out) ?_
    clear hK K
    try simp only [Pls]
    refine Till.one (i:=18) (by kernel_rfl) rfl (fun K hK=>?_)
    go_simp
    refine hK.out _ _ (fun _=>HS.out _ HB.out) ?_
    clear hK K
    try simp only [Pls]
    refine Till.one (i:=19) (by kernel_rfl) rfl (fun K hK=>?_)
    go_simp
    refine hK.out _ _ (fun _=>HS.out _ HB.out) ?_
    clear hK K
    try simp only [Pls]
    refine Till.one (i:=20) (by kernel_rfl) rfl (fun K hK=>?_)
    go_simp
    refine hK.out _ _ (fun _=>HS.out _ HB.out) ?_
    clear hK K
    try simp only [Pls]
    refine Till.one (i:=21) (by kernel_rfl) rfl (fun K hK=>?_)
    go_simp
    refine hK.out _ _ (fun _=>HS.out _ HB.out) ?_
    clear hK K
    try simp only [Pls]
    refine Till.sk 22 23 68 (HS.out _ HB.out) ?_
    try simp only [Act.put,Pls]
    refine Till.sk 23 25 69 (HS.out _ HB.out) ?_
    try simp only [Act.put,Pls]
    refine Till.one (i:=24) (by kernel_rfl) rfl (fun K hK=>?_)
    go_simp
    refine hK.out _ _ (fun _=>HS.out _ HB.out) ?_
    clear hK K
    try simp only [Pls]
    refine Till.one (i:=25) (by kernel_rfl) rfl (fun K hK=>?_)
    go_simp
    refine hK.out _ _ (fun _=>HS.out _ HB.out) ?_
    clear hK K
    try simp only [Pls]
    refine Till.one (i:=26) (by kernel_rfl) rfl (fun K hK=>?_)
    go_simp
    refine hK.out _ _ (fun _=>HS.out _ HB.out) ?_
    clear hK K
    try simp only [Pls]
    refine Till.one (i:=27) (by kernel_rfl) rfl (fun K hK=>?_)
    go_simp
    refine hK.out _ _ (fun _=>HS.out _ HB.out) ?_
    clear hK K
    try simp only [Pls]
    refine Till.one (i:=28) (by kernel_rfl) rfl (fun K hK=>?_)
    go_simp
    refine hK.out _ _ (fun _=>HS.out _ HB.out) ?_
    clear hK K
    try simp only [Pls]
    refine Till.one (i:=29) (by kernel_rfl) rfl (fun K hK=>?_)
    go_simp
    refine hK.out _ _ (fun _=>HS.out _ HB.out) ?_
    clear hK K
    try simp only [Pls]
    refine Till.one (i:=30) (by kernel_rfl) rfl (fun K hK=>?_)
    go_simp
    refine hK.out _ _ (fun _=>HS.out _ HB.out) ?_
    clear hK K
    try simp only [Pls]
    refine Till.tk 31 32 77 (.agg #[.int .i64 0,.pointer none,.int .i64 0,.pointer none,.int .i64 0,.pointer none,.int .i64 0,.pointer none,.int .i64 0,.pointer none,.int .i64 0,.pointer none]) (HS.out _ HB.out) ?_
    try simp only [Act.put,Pls]
    refine Till.tk 33 34 79 (.agg #[.string ⟨#[48]⟩,.string ⟨#[48]⟩,.string ⟨#[48]⟩]) (HS.out _ HB.out) ?_
    try simp only [Act.put,Pls]
    refine Till.one (i:=32) (by kernel_rfl) rfl (fun K hK=>?_)
    go_simp
    refine (HZ.out _ HB.out).mono ?_
    rintro e v2 ⟨rfl,g⟩
    replace HB:=Lh (below_on HB.out g)
    clear g
    go_wp2_with fail
    refine hK.out _ _ (fun _=>HS.out _ HB.out) ?_
    clear hK K
    try simp only [Pls]
    refine Till.one (i:=34) (by kernel_rfl) rfl (fun K hK=>?_)
    go_simp
    refine hK.out _ _ (fun _=>HS.out _ HB.out) ?_
    clear hK K
    try simp only [Pls]
    refine Till.one (i:=35) (by kernel_rfl) rfl (fun K hK=>?_)
    go_simp
    refine hK.out _ _ (fun _=>HS.out _ HB.out) ?_
    clear hK K
    try simp only [Pls]
    refine Till.one (i:=36) (by kernel_rfl) rfl (fun K hK=>?_)
    go_simp
    refine hK.out _ _ (fun _=>HS.out _ HB.out) ?_
    clear hK K
    try simp only [Pls]
    refine Till.one (i:=37) (by kernel_rfl) rfl (fun K hK=>?_)
    go_simp
    refine hK.out _ _ (fun _=>HS.out _ HB.out) ?_
    clear hK K
    try simp only [Pls]
    refine Till.one (i:=38) (by kernel_rfl) rfl (fun K hK=>?_)
    go_simp
    refine hK.out _ _ (fun h=>absurd h (by simp)) ?_
    clear hK K
    try simp only [Pls]
    refine Till.done (by kernel_rfl) ?_ _
    replace K0:=Lh (below_on K0.out HB.out)
    go_wp2
    exact bodyPost_ret (v:= .bool true) (by simp [results,Tryz.results3,go_sem]) rfl ⟨rfl,K0.out⟩
  ·obtain ⟨rfl,rfl,rfl⟩:=Z1.out u1
   have v1:(e1 == 0)=false:=by rw [beq_eq_false_iff_ne]; exact u1
   have n1:(e1 != 0)=true:=by rw [bne,v1]; rfl
   by_cases u2:e2=0
   ·subst u2
    have HS:=Lh (fun w' (hb:Below W5.heap.size W5 w')=>(⟨(A.out.keep hb).at_ 0,(A.out.keep hb).at_ 1,(A.out.keep hb).at_ 2,(A.out.keep hb).at_ 3,(A.out.keep hb).at_ 4,(A.out.keep hb).at_ 5,(A.out.keep hb).at_ 6,(A.out.keep hb).at_ 7,(A.out.keep hb).at_ 8,(A.out.keep hb).at_ 9,(A.out.keep hb).at_ 10,(A.out.keep hb).at_ 11,(B.out.keep hb).at_ 0,(B.out.keep hb).at_ 1,(B.out.keep hb).at_ 2,(B.out.keep hb).at_ 3,(B.out.keep hb).at_ 4,(B.out.keep hb).at_ 5,(B.out.keep hb).at_ 6,(B.out.keep hb).at_ 7,(B.out.keep hb).at_ 8,(B.out.keep hb).at_ 9,(B.out.keep hb).at_ 10,(B.out.keep hb).at_ 11,(C.out.keep hb).at_ 0,(C.out.keep hb).at_ 1,(C.out.keep hb).at_ 2,(D.out.keep hb).at_ 0,(D.out.keep hb).at_ 1,(D.out.keep hb).at_ 2⟩:w'.cell? ⟨pA,0,none⟩=some (.int .i64 0)∧w'.cell? ⟨pA,1,none⟩=some (.pointer none)∧w'.cell? ⟨pA,2,none⟩=some (.int .i64 0)∧w'.cell? ⟨pA,3,none⟩=some (.pointer none)∧w'.cell? ⟨pA,4,none⟩=some (.int .i64 0)∧w'.cell? ⟨pA,5,none⟩=some (.pointer none)∧w'.cell? ⟨pA,6,none⟩=some (.int .i64 0)∧w'.cell? ⟨pA,7,none⟩=some (.pointer none)∧w'.cell? ⟨pA,8,none⟩=some (.int .i64 0)∧w'.cell? ⟨pA,9,none⟩=some (.pointer none)∧w'.cell? ⟨pA,10,none⟩=some (.int .i64 0)∧w'.cell? ⟨pA,11,none⟩=some (.pointer none)∧w'.cell? ⟨pB,0,none⟩=some (.int .i64 y0.1)∧w'.cell? ⟨pB,1,none⟩=some (.pointer y0.2.1)∧w'.cell? ⟨pB,2,none⟩=some (.int .i64 y0.2.2.1)∧w'.cell? ⟨pB,3,none⟩=some (.pointer y0.2.2.2)∧w'.cell? ⟨pB,4,none⟩=some (.int .i64 y1.1)∧w'.cell? ⟨pB,5,none⟩=some (.pointer y1.2.1)∧w'.cell? ⟨pB,6,none⟩=some (.int .i64 y1.2.2.1)∧w'.cell? ⟨pB,7,none⟩=some (.pointer y1.2.2.2)∧w'.cell? ⟨pB,8,none⟩=some (.int .i64 y2.1)∧w'.cell? ⟨pB,9,none⟩=some (.pointer y2.2.1)∧w'.cell? ⟨pB,10,none⟩=some (.int .i64 y2.2.2.1)∧w'.cell? ⟨pB,11,none⟩=some (.pointer y2.2.2.2)∧w'.cell? ⟨w.heap.size,0,none⟩=some (.string s0)∧w'.cell? ⟨w.heap.size,1,none⟩=some (.string s1)∧w'.cell? ⟨w.heap.size,2,none⟩=some (.string s2)∧w'.cell? ⟨pD,0,none⟩=some (.string ⟨#[48]⟩)∧w'.cell? ⟨pD,1,none⟩=some (.string ⟨#[48]⟩)∧w'.cell? ⟨pD,2,none⟩=some (.string ⟨#[48]⟩)))
    go_upto_region 8 with fail
    try simp only [hpD,hW5]
    clear hpD hW5
    refine Till.begin 38 (fun w'=>w'.cell? ⟨pA,0,none⟩=some (.int .i64 0)∧w'.cell? ⟨pA,1,none⟩=some (.pointer none)∧w'.cell? ⟨pA,2,none⟩=some (.int .i64 0)∧w'.cell? ⟨pA,3,none⟩=some (.pointer none)∧w'.cell? ⟨pA,4,none⟩=some (.int .i64 0)∧w'.cell? ⟨pA,5,none⟩=some (.pointer none)∧w'.cell? ⟨pA,6,none⟩=some (.int .i64 0)∧w'.cell? ⟨pA,7,none⟩=some (.pointer none)∧w'.cell? ⟨pA,8,none⟩=some (.int .i64 0)∧w'.cell? ⟨pA,9,none⟩=some (.pointer none)∧w'.cell? ⟨pA,10,none⟩=some (.int .i64 0)∧w'.cell? ⟨pA,11,none⟩=some (.pointer none)∧w'.cell? ⟨pB,0,none⟩=some (.int .i64 y0.1)∧w'.cell? ⟨pB,1,none⟩=some (.pointer y0.2.1)∧w'.cell? ⟨pB,2,none⟩=some (.int .i64 y0.2.2.1)∧w'.cell? ⟨pB,3,none⟩=some (.pointer y0.2.2.2)∧w'.cell? ⟨pB,4,none⟩=some (.int .i64 y1.1)∧w'.cell? ⟨pB,5,none⟩=some (.pointer y1.2.1)∧w'.cell? ⟨pB,6,none⟩=some (.int .i64 y1.2.2.1)∧w'.cell? ⟨pB,7,none⟩=some (.pointer y1.2.2.2)∧w'.cell? ⟨pB,8,none⟩=some (.int .i64 y2.1)∧w'.cell? ⟨pB,9,none⟩=some (.pointer y2.2.1)∧w'.cell? ⟨pB,10,none⟩=some (.int .i64 y2.2.2.1)∧w'.cell? ⟨pB,11,none⟩=some (.pointer y2.2.2.2)∧w'.cell? ⟨w.heap.size,0,none⟩=some (.string s0)∧w'.cell? ⟨w.heap.size,1,none⟩=some (.string s1)∧w'.cell? ⟨w.heap.size,2,none⟩=some (.string s2)∧w'.cell? ⟨pD,0,none⟩=some (.string ⟨#[48]⟩)∧w'.cell? ⟨pD,1,none⟩=some (.string ⟨#[48]⟩)∧w'.cell? ⟨pD,2,none⟩=some (.string ⟨#[48]⟩)) (by kernel_rfl) (HS.out _ (Below.refl _ _).drew) (fun hH=>?_)
    clear hH
    have HB:=Lh (Below.refl W5.heap.size W5).drew
    generalize W5.drew=v0 at HB ⊢
    try simp only [Pls]
    refine Till.one (i:=0) (by kernel_rfl) rfl (fun K hK=>?_)
    go_simp
    refine hK.out _ _ (fun _=>HS.out _ HB.out) ?_
    clear hK K
    try simp only [Pls]
    refine Till.one (i:=1) (by kernel_rfl) rfl (fun K hK=>?_)
    go_simp
    refine hK.out _ _ (fun _=>HS.out _ HB.out) ?_
    clear hK K
    try simp only [Pls]
    refine Till.one (i:=2) (by kernel_rfl) rfl (fun K hK=>?_)
    go_simp
    refine hK.out _ _ (fun _=>HS.out _ HB.out) ?_
    clear hK K
    try simp only [Pls]
    refine Till.sk 3 4 49 (HS.out _ HB.out) ?_
    try simp only [Act.put,Pls]
    refine Till.sk 4 6 50 (HS.out _ HB.out) ?_
    try simp only [Act.put,Pls]
    refine Till.one (i:=5) (by kernel_rfl) rfl (fun K hK=>?_)
    go_simp
    refine hK.out _ _ (fun _=>HS.out _ HB.out) ?_
    clear hK K
    try simp only [Pls]
    refine Till.one (i:=6) (by kernel_rfl) rfl (fun K hK=>?_)
    go_simp
    refine hK.out _ _ (fun _=>HS.out _ HB.out) ?_
    clear hK K
    try simp only [Pls]
    refine Till.one (i:=7) (by kernel_rfl) rfl (fun K hK=>?_)
    go_simp
    refine hK.out _ _ (fun _=>HS.out _ HB.out) ?_
    clear hK K
    try simp only [Pls]
    refine Till.one (i:=8) (by kernel_rfl) rfl (fun K hK=>?_)
    go_simp
    refine hK.out _ _ (fun _=>HS.out _ HB.out) ?_
    clear hK K
    try simp only [Pls]
    refine Till.one (i:=9) (by kernel_rfl) rfl (fun K hK=>?_)
    go_simp
    refine hK.out _ _ (fun _=>HS.out _ HB.out) ?_
    clear hK K
    try simp only [Pls]
    refine Till.one (i:=10) (by kernel_rfl) rfl (fun K hK=>?_)
    go_simp
    refine hK.out _ _ (fun _=>HS.out _ HB.out) ?_
    clear hK K
    try simp only [Pls]
    refine Till.one (i:=11) (by kernel_rfl) rfl (fun K hK=>?_)
    go_simp
    refine hK.out _ _ (fun _=>HS.out _ HB.out) ?_
    clear hK K
    try simp only [Pls]
    refine Till.tk 12 13 58 (.agg #[.int .i64 0,.pointer none,.int .i64 0,.pointer none,.int .i64 0,.pointer none,.int .i64 0,.pointer none,.int .i64 0,.pointer none,.int .i64 0,.pointer none]) (HS.out _ HB.out) ?_
    try simp only [Act.put,Pls]
    refine Till.tk 14 15 60 (.agg #[.string ⟨#[48]⟩,.string ⟨#[48]⟩,.string ⟨#[48]⟩]) (HS.out _ HB.out) ?_
    try simp only [Act.put,Pls]
    refine Till.one (i:=13) (by kernel_rfl) rfl (fun K hK=>?_)
    go_simp
    refine (HZ.out _ HB.out).mono ?_
    rintro e v1 ⟨rfl,g⟩
    replace HB:=Lh (below_on HB.out g)
    clear g
    go_wp2_with fail
    refine hK.out _ _ (fun _=>HS.out _ HB.out) ?_
    clear hK K
    try simp only [Pls]
    refine Till.one (i:=15) (by kernel_rfl) rfl (fun K hK=>?_)
    go_simp
    refine hK.out _ _ (fun _=>HS.out _ HB.out) ?_
    clear hK K
    try simp only [Pls]
    refine Till.one (i:=16) (by kernel_rfl) rfl (fun K hK=>?_)
    go_simp
    refine hK.out _ _ (fun _=>HS.out _ HB.out) ?_
    clear hK K
    try simp only [Pls]
    refine Till.one (i:=17) (by kernel_rfl) rfl (fun K hK=>?_)
    go_simp
    refine hK.out _ _ (fun _=>HS.out _ HB.out) ?_
    clear hK K
    try simp only [Pls]
    refine Till.one (i:=18) (by kernel_rfl) rfl (fun K hK=>?_)
    go_simp
    refine hK.out _ _ (fun _=>HS.out _ HB.out) ?_
    clear hK K
    try simp only [Pls]
    refine Till.one (i:=19) (by kernel_rfl) rfl (fun K hK=>?_)
    go_simp
    refine hK.out _ _ (fun _=>HS.out _ HB.out) ?_
    clear hK K
    try simp only [Pls]
    refine Till.one (i:=20) (by kernel_rfl) rfl (fun K hK=>?_)
    go_simp
    refine hK.out _ _ (fun _=>HS.out _ HB.out) ?_
    clear hK K
    try simp only [Pls]
    refine Till.one (i:=21) (by kernel_rfl) rfl (fun K hK=>?_)
    go_simp
    refine hK.out _ _ (fun _=>HS.out _ HB.out) ?_
    clear hK K
    try simp only [Pls]
    refine Till.tk 22 23 68 (.agg #[.int .i64 y0.1,.pointer y0.2.1,.int .i64 y0.2.2.1,.pointer y0.2.2.2,.int .i64 y1.1,.pointer y1.2.1,.int .i64 y1.2.2.1,.pointer y1.2.2.2,.int .i64 y2.1,.pointer y2.2.1,.int .i64 y2.2.2.1,.pointer y2.2.2.2]) (HS.out _ HB.out) ?_
    try simp only [Act.put,Pls]
    refine Till.tk 24 25 70 (.agg #[.string s0,.string s1,.string s2]) (HS.out _ HB.out) ?_
    try simp only [Act.put,Pls]
    refine Till.one (i:=23) (by kernel_rfl) rfl (fun K hK=>?_)
    go_simp
    refine (HB'.out _ HB.out (by first | rfl | trivial)).mono ?_
    rintro e v2 ⟨rfl,g⟩
    replace HB:=Lh (below_on HB.out g)
    clear g
    go_wp2_with fail
    refine hK.out _ _ (fun _=>HS.out _ HB.out) ?_
    clear hK K
    try simp only [Pls]
    refine Till.one (i:=25) (by kernel_rfl) rfl (fun K hK=>?_)
    go_simp
    refine hK.out _ _ (fun _=>HS.out _ HB.out) ?_
    clear hK K
    try simp only [Pls]
    refine Till.one (i:=26) (by kernel_rfl) rfl (fun K hK=>?_)
    go_simp
    refine hK.out _ _ (fun _=>HS.out _ HB.out) ?_
    clear hK K
    try simp only [Pls]
    refine Till.one (i:=27) (by kernel_rfl) rfl (fun K hK=>?_)
    go_simp
    refine hK.out _ _ (fun _=>HS.out _ HB.out) ?_
    clear hK K
    try simp only [Pls]
    refine Till.one (i:=28) (by kernel_rfl) rfl (fun K hK=>?_)
    go_simp
    refine hK.out _ _ (fun _=>HS.out _ HB.out) ?_
    clear hK K
    try simp only [Pls]
    refine Till.one (i:=29) (by kernel_rfl) rfl (fun K hK=>?_)
    go_simp
    refine hK.out _ _ (fun _=>HS.out _ HB.out) ?_
    clear hK K
    try simp only [Pls]
    refine Till.one (i:=30) (by kernel_rfl) rfl (fun K hK=>?_)
    go_simp
    refine hK.out _ _ (fun _=>HS.out _ HB.out) ?_
    clear hK K
    try simp only [Pls]
    refine Till.sk 31 32 77 (HS.out _ HB.out) ?_
    try simp only [Act.put,Pls]
    refine Till.sk 32 34 78 (HS.out _ HB.out) ?_
    try simp only [Act.put,Pls]
    refine Till.one (i:=33) (by kernel_rfl) rfl (fun K hK=>?_)
    go_simp
    refine hK.out _ _ (fun _=>HS.out _ HB.out) ?_
    clear hK K
    try simp only [Pls]
    refine Till.one (i:=34) (by kernel_rfl) rfl (fun K hK=>?_)
    go_simp
    refine hK.out _ _ (fun _=>HS.out _ HB.out) ?_
    clear hK K
    try simp only [Pls]
    refine Till.one (i:=35) (by kernel_rfl) rfl (fun K hK=>?_)
    go_simp
    refine hK.out _ _ (fun _=>HS.out _ HB.out) ?_
    clear hK K
    try simp only [Pls]
    refine Till.one (i:=36) (by kernel_rfl) rfl (fun K hK=>?_)
    go_simp
    refine hK.out _ _ (fun _=>HS.out _ HB.out) ?_
    clear hK K
    try simp only [Pls]
    refine Till.one (i:=37) (by kernel_rfl) rfl (fun K hK=>?_)
    go_simp
    refine hK.out _ _ (fun _=>HS.out _ HB.out) ?_
    clear hK K
    try simp only [Pls]
    refine Till.one (i:=38) (by kernel_rfl) rfl (fun K hK=>?_)
    go_simp
    refine hK.out _ _ (fun h=>absurd h (by simp)) ?_
    clear hK K
    try simp only [Pls]
    refine Till.done (by kernel_rfl) ?_ _
    replace K0:=Lh (below_on K0.out HB.out)
    go_wp2
    exact bodyPost_ret (v:= .bool true) (by simp [results,Tryz.results3,go_sem]) rfl ⟨rfl,K0.out⟩
   ·obtain ⟨rfl,rfl,rfl⟩:=Z2.out u2
    have v2:(e2 == 0)=false:=by rw [beq_eq_false_iff_ne]; exact u2
    have n2:(e2 != 0)=true:=by rw [bne,v2]; rfl
    have HS:=Lh (fun w' (hb:Below W5.heap.size W5 w')=>(⟨(A.out.keep hb).at_ 0,(A.out.keep hb).at_ 1,(A.out.keep hb).at_ 2,(A.out.keep hb).at_ 3,(A.out.keep hb).at_ 4,(A.out.keep hb).at_ 5,(A.out.keep hb).at_ 6,(A.out.keep hb).at_ 7,(A.out.keep hb).at_ 8,(A.out.keep hb).at_ 9,(A.out.keep hb).at_ 10,(A.out.keep hb).at_ 11,(B.out.keep hb).at_ 0,(B.out.keep hb).at_ 1,(B.out.keep hb).at_ 2,(B.out.keep hb).at_ 3,(B.out.keep hb).at_ 4,(B.out.keep hb).at_ 5,(B.out.keep hb).at_ 6,(B.out.keep hb).at_ 7,(B.out.keep hb).at_ 8,(B.out.keep hb).at_ 9,(B.out.keep hb).at_ 10,(B.out.keep hb).at_ 11,(C.out.keep hb).at_ 0,(C.out.keep hb).at_ 1,(C.out.keep hb).at_ 2,(D.out.keep hb).at_ 0,(D.out.keep hb).at_ 1,(D.out.keep hb).at_ 2⟩:w'.cell? ⟨pA,0,none⟩=some (.int .i64 0)∧w'.cell? ⟨pA,1,none⟩=some (.pointer none)∧w'.cell? ⟨pA,2,none⟩=some (.int .i64 0)∧w'.cell? ⟨pA,3,none⟩=some (.pointer none)∧w'.cell? ⟨pA,4,none⟩=some (.int .i64 0)∧w'.cell? ⟨pA,5,none⟩=some (.pointer none)∧w'.cell? ⟨pA,6,none⟩=some (.int .i64 0)∧w'.cell? ⟨pA,7,none⟩=some (.pointer none)∧w'.cell? ⟨pA,8,none⟩=some (.int .i64 0)∧w'.cell? ⟨pA,9,none⟩=some (.pointer none)∧w'.cell? ⟨pA,10,none⟩=some (.int .i64 0)∧w'.cell? ⟨pA,11,none⟩=some (.pointer none)∧w'.cell? ⟨pB,0,none⟩=some (.int .i64 0)∧w'.cell? ⟨pB,1,none⟩=some (.pointer none)∧w'.cell? ⟨pB,2,none⟩=some (.int .i64 0)∧w'.cell? ⟨pB,3,none⟩=some (.pointer none)∧w'.cell? ⟨pB,4,none⟩=some (.int .i64 0)∧w'.cell? ⟨pB,5,none⟩=some (.pointer none)∧w'.cell? ⟨pB,6,none⟩=some (.int .i64 0)∧w'.cell? ⟨pB,7,none⟩=some (.pointer none)∧w'.cell? ⟨pB,8,none⟩=some (.int .i64 0)∧w'.cell? ⟨pB,9,none⟩=some (.pointer none)∧w'.cell? ⟨pB,10,none⟩=some (.int .i64 0)∧w'.cell? ⟨pB,11,none⟩=some (.pointer none)∧w'.cell? ⟨w.heap.size,0,none⟩=some (.string s0)∧w'.cell? ⟨w.heap.size,1,none⟩=some (.string s1)∧w'.cell? ⟨w.heap.size,2,none⟩=some (.string s2)∧w'.cell? ⟨pD,0,none⟩=some (.string ⟨#[48]⟩)∧w'.cell? ⟨pD,1,none⟩=some (.string ⟨#[48]⟩)∧w'.cell? ⟨pD,2,none⟩=some (.string ⟨#[48]⟩)))
    go_upto_region 8 with fail
    try simp only [hpD,hW5]
    clear hpD hW5
    refine Till.begin 38 (fun w'=>w'.cell? ⟨pA,0,none⟩=some (.int .i64 0)∧w'.cell? ⟨pA,1,none⟩=some (.pointer none)∧w'.cell? ⟨pA,2,none⟩=some (.int .i64 0)∧w'.cell? ⟨pA,3,none⟩=some (.pointer none)∧w'.cell? ⟨pA,4,none⟩=some (.int .i64 0)∧w'.cell? ⟨pA,5,none⟩=some (.pointer none)∧w'.cell? ⟨pA,6,none⟩=some (.int .i64 0)∧w'.cell? ⟨pA,7,none⟩=some (.pointer none)∧w'.cell? ⟨pA,8,none⟩=some (.int .i64 0)∧w'.cell? ⟨pA,9,none⟩=some (.pointer none)∧w'.cell? ⟨pA,10,none⟩=some (.int .i64 0)∧w'.cell? ⟨pA,11,none⟩=some (.pointer none)∧w'.cell? ⟨pB,0,none⟩=some (.int .i64 0)∧w'.cell? ⟨pB,1,none⟩=some (.pointer none)∧w'.cell? ⟨pB,2,none⟩=some (.int .i64 0)∧w'.cell? ⟨pB,3,none⟩=some (.pointer none)∧w'.cell? ⟨pB,4,none⟩=some (.int .i64 0)∧w'.cell? ⟨pB,5,none⟩=some (.pointer none)∧w'.cell? ⟨pB,6,none⟩=some (.int .i64 0)∧w'.cell? ⟨pB,7,none⟩=some (.pointer none)∧w'.cell? ⟨pB,8,none⟩=some (.int .i64 0)∧w'.cell? ⟨pB,9,none⟩=some (.pointer none)∧w'.cell? ⟨pB,10,none⟩=some (.int .i64 0)∧w'.cell? ⟨pB,11,none⟩=some (.pointer none)∧w'.cell? ⟨w.heap.size,0,none⟩=some (.string s0)∧w'.cell? ⟨w.heap.size,1,none⟩=some (.string s1)∧w'.cell? ⟨w.heap.size,2,none⟩=some (.string s2)∧w'.cell? ⟨pD,0,none⟩=some (.string ⟨#[48]⟩)∧w'.cell? ⟨pD,1,none⟩=some (.string ⟨#[48]⟩)∧w'.cell? ⟨pD,2,none⟩=some (.string ⟨#[48]⟩)) (by kernel_rfl) (HS.out _ (Below.refl _ _).drew) (fun hH=>?_)
    clear hH
    have HB:=Lh (Below.refl W5.heap.size W5).drew
    generalize W5.drew=v0 at HB ⊢
    try simp only [Pls]
    refine Till.one (i:=0) (by kernel_rfl) rfl (fun K hK=>?_)
    go_simp
    refine hK.out _ _ (fun _=>HS.out _ HB.out) ?_
    clear hK K
    try simp only [Pls]
    refine Till.one (i:=1) (by kernel_rfl) rfl (fun K hK=>?_)
    go_simp
    refine hK.out _ _ (fun _=>HS.out _ HB.out) ?_
    clear hK K
    try simp only [Pls]
    refine Till.one (i:=2) (by kernel_rfl) rfl (fun K hK=>?_)
    go_simp
    refine hK.out _ _ (fun _=>HS.out _ HB.out) ?_
    clear hK K
    try simp only [Pls]
    refine Till.sk 3 4 49 (HS.out _ HB.out) ?_
    try simp only [Act.put,Pls]
    refine Till.sk 4 6 50 (HS.out _ HB.out) ?_
    try simp only [Act.put,Pls]
    refine Till.one (i:=5) (by kernel_rfl) rfl (fun K hK=>?_)
    go_simp
    refine hK.out _ _ (fun _=>HS.out _ HB.out) ?_
    clear hK K
    try simp only [Pls]
    refine Till.one (i:=6) (by kernel_rfl) rfl (fun K hK=>?_)
    go_simp
    refine hK.out _ _ (fun _=>HS.out _ HB.out) ?_
    clear hK K
    try simp only [Pls]
    refine Till.one (i:=7) (by kernel_rfl) rfl (fun K hK=>?_)
    go_simp
    refine hK.out _ _ (fun _=>HS.out _ HB.out) ?_
    clear hK K
    try simp only [Pls]
    refine Till.one (i:=8) (by kernel_rfl) rfl (fun K hK=>?_)
    go_simp
    refine hK.out _ _ (fun _=>HS.out _ HB.out) ?_
    clear hK K
    try simp only [Pls]
    refine Till.one (i:=9) (by kernel_rfl) rfl (fun K hK=>?_)
    go_simp
    refine hK.out _ _ (fun _=>HS.out _ HB.out) ?_
    clear hK K
    try simp only [Pls]
    refine Till.one (i:=10) (by kernel_rfl) rfl (fun K hK=>?_)
    go_simp
    refine hK.out _ _ (fun _=>HS.out _ HB.out) ?_
    clear hK K
    try simp only [Pls]
    refine Till.one (i:=11) (by kernel_rfl) rfl (fun K hK=>?_)
    go_simp
    refine hK.out _ _ (fun _=>HS.out _ HB.out) ?_
    clear hK K
    try simp only [Pls]
    refine Till.tk 12 13 58 (.agg #[.int .i64 0,.pointer none,.int .i64 0,.pointer none,.int .i64 0,.pointer none,.int .i64 0,.pointer none,.int .i64 0,.pointer none,.int .i64 0,.pointer none]) (HS.out _ HB.out) ?_
    try simp only [Act.put,Pls]
    refine Till.tk 14 15 60 (.agg #[.string ⟨#[48]⟩,.string ⟨#[48]⟩,.string ⟨#[48]⟩]) (HS.out _ HB.out) ?_
    try simp only [Act.put,Pls]
    refine Till.one (i:=13) (by kernel_rfl) rfl (fun K hK=>?_)
    go_simp
    refine (HZ.out _ HB.out).mono ?_
    rintro e v1 ⟨rfl,g⟩
    replace HB:=Lh (below_on HB.out g)
    clear g
    go_wp2_with fail
    refine hK.out _ _ (fun _=>HS.out _ HB.out) ?_
    clear hK K
    try simp only [Pls]
    refine Till.one (i:=15) (by kernel_rfl) rfl (fun K hK=>?_)
    go_simp
    refine hK.out _ _ (fun _=>HS.out _ HB.out) ?_
    clear hK K
    try simp only [Pls]
    refine Till.one (i:=16) (by kernel_rfl) rfl (fun K hK=>?_)
    go_simp
    refine hK.out _ _ (fun _=>HS.out _ HB.out) ?_
    clear hK K
    try simp only [Pls]
    refine Till.one (i:=17) (by kernel_rfl) rfl (fun K hK=>?_)
    go_simp
    refine hK.out _ _ (fun _=>HS.out _ HB.out) ?_
    clear hK K
    try simp only [Pls]
    refine Till.one (i:=18) (by kernel_rfl) rfl (fun K hK=>?_)
    go_simp
    refine hK.out _ _ (fun _=>HS.out _ HB.out) ?_
    clear hK K
    try simp only [Pls]
    refine Till.one (i:=19) (by kernel_rfl) rfl (fun K hK=>?_)
    go_simp
    refine hK.out _ _ (fun _=>HS.out _ HB.out) ?_
    clear hK K
    try simp only [Pls]
    refine Till.one (i:=20) (by kernel_rfl) rfl (fun K hK=>?_)
    go_simp
    refine hK.out _ _ (fun _=>HS.out _ HB.out) ?_
    clear hK K
    try simp only [Pls]
    refine Till.one (i:=21) (by kernel_rfl) rfl (fun K hK=>?_)
    go_simp
    refine hK.out _ _ (fun _=>HS.out _ HB.out) ?_
    clear hK K
    try simp only [Pls]
    refine Till.sk 22 23 68 (HS.out _ HB.out) ?_
    try simp only [Act.put,Pls]
    refine Till.sk 23 25 69 (HS.out _ HB.out) ?_
    try simp only [Act.put,Pls]
    refine Till.one (i:=24) (by kernel_rfl) rfl (fun K hK=>?_)
    go_simp
    refine hK.out _ _ (fun _=>HS.out _ HB.out) ?_
    clear hK K
    try simp only [Pls]
    refine Till.one (i:=25) (by kernel_rfl) rfl (fun K hK=>?_)
    go_simp
    refine hK.out _ _ (fun _=>HS.out _ HB.out) ?_
    clear hK K
    try simp only [Pls]
    refine Till.one (i:=26) (by kernel_rfl) rfl (fun K hK=>?_)
    go_simp
    refine hK.out _ _ (fun _=>HS.out _ HB.out) ?_
    clear hK K
    try simp only [Pls]
    refine Till.one (i:=27) (by kernel_rfl) rfl (fun K hK=>?_)
    go_simp
    refine hK.out _ _ (fun _=>HS.out _ HB.out) ?_
    clear hK K
    try simp only [Pls]
    refine Till.one (i:=28) (by kernel_rfl) rfl (fun K hK=>?_)
    go_simp
    refine hK.out _ _ (fun _=>HS.out _ HB.out) ?_
    clear hK K
    try simp only [Pls]
    refine Till.one (i:=29) (by kernel_rfl) rfl (fun K hK=>?_)
    go_simp
    refine hK.out _ _ (fun _=>HS.out _ HB.out) ?_
    clear hK K
    try simp only [Pls]
    refine Till.one (i:=30) (by kernel_rfl) rfl (fun K hK=>?_)
    go_simp
    refine hK.out _ _ (fun _=>HS.out _ HB.out) ?_
    clear hK K
    try simp only [Pls]
    refine Till.tk 31 32 77 (.agg #[.int .i64 0,.pointer none,.int .i64 0,.pointer none,.int .i64 0,.pointer none,.int .i64 0,.pointer none,.int .i64 0,.pointer none,.int .i64 0,.pointer none]) (HS.out _ HB.out) ?_
    try simp only [Act.put,Pls]
    refine Till.tk 33 34 79 (.agg #[.string ⟨#[48]⟩,.string ⟨#[48]⟩,.string ⟨#[48]⟩]) (HS.out _ HB.out) ?_
    try simp only [Act.put,Pls]
    refine Till.one (i:=32) (by kernel_rfl) rfl (fun K hK=>?_)
    go_simp
    refine (HZ.out _ HB.out).mono ?_
    rintro e v2 ⟨rfl,g⟩
    replace HB:=Lh (below_on HB.out g)
    clear g
    go_wp2_with fail
    refine hK.out _ _ (fun _=>HS.out _ HB.out) ?_
    clear hK K
    try simp only [Pls]
    refine Till.one (i:=34) (by kernel_rfl) rfl (fun K hK=>?_)
    go_simp
    refine hK.out _ _ (fun _=>HS.out _ HB.out) ?_
    clear hK K
    try simp only [Pls]
    refine Till.one (i:=35) (by kernel_rfl) rfl (fun K hK=>?_)
    go_simp
    refine hK.out _ _ (fun _=>HS.out _ HB.out) ?_
    clear hK K
    try simp only [Pls]
    refine Till.one (i:=36) (by kernel_rfl) rfl (fun K hK=>?_)
    go_simp
    refine hK.out _ _ (fun _=>HS.out _ HB.out) ?_
    clear hK K
    try simp only [Pls]
    refine Till.one (i:=37) (by kernel_rfl) rfl (fun K hK=>?_)
    go_simp
    refine hK.out _ _ (fun _=>HS.out _ HB.out) ?_
    clear hK K
    try simp only [Pls]
    refine Till.one (i:=38) (by kernel_rfl) rfl (fun K hK=>?_)
    go_simp
    refine hK.out _ _ (fun h=>absurd h (by simp)) ?_
    clear hK K
    try simp only [Pls]
    refine Till.done (by kernel_rfl) ?_ _
    replace K0:=Lh (below_on K0.out HB.out)
    go_wp2
    exact bodyPost_ret (v:= .bool true) (by simp [results,Tryz.results3,go_sem]) rfl ⟨rfl,K0.out⟩
end Go.Proofs.YtekhdklbfincpaaGreatDoor
namespace Go.Proofs.YtekhdklbfincpaaGreatDoor
open Go.ChangeShapes Go.WideShapes Go.ChangeAt Go.RowKit
theorem laidOut:laidOutB Tryz.prog=true:=by kernel_rfl
section
variable {H:Type} {enc:TypeId × Value→H} {W:World} {base:Nat} {spare:Nat→Bool} {held:Bool}
theorem cells24:Tryz.prog.cellsOf 24=3:=by kernel_rfl
theorem cells22:Tryz.prog.cellsOf 22=1:=by kernel_rfl
theorem open_point {r:Reach} {b0:Nat} {v:Value} {d:DataW H} {p:List MemPlace} (hv:Value.okWide Tryz.prog W r b0 24 v) (h:DataW.Trod enc Tryz.prog W base spare held 24 v d p) :
  ∃ s0 s1 s2:ByteArray,v= .agg #[.string s0,.string s1,.string s2]∧d= .agg [.lit (.string s0.data.toList),.lit (.string s1.data.toList),.lit (.string s2.data.toList)]:=by
 simp only [Value.okWide,Tryz.underlying24] at hv
 obtain ⟨cs,rfl,hsz,_⟩:=hv
 rw [cells24] at hsz
 obtain ⟨l⟩:=cs
 obtain ⟨a,b,c,rfl⟩:=list3 (by simpa using hsz)
 obtain ⟨fuel,hf⟩:=h
 obtain ⟨y0,y1,y2,m,hx,g0,g1,g2⟩:=trod_array3 Tryz.underlying24 cells22 (by simpa [Value.cells] using hf)
 obtain ⟨s0,e0,u0,_⟩:=DataW.trod_string Tryz.underlying22 g0
 obtain ⟨s1,e1,u1,_⟩:=DataW.trod_string Tryz.underlying22 g1
 obtain ⟨s2,e2,u2,_⟩:=DataW.trod_string Tryz.underlying22 g2
 simp at e0 e1 e2
 subst e0 e1 e2 u0 u1 u2
 simp only [Prod.mk.injEq] at hx
 exact ⟨s0,s1,s2,rfl,hx.1⟩
theorem point_sizes {H:Type} {s0 s1 s2:ByteArray} (h:(DataW.weightsEach (H:=H) Tryz.prog [24] [.agg [.lit (.string s0.data.toList),.lit (.string s1.data.toList),.lit (.string s2.data.toList)]]).all (·≤reachBytes)=true):s0.size≤1152921504606846976∧s1.size≤1152921504606846976∧s2.size≤1152921504606846976:=by
 simp [DataW.weightsEach,DataW.weights,DataW.weightsAll,Tryz.underlying24] at h
 have hb:reachBytes=140737488351232:=rfl
 rw [hb] at h
 exact ⟨by omega,by omega,by omega⟩
end
end Go.Proofs.YtekhdklbfincpaaGreatDoor
