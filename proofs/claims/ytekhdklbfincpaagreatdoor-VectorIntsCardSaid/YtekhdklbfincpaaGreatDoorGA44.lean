/- GA44: Vec3 -/
import Derived.Test.YtekhdklbfincpaaGreatDoorGA33
set_option maxRecDepth 100000
set_option maxHeartbeats 16000000
namespace Go.Proofs.YtekhdklbfincpaaGreatDoor
open Go.RowKit
def errM (most:Nat) (s:ByteArray):Int:=if most<s.size then 5 else errR s
def errV (most:Nat) (s0 s1 s2:ByteArray):Int:=if errM most s0≠0 then errM most s0 else if errM most s1≠0 then errM most s1 else errM most s2
def FV (most:Nat) (s:ByteArray) (a:Int) (P:Option Addr) (b:Int) (Q:Option Addr) (E:Int) (w:World):Prop:=E=errM most s∧(E=0→RatT w (a,P,b,Q) s)
theorem FE.fv {most:Nat} {s:ByteArray} {a b E:Int} {P Q:Option Addr} {w:World} (h:FE s a P b Q E w) (hs:s.size≤most):FV most s a P b Q E w:=
 ⟨by unfold errM; rw [if_neg (by omega)]; exact h.1,fun h0=>let ⟨q,h1,h2,h3,h4⟩:=h.2.1 h0; ⟨q,h1,h2,Nat.lt_of_lt_of_le h3 (ten_le (by decide)),Nat.lt_of_lt_of_le h4 (ten_le (by decide))⟩⟩
theorem FL.fv {most:Nat} {s:ByteArray} {a b E:Int} {P Q:Option Addr} {w:World} (h:FL a P b Q E w) (hs:most<s.size):FV most s a P b Q E w:=
 ⟨by unfold errM; rw [if_pos hs]; exact h.1,fun h0=>by have h1:=h.1; rw [h0] at h1; cases h1⟩
theorem RetE.mono {F G:Int→Option Addr→Int→Option Addr→Int→World→Prop} (h:∀ a P b Q E w,F a P b Q E w→G a P b Q E w) {w w':World} {e:Ending} (hr:RetE F w e w'):RetE G w e w':=
 let ⟨a,P,b,Q,E,h1,h2,h3⟩:=hr; ⟨a,P,b,Q,E,h1,h _ _ _ _ _ _ h2,h3⟩
theorem rpV_any (s:ByteArray) (w:World) (hs:s.size≤500) (hg:Good w):Calls Tryz.prog 60 #[.string s] w (RetE (FV 400 s) w):=by
 by_cases h:400<s.size
 ·exact (rpL_any s w h (by omega)).mono fun e w' hr=>RetE.mono (fun _ _ _ _ _ _ h1=>h1.fv h) hr
 ·exact (rpE_any s w (by omega) hg).mono fun e w' hr=>RetE.mono (fun _ _ _ _ _ _ h1=>h1.fv (by omega)) hr
theorem rdV_any (s:ByteArray) (w:World) (hs:s.size≤500) (hg:Good w):Calls Tryz.prog 61 #[.string s] w (RetE (FV 65536 s) w):=
 (rdE_any s w hs hg).mono fun e w' hr=>RetE.mono (fun _ _ _ _ _ _ h1=>h1.fv (by omega)) hr
def VReadInv (most:Nat) (w:World) (p:Nat) (ss:List ByteArray) (k:Nat) (wr:World):Prop:=
 (∃ rs:List R4,rs.length=3∧Cells wr p (flat rs)∧∀ (i:Nat) (r:R4) (s:ByteArray),i<k→rs[i]?=some r→ss[i]?=some s→RatT wr r s)∧Cells wr (p - 1) (flat [zero4,zero4,zero4])∧Below w.heap.size w wr∧∀ (i:Nat) (s:ByteArray),i<k→ss[i]?=some s→errM most s=0
theorem vreadInv_up {most:Nat} {w wr:World} {p:Nat} {ss:List ByteArray} {k:Nat} {r0:R4} {s0:ByteArray} {rs:List R4} (hk:k<3) (hl:rs.length=3) (hc:Cells wr p (flat rs)) (hs0:ss[k]?=some s0) (hr:RatT wr r0 s0) (h:∀ (i:Nat) (r:R4) (s:ByteArray),i<k→rs[i]?=some r→ss[i]?=some s→RatT wr r s) (hz:Cells wr (p - 1) (flat [zero4,zero4,zero4])) (hp:w.heap.size<p) (hb:Below w.heap.size w wr) (he:∀ (i:Nat) (s:ByteArray),i<k→ss[i]?=some s→errM most s=0) (he0:errM most s0=0) :
  VReadInv most w p ss (k+1) (put4at wr p k (.int .i64 r0.1) (.pointer r0.2.1) (.int .i64 r0.2.2.1) (.pointer r0.2.2.2)):=by
 have hh:=put4at_heap wr p k (.int .i64 r0.1) (.pointer r0.2.1) (.int .i64 r0.2.2.1) (.pointer r0.2.2.2)
 refine ⟨⟨rs.set k r0,by rw [List.length_set]; exact hl,hc.put4at (by omega) r0,ratT_up hs0 hr h (fun r s h=>h.wrote hc hh.1 hh.2)⟩,(((hz.other (by omega) _ _).other (by omega) _ _).other (by omega) _ _).other (by omega) _ _,below_put4at hb (Nat.le_of_lt hp) k _ _ _ _,fun i s hi h1=>?_⟩
 by_cases e:i=k
 ·subst e
  rw [hs0] at h1
  injection h1 with h1
  rw [← h1]
  exact he0
 ·exact he i s (by omega) h1
def VPost (most:Nat) (s0 s1 s2:ByteArray) (w:World) (e:Ending) (w':World):Prop:=
 ∃ r0 r1 r2,e= .returned (.tuple #[vecVal r0 r1 r2,.int .i64 (errV most s0 s1 s2)])∧(errV most s0 s1 s2=0→RatT w' r0 s0∧RatT w' r1 s1∧RatT w' r2 s2)∧(errV most s0 s1 s2≠0→r0=zero4∧r1=zero4∧r2=zero4)∧Below w.heap.size w w'
theorem vreadP_any (s0 s1 s2:ByteArray) (w:World) (h0:s0.size≤500) (h1:s1.size≤500) (h2:s2.size≤500) (hg:Good w) :
  Calls Tryz.prog 59 #[.agg #[.string s0,.string s1,.string s2],.func (.func 60) #[] #[]] w (VPost 400 s0 s1 s2 w):=by
 have HP0:=Lh (fun w' (hb:Below w.heap.size w w')=>rpV_any s0 w' h0 (hg.below hb))
 have HP1:=Lh (fun w' (hb:Below w.heap.size w w')=>rpV_any s1 w' h1 (hg.below hb))
 have HP2:=Lh (fun w' (hb:Below w.heap.size w w')=>rpV_any s2 w' h2 (hg.below hb))
 have kb:=(((Below.refl w.heap.size w).alloc (Nat.le_refl _) (.cells #[.string s0,.string s1,.string s2] 24)).alloc (by simp) (.cells #[.int .i64 0,.pointer none,.int .i64 0,.pointer none,.int .i64 0,.pointer none,.int .i64 0,.pointer none,.int .i64 0,.pointer none,.int .i64 0,.pointer none] 32)).alloc (by simp; omega) (.cells #[.int .i64 0,.pointer none,.int .i64 0,.pointer none,.int .i64 0,.pointer none,.int .i64 0,.pointer none,.int .i64 0,.pointer none,.int .i64 0,.pointer none] 32)
 have Hst:=Lh (show VReadInv 400 w (w.heap.size+2) [s0,s1,s2] 0 (((w.alloc (.cells #[.string s0,.string s1,.string s2] 24)).alloc (.cells #[.int .i64 0,.pointer none,.int .i64 0,.pointer none,.int .i64 0,.pointer none,.int .i64 0,.pointer none,.int .i64 0,.pointer none,.int .i64 0,.pointer none] 32)).alloc (.cells #[.int .i64 0,.pointer none,.int .i64 0,.pointer none,.int .i64 0,.pointer none,.int .i64 0,.pointer none,.int .i64 0,.pointer none,.int .i64 0,.pointer none] 32)) from
  ⟨⟨[zero4,zero4,zero4],rfl,by have:=Cells.new ((w.alloc (.cells #[.string s0,.string s1,.string s2] 24)).alloc (.cells #[.int .i64 0,.pointer none,.int .i64 0,.pointer none,.int .i64 0,.pointer none,.int .i64 0,.pointer none,.int .i64 0,.pointer none,.int .i64 0,.pointer none] 32)) #[.int .i64 0,.pointer none,.int .i64 0,.pointer none,.int .i64 0,.pointer none,.int .i64 0,.pointer none,.int .i64 0,.pointer none,.int .i64 0,.pointer none] 32; simp only [World.size_alloc] at this; exact this,fun i r q h=>absurd h (Nat.not_lt_zero _)⟩,
   by have:=(Cells.new (w.alloc (.cells #[.string s0,.string s1,.string s2] 24)) #[.int .i64 0,.pointer none,.int .i64 0,.pointer none,.int .i64 0,.pointer none,.int .i64 0,.pointer none,.int .i64 0,.pointer none,.int .i64 0,.pointer none] 32).keep ((Below.refl _ _).alloc (Nat.le_refl _) (.cells #[.int .i64 0,.pointer none,.int .i64 0,.pointer none,.int .i64 0,.pointer none,.int .i64 0,.pointer none,.int .i64 0,.pointer none,.int .i64 0,.pointer none] 32)); simp only [World.size_alloc] at this; exact this,kb,fun i s h=>absurd h (Nat.not_lt_zero _)⟩)
 have hx0:=fun W:World=>show (Instr.index 24 (.agg #[.string s0,.string s1,.string s2]) (.int .i64 0)).run Tryz.prog W= .ok (.string s0) W from rfl
 have hx1:=fun W:World=>show (Instr.index 24 (.agg #[.string s0,.string s1,.string s2]) (.int .i64 1)).run Tryz.prog W= .ok (.string s1) W from rfl
 have hx2:=fun W:World=>show (Instr.index 24 (.agg #[.string s0,.string s1,.string s2]) (.int .i64 2)).run Tryz.prog W= .ok (.string s2) W from rfl
 clear h0 h1 h2 kb hg
 go_enter Tryz.func59,Tryz.ntmps59
 go_wp2_with fail
 go_loopw [12] (fun v wr=>∃ (k:Nat) (z:Int),k≤3∧z=(k:Int)∧v= .int .i64 z∧VReadInv 400 w (w.heap.size+2) [s0,s1,s2] k wr) (fun v _=>3 - (intOf v).toNat)
 case atStart=>exact ⟨0,0,by decide,rfl,rfl,Hst.out⟩
 case round=>
  obtain ⟨k,z,hk,hzk,rfl,⟨rs,hl,hc,hr⟩,hz,hb,he⟩:=hrel
  obtain ⟨x0,x1,x2,rfl⟩:∃ x0 x1 x2,rs=[x0,x1,x2]:=list3 hl
  have Hc:=Lh hc
  have Hr:=Lh hr
  have Hz:=Lh hz
  have Hb:=Lh hb
  have He:=Lh he
  clear hl hc hr hz hb he
  obtain rfl | rfl | rfl | rfl:k=0∨k=1∨k=2∨k=3:=by omega
  ·obtain rfl:z=0:=hzk
   go_wp2_with fail
   refine (HP0.out _ Hb.out).mono ?_
   rintro e w1 ⟨a,P,b,Q,E,rfl,⟨hE,hq⟩,h1⟩
   have kv:=(Below.refl w1.heap.size w1).alloc (Nat.le_refl _) (.cells #[.int .i64 a,.pointer P,.int .i64 b,.pointer Q] 30)
   have V:=Lh (box_rat w1 a P b Q)
   have Hc:=Lh ((Hc.out.keep h1).keep kv)
   have Hz:=Lh ((Hz.out.keep h1).keep kv)
   have Hr:=Lh (fun i r s h2 h3 h4=>((Hr.out i r s h2 h3 h4).keep h1).keep kv)
   have Hb:=Lh (below_on (below_on Hb.out h1) kv)
   have Hq:=Lh (fun h=>(hq h).keep kv)
   have HE:=Lh hE
   obtain ⟨wx,hwx⟩:∃ u,w1.alloc (.cells #[.int .i64 a,.pointer P,.int .i64 b,.pointer Q] 30)=u:=⟨_,rfl⟩
   obtain ⟨pv,hpv⟩:∃ p,w1.heap.size=p:=⟨_,rfl⟩
   rw [hwx] at V Hc Hz Hr Hb Hq
   rw [hpv] at V
   clear kv h1 hE hq
   by_cases h0:E=0
   ·subst h0
    have c0:=V.out.c0
    have c1:=V.out.c1
    have c2:=V.out.c2
    have c3:=V.out.c3
    have f0:wx.frozen? ⟨w.heap.size+1+1,0,none⟩=false:=Hc.out.fz 0
    have m0:wx.cell? ⟨w.heap.size+1+1,0,none⟩=some (.int .i64 x0.1):=Hc.out.at_ 0
    have f1:wx.frozen? ⟨w.heap.size+1+1,1,none⟩=false:=Hc.out.fz 1
    have m1:wx.cell? ⟨w.heap.size+1+1,1,none⟩=some (.pointer x0.2.1):=Hc.out.at_ 1
    have f2:wx.frozen? ⟨w.heap.size+1+1,2,none⟩=false:=Hc.out.fz 2
    have m2:wx.cell? ⟨w.heap.size+1+1,2,none⟩=some (.int .i64 x0.2.2.1):=Hc.out.at_ 2
    have f3:wx.frozen? ⟨w.heap.size+1+1,3,none⟩=false:=Hc.out.fz 3
    have m3:wx.cell? ⟨w.heap.size+1+1,3,none⟩=some (.pointer x0.2.2.2):=Hc.out.at_ 3
    have Hf:=Lh (vreadInv_up (k:=0) (r0:=(a,P,b,Q)) (by decide) rfl Hc.out rfl (Hq.out rfl) Hr.out Hz.out (by omega) Hb.out He.out HE.out.symm)
    go_wp2_with fail
    go_roundw
    case rel=>exact ⟨1,1,by decide,rfl,by go_num,Hf.out⟩
    case measure=>simp [intOf]
   ·have hv:errV 400 s0 s1 s2=E:=by
     unfold errV
     rw [if_pos (by rw [← HE.out]; exact h0)]; exact HE.out.symm
    have Hv:=Lh hv
    clear hv
    have f0:wx.frozen? ⟨w.heap.size+1,0,none⟩=false:=Hz.out.fz 0
    have z0:wx.cell? ⟨w.heap.size+1,0,none⟩=some (.int .i64 0):=Hz.out.at_ 0
    have f1:wx.frozen? ⟨w.heap.size+1,1,none⟩=false:=Hz.out.fz 1
    have z1:wx.cell? ⟨w.heap.size+1,1,none⟩=some (.pointer none):=Hz.out.at_ 1
    have f2:wx.frozen? ⟨w.heap.size+1,2,none⟩=false:=Hz.out.fz 2
    have z2:wx.cell? ⟨w.heap.size+1,2,none⟩=some (.int .i64 0):=Hz.out.at_ 2
    have f3:wx.frozen? ⟨w.heap.size+1,3,none⟩=false:=Hz.out.fz 3
    have z3:wx.cell? ⟨w.heap.size+1,3,none⟩=some (.pointer none):=Hz.out.at_ 3
    have f4:wx.frozen? ⟨w.heap.size+1,4,none⟩=false:=Hz.out.fz 4
    have z4:wx.cell? ⟨w.heap.size+1,4,none⟩=some (.int .i64 0):=Hz.out.at_ 4
    have f5:wx.frozen? ⟨w.heap.size+1,5,none⟩=false:=Hz.out.fz 5
    have z5:wx.cell? ⟨w.heap.size+1,5,none⟩=some (.pointer none):=Hz.out.at_ 5
    have f6:wx.frozen? ⟨w.heap.size+1,6,none⟩=false:=Hz.out.fz 6
    have z6:wx.cell? ⟨w.heap.size+1,6,none⟩=some (.int .i64 0):=Hz.out.at_ 6
    have f7:wx.frozen? ⟨w.heap.size+1,7,none⟩=false:=Hz.out.fz 7
    have z7:wx.cell? ⟨w.heap.size+1,7,none⟩=some (.pointer none):=Hz.out.at_ 7
    have f8:wx.frozen? ⟨w.heap.size+1,8,none⟩=false:=Hz.out.fz 8
    have z8:wx.cell? ⟨w.heap.size+1,8,none⟩=some (.int .i64 0):=Hz.out.at_ 8
    have f9:wx.frozen? ⟨w.heap.size+1,9,none⟩=false:=Hz.out.fz 9
    have z9:wx.cell? ⟨w.heap.size+1,9,none⟩=some (.pointer none):=Hz.out.at_ 9
    have f10:wx.frozen? ⟨w.heap.size+1,10,none⟩=false:=Hz.out.fz 10
    have z10:wx.cell? ⟨w.heap.size+1,10,none⟩=some (.int .i64 0):=Hz.out.at_ 10
    have f11:wx.frozen? ⟨w.heap.size+1,11,none⟩=false:=Hz.out.fz 11
    have z11:wx.cell? ⟨w.heap.size+1,11,none⟩=some (.pointer none):=Hz.out.at_ 11
    have Hf:=Lh (below_put12 Hb.out (show w.heap.size≤w.heap.size+1 by omega) zero4 zero4 zero4)
    go_wp2
    exact bodyPost_ret (v:= .tuple #[vecVal zero4 zero4 zero4,.int .i64 E]) (by simp [vecVal,zero4,results,Tryz.results59,go_sem,z0,z1,z2,z3,z4,z5,z6,z7,z8,z9,z10,z11]) rfl ⟨zero4,zero4,zero4,by rw [Hv.out],fun h=>absurd (Hv.out.symm.trans h) h0,fun _=>⟨rfl,rfl,rfl⟩,Hf.out⟩
  ·obtain rfl:z=1:=hzk
   go_wp2_with fail
   refine (HP1.out _ Hb.out).mono ?_
   rintro e w1 ⟨a,P,b,Q,E,rfl,⟨hE,hq⟩,h1⟩
   have kv:=(Below.refl w1.heap.size w1).alloc (Nat.le_refl _) (.cells #[.int .i64 a,.pointer P,.int .i64 b,.pointer Q] 30)
   have V:=Lh (box_rat w1 a P b Q)
   have Hc:=Lh ((Hc.out.keep h1).keep kv)
   have Hz:=Lh ((Hz.out.keep h1).keep kv)
   have Hr:=Lh (fun i r s h2 h3 h4=>((Hr.out i r s h2 h3 h4).keep h1).keep kv)
   have Hb:=Lh (below_on (below_on Hb.out h1) kv)
   have Hq:=Lh (fun h=>(hq h).keep kv)
   have HE:=Lh hE
   obtain ⟨wx,hwx⟩:∃ u,w1.alloc (.cells #[.int .i64 a,.pointer P,.int .i64 b,.pointer Q] 30)=u:=⟨_,rfl⟩
   obtain ⟨pv,hpv⟩:∃ p,w1.heap.size=p:=⟨_,rfl⟩
   rw [hwx] at V Hc Hz Hr Hb Hq
   rw [hpv] at V
   clear kv h1 hE hq
   by_cases h0:E=0
   ·subst h0
    have c0:=V.out.c0
    have c1:=V.out.c1
    have c2:=V.out.c2
    have c3:=V.out.c3
    have f0:wx.frozen? ⟨w.heap.size+1+1,4,none⟩=false:=Hc.out.fz 4
    have m0:wx.cell? ⟨w.heap.size+1+1,4,none⟩=some (.int .i64 x1.1):=Hc.out.at_ 4
    have f1:wx.frozen? ⟨w.heap.size+1+1,5,none⟩=false:=Hc.out.fz 5
    have m1:wx.cell? ⟨w.heap.size+1+1,5,none⟩=some (.pointer x1.2.1):=Hc.out.at_ 5
    have f2:wx.frozen? ⟨w.heap.size+1+1,6,none⟩=false:=Hc.out.fz 6
    have m2:wx.cell? ⟨w.heap.size+1+1,6,none⟩=some (.int .i64 x1.2.2.1):=Hc.out.at_ 6
    have f3:wx.frozen? ⟨w.heap.size+1+1,7,none⟩=false:=Hc.out.fz 7
    have m3:wx.cell? ⟨w.heap.size+1+1,7,none⟩=some (.pointer x1.2.2.2):=Hc.out.at_ 7
    have Hf:=Lh (vreadInv_up (k:=1) (r0:=(a,P,b,Q)) (by decide) rfl Hc.out rfl (Hq.out rfl) Hr.out Hz.out (by omega) Hb.out He.out HE.out.symm)
    go_wp2_with fail
    go_roundw
    case rel=>exact ⟨2,2,by decide,rfl,by go_num,Hf.out⟩
    case measure=>simp [intOf]
   ·have hv:errV 400 s0 s1 s2=E:=by
     unfold errV
     rw [if_neg (by rw [He.out 0 s0 (by decide) rfl]; simp),if_pos (by rw [← HE.out]; exact h0)]; exact HE.out.symm
    have Hv:=Lh hv
    clear hv
    have f0:wx.frozen? ⟨w.heap.size+1,0,none⟩=false:=Hz.out.fz 0
    have z0:wx.cell? ⟨w.heap.size+1,0,none⟩=some (.int .i64 0):=Hz.out.at_ 0
    have f1:wx.frozen? ⟨w.heap.size+1,1,none⟩=false:=Hz.out.fz 1
    have z1:wx.cell? ⟨w.heap.size+1,1,none⟩=some (.pointer none):=Hz.out.at_ 1
    have f2:wx.frozen? ⟨w.heap.size+1,2,none⟩=false:=Hz.out.fz 2
    have z2:wx.cell? ⟨w.heap.size+1,2,none⟩=some (.int .i64 0):=Hz.out.at_ 2
    have f3:wx.frozen? ⟨w.heap.size+1,3,none⟩=false:=Hz.out.fz 3
    have z3:wx.cell? ⟨w.heap.size+1,3,none⟩=some (.pointer none):=Hz.out.at_ 3
    have f4:wx.frozen? ⟨w.heap.size+1,4,none⟩=false:=Hz.out.fz 4
    have z4:wx.cell? ⟨w.heap.size+1,4,none⟩=some (.int .i64 0):=Hz.out.at_ 4
    have f5:wx.frozen? ⟨w.heap.size+1,5,none⟩=false:=Hz.out.fz 5
    have z5:wx.cell? ⟨w.heap.size+1,5,none⟩=some (.pointer none):=Hz.out.at_ 5
    have f6:wx.frozen? ⟨w.heap.size+1,6,none⟩=false:=Hz.out.fz 6
    have z6:wx.cell? ⟨w.heap.size+1,6,none⟩=some (.int .i64 0):=Hz.out.at_ 6
    have f7:wx.frozen? ⟨w.heap.size+1,7,none⟩=false:=Hz.out.fz 7
    have z7:wx.cell? ⟨w.heap.size+1,7,none⟩=some (.pointer none):=Hz.out.at_ 7
    have f8:wx.frozen? ⟨w.heap.size+1,8,none⟩=false:=Hz.out.fz 8
    have z8:wx.cell? ⟨w.heap.size+1,8,none⟩=some (.int .i64 0):=Hz.out.at_ 8
    have f9:wx.frozen? ⟨w.heap.size+1,9,none⟩=false:=Hz.out.fz 9
    have z9:wx.cell? ⟨w.heap.size+1,9,none⟩=some (.pointer none):=Hz.out.at_ 9
    have f10:wx.frozen? ⟨w.heap.size+1,10,none⟩=false:=Hz.out.fz 10
    have z10:wx.cell? ⟨w.heap.size+1,10,none⟩=some (.int .i64 0):=Hz.out.at_ 10
    have f11:wx.frozen? ⟨w.heap.size+1,11,none⟩=false:=Hz.out.fz 11
    have z11:wx.cell? ⟨w.heap.size+1,11,none⟩=some (.pointer none):=Hz.out.at_ 11
    have Hf:=Lh (below_put12 Hb.out (show w.heap.size≤w.heap.size+1 by omega) zero4 zero4 zero4)
    go_wp2
    exact bodyPost_ret (v:= .tuple #[vecVal zero4 zero4 zero4,.int .i64 E]) (by simp [vecVal,zero4,results,Tryz.results59,go_sem,z0,z1,z2,z3,z4,z5,z6,z7,z8,z9,z10,z11]) rfl ⟨zero4,zero4,zero4,by rw [Hv.out],fun h=>absurd (Hv.out.symm.trans h) h0,fun _=>⟨rfl,rfl,rfl⟩,Hf.out⟩
  ·obtain rfl:z=2:=hzk
   go_wp2_with fail
   refine (HP2.out _ Hb.out).mono ?_
   rintro e w1 ⟨a,P,b,Q,E,rfl,⟨hE,hq⟩,h1⟩
   have kv:=(Below.refl w1.heap.size w1).alloc (Nat.le_refl _) (.cells #[.int .i64 a,.pointer P,.int .i64 b,.pointer Q] 30)
   have V:=Lh (box_rat w1 a P b Q)
   have Hc:=Lh ((Hc.out.keep h1).keep kv)
   have Hz:=Lh ((Hz.out.keep h1).keep kv)
   have Hr:=Lh (fun i r s h2 h3 h4=>((Hr.out i r s h2 h3 h4).keep h1).keep kv)
   have Hb:=Lh (below_on (below_on Hb.out h1) kv)
   have Hq:=Lh (fun h=>(hq h).keep kv)
   have HE:=Lh hE
   obtain ⟨wx,hwx⟩:∃ u,w1.alloc (.cells #[.int .i64 a,.pointer P,.int .i64 b,.pointer Q] 30)=u:=⟨_,rfl⟩
   obtain ⟨pv,hpv⟩:∃ p,w1.heap.size=p:=⟨_,rfl⟩
   rw [hwx] at V Hc Hz Hr Hb Hq
   rw [hpv] at V
   clear kv h1 hE hq
   by_cases h0:E=0
   ·subst h0
    have c0:=V.out.c0
    have c1:=V.out.c1
    have c2:=V.out.c2
    have c3:=V.out.c3
    have f0:wx.frozen? ⟨w.heap.size+1+1,8,none⟩=false:=Hc.out.fz 8
    have m0:wx.cell? ⟨w.heap.size+1+1,8,none⟩=some (.int .i64 x2.1):=Hc.out.at_ 8
    have f1:wx.frozen? ⟨w.heap.size+1+1,9,none⟩=false:=Hc.out.fz 9
    have m1:wx.cell? ⟨w.heap.size+1+1,9,none⟩=some (.pointer x2.2.1):=Hc.out.at_ 9
    have f2:wx.frozen? ⟨w.heap.size+1+1,10,none⟩=false:=Hc.out.fz 10
    have m2:wx.cell? ⟨w.heap.size+1+1,10,none⟩=some (.int .i64 x2.2.2.1):=Hc.out.at_ 10
    have f3:wx.frozen? ⟨w.heap.size+1+1,11,none⟩=false:=Hc.out.fz 11
    have m3:wx.cell? ⟨w.heap.size+1+1,11,none⟩=some (.pointer x2.2.2.2):=Hc.out.at_ 11
    have Hf:=Lh (vreadInv_up (k:=2) (r0:=(a,P,b,Q)) (by decide) rfl Hc.out rfl (Hq.out rfl) Hr.out Hz.out (by omega) Hb.out He.out HE.out.symm)
    go_wp2_with fail
    go_roundw
    case rel=>exact ⟨3,3,by decide,rfl,by go_num,Hf.out⟩
    case measure=>simp [intOf]
   ·have hv:errV 400 s0 s1 s2=E:=by
     unfold errV
     rw [if_neg (by rw [He.out 0 s0 (by decide) rfl]; simp),if_neg (by rw [He.out 1 s1 (by decide) rfl]; simp)]; exact HE.out.symm
    have Hv:=Lh hv
    clear hv
    have f0:wx.frozen? ⟨w.heap.size+1,0,none⟩=false:=Hz.out.fz 0
    have z0:wx.cell? ⟨w.heap.size+1,0,none⟩=some (.int .i64 0):=Hz.out.at_ 0
    have f1:wx.frozen? ⟨w.heap.size+1,1,none⟩=false:=Hz.out.fz 1
    have z1:wx.cell? ⟨w.heap.size+1,1,none⟩=some (.pointer none):=Hz.out.at_ 1
    have f2:wx.frozen? ⟨w.heap.size+1,2,none⟩=false:=Hz.out.fz 2
    have z2:wx.cell? ⟨w.heap.size+1,2,none⟩=some (.int .i64 0):=Hz.out.at_ 2
    have f3:wx.frozen? ⟨w.heap.size+1,3,none⟩=false:=Hz.out.fz 3
    have z3:wx.cell? ⟨w.heap.size+1,3,none⟩=some (.pointer none):=Hz.out.at_ 3
    have f4:wx.frozen? ⟨w.heap.size+1,4,none⟩=false:=Hz.out.fz 4
    have z4:wx.cell? ⟨w.heap.size+1,4,none⟩=some (.int .i64 0):=Hz.out.at_ 4
    have f5:wx.frozen? ⟨w.heap.size+1,5,none⟩=false:=Hz.out.fz 5
    have z5:wx.cell? ⟨w.heap.size+1,5,none⟩=some (.pointer none):=Hz.out.at_ 5
    have f6:wx.frozen? ⟨w.heap.size+1,6,none⟩=false:=Hz.out.fz 6
    have z6:wx.cell? ⟨w.heap.size+1,6,none⟩=some (.int .i64 0):=Hz.out.at_ 6
    have f7:wx.frozen? ⟨w.heap.size+1,7,none⟩=false:=Hz.out.fz 7
    have z7:wx.cell? ⟨w.heap.size+1,7,none⟩=some (.pointer none):=Hz.out.at_ 7
    have f8:wx.frozen? ⟨w.heap.size+1,8,none⟩=false:=Hz.out.fz 8
    have z8:wx.cell? ⟨w.heap.size+1,8,none⟩=some (.int .i64 0):=Hz.out.at_ 8
    have f9:wx.frozen? ⟨w.heap.size+1,9,none⟩=false:=Hz.out.fz 9
    have z9:wx.cell? ⟨w.heap.size+1,9,none⟩=some (.pointer none):=Hz.out.at_ 9
    have f10:wx.frozen? ⟨w.heap.size+1,10,none⟩=false:=Hz.out.fz 10
    have z10:wx.cell? ⟨w.heap.size+1,10,none⟩=some (.int .i64 0):=Hz.out.at_ 10
    have f11:wx.frozen? ⟨w.heap.size+1,11,none⟩=false:=Hz.out.fz 11
    have z11:wx.cell? ⟨w.heap.size+1,11,none⟩=some (.pointer none):=Hz.out.at_ 11
    have Hf:=Lh (below_put12 Hb.out (show w.heap.size≤w.heap.size+1 by omega) zero4 zero4 zero4)
    go_wp2
    exact bodyPost_ret (v:= .tuple #[vecVal zero4 zero4 zero4,.int .i64 E]) (by simp [vecVal,zero4,results,Tryz.results59,go_sem,z0,z1,z2,z3,z4,z5,z6,z7,z8,z9,z10,z11]) rfl ⟨zero4,zero4,zero4,by rw [Hv.out],fun h=>absurd (Hv.out.symm.trans h) h0,fun _=>⟨rfl,rfl,rfl⟩,Hf.out⟩
  ·obtain rfl:z=3:=hzk
   have f0:wr.frozen? ⟨w.heap.size+1,0,none⟩=false:=Hz.out.fz 0
   have z0:wr.cell? ⟨w.heap.size+1,0,none⟩=some (.int .i64 0):=Hz.out.at_ 0
   have m0:wr.cell? ⟨w.heap.size+1+1,0,none⟩=some (.int .i64 x0.1):=Hc.out.at_ 0
   have f1:wr.frozen? ⟨w.heap.size+1,1,none⟩=false:=Hz.out.fz 1
   have z1:wr.cell? ⟨w.heap.size+1,1,none⟩=some (.pointer none):=Hz.out.at_ 1
   have m1:wr.cell? ⟨w.heap.size+1+1,1,none⟩=some (.pointer x0.2.1):=Hc.out.at_ 1
   have f2:wr.frozen? ⟨w.heap.size+1,2,none⟩=false:=Hz.out.fz 2
   have z2:wr.cell? ⟨w.heap.size+1,2,none⟩=some (.int .i64 0):=Hz.out.at_ 2
   have m2:wr.cell? ⟨w.heap.size+1+1,2,none⟩=some (.int .i64 x0.2.2.1):=Hc.out.at_ 2
   have f3:wr.frozen? ⟨w.heap.size+1,3,none⟩=false:=Hz.out.fz 3
   have z3:wr.cell? ⟨w.heap.size+1,3,none⟩=some (.pointer none):=Hz.out.at_ 3
   have m3:wr.cell? ⟨w.heap.size+1+1,3,none⟩=some (.pointer x0.2.2.2):=Hc.out.at_ 3
   have f4:wr.frozen? ⟨w.heap.size+1,4,none⟩=false:=Hz.out.fz 4
   have z4:wr.cell? ⟨w.heap.size+1,4,none⟩=some (.int .i64 0):=Hz.out.at_ 4
   have m4:wr.cell? ⟨w.heap.size+1+1,4,none⟩=some (.int .i64 x1.1):=Hc.out.at_ 4
   have f5:wr.frozen? ⟨w.heap.size+1,5,none⟩=false:=Hz.out.fz 5
   have z5:wr.cell? ⟨w.heap.size+1,5,none⟩=some (.pointer none):=Hz.out.at_ 5
   have m5:wr.cell? ⟨w.heap.size+1+1,5,none⟩=some (.pointer x1.2.1):=Hc.out.at_ 5
   have f6:wr.frozen? ⟨w.heap.size+1,6,none⟩=false:=Hz.out.fz 6
   have z6:wr.cell? ⟨w.heap.size+1,6,none⟩=some (.int .i64 0):=Hz.out.at_ 6
   have m6:wr.cell? ⟨w.heap.size+1+1,6,none⟩=some (.int .i64 x1.2.2.1):=Hc.out.at_ 6
   have f7:wr.frozen? ⟨w.heap.size+1,7,none⟩=false:=Hz.out.fz 7
   have z7:wr.cell? ⟨w.heap.size+1,7,none⟩=some (.pointer none):=Hz.out.at_ 7
   have m7:wr.cell? ⟨w.heap.size+1+1,7,none⟩=some (.pointer x1.2.2.2):=Hc.out.at_ 7
   have f8:wr.frozen? ⟨w.heap.size+1,8,none⟩=false:=Hz.out.fz 8
   have z8:wr.cell? ⟨w.heap.size+1,8,none⟩=some (.int .i64 0):=Hz.out.at_ 8
   have m8:wr.cell? ⟨w.heap.size+1+1,8,none⟩=some (.int .i64 x2.1):=Hc.out.at_ 8
   have f9:wr.frozen? ⟨w.heap.size+1,9,none⟩=false:=Hz.out.fz 9
   have z9:wr.cell? ⟨w.heap.size+1,9,none⟩=some (.pointer none):=Hz.out.at_ 9
   have m9:wr.cell? ⟨w.heap.size+1+1,9,none⟩=some (.pointer x2.2.1):=Hc.out.at_ 9
   have f10:wr.frozen? ⟨w.heap.size+1,10,none⟩=false:=Hz.out.fz 10
   have z10:wr.cell? ⟨w.heap.size+1,10,none⟩=some (.int .i64 0):=Hz.out.at_ 10
   have m10:wr.cell? ⟨w.heap.size+1+1,10,none⟩=some (.int .i64 x2.2.2.1):=Hc.out.at_ 10
   have f11:wr.frozen? ⟨w.heap.size+1,11,none⟩=false:=Hz.out.fz 11
   have z11:wr.cell? ⟨w.heap.size+1,11,none⟩=some (.pointer none):=Hz.out.at_ 11
   have m11:wr.cell? ⟨w.heap.size+1+1,11,none⟩=some (.pointer x2.2.2.2):=Hc.out.at_ 11
   have Hv:=Lh (show errV 400 s0 s1 s2=0 by
    unfold errV
    rw [if_neg (by rw [He.out 0 s0 (by decide) rfl]; simp),if_neg (by rw [He.out 1 s1 (by decide) rfl]; simp)]
    exact He.out 2 s2 (by decide) rfl)
   have hh:=put12_heap wr (w.heap.size+1) x0 x1 x2
   have Hw0:=Lh ((Hr.out 0 x0 s0 (by decide) rfl rfl).wrote Hz.out hh.1 hh.2)
   have Hw1:=Lh ((Hr.out 1 x1 s1 (by decide) rfl rfl).wrote Hz.out hh.1 hh.2)
   have Hw2:=Lh ((Hr.out 2 x2 s2 (by decide) rfl rfl).wrote Hz.out hh.1 hh.2)
   have Hf:=Lh (below_put12 Hb.out (show w.heap.size≤w.heap.size+1 by omega) x0 x1 x2)
   clear hh
   go_wp2
   exact bodyPost_ret (v:= .tuple #[vecVal x0 x1 x2,.int .i64 0]) (by simp [vecVal,results,Tryz.results59,go_sem,z0,z1,z2,z3,z4,z5,z6,z7,z8,z9,z10,z11]) rfl ⟨x0,x1,x2,by rw [Hv.out],fun _=>⟨Hw0.out,Hw1.out,Hw2.out⟩,fun h=>absurd Hv.out h,Hf.out⟩
theorem vreadR_any (s0 s1 s2:ByteArray) (w:World) (h0:s0.size≤500) (h1:s1.size≤500) (h2:s2.size≤500) (hg:Good w) :
  Calls Tryz.prog 59 #[.agg #[.string s0,.string s1,.string s2],.func (.func 61) #[] #[]] w (VPost 65536 s0 s1 s2 w):=by
 have HP0:=Lh (fun w' (hb:Below w.heap.size w w')=>rdV_any s0 w' h0 (hg.below hb))
 have HP1:=Lh (fun w' (hb:Below w.heap.size w w')=>rdV_any s1 w' h1 (hg.below hb))
 have HP2:=Lh (fun w' (hb:Below w.heap.size w w')=>rdV_any s2 w' h2 (hg.below hb))
 have kb:=(((Below.refl w.heap.size w).alloc (Nat.le_refl _) (.cells #[.string s0,.string s1,.string s2] 24)).alloc (by simp) (.cells #[.int .i64 0,.pointer none,.int .i64 0,.pointer none,.int .i64 0,.pointer none,.int .i64 0,.pointer none,.int .i64 0,.pointer none,.int .i64 0,.pointer none] 32)).alloc (by simp; omega) (.cells #[.int .i64 0,.pointer none,.int .i64 0,.pointer none,.int .i64 0,.pointer none,.int .i64 0,.pointer none,.int .i64 0,.pointer none,.int .i64 0,.pointer none] 32)
 have Hst:=Lh (show VReadInv 65536 w (w.heap.size+2) [s0,s1,s2] 0 (((w.alloc (.cells #[.string s0,.string s1,.string s2] 24)).alloc (.cells #[.int .i64 0,.pointer none,.int .i64 0,.pointer none,.int .i64 0,.pointer none,.int .i64 0,.pointer none,.int .i64 0,.pointer none,.int .i64 0,.pointer none] 32)).alloc (.cells #[.int .i64 0,.pointer none,.int .i64 0,.pointer none,.int .i64 0,.pointer none,.int .i64 0,.pointer none,.int .i64 0,.pointer none,.int .i64 0,.pointer none] 32)) from
  ⟨⟨[zero4,zero4,zero4],rfl,by have:=Cells.new ((w.alloc (.cells #[.string s0,.string s1,.string s2] 24)).alloc (.cells #[.int .i64 0,.pointer none,.int .i64 0,.pointer none,.int .i64 0,.pointer none,.int .i64 0,.pointer none,.int .i64 0,.pointer none,.int .i64 0,.pointer none] 32)) #[.int .i64 0,.pointer none,.int .i64 0,.pointer none,.int .i64 0,.pointer none,.int .i64 0,.pointer none,.int .i64 0,.pointer none,.int .i64 0,.pointer none] 32; simp only [World.size_alloc] at this; exact this,fun i r q h=>absurd h (Nat.not_lt_zero _)⟩,
   by have:=(Cells.new (w.alloc (.cells #[.string s0,.string s1,.string s2] 24)) #[.int .i64 0,.pointer none,.int .i64 0,.pointer none,.int .i64 0,.pointer none,.int .i64 0,.pointer none,.int .i64 0,.pointer none,.int .i64 0,.pointer none] 32).keep ((Below.refl _ _).alloc (Nat.le_refl _) (.cells #[.int .i64 0,.pointer none,.int .i64 0,.pointer none,.int .i64 0,.pointer none,.int .i64 0,.pointer none,.int .i64 0,.pointer none,.int .i64 0,.pointer none] 32)); simp only [World.size_alloc] at this; exact this,kb,fun i s h=>absurd h (Nat.not_lt_zero _)⟩)
 have hx0:=fun W:World=>show (Instr.index 24 (.agg #[.string s0,.string s1,.string s2]) (.int .i64 0)).run Tryz.prog W= .ok (.string s0) W from rfl
 have hx1:=fun W:World=>show (Instr.index 24 (.agg #[.string s0,.string s1,.string s2]) (.int .i64 1)).run Tryz.prog W= .ok (.string s1) W from rfl
 have hx2:=fun W:World=>show (Instr.index 24 (.agg #[.string s0,.string s1,.string s2]) (.int .i64 2)).run Tryz.prog W= .ok (.string s2) W from rfl
 clear h0 h1 h2 kb hg
 go_enter Tryz.func59,Tryz.ntmps59
 go_wp2_with fail
 go_loopw [12] (fun v wr=>∃ (k:Nat) (z:Int),k≤3∧z=(k:Int)∧v= .int .i64 z∧VReadInv 65536 w (w.heap.size+2) [s0,s1,s2] k wr) (fun v _=>3 - (intOf v).toNat)
 case atStart=>exact ⟨0,0,by decide,rfl,rfl,Hst.out⟩
 case round=>
  obtain ⟨k,z,hk,hzk,rfl,⟨rs,hl,hc,hr⟩,hz,hb,he⟩:=hrel
  obtain ⟨x0,x1,x2,rfl⟩:∃ x0 x1 x2,rs=[x0,x1,x2]:=list3 hl
  have Hc:=Lh hc
  have Hr:=Lh hr
  have Hz:=Lh hz
  have Hb:=Lh hb
  have He:=Lh he
  clear hl hc hr hz hb he
  obtain rfl | rfl | rfl | rfl:k=0∨k=1∨k=2∨k=3:=by omega
  ·obtain rfl:z=0:=hzk
   go_wp2_with fail
   refine (HP0.out _ Hb.out).mono ?_
   rintro e w1 ⟨a,P,b,Q,E,rfl,⟨hE,hq⟩,h1⟩
   have kv:=(Below.refl w1.heap.size w1).alloc (Nat.le_refl _) (.cells #[.int .i64 a,.pointer P,.int .i64 b,.pointer Q] 30)
   have V:=Lh (box_rat w1 a P b Q)
   have Hc:=Lh ((Hc.out.keep h1).keep kv)
   have Hz:=Lh ((Hz.out.keep h1).keep kv)
   have Hr:=Lh (fun i r s h2 h3 h4=>((Hr.out i r s h2 h3 h4).keep h1).keep kv)
   have Hb:=Lh (below_on (below_on Hb.out h1) kv)
   have Hq:=Lh (fun h=>(hq h).keep kv)
   have HE:=Lh hE
   obtain ⟨wx,hwx⟩:∃ u,w1.alloc (.cells #[.int .i64 a,.pointer P,.int .i64 b,.pointer Q] 30)=u:=⟨_,rfl⟩
   obtain ⟨pv,hpv⟩:∃ p,w1.heap.size=p:=⟨_,rfl⟩
   rw [hwx] at V Hc Hz Hr Hb Hq
   rw [hpv] at V
   clear kv h1 hE hq
   by_cases h0:E=0
   ·subst h0
    have c0:=V.out.c0
    have c1:=V.out.c1
    have c2:=V.out.c2
    have c3:=V.out.c3
    have f0:wx.frozen? ⟨w.heap.size+1+1,0,none⟩=false:=Hc.out.fz 0
    have m0:wx.cell? ⟨w.heap.size+1+1,0,none⟩=some (.int .i64 x0.1):=Hc.out.at_ 0
    have f1:wx.frozen? ⟨w.heap.size+1+1,1,none⟩=false:=Hc.out.fz 1
    have m1:wx.cell? ⟨w.heap.size+1+1,1,none⟩=some (.pointer x0.2.1):=Hc.out.at_ 1
    have f2:wx.frozen? ⟨w.heap.size+1+1,2,none⟩=false:=Hc.out.fz 2
    have m2:wx.cell? ⟨w.heap.size+1+1,2,none⟩=some (.int .i64 x0.2.2.1):=Hc.out.at_ 2
    have f3:wx.frozen? ⟨w.heap.size+1+1,3,none⟩=false:=Hc.out.fz 3
    have m3:wx.cell? ⟨w.heap.size+1+1,3,none⟩=some (.pointer x0.2.2.2):=Hc.out.at_ 3
    have Hf:=Lh (vreadInv_up (k:=0) (r0:=(a,P,b,Q)) (by decide) rfl Hc.out rfl (Hq.out rfl) Hr.out Hz.out (by omega) Hb.out He.out HE.out.symm)
    go_wp2_with fail
    go_roundw
    case rel=>exact ⟨1,1,by decide,rfl,by go_num,Hf.out⟩
    case measure=>simp [intOf]
   ·have hv:errV 65536 s0 s1 s2=E:=by
     unfold errV
     rw [if_pos (by rw [← HE.out]; exact h0)]; exact HE.out.symm
    have Hv:=Lh hv
    clear hv
    have f0:wx.frozen? ⟨w.heap.size+1,0,none⟩=false:=Hz.out.fz 0
    have z0:wx.cell? ⟨w.heap.size+1,0,none⟩=some (.int .i64 0):=Hz.out.at_ 0
    have f1:wx.frozen? ⟨w.heap.size+1,1,none⟩=false:=Hz.out.fz 1
    have z1:wx.cell? ⟨w.heap.size+1,1,none⟩=some (.pointer none):=Hz.out.at_ 1
    have f2:wx.frozen? ⟨w.heap.size+1,2,none⟩=false:=Hz.out.fz 2
    have z2:wx.cell? ⟨w.heap.size+1,2,none⟩=some (.int .i64 0):=Hz.out.at_ 2
    have f3:wx.frozen? ⟨w.heap.size+1,3,none⟩=false:=Hz.out.fz 3
    have z3:wx.cell? ⟨w.heap.size+1,3,none⟩=some (.pointer none):=Hz.out.at_ 3
    have f4:wx.frozen? ⟨w.heap.size+1,4,none⟩=false:=Hz.out.fz 4
    have z4:wx.cell? ⟨w.heap.size+1,4,none⟩=some (.int .i64 0):=Hz.out.at_ 4
    have f5:wx.frozen? ⟨w.heap.size+1,5,none⟩=false:=Hz.out.fz 5
    have z5:wx.cell? ⟨w.heap.size+1,5,none⟩=some (.pointer none):=Hz.out.at_ 5
    have f6:wx.frozen? ⟨w.heap.size+1,6,none⟩=false:=Hz.out.fz 6
    have z6:wx.cell? ⟨w.heap.size+1,6,none⟩=some (.int .i64 0):=Hz.out.at_ 6
    have f7:wx.frozen? ⟨w.heap.size+1,7,none⟩=false:=Hz.out.fz 7
    have z7:wx.cell? ⟨w.heap.size+1,7,none⟩=some (.pointer none):=Hz.out.at_ 7
    have f8:wx.frozen? ⟨w.heap.size+1,8,none⟩=false:=Hz.out.fz 8
    have z8:wx.cell? ⟨w.heap.size+1,8,none⟩=some (.int .i64 0):=Hz.out.at_ 8
    have f9:wx.frozen? ⟨w.heap.size+1,9,none⟩=false:=Hz.out.fz 9
    have z9:wx.cell? ⟨w.heap.size+1,9,none⟩=some (.pointer none):=Hz.out.at_ 9
    have f10:wx.frozen? ⟨w.heap.size+1,10,none⟩=false:=Hz.out.fz 10
    have z10:wx.cell? ⟨w.heap.size+1,10,none⟩=some (.int .i64 0):=Hz.out.at_ 10
    have f11:wx.frozen? ⟨w.heap.size+1,11,none⟩=false:=Hz.out.fz 11
    have z11:wx.cell? ⟨w.heap.size+1,11,none⟩=some (.pointer none):=Hz.out.at_ 11
    have Hf:=Lh (below_put12 Hb.out (show w.heap.size≤w.heap.size+1 by omega) zero4 zero4 zero4)
    go_wp2
    exact bodyPost_ret (v:= .tuple #[vecVal zero4 zero4 zero4,.int .i64 E]) (by simp [vecVal,zero4,results,Tryz.results59,go_sem,z0,z1,z2,z3,z4,z5,z6,z7,z8,z9,z10,z11]) rfl ⟨zero4,zero4,zero4,by rw [Hv.out],fun h=>absurd (Hv.out.symm.trans h) h0,fun _=>⟨rfl,rfl,rfl⟩,Hf.out⟩
  ·obtain rfl:z=1:=hzk
   go_wp2_with fail
   refine (HP1.out _ Hb.out).mono ?_
   rintro e w1 ⟨a,P,b,Q,E,rfl,⟨hE,hq⟩,h1⟩
   have kv:=(Below.refl w1.heap.size w1).alloc (Nat.le_refl _) (.cells #[.int .i64 a,.pointer P,.int .i64 b,.pointer Q] 30)
   have V:=Lh (box_rat w1 a P b Q)
   have Hc:=Lh ((Hc.out.keep h1).keep kv)
   have Hz:=Lh ((Hz.out.keep h1).keep kv)
   have Hr:=Lh (fun i r s h2 h3 h4=>((Hr.out i r s h2 h3 h4).keep h1).keep kv)
   have Hb:=Lh (below_on (below_on Hb.out h1) kv)
   have Hq:=Lh (fun h=>(hq h).keep kv)
   have HE:=Lh hE
   obtain ⟨wx,hwx⟩:∃ u,w1.alloc (.cells #[.int .i64 a,.pointer P,.int .i64 b,.pointer Q] 30)=u:=⟨_,rfl⟩
   obtain ⟨pv,hpv⟩:∃ p,w1.heap.size=p:=⟨_,rfl⟩
   rw [hwx] at V Hc Hz Hr Hb Hq
   rw [hpv] at V
   clear kv h1 hE hq
   by_cases h0:E=0
   ·subst h0
    have c0:=V.out.c0
    have c1:=V.out.c1
    have c2:=V.out.c2
    have c3:=V.out.c3
    have f0:wx.frozen? ⟨w.heap.size+1+1,4,none⟩=false:=Hc.out.fz 4
    have m0:wx.cell? ⟨w.heap.size+1+1,4,none⟩=some (.int .i64 x1.1):=Hc.out.at_ 4
    have f1:wx.frozen? ⟨w.heap.size+1+1,5,none⟩=false:=Hc.out.fz 5
    have m1:wx.cell? ⟨w.heap.size+1+1,5,none⟩=some (.pointer x1.2.1):=Hc.out.at_ 5
    have f2:wx.frozen? ⟨w.heap.size+1+1,6,none⟩=false:=Hc.out.fz 6
    have m2:wx.cell? ⟨w.heap.size+1+1,6,none⟩=some (.int .i64 x1.2.2.1):=Hc.out.at_ 6
    have f3:wx.frozen? ⟨w.heap.size+1+1,7,none⟩=false:=Hc.out.fz 7
    have m3:wx.cell? ⟨w.heap.size+1+1,7,none⟩=some (.pointer x1.2.2.2):=Hc.out.at_ 7
    have Hf:=Lh (vreadInv_up (k:=1) (r0:=(a,P,b,Q)) (by decide) rfl Hc.out rfl (Hq.out rfl) Hr.out Hz.out (by omega) Hb.out He.out HE.out.symm)
    go_wp2_with fail
    go_roundw
    case rel=>exact ⟨2,2,by decide,rfl,by go_num,Hf.out⟩
    case measure=>simp [intOf]
   ·have hv:errV 65536 s0 s1 s2=E:=by
     unfold errV
     rw [if_neg (by rw [He.out 0 s0 (by decide) rfl]; simp),if_pos (by rw [← HE.out]; exact h0)]; exact HE.out.symm
    have Hv:=Lh hv
    clear hv
    have f0:wx.frozen? ⟨w.heap.size+1,0,none⟩=false:=Hz.out.fz 0
    have z0:wx.cell? ⟨w.heap.size+1,0,none⟩=some (.int .i64 0):=Hz.out.at_ 0
    have f1:wx.frozen? ⟨w.heap.size+1,1,none⟩=false:=Hz.out.fz 1
    have z1:wx.cell? ⟨w.heap.size+1,1,none⟩=some (.pointer none):=Hz.out.at_ 1
    have f2:wx.frozen? ⟨w.heap.size+1,2,none⟩=false:=Hz.out.fz 2
    have z2:wx.cell? ⟨w.heap.size+1,2,none⟩=some (.int .i64 0):=Hz.out.at_ 2
    have f3:wx.frozen? ⟨w.heap.size+1,3,none⟩=false:=Hz.out.fz 3
    have z3:wx.cell? ⟨w.heap.size+1,3,none⟩=some (.pointer none):=Hz.out.at_ 3
    have f4:wx.frozen? ⟨w.heap.size+1,4,none⟩=false:=Hz.out.fz 4
    have z4:wx.cell? ⟨w.heap.size+1,4,none⟩=some (.int .i64 0):=Hz.out.at_ 4
    have f5:wx.frozen? ⟨w.heap.size+1,5,none⟩=false:=Hz.out.fz 5
    have z5:wx.cell? ⟨w.heap.size+1,5,none⟩=some (.pointer none):=Hz.out.at_ 5
    have f6:wx.frozen? ⟨w.heap.size+1,6,none⟩=false:=Hz.out.fz 6
    have z6:wx.cell? ⟨w.heap.size+1,6,none⟩=some (.int .i64 0):=Hz.out.at_ 6
    have f7:wx.frozen? ⟨w.heap.size+1,7,none⟩=false:=Hz.out.fz 7
    have z7:wx.cell? ⟨w.heap.size+1,7,none⟩=some (.pointer none):=Hz.out.at_ 7
    have f8:wx.frozen? ⟨w.heap.size+1,8,none⟩=false:=Hz.out.fz 8
    have z8:wx.cell? ⟨w.heap.size+1,8,none⟩=some (.int .i64 0):=Hz.out.at_ 8
    have f9:wx.frozen? ⟨w.heap.size+1,9,none⟩=false:=Hz.out.fz 9
    have z9:wx.cell? ⟨w.heap.size+1,9,none⟩=some (.pointer none):=Hz.out.at_ 9
    have f10:wx.frozen? ⟨w.heap.size+1,10,none⟩=false:=Hz.out.fz 10
    have z10:wx.cell? ⟨w.heap.size+1,10,none⟩=some (.int .i64 0):=Hz.out.at_ 10
    have f11:wx.frozen? ⟨w.heap.size+1,11,none⟩=false:=Hz.out.fz 11
    have z11:wx.cell? ⟨w.heap.size+1,11,none⟩=some (.pointer none):=Hz.out.at_ 11
    have Hf:=Lh (below_put12 Hb.out (show w.heap.size≤w.heap.size+1 by omega) zero4 zero4 zero4)
    go_wp2
    exact bodyPost_ret (v:= .tuple #[vecVal zero4 zero4 zero4,.int .i64 E]) (by simp [vecVal,zero4,results,Tryz.results59,go_sem,z0,z1,z2,z3,z4,z5,z6,z7,z8,z9,z10,z11]) rfl ⟨zero4,zero4,zero4,by rw [Hv.out],fun h=>absurd (Hv.out.symm.trans h) h0,fun _=>⟨rfl,rfl,rfl⟩,Hf.out⟩
  ·obtain rfl:z=2:=hzk
   go_wp2_with fail
   refine (HP2.out _ Hb.out).mono ?_
   rintro e w1 ⟨a,P,b,Q,E,rfl,⟨hE,hq⟩,h1⟩
   have kv:=(Below.refl w1.heap.size w1).alloc (Nat.le_refl _) (.cells #[.int .i64 a,.pointer P,.int .i64 b,.pointer Q] 30)
   have V:=Lh (box_rat w1 a P b Q)
   have Hc:=Lh ((Hc.out.keep h1).keep kv)
   have Hz:=Lh ((Hz.out.keep h1).keep kv)
   have Hr:=Lh (fun i r s h2 h3 h4=>((Hr.out i r s h2 h3 h4).keep h1).keep kv)
   have Hb:=Lh (below_on (below_on Hb.out h1) kv)
   have Hq:=Lh (fun h=>(hq h).keep kv)
   have HE:=Lh hE
   obtain ⟨wx,hwx⟩:∃ u,w1.alloc (.cells #[.int .i64 a,.pointer P,.int .i64 b,.pointer Q] 30)=u:=⟨_,rfl⟩
   obtain ⟨pv,hpv⟩:∃ p,w1.heap.size=p:=⟨_,rfl⟩
   rw [hwx] at V Hc Hz Hr Hb Hq
   rw [hpv] at V
   clear kv h1 hE hq
   by_cases h0:E=0
   ·subst h0
    have c0:=V.out.c0
    have c1:=V.out.c1
    have c2:=V.out.c2
    have c3:=V.out.c3
    have f0:wx.frozen? ⟨w.heap.size+1+1,8,none⟩=false:=Hc.out.fz 8
    have m0:wx.cell? ⟨w.heap.size+1+1,8,none⟩=some (.int .i64 x2.1):=Hc.out.at_ 8
    have f1:wx.frozen? ⟨w.heap.size+1+1,9,none⟩=false:=Hc.out.fz 9
    have m1:wx.cell? ⟨w.heap.size+1+1,9,none⟩=some (.pointer x2.2.1):=Hc.out.at_ 9
    have f2:wx.frozen? ⟨w.heap.size+1+1,10,none⟩=false:=Hc.out.fz 10
    have m2:wx.cell? ⟨w.heap.size+1+1,10,none⟩=some (.int .i64 x2.2.2.1):=Hc.out.at_ 10
    have f3:wx.frozen? ⟨w.heap.size+1+1,11,none⟩=false:=Hc.out.fz 11
    have m3:wx.cell? ⟨w.heap.size+1+1,11,none⟩=some (.pointer x2.2.2.2):=Hc.out.at_ 11
    have Hf:=Lh (vreadInv_up (k:=2) (r0:=(a,P,b,Q)) (by decide) rfl Hc.out rfl (Hq.out rfl) Hr.out Hz.out (by omega) Hb.out He.out HE.out.symm)
    go_wp2_with fail
    go_roundw
    case rel=>exact ⟨3,3,by decide,rfl,by go_num,Hf.out⟩
    case measure=>simp [intOf]
   ·have hv:errV 65536 s0 s1 s2=E:=by
     unfold errV
     rw [if_neg (by rw [He.out 0 s0 (by decide) rfl]; simp),if_neg (by rw [He.out 1 s1 (by decide) rfl]; simp)]; exact HE.out.symm
    have Hv:=Lh hv
    clear hv
    have f0:wx.frozen? ⟨w.heap.size+1,0,none⟩=false:=Hz.out.fz 0
    have z0:wx.cell? ⟨w.heap.size+1,0,none⟩=some (.int .i64 0):=Hz.out.at_ 0
    have f1:wx.frozen? ⟨w.heap.size+1,1,none⟩=false:=Hz.out.fz 1
    have z1:wx.cell? ⟨w.heap.size+1,1,none⟩=some (.pointer none):=Hz.out.at_ 1
    have f2:wx.frozen? ⟨w.heap.size+1,2,none⟩=false:=Hz.out.fz 2
    have z2:wx.cell? ⟨w.heap.size+1,2,none⟩=some (.int .i64 0):=Hz.out.at_ 2
    have f3:wx.frozen? ⟨w.heap.size+1,3,none⟩=false:=Hz.out.fz 3
    have z3:wx.cell? ⟨w.heap.size+1,3,none⟩=some (.pointer none):=Hz.out.at_ 3
    have f4:wx.frozen? ⟨w.heap.size+1,4,none⟩=false:=Hz.out.fz 4
    have z4:wx.cell? ⟨w.heap.size+1,4,none⟩=some (.int .i64 0):=Hz.out.at_ 4
    have f5:wx.frozen? ⟨w.heap.size+1,5,none⟩=false:=Hz.out.fz 5
    have z5:wx.cell? ⟨w.heap.size+1,5,none⟩=some (.pointer none):=Hz.out.at_ 5
    have f6:wx.frozen? ⟨w.heap.size+1,6,none⟩=false:=Hz.out.fz 6
    have z6:wx.cell? ⟨w.heap.size+1,6,none⟩=some (.int .i64 0):=Hz.out.at_ 6
    have f7:wx.frozen? ⟨w.heap.size+1,7,none⟩=false:=Hz.out.fz 7
    have z7:wx.cell? ⟨w.heap.size+1,7,none⟩=some (.pointer none):=Hz.out.at_ 7
    have f8:wx.frozen? ⟨w.heap.size+1,8,none⟩=false:=Hz.out.fz 8
    have z8:wx.cell? ⟨w.heap.size+1,8,none⟩=some (.int .i64 0):=Hz.out.at_ 8
    have f9:wx.frozen? ⟨w.heap.size+1,9,none⟩=false:=Hz.out.fz 9
    have z9:wx.cell? ⟨w.heap.size+1,9,none⟩=some (.pointer none):=Hz.out.at_ 9
    have f10:wx.frozen? ⟨w.heap.size+1,10,none⟩=false:=Hz.out.fz 10
    have z10:wx.cell? ⟨w.heap.size+1,10,none⟩=some (.int .i64 0):=Hz.out.at_ 10
    have f11:wx.frozen? ⟨w.heap.size+1,11,none⟩=false:=Hz.out.fz 11
    have z11:wx.cell? ⟨w.heap.size+1,11,none⟩=some (.pointer none):=Hz.out.at_ 11
    have Hf:=Lh (below_put12 Hb.out (show w.heap.size≤w.heap.size+1 by omega) zero4 zero4 zero4)
    go_wp2
    exact bodyPost_ret (v:= .tuple #[vecVal zero4 zero4 zero4,.int .i64 E]) (by simp [vecVal,zero4,results,Tryz.results59,go_sem,z0,z1,z2,z3,z4,z5,z6,z7,z8,z9,z10,z11]) rfl ⟨zero4,zero4,zero4,by rw [Hv.out],fun h=>absurd (Hv.out.symm.trans h) h0,fun _=>⟨rfl,rfl,rfl⟩,Hf.out⟩
  ·obtain rfl:z=3:=hzk
   have f0:wr.frozen? ⟨w.heap.size+1,0,none⟩=false:=Hz.out.fz 0
   have z0:wr.cell? ⟨w.heap.size+1,0,none⟩=some (.int .i64 0):=Hz.out.at_ 0
   have m0:wr.cell? ⟨w.heap.size+1+1,0,none⟩=some (.int .i64 x0.1):=Hc.out.at_ 0
   have f1:wr.frozen? ⟨w.heap.size+1,1,none⟩=false:=Hz.out.fz 1
   have z1:wr.cell? ⟨w.heap.size+1,1,none⟩=some (.pointer none):=Hz.out.at_ 1
   have m1:wr.cell? ⟨w.heap.size+1+1,1,none⟩=some (.pointer x0.2.1):=Hc.out.at_ 1
   have f2:wr.frozen? ⟨w.heap.size+1,2,none⟩=false:=Hz.out.fz 2
   have z2:wr.cell? ⟨w.heap.size+1,2,none⟩=some (.int .i64 0):=Hz.out.at_ 2
   have m2:wr.cell? ⟨w.heap.size+1+1,2,none⟩=some (.int .i64 x0.2.2.1):=Hc.out.at_ 2
   have f3:wr.frozen? ⟨w.heap.size+1,3,none⟩=false:=Hz.out.fz 3
   have z3:wr.cell? ⟨w.heap.size+1,3,none⟩=some (.pointer none):=Hz.out.at_ 3
   have m3:wr.cell? ⟨w.heap.size+1+1,3,none⟩=some (.pointer x0.2.2.2):=Hc.out.at_ 3
   have f4:wr.frozen? ⟨w.heap.size+1,4,none⟩=false:=Hz.out.fz 4
   have z4:wr.cell? ⟨w.heap.size+1,4,none⟩=some (.int .i64 0):=Hz.out.at_ 4
   have m4:wr.cell? ⟨w.heap.size+1+1,4,none⟩=some (.int .i64 x1.1):=Hc.out.at_ 4
   have f5:wr.frozen? ⟨w.heap.size+1,5,none⟩=false:=Hz.out.fz 5
   have z5:wr.cell? ⟨w.heap.size+1,5,none⟩=some (.pointer none):=Hz.out.at_ 5
   have m5:wr.cell? ⟨w.heap.size+1+1,5,none⟩=some (.pointer x1.2.1):=Hc.out.at_ 5
   have f6:wr.frozen? ⟨w.heap.size+1,6,none⟩=false:=Hz.out.fz 6
   have z6:wr.cell? ⟨w.heap.size+1,6,none⟩=some (.int .i64 0):=Hz.out.at_ 6
   have m6:wr.cell? ⟨w.heap.size+1+1,6,none⟩=some (.int .i64 x1.2.2.1):=Hc.out.at_ 6
   have f7:wr.frozen? ⟨w.heap.size+1,7,none⟩=false:=Hz.out.fz 7
   have z7:wr.cell? ⟨w.heap.size+1,7,none⟩=some (.pointer none):=Hz.out.at_ 7
   have m7:wr.cell? ⟨w.heap.size+1+1,7,none⟩=some (.pointer x1.2.2.2):=Hc.out.at_ 7
   have f8:wr.frozen? ⟨w.heap.size+1,8,none⟩=false:=Hz.out.fz 8
   have z8:wr.cell? ⟨w.heap.size+1,8,none⟩=some (.int .i64 0):=Hz.out.at_ 8
   have m8:wr.cell? ⟨w.heap.size+1+1,8,none⟩=some (.int .i64 x2.1):=Hc.out.at_ 8
   have f9:wr.frozen? ⟨w.heap.size+1,9,none⟩=false:=Hz.out.fz 9
   have z9:wr.cell? ⟨w.heap.size+1,9,none⟩=some (.pointer none):=Hz.out.at_ 9
   have m9:wr.cell? ⟨w.heap.size+1+1,9,none⟩=some (.pointer x2.2.1):=Hc.out.at_ 9
   have f10:wr.frozen? ⟨w.heap.size+1,10,none⟩=false:=Hz.out.fz 10
   have z10:wr.cell? ⟨w.heap.size+1,10,none⟩=some (.int .i64 0):=Hz.out.at_ 10
   have m10:wr.cell? ⟨w.heap.size+1+1,10,none⟩=some (.int .i64 x2.2.2.1):=Hc.out.at_ 10
   have f11:wr.frozen? ⟨w.heap.size+1,11,none⟩=false:=Hz.out.fz 11
   have z11:wr.cell? ⟨w.heap.size+1,11,none⟩=some (.pointer none):=Hz.out.at_ 11
   have m11:wr.cell? ⟨w.heap.size+1+1,11,none⟩=some (.pointer x2.2.2.2):=Hc.out.at_ 11
   have Hv:=Lh (show errV 65536 s0 s1 s2=0 by
    unfold errV
    rw [if_neg (by rw [He.out 0 s0 (by decide) rfl]; simp),if_neg (by rw [He.out 1 s1 (by decide) rfl]; simp)]
    exact He.out 2 s2 (by decide) rfl)
   have hh:=put12_heap wr (w.heap.size+1) x0 x1 x2
   have Hw0:=Lh ((Hr.out 0 x0 s0 (by decide) rfl rfl).wrote Hz.out hh.1 hh.2)
   have Hw1:=Lh ((Hr.out 1 x1 s1 (by decide) rfl rfl).wrote Hz.out hh.1 hh.2)
   have Hw2:=Lh ((Hr.out 2 x2 s2 (by decide) rfl rfl).wrote Hz.out hh.1 hh.2)
   have Hf:=Lh (below_put12 Hb.out (show w.heap.size≤w.heap.size+1 by omega) x0 x1 x2)
   clear hh
   go_wp2
   exact bodyPost_ret (v:= .tuple #[vecVal x0 x1 x2,.int .i64 0]) (by simp [vecVal,results,Tryz.results59,go_sem,z0,z1,z2,z3,z4,z5,z6,z7,z8,z9,z10,z11]) rfl ⟨x0,x1,x2,by rw [Hv.out],fun _=>⟨Hw0.out,Hw1.out,Hw2.out⟩,fun h=>absurd Hv.out h,Hf.out⟩
end Go.Proofs.YtekhdklbfincpaaGreatDoor
