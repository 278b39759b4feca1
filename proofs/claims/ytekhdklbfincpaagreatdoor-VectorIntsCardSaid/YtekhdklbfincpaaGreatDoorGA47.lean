/- GA47: Vmad Vmk Vpar -/
import Derived.Test.YtekhdklbfincpaaGreatDoorGA45
import Derived.Test.YtekhdklbfincpaaGreatDoorGA46
import Derived.Test.YtekhdklbfincpaaGreatDoorGA27
import Derived.Test.YtekhdklbfincpaaGreatDoorGA35
import Derived.Test.YtekhdklbfincpaaGreatDoorGA42
set_option maxRecDepth 100000
set_option maxHeartbeats 16000000
namespace Go.Proofs.YtekhdklbfincpaaGreatDoor
open Go.RowKit
theorem refPoint_any (s0 s1 s2:ByteArray) (w:World):Calls Tryz.prog 63 #[.agg #[.string s0,.string s1,.string s2]] w fun e w'=>e= .returned (.agg #[.string s0,.string s1,.string s2])∧Below w.heap.size w w':=by
 have kb:=Lh (((Below.refl w.heap.size w).alloc (Nat.le_refl _) (.cells #[.string s0,.string s1,.string s2] 48)).alloc (by simp) (.cells #[.string s0,.string s1,.string s2] 24))
 go_enter Tryz.func63,Tryz.ntmps63
 go_wp2
 exact bodyPost_ret (v:= .agg #[.string s0,.string s1,.string s2]) (by simp [results,Tryz.results63,go_sem]) rfl ⟨rfl,kb.out⟩
theorem wrap_i64 {n:Int} (h0:-9223372036854775808≤n) (h1:n≤9223372036854775807):IntKind.wrap .i64 n=n:=by
 simp [IntKind.wrap,IntKind.signed,IntKind.bits]
 omega
theorem ratTxt_int (n:Int):ratTxt ((n:Int):Rat)=txt n:=by
 unfold ratTxt
 rw [if_pos (Rat.den_intCast n),Rat.num_intCast]
def smallQ (n r:Int):Rat:=((n:Int):Rat) / (((1+r:Int)):Rat)
def smallOk (n r:Int):Bool:=errR (ratTxt (smallQ n r)) == 0 && decide ((ratTxt (smallQ n r)).size≤100) && decide ((smallQ n r).num.natAbs<ten 4) && decide ((smallQ n r).den<ten 4)
theorem small_all:((List.range 256).all fun i=>(List.range 6).all fun j=>smallOk ((i:Int) - 128) (j:Int))=true:=by decide +kernel
theorem small_ok {n r:Int} (h0:-128≤n) (h1:n≤127) (r0:0≤r) (r1:r≤5):errR (ratTxt (smallQ n r))=0∧(ratTxt (smallQ n r)).size≤100∧Few (smallQ n r) 4:=by
 have h:=small_all
 rw [List.all_eq_true] at h
 have h:=h (n+128).toNat (List.mem_range.2 (by omega))
 rw [List.all_eq_true] at h
 have h:=h r.toNat (List.mem_range.2 (by omega))
 rw [show (((n+128).toNat:Nat):Int) - 128=n by omega,show ((r.toNat:Nat):Int)=r by omega] at h
 unfold smallOk at h
 simp only [Bool.and_eq_true,beq_iff_eq,decide_eq_true_eq] at h
 exact ⟨h.1.1.1,h.1.1.2,⟨h.1.2,h.2⟩⟩
structure Sm (n0 n1 n2 d r:Int):Prop where
 x0:-128≤n0
 x1:n0≤127
 y0:-128≤n1
 y1:n1≤127
 z0:-128≤n2
 z1:n2≤127
 d0:0≤d
 d1:d≤255
 r_:d % 6=r
theorem Sm.r0 {n0 n1 n2 d r:Int} (h:Sm n0 n1 n2 d r):0≤r:=by have:=h.r_; omega
theorem Sm.r1 {n0 n1 n2 d r:Int} (h:Sm n0 n1 n2 d r):r≤5:=by have:=h.r_; omega
def smV (n0 n1 n2 d:Int):Value:= .agg #[.int .i8 n0,.int .i8 n1,.int .i8 n2,.int .u8 d]
theorem texts_any (n0 n1 n2 d r:Int) (w:World) (h:Sm n0 n1 n2 d r):Calls Tryz.prog 22 #[smV n0 n1 n2 d] w fun e w'=>e= .returned (.agg #[.string (ratTxt (smallQ n0 r)),.string (ratTxt (smallQ n1 r)),.string (ratTxt (smallQ n2 r))])∧Below w.heap.size w w':=by
 have hr0:=h.r0
 have hr1:=h.r1
 have hw0:IntKind.wrap .i64 n0=n0:=wrap_i64 (by have:=h.x0; omega) (by have:=h.x1; omega)
 have hw1:IntKind.wrap .i64 n1=n1:=wrap_i64 (by have:=h.y0; omega) (by have:=h.y1; omega)
 have hw2:IntKind.wrap .i64 n2=n2:=wrap_i64 (by have:=h.z0; omega) (by have:=h.z1; omega)
 have hwr:IntKind.wrap .i64 r=r:=wrap_i64 (by omega) (by omega)
 have hw1r:IntKind.wrap .i64 (1+r)=1+r:=wrap_i64 (by omega) (by omega)
 have hwu:IntKind.wrap .u8 r=r:=by unfold IntKind.wrap; simp [go_sem]; omega
 have htm:Int.tmod d 6=r:=by rw [Int.tmod_eq_emod_of_nonneg h.d0]; exact h.r_
 have hem:d % 6=r:=h.r_
 have HA0:=Lh (fun w'=>refFromR_any n0 w' ⟨by have:=h.x0; omega,by have:=h.x1; omega⟩)
 have HC0:=fun w'=>refDivF_any (p:=((n0:Int):Rat)) (q:=((1+r:Int):Rat)) (k:=4) (m:=4) ⟨by rw [Rat.num_intCast]; have:=h.x0; have:=h.x1; show n0.natAbs<10000; omega,by rw [Rat.den_intCast]; decide⟩ ⟨by rw [Rat.num_intCast]; show (1+r).natAbs<10000; omega,by rw [Rat.den_intCast]; decide⟩ (by decide) (by decide) (by rw [Rat.num_intCast]; omega) w'
 simp only [ratTxt_int] at HC0
 have HA1:=Lh (fun w'=>refFromR_any n1 w' ⟨by have:=h.y0; omega,by have:=h.y1; omega⟩)
 have HC1:=fun w'=>refDivF_any (p:=((n1:Int):Rat)) (q:=((1+r:Int):Rat)) (k:=4) (m:=4) ⟨by rw [Rat.num_intCast]; have:=h.y0; have:=h.y1; show n1.natAbs<10000; omega,by rw [Rat.den_intCast]; decide⟩ ⟨by rw [Rat.num_intCast]; show (1+r).natAbs<10000; omega,by rw [Rat.den_intCast]; decide⟩ (by decide) (by decide) (by rw [Rat.num_intCast]; omega) w'
 simp only [ratTxt_int] at HC1
 have HA2:=Lh (fun w'=>refFromR_any n2 w' ⟨by have:=h.z0; omega,by have:=h.z1; omega⟩)
 have HC2:=fun w'=>refDivF_any (p:=((n2:Int):Rat)) (q:=((1+r:Int):Rat)) (k:=4) (m:=4) ⟨by rw [Rat.num_intCast]; have:=h.z0; have:=h.z1; show n2.natAbs<10000; omega,by rw [Rat.den_intCast]; decide⟩ ⟨by rw [Rat.num_intCast]; show (1+r).natAbs<10000; omega,by rw [Rat.den_intCast]; decide⟩ (by decide) (by decide) (by rw [Rat.num_intCast]; omega) w'
 simp only [ratTxt_int] at HC2
 have HBB:=Lh (fun w'=>refFromR_any (1+r) w' ⟨by omega,by omega⟩)
 obtain ⟨a0,ha0⟩:∃ s,txt n0=s:=⟨_,rfl⟩
 obtain ⟨c0,hc0⟩:∃ s,ratTxt (smallQ n0 r)=s:=⟨_,rfl⟩
 rw [ha0] at HA0 HC0
 rw [show ratTxt (((n0:Int):Rat) / (((1+r:Int)):Rat))=c0 from hc0] at HC0
 rw [hc0]
 obtain ⟨a1,ha1⟩:∃ s,txt n1=s:=⟨_,rfl⟩
 obtain ⟨c1,hc1⟩:∃ s,ratTxt (smallQ n1 r)=s:=⟨_,rfl⟩
 rw [ha1] at HA1 HC1
 rw [show ratTxt (((n1:Int):Rat) / (((1+r:Int)):Rat))=c1 from hc1] at HC1
 rw [hc1]
 obtain ⟨a2,ha2⟩:∃ s,txt n2=s:=⟨_,rfl⟩
 obtain ⟨c2,hc2⟩:∃ s,ratTxt (smallQ n2 r)=s:=⟨_,rfl⟩
 rw [ha2] at HA2 HC2
 rw [show ratTxt (((n2:Int):Rat) / (((1+r:Int)):Rat))=c2 from hc2] at HC2
 rw [hc2]
 obtain ⟨bb,hbb⟩:∃ s,txt (1+r)=s:=⟨_,rfl⟩
 rw [hbb] at HBB HC0 HC1 HC2
 have HC0:=Lh HC0
 have HC1:=Lh HC1
 have HC2:=Lh HC2
 have kb:=(((Below.refl w.heap.size w).alloc (Nat.le_refl _) (.cells #[.int .i8 n0,.int .i8 n1,.int .i8 n2,.int .u8 d] 44)).alloc (by simp) (.cells #[.string ⟨#[]⟩,.string ⟨#[]⟩,.string ⟨#[]⟩] 48)).alloc (by simp; omega) (.cells #[.string ⟨#[]⟩,.string ⟨#[]⟩,.string ⟨#[]⟩] 48)
 have C0:=((Cells.new w #[.int .i8 n0,.int .i8 n1,.int .i8 n2,.int .u8 d] 44).keep ((Below.refl _ _).alloc (Nat.le_refl _) (.cells #[.string ⟨#[]⟩,.string ⟨#[]⟩,.string ⟨#[]⟩] 48))).keep ((Below.refl _ _).alloc (Nat.le_refl _) (.cells #[.string ⟨#[]⟩,.string ⟨#[]⟩,.string ⟨#[]⟩] 48))
 have C1:=(Cells.new (w.alloc (.cells #[.int .i8 n0,.int .i8 n1,.int .i8 n2,.int .u8 d] 44)) #[.string ⟨#[]⟩,.string ⟨#[]⟩,.string ⟨#[]⟩] 48).keep ((Below.refl _ _).alloc (Nat.le_refl _) (.cells #[.string ⟨#[]⟩,.string ⟨#[]⟩,.string ⟨#[]⟩] 48))
 have C2:=Cells.new ((w.alloc (.cells #[.int .i8 n0,.int .i8 n1,.int .i8 n2,.int .u8 d] 44)).alloc (.cells #[.string ⟨#[]⟩,.string ⟨#[]⟩,.string ⟨#[]⟩] 48)) #[.string ⟨#[]⟩,.string ⟨#[]⟩,.string ⟨#[]⟩] 48
 have hs:(((w.alloc (.cells #[.int .i8 n0,.int .i8 n1,.int .i8 n2,.int .u8 d] 44)).alloc (.cells #[.string ⟨#[]⟩,.string ⟨#[]⟩,.string ⟨#[]⟩] 48)).alloc (.cells #[.string ⟨#[]⟩,.string ⟨#[]⟩,.string ⟨#[]⟩] 48)).heap.size=w.heap.size+1+1+1:=by simp
 simp only [World.size_alloc] at C1 C2
 obtain ⟨W,hW⟩:∃ u,((w.alloc (.cells #[.int .i8 n0,.int .i8 n1,.int .i8 n2,.int .u8 d] 44)).alloc (.cells #[.string ⟨#[]⟩,.string ⟨#[]⟩,.string ⟨#[]⟩] 48)).alloc (.cells #[.string ⟨#[]⟩,.string ⟨#[]⟩,.string ⟨#[]⟩] 48)=u:=⟨_,rfl⟩
 rw [hW] at kb C0 C1 C2 hs
 have Hst:=Lh (show TxtsInv w (w.heap.size+2) [c0,c1,c2] 0 W from ⟨⟨[⟨#[]⟩,⟨#[]⟩,⟨#[]⟩],rfl,C2,fun i q h=>absurd h (Nat.not_lt_zero _)⟩,C1,kb⟩)
 have HX:=Lh (fun wr (hb:Below (w.heap.size+1) W wr) (i:Nat)=>(hb.cell (p:=⟨w.heap.size,i,none⟩) (Nat.lt_succ_self _)).trans (C0.at_ i))
 have HZ:=Lh (show W.heap.size=w.heap.size+3 from hs)
 clear h hr0 hr1 hc0 hc1 hc2 ha0 ha1 ha2 hbb kb C0 C1 C2 hs
 unfold smV
 go_enter Tryz.func22,Tryz.ntmps22
 go_wp2_with fail
 try simp only [hW]
 clear hW
 go_loopw [4] (fun v wr=>∃ (k:Nat) (z:Int),k≤3∧z=(k:Int)∧v= .int .i64 z∧TxtsInv w (w.heap.size+2) [c0,c1,c2] k wr∧Below (w.heap.size+1) W wr) (fun v _=>3 - (intOf v).toNat)
 case atStart=>exact ⟨0,0,by decide,rfl,rfl,Hst.out,Below.refl _ _⟩
 case round=>
  obtain ⟨k,z,hk,hzk,rfl,⟨⟨ss,hl,hc,hr⟩,hz,hb⟩,hb1⟩:=hrel
  obtain ⟨t0,t1,t2,rfl⟩:∃ x y z,ss=[x,y,z]:=list3 hl
  have Hc:=Lh (show Cells wr (w.heap.size+1+1) _ from hc)
  have Hr:=Lh hr
  have Hz:=Lh (show Cells wr (w.heap.size+1) _ from hz)
  have Hb:=Lh hb
  have Hb1:=Lh hb1
  have Hsz:=Lh (show w.heap.size+3≤wr.heap.size by have:=hb1.size; rw [HZ.out] at this; exact this)
  clear hl hc hr hz hb hb1
  obtain rfl | rfl | rfl | rfl:k=0∨k=1∨k=2∨k=3:=by omega
  ·obtain rfl:z=0:=hzk
   have HS:=Lh (fun w' (hb:Below wr.heap.size wr w')=>have hb2:=Hb1.out.trans (hb.mono (Nat.le_trans (show w.heap.size+1≤w.heap.size+3 by omega) Hsz.out)); (⟨HX.out w' hb2 0,HX.out w' hb2 3⟩:w'.cell? ⟨w.heap.size,0,none⟩=some (.int .i8 n0)∧w'.cell? ⟨w.heap.size,3,none⟩=some (.int .u8 d)))
   go_upto_region 5 with fail
   refine Till.begin 15 (fun w'=>w'.cell? ⟨w.heap.size,0,none⟩=some (.int .i8 n0)∧w'.cell? ⟨w.heap.size,3,none⟩=some (.int .u8 d)) (by kernel_rfl) (HS.out _ (Below.refl _ _).drew) (fun hH=>?_)
   clear hH
   have HB:=Lh (Below.refl wr.heap.size wr).drew
   generalize wr.drew=v0 at HB ⊢
   try simp only [Pls]
   refine Till.tk 0 14 9 (.int .i64 0) (HS.out _ HB.out) ?_
   try simp only [Act.put,Pls]
   refine Till.tk 1 3 10 (.int .i64 0) (HS.out _ HB.out) ?_
   try simp only [Act.put,Pls]
   refine Till.tk 2 3 11 (.pointer (some ⟨w.heap.size,0,none⟩)) (HS.out _ HB.out) ?_
   try simp only [Act.put,Pls]
   refine Till.tk 3 4 12 (.pointer (some ⟨w.heap.size,0,none⟩)) (HS.out _ HB.out) ?_
   try simp only [Act.put,Pls]
   refine Till.tk 4 5 13 (.int .i8 n0) (HS.out _ HB.out) ?_
   try simp only [Act.put,Pls]
   refine Till.tk 5 6 14 (.int .i64 n0) (HS.out _ HB.out) ?_
   try simp only [Act.put,Pls]
   refine Till.tk 7 8 16 (.pointer (some ⟨w.heap.size,3,none⟩)) (HS.out _ HB.out) ?_
   try simp only [Act.put,Pls]
   refine Till.tk 8 9 17 (.int .u8 d) (HS.out _ HB.out) ?_
   try simp only [Act.put,Pls]
   refine Till.tk 9 10 18 (.int .u8 r) (HS.out _ HB.out) ?_
   try simp only [Act.put,Pls]
   refine Till.tk 10 11 19 (.int .i64 r) (HS.out _ HB.out) ?_
   try simp only [Act.put,Pls]
   refine Till.tk 11 12 20 (.int .i64 (1+r)) (HS.out _ HB.out) ?_
   try simp only [Act.put,Pls]
   refine Till.one (i:=6) (by kernel_rfl) rfl (fun K hK=>?_)
   go_simp
   refine (HA0.out _).mono ?_
   rintro e v1 ⟨rfl,g⟩
   replace HB:=Lh (below_on HB.out g)
   clear g
   go_wp2_with fail
   refine hK.out _ _ (fun _=>HS.out _ HB.out) ?_
   clear hK K
   try simp only [Pls]
   refine Till.one (i:=12) (by kernel_rfl) rfl (fun K hK=>?_)
   go_simp
   refine (HBB.out _).mono ?_
   rintro e v2 ⟨rfl,g⟩
   replace HB:=Lh (below_on HB.out g)
   clear g
   go_wp2_with fail
   refine hK.out _ _ (fun _=>HS.out _ HB.out) ?_
   clear hK K
   try simp only [Pls]
   refine Till.one (i:=13) (by kernel_rfl) rfl (fun K hK=>?_)
   go_simp
   refine (HC0.out _).mono ?_
   rintro e v3 ⟨rfl,g⟩
   replace HB:=Lh (below_on HB.out g)
   have Cv:=Hc.out.keep HB.out
   have f0:v3.frozen? ⟨w.heap.size+1+1,0,none⟩=false:=Cv.fz 0
   have m0:v3.cell? ⟨w.heap.size+1+1,0,none⟩=some (.string t0):=Cv.at_ 0
   clear Cv
   clear g
   go_wp2_with fail
   refine hK.out _ _ (fun _=>HS.out _ HB.out) ?_
   clear hK K
   try simp only [Pls]
   refine Till.one (i:=14) (by kernel_rfl) rfl (fun K hK=>?_)
   go_simp
   refine hK.out _ _ (fun _=>HS.out _ HB.out) ?_
   clear hK K
   try simp only [Pls]
   refine Till.one (i:=15) (by kernel_rfl) rfl (fun K hK=>?_)
   go_simp
   refine hK.out _ _ (fun h=>absurd h (by simp)) ?_
   clear hK K
   try simp only [Pls]
   refine Till.done (by kernel_rfl) ?_ _
   have hB:=HB.out
   have Hb:=Lh (below_on Hb.out hB)
   have Hb1:=Lh (Hb1.out.trans (hB.mono (Nat.le_trans (show w.heap.size+1≤w.heap.size+3 by omega) Hsz.out)))
   have Hf:=Lh (txtsInv_up (k:=0) (by decide) rfl (Hc.out.keep hB) rfl Hr.out (Hz.out.keep hB) (show w.heap.size<w.heap.size+1+1 by omega) Hb.out)
   have Hg:=Lh (Hb1.out.setCell (p:=⟨w.heap.size+1+1,0,none⟩) (show w.heap.size+1≤w.heap.size+1+1 by omega) (.string c0))
   clear hB
   go_wp2_with fail
   go_roundw
   case rel=>exact ⟨1,1,by decide,rfl,by go_num,Hf.out,Hg.out⟩
   case measure=>simp [intOf]
  ·obtain rfl:z=1:=hzk
   have HS:=Lh (fun w' (hb:Below wr.heap.size wr w')=>have hb2:=Hb1.out.trans (hb.mono (Nat.le_trans (show w.heap.size+1≤w.heap.size+3 by omega) Hsz.out)); (⟨HX.out w' hb2 1,HX.out w' hb2 3⟩:w'.cell? ⟨w.heap.size,1,none⟩=some (.int .i8 n1)∧w'.cell? ⟨w.heap.size,3,none⟩=some (.int .u8 d)))
   go_upto_region 5 with fail
   refine Till.begin 15 (fun w'=>w'.cell? ⟨w.heap.size,1,none⟩=some (.int .i8 n1)∧w'.cell? ⟨w.heap.size,3,none⟩=some (.int .u8 d)) (by kernel_rfl) (HS.out _ (Below.refl _ _).drew) (fun hH=>?_)
   clear hH
   have HB:=Lh (Below.refl wr.heap.size wr).drew
   generalize wr.drew=v0 at HB ⊢
   try simp only [Pls]
   refine Till.tk 0 14 9 (.int .i64 1) (HS.out _ HB.out) ?_
   try simp only [Act.put,Pls]
   refine Till.tk 1 3 10 (.int .i64 1) (HS.out _ HB.out) ?_
   try simp only [Act.put,Pls]
   refine Till.tk 2 3 11 (.pointer (some ⟨w.heap.size,0,none⟩)) (HS.out _ HB.out) ?_
   try simp only [Act.put,Pls]
   refine Till.tk 3 4 12 (.pointer (some ⟨w.heap.size,1,none⟩)) (HS.out _ HB.out) ?_
   try simp only [Act.put,Pls]
   refine Till.tk 4 5 13 (.int .i8 n1) (HS.out _ HB.out) ?_
   try simp only [Act.put,Pls]
   refine Till.tk 5 6 14 (.int .i64 n1) (HS.out _ HB.out) ?_
   try simp only [Act.put,Pls]
   refine Till.tk 7 8 16 (.pointer (some ⟨w.heap.size,3,none⟩)) (HS.out _ HB.out) ?_
   try simp only [Act.put,Pls]
   refine Till.tk 8 9 17 (.int .u8 d) (HS.out _ HB.out) ?_
   try simp only [Act.put,Pls]
   refine Till.tk 9 10 18 (.int .u8 r) (HS.out _ HB.out) ?_
   try simp only [Act.put,Pls]
   refine Till.tk 10 11 19 (.int .i64 r) (HS.out _ HB.out) ?_
   try simp only [Act.put,Pls]
   refine Till.tk 11 12 20 (.int .i64 (1+r)) (HS.out _ HB.out) ?_
   try simp only [Act.put,Pls]
   refine Till.one (i:=6) (by kernel_rfl) rfl (fun K hK=>?_)
   go_simp
   refine (HA1.out _).mono ?_
   rintro e v1 ⟨rfl,g⟩
   replace HB:=Lh (below_on HB.out g)
   clear g
   go_wp2_with fail
   refine hK.out _ _ (fun _=>HS.out _ HB.out) ?_
   clear hK K
   try simp only [Pls]
   refine Till.one (i:=12) (by kernel_rfl) rfl (fun K hK=>?_)
   go_simp
   refine (HBB.out _).mono ?_
   rintro e v2 ⟨rfl,g⟩
   replace HB:=Lh (below_on HB.out g)
   clear g
   go_wp2_with fail
   refine hK.out _ _ (fun _=>HS.out _ HB.out) ?_
   clear hK K
   try simp only [Pls]
   refine Till.one (i:=13) (by kernel_rfl) rfl (fun K hK=>?_)
   go_simp
   refine (HC1.out _).mono ?_
   rintro e v3 ⟨rfl,g⟩
   replace HB:=Lh (below_on HB.out g)
   have Cv:=Hc.out.keep HB.out
   have f0:v3.frozen? ⟨w.heap.size+1+1,1,none⟩=false:=Cv.fz 1
   have m0:v3.cell? ⟨w.heap.size+1+1,1,none⟩=some (.string t1):=Cv.at_ 1
   clear Cv
   clear g
   go_wp2_with fail
   refine hK.out _ _ (fun _=>HS.out _ HB.out) ?_
   clear hK K
   try simp only [Pls]
   refine Till.one (i:=14) (by kernel_rfl) rfl (fun K hK=>?_)
   go_simp
   refine hK.out _ _ (fun _=>HS.out _ HB.out) ?_
   clear hK K
   try simp only [Pls]
   refine Till.one (i:=15) (by kernel_rfl) rfl (fun K hK=>?_)
   go_simp
   refine hK.out _ _ (fun h=>absurd h (by simp)) ?_
   clear hK K
   try simp only [Pls]
   refine Till.done (by kernel_rfl) ?_ _
   have hB:=HB.out
   have Hb:=Lh (below_on Hb.out hB)
   have Hb1:=Lh (Hb1.out.trans (hB.mono (Nat.le_trans (show w.heap.size+1≤w.heap.size+3 by omega) Hsz.out)))
   have Hf:=Lh (txtsInv_up (k:=1) (by decide) rfl (Hc.out.keep hB) rfl Hr.out (Hz.out.keep hB) (show w.heap.size<w.heap.size+1+1 by omega) Hb.out)
   have Hg:=Lh (Hb1.out.setCell (p:=⟨w.heap.size+1+1,1,none⟩) (show w.heap.size+1≤w.heap.size+1+1 by omega) (.string c1))
   clear hB
   go_wp2_with fail
   go_roundw
   case rel=>exact ⟨2,2,by decide,rfl,by go_num,Hf.out,Hg.out⟩
   case measure=>simp [intOf]
  ·obtain rfl:z=2:=hzk
   have HS:=Lh (fun w' (hb:Below wr.heap.size wr w')=>have hb2:=Hb1.out.trans (hb.mono (Nat.le_trans (show w.heap.size+1≤w.heap.size+3 by omega) Hsz.out)); (⟨HX.out w' hb2 2,HX.out w' hb2 3⟩:w'.cell? ⟨w.heap.size,2,none⟩=some (.int .i8 n2)∧w'.cell? ⟨w.heap.size,3,none⟩=some (.int .u8 d)))
   go_upto_region 5 with fail
   refine Till.begin 15 (fun w'=>w'.cell? ⟨w.heap.size,2,none⟩=some (.int .i8 n2)∧w'.cell? ⟨w.heap.size,3,none⟩=some (.int .u8 d)) (by kernel_rfl) (HS.out _ (Below.refl _ _).drew) (fun hH=>?_)
   clear hH
   have HB:=Lh (Below.refl wr.heap.size wr).drew
   generalize wr.drew=v0 at HB ⊢
   try simp only [Pls]
   refine Till.tk 0 14 9 (.int .i64 2) (HS.out _ HB.out) ?_
   try simp only [Act.put,Pls]
   refine Till.tk 1 3 10 (.int .i64 2) (HS.out _ HB.out) ?_
   try simp only [Act.put,Pls]
   refine Till.tk 2 3 11 (.pointer (some ⟨w.heap.size,0,none⟩)) (HS.out _ HB.out) ?_
   try simp only [Act.put,Pls]
   refine Till.tk 3 4 12 (.pointer (some ⟨w.heap.size,2,none⟩)) (HS.out _ HB.out) ?_
   try simp only [Act.put,Pls]
   refine Till.tk 4 5 13 (.int .i8 n2) (HS.out _ HB.out) ?_
   try simp only [Act.put,Pls]
   refine Till.tk 5 6 14 (.int .i64 n2) (HS.out _ HB.out) ?_
   try simp only [Act.put,Pls]
   refine Till.tk 7 8 16 (.pointer (some ⟨w.heap.size,3,none⟩)) (HS.out _ HB.out) ?_
   try simp only [Act.put,Pls]
   refine Till.tk 8 9 17 (.int .u8 d) (HS.out _ HB.out) ?_
   try simp only [Act.put,Pls]
   refine Till.tk 9 10 18 (.int .u8 r) (HS.out _ HB.out) ?_
   try simp only [Act.put,Pls]
   refine Till.tk 10 11 19 (.int .i64 r) (HS.out _ HB.out) ?_
   try simp only [Act.put,Pls]
   refine Till.tk 11 12 20 (.int .i64 (1+r)) (HS.out _ HB.out) ?_
   try simp only [Act.put,Pls]
   refine Till.one (i:=6) (by kernel_rfl) rfl (fun K hK=>?_)
   go_simp
   refine (HA2.out _).mono ?_
   rintro e v1 ⟨rfl,g⟩
   replace HB:=Lh (below_on HB.out g)
   clear g
   go_wp2_with fail
   refine hK.out _ _ (fun _=>HS.out _ HB.out) ?_
   clear hK K
   try simp only [Pls]
   refine Till.one (i:=12) (by kernel_rfl) rfl (fun K hK=>?_)
   go_simp
   refine (HBB.out _).mono ?_
   rintro e v2 ⟨rfl,g⟩
   replace HB:=Lh (below_on HB.out g)
   clear g
   go_wp2_with fail
   refine hK.out _ _ (fun _=>HS.out _ HB.out) ?_
   clear hK K
   try simp only [Pls]
   refine Till.one (i:=13) (by kernel_rfl) rfl (fun K hK=>?_)
   go_simp
   refine (HC2.out _).mono ?_
   rintro e v3 ⟨rfl,g⟩
   replace HB:=Lh (below_on HB.out g)
   have Cv:=Hc.out.keep HB.out
   have f0:v3.frozen? ⟨w.heap.size+1+1,2,none⟩=false:=Cv.fz 2
   have m0:v3.cell? ⟨w.heap.size+1+1,2,none⟩=some (.string t2):=Cv.at_ 2
   clear Cv
   clear g
   go_wp2_with fail
   refine hK.out _ _ (fun _=>HS.out _ HB.out) ?_
   clear hK K
   try simp only [Pls]
   refine Till.one (i:=14) (by kernel_rfl) rfl (fun K hK=>?_)
   go_simp
   refine hK.out _ _ (fun _=>HS.out _ HB.out) ?_
   clear hK K
   try simp only [Pls]
   refine Till.one (i:=15) (by kernel_rfl) rfl (fun K hK=>?_)
   go_simp
   refine hK.out _ _ (fun h=>absurd h (by simp)) ?_
   clear hK K
   try simp only [Pls]
   refine Till.done (by kernel_rfl) ?_ _
   have hB:=HB.out
   have Hb:=Lh (below_on Hb.out hB)
   have Hb1:=Lh (Hb1.out.trans (hB.mono (Nat.le_trans (show w.heap.size+1≤w.heap.size+3 by omega) Hsz.out)))
   have Hf:=Lh (txtsInv_up (k:=2) (by decide) rfl (Hc.out.keep hB) rfl Hr.out (Hz.out.keep hB) (show w.heap.size<w.heap.size+1+1 by omega) Hb.out)
   have Hg:=Lh (Hb1.out.setCell (p:=⟨w.heap.size+1+1,2,none⟩) (show w.heap.size+1≤w.heap.size+1+1 by omega) (.string c2))
   clear hB
   go_wp2_with fail
   go_roundw
   case rel=>exact ⟨3,3,by decide,rfl,by go_num,Hf.out,Hg.out⟩
   case measure=>simp [intOf]
  ·obtain rfl:z=3:=hzk
   obtain rfl:t0=c0:=by have:=Hr.out 0 c0 (by decide) rfl; simpa using this
   obtain rfl:t1=c1:=by have:=Hr.out 1 c1 (by decide) rfl; simpa using this
   obtain rfl:t2=c2:=by have:=Hr.out 2 c2 (by decide) rfl; simpa using this
   have f0:wr.frozen? ⟨w.heap.size+1,0,none⟩=false:=Hz.out.fz 0
   have z0:wr.cell? ⟨w.heap.size+1,0,none⟩=some (.string ⟨#[]⟩):=Hz.out.at_ 0
   have m0:wr.cell? ⟨w.heap.size+1+1,0,none⟩=some (.string t0):=Hc.out.at_ 0
   have f1:wr.frozen? ⟨w.heap.size+1,1,none⟩=false:=Hz.out.fz 1
   have z1:wr.cell? ⟨w.heap.size+1,1,none⟩=some (.string ⟨#[]⟩):=Hz.out.at_ 1
   have m1:wr.cell? ⟨w.heap.size+1+1,1,none⟩=some (.string t1):=Hc.out.at_ 1
   have f2:wr.frozen? ⟨w.heap.size+1,2,none⟩=false:=Hz.out.fz 2
   have z2:wr.cell? ⟨w.heap.size+1,2,none⟩=some (.string ⟨#[]⟩):=Hz.out.at_ 2
   have m2:wr.cell? ⟨w.heap.size+1+1,2,none⟩=some (.string t2):=Hc.out.at_ 2
   have Hf:=Lh (((Hb.out.setCell (p:=⟨w.heap.size+1,0,none⟩) (Nat.le_succ _) (.string t0)).setCell (p:=⟨w.heap.size+1,1,none⟩) (Nat.le_succ _) (.string t1)).setCell (p:=⟨w.heap.size+1,2,none⟩) (Nat.le_succ _) (.string t2))
   go_wp2
   exact bodyPost_ret (v:= .agg #[.string t0,.string t1,.string t2]) (by simp [results,Tryz.results22,go_sem,z0,z1,z2]) rfl ⟨rfl,Hf.out⟩
end Go.Proofs.YtekhdklbfincpaaGreatDoor
namespace Go.Proofs.YtekhdklbfincpaaGreatDoor
open Go.RowKit
theorem made_any (n0 n1 n2 d r:Int) (w:World) (h:Sm n0 n1 n2 d r) (hg:Good w):Calls Tryz.prog 21 #[smV n0 n1 n2 d] w (NewVec (smallQ n0 r) (smallQ n1 r) (smallQ n2 r) w):=by
 obtain ⟨e0,s0,f0⟩:=small_ok h.x0 h.x1 h.r0 h.r1
 obtain ⟨e1,s1,f1⟩:=small_ok h.y0 h.y1 h.r0 h.r1
 obtain ⟨e2,s2,f2⟩:=small_ok h.z0 h.z1 h.r0 h.r1
 have kb:=((Below.refl w.heap.size w).alloc (Nat.le_refl _) (.cells #[.int .i8 n0,.int .i8 n1,.int .i8 n2,.int .u8 d] 44)).alloc (by simp) (.cells #[.int .i64 0,.pointer none,.int .i64 0,.pointer none,.int .i64 0,.pointer none,.int .i64 0,.pointer none,.int .i64 0,.pointer none,.int .i64 0,.pointer none] 32)
 have C0:=(Cells.new w #[.int .i8 n0,.int .i8 n1,.int .i8 n2,.int .u8 d] 44).keep ((Below.refl _ _).alloc (Nat.le_refl _) (.cells #[.int .i64 0,.pointer none,.int .i64 0,.pointer none,.int .i64 0,.pointer none,.int .i64 0,.pointer none,.int .i64 0,.pointer none,.int .i64 0,.pointer none] 32))
 have C1:=box_vec (w.alloc (.cells #[.int .i8 n0,.int .i8 n1,.int .i8 n2,.int .u8 d] 44)) zero4 zero4 zero4
 simp only [World.size_alloc] at C1
 have HT:=texts_any n0 n1 n2 d r ((w.alloc (.cells #[.int .i8 n0,.int .i8 n1,.int .i8 n2,.int .u8 d] 44)).alloc (.cells #[.int .i64 0,.pointer none,.int .i64 0,.pointer none,.int .i64 0,.pointer none,.int .i64 0,.pointer none,.int .i64 0,.pointer none,.int .i64 0,.pointer none] 32)) h
 obtain ⟨W,hW⟩:∃ u,(w.alloc (.cells #[.int .i8 n0,.int .i8 n1,.int .i8 n2,.int .u8 d] 44)).alloc (.cells #[.int .i64 0,.pointer none,.int .i64 0,.pointer none,.int .i64 0,.pointer none,.int .i64 0,.pointer none,.int .i64 0,.pointer none,.int .i64 0,.pointer none] 32)=u:=⟨_,rfl⟩
 simp only [zero4] at C1
 rw [hW] at kb C0 C1 HT
 have ev:errV 65536 (ratTxt (smallQ n0 r)) (ratTxt (smallQ n1 r)) (ratTxt (smallQ n2 r))=0:=by
  have em:∀ s:ByteArray,s.size≤100→errR s=0→errM 65536 s=0:=fun s h1 h2=>by unfold errM; rw [if_neg (by omega)]; exact h2
  unfold errV
  rw [em _ s0 e0,em _ s1 e1,em _ s2 e2]
  simp
 have HR:=fun w' (hb:Below w.heap.size w w')=>vRead_any (ratTxt (smallQ n0 r)) (ratTxt (smallQ n1 r)) (ratTxt (smallQ n2 r)) w' (by omega) (by omega) (by omega) (hg.below hb)
 unfold VPost at HR
 rw [ev] at HR
 have HQ:=Lh (fun (w':World) (r0 r1 r2:R4) (hr:RatT w' r0 (ratTxt (smallQ n0 r))∧RatT w' r1 (ratTxt (smallQ n1 r))∧RatT w' r2 (ratTxt (smallQ n2 r)))=>(⟨hr.1.at_ rfl,hr.2.1.at_ rfl,hr.2.2.at_ rfl⟩:VecV w' r0 r1 r2 (smallQ n0 r) (smallQ n1 r) (smallQ n2 r)))
 generalize smallQ n0 r=q0 at *
 generalize smallQ n1 r=q1 at *
 generalize smallQ n2 r=q2 at *
 generalize ratTxt q0=c0 at *
 generalize ratTxt q1=c1 at *
 generalize ratTxt q2=c2 at *
 have HR:=Lh HR
 have HT:=Lh HT
 have R:=Lh (show Cells W (w.heap.size+1) (flat [zero4,zero4,zero4]) from C1)
 have Kb:=Lh kb
 have a0:W.cell? ⟨w.heap.size,0,none⟩=some (.int .i8 n0):=C0.at_ 0
 have a1:W.cell? ⟨w.heap.size,1,none⟩=some (.int .i8 n1):=C0.at_ 1
 have a2:W.cell? ⟨w.heap.size,2,none⟩=some (.int .i8 n2):=C0.at_ 2
 have a3:W.cell? ⟨w.heap.size,3,none⟩=some (.int .u8 d):=C0.at_ 3
 clear e0 s0 f0 e1 s1 f1 e2 s2 f2 kb C0 C1 ev h hg
 unfold smV at *
 go_enter Tryz.func21,Tryz.ntmps21
 go_wp2_with fail
 try simp only [hW]
 refine HT.out.mono ?_
 rintro e w1 ⟨rfl,h1⟩
 have R:=Lh (R.out.keep h1)
 have K:=Lh (below_on Kb.out h1)
 clear hW HT h1 a0 a1 a2 a3
 go_wp2_with fail
 refine (refPoint_any c0 c1 c2 _).mono ?_
 rintro e w2 ⟨rfl,h1⟩
 have R:=Lh (R.out.keep h1)
 have K:=Lh (below_on K.out h1)
 clear h1
 go_wp2_with fail
 refine (HR.out _ K.out).mono ?_
 rintro e w3 ⟨r0,r1,r2,rfl,hr,_,h1⟩
 have hv:=HQ.out _ _ _ _ (hr (by trivial))
 have kv:=(Below.refl w3.heap.size w3).alloc (Nat.le_refl _) (.cells #[.int .i64 r0.1,.pointer r0.2.1,.int .i64 r0.2.2.1,.pointer r0.2.2.2,.int .i64 r1.1,.pointer r1.2.1,.int .i64 r1.2.2.1,.pointer r1.2.2.2,.int .i64 r2.1,.pointer r2.2.1,.int .i64 r2.2.2.1,.pointer r2.2.2.2] 32)
 have hV:=VarV.new hv
 have R:=Lh ((R.out.keep h1).keep kv)
 have K:=Lh (below_on (below_on K.out h1) kv)
 obtain ⟨p3,hp3⟩:∃ p,w3.heap.size=p:=⟨_,rfl⟩
 obtain ⟨w4,hw4⟩:∃ u,w3.alloc (.cells #[.int .i64 r0.1,.pointer r0.2.1,.int .i64 r0.2.2.1,.pointer r0.2.2.2,.int .i64 r1.1,.pointer r1.2.1,.int .i64 r1.2.2.1,.pointer r1.2.2.2,.int .i64 r2.1,.pointer r2.2.1,.int .i64 r2.2.2.1,.pointer r2.2.2.2] 32)=u:=⟨_,rfl⟩
 rw [hw4] at R K hV
 rw [hp3] at hV
 have V:=Lh hV
 clear HR HQ hr h1 hv kv hV
 unfold vecVal
 obtain ⟨m0,m1,m2,m3,m4,m5,m6,m7,m8,m9,m10,m11⟩:=Cells.r12 (p:=p3) V.out.cells
 have Hv:=Lh (V.out.vec.wrote R.out (put12_heap w4 _ r0 r1 r2).1 (put12_heap w4 _ r0 r1 r2).2)
 have Hf:=Lh (below_put12 K.out (show w.heap.size≤w.heap.size+1 by omega) r0 r1 r2)
 obtain ⟨z0,z1,z2,z3,z4,z5,z6,z7,z8,z9,z10,z11⟩:=Cells.q12 (p:=w.heap.size+1) R.out
 obtain ⟨f0,f1,f2,f3,f4,f5,f6,f7,f8,f9,f10,f11⟩:=Cells.z12 (p:=w.heap.size+1) R.out
 go_wp2_with fail
 try simp only [hp3,hw4]
 go_wp2
 exact bodyPost_ret (v:=vecVal r0 r1 r2) (by simp [vecVal,results,Tryz.results21,go_sem,z0,z1,z2,z3,z4,z5,z6,z7,z8,z9,z10,z11]) rfl ⟨r0,r1,r2,rfl,Hv.out,Hf.out⟩
end Go.Proofs.YtekhdklbfincpaaGreatDoor
namespace Go.Proofs.YtekhdklbfincpaaGreatDoor
open Go.RowKit
def zeroV (p0 p1 p2:Rat):Bool:=cmpV p0 p1 p2 0 0 0 == 0
def parV (p0 p1 p2 q0 q1 q2:Rat):Bool:=!zeroV p0 p1 p2 && !zeroV q0 q1 q2 && zeroV (p1*q2 - p2*q1) (p2*q0 - p0*q2) (p0*q1 - p1*q0)
theorem Few3.cross {k n:Nat} {p0 p1 p2 q0 q1 q2:Rat} (h:Few3 k p0 p1 p2) (h':Few3 n q0 q1 q2):Few3 (k+n+(k+n)+1) (p1*q2 - p2*q1) (p2*q0 - p0*q2) (p0*q1 - p1*q0):=⟨(h.y.mul h'.z).sub (h.z.mul h'.y),(h.z.mul h'.x).sub (h.x.mul h'.z),(h.x.mul h'.y).sub (h.y.mul h'.x)⟩
theorem vpar_any (x0 x1 x2 y0 y1 y2:R4) (p0 p1 p2 q0 q1 q2:Rat) (k n:Nat) (w:World) (h:VecV w x0 x1 x2 p0 p1 p2) (h':VecV w y0 y1 y2 q0 q1 q2) (f:Few3 k p0 p1 p2) (f':Few3 n q0 q1 q2) (hk:k+n+(k+n)+1≤900) (hg:Good w) :
  Calls Tryz.prog 49 #[vecVal x0 x1 x2,vecVal y0 y1 y2] w fun e w'=>e= .returned (.bool (parV p0 p1 p2 q0 q1 q2))∧Below w.heap.size w w':=by
 have kb:=((Below.refl w.heap.size w).alloc (Nat.le_refl _) (.cells #[.int .i64 x0.1,.pointer x0.2.1,.int .i64 x0.2.2.1,.pointer x0.2.2.2,.int .i64 x1.1,.pointer x1.2.1,.int .i64 x1.2.2.1,.pointer x1.2.2.2,.int .i64 x2.1,.pointer x2.2.1,.int .i64 x2.2.2.1,.pointer x2.2.2.2] 32)).alloc (by simp) (.cells #[.int .i64 y0.1,.pointer y0.2.1,.int .i64 y0.2.2.1,.pointer y0.2.2.2,.int .i64 y1.1,.pointer y1.2.1,.int .i64 y1.2.2.1,.pointer y1.2.2.2,.int .i64 y2.1,.pointer y2.2.1,.int .i64 y2.2.2.1,.pointer y2.2.2.2] 32)
 have C0:=(box_vec w x0 x1 x2).keep ((Below.refl _ _).alloc (Nat.le_refl _) (.cells #[.int .i64 y0.1,.pointer y0.2.1,.int .i64 y0.2.2.1,.pointer y0.2.2.2,.int .i64 y1.1,.pointer y1.2.1,.int .i64 y1.2.2.1,.pointer y1.2.2.2,.int .i64 y2.1,.pointer y2.2.1,.int .i64 y2.2.2.1,.pointer y2.2.2.2] 32))
 have C1:=box_vec (w.alloc (.cells #[.int .i64 x0.1,.pointer x0.2.1,.int .i64 x0.2.2.1,.pointer x0.2.2.2,.int .i64 x1.1,.pointer x1.2.1,.int .i64 x1.2.2.1,.pointer x1.2.2.2,.int .i64 x2.1,.pointer x2.2.1,.int .i64 x2.2.2.1,.pointer x2.2.2.2] 32)) y0 y1 y2
 simp only [World.size_alloc] at C1
 obtain ⟨W,hW⟩:∃ u,(w.alloc (.cells #[.int .i64 x0.1,.pointer x0.2.1,.int .i64 x0.2.2.1,.pointer x0.2.2.2,.int .i64 x1.1,.pointer x1.2.1,.int .i64 x1.2.2.1,.pointer x1.2.2.2,.int .i64 x2.1,.pointer x2.2.1,.int .i64 x2.2.2.1,.pointer x2.2.2.2] 32)).alloc (.cells #[.int .i64 y0.1,.pointer y0.2.1,.int .i64 y0.2.2.1,.pointer y0.2.2.2,.int .i64 y1.1,.pointer y1.2.1,.int .i64 y1.2.2.1,.pointer y1.2.2.2,.int .i64 y2.1,.pointer y2.2.1,.int .i64 y2.2.2.1,.pointer y2.2.2.2] 32)=u:=⟨_,rfl⟩
 rw [hW] at kb C0 C1
 have H1:=fun w' (hb:Below w.heap.size w w')=>vzero_any x0 x1 x2 p0 p1 p2 w' (h.keep hb) (f.mid (by omega))
 have H2:=fun w' (hb:Below w.heap.size w w')=>vzero_any y0 y1 y2 q0 q1 q2 w' (h'.keep hb) (f'.mid (by omega))
 have H3:=Lh (fun w' (hb:Below w.heap.size w w')=>vcross_any x0 x1 x2 y0 y1 y2 p0 p1 p2 q0 q1 q2 k n w' (h.keep hb) (h'.keep hb) f f' (by omega) (hg.below hb))
 have H4:=fun (r0 r1 r2:R4) w' hv=>vzero_any r0 r1 r2 (p1*q2 - p2*q1) (p2*q0 - p0*q2) (p0*q1 - p1*q0) w' hv ((f.cross f').mid hk)
 obtain ⟨z,hz⟩:∃ z,parV p0 p1 p2 q0 q1 q2=z:=⟨_,rfl⟩
 rw [hz]
 unfold parV at hz
 obtain ⟨z1,hz1⟩:∃ z,zeroV p0 p1 p2=z:=⟨_,rfl⟩
 obtain ⟨z2,hz2⟩:∃ z,zeroV q0 q1 q2=z:=⟨_,rfl⟩
 obtain ⟨z3,hz3⟩:∃ z,zeroV (p1*q2 - p2*q1) (p2*q0 - p0*q2) (p0*q1 - p1*q0)=z:=⟨_,rfl⟩
 rw [hz1,hz2,hz3] at hz
 rw [show (cmpV p0 p1 p2 0 0 0 == 0)=z1 from hz1] at H1
 rw [show (cmpV q0 q1 q2 0 0 0 == 0)=z2 from hz2] at H2
 rw [show (cmpV (p1*q2 - p2*q1) (p2*q0 - p0*q2) (p0*q1 - p1*q0) 0 0 0 == 0)=z3 from hz3] at H4
 have H1:=Lh H1
 have H2:=Lh H2
 have H4:=Lh H4
 have Hz:=Lh hz
 have V0:=Lh C0
 have V1:=Lh C1
 have Kb:=Lh kb
 clear h h' f f' hk hg kb C0 C1 hz hz1 hz2 hz3
 obtain ⟨m0,m1,m2,m3,m4,m5,m6,m7,m8,m9,m10,m11⟩:=Cells.r12 (p:=w.heap.size) V0.out
 unfold vecVal at *
 go_enter Tryz.func49,Tryz.ntmps49
 go_wp2_with fail
 try simp only [hW]
 refine (H1.out _ Kb.out).mono ?_
 rintro e w1 ⟨rfl,g⟩
 clear hW m0 m1 m2 m3 m4 m5 m6 m7 m8 m9 m10 m11
 have V0:=Lh (V0.out.keep g)
 have V1:=Lh (V1.out.keep g)
 have K:=Lh (below_on Kb.out g)
 clear g
 cases z1 with
 | true=>
  obtain rfl:z=false:=by have:=Hz.out; simpa using this.symm
  go_wp2
  exact bodyPost_ret (v:= .bool false) (by simp [results,Tryz.results49,go_sem]) rfl ⟨rfl,K.out⟩
 | false=>
  obtain ⟨m0,m1,m2,m3,m4,m5,m6,m7,m8,m9,m10,m11⟩:=Cells.r12 (p:=w.heap.size+1) V1.out
  go_wp2_with fail
  refine (H2.out _ K.out).mono ?_
  rintro e w2 ⟨rfl,g⟩
  clear m0 m1 m2 m3 m4 m5 m6 m7 m8 m9 m10 m11
  have V0:=Lh (V0.out.keep g)
  have V1:=Lh (V1.out.keep g)
  have K:=Lh (below_on K.out g)
  clear g
  cases z2 with
  | true=>
   obtain rfl:z=false:=by have:=Hz.out; simpa using this.symm
   go_wp2
   exact bodyPost_ret (v:= .bool false) (by simp [results,Tryz.results49,go_sem]) rfl ⟨rfl,K.out⟩
  | false=>
   obtain rfl:z=z3:=by have:=Hz.out; simpa using this.symm
   obtain ⟨m0,m1,m2,m3,m4,m5,m6,m7,m8,m9,m10,m11⟩:=Cells.r12 (p:=w.heap.size) V0.out
   obtain ⟨n0,n1,n2,n3,n4,n5,n6,n7,n8,n9,n10,n11⟩:=Cells.r12 (p:=w.heap.size+1) V1.out
   go_wp2_with fail
   refine (H3.out _ K.out).mono ?_
   rintro e w3 ⟨r0,r1,r2,rfl,hv,g⟩
   have K:=Lh (below_on K.out g)
   have H4:=Lh (H4.out r0 r1 r2 w3 hv)
   clear hv g m0 m1 m2 m3 m4 m5 m6 m7 m8 m9 m10 m11 n0 n1 n2 n3 n4 n5 n6 n7 n8 n9 n10 n11
   unfold vecVal at *
   go_wp2_with fail
   refine H4.out.mono ?_
   rintro e w4 ⟨rfl,g⟩
   have K:=Lh (below_on K.out g)
   clear g
   go_wp2
   exact bodyPost_ret (v:= .bool z) (by simp [results,Tryz.results49,go_sem]) rfl ⟨rfl,K.out⟩
end Go.Proofs.YtekhdklbfincpaaGreatDoor
