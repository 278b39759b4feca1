/- GA24: RatB RatG -/
import Derived.Test.YtekhdklbfincpaaGreatDoorGA15
import Derived.Deep.RegionHeld3
import Derived.Test.YtekhdklbfincpaaGreatDoorGA22
import Derived.Test.YtekhdklbfincpaaGreatDoorGA23
import Derived.Test.YtekhdklbfincpaaGreatDoorGA20
set_option maxRecDepth 100000
set_option maxHeartbeats 16000000
namespace Go.Proofs.YtekhdklbfincpaaGreatDoor
open Go.RowKit
def ratTxt (q:Rat):ByteArray:=if q.den=1 then txt q.num else txt q.num ++ ⟨#[47]⟩ ++ txt (q.den:Int)
theorem sgn_denZ (q:Rat):sgn (denZ q.den)=if q.den=1 then 0 else 1:=by
 have:=q.den_pos
 unfold sgn denZ
 by_cases h:q.den=1
 ·rw [if_pos h,if_pos h]; rfl
 ·rw [if_neg h,if_neg h,if_neg (by omega),if_pos (by omega)]
theorem box_rat (w:World) (a:Int) (P:Option Addr) (b:Int) (Q:Option Addr):Cells (w.alloc (.cells #[.int .i64 a,.pointer P,.int .i64 b,.pointer Q] 30)) w.heap.size [.int .i64 a,.pointer P,.int .i64 b,.pointer Q]:=Cells.new w _ _
theorem den_any (a:Int) (P:Option Addr) (b:Int) (Q:Option Addr) (q:Rat) (w:World) (h:RatV w a P b Q q) :
  Calls Tryz.prog 65 #[.agg #[.int .i64 a,.pointer P,.int .i64 b,.pointer Q]] w (NewInt (q.den:Int) w):=by
 have kk:=((Below.refl w.heap.size w).alloc (Nat.le_refl _) (.cells #[.int .i64 a,.pointer P,.int .i64 b,.pointer Q] 30)).alloc (by simp) (.cells #[.int .i64 0,.pointer none] 28)
 have R:=Lh (Cells.new (w.alloc (.cells #[.int .i64 a,.pointer P,.int .i64 b,.pointer Q] 30)) #[.int .i64 0,.pointer none] 28)
 have V:=Lh ((box_rat w a P b Q).keep ((Below.refl _ _).alloc (Nat.le_refl _) (.cells #[.int .i64 0,.pointer none] 28)))
 simp only [World.size_alloc] at R
 have Hd:=Lh (h.den.keep kk)
 have Hs:=Lh (signZ_any _ (denZ q.den) _ (h.den.keep kk))
 rw [sgn_denZ] at Hs
 have Kk:=Lh kk
 clear h kk
 by_cases hd:q.den=1
 ·rw [if_pos hd] at Hs
  rw [hd]
  have Hd1:=Lh hd
  clear hd
  go_enter Tryz.func65,Tryz.ntmps65
  go_wp2_with fail
  refine Hs.out.mono ?_
  rintro e w1 ⟨rfl,h1⟩
  have R:=Lh (R.out.keep h1)
  have K1:=Lh (below_on Kk.out h1)
  clear h1
  go_wp2_with fail
  refine (from_any _ _).mono ?_
  rintro e w2 ⟨rfl,h2⟩
  have R:=Lh (R.out.keep h2)
  have K2:=Lh (below_put2 (below_on K1.out h2) (show w.heap.size≤w.heap.size+1 by omega) (.int .i64 1) (.pointer none))
  have k0:=R.out.c0
  have k1:=R.out.c1
  have f0:=R.out.fz 0
  have f1:=R.out.fz 1
  clear h2
  go_wp2
  exact bodyPost_ret (v:= .agg #[.int .i64 1,.pointer none]) (by simp [results,Tryz.results65,go_sem,k0,k1]) rfl ⟨1,none,rfl,small_int ⟨by decide,by decide⟩,K2.out⟩
 ·rw [if_neg hd] at Hs
  have Hd1:=Lh hd
  clear hd
  go_enter Tryz.func65,Tryz.ntmps65
  go_wp2_with fail
  refine Hs.out.mono ?_
  rintro e w1 ⟨rfl,h1⟩
  have R:=Lh (R.out.keep h1)
  have V:=Lh (V.out.keep h1)
  have K1:=Lh (below_put2 (below_on Kk.out h1) (show w.heap.size≤w.heap.size+1 by omega) (.int .i64 b) (.pointer Q))
  have Hn:=Lh ((Hd.out.keep h1).wrote R.out (by rfl) (put2_heap _ (w.heap.size+1) (.int .i64 b) (.pointer Q)).1 (put2_heap _ _ _ _).2)
  have k0:=R.out.c0
  have k1:=R.out.c1
  have f0:=R.out.fz 0
  have f1:=R.out.fz 1
  have c2:=V.out.c2
  have c3:=V.out.c3
  clear h1
  go_wp2
  exact bodyPost_ret (v:= .agg #[.int .i64 b,.pointer Q]) (by simp [results,Tryz.results65,go_sem,k0,k1]) rfl ⟨b,Q,rfl,by have:=Hn.out; rwa [denZ_ne Hd1.out] at this,K1.out⟩
theorem number_any (a:Int) (P:Option Addr) (b:Int) (Q:Option Addr) (q:Rat) (w:World) (h:RatV w a P b Q q) (hn:q.num.natAbs<ten 3000) (hdl:q.den<ten 3000) (hg:Good w) :
  Calls Tryz.prog 36 #[.agg #[.int .i64 a,.pointer P,.int .i64 b,.pointer Q]] w fun e w'=>e= .returned (.string (ratTxt q))∧Below w.heap.size w w':=by
 have kk:=(Below.refl w.heap.size w).alloc (Nat.le_refl _) (.cells #[.int .i64 a,.pointer P,.int .i64 b,.pointer Q] 30)
 have V:=Lh (box_rat w a P b Q)
 have Hv:=Lh (h.keep kk)
 have Hs:=Lh (signZ_any _ (denZ q.den) _ (h.den.keep kk))
 rw [sgn_denZ] at Hs
 have Kk:=Lh kk
 have Hw:=Lh (fun w' (hb:Below w.heap.size w w')=>(hg.below hb).1)
 clear h kk hg
 by_cases hd:q.den=1
 ·rw [if_pos hd] at Hs
  have Hq:=Lh (show ratTxt q=txt q.num by unfold ratTxt; rw [if_pos hd])
  rw [Hq.out]
  clear hd hn hdl
  obtain ⟨T,hT⟩:∃ T,txt q.num=T:=⟨_,rfl⟩
  rw [hT]
  have HT0:=Lh hT
  clear hT
  go_enter Tryz.func36,Tryz.ntmps36
  go_wp2_with fail
  refine Hs.out.mono ?_
  rintro e w1 ⟨rfl,h1⟩
  have V:=Lh (V.out.keep h1)
  have K1:=Lh (below_on Kk.out h1)
  have HT:=Lh (show Calls Tryz.prog 79 _ w1 (fun e w2=>e= .returned (.string (txt q.num))∧Below w1.heap.size w1 w2) from textZ_any _ q.num w1 (Hv.out.keep h1).num (Hw.out _ K1.out))
  have c0:=V.out.c0
  have c1:=V.out.c1
  rw [HT0.out] at HT
  clear h1
  go_wp2_with fail
  refine HT.out.mono ?_
  rintro e w2 ⟨rfl,h2⟩
  have K2:=Lh (below_on K1.out h2)
  clear h2
  go_wp2
  go_ret
  exact ⟨rfl,K2.out⟩
 ·rw [if_neg hd] at Hs
  have Hq:=Lh (show ratTxt q=txt q.num ++ ⟨#[47]⟩ ++ txt (q.den:Int) by unfold ratTxt; rw [if_neg hd])
  rw [Hq.out]
  have s1:=txt_size q.num hn (by decide)
  have s2:=txt_size (q.den:Int) (k:=3000) (by rw [Int.natAbs_natCast]; exact hdl) (by decide)
  have Hd1:=Lh hd
  clear hd hn hdl
  obtain ⟨T,hT⟩:∃ T,txt q.num=T:=⟨_,rfl⟩
  obtain ⟨U,hU⟩:∃ U,txt (q.den:Int)=U:=⟨_,rfl⟩
  rw [hT] at s1 ⊢
  rw [hU] at s2 ⊢
  have HT:=Lh hT
  have HU:=Lh hU
  clear hT hU
  go_enter Tryz.func36,Tryz.ntmps36
  go_wp2_with fail
  refine Hs.out.mono ?_
  rintro e w1 ⟨rfl,h1⟩
  have V:=Lh (V.out.keep h1)
  have Hv:=Lh (Hv.out.keep h1)
  have K1:=Lh (below_on Kk.out h1)
  have HA:=Lh (fun w' (hb:Below w1.heap.size w1 w')=>show Calls Tryz.prog 79 _ w' (fun e w2=>e= .returned (.string (txt q.num))∧Below w'.heap.size w' w2) from textZ_any _ q.num w' (Hv.out.keep hb).num (Hw.out _ (below_on K1.out hb)))
  have HB:=Lh (fun w' (hb:Below w1.heap.size w1 w')=>show Calls Tryz.prog 79 _ w' (fun e w2=>e= .returned (.string (txt (q.den:Int)))∧Below w'.heap.size w' w2) from by
   have:=textZ_any _ (denZ q.den) w' (Hv.out.keep hb).den (Hw.out _ (below_on K1.out hb))
   rwa [denZ_ne Hd1.out] at this)
  simp only [HT.out] at HA
  simp only [HU.out] at HB
  have cat1:∀ W:World,(Op.stringOp .add T ⟨#[47]⟩).run Tryz.prog W= .ok (.string (T ++ ⟨#[47]⟩)) W:=fun W=>run_string_add_sum W _ _ (by show T.size+1≤_; omega)
  have cat2:∀ W:World,(Op.stringOp .add (T ++ ⟨#[47]⟩) U).run Tryz.prog W= .ok (.string (T ++ ⟨#[47]⟩ ++ U)) W:=fun W=>run_string_add_sum W _ _ (by rw [ByteArray.size_append]; show T.size+1+U.size≤_; omega)
  have HS:=Lh (fun w' (hb:Below w1.heap.size w1 w')=>(⟨(V.out.keep hb).c0,(V.out.keep hb).c1,(V.out.keep hb).c2,(V.out.keep hb).c3,hb⟩:w'.cell? ⟨w.heap.size,0,none⟩=some (.int .i64 a)∧w'.cell? ⟨w.heap.size,1,none⟩=some (.pointer P)∧w'.cell? ⟨w.heap.size,2,none⟩=some (.int .i64 b)∧w'.cell? ⟨w.heap.size,3,none⟩=some (.pointer Q)∧Below w1.heap.size w1 w'))
  clear h1
  go_wp2_with fail
  go_region_held3 (fun w'=>w'.cell? ⟨w.heap.size,0,none⟩=some (.int .i64 a)∧w'.cell? ⟨w.heap.size,1,none⟩=some (.pointer P)∧w'.cell? ⟨w.heap.size,2,none⟩=some (.int .i64 b)∧w'.cell? ⟨w.heap.size,3,none⟩=some (.pointer Q)∧Below w1.heap.size w1 w')
   (first
    | assumption
    | exact HS.out _ (Below.refl _ _).drew)
   (first
    | (go_at_call_of 79 P; refine (HA.out _ (And.right (And.right (And.right (And.right (by assumption)))))).mono ?_; rintro e w' ⟨rfl,hb⟩; have hk1:=HS.out _ (below_on (And.right (And.right (And.right (And.right (by assumption))))) hb))
    | (go_at_call_of 79 Q; refine (HB.out _ (And.right (And.right (And.right (And.right (by assumption)))))).mono ?_; rintro e w' ⟨rfl,hb⟩; have hk2:=HS.out _ (below_on (And.right (And.right (And.right (And.right (by assumption))))) hb)))
  all_goals
   go_split_ands
   have hfin:Below w1.heap.size w1 w':=by assumption
   have Hfin:=Lh (below_on K1.out hfin)
   clear hfin
   go_wp2
   go_ret
   exact ⟨rfl,Hfin.out⟩
theorem dm_ediv {z g q r:Int} (hg:0<g) (h:DM z g q r):q=z / g:=by
 obtain ⟨h1,h2⟩:=h
 have hr:0≤r∧r<g:=by omega
 rw [h1,Int.add_comm,Int.add_mul_ediv_right _ _ (by omega),Int.ediv_eq_zero_of_lt hr.1 hr.2,Int.zero_add]
theorem quotient_any (a:Int) (P:Option Addr) (b:Int) (Q:Option Addr) (z g:Int) (w:World) (h:IsInt 0 w (.agg #[.int .i64 a,.pointer P]) z) (h':IsInt 0 w (.agg #[.int .i64 b,.pointer Q]) g) (hg:0<g) (hlz:z.natAbs<base 390) (hlg:g.natAbs<base 390) :
  Calls Tryz.prog 94 #[.agg #[.int .i64 a,.pointer P],.agg #[.int .i64 b,.pointer Q]] w (NewInt (z / g) w):=by
 have kk:=(((Below.refl w.heap.size w).alloc (Nat.le_refl _) (.cells #[.int .i64 a,.pointer P] 28)).alloc (by simp) (.cells #[.int .i64 b,.pointer Q] 28)).alloc (by simp; omega) (.cells #[.int .i64 0,.pointer none] 28)
 have V0:=Lh (((Cells.new w #[.int .i64 a,.pointer P] 28).keep ((Below.refl _ _).alloc (Nat.le_refl _) (.cells #[.int .i64 b,.pointer Q] 28))).keep ((Below.refl _ _).alloc (Nat.le_refl _) (.cells #[.int .i64 0,.pointer none] 28)))
 have V1:=Lh ((Cells.new (w.alloc (.cells #[.int .i64 a,.pointer P] 28)) #[.int .i64 b,.pointer Q] 28).keep ((Below.refl _ _).alloc (Nat.le_refl _) (.cells #[.int .i64 0,.pointer none] 28)))
 have R:=Lh (Cells.new ((w.alloc (.cells #[.int .i64 a,.pointer P] 28)).alloc (.cells #[.int .i64 b,.pointer Q] 28)) #[.int .i64 0,.pointer none] 28)
 simp only [World.size_alloc] at V1 R
 have Hz:=Lh (h.keep kk)
 have Hone:=Lh (isOne_any b Q g _ (h'.keep kk))
 have HD:=Lh (fun w' (hb:Below w.heap.size w w')=>divmod_any a b P Q z g w' (h.keep hb) (h'.keep hb) (by omega) hlz hlg)
 have Kk:=Lh kk
 have Hg:=Lh hg
 clear h h' kk hg hlz hlg
 by_cases h1:g=1
 ·rw [decide_eq_true h1] at Hone
  have Hfin:=Lh (show z / g=z by rw [h1,Int.ediv_one])
  rw [Hfin.out]
  clear h1
  go_enter Tryz.func94,Tryz.ntmps94
  go_wp2_with fail
  refine Hone.out.mono ?_
  rintro e w1 ⟨rfl,h1⟩
  have V0:=Lh (V0.out.keep h1)
  have R:=Lh (R.out.keep h1)
  have Hn:=Lh ((Hz.out.keep h1).wrote R.out (by rfl) (put2_heap _ (w.heap.size+1+1) (.int .i64 a) (.pointer P)).1 (put2_heap _ _ _ _).2)
  have K1:=Lh (below_put2 (below_on Kk.out h1) (show w.heap.size≤w.heap.size+1+1 by omega) (.int .i64 a) (.pointer P))
  clear h1
  have c0:=V0.out.c0
  have c1:=V0.out.c1
  have k0:=R.out.c0
  have k1:=R.out.c1
  have f0:=R.out.fz 0
  have f1:=R.out.fz 1
  go_wp2
  exact bodyPost_ret (v:= .agg #[.int .i64 a,.pointer P]) (by simp [results,Tryz.results94,go_sem,k0,k1]) rfl ⟨a,P,rfl,Hn.out,K1.out⟩
 ·rw [decide_eq_false h1] at Hone
  clear h1
  go_enter Tryz.func94,Tryz.ntmps94
  go_wp2_with fail
  refine Hone.out.mono ?_
  rintro e w1 ⟨rfl,h1⟩
  have V0:=Lh (V0.out.keep h1)
  have V1:=Lh (V1.out.keep h1)
  have R:=Lh (R.out.keep h1)
  have K1:=Lh (below_on Kk.out h1)
  clear h1
  have c0:=V0.out.c0
  have c1:=V0.out.c1
  have d0:=V1.out.c0
  have d1:=V1.out.c1
  go_wp2_with fail
  refine (HD.out _ K1.out).mono ?_
  rintro e n1 ⟨qa,qP,ra,rP,q,r,rfl,hi,hj,hdm,g1⟩
  have hq:=dm_ediv Hg.out hdm
  have k3:=((Below.refl n1.heap.size n1).alloc (Nat.le_refl _) (.cells #[.int .i64 qa,.pointer qP] 28)).alloc (by simp) (.cells #[.int .i64 ra,.pointer rP] 28)
  have R:=Lh ((R.out.keep g1).keep k3)
  have Hn:=Lh ((hi.keep k3).wrote R.out (by rfl) (put2_heap _ (w.heap.size+1+1) (.int .i64 qa) (.pointer qP)).1 (put2_heap _ _ _ _).2)
  have K2:=Lh (below_put2 (below_on (below_on K1.out g1) k3) (show w.heap.size≤w.heap.size+1+1 by omega) (.int .i64 qa) (.pointer qP))
  rw [hq] at Hn
  clear g1 hi hj hdm hq k3 c0 c1 d0 d1
  have k0:=R.out.c0
  have k1:=R.out.c1
  have f0:=R.out.fz 0
  have f1:=R.out.fz 1
  go_wp2
  exact bodyPost_ret (v:= .agg #[.int .i64 qa,.pointer qP]) (by simp [results,Tryz.results94,go_sem,k0,k1]) rfl ⟨qa,qP,rfl,Hn.out,K2.out⟩
def Made (q:Rat) (w:World) (e:Ending) (w':World):Prop:=
 ∃ (a:Int) (P:Option Addr) (b:Int) (Q:Option Addr),e= .returned (.tuple #[.agg #[.int .i64 a,.pointer P,.int .i64 b,.pointer Q],.int .i64 0])∧RatV w' a P b Q q∧Below w.heap.size w w'
theorem make_pos (a:Int) (P:Option Addr) (b:Int) (Q:Option Addr) (z:Int) (kn:Nat) (w:World) (h:IsInt 0 w (.agg #[.int .i64 a,.pointer P]) z) (h':IsInt 0 w (.agg #[.int .i64 b,.pointer Q]) (kn:Int)) (hkp:0<kn) (hlz:z.natAbs<base 390) (hlk:((kn:Nat):Int).natAbs<base 390) (hg:Good w) :
  Calls Tryz.prog 87 #[.agg #[.int .i64 a,.pointer P],.agg #[.int .i64 b,.pointer Q]] w (Made (Rat.divInt z kn) w):=by
 have kk:=(((Below.refl w.heap.size w).alloc (Nat.le_refl _) (.cells #[.int .i64 a,.pointer P] 28)).alloc (by simp) (.cells #[.int .i64 b,.pointer Q] 28)).alloc (by simp; omega) (.cells #[.int .i64 0,.pointer none,.int .i64 0,.pointer none] 30)
 have V0:=Lh (((Cells.new w #[.int .i64 a,.pointer P] 28).keep ((Below.refl _ _).alloc (Nat.le_refl _) (.cells #[.int .i64 b,.pointer Q] 28))).keep ((Below.refl _ _).alloc (Nat.le_refl _) (.cells #[.int .i64 0,.pointer none,.int .i64 0,.pointer none] 30)))
 have V1:=Lh ((Cells.new (w.alloc (.cells #[.int .i64 a,.pointer P] 28)) #[.int .i64 b,.pointer Q] 28).keep ((Below.refl _ _).alloc (Nat.le_refl _) (.cells #[.int .i64 0,.pointer none,.int .i64 0,.pointer none] 30)))
 have R:=Lh (Cells.new ((w.alloc (.cells #[.int .i64 a,.pointer P] 28)).alloc (.cells #[.int .i64 b,.pointer Q] 28)) #[.int .i64 0,.pointer none,.int .i64 0,.pointer none] 30)
 simp only [World.size_alloc] at V1 R
 have Hz:=Lh (h.keep kk)
 have Hk:=Lh (h'.keep kk)
 have Hs:=Lh (signZ_any _ (kn:Int) _ (h'.keep kk))
 rw [show sgn (kn:Int)=1 by unfold sgn; rw [if_neg (by omega),if_pos (by omega)]] at Hs
 have Kk:=Lh kk
 have Lz:=Lh hlz
 have Lk:=Lh hlk
 have Hkp:=Lh hkp
 have Hw:=Lh (fun w' (hb:Below w.heap.size w w')=>hg.below hb)
 obtain ⟨qt,hqt⟩:∃ q,Rat.divInt z kn=q:=⟨_,rfl⟩
 rw [hqt]
 have Hqt:=Lh hqt.symm
 have d0:=V1.out.c0
 have d1:=V1.out.c1
 clear h h' kk hkp hlz hlk hg hqt
 go_enter Tryz.func87,Tryz.ntmps87
 go_wp2_with fail
 refine Hs.out.mono ?_
 rintro e wt ⟨rfl,h1⟩
 have V0:=Lh (V0.out.keep h1)
 have V1:=Lh (V1.out.keep h1)
 have R:=Lh (R.out.keep h1)
 have Hz:=Lh (Hz.out.keep h1)
 have Hk:=Lh (Hk.out.keep h1)
 have Kt:=Lh (below_on Kk.out h1)
 clear h1 d0 d1
 have HG:=Lh (gcd_any a b P Q z (kn:Int) wt Hz.out Hk.out (base_up Lz.out (by decide)) (base_up Lk.out (by decide)) (Hw.out _ Kt.out).2 (Nat.lt_of_le_of_lt (Nat.zero_le _) V0.out.lt))
 rw [Int.natAbs_natCast] at HG
 obtain ⟨g,hge⟩:∃ g,Nat.gcd (z).natAbs kn=g:=⟨_,rfl⟩
 rw [hge] at HG
 obtain ⟨hqn,hqd⟩:=rat_make (n:=z) (k:=kn) Hkp.out
 rw [hge] at hqn hqd
 have hgp:0<g:=by rw [← hge]; exact Nat.gcd_pos_of_pos_right _ Hkp.out
 have hgl:g<base 390:=by rw [← hge]; exact Nat.lt_of_le_of_lt (Nat.gcd_le_right _ Hkp.out) (by have:=Lk.out; rwa [Int.natAbs_natCast] at this)
 have Hqn:=Lh hqn
 have Hqd:=Lh (show (((Rat.divInt z kn).den:Nat):Int)=(kn:Int) / (g:Int) by rw [hqd]; exact Int.natCast_ediv _ _)
 have Hgp:=Lh hgp
 have Hgl:=Lh (show ((g:Nat):Int).natAbs<base 390 by rw [Int.natAbs_natCast]; exact hgl)
 obtain ⟨q,hqq⟩:∃ q,Rat.divInt z kn=q:=⟨_,rfl⟩
 rw [hqq] at Hqn Hqd Hqt
 clear hge hqn hqd hgp hgl hqq
 have c0:=V0.out.c0
 have c1:=V0.out.c1
 have d0:=V1.out.c0
 have d1:=V1.out.c1
 go_wp2_with fail
 refine HG.out.mono ?_
 rintro e n1 ⟨ga,gP,rfl,hig,g1⟩
 have k3:=(Below.refl n1.heap.size n1).alloc (Nat.le_refl _) (.cells #[.int .i64 ga,.pointer gP] 28)
 have G0:=Lh (Cells.new n1 #[.int .i64 ga,.pointer gP] 28)
 have V0:=Lh ((V0.out.keep g1).keep k3)
 have V1:=Lh ((V1.out.keep g1).keep k3)
 have R:=Lh ((R.out.keep g1).keep k3)
 have Hz:=Lh ((Hz.out.keep g1).keep k3)
 have Hk:=Lh ((Hk.out.keep g1).keep k3)
 have Hig:=Lh (hig.keep k3)
 have Ku:=Lh (below_on (below_on Kt.out g1) k3)
 obtain ⟨pg,hpg⟩:∃ p,n1.heap.size=p:=⟨_,rfl⟩
 obtain ⟨wu,hwu⟩:∃ wu,n1.alloc (.cells #[.int .i64 ga,.pointer gP] 28)=wu:=⟨_,rfl⟩
 rw [hwu] at G0 V0 V1 R Hz Hk Hig Ku
 rw [hpg] at G0
 clear g1 hig k3 c0 c1 d0 d1
 have HS:=Lh (fun v (hb:Below wu.heap.size wu v)=>(⟨(V0.out.keep hb).c0,(V0.out.keep hb).c1,(V1.out.keep hb).c0,(V1.out.keep hb).c1,(G0.out.keep hb).c0,(G0.out.keep hb).c1⟩:v.cell? ⟨w.heap.size,0,none⟩=some (.int .i64 a)∧v.cell? ⟨w.heap.size,1,none⟩=some (.pointer P)∧v.cell? ⟨w.heap.size+1,0,none⟩=some (.int .i64 b)∧v.cell? ⟨w.heap.size+1,1,none⟩=some (.pointer Q)∧v.cell? ⟨pg,0,none⟩=some (.int .i64 ga)∧v.cell? ⟨pg,1,none⟩=some (.pointer gP)))
 have HA:=Lh (fun v (hb:Below wu.heap.size wu v)=>quotient_any a P ga gP z (g:Int) v (Hz.out.keep hb) (Hig.out.keep hb) (by have:=Hgp.out; omega) Lz.out Hgl.out)
 have HB:=Lh (fun v (hb:Below wu.heap.size wu v)=>quotient_any b Q ga gP (kn:Int) (g:Int) v (Hk.out.keep hb) (Hig.out.keep hb) (by have:=Hgp.out; omega) Lk.out Hgl.out)
 go_wp2_with fail
 try simp only [hpg,hwu]
 clear hpg hwu
 refine Till.begin 7 (fun v=>v.cell? ⟨w.heap.size,0,none⟩=some (.int .i64 a)∧v.cell? ⟨w.heap.size,1,none⟩=some (.pointer P)∧v.cell? ⟨w.heap.size+1,0,none⟩=some (.int .i64 b)∧v.cell? ⟨w.heap.size+1,1,none⟩=some (.pointer Q)∧v.cell? ⟨pg,0,none⟩=some (.int .i64 ga)∧v.cell? ⟨pg,1,none⟩=some (.pointer gP)) (by kernel_rfl) (HS.out _ (Below.refl _ _).drew) (fun hH=>?_)
 refine Till.tk 0 2 21 (.agg #[.int .i64 a,.pointer P]) hH ?_
 try simp only [Act.put,Pls]
 refine Till.tk 1 2 22 (.agg #[.int .i64 ga,.pointer gP]) hH ?_
 try simp only [Act.put,Pls]
 refine Till.tk 3 5 24 (.agg #[.int .i64 b,.pointer Q]) hH ?_
 try simp only [Act.put,Pls]
 refine Till.tk 4 5 25 (.agg #[.int .i64 ga,.pointer gP]) hH ?_
 try simp only [Act.put,Pls]
 clear hH
 refine Till.one (i:=2) (by kernel_rfl) rfl (fun K hK=>?_)
 go_simp
 refine (HA.out _ (Below.refl _ _).drew).mono ?_
 rintro e v1 ⟨xa,xP,rfl,hx,g1⟩
 have B1:=Lh (below_on (Below.refl wu.heap.size wu).drew g1)
 have Hx1:=Lh hx
 clear g1 hx
 go_wp2_with fail
 refine hK.out _ _ (fun _=>HS.out _ B1.out) ?_
 clear hK K
 try simp only [Act.put,Pls]
 refine Till.one (i:=5) (by kernel_rfl) rfl (fun K hK=>?_)
 go_simp
 refine (HB.out _ B1.out).mono ?_
 rintro e v2 ⟨ya,yP,rfl,hy,g2⟩
 have B2:=Lh (below_on B1.out g2)
 have Hx2:=Lh (Hx1.out.keep g2)
 have Hy2:=Lh hy
 rw [← Hqn.out] at Hx2
 rw [← Hqd.out] at Hy2
 clear g2 hy
 have HO:=Lh (of_any xa xP ya yP q v2 Hx2.out Hy2.out)
 go_wp2_with fail
 refine hK.out _ _ (fun _=>HS.out _ B2.out) ?_
 clear hK K
 try simp only [Act.put,Pls]
 refine Till.one (i:=6) (by kernel_rfl) rfl (fun K hK=>?_)
 go_simp
 refine (HO.out).mono ?_
 rintro e v3 ⟨oa,oP,ob,oQ,rfl,ho,g3⟩
 have B3:=Lh (below_on B2.out g3)
 have Ho:=Lh ho
 clear g3 ho
 go_wp2_with fail
 refine hK.out _ _ (fun _=>HS.out _ B3.out) ?_
 clear hK K
 try simp only [Act.put,Pls]
 have R:=Lh (R.out.keep B3.out)
 have k0:=R.out.c0
 have k1:=R.out.c1
 have k2:=R.out.c2
 have k3:=R.out.c3
 have f0:=R.out.fz 0
 have f1:=R.out.fz 1
 have f2:=R.out.fz 2
 have f3:=R.out.fz 3
 refine Till.one (i:=7) (by kernel_rfl) rfl (fun K hK=>?_)
 go_simp
 refine hK.out _ _ (fun h=>absurd h (by simp)) ?_
 clear hK K
 try simp only [Act.put,Pls]
 refine Till.one (i:=8) (by kernel_rfl) rfl (fun K hK=>?_)
 go_simp
 refine hK.out _ _ (fun h=>absurd h (by simp)) ?_
 clear hK K
 try simp only [Act.put,Pls]
 refine Till.done (by kernel_rfl) ?_ _
 have Hfin:=Lh (Ho.out.wrote R.out (by rfl) (put4_heap v3 (w.heap.size+1+1) (.int .i64 oa) (.pointer oP) (.int .i64 ob) (.pointer oQ)).1 (put4_heap _ _ _ _ _ _).2)
 have Kf:=Lh (below_put4 (below_on Ku.out B3.out) (show w.heap.size≤w.heap.size+1+1 by omega) (.int .i64 oa) (.pointer oP) (.int .i64 ob) (.pointer oQ))
 go_wp2
 exact bodyPost_ret (v:= .tuple #[.agg #[.int .i64 oa,.pointer oP,.int .i64 ob,.pointer oQ],.int .i64 0]) (by simp [results,Tryz.results87,go_sem,k0,k1,k2,k3]) rfl ⟨oa,oP,ob,oQ,rfl,by rw [Hqt.out]; exact Hfin.out,Kf.out⟩
end Go.Proofs.YtekhdklbfincpaaGreatDoor
namespace Go.Proofs.YtekhdklbfincpaaGreatDoor
open Go.RowKit
theorem txt_plain (z:Int):∀ c ∈ (txt z).data.toList,c≠47:=by
 by_cases h:z=0
 ·subst h
  rw [txt_zero]
  intro c hc
  have:c=48:=by simpa using hc
  rw [this]; decide
 ·rw [txt_ne h,nums_data]
  intro c hc
  obtain ⟨n,hn,rfl⟩:=List.mem_map.1 hc
  rcases List.mem_append.1 hn with hn | hn
  ·split at hn
   ·rw [List.mem_singleton.1 hn]; decide
   ·cases hn
  ·obtain ⟨d,hd,rfl⟩:=List.mem_map.1 hn
   have hdm:=dig_digN z.natAbs d (List.mem_reverse.1 hd)
   intro e
   have e2:=congrArg UInt8.toNat e
   rw [UInt8.toNat_ofNat'] at e2
   simp at e2
   omega
theorem slash_any (s:ByteArray) (k:Nat) (w:World) (hs:s.size≤9223372036854775807) (hk:k≤s.size) (hno:∀ j c,j<k→s.data.toList[j]?=some c→c≠47) (hat:∀ c,s.data.toList[k]?=some c→c=47) :
  Calls Tryz.prog 101 #[.string s] w fun e w'=>e= .returned (.int .i64 (k:Nat))∧w=w':=by
 have Hno:=Lh hno
 have Hat:=Lh hat
 clear hno hat
 go_enter Tryz.func101,Tryz.ntmps101
 go_wp2_with fail
 go_loop [3] (fun i=>∃ j:Nat,j≤k∧i= .int .i64 j) (fun i=>s.size - (intOf i).toNat)
 case atStart=>exact ⟨0,Nat.zero_le _,rfl⟩
 case round=>
  obtain ⟨j,hj,rfl⟩:=hrel
  by_cases hlt:j<k
  ·have hjs:j<s.size:=by omega
   have hne:=Hno.out j s[j] hlt (str_at hjs)
   obtain ⟨x,hx⟩:∃ x,(s[j]).toNat=x:=⟨_,rfl⟩
   have t0:((x:Int) == 47)=false:=by
    rw [beq_eq_false_iff_ne]
    intro e
    apply hne
    apply UInt8.toNat_inj.1
    rw [hx]
    show x=47
    omega
   clear hne
   go_wp2
   go_round
   case rel=>exact ⟨j+1,by omega,by go_num⟩
   case measure=>simp [intOf]; omega
  ·obtain rfl:j=k:=by omega
   by_cases hjs:j<s.size
   ·have he:=Hat.out s[j] (str_at hjs)
    have hx:(s[j]).toNat=47:=by rw [he]; rfl
    clear he
    go_wp2
    go_ret
    exact ⟨rfl,rfl⟩
   ·have e:j=s.size:=by omega
    have He:=Lh e
    clear e
    go_wp2
    go_ret
    exact ⟨by rw [He.out]; rfl,rfl⟩
theorem cut_left (T U:ByteArray):(T ++ ⟨#[47]⟩ ++ U).extract 0 T.size=T:=by
 apply ByteArray.ext
 simp [ByteArray.data_append,ByteArray.data_extract]
theorem cut_right (T U:ByteArray):(T ++ ⟨#[47]⟩ ++ U).extract (T.size+1) (T ++ ⟨#[47]⟩ ++ U).size=U:=by
 apply ByteArray.ext
 apply Array.toList_inj.1
 rw [extract_data]
 have e:(T ++ ⟨#[47]⟩ ++ U).data.toList=(T.data.toList ++ [47]) ++ U.data.toList:=by simp [ByteArray.data_append]
 rw [e]
 exact List.drop_left' (by rw [List.length_append,str_len]; rfl)
theorem parts_int (z:Int) (w:World) (hs:(txt z).size≤5000) :
  Calls Tryz.prog 76 #[.string (txt z)] w fun e w'=>e= .returned (.tuple #[.string (txt z),.string ⟨#[49]⟩])∧w=w':=by
 have HS:=Lh (fun w=>slash_any (txt z) (txt z).size w (by omega) (Nat.le_refl _) (fun j c _ h=>txt_plain z c (List.mem_of_getElem? h)) (fun c h=>by
  rw [List.getElem?_eq_none (by rw [str_len]; exact Nat.le_refl _)] at h; cases h))
 obtain ⟨S,hS⟩:∃ S,txt z=S:=⟨_,rfl⟩
 rw [hS] at HS hs ⊢
 clear hS
 go_enter Tryz.func76,Tryz.ntmps76
 go_wp2_with fail
 refine (HS.out _).mono ?_
 rintro e w1 ⟨rfl,rfl⟩
 go_wp2
 go_ret2
 exact ⟨rfl,rfl⟩
theorem parts_frac (n d:Int) (w:World) (hs:(txt n).size≤5000) (ht:(txt d).size≤5000) :
  Calls Tryz.prog 76 #[.string (txt n ++ ⟨#[47]⟩ ++ txt d)] w fun e w'=>e= .returned (.tuple #[.string (txt n),.string (txt d)])∧Below w.heap.size w w':=by
 have hsz:(txt n ++ ⟨#[47]⟩ ++ txt d).size=(txt n).size+1+(txt d).size:=by rw [ByteArray.size_append,ByteArray.size_append]; rfl
 have hdata:(txt n ++ ⟨#[47]⟩ ++ txt d).data.toList=(txt n).data.toList ++ 47 :: (txt d).data.toList:=by simp [ByteArray.data_append]
 have HS:=Lh (fun w=>slash_any (txt n ++ ⟨#[47]⟩ ++ txt d) (txt n).size w (by omega) (by omega) (fun j c hj h=>by
  rw [hdata,List.getElem?_append_left (by rw [str_len]; exact hj)] at h
  exact txt_plain n c (List.mem_of_getElem? h)) (fun c h=>by
  rw [hdata,List.getElem?_append_right (by rw [str_len]; exact Nat.le_refl _),str_len,Nat.sub_self] at h
  simpa using h.symm))
 have hl:=cut_left (txt n) (txt d)
 have hr:=cut_right (txt n) (txt d)
 obtain ⟨T,hT⟩:∃ T,txt n=T:=⟨_,rfl⟩
 obtain ⟨U,hU⟩:∃ U,txt d=U:=⟨_,rfl⟩
 rw [hT,hU] at hl hr hsz HS
 rw [hT] at hs
 rw [hU] at ht
 rw [hT,hU]
 obtain ⟨S,hS⟩:∃ S,T ++ ⟨#[47]⟩ ++ U=S:=⟨_,rfl⟩
 rw [hS] at hl hr hsz HS ⊢
 have hle:T.size≤S.size:=by omega
 have hle1:T.size+1≤S.size:=by omega
 have hS5:S.size≤10001:=by omega
 have t0:((T.size:Int) == (S.size:Int))=false:=by rw [beq_eq_false_iff_ne]; omega
 have Hl:=Lh hl
 have Hr:=Lh hr
 clear hdata hT hU hS hsz
 go_enter Tryz.func76,Tryz.ntmps76
 go_wp2_with fail
 refine (HS.out _).mono ?_
 rintro e w1 ⟨rfl,rfl⟩
 go_wp2_with fail
 go_region
 all_goals
  go_wp2
  go_ret2
  exact ⟨rfl,(Below.refl _ _).drew⟩
theorem refParts_any (q:Rat) (w:World) (hs:(txt q.num).size≤5000) (ht:(txt (q.den:Int)).size≤5000) :
  Calls Tryz.prog 76 #[.string (ratTxt q)] w fun e w'=>e= .returned (.tuple #[.string (txt q.num),.string (txt (q.den:Int))])∧Below w.heap.size w w':=by
 unfold ratTxt
 by_cases h:q.den=1
 ·rw [if_pos h,h]
  refine (parts_int q.num w hs).mono ?_
  rintro e w' ⟨rfl,rfl⟩
  exact ⟨by rw [show txt ((1:Nat):Int)=⟨#[49]⟩ from txt_1],Below.refl _ _⟩
 ·rw [if_neg h]
  exact parts_frac q.num q.den w hs ht
end Go.Proofs.YtekhdklbfincpaaGreatDoor
