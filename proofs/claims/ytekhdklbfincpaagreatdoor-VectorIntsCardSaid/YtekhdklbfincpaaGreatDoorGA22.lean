/- GA22: GcdZ -/
import Derived.Test.YtekhdklbfincpaaGreatDoorGA21
import Derived.Test.YtekhdklbfincpaaGreatDoorGA14
set_option maxRecDepth 100000
set_option maxHeartbeats 16000000
namespace Go.Proofs.YtekhdklbfincpaaGreatDoor
open Go.RowKit
theorem gcd_large (a b:Int) (p:Nat) (Q:Option Addr) (z k:Int) (w:World) (h:IsInt 0 w (.agg #[.int .i64 a,.pointer (some ⟨p,0,none⟩)]) z) (h':IsInt 0 w (.agg #[.int .i64 b,.pointer Q]) k) (hlz:z.natAbs<base 400) (hlk:k.natAbs<base 400) (ht:TabTz w) (hw0:TzG<w.heap.size) :
  Calls Tryz.prog 83 #[.agg #[.int .i64 a,.pointer (some ⟨p,0,none⟩)],.agg #[.int .i64 b,.pointer Q]] w (NewInt ((Nat.gcd z.natAbs k.natAbs:Nat):Int) w):=by
 obtain ⟨bz,hbz⟩:∃ bz,decide (z<0)=bz:=⟨_,rfl⟩
 obtain ⟨bk,hbk⟩:∃ bk,decide (k<0)=bk:=⟨_,rfl⟩
 have kk:=(((Below.refl w.heap.size w).alloc (Nat.le_refl _) (.cells #[.int .i64 a,.pointer (some ⟨p,0,none⟩)] 28)).alloc (by simp) (.cells #[.int .i64 b,.pointer Q] 28)).alloc (by simp; omega) (.cells #[.int .i64 0,.pointer none] 28)
 have Hr:=Lh (Res.new ((w.alloc (.cells #[.int .i64 a,.pointer (some ⟨p,0,none⟩)] 28)).alloc (.cells #[.int .i64 b,.pointer Q] 28)))
 simp only [World.size_alloc] at Hr
 have Hx:=Lh (parts_at _ z _ bz hbz (h.keep kk))
 have Hy:=Lh (fun w' (hb:Below w.heap.size w w')=>parts_at _ k w' bk hbk (h'.keep hb))
 have Kk:=Lh kk
 have Hlz:=Lh hlz
 have Hlk:=Lh hlk
 have Ht:=Lh (fun w' (h:Below w.heap.size w w')=>tz_below ht h hw0)
 obtain ⟨g,hg⟩:∃ g,Nat.gcd z.natAbs k.natAbs=g:=⟨_,rfl⟩
 have Hg:=Lh hg
 rw [hg]
 clear hg
 have Hs:=Lh (show signZ false g=(g:Int) by simp [signZ])
 clear h h' kk hbz hbk hlz hlk ht
 go_enter Tryz.func83,Tryz.ntmps83
 go_wp2_with fail
 refine Hx.out.mono ?_
 rintro e w1 ⟨A,n,c,xs,rfl,hx,h1⟩
 have e1:w1.cell? ⟨w.heap.size+1,0,none⟩=some (.int .i64 b):=(h1.cell (p:=⟨w.heap.size+1,0,none⟩) (by simp)).trans (by simp [go_sem])
 have e2:w1.cell? ⟨w.heap.size+1,1,none⟩=some (.pointer Q):=(h1.cell (p:=⟨w.heap.size+1,1,none⟩) (by simp)).trans (by simp [go_sem])
 have K1:=Lh (below_on Kk.out h1)
 have R1:=Lh (Hr.out.keep h1)
 have Hnx:=Lh hx
 clear h1 hx
 go_wp2_with fail
 refine (Hy.out _ K1.out).mono ?_
 rintro e w2 ⟨A',n',c',ys,rfl,hy,h2⟩
 have Hnx2:=Lh (Hnx.out.keep h2)
 have Hny:=Lh hy
 have K2:=Lh (below_on K1.out h2)
 have R2:=Lh (R1.out.keep h2)
 clear h2 hy e1 e2
 have Hmul:=Lh (gcdNat_any w2 Hnx2.out Hny.out Hlz.out Hlk.out (Ht.out _ K2.out) (Nat.lt_of_lt_of_le hw0 K2.out.size))
 go_wp2_with fail
 refine Hmul.out.mono ?_
 rintro e w3 ⟨A3,n3,c3,zs,rfl,h3n,h3⟩
 rw [Hg.out] at h3n
 have K4:=Lh (below_on K2.out h3)
 have R4:=Lh (R2.out.keep h3)
 have Hsg:=Lh (signed_new false _ w3 h3n Hs.out)
 clear h3n h3
 go_wp2_with fail
 refine Hsg.out.mono ?_
 rintro e w5 ⟨a',P',rfl,hi5,h5⟩
 have R5:=Lh (R4.out.keep h5)
 have Hi5:=Lh (hi5.stored R5.out (.int .i64 a') (.pointer P'))
 have K5:=Lh (below_stored (below_on K4.out h5) (show w.heap.size≤w.heap.size+2 by omega) (.int .i64 a') (.pointer P'))
 have k0:=R5.out.k0
 have k1:=R5.out.k1
 have f0:=R5.out.f0
 have f1:=R5.out.f1
 clear hi5 h5
 go_wp2
 exact bodyPost_ret (v:= .agg #[.int .i64 a',.pointer P']) (by simp [results,Tryz.results83,go_sem,k0,k1]) rfl ⟨a',P',rfl,Hi5.out,K5.out⟩
theorem gcd_mixed (a b:Int) (p:Nat) (z k:Int) (w:World) (h:IsInt 0 w (.agg #[.int .i64 a,.pointer none]) z) (h':IsInt 0 w (.agg #[.int .i64 b,.pointer (some ⟨p,0,none⟩)]) k) (hlz:z.natAbs<base 400) (hlk:k.natAbs<base 400) (ht:TabTz w) (hw0:TzG<w.heap.size) :
  Calls Tryz.prog 83 #[.agg #[.int .i64 a,.pointer none],.agg #[.int .i64 b,.pointer (some ⟨p,0,none⟩)]] w (NewInt ((Nat.gcd z.natAbs k.natAbs:Nat):Int) w):=by
 obtain ⟨bz,hbz⟩:∃ bz,decide (z<0)=bz:=⟨_,rfl⟩
 obtain ⟨bk,hbk⟩:∃ bk,decide (k<0)=bk:=⟨_,rfl⟩
 have kk:=(((Below.refl w.heap.size w).alloc (Nat.le_refl _) (.cells #[.int .i64 a,.pointer none] 28)).alloc (by simp) (.cells #[.int .i64 b,.pointer (some ⟨p,0,none⟩)] 28)).alloc (by simp; omega) (.cells #[.int .i64 0,.pointer none] 28)
 have Hr:=Lh (Res.new ((w.alloc (.cells #[.int .i64 a,.pointer none] 28)).alloc (.cells #[.int .i64 b,.pointer (some ⟨p,0,none⟩)] 28)))
 simp only [World.size_alloc] at Hr
 have Hx:=Lh (parts_at _ z _ bz hbz (h.keep kk))
 have Hy:=Lh (fun w' (hb:Below w.heap.size w w')=>parts_at _ k w' bk hbk (h'.keep hb))
 have Kk:=Lh kk
 have Hlz:=Lh hlz
 have Hlk:=Lh hlk
 have Ht:=Lh (fun w' (h:Below w.heap.size w w')=>tz_below ht h hw0)
 obtain ⟨g,hg⟩:∃ g,Nat.gcd z.natAbs k.natAbs=g:=⟨_,rfl⟩
 have Hg:=Lh hg
 rw [hg]
 clear hg
 have Hs:=Lh (show signZ false g=(g:Int) by simp [signZ])
 clear h h' kk hbz hbk hlz hlk ht
 go_enter Tryz.func83,Tryz.ntmps83
 go_wp2_with fail
 refine Hx.out.mono ?_
 rintro e w1 ⟨A,n,c,xs,rfl,hx,h1⟩
 have e1:w1.cell? ⟨w.heap.size+1,0,none⟩=some (.int .i64 b):=(h1.cell (p:=⟨w.heap.size+1,0,none⟩) (by simp)).trans (by simp [go_sem])
 have e2:w1.cell? ⟨w.heap.size+1,1,none⟩=some (.pointer (some ⟨p,0,none⟩)):=(h1.cell (p:=⟨w.heap.size+1,1,none⟩) (by simp)).trans (by simp [go_sem])
 have K1:=Lh (below_on Kk.out h1)
 have R1:=Lh (Hr.out.keep h1)
 have Hnx:=Lh hx
 clear h1 hx
 go_wp2_with fail
 refine (Hy.out _ K1.out).mono ?_
 rintro e w2 ⟨A',n',c',ys,rfl,hy,h2⟩
 have Hnx2:=Lh (Hnx.out.keep h2)
 have Hny:=Lh hy
 have K2:=Lh (below_on K1.out h2)
 have R2:=Lh (R1.out.keep h2)
 clear h2 hy e1 e2
 have Hmul:=Lh (gcdNat_any w2 Hnx2.out Hny.out Hlz.out Hlk.out (Ht.out _ K2.out) (Nat.lt_of_lt_of_le hw0 K2.out.size))
 go_wp2_with fail
 refine Hmul.out.mono ?_
 rintro e w3 ⟨A3,n3,c3,zs,rfl,h3n,h3⟩
 rw [Hg.out] at h3n
 have K4:=Lh (below_on K2.out h3)
 have R4:=Lh (R2.out.keep h3)
 have Hsg:=Lh (signed_new false _ w3 h3n Hs.out)
 clear h3n h3
 go_wp2_with fail
 refine Hsg.out.mono ?_
 rintro e w5 ⟨a',P',rfl,hi5,h5⟩
 have R5:=Lh (R4.out.keep h5)
 have Hi5:=Lh (hi5.stored R5.out (.int .i64 a') (.pointer P'))
 have K5:=Lh (below_stored (below_on K4.out h5) (show w.heap.size≤w.heap.size+2 by omega) (.int .i64 a') (.pointer P'))
 have k0:=R5.out.k0
 have k1:=R5.out.k1
 have f0:=R5.out.f0
 have f1:=R5.out.f1
 clear hi5 h5
 go_wp2
 exact bodyPost_ret (v:= .agg #[.int .i64 a',.pointer P']) (by simp [results,Tryz.results83,go_sem,k0,k1]) rfl ⟨a',P',rfl,Hi5.out,K5.out⟩
theorem signed_one (w:World) (s g:Nat) (hs:w.heap.size=s) (h0:0<g) (h1:g<18446744073709551616) (hz:signZ false g=(g:Int)) :
  Calls Tryz.prog 104 #[.slice (some ⟨s,0,none⟩) 1 1,.bool false] (w.alloc (.cells #[.int .u64 (g:Int)] 139)) (NewInt (g:Int) (w.alloc (.cells #[.int .u64 (g:Int)] 139))):=by
 subst hs
 exact signed_new false (g:Int) _ (one_nat w h0 h1) hz
theorem gcd_over (a b:Int) (w:World) (ha:I64 a) (hb:I64 b) (g:Nat) (hg:Nat.gcd a.natAbs b.natAbs=g) (hg1:9223372036854775807<g) (ht:TabTz w) (hw:TzG<w.heap.size) :
  Calls Tryz.prog 83 #[small a,small b] w (NewInt (g:Int) w):=by
 have hg2:9223372036854775807<(g:Int):=by omega
 have hgl:g<18446744073709551616:=by
  rw [← hg]
  have h1:=abs_lt ha
  have h2:=abs_lt hb
  rcases Nat.eq_zero_or_pos a.natAbs with h0 | h0
  ·rw [h0,Nat.gcd_zero_left]; exact h2
  ·exact Nat.lt_of_le_of_lt (Nat.gcd_le_left _ h0) h1
 have Hg:=Lh hg
 have Hx:=Lh (fun w' (h:Below w.heap.size w w')=>tz_below ht h hw)
 have Hs:=Lh (show signZ false g=(g:Int) by simp [signZ])
 have Hone:=Lh (fun w' s hs=>signed_one w' s g hs (show 0<g by omega) hgl Hs.out)
 have kk:=(((Below.refl w.heap.size w).alloc (Nat.le_refl _) (.cells #[.int .i64 a,.pointer none] 28)).alloc (by simp) (.cells #[.int .i64 b,.pointer none] 28)).alloc (by simp; omega) (.cells #[.int .i64 0,.pointer none] 28)
 have Hr:=Lh (Res.new ((w.alloc (.cells #[.int .i64 a,.pointer none] 28)).alloc (.cells #[.int .i64 b,.pointer none] 28)))
 simp only [World.size_alloc] at Hr
 have Kk:=Lh kk
 clear hg ht hg1 kk hgl
 go_enter Tryz.func83,Tryz.ntmps83
 go_wp2_with fail
 go_quiet ((first | (go_at_call 115; exact Calls.quiet_of_same (magnitude_any _ _ (by assumption))) | (go_at_call 114; exact Calls.quiet_of_same (gcd_word_at _ _ g _ (abs_lt ha) (abs_lt hb) Hg.out (Hx.out _ (by repeat (first | exact Below.refl _ _ | refine below_drewN ?_ _ | refine Below.alloc ?_ (by first | exact Nat.le_refl _ | (simp <;> omega)) _)))))))
 go_wp2_with fail
 refine (Hone.out _ _ (by simp)).mono ?_
 rintro e w5 ⟨a',P',rfl,hi5,h5⟩
 have R5:=Lh (((Hr.out.keep (below_drewN (Below.refl _ _) _)).keep ((Below.refl _ _).alloc (Nat.le_refl _) _)).keep h5)
 have Hi5:=Lh (hi5.stored R5.out (.int .i64 a') (.pointer P'))
 have K5:=Lh (below_stored (below_on (below_on (below_drewN Kk.out _) ((Below.refl _ _).alloc (Nat.le_refl _) _)) h5) (show w.heap.size≤w.heap.size+2 by omega) (.int .i64 a') (.pointer P'))
 have k0:=R5.out.k0
 have k1:=R5.out.k1
 have f0:=R5.out.f0
 have f1:=R5.out.f1
 clear hi5 h5
 go_wp2
 exact bodyPost_ret (v:= .agg #[.int .i64 a',.pointer P']) (by simp [results,Tryz.results83,go_sem,k0,k1]) rfl ⟨a',P',rfl,Hi5.out,K5.out⟩
theorem gcd_any (a b:Int) (P Q:Option Addr) (z k:Int) (w:World) (h:IsInt 0 w (.agg #[.int .i64 a,.pointer P]) z) (h':IsInt 0 w (.agg #[.int .i64 b,.pointer Q]) k) (hlz:z.natAbs<base 400) (hlk:k.natAbs<base 400) (ht:TabTz w) (_hw:0<w.heap.size) :
  Calls Tryz.prog 83 #[.agg #[.int .i64 a,.pointer P],.agg #[.int .i64 b,.pointer Q]] w (NewInt ((Nat.gcd z.natAbs k.natAbs:Nat):Int) w):=by
 have hw0:=tz_lt ht
 rcases h.ways with ⟨hz,e⟩ | ⟨hz,p,e,_,_⟩
 ·obtain ⟨rfl,rfl⟩:=small_eq e
  rcases h'.ways with ⟨hk,e'⟩ | ⟨hk,q,e',_,_⟩
  ·obtain ⟨rfl,rfl⟩:=small_eq e'
   by_cases hs:Nat.gcd a.natAbs b.natAbs≤9223372036854775807
   ·refine (gcd_small a b w hz hk _ rfl hs ht hw0).mono ?_
    rintro e w' ⟨rfl,hb⟩
    exact ⟨_,none,rfl,.inl ⟨⟨by omega,by omega⟩,rfl⟩,hb⟩
   ·exact gcd_over a b w hz hk _ rfl (by omega) ht hw0
  ·obtain ⟨rfl,rfl⟩:b=0∧Q=some ⟨q,0,none⟩:=by simpa using e'
   exact gcd_mixed a 0 q a k w h h' hlz hlk ht hw0
 ·obtain ⟨rfl,rfl⟩:a=0∧P=some ⟨p,0,none⟩:=by simpa using e
  exact gcd_large 0 b p Q z k w h h' hlz hlk ht hw0
end Go.Proofs.YtekhdklbfincpaaGreatDoor
