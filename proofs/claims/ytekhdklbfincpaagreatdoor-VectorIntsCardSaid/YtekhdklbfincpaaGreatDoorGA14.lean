/- GA14: MulZ Hold Bits -/
import Derived.Test.YtekhdklbfincpaaGreatDoorGA13
import Derived.Test.YtekhdklbfincpaaGreatDoorGA09
import Derived.Test.YtekhdklbfincpaaGreatDoorGA08
set_option maxRecDepth 100000
set_option maxHeartbeats 16000000
namespace Go.Proofs.YtekhdklbfincpaaGreatDoor
open Go.RowKit
theorem mul_large (a b:Int) (p:Nat) (Q:Option Addr) (z k:Int) (w:World) (h:IsInt 0 w (.agg #[.int .i64 a,.pointer (some ⟨p,0,none⟩)]) z) (h':IsInt 0 w (.agg #[.int .i64 b,.pointer Q]) k) (hlz:z.natAbs<base 400) (hlk:k.natAbs<base 400) (hsm:z.natAbs<base 47∨k.natAbs<base 47)  :
  Calls Tryz.prog 86 #[.agg #[.int .i64 a,.pointer (some ⟨p,0,none⟩)],.agg #[.int .i64 b,.pointer Q]] w (NewInt (z*k) w):=by
 obtain ⟨bz,hbz⟩:∃ bz,decide (z<0)=bz:=⟨_,rfl⟩
 obtain ⟨bk,hbk⟩:∃ bk,decide (k<0)=bk:=⟨_,rfl⟩
 have kk:=(((Below.refl w.heap.size w).alloc (Nat.le_refl _) (.cells #[.int .i64 a,.pointer (some ⟨p,0,none⟩)] 28)).alloc (by simp) (.cells #[.int .i64 b,.pointer Q] 28)).alloc (by simp; omega) (.cells #[.int .i64 0,.pointer none] 28)
 have Hr:=Lh (Res.new ((w.alloc (.cells #[.int .i64 a,.pointer (some ⟨p,0,none⟩)] 28)).alloc (.cells #[.int .i64 b,.pointer Q] 28)))
 simp only [World.size_alloc] at Hr
 have Hx:=Lh (parts_at _ z _ bz hbz (h.keep kk))
 have Hy:=Lh (fun w' (hb:Below w.heap.size w w')=>parts_at _ k w' bk hbk (h'.keep hb))
 have Kk:=Lh kk
 have Hlz:=Lh hlz
 have Hlk:=Lh hlk
 have Hsm:=Lh hsm
 have hs:=sign_mul z k
 rw [hbz,hbk] at hs
 have Hs:=Lh hs
 clear h h' kk hbz hbk hlz hlk hsm hs
 go_enter Tryz.func86,Tryz.ntmps86
 go_wp2_with fail
 refine Hx.out.mono ?_
 rintro e w1 ⟨A,n,c,xs,rfl,hx,h1⟩
 have e1:w1.cell? ⟨w.heap.size+1,0,none⟩=some (.int .i64 b):=(h1.cell (p:=⟨w.heap.size+1,0,none⟩) (by simp)).trans (by simp [go_sem])
 have e2:w1.cell? ⟨w.heap.size+1,1,none⟩=some (.pointer Q):=(h1.cell (p:=⟨w.heap.size+1,1,none⟩) (by simp)).trans (by simp [go_sem])
 have K1:=Lh (below_on Kk.out h1)
 have R1:=Lh (Hr.out.keep h1)
 have Hnx:=Lh hx
 clear h1 hx
 go_wp2_with fail
 refine (Hy.out _ K1.out).mono ?_
 rintro e w2 ⟨A',n',c',ys,rfl,hy,h2⟩
 have Hnx2:=Lh (Hnx.out.keep h2)
 have Hny:=Lh hy
 have K2:=Lh (below_on K1.out h2)
 have R2:=Lh (R1.out.keep h2)
 have hn:=Hnx2.out.len_le Hlz.out
 have hn':=Hny.out.len_le Hlk.out
 have h48:n<48∨n'<48:=by
  rcases Hsm.out with h0 | h0
  ·left; have:=Hnx2.out.len_le h0; omega
  ·right; have:=Hny.out.len_le h0; omega
 clear h2 hy e1 e2
 have Hmul:=Lh (mulNat_any w2 Hnx2.out Hny.out h48 (by omega) (by omega))
 go_wp2_with fail
 refine Hmul.out.mono ?_
 rintro e w3 ⟨A3,n3,c3,zs,rfl,h3n,h3⟩
 have K4:=Lh (below_on K2.out h3)
 have R4:=Lh (R2.out.keep h3)
 have Hsg:=Lh (signed_new (bz != bk) (z*k) w3 h3n Hs.out)
 clear h3n h3
 go_wp2_with fail
 refine Hsg.out.mono ?_
 rintro e w5 ⟨a',P',rfl,hi5,h5⟩
 have R5:=Lh (R4.out.keep h5)
 have Hi5:=Lh (hi5.stored R5.out (.int .i64 a') (.pointer P'))
 have K5:=Lh (below_stored (below_on K4.out h5) (show w.heap.size≤w.heap.size+2 by omega) (.int .i64 a') (.pointer P'))
 have k0:=R5.out.k0
 have k1:=R5.out.k1
 have f0:=R5.out.f0
 have f1:=R5.out.f1
 clear hi5 h5
 go_wp2
 exact bodyPost_ret (v:= .agg #[.int .i64 a',.pointer P']) (by simp [results,Tryz.results86,go_sem,k0,k1]) rfl ⟨a',P',rfl,Hi5.out,K5.out⟩
theorem mul_mixed (a b:Int) (p:Nat) (z k:Int) (w:World) (h:IsInt 0 w (.agg #[.int .i64 a,.pointer none]) z) (h':IsInt 0 w (.agg #[.int .i64 b,.pointer (some ⟨p,0,none⟩)]) k) (hlz:z.natAbs<base 400) (hlk:k.natAbs<base 400) (hsm:z.natAbs<base 47∨k.natAbs<base 47)  :
  Calls Tryz.prog 86 #[.agg #[.int .i64 a,.pointer none],.agg #[.int .i64 b,.pointer (some ⟨p,0,none⟩)]] w (NewInt (z*k) w):=by
 obtain ⟨bz,hbz⟩:∃ bz,decide (z<0)=bz:=⟨_,rfl⟩
 obtain ⟨bk,hbk⟩:∃ bk,decide (k<0)=bk:=⟨_,rfl⟩
 have kk:=(((Below.refl w.heap.size w).alloc (Nat.le_refl _) (.cells #[.int .i64 a,.pointer none] 28)).alloc (by simp) (.cells #[.int .i64 b,.pointer (some ⟨p,0,none⟩)] 28)).alloc (by simp; omega) (.cells #[.int .i64 0,.pointer none] 28)
 have Hr:=Lh (Res.new ((w.alloc (.cells #[.int .i64 a,.pointer none] 28)).alloc (.cells #[.int .i64 b,.pointer (some ⟨p,0,none⟩)] 28)))
 simp only [World.size_alloc] at Hr
 have Hx:=Lh (parts_at _ z _ bz hbz (h.keep kk))
 have Hy:=Lh (fun w' (hb:Below w.heap.size w w')=>parts_at _ k w' bk hbk (h'.keep hb))
 have Kk:=Lh kk
 have Hlz:=Lh hlz
 have Hlk:=Lh hlk
 have Hsm:=Lh hsm
 have hs:=sign_mul z k
 rw [hbz,hbk] at hs
 have Hs:=Lh hs
 clear h h' kk hbz hbk hlz hlk hsm hs
 go_enter Tryz.func86,Tryz.ntmps86
 go_wp2_with fail
 refine Hx.out.mono ?_
 rintro e w1 ⟨A,n,c,xs,rfl,hx,h1⟩
 have e1:w1.cell? ⟨w.heap.size+1,0,none⟩=some (.int .i64 b):=(h1.cell (p:=⟨w.heap.size+1,0,none⟩) (by simp)).trans (by simp [go_sem])
 have e2:w1.cell? ⟨w.heap.size+1,1,none⟩=some (.pointer (some ⟨p,0,none⟩)):=(h1.cell (p:=⟨w.heap.size+1,1,none⟩) (by simp)).trans (by simp [go_sem])
 have K1:=Lh (below_on Kk.out h1)
 have R1:=Lh (Hr.out.keep h1)
 have Hnx:=Lh hx
 clear h1 hx
 go_wp2_with fail
 refine (Hy.out _ K1.out).mono ?_
 rintro e w2 ⟨A',n',c',ys,rfl,hy,h2⟩
 have Hnx2:=Lh (Hnx.out.keep h2)
 have Hny:=Lh hy
 have K2:=Lh (below_on K1.out h2)
 have R2:=Lh (R1.out.keep h2)
 have hn:=Hnx2.out.len_le Hlz.out
 have hn':=Hny.out.len_le Hlk.out
 have h48:n<48∨n'<48:=by
  rcases Hsm.out with h0 | h0
  ·left; have:=Hnx2.out.len_le h0; omega
  ·right; have:=Hny.out.len_le h0; omega
 clear h2 hy e1 e2
 have Hmul:=Lh (mulNat_any w2 Hnx2.out Hny.out h48 (by omega) (by omega))
 go_wp2_with fail
 refine Hmul.out.mono ?_
 rintro e w3 ⟨A3,n3,c3,zs,rfl,h3n,h3⟩
 have K4:=Lh (below_on K2.out h3)
 have R4:=Lh (R2.out.keep h3)
 have Hsg:=Lh (signed_new (bz != bk) (z*k) w3 h3n Hs.out)
 clear h3n h3
 go_wp2_with fail
 refine Hsg.out.mono ?_
 rintro e w5 ⟨a',P',rfl,hi5,h5⟩
 have R5:=Lh (R4.out.keep h5)
 have Hi5:=Lh (hi5.stored R5.out (.int .i64 a') (.pointer P'))
 have K5:=Lh (below_stored (below_on K4.out h5) (show w.heap.size≤w.heap.size+2 by omega) (.int .i64 a') (.pointer P'))
 have k0:=R5.out.k0
 have k1:=R5.out.k1
 have f0:=R5.out.f0
 have f1:=R5.out.f1
 clear hi5 h5
 go_wp2
 exact bodyPost_ret (v:= .agg #[.int .i64 a',.pointer P']) (by simp [results,Tryz.results86,go_sem,k0,k1]) rfl ⟨a',P',rfl,Hi5.out,K5.out⟩
theorem over_high {m:Nat} (h:9223372036854775807<m):∀ H L:Nat,m / 18446744073709551616=H→m % 18446744073709551616=L→¬ (H=0∧L≤9223372036854775807):=by
 intro H L hh hl
 omega
theorem mul64_q (x y H L:Nat) (hx:x<18446744073709551616) (hy:y<18446744073709551616) (hh:x*y / 18446744073709551616=H) (hl:x*y % 18446744073709551616=L) (w:World) :
  Calls Tryz.prog 120 #[.int .u64 x,.int .u64 y] w fun e w'=>e= .returned (.tuple #[.int .u64 (H:Int),.int .u64 (L:Int)])∧w'=w:=by
 rw [← hh,← hl]; exact Tryz.bits_Mul64 x y hx hy w
theorem mul_over1 (z k:Int) (w:World) (h:IsInt 0 w (.agg #[.int .i64 z,.pointer none]) z) (h':IsInt 0 w (.agg #[.int .i64 k,.pointer none]) k) (hlz:z.natAbs<base 400) (hlk:k.natAbs<base 400) (hsm:z.natAbs<base 47∨k.natAbs<base 47) (ha:I64 z) (hb:I64 k) (hbig:9223372036854775807<z.natAbs*k.natAbs) (h0:z.natAbs*k.natAbs / 18446744073709551616=0) :
  Calls Tryz.prog 86 #[.agg #[.int .i64 z,.pointer none],.agg #[.int .i64 k,.pointer none]] w (NewInt (z*k) w):=by
 obtain ⟨bz,hbz⟩:∃ bz,decide (z<0)=bz:=⟨_,rfl⟩
 obtain ⟨bk,hbk⟩:∃ bk,decide (k<0)=bk:=⟨_,rfl⟩
 have kk:=(((Below.refl w.heap.size w).alloc (Nat.le_refl _) (.cells #[.int .i64 z,.pointer none] 28)).alloc (by simp) (.cells #[.int .i64 k,.pointer none] 28)).alloc (by simp; omega) (.cells #[.int .i64 0,.pointer none] 28)
 have Hr:=Lh (Res.new ((w.alloc (.cells #[.int .i64 z,.pointer none] 28)).alloc (.cells #[.int .i64 k,.pointer none] 28)))
 simp only [World.size_alloc] at Hr
 have Hx:=Lh (fun w' (hb:Below w.heap.size w w')=>parts_at _ z w' bz hbz (h.keep hb))
 have Hy:=Lh (fun w' (hb:Below w.heap.size w w')=>parts_at _ k w' bk hbk (h'.keep hb))
 have Kk:=Lh kk
 have Hlz:=Lh hlz
 have Hlk:=Lh hlk
 have Hsm:=Lh hsm
 have hs:=sign_mul z k
 rw [hbz,hbk] at hs
 have Hs:=Lh hs
 clear h h' kk hbz hbk hlz hlk hsm hs
 obtain ⟨H,hh⟩:∃ H,z.natAbs*k.natAbs / 18446744073709551616=H:=⟨_,rfl⟩
 obtain ⟨L,hl⟩:∃ L,z.natAbs*k.natAbs % 18446744073709551616=L:=⟨_,rfl⟩
 have hnot:=over_high hbig H L hh hl
 have Hh:=Lh hh
 have Hl:=Lh hl
 have Ha:=Lh ha
 have Hb:=Lh hb
 clear hh hl hbig
 obtain rfl:H=0:=by rw [← Hh.out]; exact h0
 have hL:¬ L≤9223372036854775807:=fun e=>hnot ⟨rfl,e⟩
 clear hnot h0
 go_enter Tryz.func86,Tryz.ntmps86
 go_wp2_with fail
 go_quiet ((first | (go_at_call 115; first | exact Calls.quiet_of_same (magnitude_any _ _ Ha.out) | exact Calls.quiet_of_same (magnitude_any _ _ Hb.out)) | (go_at_call 120; exact Calls.quiet_of_same (mul64_q _ _ _ _ (abs_lt Ha.out) (abs_lt Hb.out) Hh.out Hl.out _))))
 go_wp2_with fail
 refine (Hx.out _ (below_drewN Kk.out _)).mono ?_
 rintro e w1 ⟨A,n,c,xs,rfl,hx,h1⟩
 have e1:w1.cell? ⟨w.heap.size+1,0,none⟩=some (.int .i64 k):=(h1.cell (p:=⟨w.heap.size+1,0,none⟩) (by simp)).trans (by simp [go_sem])
 have e2:w1.cell? ⟨w.heap.size+1,1,none⟩=some (.pointer none):=(h1.cell (p:=⟨w.heap.size+1,1,none⟩) (by simp)).trans (by simp [go_sem])
 have K1:=Lh (below_on (below_drewN Kk.out _) h1)
 have R1:=Lh ((Hr.out.keep (below_drewN (Below.refl _ _) _)).keep h1)
 have Hnx:=Lh hx
 clear h1 hx
 go_wp2_with fail
 refine (Hy.out _ K1.out).mono ?_
 rintro e w2 ⟨A',n',c',ys,rfl,hy,h2⟩
 have Hnx2:=Lh (Hnx.out.keep h2)
 have Hny:=Lh hy
 have K2:=Lh (below_on K1.out h2)
 have R2:=Lh (R1.out.keep h2)
 have hn:=Hnx2.out.len_le Hlz.out
 have hn':=Hny.out.len_le Hlk.out
 have h48:n<48∨n'<48:=by
  rcases Hsm.out with h0 | h0
  ·left; have:=Hnx2.out.len_le h0; omega
  ·right; have:=Hny.out.len_le h0; omega
 clear h2 hy e1 e2
 have Hmul:=Lh (mulNat_any w2 Hnx2.out Hny.out h48 (by omega) (by omega))
 go_wp2_with fail
 refine Hmul.out.mono ?_
 rintro e w3 ⟨A3,n3,c3,zs,rfl,h3n,h3⟩
 have K4:=Lh (below_on K2.out h3)
 have R4:=Lh (R2.out.keep h3)
 have Hsg:=Lh (signed_new (bz != bk) (z*k) w3 h3n Hs.out)
 clear h3n h3
 go_wp2_with fail
 refine Hsg.out.mono ?_
 rintro e w5 ⟨a',P',rfl,hi5,h5⟩
 have R5:=Lh (R4.out.keep h5)
 have Hi5:=Lh (hi5.stored R5.out (.int .i64 a') (.pointer P'))
 have K5:=Lh (below_stored (below_on K4.out h5) (show w.heap.size≤w.heap.size+2 by omega) (.int .i64 a') (.pointer P'))
 have k0:=R5.out.k0
 have k1:=R5.out.k1
 have f0:=R5.out.f0
 have f1:=R5.out.f1
 clear hi5 h5
 go_wp2
 exact bodyPost_ret (v:= .agg #[.int .i64 a',.pointer P']) (by simp [results,Tryz.results86,go_sem,k0,k1]) rfl ⟨a',P',rfl,Hi5.out,K5.out⟩
theorem mul_over2 (z k:Int) (w:World) (h:IsInt 0 w (.agg #[.int .i64 z,.pointer none]) z) (h':IsInt 0 w (.agg #[.int .i64 k,.pointer none]) k) (hlz:z.natAbs<base 400) (hlk:k.natAbs<base 400) (hsm:z.natAbs<base 47∨k.natAbs<base 47) (ha:I64 z) (hb:I64 k) (hbig:9223372036854775807<z.natAbs*k.natAbs) (h0:z.natAbs*k.natAbs / 18446744073709551616≠0) :
  Calls Tryz.prog 86 #[.agg #[.int .i64 z,.pointer none],.agg #[.int .i64 k,.pointer none]] w (NewInt (z*k) w):=by
 obtain ⟨bz,hbz⟩:∃ bz,decide (z<0)=bz:=⟨_,rfl⟩
 obtain ⟨bk,hbk⟩:∃ bk,decide (k<0)=bk:=⟨_,rfl⟩
 have kk:=(((Below.refl w.heap.size w).alloc (Nat.le_refl _) (.cells #[.int .i64 z,.pointer none] 28)).alloc (by simp) (.cells #[.int .i64 k,.pointer none] 28)).alloc (by simp; omega) (.cells #[.int .i64 0,.pointer none] 28)
 have Hr:=Lh (Res.new ((w.alloc (.cells #[.int .i64 z,.pointer none] 28)).alloc (.cells #[.int .i64 k,.pointer none] 28)))
 simp only [World.size_alloc] at Hr
 have Hx:=Lh (fun w' (hb:Below w.heap.size w w')=>parts_at _ z w' bz hbz (h.keep hb))
 have Hy:=Lh (fun w' (hb:Below w.heap.size w w')=>parts_at _ k w' bk hbk (h'.keep hb))
 have Kk:=Lh kk
 have Hlz:=Lh hlz
 have Hlk:=Lh hlk
 have Hsm:=Lh hsm
 have hs:=sign_mul z k
 rw [hbz,hbk] at hs
 have Hs:=Lh hs
 clear h h' kk hbz hbk hlz hlk hsm hs
 obtain ⟨H,hh⟩:∃ H,z.natAbs*k.natAbs / 18446744073709551616=H:=⟨_,rfl⟩
 obtain ⟨L,hl⟩:∃ L,z.natAbs*k.natAbs % 18446744073709551616=L:=⟨_,rfl⟩
 have hnot:=over_high hbig H L hh hl
 have Hh:=Lh hh
 have Hl:=Lh hl
 have Ha:=Lh ha
 have Hb:=Lh hb
 clear hh hl hbig
 have hH:((H:Int) == 0)=false:=by rw [beq_eq_false_iff_ne]; intro e; exact h0 (by rw [Hh.out]; omega)
 clear hnot h0
 go_enter Tryz.func86,Tryz.ntmps86
 go_wp2_with fail
 go_quiet ((first | (go_at_call 115; first | exact Calls.quiet_of_same (magnitude_any _ _ Ha.out) | exact Calls.quiet_of_same (magnitude_any _ _ Hb.out)) | (go_at_call 120; exact Calls.quiet_of_same (mul64_q _ _ _ _ (abs_lt Ha.out) (abs_lt Hb.out) Hh.out Hl.out _))))
 go_wp2_with fail
 refine (Hx.out _ (below_drewN Kk.out _)).mono ?_
 rintro e w1 ⟨A,n,c,xs,rfl,hx,h1⟩
 have e1:w1.cell? ⟨w.heap.size+1,0,none⟩=some (.int .i64 k):=(h1.cell (p:=⟨w.heap.size+1,0,none⟩) (by simp)).trans (by simp [go_sem])
 have e2:w1.cell? ⟨w.heap.size+1,1,none⟩=some (.pointer none):=(h1.cell (p:=⟨w.heap.size+1,1,none⟩) (by simp)).trans (by simp [go_sem])
 have K1:=Lh (below_on (below_drewN Kk.out _) h1)
 have R1:=Lh ((Hr.out.keep (below_drewN (Below.refl _ _) _)).keep h1)
 have Hnx:=Lh hx
 clear h1 hx
 go_wp2_with fail
 refine (Hy.out _ K1.out).mono ?_
 rintro e w2 ⟨A',n',c',ys,rfl,hy,h2⟩
 have Hnx2:=Lh (Hnx.out.keep h2)
 have Hny:=Lh hy
 have K2:=Lh (below_on K1.out h2)
 have R2:=Lh (R1.out.keep h2)
 have hn:=Hnx2.out.len_le Hlz.out
 have hn':=Hny.out.len_le Hlk.out
 have h48:n<48∨n'<48:=by
  rcases Hsm.out with h0 | h0
  ·left; have:=Hnx2.out.len_le h0; omega
  ·right; have:=Hny.out.len_le h0; omega
 clear h2 hy e1 e2
 have Hmul:=Lh (mulNat_any w2 Hnx2.out Hny.out h48 (by omega) (by omega))
 go_wp2_with fail
 refine Hmul.out.mono ?_
 rintro e w3 ⟨A3,n3,c3,zs,rfl,h3n,h3⟩
 have K4:=Lh (below_on K2.out h3)
 have R4:=Lh (R2.out.keep h3)
 have Hsg:=Lh (signed_new (bz != bk) (z*k) w3 h3n Hs.out)
 clear h3n h3
 go_wp2_with fail
 refine Hsg.out.mono ?_
 rintro e w5 ⟨a',P',rfl,hi5,h5⟩
 have R5:=Lh (R4.out.keep h5)
 have Hi5:=Lh (hi5.stored R5.out (.int .i64 a') (.pointer P'))
 have K5:=Lh (below_stored (below_on K4.out h5) (show w.heap.size≤w.heap.size+2 by omega) (.int .i64 a') (.pointer P'))
 have k0:=R5.out.k0
 have k1:=R5.out.k1
 have f0:=R5.out.f0
 have f1:=R5.out.f1
 clear hi5 h5
 go_wp2
 exact bodyPost_ret (v:= .agg #[.int .i64 a',.pointer P']) (by simp [results,Tryz.results86,go_sem,k0,k1]) rfl ⟨a',P',rfl,Hi5.out,K5.out⟩
theorem mul_any (a b:Int) (P Q:Option Addr) (z k:Int) (w:World) (h:IsInt 0 w (.agg #[.int .i64 a,.pointer P]) z) (h':IsInt 0 w (.agg #[.int .i64 b,.pointer Q]) k) (hlz:z.natAbs<base 400) (hlk:k.natAbs<base 400) (hsm:z.natAbs<base 47∨k.natAbs<base 47) :
  Calls Tryz.prog 86 #[.agg #[.int .i64 a,.pointer P],.agg #[.int .i64 b,.pointer Q]] w (NewInt (z*k) w):=by
 rcases h.ways with ⟨hz,e⟩ | ⟨hz,p,e,_,_⟩
 ·obtain ⟨rfl,rfl⟩:=small_eq e
  rcases h'.ways with ⟨hk,e'⟩ | ⟨hk,q,e',_,_⟩
  ·obtain ⟨rfl,rfl⟩:=small_eq e'
   by_cases hs:a.natAbs*b.natAbs≤9223372036854775807
   ·refine (mul_small a b w hz hk hs).mono ?_
    rintro e w' ⟨rfl,hb⟩
    have hc:(a*b).natAbs=a.natAbs*b.natAbs:=Int.natAbs_mul a b
    exact ⟨a*b,none,rfl,.inl ⟨⟨by omega,by omega⟩,rfl⟩,hb⟩
   ·by_cases h0:a.natAbs*b.natAbs / 18446744073709551616=0
    ·exact mul_over1 a b w h h' hlz hlk hsm hz hk (by omega) h0
    ·exact mul_over2 a b w h h' hlz hlk hsm hz hk (by omega) h0
  ·obtain ⟨rfl,rfl⟩:b=0∧Q=some ⟨q,0,none⟩:=by simpa using e'
   exact mul_mixed a 0 q a k w h h' hlz hlk hsm
 ·obtain ⟨rfl,rfl⟩:a=0∧P=some ⟨p,0,none⟩:=by simpa using e
  exact mul_large 0 b p Q z k w h h' hlz hlk hsm
end Go.Proofs.YtekhdklbfincpaaGreatDoor
namespace Go.Proofs.YtekhdklbfincpaaGreatDoor
open Go.RowKit
structure Var (w:World) (p:Nat) (a:Int) (P:Option Addr) (z:Int):Prop where
 c0:w.cell? ⟨p,0,none⟩=some (.int .i64 a)
 c1:w.cell? ⟨p,1,none⟩=some (.pointer P)
 lt:p<w.heap.size
 int:IsInt 0 w (.agg #[.int .i64 a,.pointer P]) z
theorem Var.keep {w w':World} {p:Nat} {a:Int} {P:Option Addr} {z:Int} (h:Var w p a P z) (hb:Below w.heap.size w w'):Var w' p a P z:=
 ⟨(hb.cell (p:=⟨p,0,none⟩) h.lt).trans h.c0,(hb.cell (p:=⟨p,1,none⟩) h.lt).trans h.c1,Nat.lt_of_lt_of_le h.lt hb.size,h.int.keep hb⟩
theorem Var.new {w:World} {a:Int} {P:Option Addr} {z:Int} (h:IsInt 0 w (.agg #[.int .i64 a,.pointer P]) z):Var (w.alloc (.cells #[.int .i64 a,.pointer P] 28)) w.heap.size a P z:=
 ⟨by simp [go_sem],by simp [go_sem],by simp,h.keep ((Below.refl w.heap.size w).alloc (Nat.le_refl _) _)⟩
theorem base_up {a b m:Nat} (h:m<base a) (hab:a≤b):m<base b:=Nat.lt_of_lt_of_le h (base_le hab)
structure Hold (w:World) (p:Nat) (a:Int) (P:Option Addr):Prop where
 c0:w.cell? ⟨p,0,none⟩=some (.int .i64 a)
 c1:w.cell? ⟨p,1,none⟩=some (.pointer P)
 cn:∀ k,w.cell? ⟨p,k+2,none⟩=none
 f0:w.frozen? ⟨p,0,none⟩=false
 f1:w.frozen? ⟨p,1,none⟩=false
 lt:p<w.heap.size
theorem Hold.keep {w w':World} {p:Nat} {a:Int} {P:Option Addr} (h:Hold w p a P) (hb:Below w.heap.size w w'):Hold w' p a P:=
 ⟨(hb.cell (p:=⟨p,0,none⟩) h.lt).trans h.c0,(hb.cell (p:=⟨p,1,none⟩) h.lt).trans h.c1,fun k=>(hb.cell (p:=⟨p,k+2,none⟩) h.lt).trans (h.cn k),
  (hb.frozen (p:=⟨p,0,none⟩) h.lt).trans h.f0,(hb.frozen (p:=⟨p,1,none⟩) h.lt).trans h.f1,Nat.lt_of_lt_of_le h.lt hb.size⟩
theorem Hold.of_row {w:World} {p:Nat} {a:Int} {P:Option Addr} {T:TypeId} (h:w.heap[p]?=some (.cells #[.int .i64 a,.pointer P] T (0,0))):Hold w p a P:=by
 refine ⟨by rw [cell_of_row _ _ _ _ _ _ h]; rfl,by rw [cell_of_row _ _ _ _ _ _ h]; rfl,fun k=>by rw [cell_of_row _ _ _ _ _ _ h]; rfl,by simp only [World.frozen?,h]; rfl,by simp only [World.frozen?,h]; rfl,?_⟩
 rcases Nat.lt_or_ge p w.heap.size with h1 | h1
 ·exact h1
 ·rw [Array.getElem?_eq_none h1] at h; cases h
theorem Hold.new (w:World) (a:Int) (P:Option Addr):Hold (w.alloc (.cells #[.int .i64 a,.pointer P] 28)) w.heap.size a P:=Hold.of_row (heap_new w _)
theorem Hold.store {w:World} {p:Nat} {a:Int} {P:Option Addr} (h:Hold w p a P) (b:Int) (Q:Option Addr):Hold ((w.setCell ⟨p,0,none⟩ (.int .i64 b)).setCell ⟨p,1,none⟩ (.pointer Q)) p b Q:=by
 have e1:(w.setCell ⟨p,0,none⟩ (.int .i64 b)).cell? ⟨p,1,none⟩=some (.pointer P):=(World.cell?_setCell_other _ _ _ _ (by simp)).trans h.c1
 refine ⟨?_,World.cell?_setCell_same _ _ _ e1,fun k=>?_,?_,?_,?_⟩
 ·rw [World.cell?_setCell_other _ _ _ _ (by simp)]; exact World.cell?_setCell_same _ _ _ h.c0
 ·rw [World.cell?_setCell_other _ _ _ _ (by simp),World.cell?_setCell_other _ _ _ _ (by simp)]; exact h.cn k
 ·rw [World.frozen?_setCell,World.frozen?_setCell]; exact h.f0
 ·rw [World.frozen?_setCell,World.frozen?_setCell]; exact h.f1
 ·simpa [World.setCell] using h.lt
theorem IsInt.hold {w w':World} {v:Value} {z:Int} {p:Nat} {a:Int} {P:Option Addr} (h:IsInt 0 w v z) (hr:Hold w p a P) (hs:w'.heap.size=w.heap.size) (hk:∀ k,k≠p→w'.heap[k]?=w.heap[k]?):IsInt 0 w' v z:=by
 rcases h with h | ⟨hz,q,A,n,c,xs,rfl,hq,hB,hA,c0,c1,hl,hc,hn,hw,ht,hv⟩
 ·exact .inl h
 ·have hqp:q≠p:=by
   intro e
   subst e
   rw [hr.c0] at c0
   cases c0
  refine .inr ⟨hz,q,A,n,c,xs,rfl,by omega,hB,hA,(World.cell?_of_block (hk q hqp)).trans c0,(World.cell?_of_block (hk q hqp)).trans c1,⟨hl.1,hl.2.1,fun h0=>?_⟩,hc,hn,hw,ht,hv⟩
  obtain ⟨b,o,e,hb,hcell⟩:=hl.2.2 h0
  have hlen:=hl.1
  rw [u64s_length] at hlen
  have hbp:b≠p:=by
   intro e2
   subst e2
   have h1:=hcell 0 (.int .u64 ((xs.getD 0 0:Nat):Int)) (by simp [u64s,show 0<xs.length by omega])
   match o,h1 with
   | 0,h1=>rw [show (0+0:Nat)=0 from rfl,hr.c0] at h1; cases h1
   | 1,h1=>rw [show (1+0:Nat)=1 from rfl,hr.c1] at h1; cases h1
   | o+2,h1=>rw [Nat.add_zero,hr.cn o] at h1; cases h1
  exact ⟨b,o,e,by omega,fun j u hu=>(World.cell?_of_block (hk b hbp)).trans (hcell j u hu)⟩
theorem IsInt.held {w:World} {v:Value} {z:Int} {p:Nat} {a:Int} {P:Option Addr} (h:IsInt 0 w v z) (hr:Hold w p a P) (x y:Value):IsInt 0 ((w.setCell ⟨p,0,none⟩ x).setCell ⟨p,1,none⟩ y) v z:=
 h.hold hr (by simp [World.setCell]) (fun k hk=>(Below.heap_setCell (w.setCell ⟨p,0,none⟩ x) ⟨p,1,none⟩ y k hk).trans (Below.heap_setCell w ⟨p,0,none⟩ x k hk))
theorem Var.held {w:World} {q:Nat} {b:Int} {Q:Option Addr} {z:Int} {p:Nat} {a:Int} {P:Option Addr} (h:Var w q b Q z) (hr:Hold w p a P) (hq:q≠p) (x y:Value):Var ((w.setCell ⟨p,0,none⟩ x).setCell ⟨p,1,none⟩ y) q b Q z:=by
 have hb:((w.setCell ⟨p,0,none⟩ x).setCell ⟨p,1,none⟩ y).heap[q]?=w.heap[q]?:=(Below.heap_setCell (w.setCell ⟨p,0,none⟩ x) ⟨p,1,none⟩ y q hq).trans (Below.heap_setCell w ⟨p,0,none⟩ x q hq)
 exact ⟨(World.cell?_of_block hb).trans h.c0,(World.cell?_of_block hb).trans h.c1,by simpa [World.setCell] using h.lt,h.int.held hr x y⟩
end Go.Proofs.YtekhdklbfincpaaGreatDoor
namespace Go.Proofs.YtekhdklbfincpaaGreatDoor
open Go.RowKit
def Len2 (m l:Nat):Prop:=(m=0→l=0)∧(0<m→1≤l∧2 ^ (l - 1)≤m∧m<2 ^ l)
theorem base_two_pow (n:Nat):base n=2 ^ (64*n):=by
 unfold base
 rw [show (18446744073709551616:Nat)=2 ^ 64 from by decide,← Nat.pow_mul]
theorem len2_top {xs:List Nat} {n x m:Nat} (hw:Words xs) (hn:xs.length=n+1) (ht:Tight xs) (hx:xs.getD n 0=x) (hv:natVal xs=m):0<x∧x<18446744073709551616∧Len2 m (64*n+Lib.bitLen x):=by
 have hx1:=word_at hw n
 rw [hx] at hx1
 have e:m=natVal (xs.take n)+base n*x:=by
  have:=take_up0 (xs:=xs) (k:=n) hx
  rw [List.take_of_length_le (by omega),hv] at this
  exact this
 have hlo:=natVal_lt (words_take hw n)
 rw [List.length_take,Nat.min_eq_left (by omega)] at hlo
 have hge:base n≤m:=by
  rcases ht with h | h
  ·omega
  ·rw [hv,hn] at h; exact h
 have hx0:0<x:=by
  rcases Nat.eq_zero_or_pos x with h | h
  ·subst h; rw [Nat.mul_zero] at e; omega
  ·exact h
 refine ⟨hx0,hx1,fun h0=>?_,fun _=>?_⟩
 ·have:=base_pos n; omega
 ·obtain ⟨b1,b2,b3⟩:=Lib.bitLenAux_bounds 64 x hx1 (by omega)
  have hb:Lib.bitLenAux 64 x=Lib.bitLen x:=rfl
  rw [hb] at b1 b2 b3
  obtain ⟨l,hl⟩:∃ l,Lib.bitLen x=l+1:=⟨Lib.bitLen x - 1,by omega⟩
  rw [hl] at b2 b3 ⊢
  rw [Nat.add_sub_cancel] at b2
  refine ⟨by omega,?_,?_⟩
  ·rw [show 64*n+(l+1) - 1=64*n+l by omega,Nat.pow_add,← base_two_pow]
   have:=Nat.mul_le_mul_left (base n) b2
   omega
  ·rw [Nat.pow_add,← base_two_pow]
   have:base n*(x+1)≤base n*2 ^ (l+1):=Nat.mul_le_mul_left _ b3
   rw [Nat.mul_add] at this
   omega
theorem int_large (p:Nat) (w:World) :
  Calls Tryz.prog 97 #[.agg #[.int .i64 0,.pointer (some ⟨p,0,none⟩)]] w fun e w'=>e= .returned (.tuple #[.int .i64 0,.bool false])∧Below w.heap.size w w':=by
 go_enter Tryz.func97,Tryz.ntmps97
 go_wp2
 go_quiet (fail)
 go_wp2
 go_ret2
 exact ⟨rfl,below_drewN ((Below.refl _ _).alloc (Nat.le_refl _) _) _⟩
theorem intZ_any (a:Int) (P:Option Addr) (z:Int) (w:World) (h:IsInt 0 w (.agg #[.int .i64 a,.pointer P]) z) :
  Calls Tryz.prog 97 #[.agg #[.int .i64 a,.pointer P]] w fun e w'=>(∃ (n:Int) (b:Bool),e= .returned (.tuple #[.int .i64 n,.bool b])∧(I64 z→n=z∧b=true)∧(¬ I64 z→n=0∧b=false))∧Below w.heap.size w w':=by
 rcases h.ways with ⟨hz,e⟩ | ⟨hz,p,e,_,_⟩
 ·rw [e]
  exact (int_any z w).mono fun e w' ⟨h1,h2⟩=>⟨⟨z,true,h1,fun _=>⟨rfl,rfl⟩,fun h=>absurd hz h⟩,h2⟩
 ·rw [e]
  exact (int_large p w).mono fun e w' ⟨h1,h2⟩=>⟨⟨0,false,h1,fun h=>absurd h hz,fun _=>⟨rfl,rfl⟩⟩,h2⟩
end Go.Proofs.YtekhdklbfincpaaGreatDoor
