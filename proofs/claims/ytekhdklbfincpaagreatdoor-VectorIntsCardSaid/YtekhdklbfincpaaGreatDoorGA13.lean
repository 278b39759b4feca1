/- GA13: AddZ -/
import Derived.Test.YtekhdklbfincpaaGreatDoorGA12
set_option maxRecDepth 100000
set_option maxHeartbeats 16000000
namespace Go.Proofs.YtekhdklbfincpaaGreatDoor
open Go.RowKit
theorem add_large (a b:Int) (p:Nat) (Q:Option Addr) (z k:Int) (w:World) (h:IsInt 0 w (.agg #[.int .i64 a,.pointer (some ⟨p,0,none⟩)]) z) (h':IsInt 0 w (.agg #[.int .i64 b,.pointer Q]) k) (hlz:z.natAbs<base 400) (hlk:k.natAbs<base 400) (hone:z≠0∨k≠0)  :
  Calls Tryz.prog 119 #[.agg #[.int .i64 a,.pointer (some ⟨p,0,none⟩)],.agg #[.int .i64 b,.pointer Q]] w (NewInt (z+k) w):=by
 obtain ⟨bz,hbz⟩:∃ bz,decide (z<0)=bz:=⟨_,rfl⟩
 obtain ⟨bk,hbk⟩:∃ bk,decide (k<0)=bk:=⟨_,rfl⟩
 have kk:=(((Below.refl w.heap.size w).alloc (Nat.le_refl _) (.cells #[.int .i64 a,.pointer (some ⟨p,0,none⟩)] 28)).alloc (by simp) (.cells #[.int .i64 b,.pointer Q] 28)).alloc (by simp; omega) (.cells #[.int .i64 0,.pointer none] 28)
 have Hr:=Lh (Res.new ((w.alloc (.cells #[.int .i64 a,.pointer (some ⟨p,0,none⟩)] 28)).alloc (.cells #[.int .i64 b,.pointer Q] 28)))
 simp only [World.size_alloc] at Hr
 have Hx:=Lh (parts_at _ z _ bz hbz (h.keep kk))
 have Hy:=Lh (fun w' (hb:Below w.heap.size w w')=>parts_at _ k w' bk hbk (h'.keep hb))
 have Kk:=Lh kk
 have Hlz:=Lh hlz
 have Hlk:=Lh hlk
 have Hone:=Lh hone
 have hsame:bz=bk→signZ bz (z.natAbs+k.natAbs)=z+k:=fun e=>by rw [← hbz] at e ⊢; exact sign_same (by rw [e,hbk])
 have hge:bz≠bk→k.natAbs≤z.natAbs→signZ bz (z.natAbs - k.natAbs)=z+k:=fun e hle=>by rw [← hbz] at e ⊢; exact sign_ge (by rw [hbk]; exact e) hle
 have hlt:bz≠bk→z.natAbs<k.natAbs→signZ bk (k.natAbs - z.natAbs)=z+k:=fun e hle=>by rw [← hbk] at e ⊢; exact sign_lt (by rw [hbz]; exact e) hle
 have Hsame:=Lh hsame
 have Hge:=Lh hge
 have Hlt:=Lh hlt
 clear h h' kk hbz hbk hlz hlk hone hsame hge hlt
 go_enter Tryz.func119,Tryz.ntmps119
 go_wp2_with fail
 refine Hx.out.mono ?_
 rintro e w1 ⟨A,n,c,xs,rfl,hx,h1⟩
 have e1:w1.cell? ⟨w.heap.size+1,0,none⟩=some (.int .i64 b):=(h1.cell (p:=⟨w.heap.size+1,0,none⟩) (by simp)).trans (by simp [go_sem])
 have e2:w1.cell? ⟨w.heap.size+1,1,none⟩=some (.pointer Q):=(h1.cell (p:=⟨w.heap.size+1,1,none⟩) (by simp)).trans (by simp [go_sem])
 have K1:=Lh (below_on Kk.out h1)
 have R1:=Lh (Hr.out.keep h1)
 have Hnx:=Lh hx
 clear h1 hx
 go_wp2_with fail
 refine (Hy.out _ K1.out).mono ?_
 rintro e w2 ⟨A',n',c',ys,rfl,hy,h2⟩
 have Hnx2:=Lh (Hnx.out.keep h2)
 have Hny:=Lh hy
 have K2:=Lh (below_on K1.out h2)
 have R2:=Lh (R1.out.keep h2)
 have hn:=Hnx2.out.len_le Hlz.out
 have hn':=Hny.out.len_le Hlk.out
 have hz0:=Hnx2.out.zero_iff
 have hk0:=Hny.out.zero_iff
 have hsome:n≠0∨n'≠0:=by
  rcases Hone.out with h0 | h0
  ·left; intro e; exact h0 (by have:=hz0.1 e; omega)
  ·right; intro e; exact h0 (by have:=hk0.1 e; omega)
 clear h2 hy e1 e2
 by_cases hsame:bz=bk
 ·have Hs:=Lh (Hsame.out hsame)
  have Hadd:=Lh (addNat_any w2 Hnx2.out Hny.out (by omega) (by omega) (by omega))
  subst hsame
  cases bz
  all_goals
   go_wp2_with fail
   refine Hadd.out.mono ?_
   rintro e w3 ⟨A3,n3,c3,zs,rfl,h3n,h3⟩
   have K4:=Lh (below_on K2.out h3)
   have R4:=Lh (R2.out.keep h3)
   have Hsg:=Lh (signed_new _ _ w3 h3n Hs.out)
   clear h3n h3
   go_wp2_with fail
   refine Hsg.out.mono ?_
   rintro e w5 ⟨a',P',rfl,hi5,h5⟩
   have R5:=Lh (R4.out.keep h5)
   have Hi5:=Lh (hi5.stored R5.out (.int .i64 a') (.pointer P'))
   have K5:=Lh (below_stored (below_on K4.out h5) (show w.heap.size≤w.heap.size+2 by omega) (.int .i64 a') (.pointer P'))
   have k0:=R5.out.k0
   have k1:=R5.out.k1
   have f0:=R5.out.f0
   have f1:=R5.out.f1
   clear hi5 h5
   go_wp2
   exact bodyPost_ret (v:= .agg #[.int .i64 a',.pointer P']) (by simp [results,Tryz.results119,go_sem,k0,k1]) rfl ⟨a',P',rfl,Hi5.out,K5.out⟩
 ·have hbb:(bz == bk)=false:=by rw [beq_eq_false_iff_ne]; exact hsame
  have Hc:=Lh (compareNat_any w2 Hnx2.out Hny.out)
  by_cases hle:k.natAbs≤z.natAbs
  ·have hcmp:∃ r:Int,cmpN z.natAbs k.natAbs=r∧0≤r:=by
    refine ⟨_,rfl,?_⟩
    unfold cmpN
    rw [if_neg (by omega)]
    split <;> decide
   obtain ⟨r,hr,hr0⟩:=hcmp
   have Hs:=Lh (Hge.out hsame hle)
   rw [hr] at Hc
   have hsub:∀ w3,Below w2.heap.size w2 w3→_:=fun w3 h=>subNat_any w3 (Hnx2.out.keep h) (Hny.out.keep h) hle (by
    rcases Nat.eq_zero_or_pos n with h0 | h0
    ·exfalso
     have h1:=hz0.1 h0
     have h2:=hk0.2 (by omega)
     omega
    ·exact h0) (by omega)
   have Hsub:=Lh hsub
   clear hr hsub
   cases bz <;> cases bk
   all_goals first
    | exact absurd rfl hsame
    | skip
   all_goals
    go_wp2_with fail
    refine Hc.out.mono ?_
    rintro e w3 ⟨rfl,h3⟩
    have K3:=Lh (below_on K2.out h3)
    have R3:=Lh (R2.out.keep h3)
    have Hsb:=Lh (Hsub.out w3 h3)
    clear h3
    go_wp2_with fail
    refine Hsb.out.mono ?_
    rintro e w4 ⟨A3,n3,c3,zs,rfl,h3n,h4⟩
    have K4:=Lh (below_on K3.out h4)
    have R4:=Lh (R3.out.keep h4)
    have Hsg:=Lh (signed_new _ _ w4 h3n Hs.out)
    clear h3n h4
    go_wp2_with fail
    refine Hsg.out.mono ?_
    rintro e w5 ⟨a',P',rfl,hi5,h5⟩
    have R5:=Lh (R4.out.keep h5)
    have Hi5:=Lh (hi5.stored R5.out (.int .i64 a') (.pointer P'))
    have K5:=Lh (below_stored (below_on K4.out h5) (show w.heap.size≤w.heap.size+2 by omega) (.int .i64 a') (.pointer P'))
    have k0:=R5.out.k0
    have k1:=R5.out.k1
    have f0:=R5.out.f0
    have f1:=R5.out.f1
    clear hi5 h5
    go_wp2
    exact bodyPost_ret (v:= .agg #[.int .i64 a',.pointer P']) (by simp [results,Tryz.results119,go_sem,k0,k1]) rfl ⟨a',P',rfl,Hi5.out,K5.out⟩
  ·have Hs:=Lh (Hlt.out hsame (by omega))
   rw [cmpN_lt (show z.natAbs<k.natAbs by omega)] at Hc
   have hsub:∀ w3,Below w2.heap.size w2 w3→_:=fun w3 h=>subNat_any w3 (Hny.out.keep h) (Hnx2.out.keep h) (show z.natAbs≤k.natAbs by omega) (by
    rcases Nat.eq_zero_or_pos n' with h0 | h0
    ·exfalso
     have h1:=hk0.1 h0
     omega
    ·exact h0) (by omega)
   have Hsub:=Lh hsub
   clear hsub
   cases bz <;> cases bk
   all_goals first
    | exact absurd rfl hsame
    | skip
   all_goals
    go_wp2_with fail
    refine Hc.out.mono ?_
    rintro e w3 ⟨rfl,h3⟩
    have K3:=Lh (below_on K2.out h3)
    have R3:=Lh (R2.out.keep h3)
    have Hsb:=Lh (Hsub.out w3 h3)
    clear h3
    go_wp2_with fail
    refine Hsb.out.mono ?_
    rintro e w4 ⟨A3,n3,c3,zs,rfl,h3n,h4⟩
    have K4:=Lh (below_on K3.out h4)
    have R4:=Lh (R3.out.keep h4)
    have Hsg:=Lh (signed_new _ _ w4 h3n Hs.out)
    clear h3n h4
    go_wp2_with fail
    refine Hsg.out.mono ?_
    rintro e w5 ⟨a',P',rfl,hi5,h5⟩
    have R5:=Lh (R4.out.keep h5)
    have Hi5:=Lh (hi5.stored R5.out (.int .i64 a') (.pointer P'))
    have K5:=Lh (below_stored (below_on K4.out h5) (show w.heap.size≤w.heap.size+2 by omega) (.int .i64 a') (.pointer P'))
    have k0:=R5.out.k0
    have k1:=R5.out.k1
    have f0:=R5.out.f0
    have f1:=R5.out.f1
    clear hi5 h5
    go_wp2
    exact bodyPost_ret (v:= .agg #[.int .i64 a',.pointer P']) (by simp [results,Tryz.results119,go_sem,k0,k1]) rfl ⟨a',P',rfl,Hi5.out,K5.out⟩
theorem add_mixed (a b:Int) (p:Nat) (z k:Int) (w:World) (h:IsInt 0 w (.agg #[.int .i64 a,.pointer none]) z) (h':IsInt 0 w (.agg #[.int .i64 b,.pointer (some ⟨p,0,none⟩)]) k) (hlz:z.natAbs<base 400) (hlk:k.natAbs<base 400) (hone:z≠0∨k≠0)  :
  Calls Tryz.prog 119 #[.agg #[.int .i64 a,.pointer none],.agg #[.int .i64 b,.pointer (some ⟨p,0,none⟩)]] w (NewInt (z+k) w):=by
 obtain ⟨bz,hbz⟩:∃ bz,decide (z<0)=bz:=⟨_,rfl⟩
 obtain ⟨bk,hbk⟩:∃ bk,decide (k<0)=bk:=⟨_,rfl⟩
 have kk:=(((Below.refl w.heap.size w).alloc (Nat.le_refl _) (.cells #[.int .i64 a,.pointer none] 28)).alloc (by simp) (.cells #[.int .i64 b,.pointer (some ⟨p,0,none⟩)] 28)).alloc (by simp; omega) (.cells #[.int .i64 0,.pointer none] 28)
 have Hr:=Lh (Res.new ((w.alloc (.cells #[.int .i64 a,.pointer none] 28)).alloc (.cells #[.int .i64 b,.pointer (some ⟨p,0,none⟩)] 28)))
 simp only [World.size_alloc] at Hr
 have Hx:=Lh (parts_at _ z _ bz hbz (h.keep kk))
 have Hy:=Lh (fun w' (hb:Below w.heap.size w w')=>parts_at _ k w' bk hbk (h'.keep hb))
 have Kk:=Lh kk
 have Hlz:=Lh hlz
 have Hlk:=Lh hlk
 have Hone:=Lh hone
 have hsame:bz=bk→signZ bz (z.natAbs+k.natAbs)=z+k:=fun e=>by rw [← hbz] at e ⊢; exact sign_same (by rw [e,hbk])
 have hge:bz≠bk→k.natAbs≤z.natAbs→signZ bz (z.natAbs - k.natAbs)=z+k:=fun e hle=>by rw [← hbz] at e ⊢; exact sign_ge (by rw [hbk]; exact e) hle
 have hlt:bz≠bk→z.natAbs<k.natAbs→signZ bk (k.natAbs - z.natAbs)=z+k:=fun e hle=>by rw [← hbk] at e ⊢; exact sign_lt (by rw [hbz]; exact e) hle
 have Hsame:=Lh hsame
 have Hge:=Lh hge
 have Hlt:=Lh hlt
 clear h h' kk hbz hbk hlz hlk hone hsame hge hlt
 go_enter Tryz.func119,Tryz.ntmps119
 go_wp2_with fail
 refine Hx.out.mono ?_
 rintro e w1 ⟨A,n,c,xs,rfl,hx,h1⟩
 have e1:w1.cell? ⟨w.heap.size+1,0,none⟩=some (.int .i64 b):=(h1.cell (p:=⟨w.heap.size+1,0,none⟩) (by simp)).trans (by simp [go_sem])
 have e2:w1.cell? ⟨w.heap.size+1,1,none⟩=some (.pointer (some ⟨p,0,none⟩)):=(h1.cell (p:=⟨w.heap.size+1,1,none⟩) (by simp)).trans (by simp [go_sem])
 have K1:=Lh (below_on Kk.out h1)
 have R1:=Lh (Hr.out.keep h1)
 have Hnx:=Lh hx
 clear h1 hx
 go_wp2_with fail
 refine (Hy.out _ K1.out).mono ?_
 rintro e w2 ⟨A',n',c',ys,rfl,hy,h2⟩
 have Hnx2:=Lh (Hnx.out.keep h2)
 have Hny:=Lh hy
 have K2:=Lh (below_on K1.out h2)
 have R2:=Lh (R1.out.keep h2)
 have hn:=Hnx2.out.len_le Hlz.out
 have hn':=Hny.out.len_le Hlk.out
 have hz0:=Hnx2.out.zero_iff
 have hk0:=Hny.out.zero_iff
 have hsome:n≠0∨n'≠0:=by
  rcases Hone.out with h0 | h0
  ·left; intro e; exact h0 (by have:=hz0.1 e; omega)
  ·right; intro e; exact h0 (by have:=hk0.1 e; omega)
 clear h2 hy e1 e2
 by_cases hsame:bz=bk
 ·have Hs:=Lh (Hsame.out hsame)
  have Hadd:=Lh (addNat_any w2 Hnx2.out Hny.out (by omega) (by omega) (by omega))
  subst hsame
  cases bz
  all_goals
   go_wp2_with fail
   refine Hadd.out.mono ?_
   rintro e w3 ⟨A3,n3,c3,zs,rfl,h3n,h3⟩
   have K4:=Lh (below_on K2.out h3)
   have R4:=Lh (R2.out.keep h3)
   have Hsg:=Lh (signed_new _ _ w3 h3n Hs.out)
   clear h3n h3
   go_wp2_with fail
   refine Hsg.out.mono ?_
   rintro e w5 ⟨a',P',rfl,hi5,h5⟩
   have R5:=Lh (R4.out.keep h5)
   have Hi5:=Lh (hi5.stored R5.out (.int .i64 a') (.pointer P'))
   have K5:=Lh (below_stored (below_on K4.out h5) (show w.heap.size≤w.heap.size+2 by omega) (.int .i64 a') (.pointer P'))
   have k0:=R5.out.k0
   have k1:=R5.out.k1
   have f0:=R5.out.f0
   have f1:=R5.out.f1
   clear hi5 h5
   go_wp2
   exact bodyPost_ret (v:= .agg #[.int .i64 a',.pointer P']) (by simp [results,Tryz.results119,go_sem,k0,k1]) rfl ⟨a',P',rfl,Hi5.out,K5.out⟩
 ·have hbb:(bz == bk)=false:=by rw [beq_eq_false_iff_ne]; exact hsame
  have Hc:=Lh (compareNat_any w2 Hnx2.out Hny.out)
  by_cases hle:k.natAbs≤z.natAbs
  ·have hcmp:∃ r:Int,cmpN z.natAbs k.natAbs=r∧0≤r:=by
    refine ⟨_,rfl,?_⟩
    unfold cmpN
    rw [if_neg (by omega)]
    split <;> decide
   obtain ⟨r,hr,hr0⟩:=hcmp
   have Hs:=Lh (Hge.out hsame hle)
   rw [hr] at Hc
   have hsub:∀ w3,Below w2.heap.size w2 w3→_:=fun w3 h=>subNat_any w3 (Hnx2.out.keep h) (Hny.out.keep h) hle (by
    rcases Nat.eq_zero_or_pos n with h0 | h0
    ·exfalso
     have h1:=hz0.1 h0
     have h2:=hk0.2 (by omega)
     omega
    ·exact h0) (by omega)
   have Hsub:=Lh hsub
   clear hr hsub
   cases bz <;> cases bk
   all_goals first
    | exact absurd rfl hsame
    | skip
   all_goals
    go_wp2_with fail
    refine Hc.out.mono ?_
    rintro e w3 ⟨rfl,h3⟩
    have K3:=Lh (below_on K2.out h3)
    have R3:=Lh (R2.out.keep h3)
    have Hsb:=Lh (Hsub.out w3 h3)
    clear h3
    go_wp2_with fail
    refine Hsb.out.mono ?_
    rintro e w4 ⟨A3,n3,c3,zs,rfl,h3n,h4⟩
    have K4:=Lh (below_on K3.out h4)
    have R4:=Lh (R3.out.keep h4)
    have Hsg:=Lh (signed_new _ _ w4 h3n Hs.out)
    clear h3n h4
    go_wp2_with fail
    refine Hsg.out.mono ?_
    rintro e w5 ⟨a',P',rfl,hi5,h5⟩
    have R5:=Lh (R4.out.keep h5)
    have Hi5:=Lh (hi5.stored R5.out (.int .i64 a') (.pointer P'))
    have K5:=Lh (below_stored (below_on K4.out h5) (show w.heap.size≤w.heap.size+2 by omega) (.int .i64 a') (.pointer P'))
    have k0:=R5.out.k0
    have k1:=R5.out.k1
    have f0:=R5.out.f0
    have f1:=R5.out.f1
    clear hi5 h5
    go_wp2
    exact bodyPost_ret (v:= .agg #[.int .i64 a',.pointer P']) (by simp [results,Tryz.results119,go_sem,k0,k1]) rfl ⟨a',P',rfl,Hi5.out,K5.out⟩
  ·have Hs:=Lh (Hlt.out hsame (by omega))
   rw [cmpN_lt (show z.natAbs<k.natAbs by omega)] at Hc
   have hsub:∀ w3,Below w2.heap.size w2 w3→_:=fun w3 h=>subNat_any w3 (Hny.out.keep h) (Hnx2.out.keep h) (show z.natAbs≤k.natAbs by omega) (by
    rcases Nat.eq_zero_or_pos n' with h0 | h0
    ·exfalso
     have h1:=hk0.1 h0
     omega
    ·exact h0) (by omega)
   have Hsub:=Lh hsub
   clear hsub
   cases bz <;> cases bk
   all_goals first
    | exact absurd rfl hsame
    | skip
   all_goals
    go_wp2_with fail
    refine Hc.out.mono ?_
    rintro e w3 ⟨rfl,h3⟩
    have K3:=Lh (below_on K2.out h3)
    have R3:=Lh (R2.out.keep h3)
    have Hsb:=Lh (Hsub.out w3 h3)
    clear h3
    go_wp2_with fail
    refine Hsb.out.mono ?_
    rintro e w4 ⟨A3,n3,c3,zs,rfl,h3n,h4⟩
    have K4:=Lh (below_on K3.out h4)
    have R4:=Lh (R3.out.keep h4)
    have Hsg:=Lh (signed_new _ _ w4 h3n Hs.out)
    clear h3n h4
    go_wp2_with fail
    refine Hsg.out.mono ?_
    rintro e w5 ⟨a',P',rfl,hi5,h5⟩
    have R5:=Lh (R4.out.keep h5)
    have Hi5:=Lh (hi5.stored R5.out (.int .i64 a') (.pointer P'))
    have K5:=Lh (below_stored (below_on K4.out h5) (show w.heap.size≤w.heap.size+2 by omega) (.int .i64 a') (.pointer P'))
    have k0:=R5.out.k0
    have k1:=R5.out.k1
    have f0:=R5.out.f0
    have f1:=R5.out.f1
    clear hi5 h5
    go_wp2
    exact bodyPost_ret (v:= .agg #[.int .i64 a',.pointer P']) (by simp [results,Tryz.results119,go_sem,k0,k1]) rfl ⟨a',P',rfl,Hi5.out,K5.out⟩
theorem over_signs {a b:Int} (ha:I64 a) (hb:I64 b) (hov:¬ I64 (a+b)):∃ s t:Int,wrap64 (a+b)=s∧bits .and .i64 (bits .xor .i64 a s) (bits .xor .i64 b s)=t∧t<0:=by
 refine ⟨_,_,rfl,rfl,?_⟩
 have hs:I64 (wrap64 (a+b)):=by unfold I64 wrap64; omega
 have h:=add_signs ha hb hs
 have h2:((decide (a<0) ^^ decide (wrap64 (a+b)<0)) && (decide (b<0) ^^ decide (wrap64 (a+b)<0)))=true:=by
  unfold I64 at ha hb hov
  by_cases h1:a<0
  ·have e1:b<0:=by omega
   have e2:¬ wrap64 (a+b)<0:=by unfold wrap64; omega
   simp [h1,e1,e2]
  ·have e1:¬ b<0:=by omega
   have e2:wrap64 (a+b)<0:=by unfold wrap64; omega
   simp [h1,e1,e2]
 rw [h2] at h
 exact of_decide_eq_true h
theorem fine_signs {a b:Int} (ha:I64 a) (hb:I64 b) (hs:I64 (a+b)):∃ t:Int,bits .and .i64 (bits .xor .i64 a (a+b)) (bits .xor .i64 b (a+b))=t∧0≤t:=by
 refine ⟨_,rfl,?_⟩
 have h:=add_signs ha hb hs
 have h2:((decide (a<0) ^^ decide (a+b<0)) && (decide (b<0) ^^ decide (a+b<0)))=false:=by
  by_cases h1:a<0 <;> by_cases h2:b<0 <;> by_cases h3:a+b<0 <;> simp [h1,h2,h3] <;> omega
 rw [h2] at h
 have:=of_decide_eq_false h
 omega
theorem add_small (a b:Int) (w:World) (ha:I64 a) (hb:I64 b) (hs:I64 (a+b)) :
  Calls Tryz.prog 119 #[small a,small b] w (NewInt (a+b) w):=by
 obtain ⟨t,ht,ht0⟩:=fine_signs ha hb hs
 have Hs:=Lh hs
 unfold I64 at ha hb hs
 have ht1:0≤bits .and .i64 (bits .xor .i64 a (a+b)) (bits .xor .i64 b (a+b)):=by rw [ht]; exact ht0
 go_enter Tryz.func119,Tryz.ntmps119
 go_wp2
 exact bodyPost_ret (v:=small (a+b)) (by simp [results,Tryz.results119,go_sem]) rfl ⟨a+b,none,rfl,.inl ⟨Hs.out,rfl⟩,(((Below.refl w.heap.size w).alloc (Nat.le_refl _) _).alloc (by simp) _).alloc (by simp; omega) _⟩
theorem add_over (a b:Int)  (z k:Int) (w:World) (h:IsInt 0 w (.agg #[.int .i64 a,.pointer none]) z) (h':IsInt 0 w (.agg #[.int .i64 b,.pointer none]) k) (hlz:z.natAbs<base 400) (hlk:k.natAbs<base 400) (hone:z≠0∨k≠0) (ha:I64 a) (hb:I64 b) (hov:¬ I64 (a+b)) :
  Calls Tryz.prog 119 #[.agg #[.int .i64 a,.pointer none],.agg #[.int .i64 b,.pointer none]] w (NewInt (z+k) w):=by
 obtain ⟨bz,hbz⟩:∃ bz,decide (z<0)=bz:=⟨_,rfl⟩
 obtain ⟨bk,hbk⟩:∃ bk,decide (k<0)=bk:=⟨_,rfl⟩
 have kk:=(((Below.refl w.heap.size w).alloc (Nat.le_refl _) (.cells #[.int .i64 a,.pointer none] 28)).alloc (by simp) (.cells #[.int .i64 b,.pointer none] 28)).alloc (by simp; omega) (.cells #[.int .i64 0,.pointer none] 28)
 have Hr:=Lh (Res.new ((w.alloc (.cells #[.int .i64 a,.pointer none] 28)).alloc (.cells #[.int .i64 b,.pointer none] 28)))
 simp only [World.size_alloc] at Hr
 have Hx:=Lh (parts_at _ z _ bz hbz (h.keep kk))
 have Hy:=Lh (fun w' (hb:Below w.heap.size w w')=>parts_at _ k w' bk hbk (h'.keep hb))
 have Kk:=Lh kk
 have Hlz:=Lh hlz
 have Hlk:=Lh hlk
 have Hone:=Lh hone
 have hsame:bz=bk→signZ bz (z.natAbs+k.natAbs)=z+k:=fun e=>by rw [← hbz] at e ⊢; exact sign_same (by rw [e,hbk])
 have hge:bz≠bk→k.natAbs≤z.natAbs→signZ bz (z.natAbs - k.natAbs)=z+k:=fun e hle=>by rw [← hbz] at e ⊢; exact sign_ge (by rw [hbk]; exact e) hle
 have hlt:bz≠bk→z.natAbs<k.natAbs→signZ bk (k.natAbs - z.natAbs)=z+k:=fun e hle=>by rw [← hbk] at e ⊢; exact sign_lt (by rw [hbz]; exact e) hle
 have Hsame:=Lh hsame
 have Hge:=Lh hge
 have Hlt:=Lh hlt
 clear h h' kk hbz hbk hlz hlk hone hsame hge hlt
 obtain ⟨s,t,hs,ht,ht0⟩:=over_signs ha hb hov
 unfold I64 at ha hb
 have ht1:¬ 0≤bits .and .i64 (bits .xor .i64 a s) (bits .xor .i64 b s):=by rw [ht]; omega
 clear ht ht0 hov
 go_enter Tryz.func119,Tryz.ntmps119
 go_wp2_with fail
 refine Hx.out.mono ?_
 rintro e w1 ⟨A,n,c,xs,rfl,hx,h1⟩
 have e1:w1.cell? ⟨w.heap.size+1,0,none⟩=some (.int .i64 b):=(h1.cell (p:=⟨w.heap.size+1,0,none⟩) (by simp)).trans (by simp [go_sem])
 have e2:w1.cell? ⟨w.heap.size+1,1,none⟩=some (.pointer none):=(h1.cell (p:=⟨w.heap.size+1,1,none⟩) (by simp)).trans (by simp [go_sem])
 have K1:=Lh (below_on Kk.out h1)
 have R1:=Lh (Hr.out.keep h1)
 have Hnx:=Lh hx
 clear h1 hx
 go_wp2_with fail
 refine (Hy.out _ K1.out).mono ?_
 rintro e w2 ⟨A',n',c',ys,rfl,hy,h2⟩
 have Hnx2:=Lh (Hnx.out.keep h2)
 have Hny:=Lh hy
 have K2:=Lh (below_on K1.out h2)
 have R2:=Lh (R1.out.keep h2)
 have hn:=Hnx2.out.len_le Hlz.out
 have hn':=Hny.out.len_le Hlk.out
 have hz0:=Hnx2.out.zero_iff
 have hk0:=Hny.out.zero_iff
 have hsome:n≠0∨n'≠0:=by
  rcases Hone.out with h0 | h0
  ·left; intro e; exact h0 (by have:=hz0.1 e; omega)
  ·right; intro e; exact h0 (by have:=hk0.1 e; omega)
 clear h2 hy e1 e2
 by_cases hsame:bz=bk
 ·have Hs:=Lh (Hsame.out hsame)
  have Hadd:=Lh (addNat_any w2 Hnx2.out Hny.out (by omega) (by omega) (by omega))
  subst hsame
  cases bz
  all_goals
   go_wp2_with fail
   refine Hadd.out.mono ?_
   rintro e w3 ⟨A3,n3,c3,zs,rfl,h3n,h3⟩
   have K4:=Lh (below_on K2.out h3)
   have R4:=Lh (R2.out.keep h3)
   have Hsg:=Lh (signed_new _ _ w3 h3n Hs.out)
   clear h3n h3
   go_wp2_with fail
   refine Hsg.out.mono ?_
   rintro e w5 ⟨a',P',rfl,hi5,h5⟩
   have R5:=Lh (R4.out.keep h5)
   have Hi5:=Lh (hi5.stored R5.out (.int .i64 a') (.pointer P'))
   have K5:=Lh (below_stored (below_on K4.out h5) (show w.heap.size≤w.heap.size+2 by omega) (.int .i64 a') (.pointer P'))
   have k0:=R5.out.k0
   have k1:=R5.out.k1
   have f0:=R5.out.f0
   have f1:=R5.out.f1
   clear hi5 h5
   go_wp2
   exact bodyPost_ret (v:= .agg #[.int .i64 a',.pointer P']) (by simp [results,Tryz.results119,go_sem,k0,k1]) rfl ⟨a',P',rfl,Hi5.out,K5.out⟩
 ·have hbb:(bz == bk)=false:=by rw [beq_eq_false_iff_ne]; exact hsame
  have Hc:=Lh (compareNat_any w2 Hnx2.out Hny.out)
  by_cases hle:k.natAbs≤z.natAbs
  ·have hcmp:∃ r:Int,cmpN z.natAbs k.natAbs=r∧0≤r:=by
    refine ⟨_,rfl,?_⟩
    unfold cmpN
    rw [if_neg (by omega)]
    split <;> decide
   obtain ⟨r,hr,hr0⟩:=hcmp
   have Hs:=Lh (Hge.out hsame hle)
   rw [hr] at Hc
   have hsub:∀ w3,Below w2.heap.size w2 w3→_:=fun w3 h=>subNat_any w3 (Hnx2.out.keep h) (Hny.out.keep h) hle (by
    rcases Nat.eq_zero_or_pos n with h0 | h0
    ·exfalso
     have h1:=hz0.1 h0
     have h2:=hk0.2 (by omega)
     omega
    ·exact h0) (by omega)
   have Hsub:=Lh hsub
   clear hr hsub
   cases bz <;> cases bk
   all_goals first
    | exact absurd rfl hsame
    | skip
   all_goals
    go_wp2_with fail
    refine Hc.out.mono ?_
    rintro e w3 ⟨rfl,h3⟩
    have K3:=Lh (below_on K2.out h3)
    have R3:=Lh (R2.out.keep h3)
    have Hsb:=Lh (Hsub.out w3 h3)
    clear h3
    go_wp2_with fail
    refine Hsb.out.mono ?_
    rintro e w4 ⟨A3,n3,c3,zs,rfl,h3n,h4⟩
    have K4:=Lh (below_on K3.out h4)
    have R4:=Lh (R3.out.keep h4)
    have Hsg:=Lh (signed_new _ _ w4 h3n Hs.out)
    clear h3n h4
    go_wp2_with fail
    refine Hsg.out.mono ?_
    rintro e w5 ⟨a',P',rfl,hi5,h5⟩
    have R5:=Lh (R4.out.keep h5)
    have Hi5:=Lh (hi5.stored R5.out (.int .i64 a') (.pointer P'))
    have K5:=Lh (below_stored (below_on K4.out h5) (show w.heap.size≤w.heap.size+2 by omega) (.int .i64 a') (.pointer P'))
    have k0:=R5.out.k0
    have k1:=R5.out.k1
    have f0:=R5.out.f0
    have f1:=R5.out.f1
    clear hi5 h5
    go_wp2
    exact bodyPost_ret (v:= .agg #[.int .i64 a',.pointer P']) (by simp [results,Tryz.results119,go_sem,k0,k1]) rfl ⟨a',P',rfl,Hi5.out,K5.out⟩
  ·have Hs:=Lh (Hlt.out hsame (by omega))
   rw [cmpN_lt (show z.natAbs<k.natAbs by omega)] at Hc
   have hsub:∀ w3,Below w2.heap.size w2 w3→_:=fun w3 h=>subNat_any w3 (Hny.out.keep h) (Hnx2.out.keep h) (show z.natAbs≤k.natAbs by omega) (by
    rcases Nat.eq_zero_or_pos n' with h0 | h0
    ·exfalso
     have h1:=hk0.1 h0
     omega
    ·exact h0) (by omega)
   have Hsub:=Lh hsub
   clear hsub
   cases bz <;> cases bk
   all_goals first
    | exact absurd rfl hsame
    | skip
   all_goals
    go_wp2_with fail
    refine Hc.out.mono ?_
    rintro e w3 ⟨rfl,h3⟩
    have K3:=Lh (below_on K2.out h3)
    have R3:=Lh (R2.out.keep h3)
    have Hsb:=Lh (Hsub.out w3 h3)
    clear h3
    go_wp2_with fail
    refine Hsb.out.mono ?_
    rintro e w4 ⟨A3,n3,c3,zs,rfl,h3n,h4⟩
    have K4:=Lh (below_on K3.out h4)
    have R4:=Lh (R3.out.keep h4)
    have Hsg:=Lh (signed_new _ _ w4 h3n Hs.out)
    clear h3n h4
    go_wp2_with fail
    refine Hsg.out.mono ?_
    rintro e w5 ⟨a',P',rfl,hi5,h5⟩
    have R5:=Lh (R4.out.keep h5)
    have Hi5:=Lh (hi5.stored R5.out (.int .i64 a') (.pointer P'))
    have K5:=Lh (below_stored (below_on K4.out h5) (show w.heap.size≤w.heap.size+2 by omega) (.int .i64 a') (.pointer P'))
    have k0:=R5.out.k0
    have k1:=R5.out.k1
    have f0:=R5.out.f0
    have f1:=R5.out.f1
    clear hi5 h5
    go_wp2
    exact bodyPost_ret (v:= .agg #[.int .i64 a',.pointer P']) (by simp [results,Tryz.results119,go_sem,k0,k1]) rfl ⟨a',P',rfl,Hi5.out,K5.out⟩
theorem small_eq {a:Int} {P:Option Addr} {z:Int} (h:(Value.agg #[.int .i64 a,.pointer P])=small z):a=z∧P=none:=by simpa [small] using h
theorem add_any (a b:Int) (P Q:Option Addr) (z k:Int) (w:World) (h:IsInt 0 w (.agg #[.int .i64 a,.pointer P]) z) (h':IsInt 0 w (.agg #[.int .i64 b,.pointer Q]) k) (hlz:z.natAbs<base 400) (hlk:k.natAbs<base 400) :
  Calls Tryz.prog 119 #[.agg #[.int .i64 a,.pointer P],.agg #[.int .i64 b,.pointer Q]] w (NewInt (z+k) w):=by
 rcases h.ways with ⟨hz,e⟩ | ⟨hz,p,e,_,_⟩
 ·obtain ⟨rfl,rfl⟩:=small_eq e
  rcases h'.ways with ⟨hk,e'⟩ | ⟨hk,q,e',_,_⟩
  ·obtain ⟨rfl,rfl⟩:=small_eq e'
   by_cases hs:I64 (a+b)
   ·exact add_small a b w hz hk hs
   ·exact add_over a b a b w h h' hlz hlk (by unfold I64 at hs; omega) hz hk hs
  ·obtain ⟨rfl,rfl⟩:b=0∧Q=some ⟨q,0,none⟩:=by simpa using e'
   exact add_mixed a 0 q a k w h h' hlz hlk (by unfold I64 at hk; omega)
 ·obtain ⟨rfl,rfl⟩:a=0∧P=some ⟨p,0,none⟩:=by simpa using e
  exact add_large 0 b p Q z k w h h' hlz hlk (by unfold I64 at hz; omega)
end Go.Proofs.YtekhdklbfincpaaGreatDoor
