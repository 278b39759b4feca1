/- GC11: AddZ Bits -/
import Derived.Test.YtekhdklbfincpaaGreatDoorGC10
import Derived.Test.YtekhdklbfincpaaGreatDoorGC08
set_option maxRecDepth 100000
set_option maxHeartbeats 16000000
namespace Go.Proofs.YtekhdklbfincpaaGreatDoor
open Go.Value renaming pointer→Jp,int→Ji,agg→Ja
open Go.IntKind renaming i64→Jl
open Go.Obj renaming cells→Jc
open _root_.Option renaming none→Jn,some→Jo
open _root_.Nat renaming eq_zero_or_pos→M0,le_refl→M1,mul_le_mul_left→M4,pow_add→M5
open Go.RowKit.Below renaming refl→M2
open Go.World renaming size_alloc→M3
open Go.RowKit
theorem Du(a b:Int)(p:Nat)(Q:Option Addr)(z k:Int)(w:World)(h:Jq 0 w (Ja #[Ji Jl a,Jp (Jo ⟨p,0,Jn⟩)]) z)(h':Jq 0 w (Ja #[Ji Jl b,Jp Q]) k)(hlz:z.natAbs<base 400)(hlk:k.natAbs<base 400)(hone:z≠0\/k≠0)  :
  Calls Tryz.prog 119 #[Ja #[Ji Jl a,Jp (Jo ⟨p,0,Jn⟩)],Ja #[Ji Jl b,Jp Q]] w (Qt (z+k) w):=by
 obtain⟨bz,hbz⟩:∃bz,decide (z<0)=bz:=⟨_,rfl⟩;obtain⟨bk,hbk⟩:∃bk,decide (k<0)=bk:=⟨_,rfl⟩;have kk:=(((M2 w.heap.size w).alloc (M1 _) (Jc #[Ji Jl a,Jp (Jo ⟨p,0,Jn⟩)] 28)).alloc (by simp) (Jc #[Ji Jl b,Jp Q] 28)).alloc (by simp;omega) (Jc #[Ji Jl 0,Jp Jn] 28);have Hr:=Lh (Res.new ((w.alloc (Jc #[Ji Jl a,Jp (Jo ⟨p,0,Jn⟩)] 28)).alloc (Jc #[Ji Jl b,Jp Q] 28)));simp only[M3]at Hr;have Hx:=Lh (JI _ z _ bz hbz (h.keep kk));have Hy:=Lh (fun w' (hb:Below w.heap.size w w')=>JI _ k w' bk hbk (h'.keep hb));have Kk:=Lh kk;have Hlz:=Lh hlz;have Hlk:=Lh hlk;have Hone:=Lh hone;have hsame:bz=bk->Jk bz (z.natAbs+k.natAbs)=z+k:=fun e=>by rw[←hbz]at e ⊢;exact VS (by rw[e,hbk])
 have hge:bz≠bk->k.natAbs<=z.natAbs->Jk bz (z.natAbs-k.natAbs)=z+k:=fun e hle=>by rw[←hbz]at e ⊢;exact Zz (by rw[hbk];exact e) hle
 have hlt:bz≠bk->z.natAbs<k.natAbs->Jk bk (k.natAbs-z.natAbs)=z+k:=fun e hle=>by rw[←hbk]at e ⊢;exact Zy (by rw[hbz];exact e) hle
 have Hsame:=Lh hsame;have Hge:=Lh hge;have Hlt:=Lh hlt;clear h h' kk hbz hbk hlz hlk hone hsame hge hlt;go_enter Tryz.func119,Tryz.ntmps119;go_wp2_with fail
 refine Hx.out.mono ?_;rintro e w1⟨A,n,c,xs,rfl,hx,h1⟩;have e1:w1.cell? ⟨w.heap.size+1,0,Jn⟩=Jo (Ji Jl b):=(h1.cell (p:=⟨w.heap.size+1,0,Jn⟩) (by simp)).trans (by simp[go_sem]);have e2:w1.cell? ⟨w.heap.size+1,1,Jn⟩=Jo (Jp Q):=(h1.cell (p:=⟨w.heap.size+1,1,Jn⟩) (by simp)).trans (by simp[go_sem]);have K1:=Lh (Jd Kk.out h1);have R1:=Lh (Hr.out.keep h1);have Hnx:=Lh hx;clear h1 hx;go_wp2_with fail
 refine(Hy.out _ K1.out).mono ?_;rintro e w2⟨A',n',c',ys,rfl,hy,h2⟩;have Hnx2:=Lh (Hnx.out.keep h2);have Hny:=Lh hy;have K2:=Lh (Jd K1.out h2);have R2:=Lh (R1.out.keep h2);have hn:=Hnx2.out.len_le Hlz.out;have hn':=Hny.out.len_le Hlk.out;have hz0:=Hnx2.out.zero_iff;have hk0:=Hny.out.zero_iff;have hsome:n≠0\/n'≠0:=by
  rcases Hone.out with h0|h0
  ·left;intro e;exact h0 (by have:=hz0.1 e;omega)
  ·right;intro e;exact h0 (by have:=hk0.1 e;omega)
 clear h2 hy e1 e2;by_cases hsame:bz=bk
 ·have Hs:=Lh (Hsame.out hsame);have Hadd:=Lh (Vc w2 Hnx2.out Hny.out (by omega) (by omega) (by omega));subst hsame;cases bz;all_goals
   go_wp2_with fail
   refine Hadd.out.mono ?_;rintro e w3⟨A3,n3,c3,zs,rfl,h3n,h3⟩;have K4:=Lh (Jd K2.out h3);have R4:=Lh (R2.out.keep h3);have Hsg:=Lh (JH _ _ w3 h3n Hs.out);clear h3n h3;go_wp2_with fail
   refine Hsg.out.mono ?_;rintro e w5⟨a',P',rfl,hi5,h5⟩;have R5:=Lh (R4.out.keep h5);have Hi5:=Lh (hi5.stored R5.out (Ji Jl a') (Jp P'));have K5:=Lh (Jg (Jd K4.out h5) (show w.heap.size<=w.heap.size+2 by omega) (Ji Jl a') (Jp P'));have k0:=R5.out.k0;have k1:=R5.out.k1;have f0:=R5.out.f0;have f1:=R5.out.f1;clear hi5 h5;go_wp2;exact bodyPost_ret (v:=Ja #[Ji Jl a',Jp P']) (by simp[results,Tryz.results119,go_sem,k0,k1]) rfl ⟨a',P',rfl,Hi5.out,K5.out⟩
 ·have hbb:(bz ==bk)=false:=by rw[beq_eq_false_iff_ne];exact hsame
  have Hc:=Lh (JQ w2 Hnx2.out Hny.out);by_cases hle:k.natAbs<=z.natAbs
  ·have hcmp:∃r:Int,cmpN z.natAbs k.natAbs=r/\0<=r:=by
    refine⟨_,rfl,?_⟩;unfold cmpN;rw[if_neg (by omega)]
    split <;> decide
   obtain⟨r,hr,hr0⟩:=hcmp;have Hs:=Lh (Hge.out hsame hle);rw[hr]at Hc;have hsub:∀ w3,Below w2.heap.size w2 w3->_:=fun w3 h=>YG w3 (Hnx2.out.keep h) (Hny.out.keep h) hle (by
    rcases M0 n with h0|h0
    ·exfalso;have h1:=hz0.1 h0;have h2:=hk0.2 (by omega);omega
    ·exact h0) (by omega)
   have Hsub:=Lh hsub;clear hr hsub;cases bz <;> cases bk
   all_goals first
    | exact absurd rfl hsame
    | skip
   all_goals
    go_wp2_with fail
    refine Hc.out.mono ?_;rintro e w3⟨rfl,h3⟩;have K3:=Lh (Jd K2.out h3);have R3:=Lh (R2.out.keep h3);have Hsb:=Lh (Hsub.out w3 h3);clear h3;go_wp2_with fail
    refine Hsb.out.mono ?_;rintro e w4⟨A3,n3,c3,zs,rfl,h3n,h4⟩;have K4:=Lh (Jd K3.out h4);have R4:=Lh (R3.out.keep h4);have Hsg:=Lh (JH _ _ w4 h3n Hs.out);clear h3n h4;go_wp2_with fail
    refine Hsg.out.mono ?_;rintro e w5⟨a',P',rfl,hi5,h5⟩;have R5:=Lh (R4.out.keep h5);have Hi5:=Lh (hi5.stored R5.out (Ji Jl a') (Jp P'));have K5:=Lh (Jg (Jd K4.out h5) (show w.heap.size<=w.heap.size+2 by omega) (Ji Jl a') (Jp P'));have k0:=R5.out.k0;have k1:=R5.out.k1;have f0:=R5.out.f0;have f1:=R5.out.f1;clear hi5 h5;go_wp2;exact bodyPost_ret (v:=Ja #[Ji Jl a',Jp P']) (by simp[results,Tryz.results119,go_sem,k0,k1]) rfl ⟨a',P',rfl,Hi5.out,K5.out⟩
  ·have Hs:=Lh (Hlt.out hsame (by omega));rw[Yg (show z.natAbs<k.natAbs by omega)]at Hc;have hsub:∀ w3,Below w2.heap.size w2 w3->_:=fun w3 h=>YG w3 (Hny.out.keep h) (Hnx2.out.keep h) (show z.natAbs<=k.natAbs by omega) (by
    rcases M0 n' with h0|h0
    ·exfalso;have h1:=hk0.1 h0;omega
    ·exact h0) (by omega)
   have Hsub:=Lh hsub;clear hsub;cases bz <;> cases bk
   all_goals first
    | exact absurd rfl hsame
    | skip
   all_goals
    go_wp2_with fail
    refine Hc.out.mono ?_;rintro e w3⟨rfl,h3⟩;have K3:=Lh (Jd K2.out h3);have R3:=Lh (R2.out.keep h3);have Hsb:=Lh (Hsub.out w3 h3);clear h3;go_wp2_with fail
    refine Hsb.out.mono ?_;rintro e w4⟨A3,n3,c3,zs,rfl,h3n,h4⟩;have K4:=Lh (Jd K3.out h4);have R4:=Lh (R3.out.keep h4);have Hsg:=Lh (JH _ _ w4 h3n Hs.out);clear h3n h4;go_wp2_with fail
    refine Hsg.out.mono ?_;rintro e w5⟨a',P',rfl,hi5,h5⟩;have R5:=Lh (R4.out.keep h5);have Hi5:=Lh (hi5.stored R5.out (Ji Jl a') (Jp P'));have K5:=Lh (Jg (Jd K4.out h5) (show w.heap.size<=w.heap.size+2 by omega) (Ji Jl a') (Jp P'));have k0:=R5.out.k0;have k1:=R5.out.k1;have f0:=R5.out.f0;have f1:=R5.out.f1;clear hi5 h5;go_wp2;exact bodyPost_ret (v:=Ja #[Ji Jl a',Jp P']) (by simp[results,Tryz.results119,go_sem,k0,k1]) rfl ⟨a',P',rfl,Hi5.out,K5.out⟩
theorem Dt(a b:Int)(p:Nat)(z k:Int)(w:World)(h:Jq 0 w (Ja #[Ji Jl a,Jp Jn]) z)(h':Jq 0 w (Ja #[Ji Jl b,Jp (Jo ⟨p,0,Jn⟩)]) k)(hlz:z.natAbs<base 400)(hlk:k.natAbs<base 400)(hone:z≠0\/k≠0)  :
  Calls Tryz.prog 119 #[Ja #[Ji Jl a,Jp Jn],Ja #[Ji Jl b,Jp (Jo ⟨p,0,Jn⟩)]] w (Qt (z+k) w):=by
 obtain⟨bz,hbz⟩:∃bz,decide (z<0)=bz:=⟨_,rfl⟩;obtain⟨bk,hbk⟩:∃bk,decide (k<0)=bk:=⟨_,rfl⟩;have kk:=(((M2 w.heap.size w).alloc (M1 _) (Jc #[Ji Jl a,Jp Jn] 28)).alloc (by simp) (Jc #[Ji Jl b,Jp (Jo ⟨p,0,Jn⟩)] 28)).alloc (by simp;omega) (Jc #[Ji Jl 0,Jp Jn] 28);have Hr:=Lh (Res.new ((w.alloc (Jc #[Ji Jl a,Jp Jn] 28)).alloc (Jc #[Ji Jl b,Jp (Jo ⟨p,0,Jn⟩)] 28)));simp only[M3]at Hr;have Hx:=Lh (JI _ z _ bz hbz (h.keep kk));have Hy:=Lh (fun w' (hb:Below w.heap.size w w')=>JI _ k w' bk hbk (h'.keep hb));have Kk:=Lh kk;have Hlz:=Lh hlz;have Hlk:=Lh hlk;have Hone:=Lh hone;have hsame:bz=bk->Jk bz (z.natAbs+k.natAbs)=z+k:=fun e=>by rw[←hbz]at e ⊢;exact VS (by rw[e,hbk])
 have hge:bz≠bk->k.natAbs<=z.natAbs->Jk bz (z.natAbs-k.natAbs)=z+k:=fun e hle=>by rw[←hbz]at e ⊢;exact Zz (by rw[hbk];exact e) hle
 have hlt:bz≠bk->z.natAbs<k.natAbs->Jk bk (k.natAbs-z.natAbs)=z+k:=fun e hle=>by rw[←hbk]at e ⊢;exact Zy (by rw[hbz];exact e) hle
 have Hsame:=Lh hsame;have Hge:=Lh hge;have Hlt:=Lh hlt;clear h h' kk hbz hbk hlz hlk hone hsame hge hlt;go_enter Tryz.func119,Tryz.ntmps119;go_wp2_with fail
 refine Hx.out.mono ?_;rintro e w1⟨A,n,c,xs,rfl,hx,h1⟩;have e1:w1.cell? ⟨w.heap.size+1,0,Jn⟩=Jo (Ji Jl b):=(h1.cell (p:=⟨w.heap.size+1,0,Jn⟩) (by simp)).trans (by simp[go_sem]);have e2:w1.cell? ⟨w.heap.size+1,1,Jn⟩=Jo (Jp (Jo ⟨p,0,Jn⟩)):=(h1.cell (p:=⟨w.heap.size+1,1,Jn⟩) (by simp)).trans (by simp[go_sem]);have K1:=Lh (Jd Kk.out h1);have R1:=Lh (Hr.out.keep h1);have Hnx:=Lh hx;clear h1 hx;go_wp2_with fail
 refine(Hy.out _ K1.out).mono ?_;rintro e w2⟨A',n',c',ys,rfl,hy,h2⟩;have Hnx2:=Lh (Hnx.out.keep h2);have Hny:=Lh hy;have K2:=Lh (Jd K1.out h2);have R2:=Lh (R1.out.keep h2);have hn:=Hnx2.out.len_le Hlz.out;have hn':=Hny.out.len_le Hlk.out;have hz0:=Hnx2.out.zero_iff;have hk0:=Hny.out.zero_iff;have hsome:n≠0\/n'≠0:=by
  rcases Hone.out with h0|h0
  ·left;intro e;exact h0 (by have:=hz0.1 e;omega)
  ·right;intro e;exact h0 (by have:=hk0.1 e;omega)
 clear h2 hy e1 e2;by_cases hsame:bz=bk
 ·have Hs:=Lh (Hsame.out hsame);have Hadd:=Lh (Vc w2 Hnx2.out Hny.out (by omega) (by omega) (by omega));subst hsame;cases bz;all_goals
   go_wp2_with fail
   refine Hadd.out.mono ?_;rintro e w3⟨A3,n3,c3,zs,rfl,h3n,h3⟩;have K4:=Lh (Jd K2.out h3);have R4:=Lh (R2.out.keep h3);have Hsg:=Lh (JH _ _ w3 h3n Hs.out);clear h3n h3;go_wp2_with fail
   refine Hsg.out.mono ?_;rintro e w5⟨a',P',rfl,hi5,h5⟩;have R5:=Lh (R4.out.keep h5);have Hi5:=Lh (hi5.stored R5.out (Ji Jl a') (Jp P'));have K5:=Lh (Jg (Jd K4.out h5) (show w.heap.size<=w.heap.size+2 by omega) (Ji Jl a') (Jp P'));have k0:=R5.out.k0;have k1:=R5.out.k1;have f0:=R5.out.f0;have f1:=R5.out.f1;clear hi5 h5;go_wp2;exact bodyPost_ret (v:=Ja #[Ji Jl a',Jp P']) (by simp[results,Tryz.results119,go_sem,k0,k1]) rfl ⟨a',P',rfl,Hi5.out,K5.out⟩
 ·have hbb:(bz ==bk)=false:=by rw[beq_eq_false_iff_ne];exact hsame
  have Hc:=Lh (JQ w2 Hnx2.out Hny.out);by_cases hle:k.natAbs<=z.natAbs
  ·have hcmp:∃r:Int,cmpN z.natAbs k.natAbs=r/\0<=r:=by
    refine⟨_,rfl,?_⟩;unfold cmpN;rw[if_neg (by omega)]
    split <;> decide
   obtain⟨r,hr,hr0⟩:=hcmp;have Hs:=Lh (Hge.out hsame hle);rw[hr]at Hc;have hsub:∀ w3,Below w2.heap.size w2 w3->_:=fun w3 h=>YG w3 (Hnx2.out.keep h) (Hny.out.keep h) hle (by
    rcases M0 n with h0|h0
    ·exfalso;have h1:=hz0.1 h0;have h2:=hk0.2 (by omega);omega
    ·exact h0) (by omega)
   have Hsub:=Lh hsub;clear hr hsub;cases bz <;> cases bk
   all_goals first
    | exact absurd rfl hsame
    | skip
   all_goals
    go_wp2_with fail
    refine Hc.out.mono ?_;rintro e w3⟨rfl,h3⟩;have K3:=Lh (Jd K2.out h3);have R3:=Lh (R2.out.keep h3);have Hsb:=Lh (Hsub.out w3 h3);clear h3;go_wp2_with fail
    refine Hsb.out.mono ?_;rintro e w4⟨A3,n3,c3,zs,rfl,h3n,h4⟩;have K4:=Lh (Jd K3.out h4);have R4:=Lh (R3.out.keep h4);have Hsg:=Lh (JH _ _ w4 h3n Hs.out);clear h3n h4;go_wp2_with fail
    refine Hsg.out.mono ?_;rintro e w5⟨a',P',rfl,hi5,h5⟩;have R5:=Lh (R4.out.keep h5);have Hi5:=Lh (hi5.stored R5.out (Ji Jl a') (Jp P'));have K5:=Lh (Jg (Jd K4.out h5) (show w.heap.size<=w.heap.size+2 by omega) (Ji Jl a') (Jp P'));have k0:=R5.out.k0;have k1:=R5.out.k1;have f0:=R5.out.f0;have f1:=R5.out.f1;clear hi5 h5;go_wp2;exact bodyPost_ret (v:=Ja #[Ji Jl a',Jp P']) (by simp[results,Tryz.results119,go_sem,k0,k1]) rfl ⟨a',P',rfl,Hi5.out,K5.out⟩
  ·have Hs:=Lh (Hlt.out hsame (by omega));rw[Yg (show z.natAbs<k.natAbs by omega)]at Hc;have hsub:∀ w3,Below w2.heap.size w2 w3->_:=fun w3 h=>YG w3 (Hny.out.keep h) (Hnx2.out.keep h) (show z.natAbs<=k.natAbs by omega) (by
    rcases M0 n' with h0|h0
    ·exfalso;have h1:=hk0.1 h0;omega
    ·exact h0) (by omega)
   have Hsub:=Lh hsub;clear hsub;cases bz <;> cases bk
   all_goals first
    | exact absurd rfl hsame
    | skip
   all_goals
    go_wp2_with fail
    refine Hc.out.mono ?_;rintro e w3⟨rfl,h3⟩;have K3:=Lh (Jd K2.out h3);have R3:=Lh (R2.out.keep h3);have Hsb:=Lh (Hsub.out w3 h3);clear h3;go_wp2_with fail
    refine Hsb.out.mono ?_;rintro e w4⟨A3,n3,c3,zs,rfl,h3n,h4⟩;have K4:=Lh (Jd K3.out h4);have R4:=Lh (R3.out.keep h4);have Hsg:=Lh (JH _ _ w4 h3n Hs.out);clear h3n h4;go_wp2_with fail
    refine Hsg.out.mono ?_;rintro e w5⟨a',P',rfl,hi5,h5⟩;have R5:=Lh (R4.out.keep h5);have Hi5:=Lh (hi5.stored R5.out (Ji Jl a') (Jp P'));have K5:=Lh (Jg (Jd K4.out h5) (show w.heap.size<=w.heap.size+2 by omega) (Ji Jl a') (Jp P'));have k0:=R5.out.k0;have k1:=R5.out.k1;have f0:=R5.out.f0;have f1:=R5.out.f1;clear hi5 h5;go_wp2;exact bodyPost_ret (v:=Ja #[Ji Jl a',Jp P']) (by simp[results,Tryz.results119,go_sem,k0,k1]) rfl ⟨a',P',rfl,Hi5.out,K5.out⟩
theorem El{a b:Int}(ha:I64 a)(hb:I64 b)(hov:¬I64 (a+b)):∃s t:Int,wrap64 (a+b)=s/\bits .and Jl (bits .xor Jl a s) (bits .xor Jl b s)=t/\t<0:=by
 refine⟨_,_,rfl,rfl,?_⟩;have hs:I64 (wrap64 (a+b)):=by unfold I64 wrap64;omega
 have h:=Zs ha hb hs;have h2:((decide (a<0) ^^ decide (wrap64 (a+b)<0)) && (decide (b<0) ^^ decide (wrap64 (a+b)<0)))=true:=by
  unfold I64 at ha hb hov;by_cases h1:a<0
  ·have e1:b<0:=by omega
   have e2:¬wrap64 (a+b)<0:=by unfold wrap64;omega
   simp[h1,e1,e2]
  ·have e1:¬b<0:=by omega
   have e2:wrap64 (a+b)<0:=by unfold wrap64;omega
   simp[h1,e1,e2]
 rw[h2]at h;exact of_decide_eq_true h
theorem Es{a b:Int}(ha:I64 a)(hb:I64 b)(hs:I64 (a+b)):∃t:Int,bits .and Jl (bits .xor Jl a (a+b)) (bits .xor Jl b (a+b))=t/\0<=t:=by
 refine⟨_,rfl,?_⟩;have h:=Zs ha hb hs;have h2:((decide (a<0) ^^ decide (a+b<0)) && (decide (b<0) ^^ decide (a+b<0)))=false:=by
  by_cases h1:a<0 <;> by_cases h2:b<0 <;> by_cases h3:a+b<0 <;> simp[h1,h2,h3] <;> omega
 rw[h2]at h;have:=of_decide_eq_false h;omega
theorem Dr(a b:Int)(w:World)(ha:I64 a)(hb:I64 b)(hs:I64 (a+b)) :
  Calls Tryz.prog 119 #[JP a,JP b] w (Qt (a+b) w):=by
 obtain⟨t,ht,ht0⟩:=Es ha hb hs;have Hs:=Lh hs;unfold I64 at ha hb hs;have ht1:0<=bits .and Jl (bits .xor Jl a (a+b)) (bits .xor Jl b (a+b)):=by rw[ht];exact ht0
 go_enter Tryz.func119,Tryz.ntmps119;go_wp2;exact bodyPost_ret (v:=JP (a+b)) (by simp[results,Tryz.results119,go_sem]) rfl ⟨a+b,Jn,rfl,.inl ⟨Hs.out,rfl⟩,(((M2 w.heap.size w).alloc (M1 _) _).alloc (by simp) _).alloc (by simp;omega) _⟩
theorem LU(a b:Int) (z k:Int)(w:World)(h:Jq 0 w (Ja #[Ji Jl a,Jp Jn]) z)(h':Jq 0 w (Ja #[Ji Jl b,Jp Jn]) k)(hlz:z.natAbs<base 400)(hlk:k.natAbs<base 400)(hone:z≠0\/k≠0)(ha:I64 a)(hb:I64 b)(hov:¬I64 (a+b)) :
  Calls Tryz.prog 119 #[Ja #[Ji Jl a,Jp Jn],Ja #[Ji Jl b,Jp Jn]] w (Qt (z+k) w):=by
 obtain⟨bz,hbz⟩:∃bz,decide (z<0)=bz:=⟨_,rfl⟩;obtain⟨bk,hbk⟩:∃bk,decide (k<0)=bk:=⟨_,rfl⟩;have kk:=(((M2 w.heap.size w).alloc (M1 _) (Jc #[Ji Jl a,Jp Jn] 28)).alloc (by simp) (Jc #[Ji Jl b,Jp Jn] 28)).alloc (by simp;omega) (Jc #[Ji Jl 0,Jp Jn] 28);have Hr:=Lh (Res.new ((w.alloc (Jc #[Ji Jl a,Jp Jn] 28)).alloc (Jc #[Ji Jl b,Jp Jn] 28)));simp only[M3]at Hr;have Hx:=Lh (JI _ z _ bz hbz (h.keep kk));have Hy:=Lh (fun w' (hb:Below w.heap.size w w')=>JI _ k w' bk hbk (h'.keep hb));have Kk:=Lh kk;have Hlz:=Lh hlz;have Hlk:=Lh hlk;have Hone:=Lh hone;have hsame:bz=bk->Jk bz (z.natAbs+k.natAbs)=z+k:=fun e=>by rw[←hbz]at e ⊢;exact VS (by rw[e,hbk])
 have hge:bz≠bk->k.natAbs<=z.natAbs->Jk bz (z.natAbs-k.natAbs)=z+k:=fun e hle=>by rw[←hbz]at e ⊢;exact Zz (by rw[hbk];exact e) hle
 have hlt:bz≠bk->z.natAbs<k.natAbs->Jk bk (k.natAbs-z.natAbs)=z+k:=fun e hle=>by rw[←hbk]at e ⊢;exact Zy (by rw[hbz];exact e) hle
 have Hsame:=Lh hsame;have Hge:=Lh hge;have Hlt:=Lh hlt;clear h h' kk hbz hbk hlz hlk hone hsame hge hlt;obtain⟨s,t,hs,ht,ht0⟩:=El ha hb hov;unfold I64 at ha hb;have ht1:¬0<=bits .and Jl (bits .xor Jl a s) (bits .xor Jl b s):=by rw[ht];omega
 clear ht ht0 hov;go_enter Tryz.func119,Tryz.ntmps119;go_wp2_with fail
 refine Hx.out.mono ?_;rintro e w1⟨A,n,c,xs,rfl,hx,h1⟩;have e1:w1.cell? ⟨w.heap.size+1,0,Jn⟩=Jo (Ji Jl b):=(h1.cell (p:=⟨w.heap.size+1,0,Jn⟩) (by simp)).trans (by simp[go_sem]);have e2:w1.cell? ⟨w.heap.size+1,1,Jn⟩=Jo (Jp Jn):=(h1.cell (p:=⟨w.heap.size+1,1,Jn⟩) (by simp)).trans (by simp[go_sem]);have K1:=Lh (Jd Kk.out h1);have R1:=Lh (Hr.out.keep h1);have Hnx:=Lh hx;clear h1 hx;go_wp2_with fail
 refine(Hy.out _ K1.out).mono ?_;rintro e w2⟨A',n',c',ys,rfl,hy,h2⟩;have Hnx2:=Lh (Hnx.out.keep h2);have Hny:=Lh hy;have K2:=Lh (Jd K1.out h2);have R2:=Lh (R1.out.keep h2);have hn:=Hnx2.out.len_le Hlz.out;have hn':=Hny.out.len_le Hlk.out;have hz0:=Hnx2.out.zero_iff;have hk0:=Hny.out.zero_iff;have hsome:n≠0\/n'≠0:=by
  rcases Hone.out with h0|h0
  ·left;intro e;exact h0 (by have:=hz0.1 e;omega)
  ·right;intro e;exact h0 (by have:=hk0.1 e;omega)
 clear h2 hy e1 e2;by_cases hsame:bz=bk
 ·have Hs:=Lh (Hsame.out hsame);have Hadd:=Lh (Vc w2 Hnx2.out Hny.out (by omega) (by omega) (by omega));subst hsame;cases bz;all_goals
   go_wp2_with fail
   refine Hadd.out.mono ?_;rintro e w3⟨A3,n3,c3,zs,rfl,h3n,h3⟩;have K4:=Lh (Jd K2.out h3);have R4:=Lh (R2.out.keep h3);have Hsg:=Lh (JH _ _ w3 h3n Hs.out);clear h3n h3;go_wp2_with fail
   refine Hsg.out.mono ?_;rintro e w5⟨a',P',rfl,hi5,h5⟩;have R5:=Lh (R4.out.keep h5);have Hi5:=Lh (hi5.stored R5.out (Ji Jl a') (Jp P'));have K5:=Lh (Jg (Jd K4.out h5) (show w.heap.size<=w.heap.size+2 by omega) (Ji Jl a') (Jp P'));have k0:=R5.out.k0;have k1:=R5.out.k1;have f0:=R5.out.f0;have f1:=R5.out.f1;clear hi5 h5;go_wp2;exact bodyPost_ret (v:=Ja #[Ji Jl a',Jp P']) (by simp[results,Tryz.results119,go_sem,k0,k1]) rfl ⟨a',P',rfl,Hi5.out,K5.out⟩
 ·have hbb:(bz ==bk)=false:=by rw[beq_eq_false_iff_ne];exact hsame
  have Hc:=Lh (JQ w2 Hnx2.out Hny.out);by_cases hle:k.natAbs<=z.natAbs
  ·have hcmp:∃r:Int,cmpN z.natAbs k.natAbs=r/\0<=r:=by
    refine⟨_,rfl,?_⟩;unfold cmpN;rw[if_neg (by omega)]
    split <;> decide
   obtain⟨r,hr,hr0⟩:=hcmp;have Hs:=Lh (Hge.out hsame hle);rw[hr]at Hc;have hsub:∀ w3,Below w2.heap.size w2 w3->_:=fun w3 h=>YG w3 (Hnx2.out.keep h) (Hny.out.keep h) hle (by
    rcases M0 n with h0|h0
    ·exfalso;have h1:=hz0.1 h0;have h2:=hk0.2 (by omega);omega
    ·exact h0) (by omega)
   have Hsub:=Lh hsub;clear hr hsub;cases bz <;> cases bk
   all_goals first
    | exact absurd rfl hsame
    | skip
   all_goals
    go_wp2_with fail
    refine Hc.out.mono ?_;rintro e w3⟨rfl,h3⟩;have K3:=Lh (Jd K2.out h3);have R3:=Lh (R2.out.keep h3);have Hsb:=Lh (Hsub.out w3 h3);clear h3;go_wp2_with fail
    refine Hsb.out.mono ?_;rintro e w4⟨A3,n3,c3,zs,rfl,h3n,h4⟩;have K4:=Lh (Jd K3.out h4);have R4:=Lh (R3.out.keep h4);have Hsg:=Lh (JH _ _ w4 h3n Hs.out);clear h3n h4;go_wp2_with fail
    refine Hsg.out.mono ?_;rintro e w5⟨a',P',rfl,hi5,h5⟩;have R5:=Lh (R4.out.keep h5);have Hi5:=Lh (hi5.stored R5.out (Ji Jl a') (Jp P'));have K5:=Lh (Jg (Jd K4.out h5) (show w.heap.size<=w.heap.size+2 by omega) (Ji Jl a') (Jp P'));have k0:=R5.out.k0;have k1:=R5.out.k1;have f0:=R5.out.f0;have f1:=R5.out.f1;clear hi5 h5;go_wp2;exact bodyPost_ret (v:=Ja #[Ji Jl a',Jp P']) (by simp[results,Tryz.results119,go_sem,k0,k1]) rfl ⟨a',P',rfl,Hi5.out,K5.out⟩
  ·have Hs:=Lh (Hlt.out hsame (by omega));rw[Yg (show z.natAbs<k.natAbs by omega)]at Hc;have hsub:∀ w3,Below w2.heap.size w2 w3->_:=fun w3 h=>YG w3 (Hny.out.keep h) (Hnx2.out.keep h) (show z.natAbs<=k.natAbs by omega) (by
    rcases M0 n' with h0|h0
    ·exfalso;have h1:=hk0.1 h0;omega
    ·exact h0) (by omega)
   have Hsub:=Lh hsub;clear hsub;cases bz <;> cases bk
   all_goals first
    | exact absurd rfl hsame
    | skip
   all_goals
    go_wp2_with fail
    refine Hc.out.mono ?_;rintro e w3⟨rfl,h3⟩;have K3:=Lh (Jd K2.out h3);have R3:=Lh (R2.out.keep h3);have Hsb:=Lh (Hsub.out w3 h3);clear h3;go_wp2_with fail
    refine Hsb.out.mono ?_;rintro e w4⟨A3,n3,c3,zs,rfl,h3n,h4⟩;have K4:=Lh (Jd K3.out h4);have R4:=Lh (R3.out.keep h4);have Hsg:=Lh (JH _ _ w4 h3n Hs.out);clear h3n h4;go_wp2_with fail
    refine Hsg.out.mono ?_;rintro e w5⟨a',P',rfl,hi5,h5⟩;have R5:=Lh (R4.out.keep h5);have Hi5:=Lh (hi5.stored R5.out (Ji Jl a') (Jp P'));have K5:=Lh (Jg (Jd K4.out h5) (show w.heap.size<=w.heap.size+2 by omega) (Ji Jl a') (Jp P'));have k0:=R5.out.k0;have k1:=R5.out.k1;have f0:=R5.out.f0;have f1:=R5.out.f1;clear hi5 h5;go_wp2;exact bodyPost_ret (v:=Ja #[Ji Jl a',Jp P']) (by simp[results,Tryz.results119,go_sem,k0,k1]) rfl ⟨a',P',rfl,Hi5.out,K5.out⟩
theorem YS{a:Int}{P:Option Addr}{z:Int}(h:(Value.agg #[Ji Jl a,Jp P])=JP z):a=z/\P=Jn:=by simpa[JP]using h
theorem VE(a b:Int)(P Q:Option Addr)(z k:Int)(w:World)(h:Jq 0 w (Ja #[Ji Jl a,Jp P]) z)(h':Jq 0 w (Ja #[Ji Jl b,Jp Q]) k)(hlz:z.natAbs<base 400)(hlk:k.natAbs<base 400) :
  Calls Tryz.prog 119 #[Ja #[Ji Jl a,Jp P],Ja #[Ji Jl b,Jp Q]] w (Qt (z+k) w):=by
 rcases h.ways with⟨hz,e⟩|⟨hz,p,e,_,_⟩
 ·obtain⟨rfl,rfl⟩:=YS e;rcases h'.ways with⟨hk,e'⟩|⟨hk,q,e',_,_⟩
  ·obtain⟨rfl,rfl⟩:=YS e';by_cases hs:I64 (a+b)
   ·exact Dr a b w hz hk hs
   ·exact LU a b a b w h h' hlz hlk (by unfold I64 at hs;omega) hz hk hs
  ·obtain⟨rfl,rfl⟩:b=0/\Q=Jo ⟨q,0,Jn⟩:=by simpa using e'
   exact Dt a 0 q a k w h h' hlz hlk (by unfold I64 at hk;omega)
 ·obtain⟨rfl,rfl⟩:a=0/\P=Jo ⟨p,0,Jn⟩:=by simpa using e
  exact Du 0 b p Q z k w h h' hlz hlk (by unfold I64 at hz;omega)
def Len2(m l:Nat):Prop:=(m=0->l=0)/\(0<m->1<=l/\2^(l-1)<=m/\m<2^l)
theorem Vz(n:Nat):base n=2^(64*n):=by
 unfold base;rw[show(18446744073709551616:Nat)=2^64 from by decide,←Nat.pow_mul]
theorem Vs{xs:List Nat}{n x m:Nat}(hw:Jz xs)(hn:xs.length=n+1)(ht:Uw xs)(hx:xs.getD n 0=x)(hv:Je xs=m):0<x/\x<18446744073709551616/\Len2 m (64*n+Lib.bitLen x):=by
 have hx1:=JN hw n;rw[hx]at hx1;have e:m=Je (xs.take n)+base n*x:=by
  have:=Qp (xs:=xs) (k:=n) hx;rw[List.take_of_length_le (by omega),hv]at this;exact this
 have hlo:=JO (JY hw n);rw[List.length_take,Nat.min_eq_left (by omega)]at hlo;have hge:base n<=m:=by
  rcases ht with h|h
  ·omega
  ·rw[hv,hn]at h;exact h
 have hx0:0<x:=by
  rcases M0 x with h|h
  ·subst h;rw[Nat.mul_zero]at e;omega
  ·exact h
 refine⟨hx0,hx1,fun h0=>?_,fun _=>?_⟩
 ·have:=Xs n;omega
 ·obtain⟨b1,b2,b3⟩:=Lib.bitLenAux_bounds 64 x hx1 (by omega);have hb:Lib.bitLenAux 64 x=Lib.bitLen x:=rfl;rw[hb]at b1 b2 b3;obtain⟨l,hl⟩:∃l,Lib.bitLen x=l+1:=⟨Lib.bitLen x-1,by omega⟩;rw[hl]at b2 b3 ⊢;rw[Nat.add_sub_cancel]at b2;refine⟨by omega,?_,?_⟩
  ·rw[show 64*n+(l+1)-1=64*n+l by omega,M5,←Vz];have:=M4 (base n) b2;omega
  ·rw[M5,←Vz];have:base n*(x+1)<=base n*2^(l+1):=M4 _ b3;rw[Nat.mul_add]at this;omega
theorem FT(p:Nat)(w:World) :
  Calls Tryz.prog 97 #[Ja #[Ji Jl 0,Jp (Jo ⟨p,0,Jn⟩)]] w fun e w'=>e= .returned (.tuple #[Ji Jl 0,.bool false])/\Below w.heap.size w w':=by
 go_enter Tryz.func97,Tryz.ntmps97;go_wp2;go_quiet (fail)
 go_wp2;go_ret2;exact⟨rfl,below_drewN ((M2 _ _).alloc (M1 _) _) _⟩
theorem Vu(a:Int)(P:Option Addr)(z:Int)(w:World)(h:Jq 0 w (Ja #[Ji Jl a,Jp P]) z) :
  Calls Tryz.prog 97 #[Ja #[Ji Jl a,Jp P]] w fun e w'=>(∃(n:Int) (b:Bool),e= .returned (.tuple #[Ji Jl n,.bool b])/\(I64 z->n=z/\b=true)/\(¬I64 z->n=0/\b=false))/\Below w.heap.size w w':=by
 rcases h.ways with⟨hz,e⟩|⟨hz,p,e,_,_⟩
 ·rw[e];exact(Nq z w).mono fun e w' ⟨h1,h2⟩=>⟨⟨z,true,h1,fun _=>⟨rfl,rfl⟩,fun h=>absurd hz h⟩,h2⟩
 ·rw[e];exact(FT p w).mono fun e w' ⟨h1,h2⟩=>⟨⟨0,false,h1,fun h=>absurd h hz,fun _=>⟨rfl,rfl⟩⟩,h2⟩
