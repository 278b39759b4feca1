/- C07: AddZ MulZ Hold -/
import Derived.Test.YthhobhjcnmmipaaGreatDoorC06
import Derived.Test.YthhobhjcnmmipaaGreatDoorC05
set_option maxRecDepth 100000
set_option maxHeartbeats 16000000
namespace Go.Proofs.YthhobhjcnmmipaaGreatDoor
open Go.Value renaming pointer→Jp,int→Ji,agg→Ja
open Go.IntKind renaming i64→Jl
open Go.Obj renaming cells→Jc
open _root_.Option renaming none→Jn,some→Jo
open Go renaming World→JW
open Go.World renaming size_alloc→E4,cell?_setCell_other→E7,cell?_of_block→E8,frozen?_setCell→EY,cell?_setCell_same→Fa,setCell→Fb,frozen?→Fc
open Go.RowKit.Below renaming refl→E5,heap_setCell→EZ
open _root_.Nat renaming eq_zero_or_pos→E6,le_refl→E9,lt_of_lt_of_le→F0
open Go.RowKit
theorem Wd(a b:Int)(p:Nat)(Q:Option Addr)(z k:Int)(w:JW)(h:Jj 0 w (Ja #[Ji Jl a,Jp (Jo ⟨p,0,Jn⟩)]) z)(h':Jj 0 w (Ja #[Ji Jl b,Jp Q]) k)(hlz:z.natAbs<base 400)(hlk:k.natAbs<base 400)(hone:z≠0\/k≠0)  :
  Calls Tryz.prog 100 #[Ja #[Ji Jl a,Jp (Jo ⟨p,0,Jn⟩)],Ja #[Ji Jl b,Jp Q]] w (Qb (z+k) w):=by
 obtain⟨bz,hbz⟩:∃bz,decide (z<0)=bz:=⟨_,rfl⟩;obtain⟨bk,hbk⟩:∃bk,decide (k<0)=bk:=⟨_,rfl⟩;have kk:=(((E5 w.heap.size w).alloc (E9 _) (Jc #[Ji Jl a,Jp (Jo ⟨p,0,Jn⟩)] 29)).alloc (by simp) (Jc #[Ji Jl b,Jp Q] 29)).alloc (by simp;omega) (Jc #[Ji Jl 0,Jp Jn] 29);have Hr:=Lh (Res.new ((w.alloc (Jc #[Ji Jl a,Jp (Jo ⟨p,0,Jn⟩)] 29)).alloc (Jc #[Ji Jl b,Jp Q] 29)));simp only[E4]at Hr;have Hx:=Lh (JF _ z _ bz hbz (h.keep kk));have Hy:=Lh (fun w' (hb:Below w.heap.size w w')=>JF _ k w' bk hbk (h'.keep hb));have Kk:=Lh kk;have Hlz:=Lh hlz;have Hlk:=Lh hlk;have Hone:=Lh hone;have hsame:bz=bk->Jx bz (z.natAbs+k.natAbs)=z+k:=fun e=>by rw[←hbz]at e ⊢;exact U5 (by rw[e,hbk])
 have hge:bz≠bk->k.natAbs<=z.natAbs->Jx bz (z.natAbs-k.natAbs)=z+k:=fun e hle=>by rw[←hbz]at e ⊢;exact VZ (by rw[hbk];exact e) hle
 have hlt:bz≠bk->z.natAbs<k.natAbs->Jx bk (k.natAbs-z.natAbs)=z+k:=fun e hle=>by rw[←hbk]at e ⊢;exact VY (by rw[hbz];exact e) hle
 have Hsame:=Lh hsame;have Hge:=Lh hge;have Hlt:=Lh hlt;clear h h' kk hbz hbk hlz hlk hone hsame hge hlt;go_enter Tryz.func100,Tryz.ntmps100;go_wp2_with fail
 refine Hx.out.mono ?_;rintro e w1⟨A,n,c,xs,rfl,hx,h1⟩;have e1:w1.cell? ⟨w.heap.size+1,0,Jn⟩=Jo (Ji Jl b):=(h1.cell (p:=⟨w.heap.size+1,0,Jn⟩) (by simp)).trans (by simp[go_sem]);have e2:w1.cell? ⟨w.heap.size+1,1,Jn⟩=Jo (Jp Q):=(h1.cell (p:=⟨w.heap.size+1,1,Jn⟩) (by simp)).trans (by simp[go_sem]);have K1:=Lh (Jd Kk.out h1);have R1:=Lh (Hr.out.keep h1);have Hnx:=Lh hx;clear h1 hx;go_wp2_with fail
 refine(Hy.out _ K1.out).mono ?_;rintro e w2⟨A',n',c',ys,rfl,hy,h2⟩;have Hnx2:=Lh (Hnx.out.keep h2);have Hny:=Lh hy;have K2:=Lh (Jd K1.out h2);have R2:=Lh (R1.out.keep h2);have hn:=Hnx2.out.len_le Hlz.out;have hn':=Hny.out.len_le Hlk.out;have hz0:=Hnx2.out.zero_iff;have hk0:=Hny.out.zero_iff;have hsome:n≠0\/n'≠0:=by
  rcases Hone.out with h0|h0
  ·left;intro e;exact h0 (by have:=hz0.1 e;omega)
  ·right;intro e;exact h0 (by have:=hk0.1 e;omega)
 clear h2 hy e1 e2;by_cases hsame:bz=bk
 ·have Hs:=Lh (Hsame.out hsame);have Hadd:=Lh (UA w2 Hnx2.out Hny.out (by omega) (by omega) (by omega));subst hsame;cases bz;all_goals
   go_wp2_with fail
   refine Hadd.out.mono ?_;rintro e w3⟨A3,n3,c3,zs,rfl,h3n,h3⟩;have K4:=Lh (Jd K2.out h3);have R4:=Lh (R2.out.keep h3);have Hsg:=Lh (JD _ _ w3 h3n Hs.out);clear h3n h3;go_wp2_with fail
   refine Hsg.out.mono ?_;rintro e w5⟨a',P',rfl,hi5,h5⟩;have R5:=Lh (R4.out.keep h5);have Hi5:=Lh (hi5.stored R5.out (Ji Jl a') (Jp P'));have K5:=Lh (Jg (Jd K4.out h5) (show w.heap.size<=w.heap.size+2 by omega) (Ji Jl a') (Jp P'));have k0:=R5.out.k0;have k1:=R5.out.k1;have f0:=R5.out.f0;have f1:=R5.out.f1;clear hi5 h5;go_wp2;exact bodyPost_ret (v:=Ja #[Ji Jl a',Jp P']) (by simp[results,Tryz.results100,go_sem,k0,k1]) rfl ⟨a',P',rfl,Hi5.out,K5.out⟩
 ·have hbb:(bz ==bk)=false:=by rw[beq_eq_false_iff_ne];exact hsame
  have Hc:=Lh (JI w2 Hnx2.out Hny.out);by_cases hle:k.natAbs<=z.natAbs
  ·have hcmp:∃r:Int,cmpN z.natAbs k.natAbs=r/\0<=r:=by
    refine⟨_,rfl,?_⟩;unfold cmpN;rw[if_neg (by omega)]
    split <;> decide
   obtain⟨r,hr,hr0⟩:=hcmp;have Hs:=Lh (Hge.out hsame hle);rw[hr]at Hc;have hsub:∀ w3,Below w2.heap.size w2 w3->_:=fun w3 h=>QZ w3 (Hnx2.out.keep h) (Hny.out.keep h) hle (by
    rcases E6 n with h0|h0
    ·exfalso;have h1:=hz0.1 h0;have h2:=hk0.2 (by omega);omega
    ·exact h0) (by omega)
   have Hsub:=Lh hsub;clear hr hsub;cases bz <;> cases bk
   all_goals first
    | exact absurd rfl hsame
    | skip
   all_goals
    go_wp2_with fail
    refine Hc.out.mono ?_;rintro e w3⟨rfl,h3⟩;have K3:=Lh (Jd K2.out h3);have R3:=Lh (R2.out.keep h3);have Hsb:=Lh (Hsub.out w3 h3);clear h3;go_wp2_with fail
    refine Hsb.out.mono ?_;rintro e w4⟨A3,n3,c3,zs,rfl,h3n,h4⟩;have K4:=Lh (Jd K3.out h4);have R4:=Lh (R3.out.keep h4);have Hsg:=Lh (JD _ _ w4 h3n Hs.out);clear h3n h4;go_wp2_with fail
    refine Hsg.out.mono ?_;rintro e w5⟨a',P',rfl,hi5,h5⟩;have R5:=Lh (R4.out.keep h5);have Hi5:=Lh (hi5.stored R5.out (Ji Jl a') (Jp P'));have K5:=Lh (Jg (Jd K4.out h5) (show w.heap.size<=w.heap.size+2 by omega) (Ji Jl a') (Jp P'));have k0:=R5.out.k0;have k1:=R5.out.k1;have f0:=R5.out.f0;have f1:=R5.out.f1;clear hi5 h5;go_wp2;exact bodyPost_ret (v:=Ja #[Ji Jl a',Jp P']) (by simp[results,Tryz.results100,go_sem,k0,k1]) rfl ⟨a',P',rfl,Hi5.out,K5.out⟩
  ·have Hs:=Lh (Hlt.out hsame (by omega));rw[YW (show z.natAbs<k.natAbs by omega)]at Hc;have hsub:∀ w3,Below w2.heap.size w2 w3->_:=fun w3 h=>QZ w3 (Hny.out.keep h) (Hnx2.out.keep h) (show z.natAbs<=k.natAbs by omega) (by
    rcases E6 n' with h0|h0
    ·exfalso;have h1:=hk0.1 h0;omega
    ·exact h0) (by omega)
   have Hsub:=Lh hsub;clear hsub;cases bz <;> cases bk
   all_goals first
    | exact absurd rfl hsame
    | skip
   all_goals
    go_wp2_with fail
    refine Hc.out.mono ?_;rintro e w3⟨rfl,h3⟩;have K3:=Lh (Jd K2.out h3);have R3:=Lh (R2.out.keep h3);have Hsb:=Lh (Hsub.out w3 h3);clear h3;go_wp2_with fail
    refine Hsb.out.mono ?_;rintro e w4⟨A3,n3,c3,zs,rfl,h3n,h4⟩;have K4:=Lh (Jd K3.out h4);have R4:=Lh (R3.out.keep h4);have Hsg:=Lh (JD _ _ w4 h3n Hs.out);clear h3n h4;go_wp2_with fail
    refine Hsg.out.mono ?_;rintro e w5⟨a',P',rfl,hi5,h5⟩;have R5:=Lh (R4.out.keep h5);have Hi5:=Lh (hi5.stored R5.out (Ji Jl a') (Jp P'));have K5:=Lh (Jg (Jd K4.out h5) (show w.heap.size<=w.heap.size+2 by omega) (Ji Jl a') (Jp P'));have k0:=R5.out.k0;have k1:=R5.out.k1;have f0:=R5.out.f0;have f1:=R5.out.f1;clear hi5 h5;go_wp2;exact bodyPost_ret (v:=Ja #[Ji Jl a',Jp P']) (by simp[results,Tryz.results100,go_sem,k0,k1]) rfl ⟨a',P',rfl,Hi5.out,K5.out⟩
theorem Wc(a b:Int)(p:Nat)(z k:Int)(w:JW)(h:Jj 0 w (Ja #[Ji Jl a,Jp Jn]) z)(h':Jj 0 w (Ja #[Ji Jl b,Jp (Jo ⟨p,0,Jn⟩)]) k)(hlz:z.natAbs<base 400)(hlk:k.natAbs<base 400)(hone:z≠0\/k≠0)  :
  Calls Tryz.prog 100 #[Ja #[Ji Jl a,Jp Jn],Ja #[Ji Jl b,Jp (Jo ⟨p,0,Jn⟩)]] w (Qb (z+k) w):=by
 obtain⟨bz,hbz⟩:∃bz,decide (z<0)=bz:=⟨_,rfl⟩;obtain⟨bk,hbk⟩:∃bk,decide (k<0)=bk:=⟨_,rfl⟩;have kk:=(((E5 w.heap.size w).alloc (E9 _) (Jc #[Ji Jl a,Jp Jn] 29)).alloc (by simp) (Jc #[Ji Jl b,Jp (Jo ⟨p,0,Jn⟩)] 29)).alloc (by simp;omega) (Jc #[Ji Jl 0,Jp Jn] 29);have Hr:=Lh (Res.new ((w.alloc (Jc #[Ji Jl a,Jp Jn] 29)).alloc (Jc #[Ji Jl b,Jp (Jo ⟨p,0,Jn⟩)] 29)));simp only[E4]at Hr;have Hx:=Lh (JF _ z _ bz hbz (h.keep kk));have Hy:=Lh (fun w' (hb:Below w.heap.size w w')=>JF _ k w' bk hbk (h'.keep hb));have Kk:=Lh kk;have Hlz:=Lh hlz;have Hlk:=Lh hlk;have Hone:=Lh hone;have hsame:bz=bk->Jx bz (z.natAbs+k.natAbs)=z+k:=fun e=>by rw[←hbz]at e ⊢;exact U5 (by rw[e,hbk])
 have hge:bz≠bk->k.natAbs<=z.natAbs->Jx bz (z.natAbs-k.natAbs)=z+k:=fun e hle=>by rw[←hbz]at e ⊢;exact VZ (by rw[hbk];exact e) hle
 have hlt:bz≠bk->z.natAbs<k.natAbs->Jx bk (k.natAbs-z.natAbs)=z+k:=fun e hle=>by rw[←hbk]at e ⊢;exact VY (by rw[hbz];exact e) hle
 have Hsame:=Lh hsame;have Hge:=Lh hge;have Hlt:=Lh hlt;clear h h' kk hbz hbk hlz hlk hone hsame hge hlt;go_enter Tryz.func100,Tryz.ntmps100;go_wp2_with fail
 refine Hx.out.mono ?_;rintro e w1⟨A,n,c,xs,rfl,hx,h1⟩;have e1:w1.cell? ⟨w.heap.size+1,0,Jn⟩=Jo (Ji Jl b):=(h1.cell (p:=⟨w.heap.size+1,0,Jn⟩) (by simp)).trans (by simp[go_sem]);have e2:w1.cell? ⟨w.heap.size+1,1,Jn⟩=Jo (Jp (Jo ⟨p,0,Jn⟩)):=(h1.cell (p:=⟨w.heap.size+1,1,Jn⟩) (by simp)).trans (by simp[go_sem]);have K1:=Lh (Jd Kk.out h1);have R1:=Lh (Hr.out.keep h1);have Hnx:=Lh hx;clear h1 hx;go_wp2_with fail
 refine(Hy.out _ K1.out).mono ?_;rintro e w2⟨A',n',c',ys,rfl,hy,h2⟩;have Hnx2:=Lh (Hnx.out.keep h2);have Hny:=Lh hy;have K2:=Lh (Jd K1.out h2);have R2:=Lh (R1.out.keep h2);have hn:=Hnx2.out.len_le Hlz.out;have hn':=Hny.out.len_le Hlk.out;have hz0:=Hnx2.out.zero_iff;have hk0:=Hny.out.zero_iff;have hsome:n≠0\/n'≠0:=by
  rcases Hone.out with h0|h0
  ·left;intro e;exact h0 (by have:=hz0.1 e;omega)
  ·right;intro e;exact h0 (by have:=hk0.1 e;omega)
 clear h2 hy e1 e2;by_cases hsame:bz=bk
 ·have Hs:=Lh (Hsame.out hsame);have Hadd:=Lh (UA w2 Hnx2.out Hny.out (by omega) (by omega) (by omega));subst hsame;cases bz;all_goals
   go_wp2_with fail
   refine Hadd.out.mono ?_;rintro e w3⟨A3,n3,c3,zs,rfl,h3n,h3⟩;have K4:=Lh (Jd K2.out h3);have R4:=Lh (R2.out.keep h3);have Hsg:=Lh (JD _ _ w3 h3n Hs.out);clear h3n h3;go_wp2_with fail
   refine Hsg.out.mono ?_;rintro e w5⟨a',P',rfl,hi5,h5⟩;have R5:=Lh (R4.out.keep h5);have Hi5:=Lh (hi5.stored R5.out (Ji Jl a') (Jp P'));have K5:=Lh (Jg (Jd K4.out h5) (show w.heap.size<=w.heap.size+2 by omega) (Ji Jl a') (Jp P'));have k0:=R5.out.k0;have k1:=R5.out.k1;have f0:=R5.out.f0;have f1:=R5.out.f1;clear hi5 h5;go_wp2;exact bodyPost_ret (v:=Ja #[Ji Jl a',Jp P']) (by simp[results,Tryz.results100,go_sem,k0,k1]) rfl ⟨a',P',rfl,Hi5.out,K5.out⟩
 ·have hbb:(bz ==bk)=false:=by rw[beq_eq_false_iff_ne];exact hsame
  have Hc:=Lh (JI w2 Hnx2.out Hny.out);by_cases hle:k.natAbs<=z.natAbs
  ·have hcmp:∃r:Int,cmpN z.natAbs k.natAbs=r/\0<=r:=by
    refine⟨_,rfl,?_⟩;unfold cmpN;rw[if_neg (by omega)]
    split <;> decide
   obtain⟨r,hr,hr0⟩:=hcmp;have Hs:=Lh (Hge.out hsame hle);rw[hr]at Hc;have hsub:∀ w3,Below w2.heap.size w2 w3->_:=fun w3 h=>QZ w3 (Hnx2.out.keep h) (Hny.out.keep h) hle (by
    rcases E6 n with h0|h0
    ·exfalso;have h1:=hz0.1 h0;have h2:=hk0.2 (by omega);omega
    ·exact h0) (by omega)
   have Hsub:=Lh hsub;clear hr hsub;cases bz <;> cases bk
   all_goals first
    | exact absurd rfl hsame
    | skip
   all_goals
    go_wp2_with fail
    refine Hc.out.mono ?_;rintro e w3⟨rfl,h3⟩;have K3:=Lh (Jd K2.out h3);have R3:=Lh (R2.out.keep h3);have Hsb:=Lh (Hsub.out w3 h3);clear h3;go_wp2_with fail
    refine Hsb.out.mono ?_;rintro e w4⟨A3,n3,c3,zs,rfl,h3n,h4⟩;have K4:=Lh (Jd K3.out h4);have R4:=Lh (R3.out.keep h4);have Hsg:=Lh (JD _ _ w4 h3n Hs.out);clear h3n h4;go_wp2_with fail
    refine Hsg.out.mono ?_;rintro e w5⟨a',P',rfl,hi5,h5⟩;have R5:=Lh (R4.out.keep h5);have Hi5:=Lh (hi5.stored R5.out (Ji Jl a') (Jp P'));have K5:=Lh (Jg (Jd K4.out h5) (show w.heap.size<=w.heap.size+2 by omega) (Ji Jl a') (Jp P'));have k0:=R5.out.k0;have k1:=R5.out.k1;have f0:=R5.out.f0;have f1:=R5.out.f1;clear hi5 h5;go_wp2;exact bodyPost_ret (v:=Ja #[Ji Jl a',Jp P']) (by simp[results,Tryz.results100,go_sem,k0,k1]) rfl ⟨a',P',rfl,Hi5.out,K5.out⟩
  ·have Hs:=Lh (Hlt.out hsame (by omega));rw[YW (show z.natAbs<k.natAbs by omega)]at Hc;have hsub:∀ w3,Below w2.heap.size w2 w3->_:=fun w3 h=>QZ w3 (Hny.out.keep h) (Hnx2.out.keep h) (show z.natAbs<=k.natAbs by omega) (by
    rcases E6 n' with h0|h0
    ·exfalso;have h1:=hk0.1 h0;omega
    ·exact h0) (by omega)
   have Hsub:=Lh hsub;clear hsub;cases bz <;> cases bk
   all_goals first
    | exact absurd rfl hsame
    | skip
   all_goals
    go_wp2_with fail
    refine Hc.out.mono ?_;rintro e w3⟨rfl,h3⟩;have K3:=Lh (Jd K2.out h3);have R3:=Lh (R2.out.keep h3);have Hsb:=Lh (Hsub.out w3 h3);clear h3;go_wp2_with fail
    refine Hsb.out.mono ?_;rintro e w4⟨A3,n3,c3,zs,rfl,h3n,h4⟩;have K4:=Lh (Jd K3.out h4);have R4:=Lh (R3.out.keep h4);have Hsg:=Lh (JD _ _ w4 h3n Hs.out);clear h3n h4;go_wp2_with fail
    refine Hsg.out.mono ?_;rintro e w5⟨a',P',rfl,hi5,h5⟩;have R5:=Lh (R4.out.keep h5);have Hi5:=Lh (hi5.stored R5.out (Ji Jl a') (Jp P'));have K5:=Lh (Jg (Jd K4.out h5) (show w.heap.size<=w.heap.size+2 by omega) (Ji Jl a') (Jp P'));have k0:=R5.out.k0;have k1:=R5.out.k1;have f0:=R5.out.f0;have f1:=R5.out.f1;clear hi5 h5;go_wp2;exact bodyPost_ret (v:=Ja #[Ji Jl a',Jp P']) (by simp[results,Tryz.results100,go_sem,k0,k1]) rfl ⟨a',P',rfl,Hi5.out,K5.out⟩
theorem ON{a b:Int}(ha:I64 a)(hb:I64 b)(hov:¬I64 (a+b)):∃s t:Int,wrap64 (a+b)=s/\bits .and Jl (bits .xor Jl a s) (bits .xor Jl b s)=t/\t<0:=by
 refine⟨_,_,rfl,rfl,?_⟩;have hs:I64 (wrap64 (a+b)):=by unfold I64 wrap64;omega
 have h:=VP ha hb hs;have h2:((decide (a<0) ^^ decide (wrap64 (a+b)<0)) && (decide (b<0) ^^ decide (wrap64 (a+b)<0)))=true:=by
  unfold I64 at ha hb hov;by_cases h1:a<0
  ·have e1:b<0:=by omega
   have e2:¬wrap64 (a+b)<0:=by unfold wrap64;omega
   simp[h1,e1,e2]
  ·have e1:¬b<0:=by omega
   have e2:wrap64 (a+b)<0:=by unfold wrap64;omega
   simp[h1,e1,e2]
 rw[h2]at h;exact of_decide_eq_true h
theorem OT{a b:Int}(ha:I64 a)(hb:I64 b)(hs:I64 (a+b)):∃t:Int,bits .and Jl (bits .xor Jl a (a+b)) (bits .xor Jl b (a+b))=t/\0<=t:=by
 refine⟨_,rfl,?_⟩;have h:=VP ha hb hs;have h2:((decide (a<0) ^^ decide (a+b<0)) && (decide (b<0) ^^ decide (a+b<0)))=false:=by
  by_cases h1:a<0 <;> by_cases h2:b<0 <;> by_cases h3:a+b<0 <;> simp[h1,h2,h3] <;> omega
 rw[h2]at h;have:=of_decide_eq_false h;omega
theorem Wa(a b:Int)(w:JW)(ha:I64 a)(hb:I64 b)(hs:I64 (a+b)) :
  Calls Tryz.prog 100 #[JN a,JN b] w (Qb (a+b) w):=by
 obtain⟨t,ht,ht0⟩:=OT ha hb hs;have Hs:=Lh hs;unfold I64 at ha hb hs;have ht1:0<=bits .and Jl (bits .xor Jl a (a+b)) (bits .xor Jl b (a+b)):=by rw[ht];exact ht0
 go_enter Tryz.func100,Tryz.ntmps100;go_wp2;exact bodyPost_ret (v:=JN (a+b)) (by simp[results,Tryz.results100,go_sem]) rfl ⟨a+b,Jn,rfl,.inl ⟨Hs.out,rfl⟩,(((E5 w.heap.size w).alloc (E9 _) _).alloc (by simp) _).alloc (by simp;omega) _⟩
theorem Kw(a b:Int) (z k:Int)(w:JW)(h:Jj 0 w (Ja #[Ji Jl a,Jp Jn]) z)(h':Jj 0 w (Ja #[Ji Jl b,Jp Jn]) k)(hlz:z.natAbs<base 400)(hlk:k.natAbs<base 400)(hone:z≠0\/k≠0)(ha:I64 a)(hb:I64 b)(hov:¬I64 (a+b)) :
  Calls Tryz.prog 100 #[Ja #[Ji Jl a,Jp Jn],Ja #[Ji Jl b,Jp Jn]] w (Qb (z+k) w):=by
 obtain⟨bz,hbz⟩:∃bz,decide (z<0)=bz:=⟨_,rfl⟩;obtain⟨bk,hbk⟩:∃bk,decide (k<0)=bk:=⟨_,rfl⟩;have kk:=(((E5 w.heap.size w).alloc (E9 _) (Jc #[Ji Jl a,Jp Jn] 29)).alloc (by simp) (Jc #[Ji Jl b,Jp Jn] 29)).alloc (by simp;omega) (Jc #[Ji Jl 0,Jp Jn] 29);have Hr:=Lh (Res.new ((w.alloc (Jc #[Ji Jl a,Jp Jn] 29)).alloc (Jc #[Ji Jl b,Jp Jn] 29)));simp only[E4]at Hr;have Hx:=Lh (JF _ z _ bz hbz (h.keep kk));have Hy:=Lh (fun w' (hb:Below w.heap.size w w')=>JF _ k w' bk hbk (h'.keep hb));have Kk:=Lh kk;have Hlz:=Lh hlz;have Hlk:=Lh hlk;have Hone:=Lh hone;have hsame:bz=bk->Jx bz (z.natAbs+k.natAbs)=z+k:=fun e=>by rw[←hbz]at e ⊢;exact U5 (by rw[e,hbk])
 have hge:bz≠bk->k.natAbs<=z.natAbs->Jx bz (z.natAbs-k.natAbs)=z+k:=fun e hle=>by rw[←hbz]at e ⊢;exact VZ (by rw[hbk];exact e) hle
 have hlt:bz≠bk->z.natAbs<k.natAbs->Jx bk (k.natAbs-z.natAbs)=z+k:=fun e hle=>by rw[←hbk]at e ⊢;exact VY (by rw[hbz];exact e) hle
 have Hsame:=Lh hsame;have Hge:=Lh hge;have Hlt:=Lh hlt;clear h h' kk hbz hbk hlz hlk hone hsame hge hlt;obtain⟨s,t,hs,ht,ht0⟩:=ON ha hb hov;unfold I64 at ha hb;have ht1:¬0<=bits .and Jl (bits .xor Jl a s) (bits .xor Jl b s):=by rw[ht];omega
 clear ht ht0 hov;go_enter Tryz.func100,Tryz.ntmps100;go_wp2_with fail
 refine Hx.out.mono ?_;rintro e w1⟨A,n,c,xs,rfl,hx,h1⟩;have e1:w1.cell? ⟨w.heap.size+1,0,Jn⟩=Jo (Ji Jl b):=(h1.cell (p:=⟨w.heap.size+1,0,Jn⟩) (by simp)).trans (by simp[go_sem]);have e2:w1.cell? ⟨w.heap.size+1,1,Jn⟩=Jo (Jp Jn):=(h1.cell (p:=⟨w.heap.size+1,1,Jn⟩) (by simp)).trans (by simp[go_sem]);have K1:=Lh (Jd Kk.out h1);have R1:=Lh (Hr.out.keep h1);have Hnx:=Lh hx;clear h1 hx;go_wp2_with fail
 refine(Hy.out _ K1.out).mono ?_;rintro e w2⟨A',n',c',ys,rfl,hy,h2⟩;have Hnx2:=Lh (Hnx.out.keep h2);have Hny:=Lh hy;have K2:=Lh (Jd K1.out h2);have R2:=Lh (R1.out.keep h2);have hn:=Hnx2.out.len_le Hlz.out;have hn':=Hny.out.len_le Hlk.out;have hz0:=Hnx2.out.zero_iff;have hk0:=Hny.out.zero_iff;have hsome:n≠0\/n'≠0:=by
  rcases Hone.out with h0|h0
  ·left;intro e;exact h0 (by have:=hz0.1 e;omega)
  ·right;intro e;exact h0 (by have:=hk0.1 e;omega)
 clear h2 hy e1 e2;by_cases hsame:bz=bk
 ·have Hs:=Lh (Hsame.out hsame);have Hadd:=Lh (UA w2 Hnx2.out Hny.out (by omega) (by omega) (by omega));subst hsame;cases bz;all_goals
   go_wp2_with fail
   refine Hadd.out.mono ?_;rintro e w3⟨A3,n3,c3,zs,rfl,h3n,h3⟩;have K4:=Lh (Jd K2.out h3);have R4:=Lh (R2.out.keep h3);have Hsg:=Lh (JD _ _ w3 h3n Hs.out);clear h3n h3;go_wp2_with fail
   refine Hsg.out.mono ?_;rintro e w5⟨a',P',rfl,hi5,h5⟩;have R5:=Lh (R4.out.keep h5);have Hi5:=Lh (hi5.stored R5.out (Ji Jl a') (Jp P'));have K5:=Lh (Jg (Jd K4.out h5) (show w.heap.size<=w.heap.size+2 by omega) (Ji Jl a') (Jp P'));have k0:=R5.out.k0;have k1:=R5.out.k1;have f0:=R5.out.f0;have f1:=R5.out.f1;clear hi5 h5;go_wp2;exact bodyPost_ret (v:=Ja #[Ji Jl a',Jp P']) (by simp[results,Tryz.results100,go_sem,k0,k1]) rfl ⟨a',P',rfl,Hi5.out,K5.out⟩
 ·have hbb:(bz ==bk)=false:=by rw[beq_eq_false_iff_ne];exact hsame
  have Hc:=Lh (JI w2 Hnx2.out Hny.out);by_cases hle:k.natAbs<=z.natAbs
  ·have hcmp:∃r:Int,cmpN z.natAbs k.natAbs=r/\0<=r:=by
    refine⟨_,rfl,?_⟩;unfold cmpN;rw[if_neg (by omega)]
    split <;> decide
   obtain⟨r,hr,hr0⟩:=hcmp;have Hs:=Lh (Hge.out hsame hle);rw[hr]at Hc;have hsub:∀ w3,Below w2.heap.size w2 w3->_:=fun w3 h=>QZ w3 (Hnx2.out.keep h) (Hny.out.keep h) hle (by
    rcases E6 n with h0|h0
    ·exfalso;have h1:=hz0.1 h0;have h2:=hk0.2 (by omega);omega
    ·exact h0) (by omega)
   have Hsub:=Lh hsub;clear hr hsub;cases bz <;> cases bk
   all_goals first
    | exact absurd rfl hsame
    | skip
   all_goals
    go_wp2_with fail
    refine Hc.out.mono ?_;rintro e w3⟨rfl,h3⟩;have K3:=Lh (Jd K2.out h3);have R3:=Lh (R2.out.keep h3);have Hsb:=Lh (Hsub.out w3 h3);clear h3;go_wp2_with fail
    refine Hsb.out.mono ?_;rintro e w4⟨A3,n3,c3,zs,rfl,h3n,h4⟩;have K4:=Lh (Jd K3.out h4);have R4:=Lh (R3.out.keep h4);have Hsg:=Lh (JD _ _ w4 h3n Hs.out);clear h3n h4;go_wp2_with fail
    refine Hsg.out.mono ?_;rintro e w5⟨a',P',rfl,hi5,h5⟩;have R5:=Lh (R4.out.keep h5);have Hi5:=Lh (hi5.stored R5.out (Ji Jl a') (Jp P'));have K5:=Lh (Jg (Jd K4.out h5) (show w.heap.size<=w.heap.size+2 by omega) (Ji Jl a') (Jp P'));have k0:=R5.out.k0;have k1:=R5.out.k1;have f0:=R5.out.f0;have f1:=R5.out.f1;clear hi5 h5;go_wp2;exact bodyPost_ret (v:=Ja #[Ji Jl a',Jp P']) (by simp[results,Tryz.results100,go_sem,k0,k1]) rfl ⟨a',P',rfl,Hi5.out,K5.out⟩
  ·have Hs:=Lh (Hlt.out hsame (by omega));rw[YW (show z.natAbs<k.natAbs by omega)]at Hc;have hsub:∀ w3,Below w2.heap.size w2 w3->_:=fun w3 h=>QZ w3 (Hny.out.keep h) (Hnx2.out.keep h) (show z.natAbs<=k.natAbs by omega) (by
    rcases E6 n' with h0|h0
    ·exfalso;have h1:=hk0.1 h0;omega
    ·exact h0) (by omega)
   have Hsub:=Lh hsub;clear hsub;cases bz <;> cases bk
   all_goals first
    | exact absurd rfl hsame
    | skip
   all_goals
    go_wp2_with fail
    refine Hc.out.mono ?_;rintro e w3⟨rfl,h3⟩;have K3:=Lh (Jd K2.out h3);have R3:=Lh (R2.out.keep h3);have Hsb:=Lh (Hsub.out w3 h3);clear h3;go_wp2_with fail
    refine Hsb.out.mono ?_;rintro e w4⟨A3,n3,c3,zs,rfl,h3n,h4⟩;have K4:=Lh (Jd K3.out h4);have R4:=Lh (R3.out.keep h4);have Hsg:=Lh (JD _ _ w4 h3n Hs.out);clear h3n h4;go_wp2_with fail
    refine Hsg.out.mono ?_;rintro e w5⟨a',P',rfl,hi5,h5⟩;have R5:=Lh (R4.out.keep h5);have Hi5:=Lh (hi5.stored R5.out (Ji Jl a') (Jp P'));have K5:=Lh (Jg (Jd K4.out h5) (show w.heap.size<=w.heap.size+2 by omega) (Ji Jl a') (Jp P'));have k0:=R5.out.k0;have k1:=R5.out.k1;have f0:=R5.out.f0;have f1:=R5.out.f1;clear hi5 h5;go_wp2;exact bodyPost_ret (v:=Ja #[Ji Jl a',Jp P']) (by simp[results,Tryz.results100,go_sem,k0,k1]) rfl ⟨a',P',rfl,Hi5.out,K5.out⟩
theorem Q9{a:Int}{P:Option Addr}{z:Int}(h:(Value.agg #[Ji Jl a,Jp P])=JN z):a=z/\P=Jn:=by simpa[JN]using h
theorem UR(a b:Int)(P Q:Option Addr)(z k:Int)(w:JW)(h:Jj 0 w (Ja #[Ji Jl a,Jp P]) z)(h':Jj 0 w (Ja #[Ji Jl b,Jp Q]) k)(hlz:z.natAbs<base 400)(hlk:k.natAbs<base 400) :
  Calls Tryz.prog 100 #[Ja #[Ji Jl a,Jp P],Ja #[Ji Jl b,Jp Q]] w (Qb (z+k) w):=by
 rcases h.ways with⟨hz,e⟩|⟨hz,p,e,_,_⟩
 ·obtain⟨rfl,rfl⟩:=Q9 e;rcases h'.ways with⟨hk,e'⟩|⟨hk,q,e',_,_⟩
  ·obtain⟨rfl,rfl⟩:=Q9 e';by_cases hs:I64 (a+b)
   ·exact Wa a b w hz hk hs
   ·exact Kw a b a b w h h' hlz hlk (by unfold I64 at hs;omega) hz hk hs
  ·obtain⟨rfl,rfl⟩:b=0/\Q=Jo ⟨q,0,Jn⟩:=by simpa using e'
   exact Wc a 0 q a k w h h' hlz hlk (by unfold I64 at hk;omega)
 ·obtain⟨rfl,rfl⟩:a=0/\P=Jo ⟨p,0,Jn⟩:=by simpa using e
  exact Wd 0 b p Q z k w h h' hlz hlk (by unfold I64 at hz;omega)
theorem ZP(a b:Int)(p:Nat)(Q:Option Addr)(z k:Int)(w:JW)(h:Jj 0 w (Ja #[Ji Jl a,Jp (Jo ⟨p,0,Jn⟩)]) z)(h':Jj 0 w (Ja #[Ji Jl b,Jp Q]) k)(hlz:z.natAbs<base 400)(hlk:k.natAbs<base 400)(hsm:z.natAbs<base 47\/k.natAbs<base 47)  :
  Calls Tryz.prog 75 #[Ja #[Ji Jl a,Jp (Jo ⟨p,0,Jn⟩)],Ja #[Ji Jl b,Jp Q]] w (Qb (z*k) w):=by
 obtain⟨bz,hbz⟩:∃bz,decide (z<0)=bz:=⟨_,rfl⟩;obtain⟨bk,hbk⟩:∃bk,decide (k<0)=bk:=⟨_,rfl⟩;have kk:=(((E5 w.heap.size w).alloc (E9 _) (Jc #[Ji Jl a,Jp (Jo ⟨p,0,Jn⟩)] 29)).alloc (by simp) (Jc #[Ji Jl b,Jp Q] 29)).alloc (by simp;omega) (Jc #[Ji Jl 0,Jp Jn] 29);have Hr:=Lh (Res.new ((w.alloc (Jc #[Ji Jl a,Jp (Jo ⟨p,0,Jn⟩)] 29)).alloc (Jc #[Ji Jl b,Jp Q] 29)));simp only[E4]at Hr;have Hx:=Lh (JF _ z _ bz hbz (h.keep kk));have Hy:=Lh (fun w' (hb:Below w.heap.size w w')=>JF _ k w' bk hbk (h'.keep hb));have Kk:=Lh kk;have Hlz:=Lh hlz;have Hlk:=Lh hlk;have Hsm:=Lh hsm;have hs:=UF z k;rw[hbz,hbk]at hs;have Hs:=Lh hs;clear h h' kk hbz hbk hlz hlk hsm hs;go_enter Tryz.func75,Tryz.ntmps75;go_wp2_with fail
 refine Hx.out.mono ?_;rintro e w1⟨A,n,c,xs,rfl,hx,h1⟩;have e1:w1.cell? ⟨w.heap.size+1,0,Jn⟩=Jo (Ji Jl b):=(h1.cell (p:=⟨w.heap.size+1,0,Jn⟩) (by simp)).trans (by simp[go_sem]);have e2:w1.cell? ⟨w.heap.size+1,1,Jn⟩=Jo (Jp Q):=(h1.cell (p:=⟨w.heap.size+1,1,Jn⟩) (by simp)).trans (by simp[go_sem]);have K1:=Lh (Jd Kk.out h1);have R1:=Lh (Hr.out.keep h1);have Hnx:=Lh hx;clear h1 hx;go_wp2_with fail
 refine(Hy.out _ K1.out).mono ?_;rintro e w2⟨A',n',c',ys,rfl,hy,h2⟩;have Hnx2:=Lh (Hnx.out.keep h2);have Hny:=Lh hy;have K2:=Lh (Jd K1.out h2);have R2:=Lh (R1.out.keep h2);have hn:=Hnx2.out.len_le Hlz.out;have hn':=Hny.out.len_le Hlk.out;have h48:n<48\/n'<48:=by
  rcases Hsm.out with h0|h0
  ·left;have:=Hnx2.out.len_le h0;omega
  ·right;have:=Hny.out.len_le h0;omega
 clear h2 hy e1 e2;have Hmul:=Lh (YR w2 Hnx2.out Hny.out h48 (by omega) (by omega));go_wp2_with fail
 refine Hmul.out.mono ?_;rintro e w3⟨A3,n3,c3,zs,rfl,h3n,h3⟩;have K4:=Lh (Jd K2.out h3);have R4:=Lh (R2.out.keep h3);have Hsg:=Lh (JD (bz !=bk) (z*k) w3 h3n Hs.out);clear h3n h3;go_wp2_with fail
 refine Hsg.out.mono ?_;rintro e w5⟨a',P',rfl,hi5,h5⟩;have R5:=Lh (R4.out.keep h5);have Hi5:=Lh (hi5.stored R5.out (Ji Jl a') (Jp P'));have K5:=Lh (Jg (Jd K4.out h5) (show w.heap.size<=w.heap.size+2 by omega) (Ji Jl a') (Jp P'));have k0:=R5.out.k0;have k1:=R5.out.k1;have f0:=R5.out.f0;have f1:=R5.out.f1;clear hi5 h5;go_wp2;exact bodyPost_ret (v:=Ja #[Ji Jl a',Jp P']) (by simp[results,Tryz.results75,go_sem,k0,k1]) rfl ⟨a',P',rfl,Hi5.out,K5.out⟩
theorem ZO(a b:Int)(p:Nat)(z k:Int)(w:JW)(h:Jj 0 w (Ja #[Ji Jl a,Jp Jn]) z)(h':Jj 0 w (Ja #[Ji Jl b,Jp (Jo ⟨p,0,Jn⟩)]) k)(hlz:z.natAbs<base 400)(hlk:k.natAbs<base 400)(hsm:z.natAbs<base 47\/k.natAbs<base 47)  :
  Calls Tryz.prog 75 #[Ja #[Ji Jl a,Jp Jn],Ja #[Ji Jl b,Jp (Jo ⟨p,0,Jn⟩)]] w (Qb (z*k) w):=by
 obtain⟨bz,hbz⟩:∃bz,decide (z<0)=bz:=⟨_,rfl⟩;obtain⟨bk,hbk⟩:∃bk,decide (k<0)=bk:=⟨_,rfl⟩;have kk:=(((E5 w.heap.size w).alloc (E9 _) (Jc #[Ji Jl a,Jp Jn] 29)).alloc (by simp) (Jc #[Ji Jl b,Jp (Jo ⟨p,0,Jn⟩)] 29)).alloc (by simp;omega) (Jc #[Ji Jl 0,Jp Jn] 29);have Hr:=Lh (Res.new ((w.alloc (Jc #[Ji Jl a,Jp Jn] 29)).alloc (Jc #[Ji Jl b,Jp (Jo ⟨p,0,Jn⟩)] 29)));simp only[E4]at Hr;have Hx:=Lh (JF _ z _ bz hbz (h.keep kk));have Hy:=Lh (fun w' (hb:Below w.heap.size w w')=>JF _ k w' bk hbk (h'.keep hb));have Kk:=Lh kk;have Hlz:=Lh hlz;have Hlk:=Lh hlk;have Hsm:=Lh hsm;have hs:=UF z k;rw[hbz,hbk]at hs;have Hs:=Lh hs;clear h h' kk hbz hbk hlz hlk hsm hs;go_enter Tryz.func75,Tryz.ntmps75;go_wp2_with fail
 refine Hx.out.mono ?_;rintro e w1⟨A,n,c,xs,rfl,hx,h1⟩;have e1:w1.cell? ⟨w.heap.size+1,0,Jn⟩=Jo (Ji Jl b):=(h1.cell (p:=⟨w.heap.size+1,0,Jn⟩) (by simp)).trans (by simp[go_sem]);have e2:w1.cell? ⟨w.heap.size+1,1,Jn⟩=Jo (Jp (Jo ⟨p,0,Jn⟩)):=(h1.cell (p:=⟨w.heap.size+1,1,Jn⟩) (by simp)).trans (by simp[go_sem]);have K1:=Lh (Jd Kk.out h1);have R1:=Lh (Hr.out.keep h1);have Hnx:=Lh hx;clear h1 hx;go_wp2_with fail
 refine(Hy.out _ K1.out).mono ?_;rintro e w2⟨A',n',c',ys,rfl,hy,h2⟩;have Hnx2:=Lh (Hnx.out.keep h2);have Hny:=Lh hy;have K2:=Lh (Jd K1.out h2);have R2:=Lh (R1.out.keep h2);have hn:=Hnx2.out.len_le Hlz.out;have hn':=Hny.out.len_le Hlk.out;have h48:n<48\/n'<48:=by
  rcases Hsm.out with h0|h0
  ·left;have:=Hnx2.out.len_le h0;omega
  ·right;have:=Hny.out.len_le h0;omega
 clear h2 hy e1 e2;have Hmul:=Lh (YR w2 Hnx2.out Hny.out h48 (by omega) (by omega));go_wp2_with fail
 refine Hmul.out.mono ?_;rintro e w3⟨A3,n3,c3,zs,rfl,h3n,h3⟩;have K4:=Lh (Jd K2.out h3);have R4:=Lh (R2.out.keep h3);have Hsg:=Lh (JD (bz !=bk) (z*k) w3 h3n Hs.out);clear h3n h3;go_wp2_with fail
 refine Hsg.out.mono ?_;rintro e w5⟨a',P',rfl,hi5,h5⟩;have R5:=Lh (R4.out.keep h5);have Hi5:=Lh (hi5.stored R5.out (Ji Jl a') (Jp P'));have K5:=Lh (Jg (Jd K4.out h5) (show w.heap.size<=w.heap.size+2 by omega) (Ji Jl a') (Jp P'));have k0:=R5.out.k0;have k1:=R5.out.k1;have f0:=R5.out.f0;have f1:=R5.out.f1;clear hi5 h5;go_wp2;exact bodyPost_ret (v:=Ja #[Ji Jl a',Jp P']) (by simp[results,Tryz.results75,go_sem,k0,k1]) rfl ⟨a',P',rfl,Hi5.out,K5.out⟩
theorem VH{m:Nat}(h:9223372036854775807<m):∀H L:Nat,m/18446744073709551616=H->m%18446744073709551616=L->¬(H=0/\L<=9223372036854775807):=by
 intro H L hh hl;omega
theorem Xs(x y H L:Nat)(hx:x<18446744073709551616)(hy:y<18446744073709551616)(hh:x*y/18446744073709551616=H)(hl:x*y%18446744073709551616=L)(w:JW) :
  Calls Tryz.prog 109 #[Ji .u64 x,Ji .u64 y] w fun e w'=>e= .returned (.tuple #[Ji .u64 (H:Int),Ji .u64 (L:Int)])/\w'=w:=by
 rw[←hh,←hl];exact Tryz.bits_Mul64 x y hx hy w
theorem ZN(z k:Int)(w:JW)(h:Jj 0 w (Ja #[Ji Jl z,Jp Jn]) z)(h':Jj 0 w (Ja #[Ji Jl k,Jp Jn]) k)(hlz:z.natAbs<base 400)(hlk:k.natAbs<base 400)(hsm:z.natAbs<base 47\/k.natAbs<base 47)(ha:I64 z)(hb:I64 k)(hbig:9223372036854775807<z.natAbs*k.natAbs)(h0:z.natAbs*k.natAbs/18446744073709551616=0) :
  Calls Tryz.prog 75 #[Ja #[Ji Jl z,Jp Jn],Ja #[Ji Jl k,Jp Jn]] w (Qb (z*k) w):=by
 obtain⟨bz,hbz⟩:∃bz,decide (z<0)=bz:=⟨_,rfl⟩;obtain⟨bk,hbk⟩:∃bk,decide (k<0)=bk:=⟨_,rfl⟩;have kk:=(((E5 w.heap.size w).alloc (E9 _) (Jc #[Ji Jl z,Jp Jn] 29)).alloc (by simp) (Jc #[Ji Jl k,Jp Jn] 29)).alloc (by simp;omega) (Jc #[Ji Jl 0,Jp Jn] 29);have Hr:=Lh (Res.new ((w.alloc (Jc #[Ji Jl z,Jp Jn] 29)).alloc (Jc #[Ji Jl k,Jp Jn] 29)));simp only[E4]at Hr;have Hx:=Lh (fun w' (hb:Below w.heap.size w w')=>JF _ z w' bz hbz (h.keep hb));have Hy:=Lh (fun w' (hb:Below w.heap.size w w')=>JF _ k w' bk hbk (h'.keep hb));have Kk:=Lh kk;have Hlz:=Lh hlz;have Hlk:=Lh hlk;have Hsm:=Lh hsm;have hs:=UF z k;rw[hbz,hbk]at hs;have Hs:=Lh hs;clear h h' kk hbz hbk hlz hlk hsm hs;obtain⟨H,hh⟩:∃H,z.natAbs*k.natAbs/18446744073709551616=H:=⟨_,rfl⟩;obtain⟨L,hl⟩:∃L,z.natAbs*k.natAbs%18446744073709551616=L:=⟨_,rfl⟩;have hnot:=VH hbig H L hh hl;have Hh:=Lh hh;have Hl:=Lh hl;have Ha:=Lh ha;have Hb:=Lh hb;clear hh hl hbig;obtain rfl:H=0:=by rw[←Hh.out];exact h0
 have hL:¬L<=9223372036854775807:=fun e=>hnot ⟨rfl,e⟩;clear hnot h0;go_enter Tryz.func75,Tryz.ntmps75;go_wp2_with fail
 go_quiet ((first|(go_at_call 105;first|exact Calls.quiet_of_same (Qj _ _ Ha.out)|exact Calls.quiet_of_same (Qj _ _ Hb.out))|(go_at_call 109;exact Calls.quiet_of_same (Xs _ _ _ _ (QN Ha.out) (QN Hb.out) Hh.out Hl.out _))))
 go_wp2_with fail
 refine(Hx.out _ (below_drewN Kk.out _)).mono ?_;rintro e w1⟨A,n,c,xs,rfl,hx,h1⟩;have e1:w1.cell? ⟨w.heap.size+1,0,Jn⟩=Jo (Ji Jl k):=(h1.cell (p:=⟨w.heap.size+1,0,Jn⟩) (by simp)).trans (by simp[go_sem]);have e2:w1.cell? ⟨w.heap.size+1,1,Jn⟩=Jo (Jp Jn):=(h1.cell (p:=⟨w.heap.size+1,1,Jn⟩) (by simp)).trans (by simp[go_sem]);have K1:=Lh (Jd (below_drewN Kk.out _) h1);have R1:=Lh ((Hr.out.keep (below_drewN (E5 _ _) _)).keep h1);have Hnx:=Lh hx;clear h1 hx;go_wp2_with fail
 refine(Hy.out _ K1.out).mono ?_;rintro e w2⟨A',n',c',ys,rfl,hy,h2⟩;have Hnx2:=Lh (Hnx.out.keep h2);have Hny:=Lh hy;have K2:=Lh (Jd K1.out h2);have R2:=Lh (R1.out.keep h2);have hn:=Hnx2.out.len_le Hlz.out;have hn':=Hny.out.len_le Hlk.out;have h48:n<48\/n'<48:=by
  rcases Hsm.out with h0|h0
  ·left;have:=Hnx2.out.len_le h0;omega
  ·right;have:=Hny.out.len_le h0;omega
 clear h2 hy e1 e2;have Hmul:=Lh (YR w2 Hnx2.out Hny.out h48 (by omega) (by omega));go_wp2_with fail
 refine Hmul.out.mono ?_;rintro e w3⟨A3,n3,c3,zs,rfl,h3n,h3⟩;have K4:=Lh (Jd K2.out h3);have R4:=Lh (R2.out.keep h3);have Hsg:=Lh (JD (bz !=bk) (z*k) w3 h3n Hs.out);clear h3n h3;go_wp2_with fail
 refine Hsg.out.mono ?_;rintro e w5⟨a',P',rfl,hi5,h5⟩;have R5:=Lh (R4.out.keep h5);have Hi5:=Lh (hi5.stored R5.out (Ji Jl a') (Jp P'));have K5:=Lh (Jg (Jd K4.out h5) (show w.heap.size<=w.heap.size+2 by omega) (Ji Jl a') (Jp P'));have k0:=R5.out.k0;have k1:=R5.out.k1;have f0:=R5.out.f0;have f1:=R5.out.f1;clear hi5 h5;go_wp2;exact bodyPost_ret (v:=Ja #[Ji Jl a',Jp P']) (by simp[results,Tryz.results75,go_sem,k0,k1]) rfl ⟨a',P',rfl,Hi5.out,K5.out⟩
theorem ZM(z k:Int)(w:JW)(h:Jj 0 w (Ja #[Ji Jl z,Jp Jn]) z)(h':Jj 0 w (Ja #[Ji Jl k,Jp Jn]) k)(hlz:z.natAbs<base 400)(hlk:k.natAbs<base 400)(hsm:z.natAbs<base 47\/k.natAbs<base 47)(ha:I64 z)(hb:I64 k)(hbig:9223372036854775807<z.natAbs*k.natAbs)(h0:z.natAbs*k.natAbs/18446744073709551616≠0) :
  Calls Tryz.prog 75 #[Ja #[Ji Jl z,Jp Jn],Ja #[Ji Jl k,Jp Jn]] w (Qb (z*k) w):=by
 obtain⟨bz,hbz⟩:∃bz,decide (z<0)=bz:=⟨_,rfl⟩;obtain⟨bk,hbk⟩:∃bk,decide (k<0)=bk:=⟨_,rfl⟩;have kk:=(((E5 w.heap.size w).alloc (E9 _) (Jc #[Ji Jl z,Jp Jn] 29)).alloc (by simp) (Jc #[Ji Jl k,Jp Jn] 29)).alloc (by simp;omega) (Jc #[Ji Jl 0,Jp Jn] 29);have Hr:=Lh (Res.new ((w.alloc (Jc #[Ji Jl z,Jp Jn] 29)).alloc (Jc #[Ji Jl k,Jp Jn] 29)));simp only[E4]at Hr;have Hx:=Lh (fun w' (hb:Below w.heap.size w w')=>JF _ z w' bz hbz (h.keep hb));have Hy:=Lh (fun w' (hb:Below w.heap.size w w')=>JF _ k w' bk hbk (h'.keep hb));have Kk:=Lh kk;have Hlz:=Lh hlz;have Hlk:=Lh hlk;have Hsm:=Lh hsm;have hs:=UF z k;rw[hbz,hbk]at hs;have Hs:=Lh hs;clear h h' kk hbz hbk hlz hlk hsm hs;obtain⟨H,hh⟩:∃H,z.natAbs*k.natAbs/18446744073709551616=H:=⟨_,rfl⟩;obtain⟨L,hl⟩:∃L,z.natAbs*k.natAbs%18446744073709551616=L:=⟨_,rfl⟩;have hnot:=VH hbig H L hh hl;have Hh:=Lh hh;have Hl:=Lh hl;have Ha:=Lh ha;have Hb:=Lh hb;clear hh hl hbig;have hH:((H:Int) ==0)=false:=by rw[beq_eq_false_iff_ne];intro e;exact h0 (by rw[Hh.out];omega)
 clear hnot h0;go_enter Tryz.func75,Tryz.ntmps75;go_wp2_with fail
 go_quiet ((first|(go_at_call 105;first|exact Calls.quiet_of_same (Qj _ _ Ha.out)|exact Calls.quiet_of_same (Qj _ _ Hb.out))|(go_at_call 109;exact Calls.quiet_of_same (Xs _ _ _ _ (QN Ha.out) (QN Hb.out) Hh.out Hl.out _))))
 go_wp2_with fail
 refine(Hx.out _ (below_drewN Kk.out _)).mono ?_;rintro e w1⟨A,n,c,xs,rfl,hx,h1⟩;have e1:w1.cell? ⟨w.heap.size+1,0,Jn⟩=Jo (Ji Jl k):=(h1.cell (p:=⟨w.heap.size+1,0,Jn⟩) (by simp)).trans (by simp[go_sem]);have e2:w1.cell? ⟨w.heap.size+1,1,Jn⟩=Jo (Jp Jn):=(h1.cell (p:=⟨w.heap.size+1,1,Jn⟩) (by simp)).trans (by simp[go_sem]);have K1:=Lh (Jd (below_drewN Kk.out _) h1);have R1:=Lh ((Hr.out.keep (below_drewN (E5 _ _) _)).keep h1);have Hnx:=Lh hx;clear h1 hx;go_wp2_with fail
 refine(Hy.out _ K1.out).mono ?_;rintro e w2⟨A',n',c',ys,rfl,hy,h2⟩;have Hnx2:=Lh (Hnx.out.keep h2);have Hny:=Lh hy;have K2:=Lh (Jd K1.out h2);have R2:=Lh (R1.out.keep h2);have hn:=Hnx2.out.len_le Hlz.out;have hn':=Hny.out.len_le Hlk.out;have h48:n<48\/n'<48:=by
  rcases Hsm.out with h0|h0
  ·left;have:=Hnx2.out.len_le h0;omega
  ·right;have:=Hny.out.len_le h0;omega
 clear h2 hy e1 e2;have Hmul:=Lh (YR w2 Hnx2.out Hny.out h48 (by omega) (by omega));go_wp2_with fail
 refine Hmul.out.mono ?_;rintro e w3⟨A3,n3,c3,zs,rfl,h3n,h3⟩;have K4:=Lh (Jd K2.out h3);have R4:=Lh (R2.out.keep h3);have Hsg:=Lh (JD (bz !=bk) (z*k) w3 h3n Hs.out);clear h3n h3;go_wp2_with fail
 refine Hsg.out.mono ?_;rintro e w5⟨a',P',rfl,hi5,h5⟩;have R5:=Lh (R4.out.keep h5);have Hi5:=Lh (hi5.stored R5.out (Ji Jl a') (Jp P'));have K5:=Lh (Jg (Jd K4.out h5) (show w.heap.size<=w.heap.size+2 by omega) (Ji Jl a') (Jp P'));have k0:=R5.out.k0;have k1:=R5.out.k1;have f0:=R5.out.f0;have f1:=R5.out.f1;clear hi5 h5;go_wp2;exact bodyPost_ret (v:=Ja #[Ji Jl a',Jp P']) (by simp[results,Tryz.results75,go_sem,k0,k1]) rfl ⟨a',P',rfl,Hi5.out,K5.out⟩
theorem Q6(a b:Int)(P Q:Option Addr)(z k:Int)(w:JW)(h:Jj 0 w (Ja #[Ji Jl a,Jp P]) z)(h':Jj 0 w (Ja #[Ji Jl b,Jp Q]) k)(hlz:z.natAbs<base 400)(hlk:k.natAbs<base 400)(hsm:z.natAbs<base 47\/k.natAbs<base 47) :
  Calls Tryz.prog 75 #[Ja #[Ji Jl a,Jp P],Ja #[Ji Jl b,Jp Q]] w (Qb (z*k) w):=by
 rcases h.ways with⟨hz,e⟩|⟨hz,p,e,_,_⟩
 ·obtain⟨rfl,rfl⟩:=Q9 e;rcases h'.ways with⟨hk,e'⟩|⟨hk,q,e',_,_⟩
  ·obtain⟨rfl,rfl⟩:=Q9 e';by_cases hs:a.natAbs*b.natAbs<=9223372036854775807
   ·refine(ZL a b w hz hk hs).mono ?_;rintro e w' ⟨rfl,hb⟩;have hc:(a*b).natAbs=a.natAbs*b.natAbs:=Int.natAbs_mul a b;exact⟨a*b,Jn,rfl,.inl ⟨⟨by omega,by omega⟩,rfl⟩,hb⟩
   ·by_cases h0:a.natAbs*b.natAbs/18446744073709551616=0
    ·exact ZN a b w h h' hlz hlk hsm hz hk (by omega) h0
    ·exact ZM a b w h h' hlz hlk hsm hz hk (by omega) h0
  ·obtain⟨rfl,rfl⟩:b=0/\Q=Jo ⟨q,0,Jn⟩:=by simpa using e'
   exact ZO a 0 q a k w h h' hlz hlk hsm
 ·obtain⟨rfl,rfl⟩:a=0/\P=Jo ⟨p,0,Jn⟩:=by simpa using e
  exact ZP 0 b p Q z k w h h' hlz hlk hsm
structure Var (w:JW) (p:Nat) (a:Int) (P:Option Addr) (z:Int):Prop where
 c0:w.cell? ⟨p,0,Jn⟩=Jo (Ji Jl a)
 c1:w.cell? ⟨p,1,Jn⟩=Jo (Jp P)
 lt:p<w.heap.size
 int:Jj 0 w (Ja #[Ji Jl a,Jp P]) z
theorem Var.keep{w w':JW}{p:Nat}{a:Int}{P:Option Addr}{z:Int}(h:Var w p a P z)(hb:Below w.heap.size w w'):Var w' p a P z:=
 ⟨(hb.cell (p:=⟨p,0,Jn⟩) h.lt).trans h.c0,(hb.cell (p:=⟨p,1,Jn⟩) h.lt).trans h.c1,F0 h.lt hb.size,h.int.keep hb⟩
theorem Var.new{w:JW}{a:Int}{P:Option Addr}{z:Int}(h:Jj 0 w (Ja #[Ji Jl a,Jp P]) z):Var (w.alloc (Jc #[Ji Jl a,Jp P] 29)) w.heap.size a P z:=
 ⟨by simp[go_sem],by simp[go_sem],by simp,h.keep ((E5 w.heap.size w).alloc (E9 _) _)⟩
theorem Jq{a b m:Nat}(h:m<base a)(hab:a<=b):m<base b:=F0 h (Us hab)
structure Hold (w:JW) (p:Nat) (a:Int) (P:Option Addr):Prop where
 c0:w.cell? ⟨p,0,Jn⟩=Jo (Ji Jl a)
 c1:w.cell? ⟨p,1,Jn⟩=Jo (Jp P)
 cn:∀k,w.cell? ⟨p,k+2,Jn⟩=Jn
 f0:w.frozen? ⟨p,0,Jn⟩=false
 f1:w.frozen? ⟨p,1,Jn⟩=false
 lt:p<w.heap.size
theorem Hold.keep{w w':JW}{p:Nat}{a:Int}{P:Option Addr}(h:Hold w p a P)(hb:Below w.heap.size w w'):Hold w' p a P:=
 ⟨(hb.cell (p:=⟨p,0,Jn⟩) h.lt).trans h.c0,(hb.cell (p:=⟨p,1,Jn⟩) h.lt).trans h.c1,fun k=>(hb.cell (p:=⟨p,k+2,Jn⟩) h.lt).trans (h.cn k),
  (hb.frozen (p:=⟨p,0,Jn⟩) h.lt).trans h.f0,(hb.frozen (p:=⟨p,1,Jn⟩) h.lt).trans h.f1,F0 h.lt hb.size⟩
theorem Hold.of_row{w:JW}{p:Nat}{a:Int}{P:Option Addr}{T:TypeId}(h:w.heap[p]?=Jo (Jc #[Ji Jl a,Jp P] T (0,0))):Hold w p a P:=by
 refine⟨by rw[cell_of_row _ _ _ _ _ _ h];rfl,by rw[cell_of_row _ _ _ _ _ _ h];rfl,fun k=>by rw[cell_of_row _ _ _ _ _ _ h];rfl,by simp only[Fc,h];rfl,by simp only[Fc,h];rfl,?_⟩;rcases Nat.lt_or_ge p w.heap.size with h1|h1
 ·exact h1
 ·rw[Array.getElem?_eq_none h1]at h;cases h
theorem Hold.new(w:JW)(a:Int)(P:Option Addr):Hold (w.alloc (Jc #[Ji Jl a,Jp P] 29)) w.heap.size a P:=Hold.of_row (Ua w _)
theorem Hold.store{w:JW}{p:Nat}{a:Int}{P:Option Addr}(h:Hold w p a P)(b:Int)(Q:Option Addr):Hold ((w.setCell ⟨p,0,Jn⟩ (Ji Jl b)).setCell ⟨p,1,Jn⟩ (Jp Q)) p b Q:=by
 have e1:(w.setCell ⟨p,0,Jn⟩ (Ji Jl b)).cell? ⟨p,1,Jn⟩=Jo (Jp P):=(E7 _ _ _ _ (by simp)).trans h.c1;refine⟨?_,Fa _ _ _ e1,fun k=>?_,?_,?_,?_⟩
 ·rw[E7 _ _ _ _ (by simp)];exact Fa _ _ _ h.c0
 ·rw[E7 _ _ _ _ (by simp),E7 _ _ _ _ (by simp)];exact h.cn k
 ·rw[EY,EY];exact h.f0
 ·rw[EY,EY];exact h.f1
 ·simpa[Fb]using h.lt
theorem Jj.hold{w w':JW}{v:Value}{z:Int}{p:Nat}{a:Int}{P:Option Addr}(h:Jj 0 w v z)(hr:Hold w p a P)(hs:w'.heap.size=w.heap.size)(hk:∀k,k≠p->w'.heap[k]?=w.heap[k]?):Jj 0 w' v z:=by
 rcases h with h|⟨hz,q,A,n,c,xs,rfl,hq,hB,hA,c0,c1,hl,hc,hn,hw,ht,hv⟩
 ·exact .inl h
 ·have hqp:q≠p:=by
   intro e;subst e;rw[hr.c0]at c0;cases c0
  refine .inr ⟨hz,q,A,n,c,xs,rfl,by omega,hB,hA,(E8 (hk q hqp)).trans c0,(E8 (hk q hqp)).trans c1,⟨hl.1,hl.2.1,fun h0=>?_⟩,hc,hn,hw,ht,hv⟩;obtain⟨b,o,e,hb,hcell⟩:=hl.2.2 h0;have hlen:=hl.1;rw[JS]at hlen;have hbp:b≠p:=by
   intro e2;subst e2;have h1:=hcell 0 (Ji .u64 ((xs.getD 0 0:Nat):Int)) (by simp[u64s,show 0<xs.length by omega])
   match o,h1 with
   | 0,h1=>rw[show(0+0:Nat)=0 from rfl,hr.c0]at h1;cases h1
   | 1,h1=>rw[show(1+0:Nat)=1 from rfl,hr.c1]at h1;cases h1
   | o+2,h1=>rw[Nat.add_zero,hr.cn o]at h1;cases h1
  exact⟨b,o,e,by omega,fun j u hu=>(E8 (hk b hbp)).trans (hcell j u hu)⟩
theorem Jj.held{w:JW}{v:Value}{z:Int}{p:Nat}{a:Int}{P:Option Addr}(h:Jj 0 w v z)(hr:Hold w p a P)(x y:Value):Jj 0 ((w.setCell ⟨p,0,Jn⟩ x).setCell ⟨p,1,Jn⟩ y) v z:=
 h.hold hr (by simp[Fb]) (fun k hk=>(EZ (w.setCell ⟨p,0,Jn⟩ x) ⟨p,1,Jn⟩ y k hk).trans (EZ w ⟨p,0,Jn⟩ x k hk))
theorem Var.held{w:JW}{q:Nat}{b:Int}{Q:Option Addr}{z:Int}{p:Nat}{a:Int}{P:Option Addr}(h:Var w q b Q z)(hr:Hold w p a P)(hq:q≠p)(x y:Value):Var ((w.setCell ⟨p,0,Jn⟩ x).setCell ⟨p,1,Jn⟩ y) q b Q z:=by
 have hb:((w.setCell ⟨p,0,Jn⟩ x).setCell ⟨p,1,Jn⟩ y).heap[q]?=w.heap[q]?:=(EZ (w.setCell ⟨p,0,Jn⟩ x) ⟨p,1,Jn⟩ y q hq).trans (EZ w ⟨p,0,Jn⟩ x q hq);exact⟨(E8 hb).trans h.c0,(E8 hb).trans h.c1,by simpa[Fb]using h.lt,h.int.held hr x y⟩
