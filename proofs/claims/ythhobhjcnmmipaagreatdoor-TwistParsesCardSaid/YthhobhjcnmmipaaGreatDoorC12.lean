/- C12: GcdZ -/
import Derived.Test.YthhobhjcnmmipaaGreatDoorC11
import Derived.Test.YthhobhjcnmmipaaGreatDoorC07
set_option maxRecDepth 100000
set_option maxHeartbeats 16000000
namespace Go.Proofs.YthhobhjcnmmipaaGreatDoor
open Go.Value renaming pointer→Jp,int→Ji,agg→Ja
open Go.IntKind renaming i64→Jl
open Go.Obj renaming cells→Jc
open _root_.Option renaming none→Jn,some→Jo
open Go.RowKit.Below renaming refl→E4
open _root_.Nat renaming le_refl→E5,gcd→E6,lt_of_lt_of_le→E8
open Go.World renaming size_alloc→E7
open Go.RowKit
theorem ZY(a b:Int)(p:Nat)(Q:Option Addr)(z k:Int)(w:World)(h:Jj 0 w (Ja #[Ji Jl a,Jp (Jo ⟨p,0,Jn⟩)]) z)(h':Jj 0 w (Ja #[Ji Jl b,Jp Q]) k)(hlz:z.natAbs<base 400)(hlk:k.natAbs<base 400)(ht:Yf w)(hw0:TzG<w.heap.size) :
  Calls Tryz.prog 74 #[Ja #[Ji Jl a,Jp (Jo ⟨p,0,Jn⟩)],Ja #[Ji Jl b,Jp Q]] w (Qb ((E6 z.natAbs k.natAbs:Nat):Int) w):=by
 obtain⟨bz,hbz⟩:∃bz,decide (z<0)=bz:=⟨_,rfl⟩;obtain⟨bk,hbk⟩:∃bk,decide (k<0)=bk:=⟨_,rfl⟩;have kk:=(((E4 w.heap.size w).alloc (E5 _) (Jc #[Ji Jl a,Jp (Jo ⟨p,0,Jn⟩)] 29)).alloc (by simp) (Jc #[Ji Jl b,Jp Q] 29)).alloc (by simp;omega) (Jc #[Ji Jl 0,Jp Jn] 29);have Hr:=Lh (Res.new ((w.alloc (Jc #[Ji Jl a,Jp (Jo ⟨p,0,Jn⟩)] 29)).alloc (Jc #[Ji Jl b,Jp Q] 29)));simp only[E7]at Hr;have Hx:=Lh (JF _ z _ bz hbz (h.keep kk));have Hy:=Lh (fun w' (hb:Below w.heap.size w w')=>JF _ k w' bk hbk (h'.keep hb));have Kk:=Lh kk;have Hlz:=Lh hlz;have Hlk:=Lh hlk;have Ht:=Lh (fun w' (h:Below w.heap.size w w')=>Yp ht h hw0);obtain⟨g,hg⟩:∃g,E6 z.natAbs k.natAbs=g:=⟨_,rfl⟩;have Hg:=Lh hg;rw[hg];clear hg;have Hs:=Lh (show Jx false g=(g:Int)by simp[Jx]);clear h h' kk hbz hbk hlz hlk ht;go_enter Tryz.func74,Tryz.ntmps74;go_wp2_with fail
 refine Hx.out.mono ?_;rintro e w1⟨A,n,c,xs,rfl,hx,h1⟩;have e1:w1.cell? ⟨w.heap.size+1,0,Jn⟩=Jo (Ji Jl b):=(h1.cell (p:=⟨w.heap.size+1,0,Jn⟩) (by simp)).trans (by simp[go_sem]);have e2:w1.cell? ⟨w.heap.size+1,1,Jn⟩=Jo (Jp Q):=(h1.cell (p:=⟨w.heap.size+1,1,Jn⟩) (by simp)).trans (by simp[go_sem]);have K1:=Lh (Jd Kk.out h1);have R1:=Lh (Hr.out.keep h1);have Hnx:=Lh hx;clear h1 hx;go_wp2_with fail
 refine(Hy.out _ K1.out).mono ?_;rintro e w2⟨A',n',c',ys,rfl,hy,h2⟩;have Hnx2:=Lh (Hnx.out.keep h2);have Hny:=Lh hy;have K2:=Lh (Jd K1.out h2);have R2:=Lh (R1.out.keep h2);clear h2 hy e1 e2;have Hmul:=Lh (XZ w2 Hnx2.out Hny.out Hlz.out Hlk.out (Ht.out _ K2.out) (E8 hw0 K2.out.size));go_wp2_with fail
 refine Hmul.out.mono ?_;rintro e w3⟨A3,n3,c3,zs,rfl,h3n,h3⟩;rw[Hg.out]at h3n;have K4:=Lh (Jd K2.out h3);have R4:=Lh (R2.out.keep h3);have Hsg:=Lh (JD false _ w3 h3n Hs.out);clear h3n h3;go_wp2_with fail
 refine Hsg.out.mono ?_;rintro e w5⟨a',P',rfl,hi5,h5⟩;have R5:=Lh (R4.out.keep h5);have Hi5:=Lh (hi5.stored R5.out (Ji Jl a') (Jp P'));have K5:=Lh (Jg (Jd K4.out h5) (show w.heap.size<=w.heap.size+2 by omega) (Ji Jl a') (Jp P'));have k0:=R5.out.k0;have k1:=R5.out.k1;have f0:=R5.out.f0;have f1:=R5.out.f1;clear hi5 h5;go_wp2;exact bodyPost_ret (v:=Ja #[Ji Jl a',Jp P']) (by simp[results,Tryz.results74,go_sem,k0,k1]) rfl ⟨a',P',rfl,Hi5.out,K5.out⟩
theorem ZX(a b:Int)(p:Nat)(z k:Int)(w:World)(h:Jj 0 w (Ja #[Ji Jl a,Jp Jn]) z)(h':Jj 0 w (Ja #[Ji Jl b,Jp (Jo ⟨p,0,Jn⟩)]) k)(hlz:z.natAbs<base 400)(hlk:k.natAbs<base 400)(ht:Yf w)(hw0:TzG<w.heap.size) :
  Calls Tryz.prog 74 #[Ja #[Ji Jl a,Jp Jn],Ja #[Ji Jl b,Jp (Jo ⟨p,0,Jn⟩)]] w (Qb ((E6 z.natAbs k.natAbs:Nat):Int) w):=by
 obtain⟨bz,hbz⟩:∃bz,decide (z<0)=bz:=⟨_,rfl⟩;obtain⟨bk,hbk⟩:∃bk,decide (k<0)=bk:=⟨_,rfl⟩;have kk:=(((E4 w.heap.size w).alloc (E5 _) (Jc #[Ji Jl a,Jp Jn] 29)).alloc (by simp) (Jc #[Ji Jl b,Jp (Jo ⟨p,0,Jn⟩)] 29)).alloc (by simp;omega) (Jc #[Ji Jl 0,Jp Jn] 29);have Hr:=Lh (Res.new ((w.alloc (Jc #[Ji Jl a,Jp Jn] 29)).alloc (Jc #[Ji Jl b,Jp (Jo ⟨p,0,Jn⟩)] 29)));simp only[E7]at Hr;have Hx:=Lh (JF _ z _ bz hbz (h.keep kk));have Hy:=Lh (fun w' (hb:Below w.heap.size w w')=>JF _ k w' bk hbk (h'.keep hb));have Kk:=Lh kk;have Hlz:=Lh hlz;have Hlk:=Lh hlk;have Ht:=Lh (fun w' (h:Below w.heap.size w w')=>Yp ht h hw0);obtain⟨g,hg⟩:∃g,E6 z.natAbs k.natAbs=g:=⟨_,rfl⟩;have Hg:=Lh hg;rw[hg];clear hg;have Hs:=Lh (show Jx false g=(g:Int)by simp[Jx]);clear h h' kk hbz hbk hlz hlk ht;go_enter Tryz.func74,Tryz.ntmps74;go_wp2_with fail
 refine Hx.out.mono ?_;rintro e w1⟨A,n,c,xs,rfl,hx,h1⟩;have e1:w1.cell? ⟨w.heap.size+1,0,Jn⟩=Jo (Ji Jl b):=(h1.cell (p:=⟨w.heap.size+1,0,Jn⟩) (by simp)).trans (by simp[go_sem]);have e2:w1.cell? ⟨w.heap.size+1,1,Jn⟩=Jo (Jp (Jo ⟨p,0,Jn⟩)):=(h1.cell (p:=⟨w.heap.size+1,1,Jn⟩) (by simp)).trans (by simp[go_sem]);have K1:=Lh (Jd Kk.out h1);have R1:=Lh (Hr.out.keep h1);have Hnx:=Lh hx;clear h1 hx;go_wp2_with fail
 refine(Hy.out _ K1.out).mono ?_;rintro e w2⟨A',n',c',ys,rfl,hy,h2⟩;have Hnx2:=Lh (Hnx.out.keep h2);have Hny:=Lh hy;have K2:=Lh (Jd K1.out h2);have R2:=Lh (R1.out.keep h2);clear h2 hy e1 e2;have Hmul:=Lh (XZ w2 Hnx2.out Hny.out Hlz.out Hlk.out (Ht.out _ K2.out) (E8 hw0 K2.out.size));go_wp2_with fail
 refine Hmul.out.mono ?_;rintro e w3⟨A3,n3,c3,zs,rfl,h3n,h3⟩;rw[Hg.out]at h3n;have K4:=Lh (Jd K2.out h3);have R4:=Lh (R2.out.keep h3);have Hsg:=Lh (JD false _ w3 h3n Hs.out);clear h3n h3;go_wp2_with fail
 refine Hsg.out.mono ?_;rintro e w5⟨a',P',rfl,hi5,h5⟩;have R5:=Lh (R4.out.keep h5);have Hi5:=Lh (hi5.stored R5.out (Ji Jl a') (Jp P'));have K5:=Lh (Jg (Jd K4.out h5) (show w.heap.size<=w.heap.size+2 by omega) (Ji Jl a') (Jp P'));have k0:=R5.out.k0;have k1:=R5.out.k1;have f0:=R5.out.f0;have f1:=R5.out.f1;clear hi5 h5;go_wp2;exact bodyPost_ret (v:=Ja #[Ji Jl a',Jp P']) (by simp[results,Tryz.results74,go_sem,k0,k1]) rfl ⟨a',P',rfl,Hi5.out,K5.out⟩
theorem OH(w:World)(s g:Nat)(hs:w.heap.size=s)(h0:0<g)(h1:g<18446744073709551616)(hz:Jx false g=(g:Int)) :
  Calls Tryz.prog 106 #[.slice (Jo ⟨s,0,Jn⟩) 1 1,.bool false] (w.alloc (Jc #[Ji .u64 (g:Int)] 154)) (Qb (g:Int) (w.alloc (Jc #[Ji .u64 (g:Int)] 154))):=by
 subst hs;exact JD false (g:Int) _ (Gf w h0 h1) hz
theorem WT(a b:Int)(w:World)(ha:I64 a)(hb:I64 b)(g:Nat)(hg:E6 a.natAbs b.natAbs=g)(hg1:9223372036854775807<g)(ht:Yf w)(hw:TzG<w.heap.size) :
  Calls Tryz.prog 74 #[JN a,JN b] w (Qb (g:Int) w):=by
 have hg2:9223372036854775807<(g:Int):=by omega
 have hgl:g<18446744073709551616:=by
  rw[←hg];have h1:=QN ha;have h2:=QN hb;rcases Nat.eq_zero_or_pos a.natAbs with h0|h0
  ·rw[h0,Nat.gcd_zero_left];exact h2
  ·exact Nat.lt_of_le_of_lt (Nat.gcd_le_left _ h0) h1
 have Hg:=Lh hg;have Hx:=Lh (fun w' (h:Below w.heap.size w w')=>Yp ht h hw);have Hs:=Lh (show Jx false g=(g:Int)by simp[Jx]);have Hone:=Lh (fun w' s hs=>OH w' s g hs (show 0<g by omega) hgl Hs.out);have kk:=(((E4 w.heap.size w).alloc (E5 _) (Jc #[Ji Jl a,Jp Jn] 29)).alloc (by simp) (Jc #[Ji Jl b,Jp Jn] 29)).alloc (by simp;omega) (Jc #[Ji Jl 0,Jp Jn] 29);have Hr:=Lh (Res.new ((w.alloc (Jc #[Ji Jl a,Jp Jn] 29)).alloc (Jc #[Ji Jl b,Jp Jn] 29)));simp only[E7]at Hr;have Kk:=Lh kk;clear hg ht hg1 kk hgl;go_enter Tryz.func74,Tryz.ntmps74;go_wp2_with fail
 go_quiet ((first|(go_at_call 105;exact Calls.quiet_of_same (Qj _ _ (by assumption)))|(go_at_call 104;exact Calls.quiet_of_same (YB _ _ g _ (QN ha) (QN hb) Hg.out (Hx.out _ (by repeat (first|exact E4 _ _|refine below_drewN ?_ _|refine Below.alloc ?_ (by first|exact E5 _|(simp <;> omega)) _)))))))
 go_wp2_with fail
 refine(Hone.out _ _ (by simp)).mono ?_;rintro e w5⟨a',P',rfl,hi5,h5⟩;have R5:=Lh (((Hr.out.keep (below_drewN (E4 _ _) _)).keep ((E4 _ _).alloc (E5 _) _)).keep h5);have Hi5:=Lh (hi5.stored R5.out (Ji Jl a') (Jp P'));have K5:=Lh (Jg (Jd (Jd (below_drewN Kk.out _) ((E4 _ _).alloc (E5 _) _)) h5) (show w.heap.size<=w.heap.size+2 by omega) (Ji Jl a') (Jp P'));have k0:=R5.out.k0;have k1:=R5.out.k1;have f0:=R5.out.f0;have f1:=R5.out.f1;clear hi5 h5;go_wp2;exact bodyPost_ret (v:=Ja #[Ji Jl a',Jp P']) (by simp[results,Tryz.results74,go_sem,k0,k1]) rfl ⟨a',P',rfl,Hi5.out,K5.out⟩
theorem YC(a b:Int)(P Q:Option Addr)(z k:Int)(w:World)(h:Jj 0 w (Ja #[Ji Jl a,Jp P]) z)(h':Jj 0 w (Ja #[Ji Jl b,Jp Q]) k)(hlz:z.natAbs<base 400)(hlk:k.natAbs<base 400)(ht:Yf w)(_hw:0<w.heap.size) :
  Calls Tryz.prog 74 #[Ja #[Ji Jl a,Jp P],Ja #[Ji Jl b,Jp Q]] w (Qb ((E6 z.natAbs k.natAbs:Nat):Int) w):=by
 have hw0:=Er ht;rcases h.ways with⟨hz,e⟩|⟨hz,p,e,_,_⟩
 ·obtain⟨rfl,rfl⟩:=Q9 e;rcases h'.ways with⟨hk,e'⟩|⟨hk,q,e',_,_⟩
  ·obtain⟨rfl,rfl⟩:=Q9 e';by_cases hs:E6 a.natAbs b.natAbs<=9223372036854775807
   ·refine(ZW a b w hz hk _ rfl hs ht hw0).mono ?_;rintro e w' ⟨rfl,hb⟩;exact⟨_,Jn,rfl,.inl ⟨⟨by omega,by omega⟩,rfl⟩,hb⟩
   ·exact WT a b w hz hk _ rfl (by omega) ht hw0
  ·obtain⟨rfl,rfl⟩:b=0/\Q=Jo ⟨q,0,Jn⟩:=by simpa using e'
   exact ZX a 0 q a k w h h' hlz hlk ht hw0
 ·obtain⟨rfl,rfl⟩:a=0/\P=Jo ⟨p,0,Jn⟩:=by simpa using e
  exact ZY 0 b p Q z k w h h' hlz hlk ht hw0
