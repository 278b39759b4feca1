/- C09: DivG -/
import Derived.Test.YthhobhjcnmmipaaGreatDoorC06
import Derived.Test.YthhobhjcnmmipaaGreatDoorC08
set_option maxRecDepth 100000
set_option maxHeartbeats 16000000
namespace Go.Proofs.YthhobhjcnmmipaaGreatDoor
open Go.Value renaming int→Ji
open Go.IntKind renaming u64→Ju,u64→FO
open _root_.Option renaming none→Jn
open Go renaming World→JW
open _root_.Nat renaming mul_le_mul_left→E4,mul_add→E7,mul_comm→E8,mul_assoc→E9,le_refl→EY,mul_le_mul_right→F0,add_mul→Fa,mul_left_comm→Fb,add_zero→Fc,zero_le→Fe,eq_zero_or_pos→Ff,mul_zero→Fi,div_lt_iff_lt_mul→Fj,div_add_mod→Fk,pow_pos→Fm,mod_lt→Fo,lt_of_lt_of_le→Fp,one_mul→Fq,lt_or_ge→Fv,mul_one→Fw,div_eq_of_lt→Fy,two_pow_add_eq_or_of_lt→Fz,mul_lt_mul_of_pos_right→FA,lt_trichotomy→FC,zero_add→FD,mod_eq_of_lt→FG,min_eq_left→FH,le_div_iff_mul_le→FJ,pow_le_pow_right→FL,add_comm→FM,pow_add→FP,mul_add_mod→FQ,mul_le_mul→FR,le_trans→FU
open _root_.List renaming length_append→E5,take_of_length_le→E6,replicate→EZ,drop_zero→Fg,drop_eq_nil_of_le→Fh,length_singleton→Fl,take_append_of_le_length→Fr,append_assoc→Ft,nil_append→Fu,length_take→Fx,getElem?_append_right→FB,append_nil→FI,getElem?_eq_none→FK,getD→FN,take_take→FS,take_zero→FT
open Go.RowKit
theorem Of{u v U D M g ur vr:Nat}(hu:u=U*M+ur)(hur:ur<M)(hv:v=D*M+vr)(hvr:vr<M)(hg1:g*D<=U)(hg2:U<(g+1)*D)(hgD:g<=D+1)(hv0:0<v):u/v<=g/\g<=u/v+1:=by
 have hM:0<M:=by omega
 constructor
 ·rw[Nat.div_le_iff_le_mul_add_pred hv0];have h1:(U+1)*M<=(g+1)*D*M:=F0 _ hg2;have h2:(g+1)*D*M=(g+1)*(D*M):=E9 _ _ _;have h3:(g+1)*(D*M)<=(g+1)*v:=E4 _ (by omega);have h4:(U+1)*M=U*M+M:=by rw[Fa,Fq]
  have h5:(g+1)*v=g*v+v:=by rw[Fa,Fq]
  rw[E8 v g];omega
 ·rcases Ff g with h0|h0
  ·rw[h0];exact Fe _
  ·obtain⟨k,rfl⟩:∃k,g=k+1:=⟨g-1,by omega⟩;have:k<=u/v:=by
    rw[FJ hv0];have h1:k*v<=k*((D+1)*M):=E4 _ (by rw[Fa,Fq];omega);have h2:k*((D+1)*M)=(k*D+k)*M:=by rw[←E9,E7,Fw]
    have h3:k*D+k<=U:=by
     have:(k+1)*D=k*D+D:=by rw[Fa,Fq]
     omega
    have h4:(k*D+k)*M<=U*M:=F0 _ h3;omega
   omega
theorem ZU{u v U v1 v0 M ur vr u2 u1 u0:Nat}(hu:u=U*M+ur)(hU:U=18446744073709551616*(18446744073709551616*u2+u1)+u0)(hv:v=(18446744073709551616*v1+v0)*M+vr)(hvr:vr<M)(h21:v1<=u2)(hv1:9223372036854775808<=v1)(hv0:v0<18446744073709551616)(huv:u<18446744073709551616*v):u/v<=18446744073709551615/\18446744073709551615<=u/v+1:=by
 have hp:0<v:=by
  rcases Ff v with h|h
  ·subst h;omega
  ·exact h
 constructor
 ·have:=(Fj hp).2 huv;omega
 ·have:18446744073709551614<=u/v:=by
   rw[FJ hp];have h1:18446744073709551614*v<=18446744073709551614*((18446744073709551616*v1+v0+1)*M):=E4 _ (by rw[Fa (18446744073709551616*v1+v0),Fq];omega);have h2:18446744073709551614*((18446744073709551616*v1+v0+1)*M)=(18446744073709551614*(18446744073709551616*v1+v0+1))*M:=(E9 _ _ _).symm;have h3:18446744073709551614*(18446744073709551616*v1+v0+1)<=U:=by rw[hU];omega
   have h4:=F0 M h3;omega
  omega
theorem KN{u v g q R un p lo N:Nat}(hq:u/v=q)(hu:u=lo+N*un)(hs:R+v*g=lo+N*p)(hR:R<N)(hvN:v<=N)(hv:0<v)(h:g=q):p=un/\R=u%v:=by
 subst h;have hm:=Fk u v;have hlt:=Fo u hv;rw[hq]at hm;have e:R+N*un=u%v+N*p:=by omega
 rcases FC un p with h1|h1|h1
 ·have:N*(un+1)<=N*p:=E4 _ h1;rw[E7]at this;omega
 ·subst h1;exact⟨rfl,by omega⟩
 ·have:N*(p+1)<=N*un:=E4 _ h1;rw[E7]at this;omega
theorem ZF{u v g q R un p lo N:Nat}(hq:u/v=q)(hu:u=lo+N*un)(hs:R+v*g=lo+N*p)(hR:R<N)(hvN:v<=N)(hv:0<v)(h:g=q+1):p=un+1/\R+v=N+u%v:=by
 subst h;have hm:=Fk u v;have hlt:=Fo u hv;rw[hq]at hm;rw[E7,Fw]at hs;have e:R+v+N*un=u%v+N*p:=by omega
 rcases FC (un+1) p with h1|h1|h1
 ·have:N*(un+1+1)<=N*p:=E4 _ h1;rw[E7,E7]at this;omega
 ·subst h1;rw[E7]at e;exact⟨rfl,by omega⟩
 ·have:N*p<=N*un:=E4 _ (by omega);omega
theorem XW{g v1 v0 r u2 u1 u0:Nat}(he:r+g*v1=18446744073709551616*u2+u1)(h:g*v0<=18446744073709551616*r+u0):g*(18446744073709551616*v1+v0)<=18446744073709551616*(18446744073709551616*u2+u1)+u0:=by
 have e:g*(18446744073709551616*v1+v0)=18446744073709551616*(g*v1)+g*v0:=by rw[E7,Fb]
 rw[e];generalize g*v1=x at *
 generalize g*v0=y at *
 omega
theorem ZV{g v1 v0 r u2 u1 u0:Nat}(he:r+g*v1=18446744073709551616*u2+u1)(h:18446744073709551616*r+u0<g*v0):18446744073709551616*(18446744073709551616*u2+u1)+u0<g*(18446744073709551616*v1+v0):=by
 have e:g*(18446744073709551616*v1+v0)=18446744073709551616*(g*v1)+g*v0:=by rw[E7,Fb]
 rw[e];generalize g*v1=x at *
 generalize g*v0=y at *
 omega
theorem OR{g v1 v0 r u2 u1 u0:Nat}(he:r+(g+1)*v1=18446744073709551616*u2+u1)(h:18446744073709551616<=r+v1)(hg:g<18446744073709551616)(hv0:v0<18446744073709551616):g*(18446744073709551616*v1+v0)<=18446744073709551616*(18446744073709551616*u2+u1)+u0:=by
 refine XW (r:=r+v1) (by rw[←he,Fa];omega) ?_;have h1:g*v0<=18446744073709551615*18446744073709551615:=FR (by omega) (by omega);have h2:18446744073709551616*18446744073709551616<=18446744073709551616*(r+v1):=E4 _ h;omega
theorem Og{v1 v0 r u2 u1 u0 g:Nat}(he:r+g*v1=18446744073709551616*u2+u1)(hr:r<v1)(h0:u0<18446744073709551616):18446744073709551616*(18446744073709551616*u2+u1)+u0<(g+1)*(18446744073709551616*v1+v0):=by
 refine Fp ?_ (E4 (g+1) (Nat.le_add_right _ v0));rw[Fb,Fa g 1 v1,Fq];generalize g*v1=x at *
 omega
theorem XB{d m q x h l s f s2 f2:Nat}(hd:d<18446744073709551616)(hm:m<18446744073709551616)(hq:q<18446744073709551616)(hx:x<18446744073709551616)(hh:d*m/18446744073709551616=h)(hl:d*m%18446744073709551616=l)
  (hs:(l+q+0)%18446744073709551616=s) (hf:(l+q+0)/18446744073709551616=f) (hs2:(x+18446744073709551616-s-0)%18446744073709551616=s2) (hf2:(if x<s+0 then 1 else 0)=f2) :
  s2+d*m+q=x+18446744073709551616*(h+f+f2)/\h+f+f2<18446744073709551616/\s2<18446744073709551616/\s<18446744073709551616/\h+f<18446744073709551616:=by
 have h1:d*m<=18446744073709551615*18446744073709551615:=FR (by omega) (by omega);generalize d*m=t at *
 split at hf2 <;> omega
def Zu(w0:JW)(g o n:Nat)(xs ys:List Nat)(m:Nat)(vi vp:Value)(wr:JW):Prop:=
 ∃(rs:List Nat) (p:Nat),rs.length<=n/\vi=Ji .i64 (rs.length:Nat)/\vp=Ji Ju (p:Nat)/\p<18446744073709551616/\Jy rs/\Je rs+Je (ys.take rs.length)*m=Je ((xs.drop o).take rs.length)+base rs.length*p/\Blk wr g (put xs o rs)/\Only g w0 wr
theorem ZC{w0 wr:JW}{g o n k x d m q h l s f s2 f2 j:Nat}{xs ys rs:List Nat}(hk:rs.length=k)(hkn:k<n)(ho:o+n<=xs.length)(hx:xs.getD (o+k) 0=x)(hy:ys.getD k 0=d)(hx1:x<18446744073709551616)(hd:d<18446744073709551616)(hm:m<18446744073709551616)(hq:q<18446744073709551616)
  (hh:d*m/18446744073709551616=h) (hl:d*m%18446744073709551616=l) (hs:(l+q+0)%18446744073709551616=s) (hf:(l+q+0)/18446744073709551616=f) (hs2:(x+18446744073709551616-s-0)%18446744073709551616=s2) (hf2:(if x<s+0 then 1 else 0)=f2)
  (hw:Jy rs) (hv:Je rs+Je (ys.take rs.length)*m=Je ((xs.drop o).take rs.length)+base rs.length*q) (hb:Blk wr g (put xs o rs)) (ho2:Only g w0 wr) :
  Zu w0 g o n xs ys m (Ji .i64 ((k:Int)+1)) (Ji Ju ((h:Int)+f+f2)) ((wr.drewN j).setCell ⟨g,o+k,Jn⟩ (Ji Ju (s2:Int))):=by
 obtain⟨e1,e2,e3,_⟩:=XB hd hm hq hx1 hh hl hs hf hs2 hf2;subst hk;refine⟨rs ++ [s2],h+f+f2,by simp;omega,by simp,by simp,e2,JY hw e3,?_,?_,(ho2.drewN j).set_ _ _⟩
 ·rw[JB,E5,Fl,JJ,Yo (by omega) hx,JB,QL (by omega),JX hy];have e4:base rs.length*(s2+d*m+q)=base rs.length*(x+18446744073709551616*(h+f+f2)):=by rw[e1]
  simp only[E7,Fa,E9,Fb]at e4 hv ⊢;omega
 ·rw[←QJ (by omega)];exact(hb.drewN j).set_ _ (by rw[Jv (by omega)];omega)
theorem Yq(g o n c n' c':Nat)(A':Option Addr)(xs ys:List Nat)(m:Nat)(w:JW)(hb:Blk w g xs)(hl:IsL w A' n' c' (u64s ys))(hA:∀a:Addr,A'=some a->a.block≠g)(ho:o+n<=xs.length)(hn':n'<=n)(hx:Jy xs)(hy:Jy ys)(hm:m<18446744073709551616)(hn:n<1000000)(_hoo:o<1000000)(h0:0<n') :
  Calls Tryz.prog 165 #[.slice (some ⟨g,o,Jn⟩) n c,.slice A' n' c',Ji Ju (m:Nat)] w fun e w'=>
   ∃(rs:List Nat) (q:Nat),e= .returned (Ji Ju (q:Nat))/\rs.length=n'/\q<18446744073709551616/\Jy rs/\Je rs+Je ys*m=Je ((xs.drop o).take n')+base n'*q/\Blk w' g (put xs o rs)/\Only g w w':=by
 have hlen:ys.length=n':=by have:=hl.1;rwa [JS]at this
 obtain⟨b',o',rfl,hb',hc'⟩:=hl.2.2 h0;have hne:b'≠g:=hA _ rfl;have Hb:=Lh hb;have Hx:=Lh hx;have Hy:=Lh hy;have Hlen:=Lh hlen;have Hc:=Lh (show ∀k:Nat,k<n'->w.cell? ⟨b',o'+k,Jn⟩=some (Ji Ju ((ys.getD k 0:Nat):Int))from fun k hk=>hc' k _ (by simp[u64s,show k<ys.length by omega]));have hle:=hl.2.1;clear hb hx hy hl hA hlen hc';go_enter Tryz.func165,Tryz.ntmps165;go_wp2_with fail
 go_loopw [17,7] (fun vi vp wr=>Zu w g o n' xs ys m vi vp wr) (fun vi _ _=>n'-(intOf vi).toNat)
 case atStart=>exact⟨[],0,Fe _,rfl,rfl,by decide,fun d hd=>absurd hd (by simp),by simp[Je,Qk],by rw[Yz];exact Hb.out,Only.refl _ _⟩
 case round=>
  obtain⟨rs,q,hkn,rfl,rfl,hq,hw,hv,hblk,honly⟩:=hrel;have Hw:=Lh hw;have Hv:=Lh hv;have Hblk:=Lh hblk;have Honly:=Lh honly;obtain⟨k,hk⟩:∃k,rs.length=k:=⟨_,rfl⟩;have Hk:=Lh hk;rw[hk]at hkn ⊢;by_cases hlt:k<n'
  ·have hcell:=hblk.cell (i:=o+k) (by rw[Jv (by omega)];omega);rw[QM (by omega) (by omega)]at hcell;have hfz:=hblk.frozen (o+k);have hcy:=(honly.cell (o:=o'+k) hb' hne).trans (Hc.out k hlt);have hx1:=JG Hx.out (o+k);have hy1:=JG Hy.out k;obtain⟨x,hx⟩:∃x,xs.getD (o+k) 0=x:=⟨_,rfl⟩;obtain⟨d,hd⟩:∃d,ys.getD k 0=d:=⟨_,rfl⟩;rw[hx]at hcell hx1;rw[hd]at hcy hy1;have HX:=Lh hx;have HY:=Lh hd;clear hblk honly hw hv hk hx hd;obtain⟨h,hh⟩:∃h,d*m/18446744073709551616=h:=⟨_,rfl⟩;obtain⟨l,hl⟩:∃l,d*m%18446744073709551616=l:=⟨_,rfl⟩;obtain⟨s,hs⟩:∃s,(l+q+0)%18446744073709551616=s:=⟨_,rfl⟩;obtain⟨f,hf⟩:∃f,(l+q+0)/18446744073709551616=f:=⟨_,rfl⟩;obtain⟨s2,hs2⟩:∃s2,(x+18446744073709551616-s-0)%18446744073709551616=s2:=⟨_,rfl⟩;obtain⟨f2,hf2⟩:∃f2,(if x<s+0 then 1 else 0)=f2:=⟨_,rfl⟩;have Hmul:=Lh (UI d m h l hy1 hm hh hl);have hadd:∀W:JW,(callFunc 169 #[Ji Ju (l:Int),Ji Ju (q:Int),Ji Ju 0]).run Tryz.prog W= .ok (.value (.tuple #[Ji Ju (s:Int),Ji Ju (f:Int)])) W:=Yv l q 0 s f (by omega) hs hf;have hadd2:∀W:JW,(callFunc 166 #[Ji Ju (x:Int),Ji Ju (s:Int),Ji Ju 0]).run Tryz.prog W= .ok (.value (.tuple #[Ji Ju (s2:Int),Ji Ju (f2:Int)])) W:=Y0 x s 0 s2 f2 (by omega) hs2 hf2;obtain⟨_,hle,_,_,hle2⟩:=XB hy1 hm hq hx1 hh hl hs hf hs2 hf2;have hle':(h:Int)+f+f2<18446744073709551616:=by omega
   have hle2':(h:Int)+f<18446744073709551616:=by omega
   have Hh:=Lh hh;have Hl:=Lh hl;have Hs:=Lh hs;have Hf:=Lh hf;have Hs2:=Lh hs2;have Hf2:=Lh hf2;clear hh hl hs hf hs2 hf2;go_wp2_with fail
   refine(Hmul.out _).mono ?_;rintro e w' ⟨rfl,rfl⟩;go_wp2_with fail
   exact⟨ZC (j:=0) Hk.out hlt (by omega) HX.out HY.out hx1 hy1 hm hq Hh.out Hl.out Hs.out Hf.out Hs2.out Hf2.out Hw.out Hv.out Hblk.out Honly.out,by simp[intOf] <;> omega⟩
  ·obtain rfl:k=n':=by omega
   have Hys:=Lh (show ys.take k=ys from E6 (by rw[Hlen.out];exact EY _));clear hblk honly hw hv hk;go_wp2;go_ret;exact⟨rs,q,rfl,Hk.out,hq,Hw.out,by have h1:=Hv.out;rw[Hk.out,Hys.out]at h1;exact h1,Hblk.out,Honly.out⟩
def UV(u2 u1 u0 v1 v0 g:Nat):Prop:=
 g<18446744073709551616/\((u2<v1/\g*(18446744073709551616*v1+v0)<=18446744073709551616*(18446744073709551616*u2+u1)+u0/\18446744073709551616*(18446744073709551616*u2+u1)+u0<(g+1)*(18446744073709551616*v1+v0))\/(v1<=u2/\g=18446744073709551615))
def Oz(w0:JW)(u2 u1 u0 v1 v0:Nat)(vg vr:Value)(wr:JW):Prop:=
 ∃g r:Nat,vg=Ji Ju (g:Nat)/\vr=Ji Ju (r:Nat)/\g<18446744073709551616/\r<18446744073709551616/\r+g*v1=18446744073709551616*u2+u1/\18446744073709551616*(18446744073709551616*u2+u1)+u0<(g+1)*(18446744073709551616*v1+v0)/\∃n,wr=w0.drewN n
theorem Oe{v1 u2 u1 u0 v0 q r:Nat}(hq:(18446744073709551616*u2+u1)/v1=q)(hr:(18446744073709551616*u2+u1)%v1=r)(h:u2<v1)(h1:u1<18446744073709551616)(h0:u0<18446744073709551616)(hv:v1<18446744073709551616) :
  q<18446744073709551616/\r<18446744073709551616/\r+q*v1=18446744073709551616*u2+u1/\18446744073709551616*(18446744073709551616*u2+u1)+u0<(q+1)*(18446744073709551616*v1+v0):=by
 have hp:0<v1:=by omega
 have hlt:=Fo (18446744073709551616*u2+u1) hp;have hdm:=Fk (18446744073709551616*u2+u1) v1;rw[hq,hr]at hdm;rw[hr]at hlt;rw[E8]at hdm;have he:r+q*v1=18446744073709551616*u2+u1:=by omega
 refine⟨?_,by omega,he,Og he hlt h0⟩;rw[←hq,Fj hp];have h2:18446744073709551616*(u2+1)<=18446744073709551616*v1:=E4 _ h;omega
theorem OO{g v0 h l r u0:Nat}(hh:g*v0/18446744073709551616=h)(hl:g*v0%18446744073709551616=l)(hu:u0<18446744073709551616):(g*v0<=18446744073709551616*r+u0↔h<r\/(h=r/\l<=u0)):=by
 generalize g*v0=x at *
 omega
theorem XX(u2 u1 u0 v1 v0:Nat)(w:JW)(h2:u2<18446744073709551616)(h1:u1<18446744073709551616)(h0:u0<18446744073709551616)(hv1:v1<18446744073709551616)(hv0:v0<18446744073709551616) :
  Calls Tryz.prog 173 #[Ji Ju (u2:Nat),Ji Ju (u1:Nat),Ji Ju (u0:Nat),Ji Ju (v1:Nat),Ji Ju (v0:Nat)] w fun e w'=>(∃g:Nat,e= .returned (Ji Ju (g:Nat))/\UV u2 u1 u0 v1 v0 g)/\∃n,w'=w.drewN n:=by
 by_cases htop:v1<=u2
 ·have Hfin:=Lh (show UV u2 u1 u0 v1 v0 18446744073709551615 from⟨by decide,.inr ⟨htop,rfl⟩⟩);go_enter Tryz.func173,Tryz.ntmps173;go_wp2;go_ret;exact⟨⟨18446744073709551615,rfl,Hfin.out⟩,0,rfl⟩
 ·have hlt:u2<v1:=by omega
  have Hlt:=Lh hlt;clear htop;obtain⟨q,hq⟩:∃q,(18446744073709551616*u2+u1)/v1=q:=⟨_,rfl⟩;obtain⟨r,hr⟩:∃r,(18446744073709551616*u2+u1)%v1=r:=⟨_,rfl⟩;have Hst:=Lh (Oe (u0:=u0) (v0:=v0) hq hr hlt h1 h0 hv1);have Hdiv:=Lh (fun w=>VL u2 u1 v1 w h1 hv1 hlt q r hq hr);clear hq hr;go_enter Tryz.func173,Tryz.ntmps173;go_wp2_with fail
  refine(Hdiv.out _).mono ?_;rintro e w1⟨rfl,n1,rfl⟩;go_wp2_with fail
  go_loopw [11,12] (fun vg vr wr=>Oz w u2 u1 u0 v1 v0 vg vr wr) (fun vg _ _=>(intOf vg).toNat)
  case atStart=>exact⟨q,r,rfl,rfl,Hst.out.1,Hst.out.2.1,Hst.out.2.2.1,Hst.out.2.2.2,n1,rfl⟩
  case round=>
   obtain⟨g,r,rfl,rfl,hg,hr,he,hup,n2,rfl⟩:=hrel;have He:=Lh he;have Hup:=Lh hup;obtain⟨h,hh⟩:∃h,g*v0/18446744073709551616=h:=⟨_,rfl⟩;obtain⟨l,hl⟩:∃l,g*v0%18446744073709551616=l:=⟨_,rfl⟩;have Htest:=Lh (OO (r:=r) (u0:=u0) hh hl h0);have Hmul:=Lh (UI g v0 h l hg hv0 hh hl);clear he hup hh hl;by_cases hout:h<r\/(h=r/\l<=u0)
   ·have Hfin:=Lh (show UV u2 u1 u0 v1 v0 g from⟨hg,.inl ⟨hlt,XW He.out (Htest.out.2 hout),Hup.out⟩⟩);rcases hout with hc|⟨hc,hc2⟩
    ·go_wp2_with fail
     refine(Hmul.out _).mono ?_;rintro e w' ⟨rfl,rfl⟩;go_wp2;go_ret;exact⟨⟨g,rfl,Hfin.out⟩,_,rfl⟩
    ·subst hc;go_wp2_with fail
     refine(Hmul.out _).mono ?_;rintro e w' ⟨rfl,rfl⟩;go_wp2;go_ret;exact⟨⟨g,rfl,Hfin.out⟩,_,rfl⟩
   ·have hlow:18446744073709551616*r+u0<g*v0:=by
     rcases Fv (18446744073709551616*r+u0) (g*v0)with h3|h3
     ·exact h3
     ·exact absurd (Htest.out.1 h3) hout
    have hU:=ZV He.out hlow;cases g with
    | zero=>simp at hlow
    | succ k=>
     have hg1:k+1<18446744073709551616:=hg;have HU:=Lh hU;have hcase:(r<h)\/(h=r/\u0<l):=by omega
     clear hout hlow hU;by_cases hov:18446744073709551616<=r+v1
     ·have Hfin:=Lh (show UV u2 u1 u0 v1 v0 k from⟨by omega,.inl ⟨hlt,OR He.out hov (by omega) hv0,HU.out⟩⟩);have e1:IntKind.u64.wrap ((r:Int)+(v1:Int))=(r:Int)+(v1:Int)-18446744073709551616:=by rw[Jr];omega
      rcases hcase with hc|⟨hc,hc2⟩
      ·have t0:((h:Int) ==(r:Int))=false:=by rw[beq_eq_false_iff_ne];omega
       go_wp2_with fail
       refine(Hmul.out _).mono ?_;rintro e w' ⟨rfl,rfl⟩;go_wp2;go_ret;exact⟨⟨k,by simp,Hfin.out⟩,_,rfl⟩
      ·subst hc;go_wp2_with fail
       refine(Hmul.out _).mono ?_;rintro e w' ⟨rfl,rfl⟩;go_wp2;go_ret;exact⟨⟨k,by simp,Hfin.out⟩,_,rfl⟩
     ·have Hnext:=Lh (show Oz w u2 u1 u0 v1 v0 (Ji Ju (k:Nat)) (Ji Ju ((r:Int)+(v1:Int))) (w.drewN n2)from⟨k,r+v1,rfl,by simp,by omega,by omega,by have:=He.out;rw[Fa]at this;omega,HU.out,n2,rfl⟩);have e1:IntKind.u64.wrap ((r:Int)+(v1:Int))=(r:Int)+(v1:Int):=by rw[Jr];omega
      clear hov;rcases hcase with hc|⟨hc,hc2⟩
      ·have t0:((h:Int) ==(r:Int))=false:=by rw[beq_eq_false_iff_ne];omega
       go_wp2_with fail
       refine(Hmul.out _).mono ?_;rintro e w' ⟨rfl,rfl⟩;go_wp2_with fail
       exact⟨by simpa using Hnext.out,by simp[intOf]⟩
      ·subst hc;go_wp2_with fail
       refine(Hmul.out _).mono ?_;rintro e w' ⟨rfl,rfl⟩;go_wp2_with fail
       exact⟨by simpa using Hnext.out,by simp[intOf]⟩
theorem OP(u2 u1 u0 v1 v0:Nat)(h1:u1<18446744073709551616)(h0:u0<18446744073709551616)(hv:0<v1):∃g,UV u2 u1 u0 v1 v0 g:=by
 rcases Fv u2 v1 with h|h
 ·obtain⟨D,hD⟩:∃D,18446744073709551616*v1+v0=D:=⟨_,rfl⟩;obtain⟨U,hU⟩:∃U,18446744073709551616*(18446744073709551616*u2+u1)+u0=U:=⟨_,rfl⟩;have hp:0<D:=by omega
  have hlt:U<18446744073709551616*D:=by
   have h2:18446744073709551616*(u2+1)<=18446744073709551616*v1:=E4 _ h;omega
  refine⟨U/D,(Fj hp).2 hlt,.inl ⟨h,?_,?_⟩⟩
  ·rw[hD,hU];exact Nat.div_mul_le_self _ _
  ·rw[hD,hU,Fa,Fq];have h3:=Fk U D;have h4:=Fo U hp;rw[E8]at h3;omega
 ·exact⟨18446744073709551615,by decide,.inr ⟨h,rfl⟩⟩
theorem OQ{u2 u1 u0 v1 v0 g g':Nat}(h:UV u2 u1 u0 v1 v0 g)(h':UV u2 u1 u0 v1 v0 g'):g=g':=by
 rcases h.2 with⟨a,b,c⟩|⟨a,b⟩ <;> rcases h'.2 with⟨a',b',c'⟩|⟨a',b'⟩
 ·rcases FC g g' with hl|hl|hl
  ·have:=F0 (18446744073709551616*v1+v0) (show g+1<=g' from hl);omega
  ·exact hl
  ·have:=F0 (18446744073709551616*v1+v0) (show g'+1<=g from hl);omega
 ·omega
 ·omega
 ·omega
theorem Vp(u2 u1 u0 v1 v0 g:Nat)(w:JW)(h2:u2<18446744073709551616)(h1:u1<18446744073709551616)(h0:u0<18446744073709551616)(hv1:v1<18446744073709551616)(hv0:v0<18446744073709551616)(hg:UV u2 u1 u0 v1 v0 g) :
  Calls Tryz.prog 173 #[Ji Ju (u2:Nat),Ji Ju (u1:Nat),Ji Ju (u0:Nat),Ji Ju (v1:Nat),Ji Ju (v0:Nat)] w fun e w'=>e= .returned (Ji Ju (g:Nat))/\∃n,w'=w.drewN n:=
 (XX u2 u1 u0 v1 v0 w h2 h1 h0 hv1 hv0).mono fun e w' ⟨⟨g',h3,h4⟩,h5⟩=>⟨by rw[h3,OQ h4 hg],h5⟩
theorem Gi{l:List Nat}{m a b c:Nat}(hl:l.length=m+3)(ha:l.getD (m+2) 0=a)(hb:l.getD (m+1) 0=b)(hc:l.getD m 0=c):Je l=Je (l.take m)+base m*(18446744073709551616*(18446744073709551616*a+b)+c):=by
 have e1:=JX (xs:=l) (k:=m+2) ha;have e2:=JX (xs:=l) (k:=m+1) hb;have e3:=JX (xs:=l) (k:=m) hc;rw[E6 (by omega)]at e1;rw[e1,e2,e3,show base (m+2)=18446744073709551616*base (m+1)from JJ (m+1),JJ m];simp only[E7,E9,Fb];omega
theorem XM{l:List Nat}{m b c:Nat}(hl:l.length=m+2)(hb:l.getD (m+1) 0=b)(hc:l.getD m 0=c):Je l=Je (l.take m)+base m*(18446744073709551616*b+c):=by
 have e2:=JX (xs:=l) (k:=m+1) hb;have e3:=JX (xs:=l) (k:=m) hc;rw[E6 (by omega)]at e2;rw[e2,e3,JJ];simp only[E7,E9,Fb];omega
theorem OS{us ys:List Nat}{m u2 u1 u0 v1 v0 g:Nat}(hus:us.length=m+3)(hys:ys.length=m+2)(hwu:Jy us)(hwy:Jy ys)(e2:us.getD (m+2) 0=u2)(e1:us.getD (m+1) 0=u1)(e0:us.getD m 0=u0)(f1:ys.getD (m+1) 0=v1)(f0:ys.getD m 0=v0)(htop:9223372036854775808<=v1)
  (hlt:Je us<18446744073709551616*Je ys) (hg:UV u2 u1 u0 v1 v0 g):Je us/Je ys<=g/\g<=Je us/Je ys+1:=by
 have hu:=Gi hus e2 e1 e0;have hv:=XM hys f1 f0;have hur:=JH (JK hwu m);have hvr:=JH (JK hwy m);rw[Fx,FH (by omega)]at hur hvr;have hv0:v0<18446744073709551616:=by rw[←f0];exact JG hwy m
 have hM:=Uf m;rw[E8 (base m)]at hu hv;rw[FM]at hu hv;have hvp:0<Je ys:=by
  rw[hv];have:1*base m<=(18446744073709551616*v1+v0)*base m:=F0 _ (by omega);omega
 rcases hg.2 with⟨_,b,c⟩|⟨a,rfl⟩
 ·exact Of hu hur hv hvr b c (by have:=hg.1;omega) hvp
 ·exact ZU hu rfl hv hvr a htop hv0 hlt
theorem KR{xs cs bs:List Nat}{o:Nat}(h:cs.length=bs.length)(ho:o+cs.length<=xs.length):put (put xs o cs) o bs=put xs o bs:=by
 have h1:(put xs o cs).take o=xs.take o:=by
  unfold put;rw[Ft,Fr (by simp;omega),FS,Nat.min_self]
 have h2:(put xs o cs).drop (o+bs.length)=xs.drop (o+bs.length):=by
  unfold put;rw[List.drop_append,Fh (by simp;omega),Fu];have e:o+bs.length-(List.take o xs ++ cs).length=0:=by simp;omega
  rw[e,Fg,h]
 show(put xs o cs).take o ++ bs ++ (put xs o cs).drop (o+bs.length)=_;rw[h1,h2];rfl
theorem WH{xs cs:List Nat}{o n:Nat}(ho:o+cs.length<=xs.length)(hn:n<=cs.length):((put xs o cs).drop o).take n=cs.take n:=by
 unfold put;rw[Ft,List.drop_append,Fh (by simp;omega),Fu];have e:o-(List.take o xs).length=0:=by simp;omega
 rw[e,Fg,Fr hn]
theorem Ge{xs:List Nat}{o n k d:Nat}(hk:k<n)(_ho:o+n<=xs.length)(h:xs.getD (o+k) 0=d):((xs.drop o).take n).getD k 0=d:=by
 rw[←h];simp[FN,hk]
theorem OF{xs:List Nat}{o n u:Nat}(ho:o+(n+1)<=xs.length)(hu:xs.getD (o+n) 0=u):Je ((xs.drop o).take (n+1))=Je ((xs.drop o).take n)+base n*u:=by
 rw[Yo (by omega) hu,JB,QL (by omega)]
theorem KI{ys:List Nat}{m v:Nat}(hl:ys.length=m+2)(h:9223372036854775808<=v)(hv:ys.getD (m+1) 0=v):0<Je ys:=by
 have e:=JX (xs:=ys) (k:=m+1) hv;rw[E6 (by omega)]at e;rw[e];have:base (m+1)*1<=base (m+1)*v:=E4 _ (by omega);have:=Uf (m+1);omega
theorem G1{xs rs:List Nat}{o n t:Nat}(ho:o+(n+1)<=xs.length)(hl:rs.length=n):(put xs o (rs ++ [t])).getD (o+n) 0=t:=by
 unfold put;rw[List.getD_eq_getElem?_getD,List.getElem?_append_left (by simp;omega),FB (by simp;omega),FB (by simp;omega)];have e:o+n-(List.take o xs).length-rs.length=0:=by simp;omega
 rw[e];rfl
theorem Uh{xs rs:List Nat}(hx:Jy xs)(hr:Jy rs)(o:Nat):Jy (put xs o rs):=by
 unfold put;exact JQ (JQ (JK hx _) hr) (QF hx _)
theorem ZD{un p:Nat}(h:p=un)(_hun:un<18446744073709551616):IntKind.u64.wrap ((un:Int)-(p:Int))=0:=by rw[Jr,h];omega
def Vh(w:JW)(g o n v:Nat)(xs:List Nat)(e:Ending)(w':JW):Prop:=
 ∃(rs:List Nat) (q:Nat),e= .returned (Ji Ju (q:Nat))/\rs.length=n+1/\Jy rs/\q<18446744073709551616/\Je ((xs.drop o).take (n+1))=q*v+Je rs/\Je rs<v/\Blk w' g (put xs o rs)/\Only g w w'
theorem Om(g o m c c':Nat)(A':Option Addr)(xs ys:List Nat)(w:JW)(hb:Blk w g xs)(hl:IsL w A' (m+2) c' (u64s ys))(hA:∀a:Addr,A'=some a->a.block≠g)(ho:o+(m+3)<=xs.length)(hx:Jy xs)(hy:Jy ys)(hm:m<900000)(hoo:o<1000000)(htop:9223372036854775808<=ys.getD (m+1) 0)
  (hu:Je ((xs.drop o).take (m+3))<18446744073709551616*Je ys) (_hcc:m+3<=c) :
  Calls Tryz.prog 152 #[.slice (some ⟨g,o,Jn⟩) (m+3:Nat) c,.slice A' (m+2:Nat) c'] w (Vh w g o (m+2) (Je ys) xs):=by
 have hlen:ys.length=m+2:=by have:=hl.1;rwa [JS]at this
 have hcl':=hl.2.1;have Hl:=Lh hl;have HA:=Lh hA;obtain⟨b',o',rfl,hb',hc'⟩:=hl.2.2 (by omega);have hne:b'≠g:=hA _ rfl;have Hc:=Lh (show ∀k:Nat,k<m+2->w.cell? ⟨b',o'+k,Jn⟩=some (Ji Ju ((ys.getD k 0:Nat):Int))from fun k hk=>hc' k _ (by simp[u64s,show k<ys.length by omega]));have Hb:=Lh hb;have Hx:=Lh hx;have Hy:=Lh hy;have Hlen:=Lh hlen;obtain⟨u2,hu2⟩:∃u,xs.getD (o+(m+2)) 0=u:=⟨_,rfl⟩;obtain⟨u1,hu1⟩:∃u,xs.getD (o+(m+1)) 0=u:=⟨_,rfl⟩;obtain⟨u0,hu0⟩:∃u,xs.getD (o+m) 0=u:=⟨_,rfl⟩;obtain⟨v1,hv1⟩:∃v,ys.getD (m+1) 0=v:=⟨_,rfl⟩;obtain⟨v0,hv0⟩:∃v,ys.getD m 0=v:=⟨_,rfl⟩;have bu2:=JG hx (o+(m+2));have bu1:=JG hx (o+(m+1));have bu0:=JG hx (o+m);have bv1:=JG hy (m+1);have bv0:=JG hy m;have x2:=hb.cell (i:=o+(m+2)) (by omega);have x1:=hb.cell (i:=o+(m+1)) (by omega);have x0:=hb.cell (i:=o+m) (by omega);have y1:=Hc.out (m+1) (by omega);have y0:=Hc.out m (by omega);rw[hu2]at bu2 x2;rw[hu1]at bu1 x1;rw[hu0]at bu0 x0;rw[hv1]at bv1 y1 htop;rw[hv0]at bv0 y0;obtain⟨gs,hg⟩:=OP u2 u1 u0 v1 v0 bu1 bu0 (by omega);have Hg:=Lh hg;have hgs:=hg.1;have Hu2:=Lh hu2;have Hnear:=Lh (OS (us:=(xs.drop o).take (m+3)) (QL (by omega)) hlen (JK (QF hx o) _) hy (Ge (by omega) (by omega) hu2) (Ge (by omega) (by omega) hu1) (Ge (by omega) (by omega) hu0) hv1 hv0 htop hu hg);have Hu:=Lh hu;have Htop:=Lh (show 0<Je ys from KI hlen htop hv1);clear hb hl hA hx hy hc' hlen hu2 hu1 hu0 hv1 hv0 hg hu htop;go_enter Tryz.func152,Tryz.ntmps152;go_wp2_with fail
 go_quiet ((go_at_call 173;exact Calls.quiet_of (Vp u2 u1 u0 v1 v0 gs _ bu2 bu1 bu0 bv1 bv0 Hg.out)))
 have Hsub:=Lh (fun nq=>Yq g o (m+3) c (m+2) c' (some ⟨b',o',Jn⟩) xs ys gs (w.drewN nq) (Hb.out.drewN nq) (show IsL (w.drewN nq) _ _ _ _ from Hl.out) HA.out ho (by omega) Hx.out Hy.out hgs (by omega) hoo (by omega));clear x2 x1 x0 y1 y0;go_wp2_with fail
 refine(Hsub.out nq).mono ?_;rintro e w1⟨rs,p,rfl,hrl,hp,hrw,hrv,hrb,hro⟩;have hcn:=hrb.cell (i:=o+(m+2)) (by rw[Jv (by omega)];omega);rw[QM (by omega) (by omega),Hu2.out]at hcn;have hfn:=hrb.frozen (o+(m+2));have Hus:=Lh (OF (n:=m+2) ho Hu2.out);have Hvp:=Lh Htop.out;have Hvn:=Lh (show Je ys<=base (m+2)by have:=JH Hy.out;rw[Hlen.out]at this;omega);have Hrn:=Lh (show Je rs<base (m+2)by have:=JH hrw;rwa [hrl]at this);have Hrv:=Lh hrv;have Hro:=Lh hro;have Hrb:=Lh hrb;have Hrl:=Lh hrl;have Hrw:=Lh hrw;obtain⟨q,hq⟩:∃q,Je ((xs.drop o).take (m+3))/Je ys=q:=⟨_,rfl⟩;rw[hq]at Hnear;have Hq:=Lh hq;have hnear:=Hnear.out;have hqg:gs=q\/gs=q+1:=by omega
 have Hdm:=Lh (show Je ((xs.drop o).take (m+3))=q*Je ys+Je ((xs.drop o).take (m+3)) % Je ys by
  have:=Fk (Je ((xs.drop o).take (m+3))) (Je ys);rw[hq,E8]at this;omega)
 have Hml:=Lh (Fo (Je ((xs.drop o).take (m+3))) Hvp.out);clear hrl hrw hrv hrb hro hq hnear;rcases hqg with hqg|hqg
 ·have he:=KN Hq.out Hus.out Hrv.out Hrn.out Hvn.out Hvp.out hqg;have Hfin:=fun k=>Lh (show Vh w g o (m+2) (Je ys) xs (.returned (Ji Ju (gs:Nat))) ((w1.setCell ⟨g,o+(m+2),Jn⟩ (Ji Ju 0)).drewN k) from
   ⟨rs ++ [0],gs,rfl,by rw [E5,Hrl.out]; rfl,JY Hrw.out (by decide),hgs,by rw [JB,Fi,Fc,he.2,hqg]; exact Hdm.out,by rw [JB,Fi,Fc,he.2]; exact Hml.out,by
    have:=(Hrb.out.set_ 0 (i:=o+(m+2)) (by rw[Jv (by rw[Hrl.out];omega)];omega));have e:(put xs o rs).set (o+(m+2)) 0=put xs o (rs ++ [0]):=by rw[←Hrl.out];exact QJ (by rw[Hrl.out];omega)
    rw[e]at this;exact this.drewN k,(((Only.refl g w).drewN nq).trans Hro.out).set_ _ _ |>.drewN k⟩)
  have HF:=Lh Hfin;have e1:=ZD he.1 bu2;clear Hfin he hqg;go_wp2_with fail
  go_ret;exact(HF.out 0).out
 ·have he:=ZF Hq.out Hus.out Hrv.out Hrn.out Hvn.out Hvp.out hqg;obtain⟨t,ht⟩:∃t:Nat,t=18446744073709551615:=⟨_,rfl⟩;have e1:IntKind.u64.wrap ((u2:Int)-(p:Int))=(t:Int):=by rw[Jr,ht,he.1];omega
  have t0:((t:Int) ==0)=false:=by rw[beq_eq_false_iff_ne];omega
  have e2:IntKind.u64.wrap ((t:Int)+1)=0:=by rw[Jr,ht];decide
  have ht1:t<18446744073709551616:=by omega
  have hgq:(gs:Int)-1=(q:Int):=by omega
  have hg1:1<=gs:=by omega
  have Hgq:=Lh hgq;obtain⟨w2,hw2⟩:∃w2,w1.setCell ⟨g,o+(m+2),Jn⟩ (Ji Ju (t:Int))=w2:=⟨_,rfl⟩;have HX:=Lh (show Blk w2 g (put xs o (rs ++ [t])) by
   have:=(Hrb.out.set_ t (i:=o+(m+2)) (by rw[Jv (by rw[Hrl.out];omega)];omega));have e:(put xs o rs).set (o+(m+2)) t=put xs o (rs ++ [t]):=by rw[←Hrl.out];exact QJ (by rw[Hrl.out];omega)
   rw[e,hw2]at this;exact this)
  have HO:=Lh (show Only g w w2 by rw[←hw2];exact(((Only.refl g w).drewN nq).trans Hro.out).set_ _ _);have He2:=Lh he.2;have hX2:(put xs o (rs ++ [t])).getD (o+(m+2)) 0=t:=G1 (by omega) Hrl.out;have hcx:=HX.out.cell (i:=o+(m+2)) (by rw[Jv (by rw[E5,Hrl.out];simp;omega)];omega);rw[hX2]at hcx;have hfx:=HX.out.frozen (o+(m+2));obtain⟨X2,hX⟩:∃X2,put xs o (rs ++ [t])=X2:=⟨_,rfl⟩;rw[hX]at HX hX2;have HX2:=Lh hX2;have hX2l:X2.length=xs.length:=by rw[←hX];exact Jv (by rw[E5,Hrl.out];simp;omega)
  have HX2l:=Lh hX2l;have HX2w:=Lh (show Jy X2 by rw[←hX];exact Uh Hx.out (JY Hrw.out ht1) o);have HX2p:=Lh (show(X2.drop o).take (m+2)=rs by rw[←hX,WH (by rw[E5,Hrl.out];simp;omega) (by rw[E5,Hrl.out];simp),←Hrl.out,List.take_left]);have HX2o:=Lh hX;clear ht he hqg hgq hX2 hX hX2l;go_wp2_with fail
  go_loopw [57,8] (fun vi vc wr=>∃k:Nat,k<=m+2/\vi=Ji .i64 (k:Nat)/\Vl w2 g o (m+3) X2 ys k vc wr) (fun vi _ _=>m+2-(intOf vi).toNat)
  case atStart=>exact⟨0,Fe _,rfl,[],0,rfl,Fe _,rfl,Fe _,fun d hd=>absurd hd (by simp),by simp[Je,Qk],by rw[Yz];exact HX.out,Only.refl _ _⟩
  case round=>
   obtain⟨k,hk,rfl,zs,cc,hrk,hkn,rfl,hc1,hw,hv,hblk,honly⟩:=hrel;have Hrk:=Lh hrk;have Hw:=Lh hw;have Hv:=Lh hv;have Hblk:=Lh hblk;have Honly:=Lh (HO.out.trans honly);have Honly2:=Lh honly;by_cases hlt:k<m+2
   ·have hcell:=hblk.cell (i:=o+k) (by have:=HX2l.out;rw[Jv (by omega)];omega);rw[QM (by have:=HX2l.out;omega) (by omega)]at hcell;have hfz:=hblk.frozen (o+k);have hcy:=(Honly.out.cell (o:=o'+k) hb' hne).trans (Hc.out k hlt);have hx1:=JG HX2w.out (o+k);have hy1:=JG Hy.out k;obtain⟨x,hx⟩:∃x,X2.getD (o+k) 0=x:=⟨_,rfl⟩;obtain⟨y,hy⟩:∃y,ys.getD k 0=y:=⟨_,rfl⟩;rw[hx]at hcell hx1;rw[hy]at hcy;rw[hy]at hy1;have HXk:=Lh hx;have HYk:=Lh hy;clear hblk honly hw hv hrk hx hy hcx hfx;obtain⟨s,hs⟩:∃s,(x+y+cc)%18446744073709551616=s:=⟨_,rfl⟩;obtain⟨f,hf⟩:∃f,(x+y+cc)/18446744073709551616=f:=⟨_,rfl⟩;have hadd:∀W:JW,(callFunc 169 #[Ji Ju (x:Int),Ji Ju (y:Int),Ji Ju (cc:Int)]).run Tryz.prog W= .ok (.value (.tuple #[Ji Ju (s:Int),Ji Ju (f:Int)])) W:=Yv x y cc s f hc1 hs hf;have Hs:=Lh hs;have Hf:=Lh hf;clear hs hf hw2 e1 t0 e2;go_wp2_with fail
    go_region
    all_goals
     have Hfin:=Lh (Vd (m:=1) Hrk.out (show k<m+3 by omega) (by have:=HX2l.out;omega) HXk.out HYk.out hx1 hy1 hc1 Hs.out Hf.out Hw.out Hv.out Hblk.out Honly2.out);go_wp2_with fail
     exact⟨⟨k+1,hlt,by go_num,Hfin.out⟩,by simp[intOf] <;> omega⟩
   ·obtain rfl:k=m+2:=by omega
    have hy2:ys.take (m+2)=ys:=E6 (by rw[Hlen.out];exact EY _);have hv2:=hv;rw[HX2p.out,hy2,He2.out]at hv2;have hzn:Je zs<base (m+2):=by have:=JH hw;rwa [hrk]at this
    have hcc1:cc=1/\Je zs=Je ((xs.drop o).take (m+3))%Je ys:=by
     have hc2:cc=0\/cc=1:=by omega
     rcases hc2 with h|h
     ·subst h;exfalso;omega
     ·subst h;exact⟨rfl,by omega⟩
    obtain⟨rfl,hzv⟩:=hcc1;have hcl:=hblk.cell (i:=o+(m+2)) (by have:=HX2l.out;rw[Jv (by omega)];omega);rw[QM (by have:=HX2l.out;omega) (by omega),HX2.out]at hcl;have hfz:=hblk.frozen (o+(m+2));have Hfin:=Lh (show Vh w g o (m+2) (Je ys) xs (.returned (Ji Ju (q:Nat))) (wr.setCell ⟨g,o+(m+2),Jn⟩ (Ji Ju 0)) from
     ⟨zs ++ [0],q,rfl,by rw [E5,hrk]; rfl,JY hw (by decide),by have:=Hgq.out; omega,by rw [JB,Fi,Fc,hzv]; exact Hdm.out,by rw [JB,Fi,Fc,hzv]; exact Hml.out,by
      have:=(hblk.set_ 0 (i:=o+(m+2)) (by have:=HX2l.out;rw[Jv (by omega)];omega));have e:(put X2 o zs).set (o+(m+2)) 0=put X2 o (zs ++ [0]):=by rw[←hrk];exact QJ (by have:=HX2l.out;omega)
      rw[e,←HX2o.out,KR (by rw[E5,E5,Hrl.out,hrk];rfl) (by rw[E5,Hrl.out];simp;omega)]at this;exact this,Honly.out.set_ _ _⟩)
    have hgqq:Ending.returned (Value.int FO ((gs:Int)-1))=Ending.returned (Ji Ju (q:Nat)):=by rw[Hgq.out]
    have HGQ:=Lh hgqq;clear hblk honly hw hv hrk hv2 hzn hzv hw2 e1 t0 hcx hfx hy2 hgqq;go_wp2_with fail
    go_ret;rw[←HGQ.out]at Hfin;exact Hfin.out
theorem Q0{s:Nat}(h:s<64):2^(64-s)*2^s=18446744073709551616:=by rw[←FP,show 64-s+s=64 by omega]
theorem VC{x t s l b:Nat}(h:s<64)(hx:x<18446744073709551616)(ht:t<2^s)(hl:x*2^s%18446744073709551616=l)(hb:x/2^(64-s)=b) :
  l<18446744073709551616/\t+l<18446744073709551616/\b<2^s/\b<18446744073709551616/\l+18446744073709551616*b=x*2^s/\(t ||| l)=t+l:=by
 have hp:0<2^s:=Fm (by decide);have e:=Q0 h;have hq:0<2^(64-s):=Fm (by decide);have hd:x*2^s/18446744073709551616=b:=by rw[←hb,←e,Nat.mul_div_mul_right _ _ hp]
 have hdm:=Fk (x*2^s) 18446744073709551616;rw[hd,hl]at hdm;have hb2:b<2^s:=by rw[←hb,Fj hq,E8,e];exact hx
 have hs64:2^s<18446744073709551616:=Fp (Nat.pow_lt_pow_right (by decide) h) (by decide);have hl64:l<18446744073709551616:=by rw[←hl];exact Fo _ (by decide)
 have hll:l=2^s*(x%2^(64-s)):=by
  rw[←hl,←e,Nat.mul_mod_mul_right,E8]
 have hor:(t ||| l)=t+l:=by
  rw[hll,Nat.or_comm,←Fz ht,FM]
 have hle:l+2^s<=18446744073709551616:=by
  rw[hll,←e,E8 (2^(64-s))];have:x%2^(64-s)+1<=2^(64-s):=Fo _ hq;have:=E4 (2^s) this;rw[E7,Fw]at this;exact this
 exact⟨hl64,by omega,hb2,by omega,by omega,hor⟩
def Ky(w0:JW)(g n s:Nat)(xs:List Nat)(vi:Value)(wr:JW):Prop:=
 ∃(ts:List Nat) (t:Nat),ts.length<=n/\vi=Ji .i64 (ts.length:Nat)/\Jy ts/\t<2^s/\Je ts+base ts.length*t=Je (xs.take ts.length)*2^s/\Blk wr g (put (EZ (n+1) 0) 0 (ts ++ [t]))/\Only g w0 wr
theorem Zi{zs ts:List Nat}{t u:Nat}(_h:ts.length<zs.length):(put zs 0 (ts ++ [t])).set ts.length u=put zs 0 (ts ++ [u]):=by
 unfold put;rw[E5,E5];simp
theorem Wz{w0 wr:JW}{g n s k x t l b m:Nat}{xs ts:List Nat}(h:s<64)(hk:ts.length=k)(hkn:k<n)(hxs:xs.getD k 0=x)(hx:x<18446744073709551616)(ht:t<2^s)(hl:x*2^s%18446744073709551616=l)(hb:x/2^(64-s)=b)
  (hw:Jy ts) (hv:Je ts+base ts.length*t=Je (xs.take ts.length)*2^s) (hblk:Blk wr g (put (EZ (n+1) 0) 0 (ts ++ [t]))) (ho:Only g w0 wr) :
  Ky w0 g n s xs (Ji .i64 ((k:Int)+1)) (((wr.setCell ⟨g,k,Jn⟩ (Ji Ju ((t+l:Nat):Int))).setCell ⟨g,k+1,Jn⟩ (Ji Ju (b:Int))).drewN m):=by
 obtain⟨p1,p2,p3,p4,p5,_⟩:=VC h hx ht hl hb;subst hk;refine⟨ts ++ [t+l],b,by simp;omega,by simp,JY hw p2,p3,?_,?_,((ho.set_ _ _).set_ _ _).drewN m⟩
 ·rw[JB,E5,Fl,JJ,JX hxs,Fa,←hv];have e4:base ts.length*(l+18446744073709551616*b)=base ts.length*(x*2^s):=by rw[p5]
  simp only[E7,E9,Fb]at e4 ⊢;omega
 ·have e1:=hblk.set_ (t+l) (i:=ts.length) (by rw[Jv (by simp;omega)];simp;omega);rw[Zi (by simp;omega)]at e1;have e2:=e1.set_ b (i:=ts.length+1) (by rw[Jv (by simp;omega)];simp;omega);have e3:(put (EZ (n+1) 0) 0 (ts ++ [t+l])).set (ts.length+1) b=put (EZ (n+1) 0) 0 (ts ++ [t+l] ++ [b]):=by
   have:=QJ (xs:=EZ (n+1) 0) (o:=0) (ys:=ts ++ [t+l]) (d:=b) (by simp;omega);rw[E5,Fl,FD]at this;exact this
  rw[e3]at e2;exact e2.drewN m
theorem Uu(A:Option Addr)(n c s:Nat)(xs:List Nat)(w:JW)(hl:IsL w A n c (u64s xs))(hx:Jy xs)(h0:0<n)(hn:n<900)(hs:s<64) :
  Calls Tryz.prog 151 #[.slice A n c,Ji Ju (s:Nat)] w fun e w'=>∃(g:Nat) (zs:List Nat),e= .returned (.slice (some ⟨g,0,Jn⟩) (n+1:Nat) (n+1:Nat))/\w.heap.size<=g/\zs.length=n+1/\Jy zs/\Je zs=Je xs*2^s/\Blk w' g zs/\Below w.heap.size w w':=by
 obtain⟨i0,hi,hz0,hz1,hz2⟩:=info_parts QT;have hlen:xs.length=n:=by have:=hl.1;rwa [JS]at this
 obtain⟨b',o',rfl,hb',hc'⟩:=hl.2.2 h0;have Hc:=Lh (show ∀k:Nat,k<n->w.cell? ⟨b',o'+k,Jn⟩=some (Ji Ju ((xs.getD k 0:Nat):Int))from fun k hk=>hc' k _ (by simp[u64s,show k<xs.length by omega]));have Hx:=Lh hx;have Hlen:=Lh hlen;have hle:=hl.2.1;clear hl hx hc' hlen;go_enter Tryz.func151,Tryz.ntmps151;go_wp2_with (at_make;refine wpList_make_full _ rfl _ _ 159 rfl w.heap.size 154 i0 (Ji Ju 0) 1 Tryz.underlying159 hi hz0 hz1 _ _ _ _ (n+1) rfl rfl (by simp) (by simp) (by rw[hz2];omega) (by unfold maxLen;omega) (EY _) ?_)
 intro w3 hown hgrow;rw[UZ]at hown;have Hblk:=Lh (show Blk w3 w.heap.size (EZ (n+1) 0) by
  obtain⟨g,c,e,_,_,hg,hb⟩:=Blk.of_own hown (by omega)
  injection e with e1 e2 e3
  injection e1 with e1
  injection e1 with e1
  subst e1;exact hb)
 have b3:=(Below.refl w.heap.size w).grown hgrow (EY _) (by simp);have B3:=Lh b3;have hsz:=Hblk.out.lt;clear hown hgrow b3;go_wp2_with fail
 go_loopw [13] (fun vi wr=>Ky w3 w.heap.size n s xs vi wr) (fun vi _=>n-(intOf vi).toNat)
 case atStart=>exact ⟨[],0,Fe _,rfl,fun d hd=>absurd hd (by simp),Fm (by decide),by simp [Je],by
  have e:put (EZ (n+1) 0) 0 ([] ++ [0])=EZ (n+1) 0:=by rw[List.replicate_succ];rfl
  rw [e]; exact Hblk.out,Only.refl _ _⟩
 case round=>
  obtain⟨ts,t,hkn,rfl,hw,ht,hv,hblk,honly⟩:=hrel;have Hw:=Lh hw;have Hv:=Lh hv;have Hblk:=Lh hblk;have Honly:=Lh honly;have Ht:=Lh ht;obtain⟨k,hk⟩:∃k,ts.length=k:=⟨_,rfl⟩;have Hk:=Lh hk;rw[hk]at hkn ⊢;by_cases hlt:k<n
  ·have hct:=hblk.cell (i:=k) (by rw[Jv (by simp;omega)];simp;omega);have hgt:(put (EZ (n+1) 0) 0 (ts ++ [t])).getD k 0=t:=by
    have:=G1 (xs:=EZ (n+1) 0) (rs:=ts) (o:=0) (n:=k) (t:=t) (by simp;omega) hk
    rwa [FD]at this
   rw[hgt]at hct;have hf0:=hblk.frozen k;have hf1:=hblk.frozen (k+1);have hc1:=hblk.cell (i:=k+1) (by rw[Jv (by simp;omega)];simp;omega);obtain⟨z1,hz1⟩:∃z,(put (EZ (n+1) 0) 0 (ts ++ [t])).getD (k+1) 0=z:=⟨_,rfl⟩;rw[hz1]at hc1;have hcx:=(honly.cell (o:=o'+k) (by have:=B3.out.size;omega) (by omega)).trans ((B3.out.cell (p:=⟨b',o'+k,Jn⟩) hb').trans (Hc.out k hlt));have hx1:=JG Hx.out k;obtain⟨x,hx⟩:∃x,xs.getD k 0=x:=⟨_,rfl⟩;rw[hx]at hcx hx1;have HX:=Lh hx;obtain⟨l,hl⟩:∃l,x*2^s%18446744073709551616=l:=⟨_,rfl⟩;obtain⟨b,hb⟩:∃b,x/2^(64-s)=b:=⟨_,rfl⟩;obtain⟨p1,p2,p3,p4,p5,p6⟩:=VC hs hx1 ht hl hb;have hs64:2^s<18446744073709551616:=Fp (Nat.pow_lt_pow_right (by decide) hs) (by decide);have k1:IntKind.u64.wrap ((x:Int)*2^s)=(l:Int):=by
    rw[show(x:Int)*2^s=((x*2^s:Nat):Int)by simp,Jr,←hl];simp
   have k2:(x:Int)/2^(64-s)=(b:Int):=by rw[←hb];simp
   have k3:bits BinOp.or FO (t:Int) (l:Int)=((t+l:Nat):Int):=by rw[bits_or_u64_nat _ _ (by omega) p1,p6]
   have Hl:=Lh hl;have Hb:=Lh hb;clear hl hb p3 p5 p6 hk hw hv ht hblk honly hx hgt hz1 p1 hs64;go_wp2_with fail
   go_region
   all_goals
    have Hfin:=Lh (Wz (m:=1) hs Hk.out hlt HX.out hx1 Ht.out Hl.out Hb.out Hw.out Hv.out Hblk.out Honly.out);go_wp2_with fail
    exact⟨by have:=Hfin.out;rw[Int.natCast_add]at this;exact this,by simp[intOf] <;> omega⟩
  ·obtain rfl:k=n:=by omega
   have Hfin:=Lh (show Je (ts ++ [t])=Je xs*2 ^ s by
    rw [JB,hv,hk,E6 (by rw [Hlen.out]; exact EY _)])
   have Hzb:=Lh (show Blk wr w.heap.size (ts ++ [t]) by
    have e:put (EZ (k+1) 0) 0 (ts ++ [t])=ts ++ [t]:=by
     unfold put;rw[FT,Fu,Fh (by simp;omega),FI]
    rw [← e]; exact hblk)
   have Hzw:=Lh (show Jy (ts ++ [t])from JY hw (Fp ht (FU (FL (by decide) (show s<=64 by omega)) (by decide))));have Hbf:=Lh (Below.only B3.out honly (EY _) B3.out.size);clear hk hw hv ht hblk honly;go_wp2;go_ret;exact⟨w.heap.size,ts ++ [t],rfl,EY _,by rw[E5,Hk.out];rfl,Hzw.out,Hfin.out,Hzb.out,Hbf.out⟩
theorem U6{x y s h c r:Nat}(hs:s<64)(hx:x<18446744073709551616)(_hy:y<18446744073709551616)(hh:x/2^s=h)(hc:y*2^(64-s)%18446744073709551616=c)(hr:x%2^s=r) :
  h<18446744073709551616/\c<18446744073709551616/\(h ||| c)=h+c/\h+c<18446744073709551616/\(h+c)*2^s+r=x+18446744073709551616*(y%2^s):=by
 have hp:0<2^s:=Fm (by decide);have e:=Q0 hs;have hq:0<2^(64-s):=Fm (by decide);have hcc:c=2^(64-s)*(y%2^s):=by
  rw[←hc,←e,E8 (2^(64-s)) (2^s),Nat.mul_mod_mul_right,E8]
 have hh2:h<2^(64-s):=by rw[←hh,Fj hp,e];exact hx
 have hor:(h ||| c)=h+c:=by rw[hcc,Nat.or_comm,←Fz hh2,FM]
 have hle:h+c<18446744073709551616:=by
  rw[hcc,←e];have h1:y%2^s+1<=2^s:=Fo _ hp;have h2:=E4 (2^(64-s)) h1;rw[E7,Fw]at h2;omega
 refine⟨by omega,by omega,hor,hle,?_⟩;have h3:=Fk x (2^s);rw[hh,hr]at h3;rw[Fa,hcc,Nat.mul_right_comm (2^(64-s)),e,E8 h];omega
def O6(w0:JW)(g n s:Nat)(xs:List Nat)(vi:Value)(wr:JW):Prop:=
 ∃ts:List Nat,ts.length<=n/\vi=Ji .i64 (ts.length:Nat)/\Jy ts/\Je ts*2^s+xs.getD 0 0%2^s=Je (xs.take ts.length)+base ts.length*(xs.getD ts.length 0%2^s)/\Blk wr g (put xs 0 ts)/\Only g w0 wr
theorem Wx{w0 wr:JW}{g n s k x y h c m:Nat}{xs ts:List Nat}(hs:s<64)(hk:ts.length=k)(hkn:k<n)(hn:xs.length=n)(hxk:xs.getD k 0=x)(hyk:xs.getD (k+1) 0=y)(hx:x<18446744073709551616)(hy:y<18446744073709551616)(hh:x/2^s=h)(hc:y*2^(64-s)%18446744073709551616=c)
  (hw:Jy ts) (hv:Je ts*2^s+xs.getD 0 0%2^s=Je (xs.take ts.length)+base ts.length*(xs.getD ts.length 0%2^s)) (hblk:Blk wr g (put xs 0 ts)) (ho:Only g w0 wr) :
  O6 w0 g n s xs (Ji .i64 ((k:Int)+1)) (((wr.setCell ⟨g,k,Jn⟩ (Ji Ju (h:Int))).setCell ⟨g,k,Jn⟩ (Ji Ju ((h+c:Nat):Int))).drewN m):=by
 obtain⟨r,hr⟩:∃r,x%2^s=r:=⟨_,rfl⟩;obtain⟨p1,p2,_,p4,p5⟩:=U6 hs hx hy hh hc hr;subst hk;refine⟨ts ++ [h+c],by simp;omega,by simp,JY hw p4,?_,?_,((ho.set_ _ _).set_ _ _).drewN m⟩
 ·rw[JB,E5,Fl,hyk,JX hxk,JJ,Fa];rw[hxk,hr]at hv;have e4:base ts.length*((h+c)*2^s+r)=base ts.length*(x+18446744073709551616*(y%2^s)):=by rw[p5]
  rw[E7,E7,←E9,Fb (base ts.length)]at e4;rw[E9 18446744073709551616];omega
 ·have e1:=hblk.set_ h (i:=ts.length) (by rw[Jv (by omega)];omega);have q1:(put xs 0 ts).set ts.length h=put xs 0 (ts ++ [h]):=by
   have:=QJ (xs:=xs) (o:=0) (ys:=ts) (d:=h) (by omega)
   rwa [FD]at this
  rw[q1]at e1;have e2:=e1.set_ (h+c) (i:=ts.length) (by rw[Jv (by simp;omega)];omega);rw[Zi (by omega)]at e2;exact e2.drewN m
theorem Wy{w0 wr:JW}{g n s k x h m:Nat}{xs ts:List Nat}(hs:s<64)(hk:ts.length=k)(hkn:k<n)(hn:xs.length=n)(hkl:k+1=n)(hxk:xs.getD k 0=x)(hx:x<18446744073709551616)(hh:x/2^s=h)
  (hw:Jy ts) (hv:Je ts*2^s+xs.getD 0 0%2^s=Je (xs.take ts.length)+base ts.length*(xs.getD ts.length 0%2^s)) (hblk:Blk wr g (put xs 0 ts)) (ho:Only g w0 wr) :
  O6 w0 g n s xs (Ji .i64 ((k:Int)+1)) ((wr.setCell ⟨g,k,Jn⟩ (Ji Ju (h:Int))).drewN m):=by
 have hy:xs.getD (k+1) 0=0:=by simp[FN,FK (by omega:xs.length<=k+1)]
 obtain⟨r,hr⟩:∃r,x%2^s=r:=⟨_,rfl⟩;obtain⟨p1,p2,_,p4,p5⟩:=U6 (y:=0) hs hx (by decide) hh (by rw[Nat.zero_mul]) hr;subst hk;refine⟨ts ++ [h],by simp;omega,by simp,JY hw p1,?_,?_,(ho.set_ _ _).drewN m⟩
 ·rw[JB,E5,Fl,hy,JX hxk,JJ,Fa];rw[hxk,hr]at hv;simp only[Nat.zero_mod,Fi,Fc]at p5 ⊢;have e4:base ts.length*(h*2^s+r)=base ts.length*x:=by rw[p5]
  rw[E7,←E9]at e4;omega
 ·have e1:=hblk.set_ h (i:=ts.length) (by rw[Jv (by omega)];omega);have q1:(put xs 0 ts).set ts.length h=put xs 0 (ts ++ [h]):=by
   have:=QJ (xs:=xs) (o:=0) (ys:=ts) (d:=h) (by omega)
   rwa [FD]at this
  rw[q1]at e1;exact e1.drewN m
theorem KO{xs ts:List Nat}{n s r:Nat}(_hs:s<64)(hn:xs.length=n)(hk:ts.length=n)(hv:Je ts*2^s+xs.getD 0 0%2^s=Je (xs.take ts.length)+base ts.length*(xs.getD ts.length 0%2^s))(hr:Je xs=r*2^s):Je ts=r:=by
 have hp:0<2^s:=Fm (by decide);have hy:xs.getD ts.length 0=0:=by simp[FN,FK (by omega:xs.length<=ts.length)]
 rw[hy,Nat.zero_mod,Fi,Fc,E6 (by omega),hr]at hv;have h1:xs.getD 0 0%2^s<2^s:=Fo _ hp;have h2:(Je ts*2^s+xs.getD 0 0%2^s)/2^s=r:=by rw[hv,Nat.mul_div_cancel _ hp]
 rw[E8,Nat.mul_add_div hp,Fy h1,Fc]at h2;exact h2
theorem XE(g n c s r:Nat)(xs:List Nat)(w:JW)(hb:Blk w g xs)(hn:xs.length=n)(hx:Jy xs)(hn9:n<1000)(hnc:n<=c)(hs:s<64)(hr:Je xs=r*2^s) :
  Calls Tryz.prog 153 #[.slice (some ⟨g,0,Jn⟩) n c,Ji Ju (s:Nat)] w fun e w'=>e= .returned (.tuple #[])/\(∃zs:List Nat,zs.length=n/\Jy zs/\Je zs=r/\Blk w' g zs)/\Only g w w':=by
 have Hb:=Lh hb;have Hx:=Lh hx;have Hn:=Lh hn;have Hr:=Lh hr;clear hb hx hn hr;go_enter Tryz.func153,Tryz.ntmps153;go_wp2_with fail
 go_loopw [7] (fun vi wr=>O6 w g n s xs vi wr) (fun vi _=>n-(intOf vi).toNat)
 case atStart=>exact⟨[],Fe _,rfl,fun d hd=>absurd hd (by simp),by simp[Je,Qk],by rw[Yz];exact Hb.out,Only.refl _ _⟩
 case round=>
  obtain⟨ts,hkn,rfl,hw,hv,hblk,honly⟩:=hrel;have Hw:=Lh hw;have Hv:=Lh hv;have Hblk:=Lh hblk;have Honly:=Lh honly;obtain⟨k,hk⟩:∃k,ts.length=k:=⟨_,rfl⟩;have Hk:=Lh hk;rw[hk]at hkn ⊢;have hxl:=Hn.out;by_cases hlt:k<n
  ·have hcx:=hblk.cell (i:=k) (by rw[Jv (by omega)];omega);rw[QM (by omega) (by omega)]at hcx;have hf:=hblk.frozen k;have hx1:=JG Hx.out k;obtain⟨x,hx⟩:∃x,xs.getD k 0=x:=⟨_,rfl⟩;rw[hx]at hcx hx1;have HX:=Lh hx;obtain⟨h,hh⟩:∃h,x/2^s=h:=⟨_,rfl⟩;have k1:(x:Int)/2^s=(h:Int):=by rw[←hh];simp
   have Hh:=Lh hh;by_cases hlast:k+1<n
   ·have hcy:=hblk.cell (i:=k+1) (by rw[Jv (by omega)];omega);rw[QM (by omega) (by omega)]at hcy;have hy1:=JG Hx.out (k+1);obtain⟨y,hy⟩:∃y,xs.getD (k+1) 0=y:=⟨_,rfl⟩;rw[hy]at hcy hy1;have HY:=Lh hy;obtain⟨c2,hc2⟩:∃c,y*2^(64-s)%18446744073709551616=c:=⟨_,rfl⟩;obtain⟨p1,p2,p3,p4,_⟩:=U6 hs hx1 hy1 hh hc2 rfl;have k2:IntKind.u64.wrap ((y:Int)*2^(64-s))=(c2:Int):=by
     rw[show(y:Int)*2^(64-s)=((y*2^(64-s):Nat):Int)by simp,Jr,←hc2];simp
    have k3:bits BinOp.or FO (h:Int) (c2:Int)=((h+c2:Nat):Int):=by rw[bits_or_u64_nat _ _ p1 p2,p3]
    have Hc2:=Lh hc2;clear hh hc2 p3 hk hw hv hblk honly hx hy hxl;go_wp2_with fail
    go_region
    all_goals
     have Hfin:=Lh (Wx (m:=1) hs Hk.out hlt Hn.out HX.out HY.out hx1 hy1 Hh.out Hc2.out Hw.out Hv.out Hblk.out Honly.out);go_wp2_with fail
     exact⟨by have:=Hfin.out;rw[Int.natCast_add]at this;exact this,by simp[intOf] <;> omega⟩
   ·have Hfin:=Lh (Wy (m:=0) hs Hk.out hlt Hn.out (by omega) HX.out hx1 Hh.out Hw.out Hv.out Hblk.out Honly.out);clear hh hk hw hv hblk honly hx hxl;go_wp2_with fail
    exact⟨Hfin.out,by simp[intOf] <;> omega⟩
  ·obtain rfl:k=n:=by omega
   have Hfin:=Lh (KO hs hxl hk hv Hr.out);have Hzb:=Lh (show Blk wr g ts by
    have e:put xs 0 ts=ts:=by
     unfold put;rw[FT,Fu,Fh (by omega),FI]
    rw [← e]; exact hblk)
   clear hk hw hv hblk honly hxl;go_wp2;go_end0
   exact⟨rfl,⟨ts,Hk.out,Hw.out,Hfin.out,Hzb.out⟩,Honly.out⟩
theorem Gy{a b:Nat}(h:b<=a):0<=cmpN a b:=by
 unfold cmpN;rw[if_neg (by omega)]
 split <;> omega
def GE(m m':Nat)(w:JW)(e:Ending)(w':JW):Prop:=
 ∃(A1:Option Addr) (n1 c1:Nat) (zs:List Nat) (A2:Option Addr) (n2 c2:Nat) (us:List Nat),e= .returned (.tuple #[.slice A1 n1 c1,.slice A2 n2 c2])/\Jz 0 w' A1 n1 c1 zs (m/m')/\Jz 0 w' A2 n2 c2 us (m%m')/\Below w.heap.size w w'
theorem Ke{B B':Nat}{A A':Option Addr}{n c n' c' m m':Nat}{xs ys:List Nat}(w:JW)(hx:Jz B w A n c xs m)(hy:Jz B' w A' n' c' ys m')(h:m<m') :
  Calls Tryz.prog 116 #[.slice A n c,.slice A' n' c'] w (GE m m' w):=by
 have Hc:=Lh (JI w hx hy);rw[YW h]at Hc;have Hx:=Lh hx;have H:=Lh h;clear hx hy h;go_enter Tryz.func116,Tryz.ntmps116;go_wp2_with fail
 refine Hc.out.mono ?_;rintro e w1⟨rfl,h1⟩;have H1:=Lh h1;clear h1;go_wp2;go_ret2;exact⟨Jn,0,0,[],A,n,c,xs,rfl,by rw[Fy H.out];exact Jz.zero _ _,by rw[FG H.out];exact(Hx.out.keep H1.out).mono (Fe _),H1.out⟩
theorem Zl(w:JW)(r:Nat):Blk (w.alloc (.cells #[Ji Ju (r:Int)] 154)) w.heap.size [r]:=⟨#[Ji Ju (r:Int)],Ua w _,rfl⟩
theorem div_one{B B':Nat}{A A':Option Addr}{n c c' m m':Nat}{xs ys:List Nat}(w:JW)(hx:Jz B w A n c xs m)(hy:Jz B' w A' 1 c' ys m')(h:m'<=m)(h0:0<m') :
  Calls Tryz.prog 116 #[.slice A n c,.slice A' (1:Nat) c'] w (GE m m' w):=by
 have Hc:=Lh (JI w hx hy);obtain⟨x,hxc⟩:∃x,cmpN m m'=x:=⟨_,rfl⟩;have hx0:0<=x:=by rw[←hxc];exact Gy h
 rw[hxc]at Hc;have hn0:0<n:=by
  rcases Ff n with h1|h1
  ·have:=hx.zero_iff.1 h1;omega
  ·exact h1
 have hnl:=hx.len;have hxl:=hx.size;obtain⟨d,rfl⟩:∃d,ys=[d]:=List.length_eq_one_iff.mp hy.size;have hd:d=m':=by have:=hy.val;simpa[Je]using this
 subst hd;have hd1:d<18446744073709551616:=hy.words d (by simp);have hcl':=hy.isl.2.1;obtain⟨b',o',rfl,hb',_,hcell⟩:=hy.at (by decide);have cy:=hcell 0 (by decide);have cy2:w.cell? ⟨b',o',Jn⟩=some (Ji Ju (d:Int)):=cy;have Hcy:=Lh cy2;have Hcl:=Lh (fun w1 (hb:Below w.heap.size w w1)=>Yt A n c xs w1 (hx.isl.keep hb) hn0 (by omega));have Hx:=Lh hx;have Hxl:=Lh hxl;have H:=Lh h;have hcn:=hx.isl.2.1;have hcc:=hx.cap;clear hx hy h hxc hcell cy cy2 hxl;go_enter Tryz.func116,Tryz.ntmps116;go_wp2_with fail
 refine Hc.out.mono ?_;rintro e w1⟨rfl,h1⟩;have H1:=Lh h1;clear h1;go_wp2_with fail
 refine(Hcl.out _ H1.out).mono ?_;rintro e w2⟨g,cg,rfl,hnc,hcm,hg,hblk,h2⟩;have H2:=Lh (Jd H1.out h2);have cy:=(H2.out.cell (p:=⟨b',o',Jn⟩) hb').trans Hcy.out;have Hdd:=Lh (Yk g 0 n cg xs d w2 hblk (by rw[Hxl.out];omega) Hx.out.words h0 hd1 (by omega) (by decide));have Hgw:=Lh (FU H1.out.size hg);clear h2 hblk hg;go_wp2_with fail
 refine Hdd.out.mono ?_;rintro e w3⟨zs,r,rfl,hzl,hr,hzw,hzv,hzb,hon⟩;rw[Xr (by rw[hzl,Hxl.out])]at hzb;rw[Fg,E6 (by rw[Hxl.out];exact EY _),Hx.out.val]at hzv;have H3:=Lh (Below.only H2.out hon Hgw.out H2.out.size);have hq:Je zs=m/d:=by
  rw[hzv,E8,Nat.mul_add_div h0,Fy hr,Fc]
 have hrr:r=m%d:=by
  rw[hzv,E8,FQ,FG hr]
 have hisl:=hzb.isL (o:=0) (n:=n) (c:=cg) (by omega) hnc;rw[Fg,E6 (by omega)]at hisl;have Ht1:=Lh (JT _ _ _ zs w3 hisl (by omega) (by omega));have Hq:=Lh (Ql (B:=0) hzb hzl hnc (by omega) (by omega) hzw hq (Fe _));have hrb:=Zl w3 r;have hisl2:=hrb.isL (o:=0) (n:=1) (c:=1) (by simp) (by decide);have Ht2:=Lh (JT _ _ _ [r] (w3.alloc (.cells #[Ji Ju (r:Int)] 154)) hisl2 (by decide) (by decide));have Hr:=Lh (Ql (B:=0) (n:=1) (c:=1) hrb rfl (by decide) (by decide) (by decide) (fun x hx=>by rw[List.mem_singleton.1 hx];omega) (show Je [r]=m%d by simp[Je,hrr]) (Fe _));have K3:=Lh ((Below.refl w3.heap.size w3).alloc (EY _) (.cells #[Ji Ju (r:Int)] 154));clear hzw hzv hzb hon hq hrr hisl hrb hisl2 cy;go_wp2_with fail
 refine Ht1.out.mono ?_;rintro e w4⟨rfl,rfl⟩;go_wp2_with fail
 refine Ht2.out.mono ?_;rintro e w5⟨rfl,rfl⟩;go_wp2;go_ret2;exact⟨_,_,_,_,_,_,_,_,rfl,Hq.out.keep K3.out,Hr.out,Jd H3.out K3.out⟩
def wquo(j:Nat)(q:List Nat):List Nat:=EZ j 0 ++ q
theorem GH(j:Nat)(q:List Nat):(wquo j q).length=j+q.length:=by simp[wquo]
theorem Wl(i t:Nat)(q:List Nat):(wquo (i+1) q).set i t=wquo i (t :: q):=by
 unfold wquo;rw[List.replicate_succ',Ft,List.set_append_right _ _ (by simp)];simp
theorem WZ{xs:List Nat}{i x:Nat}(hx:xs.getD i 0=x)(hi:i<xs.length):Je (xs.drop i)=x+18446744073709551616*Je (xs.drop (i+1)):=by
 have e:xs[i]=x:=by rw[←hx];simp[FN,hi]
 rw[List.drop_eq_getElem_cons hi,e,Je]
theorem Es{R:List Nat}{i k v:Nat}(hR:i+(k+3)<=R.length)(hw:Jy R)(hv:Je (R.drop (i+1))<v)(hvb:v<=base (k+2)) :
  Je (R.drop i)<18446744073709551616*v/\Je ((R.drop i).take (k+3))=Je (R.drop i)/\Je ((R.drop i).drop (k+3))=0:=by
 obtain⟨x,hx⟩:∃x,R.getD i 0=x:=⟨_,rfl⟩;have hx1:=JG hw i;rw[hx]at hx1;have e:=WZ hx (by omega);have hlt:Je (R.drop i)<18446744073709551616*v:=by omega
 have hs:=JR (R.drop i) (k+3);rw[QL (by omega)]at hs;have hb:base (k+3)=18446744073709551616*base (k+2):=JJ (k+2);have h0:Je ((R.drop i).drop (k+3))=0:=by
  rcases Ff (Je ((R.drop i).drop (k+3)))with h|h
  ·exact h
  ·exfalso;have:base (k+3)*1<=base (k+3)*Je ((R.drop i).drop (k+3)):=E4 _ h;omega
 rw[h0,Fi,Fc]at hs;exact⟨hlt,hs.symm,h0⟩
theorem OA{R rs:List Nat}{i k q v M Qv:Nat}(hR:i+(k+3)<=R.length)(hl:rs.length=k+3)(h0:Je ((R.drop i).drop (k+3))=0)(hw:Je ((R.drop i).take (k+3))=Je (R.drop i))(hq:Je ((R.drop i).take (k+3))=q*v+Je rs)
  (hM:M=base (i+1)*Qv*v+Je R):M=base i*(q+18446744073709551616*Qv)*v+Je (put R i rs)/\Je ((put R i rs).drop i)=Je rs:=by
 have e1:(put R i rs).drop i=rs ++ R.drop (i+rs.length):=by
  unfold put;rw[Ft,List.drop_append,Fh (by simp;omega),Fu];have e:i-(List.take i R).length=0:=by simp;omega
  rw[e,Fg]
 have e2:Je ((put R i rs).drop i)=Je rs:=by
  rw[e1,Qc,hl,←List.drop_drop,h0,Fi,Fc]
 refine⟨?_,e2⟩;have s1:=JR R i;have s2:=JR (put R i rs) i;have e3:(put R i rs).take i=R.take i:=by
  unfold put;rw[Ft,Fr (by simp;omega),FS,Nat.min_self]
 rw[e3,e2]at s2;rw[←hw,hq]at s1;have l1:(R.take i).length=i:=by simp;omega
 rw[l1]at s1 s2;rw[hM,s1,s2,JJ];simp only[E7,Fa,E9,Fb];omega
theorem GU{ys:List Nat}{k y s m':Nat}(hl:ys.length=k+2)(hw:Jy ys)(hy:ys.getD (k+1) 0=y)(hv:Je ys=m')(_hs:s<64)(h1:9223372036854775808<=y*2^s)(h2:(y+1)*2^s<=18446744073709551616) :
  m'*2^s<base (k+2)/\9223372036854775808*base (k+1)<=m'*2^s:=by
 have e:=JX (xs:=ys) (k:=k+1) hy;rw[E6 (by omega),hv]at e;have hlo:=JH (JK hw (k+1));rw[Fx,FH (by omega)]at hlo;have hp:0<2^s:=Fm (by decide);constructor
 ·have h3:m'<base (k+1)*(y+1):=by rw[E7,Fw];omega
  have h4:=FA h3 hp;have h5:=E4 (base (k+1)) h2;rw[show base (k+2)=18446744073709551616*base (k+1)from JJ (k+1)];rw[E9]at h4;omega
 ·have h3:base (k+1)*y<=m':=by omega
  have h4:=F0 (2^s) h3;have h5:=E4 (base (k+1)) h1;rw[E9]at h4;omega
theorem Up{y s:Nat}(h0:y≠0)(hy:y<18446744073709551616)(hs:64-Lib.bitLen y=s):s<64/\9223372036854775808<=y*2^s/\(y+1)*2^s<=18446744073709551616:=by
 obtain⟨a,b,c,d⟩:=YF 64 y h0 (by simpa using hy) (EY _);have hs64:s<64:=by omega
 have hb:Lib.bitLen y=64-s:=by omega
 rw[hb]at a b;refine⟨hs64,?_,?_⟩
 ·have e63:2^(64-s-1)*2^s=9223372036854775808:=by rw[←FP,show 64-s-1+s=63 by omega]
  rw[←e63];exact F0 _ a
 ·rw[←Q0 hs64];exact F0 _ b
theorem Wp{zs:List Nat}{k t V:Nat}(hl:zs.length=k+2)(hw:Jy zs)(ht:zs.getD (k+1) 0=t)(hv:Je zs=V)(h:9223372036854775808*base (k+1)<=V):9223372036854775808<=t:=by
 have e:=JX (xs:=zs) (k:=k+1) ht;rw[E6 (by omega),hv]at e;have hlo:=JH (JK hw (k+1));rw[Fx,FH (by omega)]at hlo;rcases Fv t 9223372036854775808 with h1|h1
 ·exfalso;have h2:=E4 (base (k+1)) (show t+1<=9223372036854775808 from h1);rw[E7,Fw]at h2;rw[E8 _ 9223372036854775808]at h2;omega
 ·exact h1
theorem Ws{zs:List Nat}{n:Nat}(hl:zs.length=n+1)(h:Je zs<base n):Je (zs.take n)=Je zs:=by
 have e:=JR zs n;have l:(zs.take n).length=n:=by simp;omega
 rw[l]at e;rcases Ff (Je (zs.drop n))with h0|h0
 ·rw[h0,Fi,Fc]at e;exact e.symm
 ·exfalso;have:base n*1<=base n*Je (zs.drop n):=E4 _ h0;omega
theorem OG{R:List Nat}{n N k m s V:Nat}(hR:R.length=n+1)(hN:N+(k+2)=n+1)(hv:Je R=m*2^s)(hm:m<base n)(hs:s<64)(hV:9223372036854775808*base (k+1)<=V):Je (R.drop N)<V:=by
 have e:=JR R N;have l:(R.take N).length=N:=by simp;omega
 rw[l,hv]at e;have h1:m*2^s<base n*9223372036854775808:=by
  have h2:2^s<=2^63:=FL (by decide) (by omega);have h3:m*2^s<base n*2^s:=FA hm (Fm (by decide));have h4:base n*2^s<=base n*2^63:=E4 _ h2;exact Fp h3 h4
 have h5:base n=base N*base (k+1):=by
  have:n=N+(k+1):=by omega
  rw[this];unfold base;rw[FP]
 have h6:base N*Je (R.drop N)<base N*V:=by
  have h7:=E4 (base N) hV;rw[h5,E9,E8 (base (k+1))]at h1;omega
 exact Nat.lt_of_mul_lt_mul_left h6
theorem WQ{m m' s Q R:Nat}(h:m*2^s=Q*(m'*2^s)+R)(hR:R<m'*2^s):Q=m/m'/\R=(m%m')*2^s:=by
 have hp:0<2^s:=Fm (by decide);have hm':0<m':=by
  rcases Ff m' with h0|h0
  ·subst h0;omega
  ·exact h0
 have hQ:Q*m'<=m:=by
  have:Q*m'*2^s<=m*2^s:=by rw[E9];omega
  exact Nat.le_of_mul_le_mul_right this hp
 obtain⟨r,hr⟩:∃r,m=Q*m'+r:=⟨m-Q*m',by omega⟩;have e:R=r*2^s:=by
  rw[hr,Fa,E9]at h;omega
 have hrm:r<m':=by
  rw[e]at hR;exact Nat.lt_of_mul_lt_mul_right hR
 have hd:m/m'=Q:=by rw[hr,E8,Nat.mul_add_div hm',Fy hrm,Fc]
 have hmod:m%m'=r:=by rw[hr,E8,FQ,FG hrm]
 exact⟨hd.symm,by rw[hmod,e]⟩
theorem Blk.only{w w':JW}{g g':Nat}{xs:List Nat}(h:Blk w g xs)(ho:Only g' w w')(hg:g≠g'):Blk w' g xs:=by
 have hlt:=h.lt;obtain⟨cur,h1,h2⟩:=h;exact⟨cur,(ho.block g hlt hg).trans h1,h2⟩
theorem Blk.set_other{w:JW}{g g':Nat}{xs:List Nat}(h:Blk w g xs)(hg:g≠g')(i:Nat)(u:Value):Blk (w.setCell ⟨g',i,Jn⟩ u) g xs:=by
 obtain⟨cur,h1,h2⟩:=h;exact⟨cur,(Below.heap_setCell w ⟨g',i,Jn⟩ u g hg).trans h1,h2⟩
def GD(w0:JW)(gr gq n N M V:Nat)(vi:Value)(wr:JW):Prop:=
 ∃(j:Nat) (R Q:List Nat),vi=Ji .i64 ((j:Int)-1)/\R.length=n+1/\Jy R/\Blk wr gr R/\Q.length+j=N/\Jy Q/\Blk wr gq (wquo j Q)/\M=base j*Je Q*V+Je R/\Je (R.drop j)<V/\Below w0.heap.size w0 wr
theorem Kd{B B':Nat}{A A':Option Addr}{n c k c' m m':Nat}{xs ys:List Nat}(w:JW)(hx:Jz B w A n c xs m)(hy:Jz B' w A' (k+2) c' ys m')(h:m'<=m)(hn:n<450) :
  Calls Tryz.prog 116 #[.slice A n c,.slice A' (k+2:Nat) c'] w (GE m m' w):=by
 obtain⟨i0,hi,hz0,hz1,hz2⟩:=info_parts QT;have Hc:=Lh (JI w hx hy);obtain⟨x,hxc⟩:∃x,cmpN m m'=x:=⟨_,rfl⟩;have hx0:0<=x:=by rw[←hxc];exact Gy h
 rw[hxc]at Hc;have hkn:k+2<=n:=by
  rcases Fv n (k+2)with h1|h1
  ·exfalso;have:=Ur hx.words hy.tight (by rw[hx.size,hy.size];exact h1);rw[hx.val,hy.val]at this;omega
  ·exact h1
 have hm:m<base n:=by have:=JH hx.words;rwa [hx.size,hx.val]at this
 obtain⟨b',o',rfl,hb',_,hcell⟩:=hy.at (by omega);obtain⟨y,hyt⟩:∃y,ys.getD (k+1) 0=y:=⟨_,rfl⟩;obtain⟨hy0,hy1,_⟩:=UJ (n:=k+1) hy.words hy.size hy.tight hyt hy.val;have hcy:=hcell (k+1) (by omega);rw[hyt]at hcy;obtain⟨s,hs⟩:∃s,64-Lib.bitLen y=s:=⟨_,rfl⟩;obtain⟨hs64,hs1,hs2⟩:=Up (by omega) hy1 hs;obtain⟨ht1,ht2⟩:=GU hy.size hy.words hyt hy.val hs64 hs1 hs2;have Hlz:=Lh (Oc y s hy1 (by omega) hs);have Hsb:=Lh (fun w1 (hb:Below w.heap.size w w1)=>Uu _ (k+2) c' s ys w1 (hy.isl.keep hb) hy.words (by omega) (by omega) hs64);have Hsa:=Lh (fun w1 (hb:Below w.heap.size w w1)=>Uu A n c s xs w1 (hx.isl.keep hb) hx.words (by omega) (by omega) hs64);have Hcy:=Lh hcy;have Hxv:=Lh hx.val;have Hyv:=Lh hy.val;have Ht1:=Lh ht1;have Ht2:=Lh ht2;have Hm:=Lh hm;have hcn:=hx.isl.2.1;have hcc:=hx.cap;have hcn':=hy.isl.2.1;have hcc':=hy.cap;have t0:(((k+2:Nat):Int) ==1)=false:=by rw[beq_eq_false_iff_ne];omega
 have t1:((k:Int)+2 ==1)=false:=by rw[beq_eq_false_iff_ne];omega
 have hs63:(s:Int)<=63:=by omega
 clear hx hy h hxc hcell hyt hcy hs hs1 hs2 ht1 ht2 hm;go_enter Tryz.func116,Tryz.ntmps116;go_wp2_with fail
 refine Hc.out.mono ?_;rintro e w1⟨rfl,h1⟩;have H1:=Lh h1;have cy:=(h1.cell (p:=⟨b',o'+(k+1),Jn⟩) hb').trans Hcy.out;clear h1;go_wp2_with fail
 refine(Hlz.out _).mono ?_;rintro e w1⟨rfl,rfl⟩;clear cy;go_wp2_with fail
 refine(Hsb.out _ H1.out).mono ?_;rintro e w2⟨g1,zs1,rfl,hg1,hl1,hw1,hv1,hb1,h2⟩;have H2:=Lh (Jd H1.out h2);clear h2;have Hb1:=Lh hb1;have Hl1:=Lh hl1;have Hw1:=Lh hw1;have Hv1:=Lh hv1;clear hb1 hl1 hw1 hv1;go_wp2_with fail
 refine(Hsa.out _ H2.out).mono ?_;rintro e w3⟨gr,zs2,rfl,hgr,hl2,hw2,hv2,hb2,h3⟩;have H3:=Lh (Jd H2.out h3);have H3':=Lh h3;have Hb2:=Lh hb2;have hgr3:=hb2.lt;have Hl2:=Lh hl2;have Hw2:=Lh hw2;have Hv2:=Lh hv2;clear h3 hb2 hl2 hw2 hv2;obtain⟨N,hN⟩:∃N,N+(k+2)=n+1:=⟨n+1-(k+2),by omega⟩;have hNI:(n:Int)-((k:Int)+2)+1=(N:Int):=by omega
 go_wp2_with (at_make;refine wpList_make_full _ rfl _ _ 159 rfl w3.heap.size 154 i0 (Ji Ju 0) 1 Tryz.underlying159 hi hz0 hz1 _ _ _ _ N rfl rfl (by simp) (by simp) (by rw[hz2];omega) (by unfold maxLen;omega) (EY _) ?_)
 intro w4 hown hgrow;rw[UZ]at hown;have Hblk:=Lh (show Blk w4 w3.heap.size (EZ N 0) by
  obtain⟨g,c,e,_,_,hg,hb⟩:=Blk.of_own hown (by omega)
  injection e with e1 e2 e3
  injection e1 with e1
  injection e1 with e1
  subst e1;exact hb)
 have B4:=Lh ((Below.refl w3.heap.size w3).grown hgrow (EY _) (by simp));have hV:=Ws Hl1.out (show Je zs1<base (k+2)by rw[Hv1.out,Hyv.out];exact Ht1.out);rw[Hv1.out,Hyv.out]at hV;have HV:=Lh hV;have Hys:=Lh (show(zs1.take (k+2)).length=k+2 by rw[Fx,Hl1.out];omega);have Hyw:=Lh (JK Hw1.out (k+2));have Hyl:=Lh (show IsL w2 (some ⟨g1,0,Jn⟩) (k+2) (k+2+1) (u64s (zs1.take (k+2))) by
  have:=Hb1.out.isL (o:=0) (n:=k+2) (c:=k+2+1) (by rw[Hl1.out];omega) (by omega)
  rwa [Fg] at this)
 have Htop:=Lh (Wp Hys.out Hyw.out rfl hV Ht2.out);have hg12:=Hb1.out.lt;have hgr2:w2.heap.size<=gr:=hgr;have Hq0:=Lh (show GD w2 gr w3.heap.size n N (m*2 ^ s) (m'*2 ^ s) (Ji .i64 ((N:Int) - 1)) w4 from
  ⟨N,zs2,[],rfl,Hl2.out,Hw2.out,Hb2.out.below B4.out hgr3,by simp,fun d hd=>absurd hd (by simp),by unfold wquo; rw [FI]; exact Hblk.out,by rw [Hv2.out,Hxv.out]; simp [Je],
   OG Hl2.out hN (by rw [Hv2.out,Hxv.out]) Hm.out hs64 Ht2.out,Jd H3'.out B4.out⟩)
 have hw23:=H3'.out.size;clear hown hgrow hV hgr;go_wp2_with fail
 go_loopw [9] (fun vi wr=>GD w2 gr w3.heap.size n N (m*2^s) (m'*2^s) vi wr) (fun vi _=>(intOf vi+1).toNat)
 case atStart=>exact Hq0.out
 case round=>
  obtain⟨j,R,Q,rfl,hR,hRw,hRb,hQ,hQw,hQb,hM,hlt,hbel⟩:=hrel;have HR:=Lh hR;have HRw:=Lh hRw;have HRb:=Lh hRb;have HQ:=Lh hQ;have HQw:=Lh hQw;have HQb:=Lh hQb;have HM:=Lh hM;have Hlt:=Lh hlt;have Hbel:=Lh hbel;clear hR hRw hRb hQ hQw hQb hM hlt hbel;cases j with
  | zero=>
   have hM:=HM.out;have hlt:=Hlt.out;rw[Fg]at hlt;rw[Qk,Fq]at hM;obtain⟨hq,hr⟩:=WQ hM hlt;have hQN:Q.length=N:=by have:=HQ.out;omega
   have Hshr:=Lh (XE gr (n+1) (n+1) s (m%m') R wr HRb.out HR.out HRw.out (by omega) (EY _) hs64 hr);have HQN:=Lh hQN;have Hqv:=Lh hq;have hqbl:=HQb.out.lt;clear hM hlt hq hr hQN;go_wp2_with fail
   refine Hshr.out.mono ?_;rintro e w5⟨rfl,⟨zs,hzl,hzw,hzv,hzb⟩,hon⟩;have hq5:=HQb.out.only hon (by omega);rw[show wquo 0 Q=Q from rfl]at hq5;have hi1:=hq5.isL (o:=0) (n:=N) (c:=N) (by rw[HQN.out];omega) (EY _);rw[Fg,E6 (by rw[HQN.out];exact EY _)]at hi1;have hi2:=hzb.isL (o:=0) (n:=n+1) (c:=n+1) (by omega) (EY _);rw[Fg,E6 (by omega)]at hi2;have Htr1:=Lh (JT _ _ _ Q w5 hi1 (by omega) (by omega));have Htr2:=Lh (JT _ _ _ zs w5 hi2 (by omega) (by omega));have Hq:=Lh (Ql (B:=0) hq5 HQN.out (EY N) (by omega) (by omega) HQw.out Hqv.out (Fe _));have Hr:=Lh (Ql (B:=0) hzb hzl (EY (n+1)) (by omega) (by omega) hzw hzv (Fe _));have Hbf:=Lh (Jd H2.out (Below.only Hbel.out hon hgr2 Hbel.out.size));clear hzl hzw hzv hzb hon hq5 hi1 hi2;go_wp2_with fail
   refine Htr1.out.mono ?_;rintro e w6⟨rfl,rfl⟩;go_wp2_with fail
   refine Htr2.out.mono ?_;rintro e w6⟨rfl,rfl⟩;go_wp2;go_ret2;exact⟨_,_,_,_,_,_,_,_,rfl,Hq.out,Hr.out,Hbf.out⟩
  | succ i=>
   have hin:i+(k+3)<=n+1:=by have:=HQ.out;omega
   have hiN:i<N:=by have:=HQ.out;omega
   obtain⟨hwin,hw1,hw0⟩:=Es (by have:=HR.out;omega) HRw.out Hlt.out (Nat.le_of_lt Ht1.out);have Hw1':=Lh hw1;have Hw0':=Lh hw0;have Hstep:=Lh (Om gr i k (n+1-i) (k+2+1) (some ⟨g1,0,Jn⟩) R (zs1.take (k+2)) wr HRb.out (Hyl.out.keep Hbel.out) (fun a e=>by injection e with e;subst e;show g1≠gr;omega) (by have:=HR.out;omega) HRw.out Hyw.out (by omega) (by omega) Htop.out (by rw[hw1,HV.out];exact hwin) (by omega));rw[HV.out]at Hstep;have hrbl:=HRb.out.lt;have hqbl:=HQb.out.lt;clear hwin hw1 hw0;go_wp2_with fail
   rw[show i+(k+2)+1-i=k+3 by omega];refine Hstep.out.mono ?_;rintro e w5⟨rs,q,rfl,hrl,hrw,hq,hrv,hrlt,hrb,hon⟩;obtain⟨e1,e2⟩:=OA (Qv:=Je Q) (by have:=HR.out;omega) hrl Hw0'.out Hw1'.out hrv HM.out;have hq5:=HQb.out.only hon (by omega);have hfz:=hq5.frozen i;have hcq:=hq5.cell (i:=i) (by rw[GH];omega);obtain⟨z0,hz0⟩:∃z,(wquo (i+1) Q).getD i 0=z:=⟨_,rfl⟩;rw[hz0]at hcq;have Hnew:=Lh (show GD w2 gr w3.heap.size n N (m*2 ^ s) (m'*2 ^ s) (Ji .i64 ((i:Int) - 1)) (w5.setCell ⟨w3.heap.size,i,Jn⟩ (Ji Ju (q:Int))) from
    ⟨i,put R i rs,q :: Q,rfl,by rw [Jv (by rw [hrl]; have:=HR.out; omega)]; exact HR.out,Uh HRw.out hrw i,hrb.set_other (by omega) _ _,by rw [List.length_cons]; have:=HQ.out; omega,fun x hx=>by
     rcases List.mem_cons.1 hx with rfl|hx
     ·exact hq
     ·exact HQw.out x hx,by
     have:=hq5.set_ q (i:=i) (by rw[GH];omega)
     rwa [Wl] at this,by rw [Je]; exact e1,by rw [e2]; exact hrlt,(Below.only Hbel.out hon hgr2 Hbel.out.size).setCell (p:=⟨w3.heap.size,i,Jn⟩) hw23 _⟩)
   clear hrl hrw hrv hrlt hrb hon e1 e2 hq5 hz0;go_wp2_with fail
   exact⟨by simpa using Hnew.out,by simp[intOf] <;> omega⟩
theorem Ys{B B':Nat}{A A':Option Addr}{n c n' c' m m':Nat}{xs ys:List Nat}(w:JW)(hx:Jz B w A n c xs m)(hy:Jz B' w A' n' c' ys m')(h0:0<m')(hn:n<450) :
  Calls Tryz.prog 116 #[.slice A n c,.slice A' n' c'] w (GE m m' w):=by
 rcases Fv m m' with h|h
 ·exact Ke w hx hy h
 ·rcases Fv n' 2 with h2|h2
  ·have h1:n'=1:=by
    rcases Ff n' with h3|h3
    ·have:=hy.zero_iff.1 h3;omega
    ·omega
   subst h1;exact div_one w hx hy h h0
  ·obtain⟨k,rfl⟩:∃k,n'=k+2:=⟨n'-2,by omega⟩;exact Kd w hx hy h hn
