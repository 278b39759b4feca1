/- C30: Vmad Vmk Vpar Vlib Vrf Vrp Vro Vst4 Vpm Vpr2 Vpz Vpy Vopa RatX -/
import Derived.Test.YthhobhjcnmmipaaGreatDoorC27
import Derived.Test.YthhobhjcnmmipaaGreatDoorC28
import Derived.Test.YthhobhjcnmmipaaGreatDoorC29
import Derived.Test.YthhobhjcnmmipaaGreatDoorC15
import Derived.Test.YthhobhjcnmmipaaGreatDoorC20
import Derived.Test.YthhobhjcnmmipaaGreatDoorC26
import Derived.Test.YthhobhjcnmmipaaGreatDoorC23
import Derived.Test.YthhobhjcnmmipaaGreatDoorC22
import Derived.Test.YthhobhjcnmmipaaGreatDoorC25
set_option maxRecDepth 100000
set_option maxHeartbeats 16000000
namespace Go.Proofs.YthhobhjcnmmipaaGreatDoor
open Go.Value renaming pointer→Jp,int→Ji
open Go.IntKind renaming i64→Jl,wrap→Fc
open Go.Obj renaming cells→Jc
open _root_.Option renaming none→Jn
open Go renaming World→JW
open _root_.Nat renaming gcd→E4,gcd_dvd_right→E5,le_refl→E6,gcd_dvd_left→E8,lt_of_le_of_lt→EZ,lt_of_lt_of_le→Fa,mul_assoc→Fb,ne_of_lt→Fe
open _root_.Rat renaming divInt→E7
open Go.RowKit.Below renaming refl→E9
open Go.World renaming size_alloc→EY
open _root_.Int renaming natAbs_mul→F0
open Go.RowKit
theorem EM{n:Int}(h0:-9223372036854775808<=n)(h1:n<=9223372036854775807):Fc Jl n=n:=by
 simp[Fc,IntKind.signed,IntKind.bits];omega
structure Sm (n0 n1 n2 d r:Int):Prop where
 x0:-128<=n0
 x1:n0<=127
 y0:-128<=n1
 y1:n1<=127
 z0:-128<=n2
 z1:n2<=127
 d0:0<=d
 d1:d<=255
 r_:d%6=r
theorem Sm.r0{n0 n1 n2 d r:Int}(h:Sm n0 n1 n2 d r):0<=r:=by have:=h.r_;omega
theorem Sm.r1{n0 n1 n2 d r:Int}(h:Sm n0 n1 n2 d r):r<=5:=by have:=h.r_;omega
def Xv(p0 p1 p2:Rat):Bool:=cmpV p0 p1 p2 0 0 0 ==0
theorem Few3.cross{k n:Nat}{p0 p1 p2 q0 q1 q2:Rat}(h:Few3 k p0 p1 p2)(h':Few3 n q0 q1 q2):Few3 (k+n+(k+n)+1) (p1*q2-p2*q1) (p2*q0-p0*q2) (p0*q1-p1*q0):=⟨(h.y.mul h'.z).sub (h.z.mul h'.y),(h.z.mul h'.x).sub (h.x.mul h'.z),(h.x.mul h'.y).sub (h.y.mul h'.x)⟩
theorem Jh.same{w w':JW}{q p:Nat}{l:List Value}(h:Jh w q l)(hq:q≠p)(hs:w'.heap.size=w.heap.size)(hk:∀k,k≠p->w'.heap[k]?=w.heap[k]?):Jh w' q l:=
 ⟨fun i=>(World.cell?_of_block (hk q hq)).trans (h.at_ i),fun i=>(World.frozen?_of_block (hk q hq)).trans (h.fz i),by rw[hs];exact h.lt⟩
theorem Jh.put12{w:JW}{p:Nat}{u0 u1 u2:R4}(h:Jh w p (flat [u0,u1,u2]))(x0 x1 x2:R4):Jh (put12 w p x0 x1 x2) p (flat [x0,x1,x2]):=by
 have:=((((((((((((h.set 0 (Ji Jl x0.1) (by simp[flat,Qm])).set 1 (Jp x0.2.1) (by simp[flat,Qm])).set 2 (Ji Jl x0.2.2.1) (by simp[flat,Qm])).set 3 (Jp x0.2.2.2) (by simp[flat,Qm])).set 4 (Ji Jl x1.1) (by simp[flat,Qm])).set 5 (Jp x1.2.1) (by simp[flat,Qm])).set 6 (Ji Jl x1.2.2.1) (by simp[flat,Qm])).set 7 (Jp x1.2.2.2) (by simp[flat,Qm])).set 8 (Ji Jl x2.1) (by simp[flat,Qm])).set 9 (Jp x2.2.1) (by simp[flat,Qm])).set 10 (Ji Jl x2.2.2.1) (by simp[flat,Qm])).set 11 (Jp x2.2.2.2) (by simp[flat,Qm]));simpa[flat,Qm,Go.Proofs.YthhobhjcnmmipaaGreatDoor.put12]using this
theorem VarV.put{w:JW}{p:Nat}{u0 u1 u2 x0 x1 x2:R4}{q0 q1 q2:Rat}(h:Jh w p (flat [u0,u1,u2]))(hv:VecV w x0 x1 x2 q0 q1 q2):VarV (put12 w p x0 x1 x2) p x0 x1 x2 q0 q1 q2:=
 ⟨h.put12 x0 x1 x2,hv.wrote h (JA w p x0 x1 x2).1 (JA w p x0 x1 x2).2⟩
theorem VarV.other{w:JW}{q p:Nat}{u0 u1 u2 y0 y1 y2:R4}{q0 q1 q2:Rat}(h:VarV w q y0 y1 y2 q0 q1 q2)(hc:Jh w p (flat [u0,u1,u2]))(hq:q≠p)(x0 x1 x2:R4):VarV (put12 w p x0 x1 x2) q y0 y1 y2 q0 q1 q2:=
 ⟨h.cells.same hq (JA w p x0 x1 x2).1 (JA w p x0 x1 x2).2,h.vec.wrote hc (JA w p x0 x1 x2).1 (JA w p x0 x1 x2).2⟩
def Kx(w:JW)(t:Value)(q0 q1 q2:Rat):Prop:=∃r0 r1 r2,t=Jw r0 r1 r2/\VecV w r0 r1 r2 q0 q1 q2
theorem Kx.keep{w w':JW}{t:Value}{q0 q1 q2:Rat}(h:Kx w t q0 q1 q2)(hb:Below w.heap.size w w'):Kx w' t q0 q1 q2:=by
 obtain⟨r0,r1,r2,e,hx⟩:=h;exact⟨r0,r1,r2,e,hx.keep hb⟩
def PtrV(b:Nat)(w:JW)(t:Value):Prop:=∃p:Nat,t=Jp (some ⟨p,0,Jn⟩)/\b<=p/\Jh w p (flat [Jm,Jm,Jm])
theorem PtrV.keep{b:Nat}{w w':JW}{t:Value}(h:PtrV b w t)(hb:Below w.heap.size w w'):PtrV b w' t:=by
 obtain⟨p,e,hp,hc⟩:=h;exact⟨p,e,hp,hc.keep hb⟩
theorem PtrV.ne{b:Nat}{w:JW}{t:Value}(h:PtrV b w t):t≠ Jp (some ⟨w.heap.size,0,Jn⟩):=by
 obtain⟨p,rfl,hp,hc⟩:=h;intro e;have hl:=hc.lt
 injection e with e
 injection e with e
 injection e with e
 exact absurd e (Fe hl)
theorem Z9(p q:Rat):(p<q/\cmpR p q=-1)\/(p=q/\cmpR p q=0)\/(q<p/\cmpR p q=1):=by
 unfold cmpR cmpZ;rcases Int.lt_trichotomy (p.num*(q.den:Int)) (q.num*(p.den:Int))with h|h|h
 ·exact .inl ⟨(Rat.lt_iff p q).2 h,by rw[if_pos h]⟩
 ·refine .inr (.inl ⟨Rat.le_antisymm ((Rat.le_iff p q).2 (by omega)) ((Rat.le_iff q p).2 (by omega)),by rw[if_neg (by omega),if_neg (by omega)]⟩)
 ·exact .inr (.inr ⟨(Rat.lt_iff q p).2 h,by rw[if_neg (by omega),if_pos h]⟩)
theorem Gx{p q:Rat}(h:cmpR p q=0):p=q:=by
 rcases Z9 p q with h1|h1|h1
 ·rw[h]at h1;exact absurd h1.2 (by decide)
 ·exact h1.1
 ·rw[h]at h1;exact absurd h1.2 (by decide)
theorem Z7{p0 p1 p2 q0 q1 q2:Rat}(h0:p0=q0)(h1:p1=q1)(h2:p2=q2):cmpV p0 p1 p2 q0 q1 q2=0:=by
 subst h0 h1 h2;have e:∀q:Rat,cmpR q q=0:=fun q=>by unfold cmpR cmpZ;simp
 unfold cmpV;simp[e]
theorem Ef{p0 p1 p2 q0 q1 q2:Rat}(h:cmpV p0 p1 p2 q0 q1 q2=0):p0=q0/\p1=q1/\p2=q2:=by
 unfold cmpV at h;by_cases h0:cmpR p0 q0=0
 ·rw[if_pos h0]at h;by_cases h1:cmpR p1 q1=0
  ·rw[if_pos h1]at h;exact⟨Gx h0,Gx h1,Gx h⟩
  ·rw[if_neg h1]at h;exact absurd h h1
 ·rw[if_neg h0]at h;exact absurd h h0
theorem Zw{p0 p1 p2:Rat}:Xv p0 p1 p2=true↔p0=0/\p1=0/\p2=0:=by
 unfold Xv;rw[beq_iff_eq];exact⟨Ef,fun h=>Z7 h.1 h.2.1 h.2.2⟩
theorem few0:Few 0 1:=⟨by decide +kernel,by decide +kernel⟩
def PtrS(b:Nat)(w:JW)(t:Value):Prop:=∃p:Nat,t=Jp (some ⟨p,0,Jn⟩)/\b<=p/\Jh w p [.string ⟨#[]⟩,.string ⟨#[]⟩,.string ⟨#[]⟩]
theorem PtrS.keep{b:Nat}{w w':JW}{t:Value}(h:PtrS b w t)(hb:Below w.heap.size w w'):PtrS b w' t:=by
 obtain⟨p,e,hp,hc⟩:=h;exact⟨p,e,hp,hc.keep hb⟩
theorem PtrS.ne{b:Nat}{w:JW}{t:Value}(h:PtrS b w t):t≠ Jp (some ⟨w.heap.size,0,Jn⟩):=by
 obtain⟨p,rfl,hp,hc⟩:=h;intro e;have hl:=hc.lt
 injection e with e
 injection e with e
 injection e with e
 exact absurd e (Fe hl)
theorem Oh{a b c d:Nat}(hab:Nat.Coprime a b)(hcd:Nat.Coprime c d):E4 (a*d) (c*b)=E4 a c*E4 b d:=by
 apply Nat.dvd_antisymm
 ·have g1:E4 (a*d) (c*b)∣a*d:=E8 _ _;have g2:E4 (a*d) (c*b)∣c*b:=E5 _ _;generalize E4 (a*d) (c*b)=g at g1 g2;have h1:g∣E4 g a*E4 g d:=Nat.dvd_trans (Nat.dvd_gcd (Nat.dvd_refl g) g1) (Nat.gcd_mul_right_dvd_mul_gcd g a d);have h2:g∣E4 g c*E4 g b:=Nat.dvd_trans (Nat.dvd_gcd (Nat.dvd_refl g) g2) (Nat.gcd_mul_right_dvd_mul_gcd g c b);have xt:Nat.Coprime (E4 g a) (E4 g b):=Nat.Coprime.coprime_dvd_left (E5 g a) (Nat.Coprime.coprime_dvd_right (E5 g b) hab);have yz:Nat.Coprime (E4 g d) (E4 g c):=Nat.Coprime.coprime_dvd_left (E5 g d) (Nat.Coprime.coprime_dvd_right (E5 g c) hcd.symm);have hx:E4 g a∣E4 g c:=xt.dvd_of_dvd_mul_right (Nat.dvd_trans (E8 g a) h2);have hy:E4 g d∣E4 g b:=yz.dvd_of_dvd_mul_left (Nat.dvd_trans (E8 g d) h2);exact Nat.dvd_trans h1 (Nat.mul_dvd_mul (Nat.dvd_gcd (E5 g a) (Nat.dvd_trans hx (E5 g c))) (Nat.dvd_gcd (Nat.dvd_trans hy (E5 g b)) (E5 g d)))
 ·exact Nat.dvd_gcd (Nat.mul_dvd_mul (E8 a c) (E5 b d)) (Nat.mul_dvd_mul (E5 a c) (E8 b d))
theorem Od(u d:Nat):u*(d/E4 u d)=Nat.lcm u d:=by
 unfold Nat.lcm;rw[Nat.mul_div_assoc _ (E5 u d)]
theorem G6{n0 n1 n2 d0 d1 d2:Nat}(h0:Nat.Coprime n0 d0)(h1:Nat.Coprime n1 d1)(h2:Nat.Coprime n2 d2) :
  d0*d1*d2*E4 (E4 n0 n1) n2=Nat.lcm (Nat.lcm d0 d1) d2*E4 (E4 (n0*(d1*d2)) (n1*(d0*d2))) (n2*(d0*d1)):=by
 have e1:E4 (n0*(d1*d2)) (n1*(d0*d2))=E4 n0 n1*E4 d0 d1*d2:=by
  rw[←Fb,←Fb,Nat.gcd_mul_right,Oh h0 h1]
 have hc:Nat.Coprime (E4 n0 n1) (Nat.lcm d0 d1):=by
  have a:Nat.Coprime (E4 n0 n1) d0:=Nat.Coprime.coprime_dvd_left (E8 n0 n1) h0;have b:Nat.Coprime (E4 n0 n1) d1:=Nat.Coprime.coprime_dvd_left (E5 n0 n1) h1;exact Nat.Coprime.coprime_dvd_right (Nat.lcm_dvd (Nat.dvd_mul_right d0 d1) (Nat.dvd_mul_left d1 d0)) (Nat.Coprime.mul_right a b)
 have e2:E4 d0 d1*Nat.lcm d0 d1=d0*d1:=Nat.gcd_mul_lcm d0 d1;have e3:=Oh hc h2;have e4:E4 (Nat.lcm d0 d1) d2*Nat.lcm (Nat.lcm d0 d1) d2=Nat.lcm d0 d1*d2:=Nat.gcd_mul_lcm _ _;rw[e1,←e2];generalize E4 n0 n1=G at *
 generalize E4 d0 d1=g at *
 generalize Nat.lcm d0 d1=L at *
 have e5:E4 (G*g*d2) (n2*(g*L))=g*(E4 G n2*E4 L d2):=by
  rw[←e3,←Nat.gcd_mul_left]
  congr 1 <;> simp[Nat.mul_comm,Nat.mul_left_comm]
 rw[e5]
 calc g*L*d2*E4 G n2=g*E4 G n2*(L*d2):=by ac_rfl
  _=g*E4 G n2*(E4 L d2*Nat.lcm L d2):=by rw[e4]
  _=_:=by ac_rfl
theorem GY(q:Rat):q*((q.den:Int):Rat)=((q.num:Int):Rat):=by
 have hd:((q.den:Int):Rat)≠0:=by
  have:=q.den_pos;intro e;have:=Rat.intCast_inj.1 (show((q.den:Int):Rat)=((0:Int):Rat)from e);omega
 have h:((q.num:Int):Rat)/((q.den:Int):Rat)=q:=by rw[←Rat.divInt_eq_div];exact Rat.num_divInt_den q
 calc q*((q.den:Int):Rat)=((q.num:Int):Rat)/((q.den:Int):Rat)*((q.den:Int):Rat):=by rw[h]
  _=((q.num:Int):Rat):=Rat.div_mul_cancel hd
theorem WX(q:Rat)(E:Int):q*(((q.den:Int)*E:Int):Rat)=((q.num*E:Int):Rat):=by
 rw[Rat.intCast_mul,Rat.intCast_mul,←Rat.mul_assoc,GY]
theorem EB{D g U O:Nat}(hg:0<g)(hO:0<O)(h:D*O=U*g):((D:Int):Rat)*(1/((g:Int):Rat))=E7 (U:Int) (O:Int):=by
 rw[Rat.divInt_eq_div];have hg':((g:Int):Rat)≠0:=by
  intro e;have:=Rat.intCast_inj.1 (show((g:Int):Rat)=((0:Int):Rat)from e);omega
 have hO':((O:Int):Rat)≠0:=by
  intro e;have:=Rat.intCast_inj.1 (show((O:Int):Rat)=((0:Int):Rat)from e);omega
 have e:((D:Int):Rat)*((O:Int):Rat)=((U:Int):Rat)*((g:Int):Rat):=by
  rw[←Rat.intCast_mul,←Rat.intCast_mul]
  congr 1
  exact_mod_cast h
 grind
theorem unK3(q0 q1 q2:Rat):unK (qK q0 q1 q2) 3=Nat.lcm (Nat.lcm q0.den q1.den) q2.den:=by
 show 1*(q0.den/E4 1 q0.den)*(q1.den/E4 (1*(q0.den/E4 1 q0.den)) q1.den)*(q2.den/E4 (1*(q0.den/E4 1 q0.den)*(q1.den/E4 (1*(q0.den/E4 1 q0.den)) q1.den)) q2.den)=_;rw[Nat.gcd_one_left,Nat.div_one,Nat.one_mul,Od,Od]
theorem ovK3(q0 q1 q2:Rat):ovK (qK q0 q1 q2) 3=E4 (E4 q0.num.natAbs q1.num.natAbs) q2.num.natAbs:=by
 show E4 (E4 (E4 0 q0.num.natAbs) q1.num.natAbs) q2.num.natAbs=_;rw[Nat.gcd_zero_left]
theorem G5{q0 q1 q2:Rat}(ho:0<ovK (qK q0 q1 q2) 3):0<E4 (E4 (q0.num.natAbs*(q1.den*q2.den)) (q1.num.natAbs*(q0.den*q2.den))) (q2.num.natAbs*(q0.den*q1.den)):=by
 have h:=G6 q0.reduced q1.reduced q2.reduced;rw[ovK3]at ho;have hd:0<q0.den*q1.den*q2.den:=Nat.mul_pos (Nat.mul_pos q0.den_pos q1.den_pos) q2.den_pos;have:=Nat.mul_pos hd ho;rw[h]at this;exact Nat.pos_of_mul_pos_left this
theorem WI{q0 q1 q2:Rat}(ho:0<ovK (qK q0 q1 q2) 3):((1*(q0.den:Int)*(q1.den:Int)*(q2.den:Int):Int):Rat)*(1/((E4 (E4 (q0.num.natAbs*(q1.den*q2.den)) (q1.num.natAbs*(q0.den*q2.den))) (q2.num.natAbs*(q0.den*q1.den)):Nat):Int))=E7 (unK (qK q0 q1 q2) 3) (ovK (qK q0 q1 q2) 3):=by
 have hg:=G5 ho;rw[ovK3]at ho ⊢;rw[unK3];have h:=EB hg ho (G6 q0.reduced q1.reduced q2.reduced);rw[←h]
 congr 2
 simp
theorem WY{q:Rat}{D E:Int}(h:D=(q.den:Int)*E):q*((D:Int):Rat)=((q.num*E:Int):Rat):=by
 rw[h];exact WX q E
theorem VW{z:Int}{k:Nat}(h:z.natAbs<ten k):Few ((z:Int):Rat) (k+1):=⟨by rw[Rat.num_intCast];exact Fa h (QB (by omega)),by rw[Rat.den_intCast];exact Fa (by decide) (QB (show 1<=k+1 by omega))⟩
theorem KT{q0 q1 q2:Rat}(h:Xv q0 q1 q2=false):0<ovK (qK q0 q1 q2) 3:=by
 rw[ovK3];refine Nat.pos_of_ne_zero fun e=>?_;obtain⟨e1,e2⟩:=Nat.gcd_eq_zero_iff.1 e;obtain⟨e0,e1⟩:=Nat.gcd_eq_zero_iff.1 e1;have z:∀ {q:Rat},q.num.natAbs=0->q=0:=fun h=>Rat.num_eq_zero.1 (Int.natAbs_eq_zero.1 h);have:Xv q0 q1 q2=true:=Zw.2 ⟨z e0,z e1,z e2⟩;rw[h]at this;cases this
theorem VG{q0 q1 q2:Rat}(ho:0<ovK (qK q0 q1 q2) 3):E7 (unK (qK q0 q1 q2) 3) (ovK (qK q0 q1 q2) 3)*q0=((((q0.num*((q1.den:Int)*(q2.den:Int)))/((E4 (E4 (q0.num.natAbs*(q1.den*q2.den)) (q1.num.natAbs*(q0.den*q2.den))) (q2.num.natAbs*(q0.den*q1.den)):Nat):Int):Int)):Rat)/\E7 (unK (qK q0 q1 q2) 3) (ovK (qK q0 q1 q2) 3)*q1=((((q1.num*((q0.den:Int)*(q2.den:Int)))/((E4 (E4 (q0.num.natAbs*(q1.den*q2.den)) (q1.num.natAbs*(q0.den*q2.den))) (q2.num.natAbs*(q0.den*q1.den)):Nat):Int):Int)):Rat)/\E7 (unK (qK q0 q1 q2) 3) (ovK (qK q0 q1 q2) 3)*q2=((((q2.num*((q0.den:Int)*(q1.den:Int)))/((E4 (E4 (q0.num.natAbs*(q1.den*q2.den)) (q1.num.natAbs*(q0.den*q2.den))) (q2.num.natAbs*(q0.den*q1.den)):Nat):Int):Int)):Rat):=by
 have hf:=WI ho;have hg:=G5 ho;have d0:1*(q0.den:Int)*(q1.den:Int)*(q2.den:Int)=(q0.den:Int)*((q1.den:Int)*(q2.den:Int)):=by rw[Int.one_mul,Int.mul_assoc]
 have d1:1*(q0.den:Int)*(q1.den:Int)*(q2.den:Int)=(q1.den:Int)*((q0.den:Int)*(q2.den:Int)):=by rw[Int.one_mul];ac_rfl
 have d2:1*(q0.den:Int)*(q1.den:Int)*(q2.den:Int)=(q2.den:Int)*((q0.den:Int)*(q1.den:Int)):=by rw[Int.one_mul];ac_rfl
 have a0:(q0.num*((q1.den:Int)*(q2.den:Int))).natAbs=q0.num.natAbs*(q1.den*q2.den):=by simp[F0]
 have a1:(q1.num*((q0.den:Int)*(q2.den:Int))).natAbs=q1.num.natAbs*(q0.den*q2.den):=by simp[F0]
 have a2:(q2.num*((q0.den:Int)*(q1.den:Int))).natAbs=q2.num.natAbs*(q0.den*q1.den):=by simp[F0]
 have v0:E4 (E4 (q0.num.natAbs*(q1.den*q2.den)) (q1.num.natAbs*(q0.den*q2.den))) (q2.num.natAbs*(q0.den*q1.den))∣(q0.num*((q1.den:Int)*(q2.den:Int))).natAbs:=by rw[a0];exact Nat.dvd_trans (E8 _ _) (E8 _ _)
 have v1:E4 (E4 (q0.num.natAbs*(q1.den*q2.den)) (q1.num.natAbs*(q0.den*q2.den))) (q2.num.natAbs*(q0.den*q1.den))∣(q1.num*((q0.den:Int)*(q2.den:Int))).natAbs:=by rw[a1];exact Nat.dvd_trans (E8 _ _) (E5 _ _)
 have v2:E4 (E4 (q0.num.natAbs*(q1.den*q2.den)) (q1.num.natAbs*(q0.den*q2.den))) (q2.num.natAbs*(q0.den*q1.den))∣(q2.num*((q0.den:Int)*(q1.den:Int))).natAbs:=by rw[a2];exact E5 _ _
 generalize E4 (E4 (q0.num.natAbs*(q1.den*q2.den)) (q1.num.natAbs*(q0.den*q2.den))) (q2.num.natAbs*(q0.den*q1.den))=g at hf hg v0 v1 v2 ⊢;have key:∀ {q:Rat} {D E:Int},D=(q.den:Int)*E->((D:Int):Rat)*(1/((g:Int):Rat))=E7 (unK (qK q0 q1 q2) 3) (ovK (qK q0 q1 q2) 3)->g∣(q.num*E).natAbs->E7 (unK (qK q0 q1 q2) 3) (ovK (qK q0 q1 q2) 3)*q=((q.num*E/(g:Int):Int):Rat):=by
  intro q D E hD hF hv;obtain⟨m,hm⟩:=Int.ofNat_dvd_left.2 hv;have hg':((g:Int):Rat)≠0:=by
   intro e;have:=Rat.intCast_inj.1 (show((g:Int):Rat)=((0:Int):Rat)from e);omega
  have h1:=WY hD;rw[hm,Int.mul_ediv_cancel_left _ (by omega:(g:Int)≠0),←hF];rw[hm,Rat.intCast_mul]at h1
  grind
 exact⟨key d0 hf v0,key d1 hf v1,key d2 hf v2⟩
theorem EU{q0 q1 q2:Rat}{k:Nat}(f:Few3 k q0 q1 q2)(ho:0<ovK (qK q0 q1 q2) 3):Few3 (k+(k+k)+1) (E7 (unK (qK q0 q1 q2) 3) (ovK (qK q0 q1 q2) 3)*q0) (E7 (unK (qK q0 q1 q2) 3) (ovK (qK q0 q1 q2) 3)*q1) (E7 (unK (qK q0 q1 q2) 3) (ovK (qK q0 q1 q2) 3)*q2):=by
 obtain⟨e0,e1,e2⟩:=VG ho;rw[e0,e1,e2];have kd:∀ {q:Rat},Few q k->((q.den:Int)).natAbs<ten k:=fun h=>by rw[Int.natAbs_natCast];exact h.d
 have le:∀(z:Int) (g:Nat),(z/(g:Int)).natAbs<=z.natAbs:=fun z g=>Int.natAbs_ediv_le_natAbs z g;exact⟨VW (EZ (le _ _) (QG f.x.n (QG (kd f.y) (kd f.z)))),VW (EZ (le _ _) (QG f.y.n (QG (kd f.x) (kd f.z)))),VW (EZ (le _ _) (QG f.z.n (QG (kd f.x) (kd f.y))))⟩
theorem Gd{q0 q1 q2:Rat}(hi:q0.den=1/\q1.den=1/\q2.den=1)(ho:0<ovK (qK q0 q1 q2) 3):E7 (unK (qK q0 q1 q2) 3) (ovK (qK q0 q1 q2) 3)*q0=((q0.num/((E4 (E4 q0.num.natAbs q1.num.natAbs) q2.num.natAbs:Nat):Int):Int):Rat)/\E7 (unK (qK q0 q1 q2) 3) (ovK (qK q0 q1 q2) 3)*q1=((q1.num/((E4 (E4 q0.num.natAbs q1.num.natAbs) q2.num.natAbs:Nat):Int):Int):Rat)/\E7 (unK (qK q0 q1 q2) 3) (ovK (qK q0 q1 q2) 3)*q2=((q2.num/((E4 (E4 q0.num.natAbs q1.num.natAbs) q2.num.natAbs:Nat):Int):Int):Rat):=by
 obtain⟨i0,i1,i2⟩:=hi;obtain⟨e0,e1,e2⟩:=VG ho;rw[e0,e1,e2,i0,i1,i2];simp
theorem EL(x0 x1 x2:R4)(q0 q1 q2:Rat)(k:Nat)(w:JW)(h:VecV w x0 x1 x2 q0 q1 q2)(f:Few3 k q0 q1 q2)(hk:3*k+1<=300)(hz:Xv q0 q1 q2=false)(hg:Good w) :
  Calls Tryz.prog 49 #[Jw x0 x1 x2] w (Vi (E7 (unK (qK q0 q1 q2) 3) (ovK (qK q0 q1 q2) 3)*q0) (E7 (unK (qK q0 q1 q2) 3) (ovK (qK q0 q1 q2) 3)*q1) (E7 (unK (qK q0 q1 q2) 3) (ovK (qK q0 q1 q2) 3)*q2) w):=by
 have ho:=KT hz;have hc:cmpV q0 q1 q2 0 0 0≠0:=by
  unfold Xv at hz;exact beq_eq_false_iff_ne.1 hz
 by_cases hi:IsI q0/\IsI q1/\IsI q2
 ·by_cases hm:q0.num=-9223372036854775808\/q1.num=-9223372036854775808\/q2.num=-9223372036854775808
  ·exact Xx x0 x1 x2 q0 q1 q2 k w h f hk hc (.inr ⟨hi,hm⟩) (by omega) hg
  ·obtain⟨i0,i1,i2⟩:=hi;have b:∀ {q:Rat},IsI q->q.num≠-9223372036854775808->q.num.natAbs<=9223372036854775807:=fun h hn=>by
    have h1:=h.2.1;have h2:=h.2.2;omega
   have e:=Gd ⟨i0.1,i1.1,i2.1⟩ ho;rw[ovK3]at ho;rw[e.1,e.2.1,e.2.2];exact OC x0 x1 x2 q0 q1 q2 _ w h (f.mid (by omega)) hc ⟨i0,i1,i2⟩ (b i0 fun e=>hm (.inl e)) (b i1 fun e=>hm (.inr (.inl e))) (b i2 fun e=>hm (.inr (.inr e))) rfl ho
 ·exact Xx x0 x1 x2 q0 q1 q2 k w h f hk hc (.inl hi) (by omega) hg
theorem Et(x0 x1 x2:R4)(q0 q1 q2:Rat)(w:JW)(h:VecV w x0 x1 x2 q0 q1 q2)(m:Mid3 q0 q1 q2)(hz:Xv q0 q1 q2=true) :
  Calls Tryz.prog 49 #[Jw x0 x1 x2] w fun e w'=>∃r0 r1 r2:R4,e= .returned (.tuple #[Jw r0 r1 r2,Ji Jl 19])/\(r0=Jm/\r1=Jm/\r2=Jm)/\Below w.heap.size w w':=by
 have kb:=((E9 w.heap.size w).alloc (E6 _) (Jc #[Ji Jl x0.1,Jp x0.2.1,Ji Jl x0.2.2.1,Jp x0.2.2.2,Ji Jl x1.1,Jp x1.2.1,Ji Jl x1.2.2.1,Jp x1.2.2.2,Ji Jl x2.1,Jp x2.2.1,Ji Jl x2.2.2.1,Jp x2.2.2.2] 35)).alloc (by simp) (Jc #[Ji Jl 0,Jp Jn,Ji Jl 0,Jp Jn,Ji Jl 0,Jp Jn,Ji Jl 0,Jp Jn,Ji Jl 0,Jp Jn,Ji Jl 0,Jp Jn] 35);have C0:=(JE w x0 x1 x2).keep ((E9 _ _).alloc (E6 _) (Jc #[Ji Jl 0,Jp Jn,Ji Jl 0,Jp Jn,Ji Jl 0,Jp Jn,Ji Jl 0,Jp Jn,Ji Jl 0,Jp Jn,Ji Jl 0,Jp Jn] 35));have C2:=JE (w.alloc (Jc #[Ji Jl x0.1,Jp x0.2.1,Ji Jl x0.2.2.1,Jp x0.2.2.2,Ji Jl x1.1,Jp x1.2.1,Ji Jl x1.2.2.1,Jp x1.2.2.2,Ji Jl x2.1,Jp x2.2.1,Ji Jl x2.2.2.1,Jp x2.2.2.2] 35)) Jm Jm Jm;simp only[EY]at C2;have HZ:=U0 x0 x1 x2 q0 q1 q2 _ (h.keep kb) m;rw[show(cmpV q0 q1 q2 0 0 0 ==0)=true from hz]at HZ;obtain⟨W,hW⟩:∃u,(w.alloc (Jc #[Ji Jl x0.1,Jp x0.2.1,Ji Jl x0.2.2.1,Jp x0.2.2.2,Ji Jl x1.1,Jp x1.2.1,Ji Jl x1.2.2.1,Jp x1.2.2.2,Ji Jl x2.1,Jp x2.2.1,Ji Jl x2.2.2.1,Jp x2.2.2.2] 35)).alloc (Jc #[Ji Jl 0,Jp Jn,Ji Jl 0,Jp Jn,Ji Jl 0,Jp Jn,Ji Jl 0,Jp Jn,Ji Jl 0,Jp Jn,Ji Jl 0,Jp Jn] 35)=u:=⟨_,rfl⟩;simp only[Jm]at C2;rw[hW]at kb C0 C2 HZ;have HZ:=Lh HZ;obtain⟨m0,m1,m2,m3,m4,m5,m6,m7,m8,m9,m10,m11⟩:=Jh.r12 (p:=w.heap.size) C0;have R:=Lh (show Jh W (w.heap.size+1) (flat [Jm,Jm,Jm])from C2);have Kb:=Lh kb;clear h m kb C0 C2 hz;unfold Jw at *
 go_enter Tryz.func49,Tryz.ntmps49;go_wp2_with fail
 try simp only[hW]
 refine HZ.out.mono ?_;rintro e w1⟨rfl,h1⟩;have R:=Lh (R.out.keep h1);have K1:=Lh (Jd Kb.out h1);clear hW HZ h1 m0 m1 m2 m3 m4 m5 m6 m7 m8 m9 m10 m11;have Hf:=Lh (JV K1.out (show w.heap.size<=w.heap.size+1 by omega) Jm Jm Jm);obtain⟨z0,z1,z2,z3,z4,z5,z6,z7,z8,z9,z10,z11⟩:=Jh.q12 (p:=w.heap.size+1) R.out;obtain⟨f0,f1,f2,f3,f4,f5,f6,f7,f8,f9,f10,f11⟩:=Jh.z12 (p:=w.heap.size+1) R.out;go_wp2;exact bodyPost_ret (v:= .tuple #[.agg #[Ji Jl 0,Jp Jn,Ji Jl 0,Jp Jn,Ji Jl 0,Jp Jn,Ji Jl 0,Jp Jn,Ji Jl 0,Jp Jn,Ji Jl 0,Jp Jn],Ji Jl 19]) (by simp[results,Tryz.results49,go_sem,z0,z1,z2,z3,z4,z5,z6,z7,z8,z9,z10,z11]) rfl ⟨Jm,Jm,Jm,rfl,⟨rfl,rfl,rfl⟩,Hf.out⟩
theorem EP(x0 x1 x2 y0 y1 y2:R4)(p0 p1 p2 q0 q1 q2:Rat)(w:JW)(h:VecV w x0 x1 x2 p0 p1 p2)(h':VecV w y0 y1 y2 q0 q1 q2)(m:Mid3 p0 p1 p2)(m':Mid3 q0 q1 q2)(hg:Good w) :
  Calls Tryz.prog 33 #[Jw x0 x1 x2,Jw y0 y1 y2] w (YX (p0+q0) (p1+q1) (p2+q2) w):=by
 have kb:=(((E9 w.heap.size w).alloc (E6 _) (Jc #[Ji Jl x0.1,Jp x0.2.1,Ji Jl x0.2.2.1,Jp x0.2.2.2,Ji Jl x1.1,Jp x1.2.1,Ji Jl x1.2.2.1,Jp x1.2.2.2,Ji Jl x2.1,Jp x2.2.1,Ji Jl x2.2.2.1,Jp x2.2.2.2] 35)).alloc (by simp) (Jc #[Ji Jl y0.1,Jp y0.2.1,Ji Jl y0.2.2.1,Jp y0.2.2.2,Ji Jl y1.1,Jp y1.2.1,Ji Jl y1.2.2.1,Jp y1.2.2.2,Ji Jl y2.1,Jp y2.2.1,Ji Jl y2.2.2.1,Jp y2.2.2.2] 35)).alloc (by simp;omega) (Jc #[Ji Jl 0,Jp Jn,Ji Jl 0,Jp Jn,Ji Jl 0,Jp Jn,Ji Jl 0,Jp Jn,Ji Jl 0,Jp Jn,Ji Jl 0,Jp Jn] 35);have C0:=((JE w x0 x1 x2).keep ((E9 _ _).alloc (E6 _) (Jc #[Ji Jl y0.1,Jp y0.2.1,Ji Jl y0.2.2.1,Jp y0.2.2.2,Ji Jl y1.1,Jp y1.2.1,Ji Jl y1.2.2.1,Jp y1.2.2.2,Ji Jl y2.1,Jp y2.2.1,Ji Jl y2.2.2.1,Jp y2.2.2.2] 35))).keep ((E9 _ _).alloc (E6 _) (Jc #[Ji Jl 0,Jp Jn,Ji Jl 0,Jp Jn,Ji Jl 0,Jp Jn,Ji Jl 0,Jp Jn,Ji Jl 0,Jp Jn,Ji Jl 0,Jp Jn] 35));have C1:=(JE (w.alloc (Jc #[Ji Jl x0.1,Jp x0.2.1,Ji Jl x0.2.2.1,Jp x0.2.2.2,Ji Jl x1.1,Jp x1.2.1,Ji Jl x1.2.2.1,Jp x1.2.2.2,Ji Jl x2.1,Jp x2.2.1,Ji Jl x2.2.2.1,Jp x2.2.2.2] 35)) y0 y1 y2).keep ((E9 _ _).alloc (E6 _) (Jc #[Ji Jl 0,Jp Jn,Ji Jl 0,Jp Jn,Ji Jl 0,Jp Jn,Ji Jl 0,Jp Jn,Ji Jl 0,Jp Jn,Ji Jl 0,Jp Jn] 35));have C2:=JE ((w.alloc (Jc #[Ji Jl x0.1,Jp x0.2.1,Ji Jl x0.2.2.1,Jp x0.2.2.2,Ji Jl x1.1,Jp x1.2.1,Ji Jl x1.2.2.1,Jp x1.2.2.2,Ji Jl x2.1,Jp x2.2.1,Ji Jl x2.2.2.1,Jp x2.2.2.2] 35)).alloc (Jc #[Ji Jl y0.1,Jp y0.2.1,Ji Jl y0.2.2.1,Jp y0.2.2.2,Ji Jl y1.1,Jp y1.2.1,Ji Jl y1.2.2.1,Jp y1.2.2.2,Ji Jl y2.1,Jp y2.2.1,Ji Jl y2.2.2.1,Jp y2.2.2.2] 35)) Jm Jm Jm;simp only[EY]at C1 C2
 obtain⟨W,hW⟩:∃u,((w.alloc (Jc #[Ji Jl x0.1,Jp x0.2.1,Ji Jl x0.2.2.1,Jp x0.2.2.2,Ji Jl x1.1,Jp x1.2.1,Ji Jl x1.2.2.1,Jp x1.2.2.2,Ji Jl x2.1,Jp x2.2.1,Ji Jl x2.2.2.1,Jp x2.2.2.2] 35)).alloc (Jc #[Ji Jl y0.1,Jp y0.2.1,Ji Jl y0.2.2.1,Jp y0.2.2.2,Ji Jl y1.1,Jp y1.2.1,Ji Jl y1.2.2.1,Jp y1.2.2.2,Ji Jl y2.1,Jp y2.2.1,Ji Jl y2.2.2.1,Jp y2.2.2.2] 35)).alloc (Jc #[Ji Jl 0,Jp Jn,Ji Jl 0,Jp Jn,Ji Jl 0,Jp Jn,Ji Jl 0,Jp Jn,Ji Jl 0,Jp Jn,Ji Jl 0,Jp Jn] 35)=u:=⟨_,rfl⟩;simp only[Jm]at C2;rw[hW]at kb C0 C1 C2;have HS:=VU x0 x1 x2 y0 y1 y2 (p0+q0) (p1+q1) (p2+q2) W
  (fun w' hb=>Yr _ _ _ _ _ _ _ _ p0 q0 w' ((h.x.keep kb).keep hb) ((h'.x.keep kb).keep hb) m.x.n m.x.d m'.x.n m'.x.d ((hg.below kb).below hb))
  (fun w' hb=>Yr _ _ _ _ _ _ _ _ p1 q1 w' ((h.y.keep kb).keep hb) ((h'.y.keep kb).keep hb) m.y.n m.y.d m'.y.n m'.y.d ((hg.below kb).below hb))
  (fun w' hb=>Yr _ _ _ _ _ _ _ _ p2 q2 w' ((h.z.keep kb).keep hb) ((h'.z.keep kb).keep hb) m.z.n m.z.d m'.z.n m'.z.d ((hg.below kb).below hb))
 generalize p0+q0=z0 at *
 generalize p1+q1=z1 at *
 generalize p2+q2=z2 at *
 have HS:=Lh HS;obtain⟨m0,m1,m2,m3,m4,m5,m6,m7,m8,m9,m10,m11⟩:=Jh.r12 (p:=w.heap.size) C0;obtain⟨n0,n1,n2,n3,n4,n5,n6,n7,n8,n9,n10,n11⟩:=Jh.r12 (p:=w.heap.size+1) C1;have R:=Lh (show Jh W (w.heap.size+1+1) (flat [Jm,Jm,Jm])from C2);have Kb:=Lh kb;clear h h' m m' hg kb C0 C1 C2;unfold Jw at *
 go_enter Tryz.func33,Tryz.ntmps33;go_wp2_with fail
 try simp only[hW]
 refine HS.out.mono ?_;rintro e w1⟨x0,x1,x2,rfl,hv,h1⟩;have R:=Lh (R.out.keep h1);have K1:=Lh (Jd Kb.out h1);unfold Jw;clear m0 m1 m2 m3 m4 m5 m6 m7 m8 m9 m10 m11 n0 n1 n2 n3 n4 n5 n6 n7 n8 n9 n10 n11;have Hv:=Lh (hv.wrote R.out (JA w1 _ x0 x1 x2).1 (JA w1 _ x0 x1 x2).2);have Hf:=Lh (JV K1.out (show w.heap.size<=w.heap.size+1+1 by omega) x0 x1 x2);obtain⟨z0,z1,z2,z3,z4,z5,z6,z7,z8,z9,z10,z11⟩:=Jh.q12 (p:=w.heap.size+1+1) R.out;obtain⟨f0,f1,f2,f3,f4,f5,f6,f7,f8,f9,f10,f11⟩:=Jh.z12 (p:=w.heap.size+1+1) R.out;clear hv h1;go_wp2;exact bodyPost_ret (v:=Jw x0 x1 x2) (by simp[Jw,results,Tryz.results33,go_sem,z0,z1,z2,z3,z4,z5,z6,z7,z8,z9,z10,z11]) rfl ⟨x0,x1,x2,rfl,Hv.out,Hf.out⟩
theorem EN(x0 x1 x2 y0 y1 y2:R4)(p0 p1 p2 q0 q1 q2:Rat)(w:JW)(h:VecV w x0 x1 x2 p0 p1 p2)(h':VecV w y0 y1 y2 q0 q1 q2)(m:Mid3 p0 p1 p2)(m':Mid3 q0 q1 q2)(hg:Good w) :
  Calls Tryz.prog 54 #[Jw x0 x1 x2,Jw y0 y1 y2] w (YX (p0-q0) (p1-q1) (p2-q2) w):=by
 have kb:=(((E9 w.heap.size w).alloc (E6 _) (Jc #[Ji Jl x0.1,Jp x0.2.1,Ji Jl x0.2.2.1,Jp x0.2.2.2,Ji Jl x1.1,Jp x1.2.1,Ji Jl x1.2.2.1,Jp x1.2.2.2,Ji Jl x2.1,Jp x2.2.1,Ji Jl x2.2.2.1,Jp x2.2.2.2] 35)).alloc (by simp) (Jc #[Ji Jl y0.1,Jp y0.2.1,Ji Jl y0.2.2.1,Jp y0.2.2.2,Ji Jl y1.1,Jp y1.2.1,Ji Jl y1.2.2.1,Jp y1.2.2.2,Ji Jl y2.1,Jp y2.2.1,Ji Jl y2.2.2.1,Jp y2.2.2.2] 35)).alloc (by simp;omega) (Jc #[Ji Jl 0,Jp Jn,Ji Jl 0,Jp Jn,Ji Jl 0,Jp Jn,Ji Jl 0,Jp Jn,Ji Jl 0,Jp Jn,Ji Jl 0,Jp Jn] 35);have C0:=((JE w x0 x1 x2).keep ((E9 _ _).alloc (E6 _) (Jc #[Ji Jl y0.1,Jp y0.2.1,Ji Jl y0.2.2.1,Jp y0.2.2.2,Ji Jl y1.1,Jp y1.2.1,Ji Jl y1.2.2.1,Jp y1.2.2.2,Ji Jl y2.1,Jp y2.2.1,Ji Jl y2.2.2.1,Jp y2.2.2.2] 35))).keep ((E9 _ _).alloc (E6 _) (Jc #[Ji Jl 0,Jp Jn,Ji Jl 0,Jp Jn,Ji Jl 0,Jp Jn,Ji Jl 0,Jp Jn,Ji Jl 0,Jp Jn,Ji Jl 0,Jp Jn] 35));have C1:=(JE (w.alloc (Jc #[Ji Jl x0.1,Jp x0.2.1,Ji Jl x0.2.2.1,Jp x0.2.2.2,Ji Jl x1.1,Jp x1.2.1,Ji Jl x1.2.2.1,Jp x1.2.2.2,Ji Jl x2.1,Jp x2.2.1,Ji Jl x2.2.2.1,Jp x2.2.2.2] 35)) y0 y1 y2).keep ((E9 _ _).alloc (E6 _) (Jc #[Ji Jl 0,Jp Jn,Ji Jl 0,Jp Jn,Ji Jl 0,Jp Jn,Ji Jl 0,Jp Jn,Ji Jl 0,Jp Jn,Ji Jl 0,Jp Jn] 35));have C2:=JE ((w.alloc (Jc #[Ji Jl x0.1,Jp x0.2.1,Ji Jl x0.2.2.1,Jp x0.2.2.2,Ji Jl x1.1,Jp x1.2.1,Ji Jl x1.2.2.1,Jp x1.2.2.2,Ji Jl x2.1,Jp x2.2.1,Ji Jl x2.2.2.1,Jp x2.2.2.2] 35)).alloc (Jc #[Ji Jl y0.1,Jp y0.2.1,Ji Jl y0.2.2.1,Jp y0.2.2.2,Ji Jl y1.1,Jp y1.2.1,Ji Jl y1.2.2.1,Jp y1.2.2.2,Ji Jl y2.1,Jp y2.2.1,Ji Jl y2.2.2.1,Jp y2.2.2.2] 35)) Jm Jm Jm;simp only[EY]at C1 C2
 obtain⟨W,hW⟩:∃u,((w.alloc (Jc #[Ji Jl x0.1,Jp x0.2.1,Ji Jl x0.2.2.1,Jp x0.2.2.2,Ji Jl x1.1,Jp x1.2.1,Ji Jl x1.2.2.1,Jp x1.2.2.2,Ji Jl x2.1,Jp x2.2.1,Ji Jl x2.2.2.1,Jp x2.2.2.2] 35)).alloc (Jc #[Ji Jl y0.1,Jp y0.2.1,Ji Jl y0.2.2.1,Jp y0.2.2.2,Ji Jl y1.1,Jp y1.2.1,Ji Jl y1.2.2.1,Jp y1.2.2.2,Ji Jl y2.1,Jp y2.2.1,Ji Jl y2.2.2.1,Jp y2.2.2.2] 35)).alloc (Jc #[Ji Jl 0,Jp Jn,Ji Jl 0,Jp Jn,Ji Jl 0,Jp Jn,Ji Jl 0,Jp Jn,Ji Jl 0,Jp Jn,Ji Jl 0,Jp Jn] 35)=u:=⟨_,rfl⟩;simp only[Jm]at C2;rw[hW]at kb C0 C1 C2;have HS:=VS x0 x1 x2 y0 y1 y2 (p0-q0) (p1-q1) (p2-q2) W
  (fun w' hb=>YK _ _ _ _ _ _ _ _ p0 q0 w' ((h.x.keep kb).keep hb) ((h'.x.keep kb).keep hb) m.x.n m.x.d m'.x.n m'.x.d ((hg.below kb).below hb))
  (fun w' hb=>YK _ _ _ _ _ _ _ _ p1 q1 w' ((h.y.keep kb).keep hb) ((h'.y.keep kb).keep hb) m.y.n m.y.d m'.y.n m'.y.d ((hg.below kb).below hb))
  (fun w' hb=>YK _ _ _ _ _ _ _ _ p2 q2 w' ((h.z.keep kb).keep hb) ((h'.z.keep kb).keep hb) m.z.n m.z.d m'.z.n m'.z.d ((hg.below kb).below hb))
 generalize p0-q0=z0 at *
 generalize p1-q1=z1 at *
 generalize p2-q2=z2 at *
 have HS:=Lh HS;obtain⟨m0,m1,m2,m3,m4,m5,m6,m7,m8,m9,m10,m11⟩:=Jh.r12 (p:=w.heap.size) C0;obtain⟨n0,n1,n2,n3,n4,n5,n6,n7,n8,n9,n10,n11⟩:=Jh.r12 (p:=w.heap.size+1) C1;have R:=Lh (show Jh W (w.heap.size+1+1) (flat [Jm,Jm,Jm])from C2);have Kb:=Lh kb;clear h h' m m' hg kb C0 C1 C2;unfold Jw at *
 go_enter Tryz.func54,Tryz.ntmps54;go_wp2_with fail
 try simp only[hW]
 refine HS.out.mono ?_;rintro e w1⟨x0,x1,x2,rfl,hv,h1⟩;have R:=Lh (R.out.keep h1);have K1:=Lh (Jd Kb.out h1);unfold Jw;clear m0 m1 m2 m3 m4 m5 m6 m7 m8 m9 m10 m11 n0 n1 n2 n3 n4 n5 n6 n7 n8 n9 n10 n11;have Hv:=Lh (hv.wrote R.out (JA w1 _ x0 x1 x2).1 (JA w1 _ x0 x1 x2).2);have Hf:=Lh (JV K1.out (show w.heap.size<=w.heap.size+1+1 by omega) x0 x1 x2);obtain⟨z0,z1,z2,z3,z4,z5,z6,z7,z8,z9,z10,z11⟩:=Jh.q12 (p:=w.heap.size+1+1) R.out;obtain⟨f0,f1,f2,f3,f4,f5,f6,f7,f8,f9,f10,f11⟩:=Jh.z12 (p:=w.heap.size+1+1) R.out;clear hv h1;go_wp2;exact bodyPost_ret (v:=Jw x0 x1 x2) (by simp[Jw,results,Tryz.results54,go_sem,z0,z1,z2,z3,z4,z5,z6,z7,z8,z9,z10,z11]) rfl ⟨x0,x1,x2,rfl,Hv.out,Hf.out⟩
def VF(Z:Nat->Rat):Nat->Rat
 | 0=>0
 | k+1=>VF Z k+Z k
def En(w1:JW)(p n:Nat)(Z:Nat->Rat)(v:Value)(wr:JW):Prop:=
 ∃(k:Nat) (x:Int) (X:Option Addr) (y:Int) (Y:Option Addr),k<=n/\v=Ji Jl (k:Nat)/\Jh wr p [Ji Jl x,Jp X,Ji Jl y,Jp Y]/\RatV wr x X y Y (VF Z k)/\Below w1.heap.size w1 wr
theorem GV(g n c:Nat)(A B:Nat->Int)(F G:Nat->Option Addr)(Z:Nat->Rat)(w:JW)(hn:n<1000)(hnc:n<=c)(hg:g<w.heap.size)
  (hcells:∀i,i<n->w.cell? ⟨g,i*4,Jn⟩=some (Ji Jl (A i))/\w.cell? ⟨g,i*4+1,Jn⟩=some (Jp (F i))/\w.cell? ⟨g,i*4+2,Jn⟩=some (Ji Jl (B i))/\w.cell? ⟨g,i*4+3,Jn⟩=some (Jp (G i))/\RatV w (A i) (F i) (B i) (G i) (Z i))
  (hp:∀i,i<=n->Few (VF Z i) 900) (hz:∀i,i<n->Few (Z i) 900) (hgd:Good w) :
  Calls Tryz.prog 37 #[.slice (some ⟨g,0,Jn⟩) n c] w (Qo (VF Z n) w):=by
 have k1:=(E9 w.heap.size w).alloc (E6 _) (Jc #[Ji Jl 0,Jp Jn,Ji Jl 0,Jp Jn] 31);have Hr:=Lh (Jh.new w #[Ji Jl 0,Jp Jn,Ji Jl 0,Jp Jn] 31);have Hh:=Lh (Jh.new (w.alloc (Jc #[Ji Jl 0,Jp Jn,Ji Jl 0,Jp Jn] 31)) #[Ji Jl 0,Jp Jn,Ji Jl 0,Jp Jn] 31);simp only[EY]at Hh;have K1:=Lh k1;have Hc:=Lh hcells;have Hp:=Lh hp;have Hz:=Lh hz;have Hw:=Lh (fun w' (hb:Below w.heap.size w w')=>hgd.below hb);clear k1 hcells hp hz hgd;go_enter Tryz.func37,Tryz.ntmps37;go_wp2_with fail
 go_loopw [8] (fun v wr=>En (w.alloc (Jc #[Ji Jl 0,Jp Jn,Ji Jl 0,Jp Jn] 31)) (w.heap.size+1) n Z v wr) (fun v _=>n-(intOf v).toNat)
 case atStart=>exact⟨0,0,Jn,0,Jn,Nat.zero_le _,rfl,Hh.out,Ul _,(E9 _ _).alloc (E6 _) _⟩
 case round=>
  obtain⟨k,x,X,y,Y,hk,rfl,hh,hi,hb⟩:=hrel;have HH:=Lh hh;have Hi:=Lh hi;have Hb:=Lh hb;have KB:=Lh (Jd K1.out hb);have hsz:=hh.lt;clear hh hi hb;by_cases hlt:k<n
  ·obtain⟨e0,e1,e2,e3,er⟩:=Hc.out k hlt;have c0:=(KB.out.cell (p:=⟨g,k*4,Jn⟩) hg).trans e0;have c1:=(KB.out.cell (p:=⟨g,k*4+1,Jn⟩) hg).trans e1;have c2:=(KB.out.cell (p:=⟨g,k*4+2,Jn⟩) hg).trans e2;have c3:=(KB.out.cell (p:=⟨g,k*4+3,Jn⟩) hg).trans e3;have hi2:=er.keep KB.out;have h0:=HH.out.c0;have h1:=HH.out.c1;have h2:=HH.out.c2;have h3:=HH.out.c3;have f0:=HH.out.fz 0;have f1:=HH.out.fz 1;have f2:=HH.out.fz 2;have f3:=HH.out.fz 3;have kk:=(E9 wr.heap.size wr).alloc (E6 _) (Jc #[Ji Jl (A k),Jp (F k),Ji Jl (B k),Jp (G k)] 31);have H2:=Lh (HH.out.keep kk);have B2:=Lh (Jd Hb.out kk);have P1:=Hp.out k hk;have Z1:=Hz.out k hlt;have Hadd:=Lh (Yr x X y Y (A k) (F k) (B k) (G k) _ _ _ (Hi.out.keep kk) (hi2.keep kk) (P1.n47 (by decide)) (P1.d47 (by decide)) (Z1.n47 (by decide)) (Z1.d47 (by decide)) (Hw.out _ (Jd KB.out kk)));clear e0 e1 e2 e3 er hi2 kk P1 Z1;go_wp2_with fail
   refine Hadd.out.mono ?_;rintro e w3⟨x',X',y',Y',rfl,hi3,g3⟩;have H3:=Lh (H2.out.keep g3);have H3s:=Lh (H3.out.put4 (Ji Jl x') (Jp X') (Ji Jl y') (Jp Y'));have Hi3:=Lh (hi3.wrote H3.out (by rfl) (Jk w3 (w.heap.size+1) (Ji Jl x') (Jp X') (Ji Jl y') (Jp Y')).1 (Jk _ _ _ _ _ _).2);have B3:=Lh (JC (Jd B2.out g3) (show(w.alloc (Jc #[Ji Jl 0,Jp Jn,Ji Jl 0,Jp Jn] 31)).heap.size<=w.heap.size+1 by simp) (Ji Jl x') (Jp X') (Ji Jl y') (Jp Y'));clear h0 h1 h2 h3 f0 f1 f2 f3 g3 hi3 c0 c1 c2 c3;have f0:=H3.out.fz 0;have f1:=H3.out.fz 1;have f2:=H3.out.fz 2;have f3:=H3.out.fz 3;have h0:=H3.out.c0;have h1:=H3.out.c1;have h2:=H3.out.c2;have h3:=H3.out.c3;go_wp2_with fail
   exact⟨⟨k+1,x',X',y',Y',hlt,by go_num,H3s.out,Hi3.out,B3.out⟩,by simp[intOf] <;> omega⟩
  ·obtain rfl:k=n:=by omega
   have c0:=HH.out.c0;have c1:=HH.out.c1;have c2:=HH.out.c2;have c3:=HH.out.c3;have R2:=Lh (Hr.out.keep Hb.out);have k0:=R2.out.c0;have k1:=R2.out.c1;have k2:=R2.out.c2;have k3:=R2.out.c3;have f0:=R2.out.fz 0;have f1:=R2.out.fz 1;have f2:=R2.out.fz 2;have f3:=R2.out.fz 3;have Hi2:=Lh (Hi.out.wrote R2.out (by rfl) (Jk wr w.heap.size (Ji Jl x) (Jp X) (Ji Jl y) (Jp Y)).1 (Jk _ _ _ _ _ _).2);have K2:=Lh (JC KB.out (E6 w.heap.size) (Ji Jl x) (Jp X) (Ji Jl y) (Jp Y));go_wp2;exact bodyPost_ret (v:= .agg #[Ji Jl x,Jp X,Ji Jl y,Jp Y]) (by simp[results,Tryz.results37,go_sem,k0,k1,k2,k3]) rfl ⟨x,X,y,Y,rfl,Hi2.out,K2.out⟩
theorem ES(w:JW):Calls Tryz.prog 37 #[.slice Jn 0 0] w fun e w'=>e= .returned (.agg #[Ji Jl 0,Jp Jn,Ji Jl 0,Jp Jn])/\Below w.heap.size w w':=by
 go_enter Tryz.func37,Tryz.ntmps37;go_wp2_with fail
 refine wp_loop_rounds 1 ?_;rw[rounds_succ];go_wp2;exact bodyPost_ret (v:= .agg #[Ji Jl 0,Jp Jn,Ji Jl 0,Jp Jn]) (by simp[results,Tryz.results37,go_sem]) rfl ⟨rfl,by repeat (first|exact E9 _ _|refine Below.setCell ?_ (by first|exact E6 _|(simp <;> omega)) _|refine Below.alloc ?_ (by first|exact E6 _|(simp <;> omega)) _)⟩
def three(p q r:Rat):Nat->Rat
 | 0=>p
 | 1=>q
 | _=>r
def Yg(a b c:Int):Nat->Int
 | 0=>a
 | 1=>b
 | _=>c
def Yh(a b c:Option Addr):Nat->Option Addr
 | 0=>a
 | 1=>b
 | _=>c
theorem XJ(p q r:Rat):VF (three p q r) 3=p+q+r:=by
 show 0+p+q+r=_;rw[Rat.zero_add]
theorem XK(p q r:Rat):VF (three p q r) 1=p:=by
 show 0+p=_;rw[Rat.zero_add]
theorem Ew(a:Int)(P:Option Addr)(b:Int)(Q:Option Addr)(c:Int)(U:Option Addr)(d:Int)(V:Option Addr)(f:Int)(M:Option Addr)(g:Int)(N:Option Addr){p q r:Rat}(w:JW)(h:RatV (w.alloc (Jc #[Ji Jl a,Jp P,Ji Jl b,Jp Q,Ji Jl c,Jp U,Ji Jl d,Jp V,Ji Jl f,Jp M,Ji Jl g,Jp N] 31)) a P b Q p)(h':RatV (w.alloc (Jc #[Ji Jl a,Jp P,Ji Jl b,Jp Q,Ji Jl c,Jp U,Ji Jl d,Jp V,Ji Jl f,Jp M,Ji Jl g,Jp N] 31)) c U d V q)(h2:RatV (w.alloc (Jc #[Ji Jl a,Jp P,Ji Jl b,Jp Q,Ji Jl c,Jp U,Ji Jl d,Jp V,Ji Jl f,Jp M,Ji Jl g,Jp N] 31)) f M g N r)(hp:Few p 40)(hq:Few q 40)(hr:Few r 40)(hg:Good (w.alloc (Jc #[Ji Jl a,Jp P,Ji Jl b,Jp Q,Ji Jl c,Jp U,Ji Jl d,Jp V,Ji Jl f,Jp M,Ji Jl g,Jp N] 31))) :
  Calls Tryz.prog 37 #[.slice (some ⟨w.heap.size,0,Jn⟩) 3 3] (w.alloc (Jc #[Ji Jl a,Jp P,Ji Jl b,Jp Q,Ji Jl c,Jp U,Ji Jl d,Jp V,Ji Jl f,Jp M,Ji Jl g,Jp N] 31)) (Qo (p+q+r) (w.alloc (Jc #[Ji Jl a,Jp P,Ji Jl b,Jp Q,Ji Jl c,Jp U,Ji Jl d,Jp V,Ji Jl f,Jp M,Ji Jl g,Jp N] 31))):=by
 have h0:=GV w.heap.size 3 3 (Yg a c f) (Yg b d g) (Yh P U M) (Yh Q V N) (three p q r) (w.alloc (Jc #[Ji Jl a,Jp P,Ji Jl b,Jp Q,Ji Jl c,Jp U,Ji Jl d,Jp V,Ji Jl f,Jp M,Ji Jl g,Jp N] 31)) (by decide) (by decide) (by simp) (fun i hi=>by
  match i,hi with
  | 0,_=>exact⟨by simp[go_sem,Yg],by simp[go_sem,Yh],by simp[go_sem,Yg],by simp[go_sem,Yh],h⟩
  | 1,_=>exact⟨by simp[go_sem,Yg],by simp[go_sem,Yh],by simp[go_sem,Yg],by simp[go_sem,Yh],h'⟩
  | 2,_=>exact⟨by simp[go_sem,Yg],by simp[go_sem,Yh],by simp[go_sem,Yg],by simp[go_sem,Yh],h2⟩) (fun i hi=>by
  match i,hi with
  | 0,_=>exact⟨by show 0<ten 900;exact Zb _,by show 1<ten 900;decide +kernel⟩
  | 1,_=>rw[XK];exact hp.up (by decide)
  | 2,_=>show Few (0+p+q) 900;rw[Rat.zero_add];exact(hp.add hq).up (by decide)
  | 3,_=>rw[XJ];exact((hp.add hq).add hr).up (by decide)) (fun i hi=>by
  match i,hi with
  | 0,_=>exact hp.up (by decide)
  | 1,_=>exact hq.up (by decide)
  | 2,_=>exact hr.up (by decide)) hg
 rw[XJ]at h0;exact h0
theorem ER(a:Int)(P:Option Addr)(b:Int)(Q:Option Addr){p:Rat}(w:JW)(h:RatV (w.alloc (Jc #[Ji Jl a,Jp P,Ji Jl b,Jp Q] 31)) a P b Q p)(hp:Few p 40)(hg:Good (w.alloc (Jc #[Ji Jl a,Jp P,Ji Jl b,Jp Q] 31))) :
  Calls Tryz.prog 37 #[.slice (some ⟨w.heap.size,0,Jn⟩) 1 1] (w.alloc (Jc #[Ji Jl a,Jp P,Ji Jl b,Jp Q] 31)) (Qo p (w.alloc (Jc #[Ji Jl a,Jp P,Ji Jl b,Jp Q] 31))):=by
 have h0:=GV w.heap.size 1 1 (Yg a a a) (Yg b b b) (Yh P P P) (Yh Q Q Q) (three p p p) (w.alloc (Jc #[Ji Jl a,Jp P,Ji Jl b,Jp Q] 31)) (by decide) (by decide) (by simp) (fun i hi=>by
  match i,hi with
  | 0,_=>exact⟨by simp[go_sem,Yg],by simp[go_sem,Yh],by simp[go_sem,Yg],by simp[go_sem,Yh],h⟩) (fun i hi=>by
  match i,hi with
  | 0,_=>exact⟨by show 0<ten 900;exact Zb _,by show 1<ten 900;decide +kernel⟩
  | 1,_=>rw[XK];exact hp.up (by decide)) (fun i hi=>by
  match i,hi with
  | 0,_=>exact hp.up (by decide)) hg
 rw[XK]at h0;exact h0
