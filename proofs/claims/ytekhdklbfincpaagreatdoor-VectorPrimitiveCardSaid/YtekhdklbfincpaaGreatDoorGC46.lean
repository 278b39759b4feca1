/- GC46: Vpm Vpr2 -/
import Derived.Test.YtekhdklbfincpaaGreatDoorGC45
import Derived.Test.YtekhdklbfincpaaGreatDoorGC44
import Derived.Test.YtekhdklbfincpaaGreatDoorGC36
import Derived.Test.YtekhdklbfincpaaGreatDoorGC42
set_option maxRecDepth 100000
set_option maxHeartbeats 16000000
namespace Go.Proofs.YtekhdklbfincpaaGreatDoor
open Go.Value renaming string→Js
open Go.Obj renaming cells→Jc
open _root_.Option renaming none→Jn,some→Jo
open _root_.Nat renaming gcd→M0,gcd_dvd_right→M1,gcd_dvd_left→M2,le_refl→M6,lt_of_lt_of_le→M7,mul_assoc→M9
open Go.RowKit.Below renaming refl→M3
open _root_.Int renaming natAbs_natCast→M4
open _root_.Rat renaming divInt→M5,num_intCast→M8
open Go.RowKit
theorem W8{a b c d:Nat}(hab:Nat.Coprime a b)(hcd:Nat.Coprime c d):M0 (a*d) (c*b)=M0 a c*M0 b d:=by
 apply Nat.dvd_antisymm
 ·have g1:M0 (a*d) (c*b)∣a*d:=M2 _ _;have g2:M0 (a*d) (c*b)∣c*b:=M1 _ _;generalize M0 (a*d) (c*b)=g at g1 g2;have h1:g∣M0 g a*M0 g d:=Nat.dvd_trans (Nat.dvd_gcd (Nat.dvd_refl g) g1) (Nat.gcd_mul_right_dvd_mul_gcd g a d);have h2:g∣M0 g c*M0 g b:=Nat.dvd_trans (Nat.dvd_gcd (Nat.dvd_refl g) g2) (Nat.gcd_mul_right_dvd_mul_gcd g c b);have xt:Nat.Coprime (M0 g a) (M0 g b):=Nat.Coprime.coprime_dvd_left (M1 g a) (Nat.Coprime.coprime_dvd_right (M1 g b) hab);have yz:Nat.Coprime (M0 g d) (M0 g c):=Nat.Coprime.coprime_dvd_left (M1 g d) (Nat.Coprime.coprime_dvd_right (M1 g c) hcd.symm);have hx:M0 g a∣M0 g c:=xt.dvd_of_dvd_mul_right (Nat.dvd_trans (M2 g a) h2);have hy:M0 g d∣M0 g b:=yz.dvd_of_dvd_mul_left (Nat.dvd_trans (M2 g d) h2);exact Nat.dvd_trans h1 (Nat.mul_dvd_mul (Nat.dvd_gcd (M1 g a) (Nat.dvd_trans hx (M1 g c))) (Nat.dvd_gcd (Nat.dvd_trans hy (M1 g b)) (M1 g d)))
 ·exact Nat.dvd_gcd (Nat.mul_dvd_mul (M2 a c) (M1 b d)) (Nat.mul_dvd_mul (M1 a c) (M2 b d))
theorem WV(u d:Nat):u*(d/M0 u d)=Nat.lcm u d:=by
 unfold Nat.lcm;rw[Nat.mul_div_assoc _ (M1 u d)]
theorem WI{n0 n1 n2 d0 d1 d2:Nat}(h0:Nat.Coprime n0 d0)(h1:Nat.Coprime n1 d1)(h2:Nat.Coprime n2 d2) :
  d0*d1*d2*M0 (M0 n0 n1) n2=Nat.lcm (Nat.lcm d0 d1) d2*M0 (M0 (n0*(d1*d2)) (n1*(d0*d2))) (n2*(d0*d1)):=by
 have e1:M0 (n0*(d1*d2)) (n1*(d0*d2))=M0 n0 n1*M0 d0 d1*d2:=by
  rw[←M9,←M9,Nat.gcd_mul_right,W8 h0 h1]
 have hc:Nat.Coprime (M0 n0 n1) (Nat.lcm d0 d1):=by
  have a:Nat.Coprime (M0 n0 n1) d0:=Nat.Coprime.coprime_dvd_left (M2 n0 n1) h0;have b:Nat.Coprime (M0 n0 n1) d1:=Nat.Coprime.coprime_dvd_left (M1 n0 n1) h1;exact Nat.Coprime.coprime_dvd_right (Nat.lcm_dvd (Nat.dvd_mul_right d0 d1) (Nat.dvd_mul_left d1 d0)) (Nat.Coprime.mul_right a b)
 have e2:M0 d0 d1*Nat.lcm d0 d1=d0*d1:=Nat.gcd_mul_lcm d0 d1;have e3:=W8 hc h2;have e4:M0 (Nat.lcm d0 d1) d2*Nat.lcm (Nat.lcm d0 d1) d2=Nat.lcm d0 d1*d2:=Nat.gcd_mul_lcm _ _;rw[e1,←e2];generalize M0 n0 n1=G at *
 generalize M0 d0 d1=g at *
 generalize Nat.lcm d0 d1=L at *
 have e5:M0 (G*g*d2) (n2*(g*L))=g*(M0 G n2*M0 L d2):=by
  rw[←e3,←Nat.gcd_mul_left]
  congr 1 <;> simp[Nat.mul_comm,Nat.mul_left_comm]
 rw[e5]
 calc g*L*d2*M0 G n2=g*M0 G n2*(L*d2):=by ac_rfl
  _=g*M0 G n2*(M0 L d2*Nat.lcm L d2):=by rw[e4]
  _=_:=by ac_rfl
theorem WC(q:Rat):q*((q.den:Int):Rat)=((q.num:Int):Rat):=by
 have hd:((q.den:Int):Rat)≠0:=by
  have:=q.den_pos;intro e;have:=Rat.intCast_inj.1 (show((q.den:Int):Rat)=((0:Int):Rat)from e);omega
 have h:((q.num:Int):Rat)/((q.den:Int):Rat)=q:=by rw[←Rat.divInt_eq_div];exact Rat.num_divInt_den q
 calc q*((q.den:Int):Rat)=((q.num:Int):Rat)/((q.den:Int):Rat)*((q.den:Int):Rat):=by rw[h]
  _=((q.num:Int):Rat):=Rat.div_mul_cancel hd
theorem LC(q:Rat)(E:Int):q*(((q.den:Int)*E:Int):Rat)=((q.num*E:Int):Rat):=by
 rw[Rat.intCast_mul,Rat.intCast_mul,←Rat.mul_assoc,WC]
theorem NX{D g U O:Nat}(hg:0<g)(hO:0<O)(h:D*O=U*g):((D:Int):Rat)*(1/((g:Int):Rat))=M5 (U:Int) (O:Int):=by
 rw[Rat.divInt_eq_div];have hg':((g:Int):Rat)≠0:=by
  intro e;have:=Rat.intCast_inj.1 (show((g:Int):Rat)=((0:Int):Rat)from e);omega
 have hO':((O:Int):Rat)≠0:=by
  intro e;have:=Rat.intCast_inj.1 (show((O:Int):Rat)=((0:Int):Rat)from e);omega
 have e:((D:Int):Rat)*((O:Int):Rat)=((U:Int):Rat)*((g:Int):Rat):=by
  rw[←Rat.intCast_mul,←Rat.intCast_mul]
  congr 1
  exact_mod_cast h
 grind
theorem Fw{p0 p1 p2 q0 q1 q2:Rat}{k m:Nat}(f:Few3 k p0 p1 p2)(f':Few3 m q0 q1 q2)(hk:k+m<=900)(w:World) :
  Calls Tryz.prog 50 #[.agg #[Js (Jj p0),Js (Jj p1),Js (Jj p2)],.agg #[Js (Jj q0),Js (Jj q1),Js (Jj q2)]] w fun e w'=>e= .returned (.bool (parV p0 p1 p2 q0 q1 q2))/\Below w.heap.size w w':=by
 have h0:=fun w'=>U3 _ _ _ p0 p1 p2 w' rfl rfl rfl;have h1:=fun w'=>U3 _ _ _ q0 q1 q2 w' rfl rfl rfl;have h2:=fun w'=>ON f f' hk w';have h3:=fun w'=>U3 _ _ _ (p1*q2-p2*q1) (p2*q0-p0*q2) (p0*q1-p1*q0) w' rfl rfl rfl;obtain⟨z,hz⟩:∃z,parV p0 p1 p2 q0 q1 q2=z:=⟨_,rfl⟩;rw[hz];unfold parV at hz;generalize QW (p1*q2-p2*q1) (p2*q0-p0*q2) (p0*q1-p1*q0)=z3 at hz h3;generalize QW p0 p1 p2=z1 at hz h0;generalize QW q0 q1 q2=z2 at hz h1;clear f f' hk;generalize Jj (p1*q2-p2*q1)=c0 at *
 generalize Jj (p2*q0-p0*q2)=c1 at *
 generalize Jj (p0*q1-p1*q0)=c2 at *
 generalize Jj p0=a0 at *
 generalize Jj p1=a1 at *
 generalize Jj p2=a2 at *
 generalize Jj q0=b0 at *
 generalize Jj q1=b1 at *
 generalize Jj q2=b2 at *
 have kb:=((M3 w.heap.size w).alloc (M6 _) (Jc #[Js a0,Js a1,Js a2] 48)).alloc (by simp) (Jc #[Js b0,Js b1,Js b2] 48);have C0:=(Jh.new w #[Js a0,Js a1,Js a2] 48).keep ((M3 _ _).alloc (M6 _) (Jc #[Js b0,Js b1,Js b2] 48));have C1:=Jh.new (w.alloc (Jc #[Js a0,Js a1,Js a2] 48)) #[Js b0,Js b1,Js b2] 48;simp only[World.size_alloc]at C1;obtain⟨W,hW⟩:∃u,(w.alloc (Jc #[Js a0,Js a1,Js a2] 48)).alloc (Jc #[Js b0,Js b1,Js b2] 48)=u:=⟨_,rfl⟩;rw[hW]at kb C0 C1;have K0:=Lh kb;have V0:=Lh (show Jh W (w.heap.size) _ from C0);have V1:=Lh (show Jh W (w.heap.size+1) _ from C1);have H0:=Lh h0;have H1:=Lh h1;have H2:=Lh h2;have H3:=Lh h3;have Hz:=Lh hz;clear kb C0 C1 h0 h1 h2 h3 hz;go_enter Tryz.func50,Tryz.ntmps50;have a0_:W.cell? ⟨w.heap.size,0,Jn⟩=Jo (Js a0):=V0.out.at_ 0;have a1_:W.cell? ⟨w.heap.size,1,Jn⟩=Jo (Js a1):=V0.out.at_ 1;have a2_:W.cell? ⟨w.heap.size,2,Jn⟩=Jo (Js a2):=V0.out.at_ 2;go_wp2_with fail
 try simp only[hW]
 refine(H0.out _).mono ?_;rintro e w1⟨rfl,g⟩;clear hW;clear a0_ a1_ a2_;have V0:=Lh (V0.out.keep g);have V1:=Lh (V1.out.keep g);have K0:=Lh (Jd K0.out g);clear g;cases z1 with
 | true=>
  obtain rfl:z=false:=by have:=Hz.out;simpa using this.symm
  go_wp2;go_ret;exact⟨rfl,K0.out⟩
 | false=>
  have b0_:w1.cell? ⟨w.heap.size+1,0,Jn⟩=Jo (Js b0):=V1.out.at_ 0;have b1_:w1.cell? ⟨w.heap.size+1,1,Jn⟩=Jo (Js b1):=V1.out.at_ 1;have b2_:w1.cell? ⟨w.heap.size+1,2,Jn⟩=Jo (Js b2):=V1.out.at_ 2;go_wp2_with fail
  refine(H1.out _).mono ?_;rintro e w2⟨rfl,g⟩;clear b0_ b1_ b2_;have V0:=Lh (V0.out.keep g);have V1:=Lh (V1.out.keep g);have K0:=Lh (Jd K0.out g);clear g;cases z2 with
  | true=>
   obtain rfl:z=false:=by have:=Hz.out;simpa using this.symm
   go_wp2;go_ret;exact⟨rfl,K0.out⟩
  | false=>
   obtain rfl:z3=z:=by have:=Hz.out;simpa using this
   have a0_:w2.cell? ⟨w.heap.size,0,Jn⟩=Jo (Js a0):=V0.out.at_ 0;have a1_:w2.cell? ⟨w.heap.size,1,Jn⟩=Jo (Js a1):=V0.out.at_ 1;have a2_:w2.cell? ⟨w.heap.size,2,Jn⟩=Jo (Js a2):=V0.out.at_ 2;have b0_:w2.cell? ⟨w.heap.size+1,0,Jn⟩=Jo (Js b0):=V1.out.at_ 0;have b1_:w2.cell? ⟨w.heap.size+1,1,Jn⟩=Jo (Js b1):=V1.out.at_ 1;have b2_:w2.cell? ⟨w.heap.size+1,2,Jn⟩=Jo (Js b2):=V1.out.at_ 2;go_wp2_with fail
   refine(H2.out _).mono ?_;rintro e w3⟨rfl,g⟩;clear a0_ a1_ a2_ b0_ b1_ b2_;have V0:=Lh (V0.out.keep g);have V1:=Lh (V1.out.keep g);have K0:=Lh (Jd K0.out g);clear g;go_wp2_with fail
   refine(H3.out _).mono ?_;rintro e w4⟨rfl,g⟩;have V0:=Lh (V0.out.keep g);have V1:=Lh (V1.out.keep g);have K0:=Lh (Jd K0.out g);clear g;go_wp2;go_ret;exact⟨rfl,K0.out⟩
theorem ZD(a0 a1 a2 n0 n1 n2 e0 e1 e2 u0 u1 u2 u3 b0 b1 b2 x0_ x1_ x2_ x3_ r c0 c1 c2:ByteArray)(w:World)(hu:u0=⟨#[49]⟩)(hv:x0_=⟨#[48]⟩)
  (p0:∀w',Calls Tryz.prog 76 #[Js a0] w' fun e w''=>e= .returned (.tuple #[Js n0,Js e0])/\Below w'.heap.size w' w'')
  (m0:∀w',Calls Tryz.prog 78 #[Js u0,Js e0] w' fun e w''=>e= .returned (Js u1)/\Below w'.heap.size w' w'')
  (s0:∀w',Calls Tryz.prog 75 #[Js a0,Js u3] w' fun e w''=>e= .returned (Js b0)/\Below w'.heap.size w' w'')
  (g0:∀w',Calls Tryz.prog 88 #[Js x0_,Js b0] w' fun e w''=>e= .returned (Js x1_)/\Below w'.heap.size w' w'')
  (t0:∀w',Calls Tryz.prog 75 #[Js b0,Js r] w' fun e w''=>e= .returned (Js c0)/\Below w'.heap.size w' w'')
  (p1:∀w',Calls Tryz.prog 76 #[Js a1] w' fun e w''=>e= .returned (.tuple #[Js n1,Js e1])/\Below w'.heap.size w' w'')
  (m1:∀w',Calls Tryz.prog 78 #[Js u1,Js e1] w' fun e w''=>e= .returned (Js u2)/\Below w'.heap.size w' w'')
  (s1:∀w',Calls Tryz.prog 75 #[Js a1,Js u3] w' fun e w''=>e= .returned (Js b1)/\Below w'.heap.size w' w'')
  (g1:∀w',Calls Tryz.prog 88 #[Js x1_,Js b1] w' fun e w''=>e= .returned (Js x2_)/\Below w'.heap.size w' w'')
  (t1:∀w',Calls Tryz.prog 75 #[Js b1,Js r] w' fun e w''=>e= .returned (Js c1)/\Below w'.heap.size w' w'')
  (p2:∀w',Calls Tryz.prog 76 #[Js a2] w' fun e w''=>e= .returned (.tuple #[Js n2,Js e2])/\Below w'.heap.size w' w'')
  (m2:∀w',Calls Tryz.prog 78 #[Js u2,Js e2] w' fun e w''=>e= .returned (Js u3)/\Below w'.heap.size w' w'')
  (s2:∀w',Calls Tryz.prog 75 #[Js a2,Js u3] w' fun e w''=>e= .returned (Js b2)/\Below w'.heap.size w' w'')
  (g2:∀w',Calls Tryz.prog 88 #[Js x2_,Js b2] w' fun e w''=>e= .returned (Js x3_)/\Below w'.heap.size w' w'')
  (t2:∀w',Calls Tryz.prog 75 #[Js b2,Js r] w' fun e w''=>e= .returned (Js c2)/\Below w'.heap.size w' w'')
  (d:∀w',Calls Tryz.prog 33 #[Js ⟨#[49]⟩,Js x3_] w' fun e w''=>e= .returned (Js r)/\Below w'.heap.size w' w'') :
  Calls Tryz.prog 48 #[.agg #[Js a0,Js a1,Js a2]] w fun e w'=>e= .returned (.agg #[Js c0,Js c1,Js c2])/\Below w.heap.size w w':=by
 have kb:=((M3 w.heap.size w).alloc (M6 _) (Jc #[Js a0,Js a1,Js a2] 48)).alloc (by simp) (Jc #[Js ⟨#[]⟩,Js ⟨#[]⟩,Js ⟨#[]⟩] 48);have C0:=(Jh.new w #[Js a0,Js a1,Js a2] 48).keep ((M3 _ _).alloc (M6 _) (Jc #[Js ⟨#[]⟩,Js ⟨#[]⟩,Js ⟨#[]⟩] 48));have C1:=Jh.new (w.alloc (Jc #[Js a0,Js a1,Js a2] 48)) #[Js ⟨#[]⟩,Js ⟨#[]⟩,Js ⟨#[]⟩] 48;simp only[World.size_alloc]at C1;obtain⟨W,hW⟩:∃u,(w.alloc (Jc #[Js a0,Js a1,Js a2] 48)).alloc (Jc #[Js ⟨#[]⟩,Js ⟨#[]⟩,Js ⟨#[]⟩] 48)=u:=⟨_,rfl⟩;rw[hW]at kb C0 C1;have K0:=Lh kb;have V0:=Lh (show Jh W (w.heap.size) _ from C0);have V1:=Lh (show Jh W (w.heap.size+1) _ from C1);have HP0:=Lh p0;have HM0:=Lh m0;have HG0:=Lh g0;have HP1:=Lh p1;have HM1:=Lh m1;have HG1:=Lh g1;have HP2:=Lh p2;have HM2:=Lh m2;have HG2:=Lh g2;have HS1:=Lh (fun w'=>XT a0 a1 a2 u3 b0 b1 b2 w' s0 s1 s2);have HS2:=Lh (fun w'=>XT b0 b1 b2 r c0 c1 c2 w' t0 t1 t2);have HD:=Lh d;have Hu:=Lh hu;have Hv:=Lh hv;clear kb C0 C1 hu hv d p0 m0 s0 g0 t0 p1 m1 s1 g1 t1 p2 m2 s2 g2 t2;go_enter Tryz.func48,Tryz.ntmps48;go_wp2_with fail
 try simp only[hW]
 clear hW;go_loopw [5,3] (fun v d wr=>∃(k:Nat) (z:Int) (s:ByteArray),k<=3/\z=(k:Int)/\v= .int .i64 z/\d=Js s/\(k=0->s=u0)/\(k=1->s=u1)/\(k=2->s=u2)/\(k=3->s=u3)/\Below W.heap.size W wr) (fun v _ _=>3-(intOf v).toNat)
 case atStart=>exact⟨0,0,_,by decide,rfl,rfl,rfl,fun _=>Hu.out.symm,fun h=>absurd h (by decide),fun h=>absurd h (by decide),fun h=>absurd h (by decide),M3 _ _⟩
 case round=>
  obtain⟨k,z,s,hk,hzk,rfl,rfl,i0,i1,i2,i3,hb⟩:=hrel;have Hb:=Lh hb;clear hb;obtain rfl|rfl|rfl|rfl:k=0\/k=1\/k=2\/k=3:=by omega
  ·obtain rfl:z=0:=hzk;obtain rfl:s=u0:=i0 rfl;have q:=(V0.out.keep Hb.out).at_ 0;have q:wr.cell? ⟨w.heap.size,0,Jn⟩=Jo (Js a0):=q;clear i0 i1 i2 i3;go_wp2_with fail
   refine(HP0.out _).mono ?_;rintro e w1⟨rfl,g⟩;have Hb:=Lh (Jd Hb.out g);clear g q;go_wp2_with fail
   refine(HM0.out _).mono ?_;rintro e w2⟨rfl,g⟩;have Hb:=Lh (Jd Hb.out g);clear g;go_wp2_with fail
   go_roundw;case rel=>exact⟨1,1,_,by decide,rfl,by go_num,rfl,fun h=>absurd h (by decide),fun _=>rfl,fun h=>absurd h (by decide),fun h=>absurd h (by decide),Hb.out⟩
   case measure=>simp[intOf]
  ·obtain rfl:z=1:=hzk;obtain rfl:s=u1:=i1 rfl;have q:=(V0.out.keep Hb.out).at_ 1;have q:wr.cell? ⟨w.heap.size,1,Jn⟩=Jo (Js a1):=q;clear i0 i1 i2 i3;go_wp2_with fail
   refine(HP1.out _).mono ?_;rintro e w1⟨rfl,g⟩;have Hb:=Lh (Jd Hb.out g);clear g q;go_wp2_with fail
   refine(HM1.out _).mono ?_;rintro e w2⟨rfl,g⟩;have Hb:=Lh (Jd Hb.out g);clear g;go_wp2_with fail
   go_roundw;case rel=>exact⟨2,2,_,by decide,rfl,by go_num,rfl,fun h=>absurd h (by decide),fun h=>absurd h (by decide),fun _=>rfl,fun h=>absurd h (by decide),Hb.out⟩
   case measure=>simp[intOf]
  ·obtain rfl:z=2:=hzk;obtain rfl:s=u2:=i2 rfl;have q:=(V0.out.keep Hb.out).at_ 2;have q:wr.cell? ⟨w.heap.size,2,Jn⟩=Jo (Js a2):=q;clear i0 i1 i2 i3;go_wp2_with fail
   refine(HP2.out _).mono ?_;rintro e w1⟨rfl,g⟩;have Hb:=Lh (Jd Hb.out g);clear g q;go_wp2_with fail
   refine(HM2.out _).mono ?_;rintro e w2⟨rfl,g⟩;have Hb:=Lh (Jd Hb.out g);clear g;go_wp2_with fail
   go_roundw;case rel=>exact⟨3,3,_,by decide,rfl,by go_num,rfl,fun h=>absurd h (by decide),fun h=>absurd h (by decide),fun h=>absurd h (by decide),fun _=>rfl,Hb.out⟩
   case measure=>simp[intOf]
  ·obtain rfl:z=3:=hzk;obtain rfl:s=u3:=i3 rfl;clear i0 i1 i2 i3;have V0:=Lh (V0.out.keep Hb.out);have V1:=Lh (V1.out.keep Hb.out);have K0:=Lh (Jd K0.out Hb.out);clear Hb;have q0:wr.cell? ⟨w.heap.size,0,Jn⟩=Jo (Js a0):=V0.out.at_ 0;have q1:wr.cell? ⟨w.heap.size,1,Jn⟩=Jo (Js a1):=V0.out.at_ 1;have q2:wr.cell? ⟨w.heap.size,2,Jn⟩=Jo (Js a2):=V0.out.at_ 2;go_wp2_with fail
   refine(HS1.out _).mono ?_;rintro e w1⟨rfl,g⟩;clear q0 q1 q2;have V0:=Lh (V0.out.keep g);have V1:=Lh (V1.out.keep g);have K0:=Lh (Jd K0.out g);clear g;have q0:w1.cell? ⟨w.heap.size,0,Jn⟩=Jo (Js a0):=V0.out.at_ 0;have q1:w1.cell? ⟨w.heap.size,1,Jn⟩=Jo (Js a1):=V0.out.at_ 1;have q2:w1.cell? ⟨w.heap.size,2,Jn⟩=Jo (Js a2):=V0.out.at_ 2;have f0:=V0.out.fz 0;have f1:=V0.out.fz 1;have f2:=V0.out.fz 2;have hA:=V0.out.put3 (Js b0) (Js b1) (Js b2);have e1:=put3_heap w1 w.heap.size (Js b0) (Js b1) (Js b2);have hR:=V1.out.same (show w.heap.size+1≠w.heap.size by omega) e1.1 e1.2;have hK:=below_put3 K0.out (M6 w.heap.size) (Js b0) (Js b1) (Js b2);obtain⟨W2,hW2⟩:∃u,put3 w1 w.heap.size (Js b0) (Js b1) (Js b2)=u:=⟨_,rfl⟩;rw[hW2]at hA hR hK;unfold put3 at hW2;have V0:=Lh hA;have V1:=Lh hR;have K0:=Lh hK;clear hA hR hK e1;go_wp2_with fail
   try simp only[hW2]
   clear hW2 q0 q1 q2 f0 f1 f2;go_loopw [8,4] (fun v d wr=>∃(k:Nat) (z:Int) (s:ByteArray),k<=3/\z=(k:Int)/\v= .int .i64 z/\d=Js s/\(k=0->s=x0_)/\(k=1->s=x1_)/\(k=2->s=x2_)/\(k=3->s=x3_)/\Below W2.heap.size W2 wr) (fun v _ _=>3-(intOf v).toNat)
   case atStart=>exact⟨0,0,_,by decide,rfl,rfl,rfl,fun _=>Hv.out.symm,fun h=>absurd h (by decide),fun h=>absurd h (by decide),fun h=>absurd h (by decide),M3 _ _⟩
   case round=>
    obtain⟨k,z,s,hk,hzk,rfl,rfl,i0,i1,i2,i3,hb⟩:=hrel;have Hb:=Lh hb;clear hb;obtain rfl|rfl|rfl|rfl:k=0\/k=1\/k=2\/k=3:=by omega
    ·obtain rfl:z=0:=hzk;obtain rfl:s=x0_:=i0 rfl;have q:wr.cell? ⟨w.heap.size,0,Jn⟩=Jo (Js b0):=(V0.out.keep Hb.out).at_ 0;clear i0 i1 i2 i3;go_wp2_with fail
     refine(HG0.out _).mono ?_;rintro e w2⟨rfl,g⟩;have Hb:=Lh (Jd Hb.out g);clear g q;go_wp2_with fail
     go_roundw;case rel=>exact⟨1,1,_,by decide,rfl,by go_num,rfl,fun h=>absurd h (by decide),fun _=>rfl,fun h=>absurd h (by decide),fun h=>absurd h (by decide),Hb.out⟩
     case measure=>simp[intOf]
    ·obtain rfl:z=1:=hzk;obtain rfl:s=x1_:=i1 rfl;have q:wr.cell? ⟨w.heap.size,1,Jn⟩=Jo (Js b1):=(V0.out.keep Hb.out).at_ 1;clear i0 i1 i2 i3;go_wp2_with fail
     refine(HG1.out _).mono ?_;rintro e w2⟨rfl,g⟩;have Hb:=Lh (Jd Hb.out g);clear g q;go_wp2_with fail
     go_roundw;case rel=>exact⟨2,2,_,by decide,rfl,by go_num,rfl,fun h=>absurd h (by decide),fun h=>absurd h (by decide),fun _=>rfl,fun h=>absurd h (by decide),Hb.out⟩
     case measure=>simp[intOf]
    ·obtain rfl:z=2:=hzk;obtain rfl:s=x2_:=i2 rfl;have q:wr.cell? ⟨w.heap.size,2,Jn⟩=Jo (Js b2):=(V0.out.keep Hb.out).at_ 2;clear i0 i1 i2 i3;go_wp2_with fail
     refine(HG2.out _).mono ?_;rintro e w2⟨rfl,g⟩;have Hb:=Lh (Jd Hb.out g);clear g q;go_wp2_with fail
     go_roundw;case rel=>exact⟨3,3,_,by decide,rfl,by go_num,rfl,fun h=>absurd h (by decide),fun h=>absurd h (by decide),fun h=>absurd h (by decide),fun _=>rfl,Hb.out⟩
     case measure=>simp[intOf]
    ·obtain rfl:z=3:=hzk;obtain rfl:s=x3_:=i3 rfl;clear i0 i1 i2 i3;have V0:=Lh (V0.out.keep Hb.out);have V1:=Lh (V1.out.keep Hb.out);have K0:=Lh (Jd K0.out Hb.out);clear Hb;have HS:=Lh (fun w' (hb:Below wr.heap.size wr w')=>(⟨(V0.out.keep hb).at_ 0,(V0.out.keep hb).at_ 1,(V0.out.keep hb).at_ 2⟩:w'.cell? ⟨w.heap.size,0,Jn⟩=Jo (Js b0)/\w'.cell? ⟨w.heap.size,1,Jn⟩=Jo (Js b1)/\w'.cell? ⟨w.heap.size,2,Jn⟩=Jo (Js b2)));go_upto_region 12 with fail
     refine Till.begin 4 (fun w'=>w'.cell? ⟨w.heap.size,0,Jn⟩=Jo (Js b0)/\w'.cell? ⟨w.heap.size,1,Jn⟩=Jo (Js b1)/\w'.cell? ⟨w.heap.size,2,Jn⟩=Jo (Js b2)) (by kernel_rfl) (HS.out _ (M3 _ _).drew) (fun hH=>?_);clear hH;have HB:=Lh (M3 wr.heap.size wr).drew;generalize wr.drew=v0 at HB ⊢;try simp only[Pls]
     refine Till.tk 0 3 35 (.agg #[Js b0,Js b1,Js b2]) (HS.out _ HB.out) ?_;try simp only[Act.put,Pls]
     refine Till.one (i:=1) (by kernel_rfl) rfl (fun K hK=>?_);go_simp;refine hK.out _ _ (fun _=>HS.out _ HB.out) ?_;clear hK K;try simp only[Pls]
     refine Till.one (i:=2) (by kernel_rfl) rfl (fun K hK=>?_);go_simp;refine(HD.out _).mono ?_;rintro e v1⟨rfl,g⟩;replace HB:=Lh (Jd HB.out g);clear g;go_wp2_with fail
     refine hK.out _ _ (fun _=>HS.out _ HB.out) ?_;clear hK K;try simp only[Pls]
     refine Till.one (i:=3) (by kernel_rfl) rfl (fun K hK=>?_);go_simp;refine(HS2.out _).mono ?_;rintro e v2⟨rfl,g⟩;replace HB:=Lh (Jd HB.out g);have Cv:=V1.out.keep HB.out;have f0:v2.frozen? ⟨w.heap.size+1,0,Jn⟩=false:=Cv.fz 0;have k0:v2.cell? ⟨w.heap.size+1,0,Jn⟩=Jo (Js ⟨#[]⟩):=Cv.at_ 0;have f1:v2.frozen? ⟨w.heap.size+1,1,Jn⟩=false:=Cv.fz 1;have k1:v2.cell? ⟨w.heap.size+1,1,Jn⟩=Jo (Js ⟨#[]⟩):=Cv.at_ 1;have f2:v2.frozen? ⟨w.heap.size+1,2,Jn⟩=false:=Cv.fz 2;have k2:v2.cell? ⟨w.heap.size+1,2,Jn⟩=Jo (Js ⟨#[]⟩):=Cv.at_ 2;clear Cv;clear g;go_wp2_with fail
     refine hK.out _ _ (fun _=>HS.out _ HB.out) ?_;clear hK K;try simp only[Pls]
     refine Till.one (i:=4) (by kernel_rfl) rfl (fun K hK=>?_);go_simp;refine hK.out _ _ (fun h=>absurd h (by simp)) ?_;clear hK K;try simp only[Pls]
     refine Till.done (by kernel_rfl) ?_ _;have Kf:=Lh (below_put3 (Jd K0.out HB.out) (show w.heap.size<=w.heap.size+1 by omega) (Js c0) (Js c1) (Js c2));go_wp2;exact bodyPost_ret (v:= .agg #[Js c0,Js c1,Js c2]) (by simp[results,Tryz.results48,go_sem,k0,k1,k2]) rfl ⟨rfl,Kf.out⟩
theorem unK3(q0 q1 q2:Rat):unK (qK q0 q1 q2) 3=Nat.lcm (Nat.lcm q0.den q1.den) q2.den:=by
 show 1*(q0.den/M0 1 q0.den)*(q1.den/M0 (1*(q0.den/M0 1 q0.den)) q1.den)*(q2.den/M0 (1*(q0.den/M0 1 q0.den)*(q1.den/M0 (1*(q0.den/M0 1 q0.den)) q1.den)) q2.den)=_;rw[Nat.gcd_one_left,Nat.div_one,Nat.one_mul,WV,WV]
theorem ovK3(q0 q1 q2:Rat):ovK (qK q0 q1 q2) 3=M0 (M0 q0.num.natAbs q1.num.natAbs) q2.num.natAbs:=by
 show M0 (M0 (M0 0 q0.num.natAbs) q1.num.natAbs) q2.num.natAbs=_;rw[Nat.gcd_zero_left]
theorem GY{q0 q1 q2:Rat}(ho:0<ovK (qK q0 q1 q2) 3):0<M0 (M0 (q0.num.natAbs*(q1.den*q2.den)) (q1.num.natAbs*(q0.den*q2.den))) (q2.num.natAbs*(q0.den*q1.den)):=by
 have h:=WI q0.reduced q1.reduced q2.reduced;rw[ovK3]at ho;have hd:0<q0.den*q1.den*q2.den:=Nat.mul_pos (Nat.mul_pos q0.den_pos q1.den_pos) q2.den_pos;have:=Nat.mul_pos hd ho;rw[h]at this;exact Nat.pos_of_mul_pos_left this
theorem WJ{q0 q1 q2:Rat}(ho:0<ovK (qK q0 q1 q2) 3):((1*(q0.den:Int)*(q1.den:Int)*(q2.den:Int):Int):Rat)*(1/((M0 (M0 (q0.num.natAbs*(q1.den*q2.den)) (q1.num.natAbs*(q0.den*q2.den))) (q2.num.natAbs*(q0.den*q1.den)):Nat):Int))=M5 (unK (qK q0 q1 q2) 3) (ovK (qK q0 q1 q2) 3):=by
 have hg:=GY ho;rw[ovK3]at ho ⊢;rw[unK3];have h:=NX hg ho (WI q0.reduced q1.reduced q2.reduced);rw[←h]
 congr 2
 simp
theorem E6(q0 q1 q2:Rat):((M0 ((((M0 ((((M0 ((0):Int).natAbs (q0.num*((q1.den:Int)*(q2.den:Int))).natAbs:Nat):Int)):Int).natAbs (q1.num*((q0.den:Int)*(q2.den:Int))).natAbs:Nat):Int)):Int).natAbs (q2.num*((q0.den:Int)*(q1.den:Int))).natAbs:Nat):Int)=((M0 (M0 (q0.num.natAbs*(q1.den*q2.den)) (q1.num.natAbs*(q0.den*q2.den))) (q2.num.natAbs*(q0.den*q1.den)):Nat):Int):=by
 simp[Int.natAbs_mul]
theorem Ur{q:Rat}{D E:Int}(h:D=(q.den:Int)*E):q*((D:Int):Rat)=((q.num*E:Int):Rat):=by
 rw[h];exact LC q E
theorem Ux{z:Int}{k:Nat}(h:z.natAbs<ten k):Few ((z:Int):Rat) (k+1):=⟨by rw[M8];exact M7 h (JK (by omega)),by rw[Rat.den_intCast];exact M7 (by decide) (JK (show 1<=k+1 by omega))⟩
theorem Nf{q0 q1 q2:Rat}{k:Nat}(f:Few3 k q0 q1 q2)(hk:k<=40)(ho:0<ovK (qK q0 q1 q2) 3)(w:World) :
  Calls Tryz.prog 48 #[.agg #[Js (Jj q0),Js (Jj q1),Js (Jj q2)]] w fun e w'=>e= .returned (.agg #[Js (Jj (M5 (unK (qK q0 q1 q2) 3) (ovK (qK q0 q1 q2) 3)*q0)),Js (Jj (M5 (unK (qK q0 q1 q2) 3) (ovK (qK q0 q1 q2) 3)*q1)),Js (Jj (M5 (unK (qK q0 q1 q2) 3) (ovK (qK q0 q1 q2) 3)*q2))])/\Below w.heap.size w w':=by
 have kd:∀ {q:Rat},Few q k->((q.den:Int)).natAbs<ten k:=fun h=>by rw[M4];exact h.d
 have d0:=kd f.x;have d1:=kd f.y;have d2:=kd f.z;have b0:((1:Int)).natAbs<ten 1:=by decide
 have b1:(1*(q0.den:Int)).natAbs<ten (1+k):=JS b0 d0;have b2:(1*(q0.den:Int)*(q1.den:Int)).natAbs<ten (1+k+k):=JS b1 d1;have b3:(1*(q0.den:Int)*(q1.den:Int)*(q2.den:Int)).natAbs<ten (1+k+k+k):=JS b2 d2;have c0:(q0.num*((q1.den:Int)*(q2.den:Int))).natAbs<ten (k+(k+k)):=JS f.x.n (JS d1 d2);have c1:(q1.num*((q0.den:Int)*(q2.den:Int))).natAbs<ten (k+(k+k)):=JS f.y.n (JS d0 d2);have c2:(q2.num*((q0.den:Int)*(q1.den:Int))).natAbs<ten (k+(k+k)):=JS f.z.n (JS d0 d1);have up:∀ {z:Int} {m:Nat},z.natAbs<ten m->m<=200->z.natAbs<ten 200:=fun h hm=>M7 h (JK hm);have sz:∀ {z:Int},z.natAbs<ten 200->(txt z).size<=201:=fun {z} h=>QY z h (by decide);have g1:(((M0 ((0):Int).natAbs (q0.num*((q1.den:Int)*(q2.den:Int))).natAbs:Nat):Int)).natAbs<ten 200:=by rw[M4];exact Oe (by decide) (up c0 (by omega))
 have g2:(((M0 ((((M0 ((0):Int).natAbs (q0.num*((q1.den:Int)*(q2.den:Int))).natAbs:Nat):Int)):Int).natAbs (q1.num*((q0.den:Int)*(q2.den:Int))).natAbs:Nat):Int)).natAbs<ten 200:=by rw[M4];exact Oe g1 (up c1 (by omega))
 have g3:(((M0 ((((M0 ((((M0 ((0):Int).natAbs (q0.num*((q1.den:Int)*(q2.den:Int))).natAbs:Nat):Int)):Int).natAbs (q1.num*((q0.den:Int)*(q2.den:Int))).natAbs:Nat):Int)):Int).natAbs (q2.num*((q0.den:Int)*(q1.den:Int))).natAbs:Nat):Int)).natAbs<ten 200:=by rw[M4];exact Oe g2 (up c2 (by omega))
 have fd:=Ux (up b3 (by omega));have fg:=Ux g3;have hg:=GY ho;have hv:((M0 ((((M0 ((((M0 ((0):Int).natAbs (q0.num*((q1.den:Int)*(q2.den:Int))).natAbs:Nat):Int)):Int).natAbs (q1.num*((q0.den:Int)*(q2.den:Int))).natAbs:Nat):Int)):Int).natAbs (q2.num*((q0.den:Int)*(q1.den:Int))).natAbs:Nat):Int)≠0:=by rw[E6];omega
 have hn:((((((M0 ((((M0 ((((M0 ((0):Int).natAbs (q0.num*((q1.den:Int)*(q2.den:Int))).natAbs:Nat):Int)):Int).natAbs (q1.num*((q0.den:Int)*(q2.den:Int))).natAbs:Nat):Int)):Int).natAbs (q2.num*((q0.den:Int)*(q1.den:Int))).natAbs:Nat):Int)):Int):Rat)).num≠0:=by rw[M8];exact hv
 have f1:Few (1:Rat) 1:=⟨by decide +kernel,by decide +kernel⟩;have fr:=f1.div fg hn;have hF:((1*(q0.den:Int)*(q1.den:Int)*(q2.den:Int):Int):Rat)*(1/(((((M0 ((((M0 ((((M0 ((0):Int).natAbs (q0.num*((q1.den:Int)*(q2.den:Int))).natAbs:Nat):Int)):Int).natAbs (q1.num*((q0.den:Int)*(q2.den:Int))).natAbs:Nat):Int)):Int).natAbs (q2.num*((q0.den:Int)*(q1.den:Int))).natAbs:Nat):Int)):Int):Rat))=M5 (unK (qK q0 q1 q2) 3) (ovK (qK q0 q1 q2) 3):=by rw[E6];exact WJ ho
 have hD0:1*(q0.den:Int)*(q1.den:Int)*(q2.den:Int)=(q0.den:Int)*((q1.den:Int)*(q2.den:Int)):=by rw[Int.one_mul,Int.mul_assoc]
 have hD1:1*(q0.den:Int)*(q1.den:Int)*(q2.den:Int)=(q1.den:Int)*((q0.den:Int)*(q2.den:Int)):=by rw[Int.one_mul];ac_rfl
 have hD2:1*(q0.den:Int)*(q1.den:Int)*(q2.den:Int)=(q2.den:Int)*((q0.den:Int)*(q1.den:Int)):=by rw[Int.one_mul];ac_rfl
 refine ZD (Jj q0) (Jj q1) (Jj q2) (txt q0.num) (txt q1.num) (txt q2.num) (txt (q0.den:Int)) (txt (q1.den:Int)) (txt (q2.den:Int)) (txt 1) (txt (1*(q0.den:Int))) (txt (1*(q0.den:Int)*(q1.den:Int))) (txt (1*(q0.den:Int)*(q1.den:Int)*(q2.den:Int))) (txt (q0.num*((q1.den:Int)*(q2.den:Int)))) (txt (q1.num*((q0.den:Int)*(q2.den:Int)))) (txt (q2.num*((q0.den:Int)*(q1.den:Int)))) (txt 0) (txt (((M0 ((0):Int).natAbs (q0.num*((q1.den:Int)*(q2.den:Int))).natAbs:Nat):Int))) (txt (((M0 ((((M0 ((0):Int).natAbs (q0.num*((q1.den:Int)*(q2.den:Int))).natAbs:Nat):Int)):Int).natAbs (q1.num*((q0.den:Int)*(q2.den:Int))).natAbs:Nat):Int))) (txt (((M0 ((((M0 ((((M0 ((0):Int).natAbs (q0.num*((q1.den:Int)*(q2.den:Int))).natAbs:Nat):Int)):Int).natAbs (q1.num*((q0.den:Int)*(q2.den:Int))).natAbs:Nat):Int)):Int).natAbs (q2.num*((q0.den:Int)*(q1.den:Int))).natAbs:Nat):Int))) (Jj (1/((((M0 ((((M0 ((((M0 ((0):Int).natAbs (q0.num*((q1.den:Int)*(q2.den:Int))).natAbs:Nat):Int)):Int).natAbs (q1.num*((q0.den:Int)*(q2.den:Int))).natAbs:Nat):Int)):Int).natAbs (q2.num*((q0.den:Int)*(q1.den:Int))).natAbs:Nat):Int):Int):Rat))) _ _ _ w (by decide +kernel) (by decide +kernel)
  ?_ ?_ ?_ ?_ ?_ ?_ ?_ ?_ ?_ ?_ ?_ ?_ ?_ ?_ ?_ ?_
 ·exact fun w'=>Qw q0 w' (by have:=f.x.ns (by omega);omega) (by have:=f.x.ds (by omega);omega)
 ·exact fun w'=>QL (1) (q0.den:Int) w' (by have:=sz (up b0 (by omega));omega) (by have:=f.x.ds (by omega);omega)
 ·intro w';have h:=Qk f.x fd (by omega) (by omega) w';rw[Ur hD0,Qs,Qs]at h;exact h
 ·exact fun w'=>Up (0) (q0.num*((q1.den:Int)*(q2.den:Int))) w' (by decide +kernel) (by have:=sz (up c0 (by omega));omega)
 ·intro w';have h:=Qk (Ux (up c0 (by omega))) fr (by omega) (by omega) w';rw[Qs,←Ur hD0,Rat.mul_assoc,hF,Rat.mul_comm]at h;exact h
 ·exact fun w'=>Qw q1 w' (by have:=f.y.ns (by omega);omega) (by have:=f.y.ds (by omega);omega)
 ·exact fun w'=>QL (1*(q0.den:Int)) (q1.den:Int) w' (by have:=sz (up b1 (by omega));omega) (by have:=f.y.ds (by omega);omega)
 ·intro w';have h:=Qk f.y fd (by omega) (by omega) w';rw[Ur hD1,Qs,Qs]at h;exact h
 ·exact fun w'=>Up (((M0 ((0):Int).natAbs (q0.num*((q1.den:Int)*(q2.den:Int))).natAbs:Nat):Int)) (q1.num*((q0.den:Int)*(q2.den:Int))) w' (by have:=sz g1;omega) (by have:=sz (up c1 (by omega));omega)
 ·intro w';have h:=Qk (Ux (up c1 (by omega))) fr (by omega) (by omega) w';rw[Qs,←Ur hD1,Rat.mul_assoc,hF,Rat.mul_comm]at h;exact h
 ·exact fun w'=>Qw q2 w' (by have:=f.z.ns (by omega);omega) (by have:=f.z.ds (by omega);omega)
 ·exact fun w'=>QL (1*(q0.den:Int)*(q1.den:Int)) (q2.den:Int) w' (by have:=sz (up b2 (by omega));omega) (by have:=f.z.ds (by omega);omega)
 ·intro w';have h:=Qk f.z fd (by omega) (by omega) w';rw[Ur hD2,Qs,Qs]at h;exact h
 ·exact fun w'=>Up (((M0 ((((M0 ((0):Int).natAbs (q0.num*((q1.den:Int)*(q2.den:Int))).natAbs:Nat):Int)):Int).natAbs (q1.num*((q0.den:Int)*(q2.den:Int))).natAbs:Nat):Int)) (q2.num*((q0.den:Int)*(q1.den:Int))) w' (by have:=sz g2;omega) (by have:=sz (up c2 (by omega));omega)
 ·intro w';have h:=Qk (Ux (up c2 (by omega))) fr (by omega) (by omega) w';rw[Qs,←Ur hD2,Rat.mul_assoc,hF,Rat.mul_comm]at h;exact h
 ·intro w';have h:=UB f1 fg (by omega) (by omega) hn w';rw[show Jj 1=⟨#[49]⟩by decide +kernel,Qs]at h;exact h
