/- C03: Div64 -/
import Derived.Test.YthhobhjcnmmipaaGreatDoorC01
import Derived.Laws.Bits64b
import Derived.Deep.Cut
set_option maxRecDepth 100000
set_option maxHeartbeats 16000000
namespace Go.Proofs.YthhobhjcnmmipaaGreatDoor
open Go.Value renaming int→Ji
open Go.IntKind renaming u64→Ju,u64→Ff
open _root_.Nat renaming mul_le_mul_right→E4,mul_comm→E5,lt_of_le_of_lt→E6,div_lt_iff_lt_mul→E7,div_add_mod→E8,add_mul→E9,pow_succ→EY,div_le_self→EZ,zero_le→F0,le_div_iff_mul_le→Fa,mod_lt→Fb,mul_assoc→Fc,pow_pos→Fe,mul_add→Fg,le_refl→Fh,pow_add→Fi,one_mul→Fj
open Go.RowKit
theorem lin1{u t r v u1:Nat}(h1:t+r=u)(h2:4294967296*r+u1<v):4294967296*u+u1<4294967296*t+v:=by omega
theorem lin2{u t r v u1:Nat}(h1:t+r=u)(h2:v<=4294967296*r+u1):4294967296*t+v<=4294967296*u+u1:=by omega
theorem lin3{u y0 u1 a v t:Nat}(h2:u<4294967296*a+y0)(h3:4294967296*a<=t)(h4:4294967296*y0<=v)(h5:u1<4294967296):4294967296*u+u1<4294967296*t+v:=by omega
theorem lin4{u t v u1:Nat}(h:4294967296*t+v<=4294967296*u+u1)(h5:u1<4294967296):t<=u:=by omega
theorem XO(q y1 y0:Nat):q*(4294967296*y1+y0)=4294967296*(q*y1)+q*y0:=by rw[Fg,Nat.mul_left_comm]
theorem Oo{u y1 y0 u1:Nat}(h1:0<y1)(h2:u1<4294967296):(4294967296*u+u1)/(4294967296*y1+y0)<=u/y1:=by
 rw[Fa h1];have h:=Nat.div_mul_le_self (4294967296*u+u1) (4294967296*y1+y0);rw[XO]at h;exact lin4 h h2
theorem YT{u y1 y0 u1 q r:Nat}(_hy:0<y1)(hq:q*y1+r=u)(hlt:u<4294967296*y1+y0)(h2:u1<4294967296)(h:4294967296<=q\/4294967296*r+u1<q*y0) :
  (4294967296*u+u1)/(4294967296*y1+y0)<q:=by
 rw[E7 (by omega),XO];rcases h with h|h
 ·exact lin3 hlt (E4 _ h) (E4 _ h) h2
 ·exact lin1 hq h
theorem QR{u y1 y0 u1 q r:Nat}(hy:0<y1)(hq:q*y1+r=u)(hQ:(4294967296*u+u1)/(4294967296*y1+y0)<=q)(h:q*y0<=4294967296*r+u1) :
  (4294967296*u+u1)/(4294967296*y1+y0)=q:=by
 refine Nat.le_antisymm hQ ?_;rw[Fa (by omega),XO];exact lin2 hq h
theorem YD{u y1 y0 u1 q r:Nat}(hq:q*y1+r=u)(hlt:u<4294967296*y1+y0)(h0:y0<4294967296)(hr:4294967296<=r):q*y0<=4294967296*r+u1:=by
 have hq2:q<4294967296:=by
  rcases Nat.lt_or_ge q 4294967296 with h|h
  ·exact h
  ·have h4:4294967296*y1<=q*y1:=E4 y1 h;obtain⟨t,ht⟩:∃t,q*y1=t:=⟨_,rfl⟩;rw[ht]at h4 hq;omega
 have h1:q*y0<=4294967295*y0:=E4 _ (by omega);obtain⟨t,ht⟩:∃t,q*y0=t:=⟨_,rfl⟩;rw[ht]at h1 ⊢;omega
theorem Qg{u u1 q Y:Nat}(hY:0<Y)(hlt:Y<18446744073709551616)(hq:(4294967296*u+u1)/Y=q) :
  ∃a0 a1 a2 a4 a3 X:Nat,(u:Int)*4294967296=(a0:Int)/\IntKind.u64.wrap (a0:Int)=(a1:Int)/\IntKind.u64.wrap ((a1:Int)+u1)=(a2:Int)/\(q:Int)*(Y:Int)=(a4:Int)/\IntKind.u64.wrap (a4:Int)=(a3:Int)/\IntKind.u64.wrap ((a2:Int)-a3)=(X:Int) /\
   4294967296*u+u1=q*Y+X/\X<Y:=by
 have h1:=E8 (4294967296*u+u1) Y;have h2:=Fb (4294967296*u+u1) hY;rw[hq,E5 Y q]at h1;obtain⟨X,hX⟩:∃X,(4294967296*u+u1)%Y=X:=⟨_,rfl⟩;obtain⟨t,ht⟩:∃t,q*Y=t:=⟨_,rfl⟩;rw[hX]at h1 h2;rw[ht]at h1 ⊢;refine⟨4294967296*u,(4294967296*u)%18446744073709551616,((4294967296*u)%18446744073709551616+u1)%18446744073709551616,t,t%18446744073709551616,X,by omega,?_,?_,by rw[←ht];simp,?_,?_,h1.symm,h2⟩
 ·rw[Jr];omega
 ·rw[Jr];omega
 ·rw[Jr];omega
 ·rw[Jr];omega
theorem Q4{a b c d:Int}(h1:a=c)(h2:b=d):Ending.returned (.tuple #[Ji Ju a,Ji Ju b])= .returned (.tuple #[Ji Ju c,Ji Ju d]):=by rw[h1,h2]
theorem On(lo y:Nat)(w:World)(hl:lo<18446744073709551616)(hy:y<18446744073709551616)(h0:0<y) :
  Calls Tryz.prog 167 #[Ji Ju 0,Ji Ju (lo:Nat),Ji Ju (y:Nat)] w fun e w'=>e= .returned (.tuple #[Ji Ju ((lo/y:Nat):Int),Ji Ju ((lo%y:Nat):Int)])/\∃n,w'=w.drewN n:=by
 have t0:((y:Int) ==0)=false:=by rw[beq_eq_false_iff_ne];omega
 go_enter Tryz.func167,Tryz.ntmps167;go_wp2_with fail
 go_quiet (fail)
 go_wp2;go_ret2;refine⟨Q4 ?_ ?_,_,rfl⟩
 ·have h:lo/y<=lo:=EZ _ _;have e:(lo:Int)/(y:Int)=((lo/y:Nat):Int):=by simp
  rw[e];obtain⟨t,ht⟩:∃t,lo/y=t:=⟨_,rfl⟩;rw[ht]at h ⊢;rw[Jr];omega
 ·have h:lo%y<y:=Fb _ h0;rw[show(lo:Int)%(y:Int)=((lo%y:Nat):Int)by simp]
theorem YF:∀(k y:Nat),y≠0->y<2^k->k<=64->2^(Lib.bitLen y-1)<=y/\y<2^Lib.bitLen y/\1<=Lib.bitLen y/\Lib.bitLen y<=k
 | 0,y,h,hk,_=>by simp at hk;omega
 | k+1,y,h,hk,h64=>by
  have hlt:y<2^64:=Nat.lt_of_lt_of_le hk (Nat.pow_le_pow_right (by decide) h64);rw[Lib.bitLen_half y h hlt];by_cases h1:y/2=0
  ·have e:Lib.bitLen 0=0:=by decide
   rw[h1,e];have:y=1:=by omega
   subst this;exact⟨by decide,by decide,by decide,by omega⟩
  ·obtain⟨a,b,c,d⟩:=YF k (y/2) h1 (by rw[EY]at hk;omega) (by omega);obtain⟨l,hl⟩:∃l,Lib.bitLen (y/2)=l+1:=⟨Lib.bitLen (y/2)-1,by omega⟩;rw[hl]at a b d ⊢;have e1:1+(l+1)-1=l+1:=by omega
   have e2:l+1-1=l:=by omega
   rw[e1,Nat.add_comm 1,EY 2 (l+1),EY];rw[e2]at a;rw[EY]at b;omega
theorem Oc(y s:Nat)(hy:y<18446744073709551616)(h0:y≠0)(hs:64-Lib.bitLen y=s)(w:World) :
  Calls Tryz.prog 150 #[Ji Ju (y:Nat)] w fun e w'=>e= .returned (Ji .i64 (s:Nat))/\w=w':=by
 refine(Tryz.bits_LeadingZeros64 y w (by omega) (by omega)).mono fun e w' ⟨h1,h2⟩=>⟨?_,h2.symm⟩;rw[h1];have h3:=(YF 64 y h0 (by simpa using hy) (Fh _)).2.2.2;refine Qq ?_;rw[Int.toNat_natCast,←hs];omega
structure Ep (hi lo y s Y y1 y0 u l0 u1 u0:Nat):Prop where
 s64:s<64
 eY:y*2^s=Y
 e1:Y/4294967296=y1
 e0:Y%4294967296=y0
 y1big:2147483648<=y1
 Ylt:Y<18446744073709551616
 eu:hi*2^s+lo/2^(64-s)=u
 ul:u<Y
 hil:hi*2^s<18446744073709551616
 el:lo*2^s%18446744073709551616=l0
 e2:l0/4294967296=u1
 e3:l0%4294967296=u0
 all:(18446744073709551616*hi+lo)*2^s=18446744073709551616*u+l0
 oru:(hi*2^s) |||(lo/2^(64-s))=u
theorem Ec(hi lo y:Nat)(hl:lo<18446744073709551616)(hy:y<18446744073709551616)(h0:0<y)(h1:hi<y) :
  ∃s Y y1 y0 u l0 u1 u0,64-Lib.bitLen y=s/\Ep hi lo y s Y y1 y0 u l0 u1 u0:=by
 obtain⟨a,b,c,d⟩:=YF 64 y (by omega) (by simpa using hy) (Fh _);obtain⟨s,hs⟩:∃s,64-Lib.bitLen y=s:=⟨_,rfl⟩;refine⟨s,y*2^s,y*2^s/4294967296,y*2^s%4294967296,hi*2^s+lo/2^(64-s),lo*2^s%18446744073709551616,lo*2^s%18446744073709551616/4294967296,lo*2^s%18446744073709551616%4294967296,hs,?_⟩;have hs64:s<64:=by omega
 have e64:2^(64-s)*2^s=18446744073709551616:=by rw[←Fi,show 64-s+s=64 by omega]
 have hb:Lib.bitLen y=64-s:=by omega
 rw[hb]at a b;have hpos:0<2^s:=Fe (by decide);have hY:y*2^s<18446744073709551616:=by rw[←e64];exact Nat.mul_lt_mul_of_pos_right b hpos
 have e63:2^(64-s-1)*2^s=9223372036854775808:=by rw[←Fi,show 64-s-1+s=63 by omega]
 have hY2:9223372036854775808<=y*2^s:=by rw[←e63];exact E4 _ a
 have hq:lo/2^(64-s)<2^s:=by
  rw[E7 (Fe (by decide)),E5,e64];exact hl
 have hhi:(hi+1)*2^s<=y*2^s:=E4 _ h1;rw[E9,Fj]at hhi;have hlo:lo*2^s=18446744073709551616*(lo/2^(64-s))+lo*2^s%18446744073709551616:=by
  have hd:lo*2^s/18446744073709551616=lo/2^(64-s):=by
   rw[←e64,Nat.mul_div_mul_right _ _ hpos]
  have:=E8 (lo*2^s) 18446744073709551616;rw[hd]at this;omega
 refine⟨hs64,rfl,rfl,rfl,by omega,hY,rfl,by omega,by omega,rfl,rfl,rfl,?_,?_⟩
 ·rw[E9,Fg,Fc];omega
 ·have:=Nat.two_pow_add_eq_or_of_lt hq hi;rw[E5 (2^s) hi]at this;exact this.symm
def Vk(u y1 y0 u1:Nat)(vq vr:Value):Prop:=
 ∃q r:Nat,vq=Ji Ju (q:Int)/\vr=Ji Ju (r:Int)/\q*y1+r=u/\(4294967296*u+u1)/(4294967296*y1+y0)<=q/\r<4294967296/\q<18446744073709551616
theorem Ym{u y1 y0 u1 q r p:Nat}(hy:1<=y1)(hlt:y1<4294967296)(hu:u<18446744073709551616)(h2:u1<4294967296)(hq:u/y1=q)(hp:q*y1=p)(hpr:p+r=u):Vk u y1 y0 u1 (Ji Ju (q:Int)) (Ji Ju (r:Int)):=by
 refine⟨q,r,rfl,rfl,by rw[hp];exact hpr,?_,?_,by rw[←hq];exact E6 (EZ _ _) hu⟩
 ·rw[←hq];exact Oo hy h2
 ·have h:=Fb u (show 0<y1 by omega);have h3:=E8 u y1;rw[hq,E5,hp]at h3;omega
theorem Uj(q y0 r u1:Nat)(hr:r<4294967296)(h1:u1<4294967296):∃v m l:Nat,q*y0=v/\4294967296*r+u1=m/\(q:Int)*(y0:Int)=(v:Int)/\4294967296*(r:Int)=(l:Int)/\(l:Int)+(u1:Int)=(m:Int)/\l<18446744073709551616/\m<18446744073709551616:=
 ⟨q*y0,4294967296*r+u1,4294967296*r,rfl,rfl,by simp,by simp,by simp,by omega,by omega⟩
theorem UQ{q p r t y1 u:Nat}(h:q*y1+r=u)(hq:q=p+1)(ht:r+y1=t):p*y1+t=u:=by
 rw[hq,E9,Fj]at h;omega
theorem YA{q q2:Nat}(h:q=q2+1):(q:Int)-1=(q2:Int):=by omega
theorem YS(u y1:Nat)(hy:1<=y1)(hlt:y1<4294967296):∃q r p:Nat,u/y1=q/\q*y1=p/\p+r=u/\(u:Int)/(y1:Int)=(q:Int)/\(q:Int)*(y1:Int)=(p:Int)/\(u:Int)-(p:Int)=(r:Int)/\q<=u/\p<=u/\r<4294967296:=by
 refine⟨u/y1,u%y1,u/y1*y1,rfl,rfl,?_,by simp,by simp,?_,EZ _ _,Nat.div_mul_le_self _ _,?_⟩
 ·rw[E5];exact E8 u y1
 ·have:=E8 u y1;rw[E5]at this;omega
 ·have:=Fb u (show 0<y1 by omega);omega
theorem JU{u u1 Y q:Nat}(hu:u<Y)(h1:u1<4294967296)(hq:(4294967296*u+u1)/Y=q):q<4294967296:=by
 rw[←hq,E7 (by omega)];omega
theorem Qf{q y0 v:Nat}(hq:q<4294967296)(h0:y0<4294967296)(hv:q*y0=v):v<18446744073709551616:=by
 have h1:q*y0<=4294967295*y0:=E4 _ (by omega);rw[hv]at h1;omega
theorem Qw{hi lo y q1 q0:Nat}{Q QX:Int}(hf:(18446744073709551616*hi+lo)/y=4294967296*q1+q0)(h1:(q1:Int)=Q)(h2:(q0:Int)=QX):Q*4294967296+QX=(18446744073709551616*(hi:Int)+(lo:Int))/(y:Int):=by
 have e:(18446744073709551616*(hi:Int)+(lo:Int))/(y:Int)=(((18446744073709551616*hi+lo)/y:Nat):Int):=by simp
 rw[e,hf,←h1,←h2,Int.mul_comm];simp
theorem Qu{hi lo y s Z:Nat}(hf:(18446744073709551616*hi+lo)%y=Z/2^s):(Z:Int)/2^s=(18446744073709551616*(hi:Int)+(lo:Int))%(y:Int):=by
 have e:(18446744073709551616*(hi:Int)+(lo:Int))%(y:Int)=(((18446744073709551616*hi+lo)%y:Nat):Int):=by simp
 rw[e,hf];simp
theorem QK{hi lo y s Y u l0 u1 u0 q1 q0 X Z:Nat}(hy:0<y)(hY:y*2^s=Y)(hall:(18446744073709551616*hi+lo)*2^s=18446744073709551616*u+l0)(hl:l0/4294967296=u1)(hl':l0%4294967296=u0)
  (h1:4294967296*u+u1=q1*Y+X) (h2:4294967296*X+u0=q0*Y+Z) (hZ:Z<Y) :
  (18446744073709551616*hi+lo)/y=4294967296*q1+q0/\(18446744073709551616*hi+lo)%y=Z/2^s:=by
 obtain⟨N,hN⟩:∃N,18446744073709551616*hi+lo=N:=⟨_,rfl⟩;rw[hN]at hall ⊢;have hp:0<2^s:=Fe (by decide);have e:N*2^s=(4294967296*q1+q0)*y*2^s+Z:=by
  rw[hall,Fc _ y,hY,E9,Fc];omega
 have hd:Z=Z/2^s*2^s:=by
  have h3:2^s∣Z:=by
   have h4:2^s∣(4294967296*q1+q0)*y*2^s+Z:=by rw[←e];exact Nat.dvd_mul_left _ _
   exact(Nat.dvd_add_right (Nat.dvd_mul_left _ _)).1 h4
  exact(Nat.div_mul_cancel h3).symm
 have e2:N=(4294967296*q1+q0)*y+Z/2^s:=by
  rw[hd,←E9]at e;exact Nat.eq_of_mul_eq_mul_right hp e
 have hlt:Z/2^s<y:=by rw[E7 hp,hY];exact hZ
 rw[e2];constructor
 ·rw[E5,Nat.mul_add_div hy,Nat.div_eq_of_lt hlt,Nat.add_zero]
 ·rw[E5,Nat.mul_add_mod,Nat.mod_eq_of_lt hlt]
theorem O0(hi lo y:Nat)(w:World)(hl:lo<18446744073709551616)(hy:y<18446744073709551616)(h0:0<hi)(h1:hi<y) :
  Calls Tryz.prog 167 #[Ji Ju (hi:Nat),Ji Ju (lo:Nat),Ji Ju (y:Nat)] w fun e w'=>e= .returned (.tuple #[Ji Ju (((18446744073709551616*hi+lo)/y:Nat):Int),Ji Ju (((18446744073709551616*hi+lo)%y:Nat):Int)])/\w=w':=by
 have t0:((y:Int) ==0)=false:=by rw[beq_eq_false_iff_ne];omega
 have t1:((hi:Int) ==0)=false:=by rw[beq_eq_false_iff_ne];omega
 have t2:(hi:Int)<y:=by omega
 obtain⟨s,Y,y1,y0,u,l0,u1,u0,hs,N⟩:=Ec hi lo y hl hy (by omega) h1;have Hs:=Lh hs;have hs64:=N.s64;have k1:IntKind.u64.wrap ((y:Int)*2^s)=(Y:Int):=by
  have:=N.Ylt;have e:(y:Int)*2^s=(Y:Int):=by rw[←N.eY];simp
  rw[e,Jr];omega
 have k2:IntKind.u64.wrap ((lo:Int)*2^s)=(l0:Int):=by
  have e:(lo:Int)*2^s=((lo*2^s:Nat):Int):=by simp
  rw[e,Jr,←N.el];simp
 have k3:(Y:Int)/4294967296=(y1:Int):=by rw[←N.e1];simp
 have k4:bits BinOp.and Ff (Y:Int) 4294967295=(y0:Int):=by
  have:=bits_and_u64_nat Y 4294967295 N.Ylt (by decide);rw[show((4294967295:Nat):Int)=4294967295 from rfl]at this;rw[this,←N.e0,show(4294967295:Nat)=2^32-1 from rfl,Nat.and_two_pow_sub_one_eq_mod]
 have k5:bits BinOp.or Ff (IntKind.u64.wrap ((hi:Int)*2^s)) ((lo:Int)/2^(64-s))=(u:Int):=by
  have hu:=N.ul;have hu2:=N.Ylt;have hu3:=N.eu;have e1:IntKind.u64.wrap ((hi:Int)*2^s)=((hi*2^s:Nat):Int):=by
   have:=N.hil;rw[show(hi:Int)*2^s=((hi*2^s:Nat):Int)by simp,Jr];omega
  have e2:(lo:Int)/2^(64-s)=((lo/2^(64-s):Nat):Int):=by simp
  rw[e1,e2,bits_or_u64_nat _ _ N.hil (by omega),N.oru]
 have k6:(l0:Int)/4294967296=(u1:Int):=by rw[←N.e2];simp
 have k7:bits BinOp.and Ff (l0:Int) 4294967295=(u0:Int):=by
  have:=bits_and_u64_nat l0 4294967295 (by rw[←N.el];omega) (by decide);rw[show((4294967295:Nat):Int)=4294967295 from rfl]at this;rw[this,←N.e3,show(4294967295:Nat)=2^32-1 from rfl,Nat.and_two_pow_sub_one_eq_mod]
 have hy1:y1<4294967296:=by have:=N.Ylt;have:=N.e1;omega
 have hy2:1<=y1:=by have:=N.y1big;omega
 have hu:u<18446744073709551616:=by have:=N.Ylt;have:=N.ul;omega
 have hY0:y0<4294967296:=by have:=N.e0;omega
 have hu1:u1<4294967296:=by have:=N.e2;have:=N.el;omega
 have hu0:u0<4294967296:=by have:=N.e3;omega
 have HY:=Lh (show Y=4294967296*y1+y0 by rw[←N.e1,←N.e0];omega);have HN:=Lh N;have hYp:0<Y:=by have:=N.y1big;have:=N.e1;omega
 have hYlt:=N.Ylt;have huY:=N.ul;obtain⟨q,r,p,hq,hp,hpr,k8,k9,k10,hqle,hple,hrlt⟩:=YS u y1 hy2 hy1;have Hst:=Lh (Ym (y0:=y0) hy2 hy1 hu hu1 hq hp hpr);clear hq hp hpr N;clear hs;go_enter Tryz.func167,Tryz.ntmps167;go_wp2_with fail
 refine(Oc y s hy (by omega) Hs.out _).mono ?_;rintro e w' ⟨rfl,rfl⟩;go_wp2_with fail
 clear k8 k9 k10 hqle hple hrlt;go_loop [15,16] (fun vq vr=>Vk u y1 y0 u1 vq vr) (fun vq _=>(intOf vq).toNat)
 case atStart=>exact Hst.out
 case round=>
  obtain⟨q,r,rfl,rfl,hqr,hQ,hr,hq64⟩:=hrel;have Hqr:=Lh hqr;have HQ:=Lh hQ;obtain⟨v,m,l,hv,hm,kv,kl,km,hl64,hm64⟩:=Uj q y0 r u1 hr hu1;have Hv:=Lh hv;have Hm:=Lh hm;clear hqr hQ hv hm hr;have hq0:0<=(q:Int):=by omega
  have hq64I:(q:Int)<=18446744073709551615:=by omega
  have Hq64:=Lh hq64;clear hq64;by_cases hend:q<4294967296/\v<=m
  ·obtain⟨hend,hend2⟩:=hend;have hv64:=Qf hend hY0 Hv.out;have hendI:(q:Int)<4294967296:=by omega
   have Heq:=Lh (show(4294967296*u+u1)/Y=q by rw[HY.out];exact QR (by omega) Hqr.out HQ.out (by rw[Hv.out,Hm.out];exact hend2));obtain⟨a0,a1,a2,a4,a3,X,ka0,ka1,ka2,ka4,ka3,kX,hX,hXY⟩:=Qg hYp hYlt Heq.out;have HX:=Lh hX;have hsm:=JU huY hu1 Heq.out;have hsmI:(q:Int)<4294967296:=by omega
   have Hsm:=Lh hsm;obtain⟨qX,rX,pX,hqX,hpX,hprX,k8X,k9X,k10X,hqleX,hpleX,hrltX⟩:=YS X y1 hy2 hy1;have hX64:X<18446744073709551616:=by omega
   have HstX:=Lh (Ym (y0:=y0) hy2 hy1 hX64 hu0 hqX hpX hprX);clear hX hqX hpX hprX hsm;obtain⟨qq,hqq⟩:∃qq,q=qq:=⟨_,rfl⟩;have Hqq:=Lh hqq;clear hqq;generalize hGQ:(q:Int)=Q at *
   have HGQ:=Lh hGQ;clear hGQ;go_wp2_with fail
   clear k8X k9X k10X hqleX hpleX hrltX;go_loop [18,16] (fun vq vr=>Vk X y1 y0 u0 vq vr) (fun vq _=>(intOf vq).toNat)
   case atStart=>exact HstX.out
   case round=>
    obtain⟨qX,rX,rfl,rfl,hqrX,hQX,hrX,hq64X⟩:=hrel;have HqrX:=Lh hqrX;have HQX:=Lh hQX;obtain⟨vX,mX,lX,hvX,hmX,kvX,klX,kmX,hl64X,hm64X⟩:=Uj qX y0 rX u0 hrX hu0;have HvX:=Lh hvX;have HmX:=Lh hmX;clear hqrX hQX hvX hmX hrX;have hq0X:0<=(qX:Int):=by omega
    have hq64IX:(qX:Int)<=18446744073709551615:=by omega
    have Hq64X:=Lh hq64X;clear hq64X;by_cases hendX:qX<4294967296/\vX<=mX
    ·obtain⟨hendX,hend2X⟩:=hendX;have hv64X:=Qf hendX hY0 HvX.out;have hendIX:(qX:Int)<4294967296:=by omega
     have HeqX:=Lh (show(4294967296*X+u0)/Y=qX by rw[HY.out];exact QR (by omega) HqrX.out HQX.out (by rw[HvX.out,HmX.out];exact hend2X));obtain⟨c0,c1,c2,c4,c3,Z,kc0,kc1,kc2,kc4,kc3,kZ,hZ,hZY⟩:=Qg hYp hYlt HeqX.out;have HZ:=Lh hZ;have hsmX:=JU hXY hu0 HeqX.out;have HsmX:=Lh hsmX;have hsmXI:(qX:Int)<4294967296:=by omega
     have HZY:=Lh hZY;clear hZ hZY hsmX;generalize hGQX:(qX:Int)=QX at *
     have HGQX:=Lh hGQX;clear hGQX;go_wp2;go_ret2;obtain⟨hf1,hf2⟩:=QK (by omega) HN.out.eY HN.out.all HN.out.e2 HN.out.e3 HX.out HZ.out HZY.out;have hq1:=Hqq.out;subst hq1;exact⟨Q4 (Qw hf1 HGQ.out HGQX.out) (Qu hf2),rfl⟩
    ·have HmoreX:=Lh (YT (y0:=y0) (u1:=u0) (by omega) HqrX.out (by rw[←HY.out];exact hXY) hu0 (by rw[HvX.out,HmX.out];omega));obtain⟨pX,hpX⟩:∃p,qX=p+1:=⟨qX-1,by have h:=E6 (F0 _) HmoreX.out;clear HmoreX;omega⟩;obtain⟨tX,htX⟩:∃t,rX+y1=t:=⟨_,rfl⟩;have kqX:=YA hpX;have krX:(rX:Int)+(y1:Int)=(tX:Int):=by omega
     have HqtX:=Lh (UQ HqrX.out hpX htX);have HQ2X:=Lh (show(4294967296*X+u0)/(4294967296*y1+y0)<=pX by have h:=HmoreX.out;rw[hpX]at h;exact Nat.le_of_lt_succ h);have hposX:1<=(qX:Int):=by omega
     have hp0X:0<=(pX:Int):=by omega
     have hp64IX:(pX:Int)<=18446744073709551614:=by omega
     have hrbX:rX<4294967296:=by have:=HmX.out;omega
     have htbX:(tX:Int)<8589934592:=by omega
     have ht0X:0<=(tX:Int):=by omega
     have HpX:=Lh hpX;clear htX hpX;by_cases hbrX:tX<4294967296
     ·have hbrIX:(tX:Int)<4294967296:=by omega
      have HbrX:=Lh hbrX;by_cases hbigX:qX<4294967296
      ·have hv64X:=Qf hbigX hY0 HvX.out;have hgtX:mX<vX:=by omega
       have hbigIX:(qX:Int)<4294967296:=by omega
       clear hendX hbrX hbigX;generalize hGQX:(qX:Int)=QX at *
       have HGQX:=Lh hGQX;clear hGQX;generalize hGPX:(pX:Int)=PX at *
       have HGPX:=Lh hGPX;clear hGPX;generalize hGTX:(tX:Int)=TX at *
       have HGTX:=Lh hGTX;clear hGTX;go_wp2_with fail
       rw[←HGQX.out,←HGPX.out,←HGTX.out];exact⟨⟨pX,tX,rfl,rfl,HqtX.out,HQ2X.out,HbrX.out,by have:=HpX.out;have:=Hq64X.out;omega⟩,by have:=HpX.out;simp[intOf] <;> omega⟩
      ·have hbigIX:4294967296<=(qX:Int):=by omega
       clear hendX hbrX hbigX;generalize hGQX:(qX:Int)=QX at *
       have HGQX:=Lh hGQX;clear hGQX;generalize hGPX:(pX:Int)=PX at *
       have HGPX:=Lh hGPX;clear hGPX;generalize hGTX:(tX:Int)=TX at *
       have HGTX:=Lh hGTX;clear hGTX;go_wp2_with fail
       rw[←HGQX.out,←HGPX.out,←HGTX.out];exact⟨⟨pX,tX,rfl,rfl,HqtX.out,HQ2X.out,HbrX.out,by have:=HpX.out;have:=Hq64X.out;omega⟩,by have:=HpX.out;simp[intOf] <;> omega⟩
     ·have HeqX:=Lh (show(4294967296*X+u0)/Y=pX by rw[HY.out];exact QR (by omega) HqtX.out HQ2X.out (YD HqtX.out (by rw[←HY.out];exact hXY) hY0 (by omega)));have hbrIX:4294967296<=(tX:Int):=by omega
      by_cases hbigX:qX<4294967296
      ·have hv64X:=Qf hbigX hY0 HvX.out;have hgtX:mX<vX:=by omega
       have hbigIX:(qX:Int)<4294967296:=by omega
       obtain⟨c0,c1,c2,c4,c3,Z,kc0,kc1,kc2,kc4,kc3,kZ,hZ,hZY⟩:=Qg hYp hYlt HeqX.out;have HZ:=Lh hZ;have hsmX:=JU hXY hu0 HeqX.out;have HsmX:=Lh hsmX;have hsmXI:(pX:Int)<4294967296:=by omega
       have HZY:=Lh hZY;clear hZ hZY hsmX;generalize hGQX:(qX:Int)=QX at *
       have HGQX:=Lh hGQX;clear hGQX;generalize hGPX:(pX:Int)=PX at *
       have HGPX:=Lh hGPX;clear hGPX;generalize hGTX:(tX:Int)=TX at *
       have HGTX:=Lh hGTX;clear hGTX;go_wp2;go_ret2;obtain⟨hf1,hf2⟩:=QK (by omega) HN.out.eY HN.out.all HN.out.e2 HN.out.e3 HX.out HZ.out HZY.out;have hq1:=Hqq.out;subst hq1;exact⟨Q4 (Qw hf1 HGQ.out HGPX.out) (Qu hf2),rfl⟩
      ·have hbigIX:4294967296<=(qX:Int):=by omega
       obtain⟨c0,c1,c2,c4,c3,Z,kc0,kc1,kc2,kc4,kc3,kZ,hZ,hZY⟩:=Qg hYp hYlt HeqX.out;have HZ:=Lh hZ;have hsmX:=JU hXY hu0 HeqX.out;have HsmX:=Lh hsmX;have hsmXI:(pX:Int)<4294967296:=by omega
       have HZY:=Lh hZY;clear hZ hZY hsmX;generalize hGQX:(qX:Int)=QX at *
       have HGQX:=Lh hGQX;clear hGQX;generalize hGPX:(pX:Int)=PX at *
       have HGPX:=Lh hGPX;clear hGPX;generalize hGTX:(tX:Int)=TX at *
       have HGTX:=Lh hGTX;clear hGTX;go_wp2;go_ret2;obtain⟨hf1,hf2⟩:=QK (by omega) HN.out.eY HN.out.all HN.out.e2 HN.out.e3 HX.out HZ.out HZY.out;have hq1:=Hqq.out;subst hq1;exact⟨Q4 (Qw hf1 HGQ.out HGPX.out) (Qu hf2),rfl⟩
  ·have Hmore:=Lh (YT (y0:=y0) (u1:=u1) (by omega) Hqr.out (by rw[←HY.out];exact huY) hu1 (by rw[Hv.out,Hm.out];omega));obtain⟨p,hp⟩:∃p,q=p+1:=⟨q-1,by have h:=E6 (F0 _) Hmore.out;clear Hmore;omega⟩;obtain⟨t,ht⟩:∃t,r+y1=t:=⟨_,rfl⟩;have kq:=YA hp;have kr:(r:Int)+(y1:Int)=(t:Int):=by omega
   have Hqt:=Lh (UQ Hqr.out hp ht);have HQ2:=Lh (show(4294967296*u+u1)/(4294967296*y1+y0)<=p by have h:=Hmore.out;rw[hp]at h;exact Nat.le_of_lt_succ h);have hpos:1<=(q:Int):=by omega
   have hp0:0<=(p:Int):=by omega
   have hp64I:(p:Int)<=18446744073709551614:=by omega
   have hrb:r<4294967296:=by have:=Hm.out;omega
   have htb:(t:Int)<8589934592:=by omega
   have ht0:0<=(t:Int):=by omega
   have Hp:=Lh hp;clear ht hp;by_cases hbr:t<4294967296
   ·have hbrI:(t:Int)<4294967296:=by omega
    have Hbr:=Lh hbr;by_cases hbig:q<4294967296
    ·have hv64:=Qf hbig hY0 Hv.out;have hgt:m<v:=by omega
     have hbigI:(q:Int)<4294967296:=by omega
     clear hend hbr hbig;generalize hGQ:(q:Int)=Q at *
     have HGQ:=Lh hGQ;clear hGQ;generalize hGP:(p:Int)=P at *
     have HGP:=Lh hGP;clear hGP;generalize hGT:(t:Int)=T at *
     have HGT:=Lh hGT;clear hGT;go_wp2_with fail
     rw[←HGQ.out,←HGP.out,←HGT.out];exact⟨⟨p,t,rfl,rfl,Hqt.out,HQ2.out,Hbr.out,by have:=Hp.out;have:=Hq64.out;omega⟩,by have:=Hp.out;simp[intOf] <;> omega⟩
    ·have hbigI:4294967296<=(q:Int):=by omega
     clear hend hbr hbig;generalize hGQ:(q:Int)=Q at *
     have HGQ:=Lh hGQ;clear hGQ;generalize hGP:(p:Int)=P at *
     have HGP:=Lh hGP;clear hGP;generalize hGT:(t:Int)=T at *
     have HGT:=Lh hGT;clear hGT;go_wp2_with fail
     rw[←HGQ.out,←HGP.out,←HGT.out];exact⟨⟨p,t,rfl,rfl,Hqt.out,HQ2.out,Hbr.out,by have:=Hp.out;have:=Hq64.out;omega⟩,by have:=Hp.out;simp[intOf] <;> omega⟩
   ·have Heq:=Lh (show(4294967296*u+u1)/Y=p by rw[HY.out];exact QR (by omega) Hqt.out HQ2.out (YD Hqt.out (by rw[←HY.out];exact huY) hY0 (by omega)));have hbrI:4294967296<=(t:Int):=by omega
    by_cases hbig:q<4294967296
    ·have hv64:=Qf hbig hY0 Hv.out;have hgt:m<v:=by omega
     have hbigI:(q:Int)<4294967296:=by omega
     obtain⟨a0,a1,a2,a4,a3,X,ka0,ka1,ka2,ka4,ka3,kX,hX,hXY⟩:=Qg hYp hYlt Heq.out;have HX:=Lh hX;have hsm:=JU huY hu1 Heq.out;have hsmI:(p:Int)<4294967296:=by omega
     have Hsm:=Lh hsm;obtain⟨qX,rX,pX,hqX,hpX,hprX,k8X,k9X,k10X,hqleX,hpleX,hrltX⟩:=YS X y1 hy2 hy1;have hX64:X<18446744073709551616:=by omega
     have HstX:=Lh (Ym (y0:=y0) hy2 hy1 hX64 hu0 hqX hpX hprX);clear hX hqX hpX hprX hsm;obtain⟨qq,hqq⟩:∃qq,p=qq:=⟨_,rfl⟩;have Hqq:=Lh hqq;clear hqq;generalize hGQ:(q:Int)=Q at *
     have HGQ:=Lh hGQ;clear hGQ;generalize hGP:(p:Int)=P at *
     have HGP:=Lh hGP;clear hGP;generalize hGT:(t:Int)=T at *
     have HGT:=Lh hGT;clear hGT;go_wp2_with fail
     clear k8X k9X k10X hqleX hpleX hrltX;go_loop [18,16] (fun vq vr=>Vk X y1 y0 u0 vq vr) (fun vq _=>(intOf vq).toNat)
     case atStart=>exact HstX.out
     case round=>
      obtain⟨qX,rX,rfl,rfl,hqrX,hQX,hrX,hq64X⟩:=hrel;have HqrX:=Lh hqrX;have HQX:=Lh hQX;obtain⟨vX,mX,lX,hvX,hmX,kvX,klX,kmX,hl64X,hm64X⟩:=Uj qX y0 rX u0 hrX hu0;have HvX:=Lh hvX;have HmX:=Lh hmX;clear hqrX hQX hvX hmX hrX;have hq0X:0<=(qX:Int):=by omega
      have hq64IX:(qX:Int)<=18446744073709551615:=by omega
      have Hq64X:=Lh hq64X;clear hq64X;by_cases hendX:qX<4294967296/\vX<=mX
      ·obtain⟨hendX,hend2X⟩:=hendX;have hv64X:=Qf hendX hY0 HvX.out;have hendIX:(qX:Int)<4294967296:=by omega
       have HeqX:=Lh (show(4294967296*X+u0)/Y=qX by rw[HY.out];exact QR (by omega) HqrX.out HQX.out (by rw[HvX.out,HmX.out];exact hend2X));obtain⟨c0,c1,c2,c4,c3,Z,kc0,kc1,kc2,kc4,kc3,kZ,hZ,hZY⟩:=Qg hYp hYlt HeqX.out;have HZ:=Lh hZ;have hsmX:=JU hXY hu0 HeqX.out;have HsmX:=Lh hsmX;have hsmXI:(qX:Int)<4294967296:=by omega
       have HZY:=Lh hZY;clear hZ hZY hsmX;generalize hGQX:(qX:Int)=QX at *
       have HGQX:=Lh hGQX;clear hGQX;go_wp2;go_ret2;obtain⟨hf1,hf2⟩:=QK (by omega) HN.out.eY HN.out.all HN.out.e2 HN.out.e3 HX.out HZ.out HZY.out;have hq1:=Hqq.out;subst hq1;exact⟨Q4 (Qw hf1 HGP.out HGQX.out) (Qu hf2),rfl⟩
      ·have HmoreX:=Lh (YT (y0:=y0) (u1:=u0) (by omega) HqrX.out (by rw[←HY.out];exact hXY) hu0 (by rw[HvX.out,HmX.out];omega));obtain⟨pX,hpX⟩:∃p,qX=p+1:=⟨qX-1,by have h:=E6 (F0 _) HmoreX.out;clear HmoreX;omega⟩;obtain⟨tX,htX⟩:∃t,rX+y1=t:=⟨_,rfl⟩;have kqX:=YA hpX;have krX:(rX:Int)+(y1:Int)=(tX:Int):=by omega
       have HqtX:=Lh (UQ HqrX.out hpX htX);have HQ2X:=Lh (show(4294967296*X+u0)/(4294967296*y1+y0)<=pX by have h:=HmoreX.out;rw[hpX]at h;exact Nat.le_of_lt_succ h);have hposX:1<=(qX:Int):=by omega
       have hp0X:0<=(pX:Int):=by omega
       have hp64IX:(pX:Int)<=18446744073709551614:=by omega
       have hrbX:rX<4294967296:=by have:=HmX.out;omega
       have htbX:(tX:Int)<8589934592:=by omega
       have ht0X:0<=(tX:Int):=by omega
       have HpX:=Lh hpX;clear htX hpX;by_cases hbrX:tX<4294967296
       ·have hbrIX:(tX:Int)<4294967296:=by omega
        have HbrX:=Lh hbrX;by_cases hbigX:qX<4294967296
        ·have hv64X:=Qf hbigX hY0 HvX.out;have hgtX:mX<vX:=by omega
         have hbigIX:(qX:Int)<4294967296:=by omega
         clear hendX hbrX hbigX;generalize hGQX:(qX:Int)=QX at *
         have HGQX:=Lh hGQX;clear hGQX;generalize hGPX:(pX:Int)=PX at *
         have HGPX:=Lh hGPX;clear hGPX;generalize hGTX:(tX:Int)=TX at *
         have HGTX:=Lh hGTX;clear hGTX;go_wp2_with fail
         rw[←HGQX.out,←HGPX.out,←HGTX.out];exact⟨⟨pX,tX,rfl,rfl,HqtX.out,HQ2X.out,HbrX.out,by have:=HpX.out;have:=Hq64X.out;omega⟩,by have:=HpX.out;simp[intOf] <;> omega⟩
        ·have hbigIX:4294967296<=(qX:Int):=by omega
         clear hendX hbrX hbigX;generalize hGQX:(qX:Int)=QX at *
         have HGQX:=Lh hGQX;clear hGQX;generalize hGPX:(pX:Int)=PX at *
         have HGPX:=Lh hGPX;clear hGPX;generalize hGTX:(tX:Int)=TX at *
         have HGTX:=Lh hGTX;clear hGTX;go_wp2_with fail
         rw[←HGQX.out,←HGPX.out,←HGTX.out];exact⟨⟨pX,tX,rfl,rfl,HqtX.out,HQ2X.out,HbrX.out,by have:=HpX.out;have:=Hq64X.out;omega⟩,by have:=HpX.out;simp[intOf] <;> omega⟩
       ·have HeqX:=Lh (show(4294967296*X+u0)/Y=pX by rw[HY.out];exact QR (by omega) HqtX.out HQ2X.out (YD HqtX.out (by rw[←HY.out];exact hXY) hY0 (by omega)));have hbrIX:4294967296<=(tX:Int):=by omega
        by_cases hbigX:qX<4294967296
        ·have hv64X:=Qf hbigX hY0 HvX.out;have hgtX:mX<vX:=by omega
         have hbigIX:(qX:Int)<4294967296:=by omega
         obtain⟨c0,c1,c2,c4,c3,Z,kc0,kc1,kc2,kc4,kc3,kZ,hZ,hZY⟩:=Qg hYp hYlt HeqX.out;have HZ:=Lh hZ;have hsmX:=JU hXY hu0 HeqX.out;have HsmX:=Lh hsmX;have hsmXI:(pX:Int)<4294967296:=by omega
         have HZY:=Lh hZY;clear hZ hZY hsmX;generalize hGQX:(qX:Int)=QX at *
         have HGQX:=Lh hGQX;clear hGQX;generalize hGPX:(pX:Int)=PX at *
         have HGPX:=Lh hGPX;clear hGPX;generalize hGTX:(tX:Int)=TX at *
         have HGTX:=Lh hGTX;clear hGTX;go_wp2;go_ret2;obtain⟨hf1,hf2⟩:=QK (by omega) HN.out.eY HN.out.all HN.out.e2 HN.out.e3 HX.out HZ.out HZY.out;have hq1:=Hqq.out;subst hq1;exact⟨Q4 (Qw hf1 HGP.out HGPX.out) (Qu hf2),rfl⟩
        ·have hbigIX:4294967296<=(qX:Int):=by omega
         obtain⟨c0,c1,c2,c4,c3,Z,kc0,kc1,kc2,kc4,kc3,kZ,hZ,hZY⟩:=Qg hYp hYlt HeqX.out;have HZ:=Lh hZ;have hsmX:=JU hXY hu0 HeqX.out;have HsmX:=Lh hsmX;have hsmXI:(pX:Int)<4294967296:=by omega
         have HZY:=Lh hZY;clear hZ hZY hsmX;generalize hGQX:(qX:Int)=QX at *
         have HGQX:=Lh hGQX;clear hGQX;generalize hGPX:(pX:Int)=PX at *
         have HGPX:=Lh hGPX;clear hGPX;generalize hGTX:(tX:Int)=TX at *
         have HGTX:=Lh hGTX;clear hGTX;go_wp2;go_ret2;obtain⟨hf1,hf2⟩:=QK (by omega) HN.out.eY HN.out.all HN.out.e2 HN.out.e3 HX.out HZ.out HZY.out;have hq1:=Hqq.out;subst hq1;exact⟨Q4 (Qw hf1 HGP.out HGPX.out) (Qu hf2),rfl⟩
    ·have hbigI:4294967296<=(q:Int):=by omega
     obtain⟨a0,a1,a2,a4,a3,X,ka0,ka1,ka2,ka4,ka3,kX,hX,hXY⟩:=Qg hYp hYlt Heq.out;have HX:=Lh hX;have hsm:=JU huY hu1 Heq.out;have hsmI:(p:Int)<4294967296:=by omega
     have Hsm:=Lh hsm;obtain⟨qX,rX,pX,hqX,hpX,hprX,k8X,k9X,k10X,hqleX,hpleX,hrltX⟩:=YS X y1 hy2 hy1;have hX64:X<18446744073709551616:=by omega
     have HstX:=Lh (Ym (y0:=y0) hy2 hy1 hX64 hu0 hqX hpX hprX);clear hX hqX hpX hprX hsm;obtain⟨qq,hqq⟩:∃qq,p=qq:=⟨_,rfl⟩;have Hqq:=Lh hqq;clear hqq;generalize hGQ:(q:Int)=Q at *
     have HGQ:=Lh hGQ;clear hGQ;generalize hGP:(p:Int)=P at *
     have HGP:=Lh hGP;clear hGP;generalize hGT:(t:Int)=T at *
     have HGT:=Lh hGT;clear hGT;go_wp2_with fail
     clear k8X k9X k10X hqleX hpleX hrltX;go_loop [18,16] (fun vq vr=>Vk X y1 y0 u0 vq vr) (fun vq _=>(intOf vq).toNat)
     case atStart=>exact HstX.out
     case round=>
      obtain⟨qX,rX,rfl,rfl,hqrX,hQX,hrX,hq64X⟩:=hrel;have HqrX:=Lh hqrX;have HQX:=Lh hQX;obtain⟨vX,mX,lX,hvX,hmX,kvX,klX,kmX,hl64X,hm64X⟩:=Uj qX y0 rX u0 hrX hu0;have HvX:=Lh hvX;have HmX:=Lh hmX;clear hqrX hQX hvX hmX hrX;have hq0X:0<=(qX:Int):=by omega
      have hq64IX:(qX:Int)<=18446744073709551615:=by omega
      have Hq64X:=Lh hq64X;clear hq64X;by_cases hendX:qX<4294967296/\vX<=mX
      ·obtain⟨hendX,hend2X⟩:=hendX;have hv64X:=Qf hendX hY0 HvX.out;have hendIX:(qX:Int)<4294967296:=by omega
       have HeqX:=Lh (show(4294967296*X+u0)/Y=qX by rw[HY.out];exact QR (by omega) HqrX.out HQX.out (by rw[HvX.out,HmX.out];exact hend2X));obtain⟨c0,c1,c2,c4,c3,Z,kc0,kc1,kc2,kc4,kc3,kZ,hZ,hZY⟩:=Qg hYp hYlt HeqX.out;have HZ:=Lh hZ;have hsmX:=JU hXY hu0 HeqX.out;have HsmX:=Lh hsmX;have hsmXI:(qX:Int)<4294967296:=by omega
       have HZY:=Lh hZY;clear hZ hZY hsmX;generalize hGQX:(qX:Int)=QX at *
       have HGQX:=Lh hGQX;clear hGQX;go_wp2;go_ret2;obtain⟨hf1,hf2⟩:=QK (by omega) HN.out.eY HN.out.all HN.out.e2 HN.out.e3 HX.out HZ.out HZY.out;have hq1:=Hqq.out;subst hq1;exact⟨Q4 (Qw hf1 HGP.out HGQX.out) (Qu hf2),rfl⟩
      ·have HmoreX:=Lh (YT (y0:=y0) (u1:=u0) (by omega) HqrX.out (by rw[←HY.out];exact hXY) hu0 (by rw[HvX.out,HmX.out];omega));obtain⟨pX,hpX⟩:∃p,qX=p+1:=⟨qX-1,by have h:=E6 (F0 _) HmoreX.out;clear HmoreX;omega⟩;obtain⟨tX,htX⟩:∃t,rX+y1=t:=⟨_,rfl⟩;have kqX:=YA hpX;have krX:(rX:Int)+(y1:Int)=(tX:Int):=by omega
       have HqtX:=Lh (UQ HqrX.out hpX htX);have HQ2X:=Lh (show(4294967296*X+u0)/(4294967296*y1+y0)<=pX by have h:=HmoreX.out;rw[hpX]at h;exact Nat.le_of_lt_succ h);have hposX:1<=(qX:Int):=by omega
       have hp0X:0<=(pX:Int):=by omega
       have hp64IX:(pX:Int)<=18446744073709551614:=by omega
       have hrbX:rX<4294967296:=by have:=HmX.out;omega
       have htbX:(tX:Int)<8589934592:=by omega
       have ht0X:0<=(tX:Int):=by omega
       have HpX:=Lh hpX;clear htX hpX;by_cases hbrX:tX<4294967296
       ·have hbrIX:(tX:Int)<4294967296:=by omega
        have HbrX:=Lh hbrX;by_cases hbigX:qX<4294967296
        ·have hv64X:=Qf hbigX hY0 HvX.out;have hgtX:mX<vX:=by omega
         have hbigIX:(qX:Int)<4294967296:=by omega
         clear hendX hbrX hbigX;generalize hGQX:(qX:Int)=QX at *
         have HGQX:=Lh hGQX;clear hGQX;generalize hGPX:(pX:Int)=PX at *
         have HGPX:=Lh hGPX;clear hGPX;generalize hGTX:(tX:Int)=TX at *
         have HGTX:=Lh hGTX;clear hGTX;go_wp2_with fail
         rw[←HGQX.out,←HGPX.out,←HGTX.out];exact⟨⟨pX,tX,rfl,rfl,HqtX.out,HQ2X.out,HbrX.out,by have:=HpX.out;have:=Hq64X.out;omega⟩,by have:=HpX.out;simp[intOf] <;> omega⟩
        ·have hbigIX:4294967296<=(qX:Int):=by omega
         clear hendX hbrX hbigX;generalize hGQX:(qX:Int)=QX at *
         have HGQX:=Lh hGQX;clear hGQX;generalize hGPX:(pX:Int)=PX at *
         have HGPX:=Lh hGPX;clear hGPX;generalize hGTX:(tX:Int)=TX at *
         have HGTX:=Lh hGTX;clear hGTX;go_wp2_with fail
         rw[←HGQX.out,←HGPX.out,←HGTX.out];exact⟨⟨pX,tX,rfl,rfl,HqtX.out,HQ2X.out,HbrX.out,by have:=HpX.out;have:=Hq64X.out;omega⟩,by have:=HpX.out;simp[intOf] <;> omega⟩
       ·have HeqX:=Lh (show(4294967296*X+u0)/Y=pX by rw[HY.out];exact QR (by omega) HqtX.out HQ2X.out (YD HqtX.out (by rw[←HY.out];exact hXY) hY0 (by omega)));have hbrIX:4294967296<=(tX:Int):=by omega
        by_cases hbigX:qX<4294967296
        ·have hv64X:=Qf hbigX hY0 HvX.out;have hgtX:mX<vX:=by omega
         have hbigIX:(qX:Int)<4294967296:=by omega
         obtain⟨c0,c1,c2,c4,c3,Z,kc0,kc1,kc2,kc4,kc3,kZ,hZ,hZY⟩:=Qg hYp hYlt HeqX.out;have HZ:=Lh hZ;have hsmX:=JU hXY hu0 HeqX.out;have HsmX:=Lh hsmX;have hsmXI:(pX:Int)<4294967296:=by omega
         have HZY:=Lh hZY;clear hZ hZY hsmX;generalize hGQX:(qX:Int)=QX at *
         have HGQX:=Lh hGQX;clear hGQX;generalize hGPX:(pX:Int)=PX at *
         have HGPX:=Lh hGPX;clear hGPX;generalize hGTX:(tX:Int)=TX at *
         have HGTX:=Lh hGTX;clear hGTX;go_wp2;go_ret2;obtain⟨hf1,hf2⟩:=QK (by omega) HN.out.eY HN.out.all HN.out.e2 HN.out.e3 HX.out HZ.out HZY.out;have hq1:=Hqq.out;subst hq1;exact⟨Q4 (Qw hf1 HGP.out HGPX.out) (Qu hf2),rfl⟩
        ·have hbigIX:4294967296<=(qX:Int):=by omega
         obtain⟨c0,c1,c2,c4,c3,Z,kc0,kc1,kc2,kc4,kc3,kZ,hZ,hZY⟩:=Qg hYp hYlt HeqX.out;have HZ:=Lh hZ;have hsmX:=JU hXY hu0 HeqX.out;have HsmX:=Lh hsmX;have hsmXI:(pX:Int)<4294967296:=by omega
         have HZY:=Lh hZY;clear hZ hZY hsmX;generalize hGQX:(qX:Int)=QX at *
         have HGQX:=Lh hGQX;clear hGQX;generalize hGPX:(pX:Int)=PX at *
         have HGPX:=Lh hGPX;clear hGPX;generalize hGTX:(tX:Int)=TX at *
         have HGTX:=Lh hGTX;clear hGTX;go_wp2;go_ret2;obtain⟨hf1,hf2⟩:=QK (by omega) HN.out.eY HN.out.all HN.out.e2 HN.out.e3 HX.out HZ.out HZY.out;have hq1:=Hqq.out;subst hq1;exact⟨Q4 (Qw hf1 HGP.out HGPX.out) (Qu hf2),rfl⟩
