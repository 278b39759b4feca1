/- C11: GcdN -/
import Derived.Test.YthhobhjcnmmipaaGreatDoorC09
import Derived.Test.YthhobhjcnmmipaaGreatDoorC10
import Derived.Deep.RegionHeld3
set_option maxRecDepth 100000
set_option maxHeartbeats 16000000
namespace Go.Proofs.YthhobhjcnmmipaaGreatDoor
open Go.Value renaming int→Ji
open Go.Obj renaming cells→Jc
open Go.IntKind renaming u64→Ju,u64→FM
open _root_.Option renaming none→Jn,some→Jo
open Go renaming World→JW
open Go.World renaming cell?_setCell_other→E4,cell?_setCell_same→Fh,frozen?_setCell→Fk,cell?_of_block→Fl,setCell→Fq,size_alloc→FC,frozen?→FZ
open _root_.Nat renaming le_refl→E5,eq_zero_or_pos→E8,gcd→E9,lt_of_le_of_lt→EZ,mul_le_mul_left→Fc,mul_comm→Fg,lt_or_ge→Fj,mod_lt→Fp,le_of_mul_le_mul_right→Fr,mul_add→Ft,pow_pos→Fu,lt_of_lt_of_le→Fv,add_zero→Fx,mul_assoc→Fy,mul_left_comm→Fz,mul_zero→FD,zero_add→FG,le_trans→FH,gcd_pos_of_pos_right→FI,min_eq_left→FJ,div_le_self→FK,mul_one→FL,le_of_lt→FN,gcd_zero_right→FO,gcd_comm→FQ,zero_le→FR,mod_eq_of_lt→FT,gcd_le_right→FU,div_add_mod→FV,mul_add_mod→FX,ne_of_lt→D0,add_mul→D4
open _root_.Int renaming natCast_mul→E6,mul_le_mul_of_nonneg_left→Fa,add_mul→Fe,mul_le_mul_of_nonneg_right→Fo,mul_nonneg→Fw,mul_comm→FA,sub_mul→D3
open _root_.List renaming replicate→E7,length_replicate→EY,length_append→Fb,take_of_length_le→Fi,drop_zero→Fm,length_take→FB,length_cons→FS,nil_append→FW,take_zero→FY
open Go.RowKit.Below renaming refl→F0
open _root_.Bool renaming false_eq_true→Ff
open _root_.And renaming right→FP
open Go.RowKit
structure Sim (A C M e0 e1:Int) (x y u1 u2 v1 v2:Int) (even:Bool) (al be:Int):Prop where
 al_:al=if even then v1*C-u1*A else u1*A-v1*C
 be_:be=if even then u2*A-v2*C else v2*C-u2*A
 alx:al=M*x+(if even then v1*e1-u1*e0 else u1*e0-v1*e1)
 bey:be=M*y+(if even then u2*e0-v2*e1 else v2*e1-u2*e0)
 nn:0<=u1/\0<=u2/\0<=v1/\0<v2/\u2<=v2/\u1+u2<=v1+v2
 e:0<=e0/\e0<M/\0<=e1/\e1<M
theorem Sim.start{A C M e0 e1 x y:Int}(hA:A=M*x+e0)(hC:C=M*y+e1)(h:0<=e0/\e0<M/\0<=e1/\e1<M):Sim A C M e0 e1 x y 1 0 0 1 false A C:=by
 refine⟨by simp,by simp,by simp;exact hA,by simp;exact hC,by omega,h⟩
theorem Sim.step{A C M e0 e1 x y u1 u2 v1 v2 al be q:Int}{even:Bool}(h:Sim A C M e0 e1 x y u1 u2 v1 v2 even al be)(hq:1<=q) :
  Sim A C M e0 e1 y (x-q*y) u2 (u1+q*u2) v2 (v1+q*v2) (!even) be (al-q*be):=by
 obtain⟨h1,h2,h3,h4,⟨a,b,c,d,g,l⟩,h7⟩:=h;have n1:0<=q*u2:=Fw (by omega) b;have n2:1*v2<=q*v2:=Fo hq (by omega);have n3:(q-1)*u2<=(q-1)*v2:=Fa g (by omega);rw[D3,D3]at n3;have e1':∀s t X Y:Int,q*(s*X-t*Y)=q*s*X-q*t*Y:=fun s t X Y=>by rw[Int.mul_sub,Int.mul_assoc,Int.mul_assoc]
 have e2':q*(M*y)=M*(q*y):=Int.mul_left_comm q M y;cases even
 ·simp only[Ff,if_false,Bool.not_false]at *
  refine⟨by simpa using h2,?_,by simpa using h4,?_,⟨b,by omega,by omega,by omega,by omega,by omega⟩,h7⟩
  ·simp only[if_true];rw[h1,h2,e1',Fe,Fe];omega
  ·simp only[if_true];rw[h3,h4,Int.mul_add,e1',e2',Int.mul_sub,Fe,Fe];omega
 ·simp only[if_true,Bool.not_true]at *
  refine⟨by simpa using h2,?_,by simpa using h4,?_,⟨b,by omega,by omega,by omega,by omega,by omega⟩,h7⟩
  ·simp only[Ff,if_false];rw[h1,h2,e1',Fe,Fe];omega
  ·simp only[Ff,if_false];rw[h3,h4,Int.mul_add,e1',e2',Int.mul_sub,Fe,Fe];omega
theorem Sim.good{A C M e0 e1 x y u1 u2 v1 v2 al be:Int}{even:Bool}(h:Sim A C M e0 e1 x y u1 u2 v1 v2 even al be)(h1:v2<=y)(h2:v1+v2<=x-y):0<=be/\be<al:=by
 obtain⟨_,_,h3,h4,⟨a,b,c,d,g,l⟩,p0,p1,p2,p3⟩:=h;have hM:0<M:=by omega
 have m1:M*v2<=M*y:=Fa h1 (by omega);have m2:M*(v1+v2)<=M*(x-y):=Fa h2 (by omega);have k1:0<=u2*e0:=Fw b p0;have k2:0<=v2*e1:=Fw (by omega) p2;have k3:0<=u1*e0:=Fw a p0;have k4:0<=v1*e1:=Fw c p2;have k5:u2*e0<=u2*M:=Fa (by omega) b;have k6:u2*M<=v2*M:=Fo g (by omega);have k7:v2*e1<v2*M:=Int.mul_lt_mul_of_pos_left p3 d;have k8:v1*e1<=v1*M:=Fa (by omega) c;have k9:(u1+u2)*e0<=(v1+v2)*e0:=Fo l p0;have k10:(v1+v2)*e0<(v1+v2)*M:=Int.mul_lt_mul_of_pos_left p1 (by omega);rw[FA v2 M]at k6 k7;rw[FA v1 M]at k8;rw[Int.mul_add,Int.mul_sub]at m2;rw[Fe,Fe]at k9;rw[Fe,Fe,FA v1 M,FA v2 M]at k10;cases even
 ·simp only[Ff,if_false]at h3 h4;constructor <;> omega
 ·simp only[if_true]at h3 h4;constructor <;> omega
def Comb(m k u v:Nat)(first:Bool)(x:Nat):Prop:=if first then u*m=v*k+x else v*k=u*m+x
def Leh(m k u0 u1 v0 v1:Nat)(even:Bool):Prop:=
 v0≠0->∃x y:Nat,Comb m k u0 v0 even x/\Comb m k u1 v1 (!even) y/\E9 x y=E9 m k/\y<k/\y<x/\x<=k
structure YP (m k M e0 e1 x0:Nat) (x y u0 u1 u2 v0 v1 v2:Nat) (even:Bool):Prop where
 sim:∃al be:Int,Sim m k M e0 e1 x y u1 u2 v1 v2 even al be/\Int.gcd al be=E9 m k/\((v1=0/\be=k)\/(al<=k/\0<v1))
 top:v2*x+v1*y=x0
 le:y<=x
 xlt:x0<18446744073709551616/\x<18446744073709551616
 leh:Leh m k u0 u1 v0 v1 even
 lt:u0<18446744073709551616/\u1<18446744073709551616/\u2<18446744073709551616/\v0<18446744073709551616/\v1<18446744073709551616/\v2<18446744073709551616
theorem YP.start{m k M e0 e1 x0 y0:Nat}(hm:m=M*x0+e0)(hk:k=M*y0+e1)(h0:e0<M)(h1:e1<M)(hle:y0<=x0)(hx:x0<18446744073709551616):YP m k M e0 e1 x0 x0 y0 0 1 0 0 0 1 false:=by
 refine⟨⟨(m:Int),(k:Int),Sim.start (by rw[hm];push_cast;rfl) (by rw[hk];push_cast;rfl) ⟨by omega,by omega,by omega,by omega⟩,rfl,.inl ⟨rfl,rfl⟩⟩,by simp,hle,⟨hx,hx⟩,fun h=>absurd rfl h,by decide⟩
theorem WS(a b q:Int):Int.gcd b (a-q*b)=Int.gcd a b:=by
 rw[Int.gcd_comm a b];have h:=Int.gcd_sub_mul_right_right (m:=b) (n:=a) (k:=q);exact h
theorem YP.sum{m k M e0 e1 x0 x y u0 u1 u2 v0 v1 v2:Nat}{even:Bool}(h:YP m k M e0 e1 x0 x y u0 u1 u2 v0 v1 v2 even)(h1:v2<=y):v1+v2<18446744073709551616/\0<y:=by
 obtain⟨⟨al,be,⟨_,_,_,_,⟨_,_,_,d,_,_⟩,_⟩,_,_⟩,htop,hle,⟨hx0,_⟩,_,_⟩:=h;have hy:0<y:=by omega
 refine⟨?_,hy⟩;have p1:v2*y<=v2*x:=Fc _ hle;have p2:(v1+v2)*1<=(v1+v2)*y:=Fc _ hy;rw[FL,D4]at p2;omega
theorem YP.step{m k M e0 e1 x0 x y u0 u1 u2 v0 v1 v2:Nat}{even:Bool}(h:YP m k M e0 e1 x0 x y u0 u1 u2 v0 v1 v2 even)(h1:v2<=y)(h2:v1+v2<=x-y) :
  YP m k M e0 e1 x0 y (x%y) u1 u2 (u1+x/y*u2) v1 v2 (v1+x/y*v2) (!even):=by
 have hy:=(h.sum h1).2;obtain⟨⟨al,be,hs,hg,hc⟩,htop,hle,⟨hx0,hx⟩,hl,lt⟩:=h;have hd:=FV x y;have hr:=Fp x hy;have hq:1<=x/y:=(Nat.le_div_iff_mul_le hy).2 (by omega);obtain⟨q,hqe⟩:∃q,x/y=q:=⟨_,rfl⟩;obtain⟨r,hre⟩:∃r,x%y=r:=⟨_,rfl⟩;rw[hqe,hre]at hd;rw[hqe]at hq ⊢;rw[hre]at hr ⊢;have hxr:(x:Int)-(q:Int)*(y:Int)=(r:Int):=by rw[←E6,Fg];omega
 have hgood:=hs.good (by omega) (by omega);have hst:=hs.step (q:=(q:Int)) (by omega);rw[hxr]at hst;have htop2:(v1+q*v2)*y+v2*r=x0:=by
  rw[←htop,←hd];simp only[Ft,Fg,Fz];omega
 have hv2':v1+q*v2<=x0:=by
  have p2:(v1+q*v2)*1<=(v1+q*v2)*y:=Fc _ hy;omega
 have hnn:=hst.nn;have hvp:=hs.nn;refine⟨⟨be,al-q*be,?_,?_,.inr ⟨?_,by omega⟩⟩,htop2,by omega,⟨hx0,by omega⟩,?_,lt.2.1,lt.2.2.1,?_,lt.2.2.2.2.1,lt.2.2.2.2.2,by omega⟩
 ·have e1:((u1+q*u2:Nat):Int)=(u1:Int)+(q:Int)*(u2:Int):=by push_cast;rfl
  have e2:((v1+q*v2:Nat):Int)=(v1:Int)+(q:Int)*(v2:Int):=by push_cast;rfl
  rw[e1,e2];exact hst
 ·rw[WS,hg]
 ·rcases hc with⟨_,hc⟩|⟨hc,_⟩ <;> omega
 ·intro hv;have hal:al<=k:=by rcases hc with⟨hc,_⟩|⟨hc,_⟩ <;> omega
  refine⟨al.toNat,be.toNat,?_,?_,?_,by omega,by omega,by omega⟩
  ·have ha:=hs.al_;unfold Comb;cases even
   ·simp only[Bool.not_false,if_true,Ff,if_false]at ha ⊢;rw[←E6,←E6]at ha;omega
   ·simp only[Bool.not_true,if_true,Ff,if_false]at ha ⊢;rw[←E6,←E6]at ha;omega
  ·have ha:=hs.be_;unfold Comb;cases even
   ·simp only[Bool.not_false,Bool.not_true,Ff,if_false]at ha ⊢;rw[←E6,←E6]at ha;omega
   ·simp only[Bool.not_false,Bool.not_true,if_true]at ha ⊢;rw[←E6,←E6]at ha;omega
  ·rw[←hg];unfold Int.gcd
   congr 1 <;> omega
 ·have:(u1:Int)+(q:Int)*(u2:Int)<=(v1:Int)+(q:Int)*(v2:Int):=hnn.2.2.2.2.1;rw[←E6,←E6]at this;omega
theorem YN{j s a1 a0 lo m t:Nat}(hs:s<64)(hm:m=lo+base j*(18446744073709551616*a1+a0))(hlo:lo<base j)(h1:a1<2^(64-s))(ha0:a0<18446744073709551616)(ht:a0/2^(64-s)=t) :
  ∃e,e<base j*2^(64-s)/\m=base j*2^(64-s)*(a1*2^s+t)+e/\a1*2^s+t<18446744073709551616/\t<2^s/\a1*2^s<18446744073709551616/\(a1*2^s ||| t)=a1*2^s+t:=by
 have e:=Q0 hs;have hq:0<2^(64-s):=Fu (by decide);have hd:=FV a0 (2^(64-s));have hr:=Fp a0 hq;have ht2:t<2^s:=by rw[←ht,Nat.div_lt_iff_lt_mul hq,Fg,e];exact ha0
 rw[ht]at hd;obtain⟨r,hre⟩:∃r,a0%2^(64-s)=r:=⟨_,rfl⟩;rw[hre]at hd hr;have hle:a1*2^s+2^s<=18446744073709551616:=by
  rw[←e];have:=Nat.mul_le_mul_right (2^s) (show a1+1<=2^(64-s)from h1);rw[D4,Nat.one_mul]at this;exact this
 refine⟨lo+base j*r,?_,?_,by omega,ht2,by have:=Fu (n:=s) (show 0<2 by decide);omega,by rw[Fg a1,Nat.two_pow_add_eq_or_of_lt ht2]⟩
 ·have:=Fc (base j) (show r+1<=2^(64-s)from hr);rw[Ft,FL]at this;omega
 ·rw[hm,←hd];have e2:18446744073709551616*a1=2^(64-s)*(a1*2^s):=by rw[Fz,e,Fg]
  rw[e2];simp only[Ft,Fy];omega
structure Stp (w:JW) (p u0 u1 v0 v1:Nat) (ev:Bool):Prop where
 c0:w.cell? ⟨p,0,Jn⟩=Jo (Ji Ju (u0:Int))
 c1:w.cell? ⟨p,1,Jn⟩=Jo (Ji Ju (u1:Int))
 c2:w.cell? ⟨p,2,Jn⟩=Jo (Ji Ju (v0:Int))
 c3:w.cell? ⟨p,3,Jn⟩=Jo (Ji Ju (v1:Int))
 c4:w.cell? ⟨p,4,Jn⟩=Jo (.bool ev)
 fz:∀k,w.frozen? ⟨p,k,Jn⟩=false
 lt:p<w.heap.size
theorem Stp.keep{w w':JW}{p u0 u1 v0 v1:Nat}{ev:Bool}(h:Stp w p u0 u1 v0 v1 ev)(hb:Below w.heap.size w w'):Stp w' p u0 u1 v0 v1 ev:=
 ⟨(hb.cell (p:=⟨p,0,Jn⟩) h.lt).trans h.c0,(hb.cell (p:=⟨p,1,Jn⟩) h.lt).trans h.c1,(hb.cell (p:=⟨p,2,Jn⟩) h.lt).trans h.c2,(hb.cell (p:=⟨p,3,Jn⟩) h.lt).trans h.c3,(hb.cell (p:=⟨p,4,Jn⟩) h.lt).trans h.c4,
  fun k=>(hb.frozen (p:=⟨p,k,Jn⟩) h.lt).trans (h.fz k),Fv h.lt hb.size⟩
theorem Stp.drew{w:JW}{p u0 u1 v0 v1:Nat}{ev:Bool}(h:Stp w p u0 u1 v0 v1 ev)(n:Nat):Stp (w.drewN n) p u0 u1 v0 v1 ev:=⟨h.c0,h.c1,h.c2,h.c3,h.c4,h.fz,h.lt⟩
theorem Stp.other{w w':JW}{p u0 u1 v0 v1:Nat}{ev:Bool}(h:Stp w p u0 u1 v0 v1 ev)(hb:w'.heap[p]?=w.heap[p]?)(hs:w'.heap.size=w.heap.size):Stp w' p u0 u1 v0 v1 ev:=
 ⟨(Fl hb).trans h.c0,(Fl hb).trans h.c1,(Fl hb).trans h.c2,(Fl hb).trans h.c3,(Fl hb).trans h.c4,
  fun k=>by have:=h.fz k; simp only [FZ,hb] at this ⊢; exact this,by rw [hs]; exact h.lt⟩
theorem Stp.of_row{w:JW}{p u0 u1 v0 v1:Nat}{ev:Bool}{T:TypeId}(h:w.heap[p]?=Jo (Jc #[Ji Ju (u0:Int),Ji Ju (u1:Int),Ji Ju (v0:Int),Ji Ju (v1:Int),.bool ev] T (0,0))):Stp w p u0 u1 v0 v1 ev:=by
 refine⟨by rw[cell_of_row _ _ _ _ _ _ h];rfl,by rw[cell_of_row _ _ _ _ _ _ h];rfl,by rw[cell_of_row _ _ _ _ _ _ h];rfl,by rw[cell_of_row _ _ _ _ _ _ h];rfl,by rw[cell_of_row _ _ _ _ _ _ h];rfl,fun k=>by simp[FZ,h],?_⟩;rcases Fj p w.heap.size with h1|h1
 ·exact h1
 ·rw[Array.getElem?_eq_none h1]at h;cases h
theorem Stp.new(w:JW)(u0 u1 v0 v1:Nat)(ev:Bool)(T:TypeId):Stp (w.alloc (Jc #[Ji Ju (u0:Int),Ji Ju (u1:Int),Ji Ju (v0:Int),Ji Ju (v1:Int),.bool ev] T)) w.heap.size u0 u1 v0 v1 ev:=Stp.of_row (Ua w _)
theorem Stp.set0{w:JW}{p u0 u1 v0 v1:Nat}{ev:Bool}(h:Stp w p u0 u1 v0 v1 ev)(u:Nat):Stp (w.setCell ⟨p,0,Jn⟩ (Ji Ju (u:Int))) p u u1 v0 v1 ev:=
 ⟨Fh _ _ _ h.c0,(E4 _ _ _ _ (by simp)).trans h.c1,(E4 _ _ _ _ (by simp)).trans h.c2,(E4 _ _ _ _ (by simp)).trans h.c3,(E4 _ _ _ _ (by simp)).trans h.c4,
  fun k=>by rw [Fk]; exact h.fz k,by simpa [Fq] using h.lt⟩
theorem Stp.set1{w:JW}{p u0 u1 v0 v1:Nat}{ev:Bool}(h:Stp w p u0 u1 v0 v1 ev)(u:Nat):Stp (w.setCell ⟨p,1,Jn⟩ (Ji Ju (u:Int))) p u0 u v0 v1 ev:=
 ⟨(E4 _ _ _ _ (by simp)).trans h.c0,Fh _ _ _ h.c1,(E4 _ _ _ _ (by simp)).trans h.c2,(E4 _ _ _ _ (by simp)).trans h.c3,(E4 _ _ _ _ (by simp)).trans h.c4,
  fun k=>by rw [Fk]; exact h.fz k,by simpa [Fq] using h.lt⟩
theorem Stp.set2{w:JW}{p u0 u1 v0 v1:Nat}{ev:Bool}(h:Stp w p u0 u1 v0 v1 ev)(u:Nat):Stp (w.setCell ⟨p,2,Jn⟩ (Ji Ju (u:Int))) p u0 u1 u v1 ev:=
 ⟨(E4 _ _ _ _ (by simp)).trans h.c0,(E4 _ _ _ _ (by simp)).trans h.c1,Fh _ _ _ h.c2,(E4 _ _ _ _ (by simp)).trans h.c3,(E4 _ _ _ _ (by simp)).trans h.c4,
  fun k=>by rw [Fk]; exact h.fz k,by simpa [Fq] using h.lt⟩
theorem Stp.set3{w:JW}{p u0 u1 v0 v1:Nat}{ev:Bool}(h:Stp w p u0 u1 v0 v1 ev)(u:Nat):Stp (w.setCell ⟨p,3,Jn⟩ (Ji Ju (u:Int))) p u0 u1 v0 u ev:=
 ⟨(E4 _ _ _ _ (by simp)).trans h.c0,(E4 _ _ _ _ (by simp)).trans h.c1,(E4 _ _ _ _ (by simp)).trans h.c2,Fh _ _ _ h.c3,(E4 _ _ _ _ (by simp)).trans h.c4,
  fun k=>by rw [Fk]; exact h.fz k,by simpa [Fq] using h.lt⟩
theorem Stp.set4{w:JW}{p u0 u1 v0 v1:Nat}{ev:Bool}(h:Stp w p u0 u1 v0 v1 ev)(b:Bool):Stp (w.setCell ⟨p,4,Jn⟩ (.bool b)) p u0 u1 v0 v1 b:=
 ⟨(E4 _ _ _ _ (by simp)).trans h.c0,(E4 _ _ _ _ (by simp)).trans h.c1,(E4 _ _ _ _ (by simp)).trans h.c2,(E4 _ _ _ _ (by simp)).trans h.c3,Fh _ _ _ h.c4,
  fun k=>by rw [Fk]; exact h.fz k,by simpa [Fq] using h.lt⟩
def O5(w:JW)(m k M e0 e1 x0:Nat)(vx vy vu vv:Value)(wr:JW):Prop:=
 ∃(x y u0 u1 u2 v0 v1 v2:Nat) (ev:Bool),vx=Ji Ju (x:Nat)/\vy=Ji Ju (y:Nat)/\vu=Ji Ju (u2:Nat)/\vv=Ji Ju (v2:Nat)/\YP m k M e0 e1 x0 x y u0 u1 u2 v0 v1 v2 ev /\
  Stp wr (w.heap.size+1) u0 u1 v0 v1 ev/\Stp wr w.heap.size 0 0 0 0 false/\Below w.heap.size w wr
def Ut(m k:Nat)(w:JW)(e:Ending)(w':JW):Prop:=
 ∃(u0 u1 v0 v1:Nat) (ev:Bool),e= .returned (.agg #[Ji Ju (u0:Nat),Ji Ju (u1:Nat),Ji Ju (v0:Nat),Ji Ju (v1:Nat),.bool ev])/\Leh m k u0 u1 v0 v1 ev /\
  (u0<18446744073709551616/\u1<18446744073709551616/\v0<18446744073709551616/\v1<18446744073709551616)/\Below w.heap.size w w'
theorem UL{xs:List Nat}{j a0 a1 m:Nat}(hl:xs.length=j+2)(hw:Jy xs)(h1:xs.getD (j+1) 0=a1)(h0:xs.getD j 0=a0)(hv:Je xs=m) :
  ∃lo,m=lo+base j*(18446744073709551616*a1+a0)/\lo<base j:=by
 refine⟨Je (xs.take j),by rw[←hv];exact XM hl h1 h0,?_⟩;have h:=JH (JK hw j)
 rwa [FB,FJ (by omega)]at h
theorem Xa{j s m k x0 M e0:Nat}(_hs:s<64)(hM:M=base j*2^(64-s))(hm:m=M*x0+e0)(he:e0<M)(hk:k<=m){y0 e1:Nat}(hk2:k=M*y0+e1):y0<=x0:=by
 have hp:0<M:=by omega
 rcases Fj x0 y0 with h|h
 ·exfalso;have:M*(x0+1)<=M*y0:=Fc _ h;rw[Ft,FL]at this;omega
 ·exact h
theorem YP.words{m k M e0 e1 x0 x y u0 u1 u2 v0 v1 v2:Nat}{even:Bool}(h:YP m k M e0 e1 x0 x y u0 u1 u2 v0 v1 v2 even):u0<18446744073709551616/\u1<18446744073709551616/\v0<18446744073709551616/\v1<18446744073709551616:=
 ⟨h.lt.1,h.lt.2.1,h.lt.2.2.2.1,h.lt.2.2.2.2.1⟩
theorem Qy{w0 w:JW}{p:Nat}(h:Below w0.heap.size w0 w)(hp:w0.heap.size<=p)(a b c d e:Value) :
  Below w0.heap.size w0 (((((w.setCell ⟨p,0,Jn⟩ a).setCell ⟨p,1,Jn⟩ b).setCell ⟨p,2,Jn⟩ c).setCell ⟨p,3,Jn⟩ d).setCell ⟨p,4,Jn⟩ e):=
 ((((h.setCell (p:=⟨p,0,Jn⟩) hp a).setCell (p:=⟨p,1,Jn⟩) hp b).setCell (p:=⟨p,2,Jn⟩) hp c).setCell (p:=⟨p,3,Jn⟩) hp d).setCell (p:=⟨p,4,Jn⟩) hp e
theorem Stp.five{w:JW}{q p u0 u1 v0 v1:Nat}{ev:Bool}(h:Stp w q u0 u1 v0 v1 ev)(hq:q≠p)(a b c d e:Value) :
  Stp (((((w.setCell ⟨p,0,Jn⟩ a).setCell ⟨p,1,Jn⟩ b).setCell ⟨p,2,Jn⟩ c).setCell ⟨p,3,Jn⟩ d).setCell ⟨p,4,Jn⟩ e) q u0 u1 v0 v1 ev:=by
 have one:∀(w:JW) (i:Nat) (v:Value),Stp w q u0 u1 v0 v1 ev->Stp (w.setCell ⟨p,i,Jn⟩ v) q u0 u1 v0 v1 ev:=fun w i v h=>h.other (Below.heap_setCell w ⟨p,i,Jn⟩ v q hq) (by simp[Fq]);exact one _ _ _ (one _ _ _ (one _ _ _ (one _ _ _ (one _ _ _ h))))
theorem Vm{B B':Nat}{A A':Option Addr}{j c c' m k:Nat}{xs ys:List Nat}(w:JW)(hx:Jz B w A (j+2) c xs m)(hy:Jz B' w A' (j+2) c' ys k)(h2:2<=(j+2))(hle:k<=m) :
  Calls Tryz.prog 138 #[.slice A (j+2:Nat) c,.slice A' ((j+2):Nat) c'] w (Ut m k w):=by
 obtain⟨b,o,rfl,hb,_,hcx⟩:=hx.at (by omega);obtain⟨b',o',rfl,hb',_,hcy⟩:=hy.at (by omega);have hj:=hx.len;have hc1:=hx.isl.2.1;have hc2:=hx.cap;have hc3:=hy.isl.2.1;have hc4:=hy.cap;obtain⟨a1,ha1⟩:∃a,xs.getD (j+1) 0=a:=⟨_,rfl⟩;obtain⟨a0,ha0⟩:∃a,xs.getD j 0=a:=⟨_,rfl⟩;obtain⟨hp0,hp1,_⟩:=UJ (n:=j+1) hx.words hx.size hx.tight ha1 hx.val;have hq1:=JG hx.words j;rw[ha0]at hq1;have cx1:=hcx (j+1) (by omega);have cx0:=hcx j (by omega);rw[ha1]at cx1;rw[ha0]at cx0;obtain⟨s,hs⟩:∃s,64-Lib.bitLen a1=s:=⟨_,rfl⟩;obtain⟨hs64,hs1,hs2⟩:=Up (by omega) hp1 hs;have ha64:a1<2^(64-s):=by
  have e:=Q0 hs64;rw[←e]at hs2;have hq:0<2^s:=Fu (by decide);exact Nat.lt_of_succ_le (Fr hs2 hq)
 obtain⟨lo,hlo,hlo2⟩:=UL hx.size hx.words ha1 ha0 hx.val;obtain⟨t,ht⟩:∃t,a0/2^(64-s)=t:=⟨_,rfl⟩;obtain⟨e0,he0,hm,hx64,ht2,hl64,hor⟩:=YN hs64 hlo hlo2 ha64 hq1 ht;have ht64:t<18446744073709551616:=by omega
 obtain⟨l,hl⟩:∃l,a1*2^s=l:=⟨_,rfl⟩;rw[hl]at hm hx64 hl64 hor;obtain⟨x0,hx0⟩:∃x,l+t=x:=⟨_,rfl⟩;rw[hx0]at hm hx64 hor;have k1:IntKind.u64.wrap ((a1:Int)*2^s)=(l:Int):=by
  rw[show(a1:Int)*2^s=((a1*2^s:Nat):Int)by simp,Jr,hl];omega
 have k2:(a0:Int)/2^(64-s)=(t:Int):=by rw[←ht];simp
 have k3:bits BinOp.or FM (l:Int) (t:Int)=(x0:Int):=by rw[bits_or_u64_nat _ _ hl64 ht64,hor]
 obtain⟨b1,hb1⟩:∃a,ys.getD (j+1) 0=a:=⟨_,rfl⟩;obtain⟨b0,hb0⟩:∃a,ys.getD j 0=a:=⟨_,rfl⟩;have hq2:=JG hy.words (j+1);have hq3:=JG hy.words j;have cy1:=hcy (j+1) (by omega);have cy0:=hcy j (by omega);rw[hb1]at cy1 hq2;rw[hb0]at cy0 hq3;obtain⟨lo2,hlo3,hlo4⟩:=UL hy.size hy.words hb1 hb0 hy.val;have hba:b1<=a1:=by
  rcases Fj a1 b1 with h|h
  ·exfalso;have h1:18446744073709551616*a1+a0+1<=18446744073709551616*b1+b0:=by omega
   have h2:=Fc (base j) h1;rw[Ft,FL]at h2;omega
  ·exact h
 obtain⟨t2,ht3⟩:∃t,b0/2^(64-s)=t:=⟨_,rfl⟩;obtain⟨e1,he1,hk,hy64,ht4,hl65,hor2⟩:=YN hs64 hlo3 hlo4 (EZ hba ha64) hq3 ht3;have ht65:t2<18446744073709551616:=by omega
 obtain⟨l2,hl2⟩:∃l,b1*2^s=l:=⟨_,rfl⟩;rw[hl2]at hk hy64 hl65 hor2;obtain⟨y0,hy0⟩:∃x,l2+t2=x:=⟨_,rfl⟩;rw[hy0]at hk hy64 hor2;have k4:IntKind.u64.wrap ((b1:Int)*2^s)=(l2:Int):=by
  rw[show(b1:Int)*2^s=((b1*2^s:Nat):Int)by simp,Jr,hl2];omega
 have k5:(b0:Int)/2^(64-s)=(t2:Int):=by rw[←ht3];simp
 have k6:bits BinOp.or FM (l2:Int) (t2:Int)=(y0:Int):=by rw[bits_or_u64_nat _ _ hl65 ht65,hor2]
 obtain⟨M,hM⟩:∃M,base j*2^(64-s)=M:=⟨_,rfl⟩;rw[hM]at he0 hm he1 hk;have Hst:=Lh (YP.start hm hk he0 he1 (Xa hs64 hM.symm hm he0 hle hk) hx64);have Hlz:=Lh (Oc a1 s hp1 (by omega) hs);have hs63:(s:Int)<=63:=by omega
 have Hr:=Lh (Stp.new w 0 0 0 0 false 196);have Kb:=Lh ((F0 w.heap.size w).alloc (E5 _) (Jc #[Ji Ju 0,Ji Ju 0,Ji Ju 0,Ji Ju 0,.bool false] 196));clear hx hy hcx hcy ha1 ha0 hs hs1 hs2 ha64 hlo hlo2 ht he0 he1 hm hk hor hl hx0 hM hle hb1 hb0 hlo3 hlo4 hba ht3 hor2 hl2 hy0;go_enter Tryz.func138,Tryz.ntmps138;go_wp2_with fail
 refine(Hlz.out _).mono ?_;rintro e w1⟨rfl,rfl⟩;go_wp2_with fail
 go_region
 all_goals
  go_wp2_with fail
  go_region
  all_goals
  go_wp2_with fail
  have Hs1:=Lh (Stp.new (w.alloc (Jc #[Ji Ju 0,Ji Ju 0,Ji Ju 0,Ji Ju 0,.bool false] 196)) 0 1 0 0 false 196);have Ks1:=Lh (below_drewN (Kb.out.alloc (show w.heap.size<=_ by simp) (Jc #[Ji Ju 0,Ji Ju 1,Ji Ju 0,Ji Ju 0,.bool false] 196)) 2);simp only[FC]at Hs1;go_loopw [7,8,10,11] (fun vx vy vu vv wr=>O5 w m k M e0 e1 x0 vx vy vu vv wr) (fun _ vy _ _ _=>(intOf vy).toNat)
  case atStart=>
   exact⟨x0,y0,0,1,0,0,0,1,false,rfl,rfl,rfl,rfl,Hst.out,Hs1.out.drew 2,(Hr.out.keep ((F0 _ _).alloc (E5 _) _)).drew 2,Ks1.out⟩
  case round=>
   obtain⟨x,y,u0,u1,u2,v0,v1,v2,ev,rfl,rfl,rfl,rfl,hst,hs1,hr1,hb1⟩:=hrel;have HST:=Lh hst;have HS:=Lh hs1;have HR:=Lh hr1;have HB:=Lh hb1;have c0:=hs1.c0;have c1:=hs1.c1;have c2:=hs1.c2;have c3:=hs1.c3;have c4:=hs1.c4;have hle:=hst.le;have hx:=hst.xlt.2;by_cases h1:v2<=y
   ·obtain⟨hg,hy⟩:=hst.sum h1;obtain⟨d,hd⟩:∃d,x-y=d:=⟨_,rfl⟩;obtain⟨g,hgg⟩:∃g,v1+v2=g:=⟨_,rfl⟩;have e1:IntKind.u64.wrap ((x:Int)-(y:Int))=(d:Int):=by rw[Jr];omega
    have e2:IntKind.u64.wrap ((v1:Int)+(v2:Int))=(g:Int):=by rw[Jr];omega
    by_cases h2:g<=d
    ·have hstep:=hst.step h1 (by omega);have f0:=hs1.fz 0;have f1:=hs1.fz 1;have f2:=hs1.fz 2;have f3:=hs1.fz 3;have f4:=hs1.fz 4;obtain⟨q,hq⟩:∃q,x/y=q:=⟨_,rfl⟩;obtain⟨r,hr⟩:∃r,x%y=r:=⟨_,rfl⟩;have hr2:=Fp x hy;rw[hq,hr]at hstep;rw[hr]at hr2;obtain⟨qu,hqu⟩:∃t,q*u2=t:=⟨_,rfl⟩;obtain⟨qv,hqv⟩:∃t,q*v2=t:=⟨_,rfl⟩;rw[hqu,hqv]at hstep;obtain⟨nu,hnu⟩:∃t,u1+qu=t:=⟨_,rfl⟩;obtain⟨nv,hnv⟩:∃t,v1+qv=t:=⟨_,rfl⟩;rw[hnu,hnv]at hstep;have l1:=hstep.lt.2.2.1;have l2:=hstep.lt.2.2.2.2.2;have t0:((y:Int) ==0)=false:=by rw[beq_eq_false_iff_ne];omega
     have e3:(x:Int)/(y:Int)=(q:Int):=by rw[←hq];simp
     have e4:(x:Int)%(y:Int)=(r:Int):=by rw[←hr];simp
     have e0':IntKind.u64.wrap (q:Int)=(q:Int):=by
      have:q<=x:=by rw[←hq];exact FK _ _
      rw[Jr];omega
     have e5:IntKind.u64.wrap ((q:Int)*(u2:Int))=(qu:Int):=by rw[←E6,hqu,Jr];omega
     have e6:IntKind.u64.wrap ((q:Int)*(v2:Int))=(qv:Int):=by rw[←E6,hqv,Jr];omega
     have e7:IntKind.u64.wrap ((u1:Int)+(qu:Int))=(nu:Int):=by rw[Jr];omega
     have e8:IntKind.u64.wrap ((v1:Int)+(qv:Int))=(nv:Int):=by rw[Jr];omega
     have Hstep:=Lh hstep;have Hr2:=Lh hr2;clear hst hs1 hr1 hb1 hg hd hgg hstep hq hr hr2 hqu hqv hnu hnv;go_wp2_with fail
     go_region
     all_goals
      have HSn:=Lh ((((((HS.out.set0 u1).set1 u2).set2 v1).set3 v2).set4 (!ev)).drew 1);have HRn:=Lh ((HR.out.five (show w.heap.size≠w.heap.size+1 by omega) (Ji Ju (u1:Int)) (Ji Ju (u2:Int)) (Ji Ju (v1:Int)) (Ji Ju (v2:Int)) (.bool (!ev))).drew 1);have HBn:=Lh (Qy HB.out (show w.heap.size<=w.heap.size+1 by omega) (Ji Ju (u1:Int)) (Ji Ju (u2:Int)) (Ji Ju (v1:Int)) (Ji Ju (v2:Int)) (.bool (!ev))).drew;have HM:=Lh (show(intOf (Ji Ju (r:Int))).toNat<(intOf (Ji Ju (y:Int))).toNat by simpa[intOf]using Hr2.out);clear Hr2;go_wp2_with fail
      simp only[e4];exact⟨⟨y,r,u1,u2,nu,v1,v2,nv,!ev,rfl,rfl,rfl,rfl,Hstep.out,HSn.out,HRn.out,HBn.out⟩,HM.out⟩
    ·have k0:=HR.out.c0;have k1:=HR.out.c1;have k2:=HR.out.c2;have k3:=HR.out.c3;have k4:=HR.out.c4;have f0:=HR.out.fz 0;have f1:=HR.out.fz 1;have f2:=HR.out.fz 2;have f3:=HR.out.fz 3;have f4:=HR.out.fz 4;clear hst hs1 hr1 hb1 hg hd hgg;go_wp2;exact bodyPost_ret (v:= .agg #[Ji Ju (u0:Nat),Ji Ju (u1:Nat),Ji Ju (v0:Nat),Ji Ju (v1:Nat),.bool ev]) (by simp[results,Tryz.results138,go_sem,k0,k1,k2,k3,k4]) rfl ⟨u0,u1,v0,v1,ev,rfl,HST.out.leh,HST.out.words,Qy HB.out (E5 _) _ _ _ _ _⟩
   ·have k0:=HR.out.c0;have k1:=HR.out.c1;have k2:=HR.out.c2;have k3:=HR.out.c3;have k4:=HR.out.c4;have f0:=HR.out.fz 0;have f1:=HR.out.fz 1;have f2:=HR.out.fz 2;have f3:=HR.out.fz 3;have f4:=HR.out.fz 4;clear hst hs1 hr1 hb1;go_wp2;exact bodyPost_ret (v:= .agg #[Ji Ju (u0:Nat),Ji Ju (u1:Nat),Ji Ju (v0:Nat),Ji Ju (v1:Nat),.bool ev]) (by simp[results,Tryz.results138,go_sem,k0,k1,k2,k3,k4]) rfl ⟨u0,u1,v0,v1,ev,rfl,HST.out.leh,HST.out.words,Qy HB.out (E5 _) _ _ _ _ _⟩
theorem Vn{B B':Nat}{A A':Option Addr}{j c c' m k:Nat}{xs ys:List Nat}(w:JW)(hx:Jz B w A (j+2) c xs m)(hy:Jz B' w A' (j+1) c' ys k)(h2:2<=(j+1))(hle:k<=m) :
  Calls Tryz.prog 138 #[.slice A (j+2:Nat) c,.slice A' ((j+1):Nat) c'] w (Ut m k w):=by
 obtain⟨b,o,rfl,hb,_,hcx⟩:=hx.at (by omega);obtain⟨b',o',rfl,hb',_,hcy⟩:=hy.at (by omega);have hj:=hx.len;have hc1:=hx.isl.2.1;have hc2:=hx.cap;have hc3:=hy.isl.2.1;have hc4:=hy.cap;obtain⟨a1,ha1⟩:∃a,xs.getD (j+1) 0=a:=⟨_,rfl⟩;obtain⟨a0,ha0⟩:∃a,xs.getD j 0=a:=⟨_,rfl⟩;obtain⟨hp0,hp1,_⟩:=UJ (n:=j+1) hx.words hx.size hx.tight ha1 hx.val;have hq1:=JG hx.words j;rw[ha0]at hq1;have cx1:=hcx (j+1) (by omega);have cx0:=hcx j (by omega);rw[ha1]at cx1;rw[ha0]at cx0;obtain⟨s,hs⟩:∃s,64-Lib.bitLen a1=s:=⟨_,rfl⟩;obtain⟨hs64,hs1,hs2⟩:=Up (by omega) hp1 hs;have ha64:a1<2^(64-s):=by
  have e:=Q0 hs64;rw[←e]at hs2;have hq:0<2^s:=Fu (by decide);exact Nat.lt_of_succ_le (Fr hs2 hq)
 obtain⟨lo,hlo,hlo2⟩:=UL hx.size hx.words ha1 ha0 hx.val;obtain⟨t,ht⟩:∃t,a0/2^(64-s)=t:=⟨_,rfl⟩;obtain⟨e0,he0,hm,hx64,ht2,hl64,hor⟩:=YN hs64 hlo hlo2 ha64 hq1 ht;have ht64:t<18446744073709551616:=by omega
 obtain⟨l,hl⟩:∃l,a1*2^s=l:=⟨_,rfl⟩;rw[hl]at hm hx64 hl64 hor;obtain⟨x0,hx0⟩:∃x,l+t=x:=⟨_,rfl⟩;rw[hx0]at hm hx64 hor;have k1:IntKind.u64.wrap ((a1:Int)*2^s)=(l:Int):=by
  rw[show(a1:Int)*2^s=((a1*2^s:Nat):Int)by simp,Jr,hl];omega
 have k2:(a0:Int)/2^(64-s)=(t:Int):=by rw[←ht];simp
 have k3:bits BinOp.or FM (l:Int) (t:Int)=(x0:Int):=by rw[bits_or_u64_nat _ _ hl64 ht64,hor]
 obtain⟨b0,hb0⟩:∃a,ys.getD j 0=a:=⟨_,rfl⟩;have hq3:=JG hy.words j;have cy0:=hcy j (by omega);rw[hb0]at cy0 hq3;have hlo3:k=Je (ys.take j)+base j*(18446744073709551616*0+b0):=by
  have e:=JX (xs:=ys) (k:=j) hb0;rw[Fi (by rw[hy.size];exact E5 _),hy.val]at e;rw[e,FD,FG]
 have hlo4:Je (ys.take j)<base j:=by
  have h:=JH (JK hy.words j)
  rwa [FB,hy.size,FJ (by omega)]at h
 obtain⟨t2,ht3⟩:∃t,b0/2^(64-s)=t:=⟨_,rfl⟩;obtain⟨e1,he1,hk,_,ht4,_,_⟩:=YN hs64 hlo3 hlo4 (Fu (by decide)) hq3 ht3;rw[Nat.zero_mul,FG]at hk;have ht65:t2<18446744073709551616:=by omega
 have k5:(b0:Int)/2^(64-s)=(t2:Int):=by rw[←ht3];simp
 have t1:((j:Int)+1 ==(j:Int)+2)=false:=by rw[beq_eq_false_iff_ne];omega
 have t2':(((j+1:Nat):Int) ==(j:Int)+2)=false:=by rw[beq_eq_false_iff_ne];omega
 obtain⟨M,hM⟩:∃M,base j*2^(64-s)=M:=⟨_,rfl⟩;rw[hM]at he0 hm he1 hk;have Hst:=Lh (YP.start hm hk he0 he1 (Xa hs64 hM.symm hm he0 hle hk) hx64);have Hlz:=Lh (Oc a1 s hp1 (by omega) hs);have hs63:(s:Int)<=63:=by omega
 have Hr:=Lh (Stp.new w 0 0 0 0 false 196);have Kb:=Lh ((F0 w.heap.size w).alloc (E5 _) (Jc #[Ji Ju 0,Ji Ju 0,Ji Ju 0,Ji Ju 0,.bool false] 196));clear hx hy hcx hcy ha1 ha0 hs hs1 hs2 ha64 hlo hlo2 ht he0 he1 hm hk hor hl hx0 hM hle hb0 hlo3 hlo4 ht3;go_enter Tryz.func138,Tryz.ntmps138;go_wp2_with fail
 refine(Hlz.out _).mono ?_;rintro e w1⟨rfl,rfl⟩;go_wp2_with fail
 go_region
 all_goals
  go_wp2_with fail
  have Hs1:=Lh (Stp.new (w.alloc (Jc #[Ji Ju 0,Ji Ju 0,Ji Ju 0,Ji Ju 0,.bool false] 196)) 0 1 0 0 false 196);have Ks1:=Lh (below_drewN (Kb.out.alloc (show w.heap.size<=_ by simp) (Jc #[Ji Ju 0,Ji Ju 1,Ji Ju 0,Ji Ju 0,.bool false] 196)) 1);simp only[FC]at Hs1;go_loopw [7,8,10,11] (fun vx vy vu vv wr=>O5 w m k M e0 e1 x0 vx vy vu vv wr) (fun _ vy _ _ _=>(intOf vy).toNat)
  case atStart=>
   exact⟨x0,t2,0,1,0,0,0,1,false,rfl,rfl,rfl,rfl,Hst.out,Hs1.out.drew 1,(Hr.out.keep ((F0 _ _).alloc (E5 _) _)).drew 1,Ks1.out⟩
  case round=>
   obtain⟨x,y,u0,u1,u2,v0,v1,v2,ev,rfl,rfl,rfl,rfl,hst,hs1,hr1,hb1⟩:=hrel;have HST:=Lh hst;have HS:=Lh hs1;have HR:=Lh hr1;have HB:=Lh hb1;have c0:=hs1.c0;have c1:=hs1.c1;have c2:=hs1.c2;have c3:=hs1.c3;have c4:=hs1.c4;have hle:=hst.le;have hx:=hst.xlt.2;by_cases h1:v2<=y
   ·obtain⟨hg,hy⟩:=hst.sum h1;obtain⟨d,hd⟩:∃d,x-y=d:=⟨_,rfl⟩;obtain⟨g,hgg⟩:∃g,v1+v2=g:=⟨_,rfl⟩;have e1:IntKind.u64.wrap ((x:Int)-(y:Int))=(d:Int):=by rw[Jr];omega
    have e2:IntKind.u64.wrap ((v1:Int)+(v2:Int))=(g:Int):=by rw[Jr];omega
    by_cases h2:g<=d
    ·have hstep:=hst.step h1 (by omega);have f0:=hs1.fz 0;have f1:=hs1.fz 1;have f2:=hs1.fz 2;have f3:=hs1.fz 3;have f4:=hs1.fz 4;obtain⟨q,hq⟩:∃q,x/y=q:=⟨_,rfl⟩;obtain⟨r,hr⟩:∃r,x%y=r:=⟨_,rfl⟩;have hr2:=Fp x hy;rw[hq,hr]at hstep;rw[hr]at hr2;obtain⟨qu,hqu⟩:∃t,q*u2=t:=⟨_,rfl⟩;obtain⟨qv,hqv⟩:∃t,q*v2=t:=⟨_,rfl⟩;rw[hqu,hqv]at hstep;obtain⟨nu,hnu⟩:∃t,u1+qu=t:=⟨_,rfl⟩;obtain⟨nv,hnv⟩:∃t,v1+qv=t:=⟨_,rfl⟩;rw[hnu,hnv]at hstep;have l1:=hstep.lt.2.2.1;have l2:=hstep.lt.2.2.2.2.2;have t0:((y:Int) ==0)=false:=by rw[beq_eq_false_iff_ne];omega
     have e3:(x:Int)/(y:Int)=(q:Int):=by rw[←hq];simp
     have e4:(x:Int)%(y:Int)=(r:Int):=by rw[←hr];simp
     have e0':IntKind.u64.wrap (q:Int)=(q:Int):=by
      have:q<=x:=by rw[←hq];exact FK _ _
      rw[Jr];omega
     have e5:IntKind.u64.wrap ((q:Int)*(u2:Int))=(qu:Int):=by rw[←E6,hqu,Jr];omega
     have e6:IntKind.u64.wrap ((q:Int)*(v2:Int))=(qv:Int):=by rw[←E6,hqv,Jr];omega
     have e7:IntKind.u64.wrap ((u1:Int)+(qu:Int))=(nu:Int):=by rw[Jr];omega
     have e8:IntKind.u64.wrap ((v1:Int)+(qv:Int))=(nv:Int):=by rw[Jr];omega
     have Hstep:=Lh hstep;have Hr2:=Lh hr2;clear hst hs1 hr1 hb1 hg hd hgg hstep hq hr hr2 hqu hqv hnu hnv;go_wp2_with fail
     go_region
     all_goals
      have HSn:=Lh ((((((HS.out.set0 u1).set1 u2).set2 v1).set3 v2).set4 (!ev)).drew 1);have HRn:=Lh ((HR.out.five (show w.heap.size≠w.heap.size+1 by omega) (Ji Ju (u1:Int)) (Ji Ju (u2:Int)) (Ji Ju (v1:Int)) (Ji Ju (v2:Int)) (.bool (!ev))).drew 1);have HBn:=Lh (Qy HB.out (show w.heap.size<=w.heap.size+1 by omega) (Ji Ju (u1:Int)) (Ji Ju (u2:Int)) (Ji Ju (v1:Int)) (Ji Ju (v2:Int)) (.bool (!ev))).drew;have HM:=Lh (show(intOf (Ji Ju (r:Int))).toNat<(intOf (Ji Ju (y:Int))).toNat by simpa[intOf]using Hr2.out);clear Hr2;go_wp2_with fail
      simp only[e4];exact⟨⟨y,r,u1,u2,nu,v1,v2,nv,!ev,rfl,rfl,rfl,rfl,Hstep.out,HSn.out,HRn.out,HBn.out⟩,HM.out⟩
    ·have k0:=HR.out.c0;have k1:=HR.out.c1;have k2:=HR.out.c2;have k3:=HR.out.c3;have k4:=HR.out.c4;have f0:=HR.out.fz 0;have f1:=HR.out.fz 1;have f2:=HR.out.fz 2;have f3:=HR.out.fz 3;have f4:=HR.out.fz 4;clear hst hs1 hr1 hb1 hg hd hgg;go_wp2;exact bodyPost_ret (v:= .agg #[Ji Ju (u0:Nat),Ji Ju (u1:Nat),Ji Ju (v0:Nat),Ji Ju (v1:Nat),.bool ev]) (by simp[results,Tryz.results138,go_sem,k0,k1,k2,k3,k4]) rfl ⟨u0,u1,v0,v1,ev,rfl,HST.out.leh,HST.out.words,Qy HB.out (E5 _) _ _ _ _ _⟩
   ·have k0:=HR.out.c0;have k1:=HR.out.c1;have k2:=HR.out.c2;have k3:=HR.out.c3;have k4:=HR.out.c4;have f0:=HR.out.fz 0;have f1:=HR.out.fz 1;have f2:=HR.out.fz 2;have f3:=HR.out.fz 3;have f4:=HR.out.fz 4;clear hst hs1 hr1 hb1;go_wp2;exact bodyPost_ret (v:= .agg #[Ji Ju (u0:Nat),Ji Ju (u1:Nat),Ji Ju (v0:Nat),Ji Ju (v1:Nat),.bool ev]) (by simp[results,Tryz.results138,go_sem,k0,k1,k2,k3,k4]) rfl ⟨u0,u1,v0,v1,ev,rfl,HST.out.leh,HST.out.words,Qy HB.out (E5 _) _ _ _ _ _⟩
theorem XD{B B':Nat}{A A':Option Addr}{j c n' c' m k:Nat}{xs ys:List Nat}(w:JW)(hx:Jz B w A (j+2) c xs m)(hy:Jz B' w A' n' c' ys k)(h2:2<=n')(hle:k<=m)(hlt:n'<j+1) :
  Calls Tryz.prog 138 #[.slice A (j+2:Nat) c,.slice A' (n':Nat) c'] w (Ut m k w):=by
 obtain⟨b,o,rfl,hb,_,hcx⟩:=hx.at (by omega);obtain⟨b',o',rfl,hb',_,hcy⟩:=hy.at (by omega);have hj:=hx.len;have hc1:=hx.isl.2.1;have hc2:=hx.cap;have hc3:=hy.isl.2.1;have hc4:=hy.cap;obtain⟨a1,ha1⟩:∃a,xs.getD (j+1) 0=a:=⟨_,rfl⟩;obtain⟨a0,ha0⟩:∃a,xs.getD j 0=a:=⟨_,rfl⟩;obtain⟨hp0,hp1,_⟩:=UJ (n:=j+1) hx.words hx.size hx.tight ha1 hx.val;have hq1:=JG hx.words j;rw[ha0]at hq1;have cx1:=hcx (j+1) (by omega);have cx0:=hcx j (by omega);rw[ha1]at cx1;rw[ha0]at cx0;obtain⟨s,hs⟩:∃s,64-Lib.bitLen a1=s:=⟨_,rfl⟩;obtain⟨hs64,hs1,hs2⟩:=Up (by omega) hp1 hs;have ha64:a1<2^(64-s):=by
  have e:=Q0 hs64;rw[←e]at hs2;have hq:0<2^s:=Fu (by decide);exact Nat.lt_of_succ_le (Fr hs2 hq)
 obtain⟨lo,hlo,hlo2⟩:=UL hx.size hx.words ha1 ha0 hx.val;obtain⟨t,ht⟩:∃t,a0/2^(64-s)=t:=⟨_,rfl⟩;obtain⟨e0,he0,hm,hx64,ht2,hl64,hor⟩:=YN hs64 hlo hlo2 ha64 hq1 ht;have ht64:t<18446744073709551616:=by omega
 obtain⟨l,hl⟩:∃l,a1*2^s=l:=⟨_,rfl⟩;rw[hl]at hm hx64 hl64 hor;obtain⟨x0,hx0⟩:∃x,l+t=x:=⟨_,rfl⟩;rw[hx0]at hm hx64 hor;have k1:IntKind.u64.wrap ((a1:Int)*2^s)=(l:Int):=by
  rw[show(a1:Int)*2^s=((a1*2^s:Nat):Int)by simp,Jr,hl];omega
 have k2:(a0:Int)/2^(64-s)=(t:Int):=by rw[←ht];simp
 have k3:bits BinOp.or FM (l:Int) (t:Int)=(x0:Int):=by rw[bits_or_u64_nat _ _ hl64 ht64,hor]
 have hlo4:k<base j:=by
  have h:=JH hy.words;rw[hy.size,hy.val]at h;exact Fv h (Us (by omega))
 obtain⟨e1,he1,hk⟩:∃e1,e1<base j*2^(64-s)/\k=base j*2^(64-s)*0+e1:=⟨k,Fv hlo4 (Nat.le_mul_of_pos_right _ (Fu (by decide))),by simp⟩;have t1:((n':Int) ==(j:Int)+2)=false:=by rw[beq_eq_false_iff_ne];omega
 have t2':((n':Int) ==(j:Int)+1)=false:=by rw[beq_eq_false_iff_ne];omega
 have t3':((n':Int) ==(j:Int)+2-1)=false:=by rw[beq_eq_false_iff_ne];omega
 obtain⟨M,hM⟩:∃M,base j*2^(64-s)=M:=⟨_,rfl⟩;rw[hM]at he0 hm he1 hk;have Hst:=Lh (YP.start hm hk he0 he1 (Xa hs64 hM.symm hm he0 hle hk) hx64);have Hlz:=Lh (Oc a1 s hp1 (by omega) hs);have hs63:(s:Int)<=63:=by omega
 have Hr:=Lh (Stp.new w 0 0 0 0 false 196);have Kb:=Lh ((F0 w.heap.size w).alloc (E5 _) (Jc #[Ji Ju 0,Ji Ju 0,Ji Ju 0,Ji Ju 0,.bool false] 196));clear hx hy hcx hcy ha1 ha0 hs hs1 hs2 ha64 hlo hlo2 ht he0 he1 hm hk hor hl hx0 hM hle hlo4;go_enter Tryz.func138,Tryz.ntmps138;go_wp2_with fail
 refine(Hlz.out _).mono ?_;rintro e w1⟨rfl,rfl⟩;go_wp2_with fail
 go_region
 all_goals
  go_wp2_with fail
  have Hs1:=Lh (Stp.new (w.alloc (Jc #[Ji Ju 0,Ji Ju 0,Ji Ju 0,Ji Ju 0,.bool false] 196)) 0 1 0 0 false 196);have Ks1:=Lh (below_drewN (Kb.out.alloc (show w.heap.size<=_ by simp) (Jc #[Ji Ju 0,Ji Ju 1,Ji Ju 0,Ji Ju 0,.bool false] 196)) 1);simp only[FC]at Hs1;go_loopw [7,8,10,11] (fun vx vy vu vv wr=>O5 w m k M e0 e1 x0 vx vy vu vv wr) (fun _ vy _ _ _=>(intOf vy).toNat)
  case atStart=>
   exact⟨x0,0,0,1,0,0,0,1,false,rfl,rfl,rfl,rfl,Hst.out,Hs1.out.drew 1,(Hr.out.keep ((F0 _ _).alloc (E5 _) _)).drew 1,Ks1.out⟩
  case round=>
   obtain⟨x,y,u0,u1,u2,v0,v1,v2,ev,rfl,rfl,rfl,rfl,hst,hs1,hr1,hb1⟩:=hrel;have HST:=Lh hst;have HS:=Lh hs1;have HR:=Lh hr1;have HB:=Lh hb1;have c0:=hs1.c0;have c1:=hs1.c1;have c2:=hs1.c2;have c3:=hs1.c3;have c4:=hs1.c4;have hle:=hst.le;have hx:=hst.xlt.2;by_cases h1:v2<=y
   ·obtain⟨hg,hy⟩:=hst.sum h1;obtain⟨d,hd⟩:∃d,x-y=d:=⟨_,rfl⟩;obtain⟨g,hgg⟩:∃g,v1+v2=g:=⟨_,rfl⟩;have e1:IntKind.u64.wrap ((x:Int)-(y:Int))=(d:Int):=by rw[Jr];omega
    have e2:IntKind.u64.wrap ((v1:Int)+(v2:Int))=(g:Int):=by rw[Jr];omega
    by_cases h2:g<=d
    ·have hstep:=hst.step h1 (by omega);have f0:=hs1.fz 0;have f1:=hs1.fz 1;have f2:=hs1.fz 2;have f3:=hs1.fz 3;have f4:=hs1.fz 4;obtain⟨q,hq⟩:∃q,x/y=q:=⟨_,rfl⟩;obtain⟨r,hr⟩:∃r,x%y=r:=⟨_,rfl⟩;have hr2:=Fp x hy;rw[hq,hr]at hstep;rw[hr]at hr2;obtain⟨qu,hqu⟩:∃t,q*u2=t:=⟨_,rfl⟩;obtain⟨qv,hqv⟩:∃t,q*v2=t:=⟨_,rfl⟩;rw[hqu,hqv]at hstep;obtain⟨nu,hnu⟩:∃t,u1+qu=t:=⟨_,rfl⟩;obtain⟨nv,hnv⟩:∃t,v1+qv=t:=⟨_,rfl⟩;rw[hnu,hnv]at hstep;have l1:=hstep.lt.2.2.1;have l2:=hstep.lt.2.2.2.2.2;have t0:((y:Int) ==0)=false:=by rw[beq_eq_false_iff_ne];omega
     have e3:(x:Int)/(y:Int)=(q:Int):=by rw[←hq];simp
     have e4:(x:Int)%(y:Int)=(r:Int):=by rw[←hr];simp
     have e0':IntKind.u64.wrap (q:Int)=(q:Int):=by
      have:q<=x:=by rw[←hq];exact FK _ _
      rw[Jr];omega
     have e5:IntKind.u64.wrap ((q:Int)*(u2:Int))=(qu:Int):=by rw[←E6,hqu,Jr];omega
     have e6:IntKind.u64.wrap ((q:Int)*(v2:Int))=(qv:Int):=by rw[←E6,hqv,Jr];omega
     have e7:IntKind.u64.wrap ((u1:Int)+(qu:Int))=(nu:Int):=by rw[Jr];omega
     have e8:IntKind.u64.wrap ((v1:Int)+(qv:Int))=(nv:Int):=by rw[Jr];omega
     have Hstep:=Lh hstep;have Hr2:=Lh hr2;clear hst hs1 hr1 hb1 hg hd hgg hstep hq hr hr2 hqu hqv hnu hnv;go_wp2_with fail
     go_region
     all_goals
      have HSn:=Lh ((((((HS.out.set0 u1).set1 u2).set2 v1).set3 v2).set4 (!ev)).drew 1);have HRn:=Lh ((HR.out.five (show w.heap.size≠w.heap.size+1 by omega) (Ji Ju (u1:Int)) (Ji Ju (u2:Int)) (Ji Ju (v1:Int)) (Ji Ju (v2:Int)) (.bool (!ev))).drew 1);have HBn:=Lh (Qy HB.out (show w.heap.size<=w.heap.size+1 by omega) (Ji Ju (u1:Int)) (Ji Ju (u2:Int)) (Ji Ju (v1:Int)) (Ji Ju (v2:Int)) (.bool (!ev))).drew;have HM:=Lh (show(intOf (Ji Ju (r:Int))).toNat<(intOf (Ji Ju (y:Int))).toNat by simpa[intOf]using Hr2.out);clear Hr2;go_wp2_with fail
      simp only[e4];exact⟨⟨y,r,u1,u2,nu,v1,v2,nv,!ev,rfl,rfl,rfl,rfl,Hstep.out,HSn.out,HRn.out,HBn.out⟩,HM.out⟩
    ·have k0:=HR.out.c0;have k1:=HR.out.c1;have k2:=HR.out.c2;have k3:=HR.out.c3;have k4:=HR.out.c4;have f0:=HR.out.fz 0;have f1:=HR.out.fz 1;have f2:=HR.out.fz 2;have f3:=HR.out.fz 3;have f4:=HR.out.fz 4;clear hst hs1 hr1 hb1 hg hd hgg;go_wp2;exact bodyPost_ret (v:= .agg #[Ji Ju (u0:Nat),Ji Ju (u1:Nat),Ji Ju (v0:Nat),Ji Ju (v1:Nat),.bool ev]) (by simp[results,Tryz.results138,go_sem,k0,k1,k2,k3,k4]) rfl ⟨u0,u1,v0,v1,ev,rfl,HST.out.leh,HST.out.words,Qy HB.out (E5 _) _ _ _ _ _⟩
   ·have k0:=HR.out.c0;have k1:=HR.out.c1;have k2:=HR.out.c2;have k3:=HR.out.c3;have k4:=HR.out.c4;have f0:=HR.out.fz 0;have f1:=HR.out.fz 1;have f2:=HR.out.fz 2;have f3:=HR.out.fz 3;have f4:=HR.out.fz 4;clear hst hs1 hr1 hb1;go_wp2;exact bodyPost_ret (v:= .agg #[Ji Ju (u0:Nat),Ji Ju (u1:Nat),Ji Ju (v0:Nat),Ji Ju (v1:Nat),.bool ev]) (by simp[results,Tryz.results138,go_sem,k0,k1,k2,k3,k4]) rfl ⟨u0,u1,v0,v1,ev,rfl,HST.out.leh,HST.out.words,Qy HB.out (E5 _) _ _ _ _ _⟩
theorem UD{B B':Nat}{A A':Option Addr}{j c n' c' m k:Nat}{xs ys:List Nat}(w:JW)(hx:Jz B w A (j+2) c xs m)(hy:Jz B' w A' n' c' ys k)(h2:2<=n')(hle:k<=m) :
  Calls Tryz.prog 138 #[.slice A (j+2:Nat) c,.slice A' (n':Nat) c'] w (Ut m k w):=by
 have hn:n'<=j+2:=by
  rcases Fj (j+2) n' with h1|h1
  ·exfalso;have:=Ur hx.words hy.tight (by rw[hx.size,hy.size];exact h1);rw[hx.val,hy.val]at this;omega
  ·exact h1
 rcases Fj n' (j+1)with h1|h1
 ·exact XD w hx hy h2 hle h1
 ·rcases Fj n' (j+2)with h3|h3
  ·obtain rfl:n'=j+1:=by omega
   exact Vn w hx hy h2 hle
  ·obtain rfl:n'=j+2:=by omega
   exact Vm w hx hy h2 hle
theorem XN:∀(l:List Nat) (i d e:Nat),i<l.length->l.getD i 0=d->Je (l.set i e)+base i*d=Je l+base i*e
 | [],_,_,_,h,_=>absurd h (by simp)
 | a :: l,0,d,e,_,hd=>by
  simp at hd;subst hd;simp[Je,Qk];omega
 | a :: l,i+1,d,e,h,hd=>by
  have ih:=XN l i d e (by simpa using h) (by simpa using hd);rw[List.set_cons_succ,Je,Je,JJ,Fy,Fy];omega
theorem Zy{l:List Nat}(h:Jy l){e:Nat}(he:e<18446744073709551616)(i:Nat):Jy (l.set i e):=fun d hd=>by
 rcases List.mem_or_eq_of_mem_set hd with h1|rfl
 ·exact h d h1
 ·exact he
theorem VN{rs:List Nat}{n d q p:Nat}(hr:rs.length=n)(hv:Je rs+base n*q=p):Je (rs ++ q :: E7 d 0)=p:=by
 rw[Qc,Je,Yj,hr,FD,Fx,hv]
theorem Ot{P rs:List Nat}{n v k p q x:Nat}(hn:n<=P.length)(hr:rs.length=n)(hP:Je P=p)(h:Je rs+k*v=Je ((P.drop 0).take n)+base n*q)(hx:p=v*k+x):Je (put P 0 rs)=x+base n*q:=by
 have e:put P 0 rs=rs ++ P.drop n:=by unfold put;rw[FY,FW,FG,hr]
 have s:=JR P n;rw[FB,FJ hn]at s;rw[Fm]at h;rw[e,Qc,hr];rw[Fg k v]at h;omega
def UY(w0:JW)(g l N x:Nat)(vi vm:Value)(wr:JW):Prop:=
 ∃(i p:Nat) (Q:List Nat),l<=i/\i<=N/\vi=Ji .i64 (i:Nat)/\vm=Ji Ju (p:Nat)/\p<18446744073709551616/\Q.length=N/\Jy Q/\Je Q=x+base i*p/\Blk wr g Q/\Only g w0 wr
theorem VM{w0 wr:JW}{g l N x i p d s f m:Nat}{Q:List Nat}(hli:l<=i)(hi:i<N)(hp:p<18446744073709551616)(hQ:Q.length=N)(hw:Jy Q)(hv:Je Q=x+base i*p)(hb:Blk wr g Q)(ho:Only g w0 wr)
  (hd:Q.getD i 0=d) (hd1:d<18446744073709551616) (hs:(d+18446744073709551616-p-0)%18446744073709551616=s) (hf:(if d<p+0 then 1 else 0)=f) :
  UY w0 g l N x (Ji .i64 ((i:Int)+1)) (Ji Ju (f:Int)) ((wr.setCell ⟨g,i,Jn⟩ (Ji Ju (s:Int))).drewN m):=by
 have e1:s+p=d+18446744073709551616*f/\s<18446744073709551616/\f<18446744073709551616:=by
  split at hf <;> omega
 obtain⟨e1,e2,e3⟩:=e1;refine⟨i+1,f,Q.set i s,by omega,hi,by simp,rfl,e3,by rw[List.length_set,hQ],Zy hw e2 i,?_,(hb.set_ s (by omega)).drewN m,(ho.set_ _ _).drewN m⟩;have h1:=XN Q i d s (by omega) hd;have h2:base i*(s+p)=base i*(d+18446744073709551616*f):=by rw[e1]
 rw[Ft,Ft]at h2;rw[JJ,Fy,Fz];omega
theorem Zh{xs zs rs:List Nat}(h:rs.length=xs.length):put (xs ++ zs) 0 rs=rs ++ zs:=by
 unfold put;rw[FY,FW,FG,h,List.drop_left]
theorem Zk{rs:List Nat}{n d q:Nat}(h:rs.length=n):(rs ++ E7 (d+1) 0).set n q=rs ++ q :: E7 d 0:=by
 rw[List.set_append_right _ _ (by omega),h,Nat.sub_self,List.replicate_succ,List.set_cons_zero]
theorem Xw{q:Nat}{l:List Nat}(hq:q<18446744073709551616)(h:Jy l):Jy (q :: l):=fun d hd=>by
 rcases List.mem_cons.1 hd with rfl|h1
 ·exact hq
 ·exact h d h1
theorem Ou{N x p:Nat}{Q:List Nat}(hQ:Q.length=N)(hw:Jy Q)(hv:Je Q=x+base N*p):p=0:=by
 have h:=JH hw;rw[hQ]at h;rcases E8 p with h0|h0
 ·exact h0
 ·exfalso;have:base N*1<=base N*p:=Fc _ h0;omega
theorem Vv{B B':Nat}{A A':Option Addr}{n c n' c' m k u v x:Nat}{xs ys:List Nat}(w:JW)(hx:Jz B w A n c xs m)(hy:Jz B' w A' n' c' ys k)(h0:0<n)(h0':0<n')(hu:u<18446744073709551616)(hv:v<18446744073709551616)(he:u*m=v*k+x)(hm:n<900)(hm':n'<900) :
  Calls Tryz.prog 139 #[.slice A n c,.slice A' n' c',Ji Ju (u:Nat),Ji Ju (v:Nat),.bool true] w (QO x w):=by
 obtain⟨i0,hi,hz0,hz1,hz2⟩:=info_parts QT;obtain⟨b,o,rfl,hb,_,_⟩:=hx.at h0;obtain⟨b',o',rfl,hb',_,_⟩:=hy.at h0';have hle:=hx.isl.2.1;have hle':=hy.isl.2.1;have hcc:=hx.cap;have hcc':=hy.cap;obtain⟨D,hD⟩:∃D,max n n'=n+D:=⟨max n n'-n,by omega⟩;have hD2:n'<=n+D:=by omega
 have hD3:n+D<900:=by omega
 have hmax:max (n:Int) (n':Int)=(n:Int)+(D:Int):=by omega
 have hmax2:max (n':Int) (n:Int)=(n:Int)+(D:Int):=by omega
 have Hx:=Lh hx;have Hy:=Lh hy;have Hxl:=Lh hx.size;have Hyl:=Lh hy.size;have He:=Lh he;clear hx hy he hD;go_enter Tryz.func139,Tryz.ntmps139;go_wp2_with (at_make;refine wpList_make_full _ rfl _ _ 159 rfl w.heap.size 154 i0 (Ji Ju 0) 1 Tryz.underlying159 hi hz0 hz1 _ _ _ _ (n+D+1) rfl rfl (by simp) (by simp) (by rw[hz2];omega) (by unfold maxLen;omega) (E5 _) ?_)
 intro w1 hown hgrow;have hblk:=YM hown (by omega);have b1:=(F0 w.heap.size w).grown hgrow (E5 _) (by simp);have hi1:=Hx.out.isl.keep b1;obtain⟨w2,hcopy,hblk2,honly2⟩:=YU (N:=n+D+1) (C:=n+D+1) hblk (by simp) hi1 h0 (by omega);rw[show n+D+1=n+(D+1)by omega,Un Hxl.out]at hblk2;have b2:=Below.only b1 honly2 (E5 _) b1.size;have hmul:=XS w.heap.size 0 n (n+D+1) (xs ++ E7 (D+1) 0) u 0 w2 hblk2 (by rw[Fb,EY,Hxl.out];omega) (Yi Hx.out.words _) hu (by decide) (by omega) (by omega);have Hmul:=Lh hmul;have B2:=Lh b2;clear hown hgrow hblk b1 hi1 hblk2 honly2 b2 hmul;go_wp2_with fail
 refine Hmul.out.mono ?_;rintro e w3⟨rs,q,rfl,hrl,hq,hrw,hrv,hrb,hon⟩;rw[Zh (by rw[hrl,Hxl.out])]at hrb;rw[Fm,List.take_left' Hxl.out,Hx.out.val,Fx,Fg m u]at hrv;have hcl:=hrb.cell (i:=n) (by rw[Fb,EY,hrl];omega);have hfz:=hrb.frozen n;obtain⟨z0,hz0⟩:∃z,(rs ++ E7 (D+1) 0).getD n 0=z:=⟨_,rfl⟩;rw[hz0]at hcl;have hblk3:=hrb.set_ q (i:=n) (by rw[Fb,EY,hrl];omega);rw[Zk hrl]at hblk3;have b3:=(Below.only B2.out hon (E5 _) B2.out.size).setCell (p:=⟨w.heap.size,n,Jn⟩) (E5 w.heap.size) (Ji Ju (q:Int));have hPl:(rs ++ q :: E7 D 0).length=n+D+1:=by rw[Fb,FS,EY,hrl];omega
 have hPw:Jy (rs ++ q :: E7 D 0):=JQ hrw (Xw hq (Q8 D));have hPv:=VN (d:=D) hrl hrv;have hsub:=Yq w.heap.size 0 (n+D+1) (n+D+1) n' c' _ (rs ++ q :: E7 D 0) ys v _ hblk3 (Hy.out.isl.keep b3) (fun a e=>by injection e with e;subst e;exact D0 hb') (by omega) (by omega) hPw Hy.out.words hv (by omega) (by omega) h0';have Hsub:=Lh hsub;have HPl:=Lh hPl;have HPw:=Lh hPw;have HPv:=Lh hPv;have B3:=Lh b3;clear hrl hrw hrv hrb hon hz0 hblk3 b3 hPl hPw hPv hsub;go_wp2_with fail
 refine Hsub.out.mono ?_;rintro e w4⟨rs2,q2,rfl,hrl,hq2,hrw,hrv,hrb,hon⟩;rw[Hy.out.val]at hrv;have Hq0:=Lh (show UY w4 w.heap.size n' (n+D+1) x (Ji .i64 (n':Int)) (Ji Ju (q2:Int)) w4 from
  ⟨n',q2,_,E5 _,by omega,rfl,rfl,hq2,by rw [Jv (by rw [hrl,HPl.out]; omega)]; exact HPl.out,Uh HPw.out hrw 0,Ot (by rw [HPl.out]; omega) hrl HPv.out hrv He.out,hrb,Only.refl _ _⟩)
 have B4:=Lh (Below.only B3.out hon (E5 _) B3.out.size);clear hrl hrw hrv hrb hon hcl hfz;go_wp2_with fail
 go_loopw [13,12] (fun vi vm wr=>UY w4 w.heap.size n' (n+D+1) x vi vm wr) (fun vi _ _=>n+D+1-(intOf vi).toNat)
 case atStart=>exact Hq0.out
 case round=>
  obtain⟨i,p,Q,hli,hiN,rfl,rfl,hp,hQl,hQw,hQv,hQb,hQo⟩:=hrel;have HQl:=Lh hQl;have HQw:=Lh hQw;have HQv:=Lh hQv;have HQb:=Lh hQb;have HQo:=Lh hQo;by_cases hp0:p=0
  ·subst hp0;have hisl:=hQb.isL (o:=0) (n:=n+D+1) (c:=n+D+1) (by omega) (E5 _);rw[Fm,Fi (by omega)]at hisl;have Htrim:=Lh (JT _ _ _ Q wr hisl (by omega) (by omega));have Hnew:=Lh (Ql (B:=w.heap.size) (c:=n+D+1) hQb hQl (E5 _) (by omega) (by omega) hQw (show Je Q=x by rw[hQv,FD,Fx]) (E5 _));have Hbf:=Lh (Below.only B4.out hQo (E5 _) B4.out.size);clear hQl hQw hQv hQb hQo hisl;go_wp2_with fail
   refine Htrim.out.mono ?_;rintro e w5⟨rfl,rfl⟩;go_wp2;go_ret;exact⟨_,_,_,_,rfl,Hnew.out,Hbf.out⟩
  ·by_cases hlt:i<n+D+1
   ·have hcell:=hQb.cell (i:=i) (by omega);have hfz:=hQb.frozen i;have hd1:=JG hQw i;obtain⟨d,hd⟩:∃d,Q.getD i 0=d:=⟨_,rfl⟩;rw[hd]at hcell hd1;obtain⟨s,hs⟩:∃s,(d+18446744073709551616-p-0)%18446744073709551616=s:=⟨_,rfl⟩;obtain⟨f,hf⟩:∃f,(if d<p+0 then 1 else 0)=f:=⟨_,rfl⟩;have hsb:∀W:JW,(callFunc 166 #[Ji Ju (d:Int),Ji Ju (p:Int),Ji Ju 0]).run Tryz.prog W= .ok (.value (.tuple #[Ji Ju (s:Int),Ji Ju (f:Int)])) W:=Y0 d p 0 s f (by omega) hs hf;have t0:((p:Int) ==0)=false:=by rw[beq_eq_false_iff_ne];omega
    have hltI:(i:Int)<(n:Int)+(D:Int)+1:=by omega
    have Hfin:=Lh (VM (m:=0) hli hlt hp hQl hQw hQv hQb hQo hd hd1 hs hf);clear hQl hQw hQv hQb hQo hs hf hd;go_wp2_with fail
    exact⟨Hfin.out,by simp[intOf] <;> omega⟩
   ·obtain rfl:i=n+D+1:=by omega
    exact absurd (Ou hQl hQw hQv) hp0
theorem Vc{B B':Nat}{A A':Option Addr}{n c n' c' m k u v x:Nat}{xs ys:List Nat}(w:JW)(hx:Jz B w A n c xs m)(hy:Jz B' w A' n' c' ys k)(h0:0<n)(h0':0<n')(hu:u<18446744073709551616)(hv:v<18446744073709551616)(he:u*m=v*k+x)(hm:n<900)(hm':n'<900) :
  Calls Tryz.prog 139 #[.slice A' n' c',.slice A n c,Ji Ju (v:Nat),Ji Ju (u:Nat),.bool false] w (QO x w):=by
 obtain⟨i0,hi,hz0,hz1,hz2⟩:=info_parts QT;obtain⟨b,o,rfl,hb,_,_⟩:=hx.at h0;obtain⟨b',o',rfl,hb',_,_⟩:=hy.at h0';have hle:=hx.isl.2.1;have hle':=hy.isl.2.1;have hcc:=hx.cap;have hcc':=hy.cap;obtain⟨D,hD⟩:∃D,max n n'=n+D:=⟨max n n'-n,by omega⟩;have hD2:n'<=n+D:=by omega
 have hD3:n+D<900:=by omega
 have hmax:max (n:Int) (n':Int)=(n:Int)+(D:Int):=by omega
 have hmax2:max (n':Int) (n:Int)=(n:Int)+(D:Int):=by omega
 have Hx:=Lh hx;have Hy:=Lh hy;have Hxl:=Lh hx.size;have Hyl:=Lh hy.size;have He:=Lh he;clear hx hy he hD;go_enter Tryz.func139,Tryz.ntmps139;go_wp2_with (at_make;refine wpList_make_full _ rfl _ _ 159 rfl w.heap.size 154 i0 (Ji Ju 0) 1 Tryz.underlying159 hi hz0 hz1 _ _ _ _ (n+D+1) rfl rfl (by simp) (by simp) (by rw[hz2];omega) (by unfold maxLen;omega) (E5 _) ?_)
 intro w1 hown hgrow;have hblk:=YM hown (by omega);have b1:=(F0 w.heap.size w).grown hgrow (E5 _) (by simp);have hi1:=Hx.out.isl.keep b1;obtain⟨w2,hcopy,hblk2,honly2⟩:=YU (N:=n+D+1) (C:=n+D+1) hblk (by simp) hi1 h0 (by omega);rw[show n+D+1=n+(D+1)by omega,Un Hxl.out]at hblk2;have b2:=Below.only b1 honly2 (E5 _) b1.size;have hmul:=XS w.heap.size 0 n (n+D+1) (xs ++ E7 (D+1) 0) u 0 w2 hblk2 (by rw[Fb,EY,Hxl.out];omega) (Yi Hx.out.words _) hu (by decide) (by omega) (by omega);have Hmul:=Lh hmul;have B2:=Lh b2;clear hown hgrow hblk b1 hi1 hblk2 honly2 b2 hmul;go_wp2_with fail
 refine Hmul.out.mono ?_;rintro e w3⟨rs,q,rfl,hrl,hq,hrw,hrv,hrb,hon⟩;rw[Zh (by rw[hrl,Hxl.out])]at hrb;rw[Fm,List.take_left' Hxl.out,Hx.out.val,Fx,Fg m u]at hrv;have hcl:=hrb.cell (i:=n) (by rw[Fb,EY,hrl];omega);have hfz:=hrb.frozen n;obtain⟨z0,hz0⟩:∃z,(rs ++ E7 (D+1) 0).getD n 0=z:=⟨_,rfl⟩;rw[hz0]at hcl;have hblk3:=hrb.set_ q (i:=n) (by rw[Fb,EY,hrl];omega);rw[Zk hrl]at hblk3;have b3:=(Below.only B2.out hon (E5 _) B2.out.size).setCell (p:=⟨w.heap.size,n,Jn⟩) (E5 w.heap.size) (Ji Ju (q:Int));have hPl:(rs ++ q :: E7 D 0).length=n+D+1:=by rw[Fb,FS,EY,hrl];omega
 have hPw:Jy (rs ++ q :: E7 D 0):=JQ hrw (Xw hq (Q8 D));have hPv:=VN (d:=D) hrl hrv;have hsub:=Yq w.heap.size 0 (n+D+1) (n+D+1) n' c' _ (rs ++ q :: E7 D 0) ys v _ hblk3 (Hy.out.isl.keep b3) (fun a e=>by injection e with e;subst e;exact D0 hb') (by omega) (by omega) hPw Hy.out.words hv (by omega) (by omega) h0';have Hsub:=Lh hsub;have HPl:=Lh hPl;have HPw:=Lh hPw;have HPv:=Lh hPv;have B3:=Lh b3;clear hrl hrw hrv hrb hon hz0 hblk3 b3 hPl hPw hPv hsub;go_wp2_with fail
 refine Hsub.out.mono ?_;rintro e w4⟨rs2,q2,rfl,hrl,hq2,hrw,hrv,hrb,hon⟩;rw[Hy.out.val]at hrv;have Hq0:=Lh (show UY w4 w.heap.size n' (n+D+1) x (Ji .i64 (n':Int)) (Ji Ju (q2:Int)) w4 from
  ⟨n',q2,_,E5 _,by omega,rfl,rfl,hq2,by rw [Jv (by rw [hrl,HPl.out]; omega)]; exact HPl.out,Uh HPw.out hrw 0,Ot (by rw [HPl.out]; omega) hrl HPv.out hrv He.out,hrb,Only.refl _ _⟩)
 have B4:=Lh (Below.only B3.out hon (E5 _) B3.out.size);clear hrl hrw hrv hrb hon hcl hfz;go_wp2_with fail
 go_loopw [13,12] (fun vi vm wr=>UY w4 w.heap.size n' (n+D+1) x vi vm wr) (fun vi _ _=>n+D+1-(intOf vi).toNat)
 case atStart=>exact Hq0.out
 case round=>
  obtain⟨i,p,Q,hli,hiN,rfl,rfl,hp,hQl,hQw,hQv,hQb,hQo⟩:=hrel;have HQl:=Lh hQl;have HQw:=Lh hQw;have HQv:=Lh hQv;have HQb:=Lh hQb;have HQo:=Lh hQo;by_cases hp0:p=0
  ·subst hp0;have hisl:=hQb.isL (o:=0) (n:=n+D+1) (c:=n+D+1) (by omega) (E5 _);rw[Fm,Fi (by omega)]at hisl;have Htrim:=Lh (JT _ _ _ Q wr hisl (by omega) (by omega));have Hnew:=Lh (Ql (B:=w.heap.size) (c:=n+D+1) hQb hQl (E5 _) (by omega) (by omega) hQw (show Je Q=x by rw[hQv,FD,Fx]) (E5 _));have Hbf:=Lh (Below.only B4.out hQo (E5 _) B4.out.size);clear hQl hQw hQv hQb hQo hisl;go_wp2_with fail
   refine Htrim.out.mono ?_;rintro e w5⟨rfl,rfl⟩;go_wp2;go_ret;exact⟨_,_,_,_,rfl,Hnew.out,Hbf.out⟩
  ·by_cases hlt:i<n+D+1
   ·have hcell:=hQb.cell (i:=i) (by omega);have hfz:=hQb.frozen i;have hd1:=JG hQw i;obtain⟨d,hd⟩:∃d,Q.getD i 0=d:=⟨_,rfl⟩;rw[hd]at hcell hd1;obtain⟨s,hs⟩:∃s,(d+18446744073709551616-p-0)%18446744073709551616=s:=⟨_,rfl⟩;obtain⟨f,hf⟩:∃f,(if d<p+0 then 1 else 0)=f:=⟨_,rfl⟩;have hsb:∀W:JW,(callFunc 166 #[Ji Ju (d:Int),Ji Ju (p:Int),Ji Ju 0]).run Tryz.prog W= .ok (.value (.tuple #[Ji Ju (s:Int),Ji Ju (f:Int)])) W:=Y0 d p 0 s f (by omega) hs hf;have t0:((p:Int) ==0)=false:=by rw[beq_eq_false_iff_ne];omega
    have hltI:(i:Int)<(n:Int)+(D:Int)+1:=by omega
    have Hfin:=Lh (VM (m:=0) hli hlt hp hQl hQw hQv hQb hQo hd hd1 hs hf);clear hQl hQw hQv hQb hQo hs hf hd;go_wp2_with fail
    exact⟨Hfin.out,by simp[intOf] <;> omega⟩
   ·obtain rfl:i=n+D+1:=by omega
    exact absurd (Ou hQl hQw hQv) hp0
theorem YE{B B':Nat}{A A':Option Addr}{n c n' c' m k u v x:Nat}{xs ys:List Nat}(w:JW)(hx:Jz B w A n c xs m)(hy:Jz B' w A' n' c' ys k)(h0:0<n)(h0':0<n')(hu:u<18446744073709551616)(hv:v<18446744073709551616)(ev:Bool)(he:Comb m k u v ev x)(hm:n<900)(hm':n'<900) :
  Calls Tryz.prog 139 #[.slice A n c,.slice A' n' c',Ji Ju (u:Nat),Ji Ju (v:Nat),.bool ev] w (QO x w):=by
 cases ev with
 | true=>exact Vv w hx hy h0 h0' hu hv he hm hm'
 | false=>exact Vc w hy hx h0' h0 hv hu he hm' hm
def Qr(v:Value)(w:JW):Nat:=
 match v with
 | .slice (Jo ⟨b,o,_⟩) n _=>Je ((List.range n).map fun i=>intAt w b (o+i))
 | _=>0
theorem QI{B:Nat}{w:JW}{A:Option Addr}{n c m:Nat}{xs:List Nat}(h:Jz B w A n c xs m):Qr (.slice A n c) w=m:=by
 rcases E8 n with h0|h0
 ·have hm:=h.zero_iff.1 h0;subst h0;rw[hm];rcases A with _|⟨b,o,s⟩ <;> simp[Qr,Je]
 ·obtain⟨b,o,rfl,_,_,hc⟩:=h.at h0;rw[←h.val];unfold Qr;refine congrArg Je ?_;apply List.ext_getElem
  ·simp[h.size]
  ·intro i h1 h2;have hi:i<n:=by simpa using h1
   rw[List.getElem_map,List.getElem_range];unfold intAt;rw[hc i hi];simp[List.getD,h2]
theorem Zr{m k u0 u1 v0 v1:Nat}{ev:Bool}(h:Leh m k u0 u1 v0 v1 ev)(h0:v0≠0):∃x y:Nat,Comb m k u0 v0 ev x/\Comb m k u1 v1 (!ev) y/\E9 x y=E9 m k/\y<k/\y<=x/\x<=k:=by
 obtain⟨x,y,a,b,c,d,e,f⟩:=h h0;exact⟨x,y,a,b,c,d,by omega,f⟩
def QE(w:JW)(m0 k0:Nat)(va vb:Value)(wr:JW):Prop:=
 ∃(A:Option Addr) (n c:Nat) (xs:List Nat) (x:Nat) (A':Option Addr) (n' c':Nat) (ys:List Nat) (y:Nat),va= .slice A n c/\vb= .slice A' n' c'/\Jz 0 wr A n c xs x/\Jz 0 wr A' n' c' ys y/\y<=x/\E9 x y=E9 m0 k0/\x<base 400/\Below w.heap.size w wr
theorem QE.start{B B':Nat}{A A':Option Addr}{n c n' c' m k m0 k0:Nat}{xs ys:List Nat}{w wr:JW}(hx:Jz B wr A n c xs m)(hy:Jz B' wr A' n' c' ys k)(hle:k<=m)(hg:E9 m k=E9 m0 k0)(hm:m<base 400)(hb:Below w.heap.size w wr) :
  QE w m0 k0 (.slice A n c) (.slice A' n' c') wr:=⟨A,n,c,xs,m,A',n',c',ys,k,rfl,rfl,hx.mono (FR _),hy.mono (FR _),hle,hg,hm,hb⟩
def O8(m k:Nat)(w:JW)(e:Ending)(w':JW):Prop:=
 ∃(A:Option Addr) (n c:Nat) (xs:List Nat),e= .returned (.slice A n c)/\Jz 0 w' A n c xs (E9 m k)/\Below w.heap.size w w'
theorem GQ{wm wx w':JW}{p u0 u1 v0 v1:Nat}{ev:Bool}(hp:p<wm.heap.size)
  (h:wx.cell? ⟨p,0,Jn⟩=Jo (Ji Ju (u0:Int))/\wx.cell? ⟨p,1,Jn⟩=Jo (Ji Ju (u1:Int))/\wx.cell? ⟨p,2,Jn⟩=Jo (Ji Ju (v0:Int))/\wx.cell? ⟨p,3,Jn⟩=Jo (Ji Ju (v1:Int))/\wx.cell? ⟨p,4,Jn⟩=Jo (.bool ev)/\Below wm.heap.size wm wx)
  (hb:Below wx.heap.size wx w') :
  w'.cell? ⟨p,0,Jn⟩=Jo (Ji Ju (u0:Int))/\w'.cell? ⟨p,1,Jn⟩=Jo (Ji Ju (u1:Int))/\w'.cell? ⟨p,2,Jn⟩=Jo (Ji Ju (v0:Int))/\w'.cell? ⟨p,3,Jn⟩=Jo (Ji Ju (v1:Int))/\w'.cell? ⟨p,4,Jn⟩=Jo (.bool ev)/\Below wm.heap.size wm w':=by
 obtain⟨a,b,c,d,e,f⟩:=h;have hl:p<wx.heap.size:=Fv hp f.size;exact⟨(hb.cell (p:=⟨p,0,Jn⟩) hl).trans a,(hb.cell (p:=⟨p,1,Jn⟩) hl).trans b,(hb.cell (p:=⟨p,2,Jn⟩) hl).trans c,(hb.cell (p:=⟨p,3,Jn⟩) hl).trans d,(hb.cell (p:=⟨p,4,Jn⟩) hl).trans e,Jd f hb⟩
theorem Gf(w:JW){r:Nat}(h0:0<r)(h1:r<18446744073709551616):Jz 0 (w.alloc (Jc #[Ji Ju (r:Int)] 154)) (Jo ⟨w.heap.size,0,Jn⟩) 1 1 [r] r:=
 ⟨(Zl w r).isL (o:=0) (n:=1) (c:=1) (by simp) (by decide),by decide,by decide,fun d hd=>by rw[List.mem_singleton.1 hd];exact h1,.inr (by simp[Je,Qk];omega),by simp[Je],fun a e=>by injection e with e;subst e;exact FR _⟩
theorem Oj{B B':Nat}{A A':Option Addr}{n c n' c' m k:Nat}{xs ys:List Nat}(w:JW)(hx:Jz B w A n c xs m)(hy:Jz B' w A' n' c' ys k)(hle:k<=m)(hm:m<base 400)(ht:Yf w)(hw0:TzG<w.heap.size) :
  Calls Tryz.prog 108 #[.slice A n c,.slice A' n' c'] w (O8 m k w):=by
 have Hc:=Lh (JI w hx hy);obtain⟨cv,hcv⟩:∃x,cmpN m k=x:=⟨_,rfl⟩;have hx0:0<=cv:=by rw[←hcv];exact Gy hle
 rw[hcv]at Hc;have Hx:=Lh hx;have Hy:=Lh hy;have Hle:=Lh hle;have Hm:=Lh hm;have Ht:=Lh (fun w' (h:Below w.heap.size w w')=>Yp ht h hw0);clear hx hy hle hm ht hcv;go_enter Tryz.func108,Tryz.ntmps108;go_wp2_with fail
 refine Hc.out.mono ?_;rintro e w1⟨rfl,h1⟩;have H1:=Lh h1;clear h1;go_wp2_with fail
 go_loopw [0,1] (fun va vb wr=>QE w m k va vb wr) (fun _ vb wr=>Qr vb wr)
 case atStart=>exact QE.start (Hx.out.keep H1.out) (Hy.out.keep H1.out) Hle.out rfl Hm.out H1.out
 case round=>
  obtain⟨A,n,c,xs,x,A',n',c',ys,y,rfl,rfl,hx,hy,hyx,hg,hxb,hbel⟩:=hrel;have Hms:=Lh (QI hy);have hnl:=hx.len;have hnl':=hy.len;have hc1:=hx.isl.2.1;have hc2:=hx.cap;have hc3:=hy.isl.2.1;have hc4:=hy.cap;have hn400:=hx.len_le hxb;have hn400':=hy.len_le (EZ hyx hxb);have HX:=Lh hx;have HY:=Lh hy;have HG:=Lh hg;have HXB:=Lh hxb;have HYX:=Lh hyx;have HB:=Lh hbel;by_cases h2:2<=n'
  ·have hnn:n'<=n:=by
    rcases Fj n n' with h1|h1
    ·exfalso;have:=Ur hx.words hy.tight (by rw[hx.size,hy.size];exact h1);rw[hx.val,hy.val]at this;omega
    ·exact h1
   obtain⟨j,rfl⟩:∃j,n=j+2:=⟨n-2,by omega⟩;have hy0:0<y:=by
    rcases E8 y with h0|h0
    ·have:=hy.zero_iff.2 h0;omega
    ·exact h0
   have Hsim:=Lh (UD wr hx hy h2 hyx);clear hx hy hg hxb hyx hbel;go_wp2_with fail
   refine Hsim.out.mono ?_;rintro e w2⟨u0,u1,v0,v1,ev,rfl,hleh,⟨l1,l2,l3,l4⟩,h3⟩;have HO:=Lh (F0 w2.heap.size w2 |>.alloc (E5 _) (Jc #[Ji Ju (u0:Int),Ji Ju (u1:Int),Ji Ju (v0:Int),Ji Ju (v1:Int),.bool ev] 196));have K2:=Lh (Jd (Jd HB.out h3) HO.out);have HX2:=Lh ((HX.out.keep h3).keep HO.out);have HY2:=Lh ((HY.out.keep h3).keep HO.out);have HSt:=Lh (Stp.new w2 u0 u1 v0 v1 ev 196);have Hleh:=Lh hleh;have c0:=HSt.out.c0;have c1:=HSt.out.c1;have c2:=HSt.out.c2;have c3:=HSt.out.c3;have c4:=HSt.out.c4;clear h3 hleh;by_cases hv0:v0=0
   ·subst hv0;have Hdiv:=Lh (Ys _ HX2.out HY2.out hy0 (by omega));clear c0 c1 c2 c3 c4;go_wp2_with fail
    refine Hdiv.out.mono ?_;rintro e w3⟨A1,n1,k1,zs1,A2,n2,k2,zs2,rfl,hq,hr,h4⟩;have Hnew:=Lh (show QE w m k (.slice A' n' c') (.slice A2 n2 k2) w3 from
     QE.start (HY2.out.keep h4) hr (FN (Fp x hy0)) (by rw [Xu]; exact HG.out) (EZ HYX.out HXB.out) (Jd K2.out h4))
    have Hlt:=Lh (show Qr (.slice A2 n2 k2) w3<Qr (.slice A' n' c') wr by rw[Hms.out,QI hr];exact Fp x hy0);clear hq hr h4;go_wp2_with fail
    exact⟨Hnew.out,Hlt.out⟩
   ·have t0:((v0:Int) ==0)=false:=by rw[beq_eq_false_iff_ne];omega
    obtain⟨x1,y1,hcx,hcy,hg1,hy1,hyx1,hxk⟩:=Zr Hleh.out hv0;obtain⟨wm,hwm⟩:∃wm,w2.alloc (Jc #[Ji Ju (u0:Int),Ji Ju (u1:Int),Ji Ju (v0:Int),Ji Ju (v1:Int),.bool ev] 196)=wm:=⟨_,rfl⟩;obtain⟨p,hp⟩:∃p,w2.heap.size=p:=⟨_,rfl⟩;have hpl:=HSt.out.lt;rw[hwm]at K2 HX2 HY2 c0 c1 c2 c3 c4 hpl;rw[hp]at c0 c1 c2 c3 c4 hpl;have Hpl:=Lh hpl;have HC0:=Lh (fun w' (h:w'.cell? ⟨p,0,Jn⟩=Jo (Ji Ju (u0:Int))/\w'.cell? ⟨p,1,Jn⟩=Jo (Ji Ju (u1:Int))/\w'.cell? ⟨p,2,Jn⟩=Jo (Ji Ju (v0:Int))/\w'.cell? ⟨p,3,Jn⟩=Jo (Ji Ju (v1:Int))/\w'.cell? ⟨p,4,Jn⟩=Jo (.bool ev)/\Below wm.heap.size wm w')=>
     YE w' (HX2.out.keep h.2.2.2.2.2) (HY2.out.keep h.2.2.2.2.2) (by omega) (by omega) l1 l3 ev hcx (by omega) (by omega))
    have HC1:=Lh (fun w' (h:w'.cell? ⟨p,0,Jn⟩=Jo (Ji Ju (u0:Int))/\w'.cell? ⟨p,1,Jn⟩=Jo (Ji Ju (u1:Int))/\w'.cell? ⟨p,2,Jn⟩=Jo (Ji Ju (v0:Int))/\w'.cell? ⟨p,3,Jn⟩=Jo (Ji Ju (v1:Int))/\w'.cell? ⟨p,4,Jn⟩=Jo (.bool ev)/\Below wm.heap.size wm w')=>
     YE w' (HX2.out.keep h.2.2.2.2.2) (HY2.out.keep h.2.2.2.2.2) (by omega) (by omega) l2 l4 (!ev) hcy (by omega) (by omega))
    have Hg1:=Lh hg1;have Hy1:=Lh hy1;have Hyx1:=Lh hyx1;have Hxk:=Lh hxk;have Hwm:=Lh hwm;have Hp:=Lh hp;have hst:wm.drew.cell? ⟨p,0,Jn⟩=Jo (Ji Ju (u0:Int))/\wm.drew.cell? ⟨p,1,Jn⟩=Jo (Ji Ju (u1:Int))/\wm.drew.cell? ⟨p,2,Jn⟩=Jo (Ji Ju (v0:Int))/\wm.drew.cell? ⟨p,3,Jn⟩=Jo (Ji Ju (v1:Int))/\wm.drew.cell? ⟨p,4,Jn⟩=Jo (.bool ev)/\Below wm.heap.size wm wm.drew:=⟨c0,c1,c2,c3,c4,(F0 _ _).drew⟩;have Hst:=Lh hst;clear hcx hcy hg1 hy1 hyx1 hxk hst hpl;go_wp2_with fail
    clear hwm hp;go_region_held3 (fun w'=>w'.cell? ⟨p,0,Jn⟩=Jo (Ji Ju (u0:Int))/\w'.cell? ⟨p,1,Jn⟩=Jo (Ji Ju (u1:Int))/\w'.cell? ⟨p,2,Jn⟩=Jo (Ji Ju (v0:Int))/\w'.cell? ⟨p,3,Jn⟩=Jo (Ji Ju (v1:Int))/\w'.cell? ⟨p,4,Jn⟩=Jo (.bool ev)/\Below wm.heap.size wm w')
     (first
      | exact Hst.out
      | exact GQ Hpl.out (by assumption) (by assumption))
     (first
      |(go_at_call_of 139 u0;refine(HC0.out _ (by assumption)).mono ?_;rintro e w' ⟨A1,n1,k1,zs1,rfl,hn1,hb1⟩)
      | (go_at_call_of 139 u1; refine (HC1.out _ (by assumption)).mono ?_; rintro e w' ⟨A2,n2,k2,zs2,rfl,hn2,hb2⟩))
    go_split_ands
    have hw3:Below wm.heap.size wm w':=by assumption
    have Hnew:=Lh (show QE w m k (.slice A1 n1 k1) (.slice A2 n2 k2) w' from
     QE.start (hn1.keep hb2) hn2 Hyx1.out (Hg1.out.trans HG.out) (EZ (FH Hxk.out HYX.out) HXB.out) (Jd K2.out hw3))
    have Hlt:=Lh (show Qr (.slice A2 n2 k2) w'<Qr (.slice A' n' c') wr by rw[Hms.out,QI hn2];exact Hy1.out);generalize w'=w4 at Hnew Hlt ⊢;clear hw3 hn1 hn2 hb1 hb2;go_wp2_with fail
    exact⟨Hnew.out,Hlt.out⟩
  ·rcases E8 n' with h0|h0
   ·subst h0;have hy0:=hy.zero_iff.1 rfl;subst hy0;have Hfin:=Lh (show Jz 0 wr A n c xs (E9 m k)by rw[←HG.out,FO];exact HX.out);clear hx hy hg hxb hyx hbel h2;go_wp2;go_ret;exact⟨_,_,_,_,rfl,Hfin.out,HB.out⟩
   ·obtain rfl:n'=1:=by omega
    obtain⟨d,rfl⟩:∃d,ys=[d]:=List.length_eq_one_iff.mp hy.size;have hd:d=y:=by have:=hy.val;simpa[Je]using this
    subst hd;have hd1:d<18446744073709551616:=hy.words d (by simp);have hd0:0<d:=by
     rcases E8 d with h0|h0
     ·have:=hy.zero_iff.2 h0;omega
     ·exact h0
    have hn0:0<n:=by
     rcases E8 n with h1|h1
     ·have:=hx.zero_iff.1 h1;omega
     ·exact h1
    obtain⟨b',o',rfl,hb',_,hcell⟩:=hy.at (by decide);have cy:=hcell 0 (by decide);have cy2:wr.cell? ⟨b',o',Jn⟩=Jo (Ji Ju (d:Int)):=cy;have Hcy:=Lh cy2;have HS:=Lh (fun w' (h:Below wr.heap.size wr w')=>(⟨(h.cell (p:=⟨b',o',Jn⟩) hb').trans cy2,h⟩:w'.cell? ⟨b',o',Jn⟩=Jo (Ji Ju (d:Int))/\Below wr.heap.size wr w'));have Hcl:=Lh (fun w1 (h:w1.cell? ⟨b',o',Jn⟩=Jo (Ji Ju (d:Int))/\Below wr.heap.size wr w1)=>Yt A n c xs w1 (hx.isl.keep h.2) hn0 (by omega));have Hxl:=Lh hx.size;have Hd0:=Lh hd0;clear hx hy hg hxb hyx hbel hcell cy cy2 h2 hd0;go_wp2_with fail
    go_region_held3 (fun w'=>w'.cell? ⟨b',o',Jn⟩=Jo (Ji Ju (d:Int))/\Below wr.heap.size wr w')
     (first
      | assumption
      | exact HS.out _ ((F0 _ _).drew))
     (first
      |(go_at_call 141;refine(Hcl.out _ (by assumption)).mono ?_;rintro e w2 ⟨g,cg,rfl,hnc,hcm,hgs,hblk,hb2⟩;have hgl:=FH (Below.size (FP (by assumption))) hgs;have hk2:=HS.out _ (Jd (FP (by assumption)) hb2))
      | (go_at_call 140; refine (Yk g 0 n cg xs d _ hblk (by rw [Hxl.out]; omega) HX.out.words Hd0.out hd1 (by omega) (by decide)).mono ?_; rintro e w3 ⟨zs,r,rfl,hzl,hr,hzw,hzv,hzb,hon⟩; have hk3:=HS.out _ (Below.only hk2.2 hon hgl hk2.2.size)))
    rw[Fm,Fi (by rw[Hxl.out];exact E5 _),HX.out.val]at hzv;have hrr:r=x%d:=by
     rw[hzv,Fg,FX,FT hr]
    have hgr:E9 r d=E9 m k:=by rw[hrr,FQ (x%d) d,Xu,HG.out]
    have Hgd:=Lh (YB r d (E9 m k) w3 (Nat.lt_trans hr hd1) hd1 hgr (Ht.out _ (Jd HB.out hk3.2)));have hgp:0<E9 m k:=by rw[←hgr];exact FI _ Hd0.out
    have hgl2:E9 m k<18446744073709551616:=by rw[←hgr];exact EZ (FU _ Hd0.out) hd1
    have c3:=hk3.1;have Hfin:=Lh (Gf w3 hgp hgl2);have H3:=Lh (Jd HB.out hk3.2);clear hzl hzw hzv hzb hon hrr hgr hgp hgl2 hblk hb2 hgs hk2 hk3 hgl;obtain⟨gg,hgg⟩:∃gg,E9 m k=gg:=⟨_,rfl⟩;have Hgg:=Lh hgg;rw[hgg]at Hgd Hfin;clear hgg;go_wp2_with fail
    refine Hgd.out.mono ?_;rintro e w4⟨rfl,rfl⟩;go_wp2;go_ret;exact⟨_,_,_,_,rfl,by rw[Hgg.out];exact Hfin.out,Jd H3.out ((F0 _ _).alloc (E5 _) _)⟩
theorem Oi{B B':Nat}{A A':Option Addr}{n c n' c' m k:Nat}{xs ys:List Nat}(w:JW)(hx:Jz B w A n c xs m)(hy:Jz B' w A' n' c' ys k)(hle:m<k)(hm:k<base 400)(ht:Yf w)(hw0:TzG<w.heap.size) :
  Calls Tryz.prog 108 #[.slice A n c,.slice A' n' c'] w (O8 m k w):=by
 have Hc:=Lh (JI w hx hy);obtain⟨cv,hcv⟩:∃x,cmpN m k=x:=⟨_,rfl⟩;have hx0:cv<0:=by rw[←hcv,YW hle];decide
 rw[hcv]at Hc;have Hx:=Lh hx;have Hy:=Lh hy;have Hle:=Lh hle;have Hm:=Lh hm;have Ht:=Lh (fun w' (h:Below w.heap.size w w')=>Yp ht h hw0);clear hx hy hle hm ht hcv;go_enter Tryz.func108,Tryz.ntmps108;go_wp2_with fail
 refine Hc.out.mono ?_;rintro e w1⟨rfl,h1⟩;have H1:=Lh h1;clear h1;go_wp2_with fail
 go_loopw [0,1] (fun va vb wr=>QE w m k va vb wr) (fun _ vb wr=>Qr vb wr)
 case atStart=>exact QE.start (Hy.out.keep H1.out) (Hx.out.keep H1.out) (FN Hle.out) (FQ _ _) Hm.out H1.out
 case round=>
  obtain⟨A,n,c,xs,x,A',n',c',ys,y,rfl,rfl,hx,hy,hyx,hg,hxb,hbel⟩:=hrel;have Hms:=Lh (QI hy);have hnl:=hx.len;have hnl':=hy.len;have hc1:=hx.isl.2.1;have hc2:=hx.cap;have hc3:=hy.isl.2.1;have hc4:=hy.cap;have hn400:=hx.len_le hxb;have hn400':=hy.len_le (EZ hyx hxb);have HX:=Lh hx;have HY:=Lh hy;have HG:=Lh hg;have HXB:=Lh hxb;have HYX:=Lh hyx;have HB:=Lh hbel;by_cases h2:2<=n'
  ·have hnn:n'<=n:=by
    rcases Fj n n' with h1|h1
    ·exfalso;have:=Ur hx.words hy.tight (by rw[hx.size,hy.size];exact h1);rw[hx.val,hy.val]at this;omega
    ·exact h1
   obtain⟨j,rfl⟩:∃j,n=j+2:=⟨n-2,by omega⟩;have hy0:0<y:=by
    rcases E8 y with h0|h0
    ·have:=hy.zero_iff.2 h0;omega
    ·exact h0
   have Hsim:=Lh (UD wr hx hy h2 hyx);clear hx hy hg hxb hyx hbel;go_wp2_with fail
   refine Hsim.out.mono ?_;rintro e w2⟨u0,u1,v0,v1,ev,rfl,hleh,⟨l1,l2,l3,l4⟩,h3⟩;have HO:=Lh (F0 w2.heap.size w2 |>.alloc (E5 _) (Jc #[Ji Ju (u0:Int),Ji Ju (u1:Int),Ji Ju (v0:Int),Ji Ju (v1:Int),.bool ev] 196));have K2:=Lh (Jd (Jd HB.out h3) HO.out);have HX2:=Lh ((HX.out.keep h3).keep HO.out);have HY2:=Lh ((HY.out.keep h3).keep HO.out);have HSt:=Lh (Stp.new w2 u0 u1 v0 v1 ev 196);have Hleh:=Lh hleh;have c0:=HSt.out.c0;have c1:=HSt.out.c1;have c2:=HSt.out.c2;have c3:=HSt.out.c3;have c4:=HSt.out.c4;clear h3 hleh;by_cases hv0:v0=0
   ·subst hv0;have Hdiv:=Lh (Ys _ HX2.out HY2.out hy0 (by omega));clear c0 c1 c2 c3 c4;go_wp2_with fail
    refine Hdiv.out.mono ?_;rintro e w3⟨A1,n1,k1,zs1,A2,n2,k2,zs2,rfl,hq,hr,h4⟩;have Hnew:=Lh (show QE w m k (.slice A' n' c') (.slice A2 n2 k2) w3 from
     QE.start (HY2.out.keep h4) hr (FN (Fp x hy0)) (by rw [Xu]; exact HG.out) (EZ HYX.out HXB.out) (Jd K2.out h4))
    have Hlt:=Lh (show Qr (.slice A2 n2 k2) w3<Qr (.slice A' n' c') wr by rw[Hms.out,QI hr];exact Fp x hy0);clear hq hr h4;go_wp2_with fail
    exact⟨Hnew.out,Hlt.out⟩
   ·have t0:((v0:Int) ==0)=false:=by rw[beq_eq_false_iff_ne];omega
    obtain⟨x1,y1,hcx,hcy,hg1,hy1,hyx1,hxk⟩:=Zr Hleh.out hv0;obtain⟨wm,hwm⟩:∃wm,w2.alloc (Jc #[Ji Ju (u0:Int),Ji Ju (u1:Int),Ji Ju (v0:Int),Ji Ju (v1:Int),.bool ev] 196)=wm:=⟨_,rfl⟩;obtain⟨p,hp⟩:∃p,w2.heap.size=p:=⟨_,rfl⟩;have hpl:=HSt.out.lt;rw[hwm]at K2 HX2 HY2 c0 c1 c2 c3 c4 hpl;rw[hp]at c0 c1 c2 c3 c4 hpl;have Hpl:=Lh hpl;have HC0:=Lh (fun w' (h:w'.cell? ⟨p,0,Jn⟩=Jo (Ji Ju (u0:Int))/\w'.cell? ⟨p,1,Jn⟩=Jo (Ji Ju (u1:Int))/\w'.cell? ⟨p,2,Jn⟩=Jo (Ji Ju (v0:Int))/\w'.cell? ⟨p,3,Jn⟩=Jo (Ji Ju (v1:Int))/\w'.cell? ⟨p,4,Jn⟩=Jo (.bool ev)/\Below wm.heap.size wm w')=>
     YE w' (HX2.out.keep h.2.2.2.2.2) (HY2.out.keep h.2.2.2.2.2) (by omega) (by omega) l1 l3 ev hcx (by omega) (by omega))
    have HC1:=Lh (fun w' (h:w'.cell? ⟨p,0,Jn⟩=Jo (Ji Ju (u0:Int))/\w'.cell? ⟨p,1,Jn⟩=Jo (Ji Ju (u1:Int))/\w'.cell? ⟨p,2,Jn⟩=Jo (Ji Ju (v0:Int))/\w'.cell? ⟨p,3,Jn⟩=Jo (Ji Ju (v1:Int))/\w'.cell? ⟨p,4,Jn⟩=Jo (.bool ev)/\Below wm.heap.size wm w')=>
     YE w' (HX2.out.keep h.2.2.2.2.2) (HY2.out.keep h.2.2.2.2.2) (by omega) (by omega) l2 l4 (!ev) hcy (by omega) (by omega))
    have Hg1:=Lh hg1;have Hy1:=Lh hy1;have Hyx1:=Lh hyx1;have Hxk:=Lh hxk;have Hwm:=Lh hwm;have Hp:=Lh hp;have hst:wm.drew.cell? ⟨p,0,Jn⟩=Jo (Ji Ju (u0:Int))/\wm.drew.cell? ⟨p,1,Jn⟩=Jo (Ji Ju (u1:Int))/\wm.drew.cell? ⟨p,2,Jn⟩=Jo (Ji Ju (v0:Int))/\wm.drew.cell? ⟨p,3,Jn⟩=Jo (Ji Ju (v1:Int))/\wm.drew.cell? ⟨p,4,Jn⟩=Jo (.bool ev)/\Below wm.heap.size wm wm.drew:=⟨c0,c1,c2,c3,c4,(F0 _ _).drew⟩;have Hst:=Lh hst;clear hcx hcy hg1 hy1 hyx1 hxk hst hpl;go_wp2_with fail
    clear hwm hp;go_region_held3 (fun w'=>w'.cell? ⟨p,0,Jn⟩=Jo (Ji Ju (u0:Int))/\w'.cell? ⟨p,1,Jn⟩=Jo (Ji Ju (u1:Int))/\w'.cell? ⟨p,2,Jn⟩=Jo (Ji Ju (v0:Int))/\w'.cell? ⟨p,3,Jn⟩=Jo (Ji Ju (v1:Int))/\w'.cell? ⟨p,4,Jn⟩=Jo (.bool ev)/\Below wm.heap.size wm w')
     (first
      | exact Hst.out
      | exact GQ Hpl.out (by assumption) (by assumption))
     (first
      |(go_at_call_of 139 u0;refine(HC0.out _ (by assumption)).mono ?_;rintro e w' ⟨A1,n1,k1,zs1,rfl,hn1,hb1⟩)
      | (go_at_call_of 139 u1; refine (HC1.out _ (by assumption)).mono ?_; rintro e w' ⟨A2,n2,k2,zs2,rfl,hn2,hb2⟩))
    go_split_ands
    have hw3:Below wm.heap.size wm w':=by assumption
    have Hnew:=Lh (show QE w m k (.slice A1 n1 k1) (.slice A2 n2 k2) w' from
     QE.start (hn1.keep hb2) hn2 Hyx1.out (Hg1.out.trans HG.out) (EZ (FH Hxk.out HYX.out) HXB.out) (Jd K2.out hw3))
    have Hlt:=Lh (show Qr (.slice A2 n2 k2) w'<Qr (.slice A' n' c') wr by rw[Hms.out,QI hn2];exact Hy1.out);generalize w'=w4 at Hnew Hlt ⊢;clear hw3 hn1 hn2 hb1 hb2;go_wp2_with fail
    exact⟨Hnew.out,Hlt.out⟩
  ·rcases E8 n' with h0|h0
   ·subst h0;have hy0:=hy.zero_iff.1 rfl;subst hy0;have Hfin:=Lh (show Jz 0 wr A n c xs (E9 m k)by rw[←HG.out,FO];exact HX.out);clear hx hy hg hxb hyx hbel h2;go_wp2;go_ret;exact⟨_,_,_,_,rfl,Hfin.out,HB.out⟩
   ·obtain rfl:n'=1:=by omega
    obtain⟨d,rfl⟩:∃d,ys=[d]:=List.length_eq_one_iff.mp hy.size;have hd:d=y:=by have:=hy.val;simpa[Je]using this
    subst hd;have hd1:d<18446744073709551616:=hy.words d (by simp);have hd0:0<d:=by
     rcases E8 d with h0|h0
     ·have:=hy.zero_iff.2 h0;omega
     ·exact h0
    have hn0:0<n:=by
     rcases E8 n with h1|h1
     ·have:=hx.zero_iff.1 h1;omega
     ·exact h1
    obtain⟨b',o',rfl,hb',_,hcell⟩:=hy.at (by decide);have cy:=hcell 0 (by decide);have cy2:wr.cell? ⟨b',o',Jn⟩=Jo (Ji Ju (d:Int)):=cy;have Hcy:=Lh cy2;have HS:=Lh (fun w' (h:Below wr.heap.size wr w')=>(⟨(h.cell (p:=⟨b',o',Jn⟩) hb').trans cy2,h⟩:w'.cell? ⟨b',o',Jn⟩=Jo (Ji Ju (d:Int))/\Below wr.heap.size wr w'));have Hcl:=Lh (fun w1 (h:w1.cell? ⟨b',o',Jn⟩=Jo (Ji Ju (d:Int))/\Below wr.heap.size wr w1)=>Yt A n c xs w1 (hx.isl.keep h.2) hn0 (by omega));have Hxl:=Lh hx.size;have Hd0:=Lh hd0;clear hx hy hg hxb hyx hbel hcell cy cy2 h2 hd0;go_wp2_with fail
    go_region_held3 (fun w'=>w'.cell? ⟨b',o',Jn⟩=Jo (Ji Ju (d:Int))/\Below wr.heap.size wr w')
     (first
      | assumption
      | exact HS.out _ ((F0 _ _).drew))
     (first
      |(go_at_call 141;refine(Hcl.out _ (by assumption)).mono ?_;rintro e w2 ⟨g,cg,rfl,hnc,hcm,hgs,hblk,hb2⟩;have hgl:=FH (Below.size (FP (by assumption))) hgs;have hk2:=HS.out _ (Jd (FP (by assumption)) hb2))
      | (go_at_call 140; refine (Yk g 0 n cg xs d _ hblk (by rw [Hxl.out]; omega) HX.out.words Hd0.out hd1 (by omega) (by decide)).mono ?_; rintro e w3 ⟨zs,r,rfl,hzl,hr,hzw,hzv,hzb,hon⟩; have hk3:=HS.out _ (Below.only hk2.2 hon hgl hk2.2.size)))
    rw[Fm,Fi (by rw[Hxl.out];exact E5 _),HX.out.val]at hzv;have hrr:r=x%d:=by
     rw[hzv,Fg,FX,FT hr]
    have hgr:E9 r d=E9 m k:=by rw[hrr,FQ (x%d) d,Xu,HG.out]
    have Hgd:=Lh (YB r d (E9 m k) w3 (Nat.lt_trans hr hd1) hd1 hgr (Ht.out _ (Jd HB.out hk3.2)));have hgp:0<E9 m k:=by rw[←hgr];exact FI _ Hd0.out
    have hgl2:E9 m k<18446744073709551616:=by rw[←hgr];exact EZ (FU _ Hd0.out) hd1
    have c3:=hk3.1;have Hfin:=Lh (Gf w3 hgp hgl2);have H3:=Lh (Jd HB.out hk3.2);clear hzl hzw hzv hzb hon hrr hgr hgp hgl2 hblk hb2 hgs hk2 hk3 hgl;obtain⟨gg,hgg⟩:∃gg,E9 m k=gg:=⟨_,rfl⟩;have Hgg:=Lh hgg;rw[hgg]at Hgd Hfin;clear hgg;go_wp2_with fail
    refine Hgd.out.mono ?_;rintro e w4⟨rfl,rfl⟩;go_wp2;go_ret;exact⟨_,_,_,_,rfl,by rw[Hgg.out];exact Hfin.out,Jd H3.out ((F0 _ _).alloc (E5 _) _)⟩
theorem XZ{B B':Nat}{A A':Option Addr}{n c n' c' m k:Nat}{xs ys:List Nat}(w:JW)(hx:Jz B w A n c xs m)(hy:Jz B' w A' n' c' ys k)(hm:m<base 400)(hk:k<base 400)(ht:Yf w)(hw0:TzG<w.heap.size) :
  Calls Tryz.prog 108 #[.slice A n c,.slice A' n' c'] w (O8 m k w):=by
 rcases Fj m k with h|h
 ·exact Oi w hx hy h hk ht hw0
 ·exact Oj w hx hy h hm ht hw0
