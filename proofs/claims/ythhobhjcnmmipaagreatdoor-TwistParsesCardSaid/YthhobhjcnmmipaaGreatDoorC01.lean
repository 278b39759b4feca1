/- C01: Int1 Int5 From MulAdd Read -/
import Derived.Test.YthhobhjcnmmipaaGreatDoorChecked
import Derived.Test.YthhobhjcnmmipaaGreatDoorShelf
import Derived.WalkKit
import Derived.WalkSmall
import Derived.Deep.QuietTactic
import Derived.BigQuiet
import Derived.RegionTactic
import Derived.Below
import Derived.Lib.Hide
import Derived.Lib.SmallJoins
import Derived.Laws.ResultCell
import Derived.OwnWalk
import Derived.Lib.TrailingZeros
import Derived.Laws.Bits64b
import Derived.Deep.RegionHeld3
import Derived.Deep.RegionWith
import Derived.Laws.BytesArg
import Derived.Lib.ItoaNum
set_option maxRecDepth 100000
set_option maxHeartbeats 16000000
namespace Go.Proofs.YthhobhjcnmmipaaGreatDoor
open Go.Value renaming int→Ji,ownBlock→Fo,int→Fp
open Go.IntKind renaming u64→Ju
open _root_.Option renaming none→Jn,some→Jo
open Go renaming World→JW
open _root_.Nat renaming gcd→E4,le_refl→E5,lt_of_lt_of_le→E7,mul_assoc→E8,strongRecOn→Fc,mul_comm→Fg,gcd_comm→Fh,mul_add→Fk,min_eq_left→Fm,add_assoc→Ft,pow_succ→Fu,le_trans→Fv,pow_pos→Fw,pow_add→Fx,zero_le→Fy
open Go.RowKit.Below renaming refl→E6,alloc→Fe,setCell→Fr
open _root_.Array renaming getElem?_modify→E9
open _root_.List renaming length_append→EY,getD_eq_getElem?_getD→F0,getElem?_eq_getElem→Fa,length_singleton→Ff,getElem?_take→Fi,length_cons→Fl,getD→Fq
open Go.World renaming setCell→EZ
open Go.Ending renaming returned→Fb
open _root_.UInt8 renaming ofNat→Fj
open Go.RowKit
theorem Lh{p:Prop}(h:p):RowKit.Hid p:=h
theorem Pls:(∀ {α:Type} (l:List α) (i:Nat) (a:α),l.toArray.setIfInBounds i a=(l.set i a).toArray)/\(∀ {α:Type} (x a:α) (xs:List α),(x :: xs).set 0 a=a :: xs)/\(∀ {α:Type} (x a:α) (xs:List α) (n:Nat),(x :: xs).set (n+1) a=x :: xs.set n a):=⟨fun _ _ _=>by simp,fun _ _ _=>rfl,fun _ _ _ _=>rfl⟩
abbrev JN(n:Int):Value:= .agg #[Ji .i64 n,.pointer Jn]
theorem Ye(n:Int)(w:JW) :
  Calls Tryz.prog 84 #[Ji .i64 n] w fun e w'=>e= .returned (JN n)/\Below w.heap.size w w':=by
 go_enter Tryz.func84,Tryz.ntmps84;go_wp2;exact bodyPost_ret (v:=JN n) (by simp[results,Tryz.results84,go_sem]) rfl ⟨rfl,(E6 _ _).alloc (E5 _) _⟩
theorem KU(n:Int)(w:JW) :
  Calls Tryz.prog 98 #[JN n] w fun e w'=>e= .returned (.tuple #[Ji .i64 n,.bool true])/\Below w.heap.size w w':=by
 go_enter Tryz.func98,Tryz.ntmps98;go_wp2;go_quiet (fail)
 go_wp2;go_ret2;exact⟨rfl,below_drewN ((E6 _ _).alloc (E5 _) _) _⟩
def sgn(n:Int):Int:=if n<0 then -1 else if 0<n then 1 else 0
theorem GS(n:Int)(w:JW) :
  Calls Tryz.prog 81 #[JN n] w fun e w'=>e= .returned (Ji .i64 (sgn n))/\Below w.heap.size w w':=by
 rcases Int.lt_trichotomy n 0 with h|h|h
 ·have e:sgn n=-1:=by unfold sgn;rw[if_pos h]
  rw[e];clear e;go_enter Tryz.func81,Tryz.ntmps81;go_wp2;go_ret;exact⟨rfl,(E6 _ _).alloc (E5 _) _⟩
 ·subst h;go_enter Tryz.func81,Tryz.ntmps81;go_wp2;go_ret;exact⟨rfl,(E6 _ _).alloc (E5 _) _⟩
 ·have e:sgn n=1:=by unfold sgn;rw[if_neg (by omega),if_pos h]
  rw[e];clear e;go_enter Tryz.func81,Tryz.ntmps81;go_wp2;go_ret;exact⟨rfl,(E6 _ _).alloc (E5 _) _⟩
def I64(n:Int):Prop:=-9223372036854775808<=n/\n<=9223372036854775807
abbrev Tab (w:JW):Prop:=Lib.TabIs Tryz.prog w "internal/strconv.uint64pow10" Ju Lib.pow10Tab
theorem O3{B:Nat}{a w:JW}(h:Below B a w)(hB:B<=w.heap.size)(os:Array Obj):Below B a (Sort.grow w os):=
 h.trans ⟨rfl,rfl,rfl,by simp[Sort.grow],fun k hk=>by simp[Sort.grow,Array.getElem?_append_left (show k<w.heap.size by omega)]⟩
theorem Wq(n:Int)(w:JW)(hn:I64 n)(ht:Tab w) :
  Calls Tryz.prog 90 #[JN n] w fun e w'=>e= .returned (.string ⟨(Lib.itoa n).toArray⟩)/\Below w.heap.size w w':=by
 have h0:=hn.1;have h1:=hn.2;have ht':=Lib.tabIs_alloc ht (.cells #[Ji .i64 n,.pointer Jn] 29);clear hn;go_enter Tryz.func90,Tryz.ntmps90;go_wp2_with (go_at_call 118;refine(Tryz.strconv_Itoa _ h0 h1 _ ht').mono ?_;rintro e w' ⟨rfl,k,os,rfl⟩)
 go_ret;exact⟨rfl,O3 (below_drewN ((E6 _ _).alloc (E5 _) _) _) (by simp) _⟩
theorem Jr(n:Int):IntKind.u64.wrap n=n%18446744073709551616:=by simp[IntKind.wrap,IntKind.signed,IntKind.bits]
theorem YQ{a b:Int}(h:a=b):Fb (Ji Ju a)= .returned (Ji Ju b):=by rw[h]
theorem Qq{a b:Int}(h:a=b):Fb (Ji .i64 a)= .returned (Ji .i64 b):=by rw[h]
theorem Qj(n:Int)(w:JW)(hn:I64 n) :
  Calls Tryz.prog 105 #[Ji .i64 n] w fun e w'=>e= .returned (Ji Ju (n.natAbs:Int))/\w'=w:=by
 have h0:=hn.1;have h1:=hn.2;clear hn;by_cases h:n<0
 ·go_enter Tryz.func105,Tryz.ntmps105;go_wp2;go_ret;exact⟨YQ (by rw[Jr,Jr];omega),rfl⟩
 ·go_enter Tryz.func105,Tryz.ntmps105;go_wp2;go_ret;exact⟨YQ (by omega),rfl⟩
theorem ZS(x y m:Nat)(hx:x<18446744073709551616)(hy:y<18446744073709551616)(hm:x*y=m)(h:m<=9223372036854775807)(w:JW) :
  Calls Tryz.prog 109 #[Ji Ju x,Ji Ju y] w fun e w'=>e= .returned (.tuple #[Ji Ju 0,Ji Ju (m:Int)])/\w'=w:=by
 have h1:x*y/18446744073709551616=0:=by rw[hm];omega
 have h2:x*y%18446744073709551616=m:=by rw[hm];omega
 have h:=Tryz.bits_Mul64 x y hx hy w;rw[h1,h2]at h;exact h
theorem QN{a:Int}(ha:I64 a):a.natAbs<18446744073709551616:=by have:=ha.1;have:=ha.2;omega
theorem ZL(a b:Int)(w:JW)(ha:I64 a)(hb:I64 b)(hab:(a.natAbs*b.natAbs)<=9223372036854775807) :
  Calls Tryz.prog 75 #[JN a,JN b] w fun e w'=>e= .returned (JN (a*b))/\Below w.heap.size w w':=by
 obtain⟨m,hm⟩:∃m,a.natAbs*b.natAbs=m:=⟨_,rfl⟩;have hm':m<=9223372036854775807:=by omega
 have hc:m=(a*b).natAbs:=by rw[←hm,Int.natAbs_mul]
 have h1:-9223372036854775807<=a*b:=by omega
 have h2:a*b<=9223372036854775807:=by omega
 have h3:(m:Int)<=9223372036854775807:=by omega
 have Hm:=Lh hm;clear hm hab hc;go_enter Tryz.func75,Tryz.ntmps75;go_wp2_with fail
 go_quiet ((first|(go_at_call 105;exact Calls.quiet_of_same (Qj _ _ (by assumption)))|(go_at_call 109;exact Calls.quiet_of_same (ZS _ _ _ (QN ha) (QN hb) Hm.out hm' _))))
 go_wp2;exact bodyPost_ret (v:=JN (a*b)) (by simp[results,Tryz.results75,go_sem]) rfl ⟨rfl,by repeat (first|exact E6 _ _|refine Fr ?_ (by first|exact E5 _|(simp <;> omega)) _|refine below_drewN ?_ _|refine Fe ?_ (by first|exact E5 _|(simp <;> omega)) _)⟩
theorem Km(x:Nat)(h0:x≠0)(h:x<18446744073709551616):∃m,x=2^Lib.ctz 64 x*m/\m%2=1/\Lib.ctz 64 x<64:=by
 obtain⟨m,hm,hk⟩:=Lib.ctzFrom_spec 64 x (by omega) (by simpa using h);have e:Lib.ctz 64 x=Lib.ctzFrom 64 x:=by unfold Lib.ctz;rw[if_neg h0]
 rw[e];exact⟨2*m+1,hm,by omega,hk⟩
theorem Xb(x m k:Nat)(hx:x%2=1):E4 x (2^k*m)=E4 x m:=by
 have hc:Nat.Coprime (2^k) x:=by
  refine Nat.Coprime.pow_left k ?_;show E4 2 x=1;rw[Nat.gcd_rec,hx]
  decide
 exact Nat.Coprime.gcd_mul_left_cancel_right m hc
def odd(x:Nat):Nat:=x/2^Lib.ctz 64 x
theorem Yc(x:Nat)(h0:x≠0)(h:x<18446744073709551616):x=2^Lib.ctz 64 x*odd x/\odd x%2=1/\Lib.ctz 64 x<64/\odd x<=x/\1<=odd x:=by
 obtain⟨m,hm,ho,hk⟩:=Km x h0 h;have e:odd x=m:=by
  unfold odd
  conv=>lhs;lhs;rw[hm]
  exact Nat.mul_div_cancel_left m (Fw (by decide))
 rw[e];refine⟨hm,ho,hk,?_,by omega⟩;rw[←e];exact Nat.div_le_self _ _
theorem Zo(x y:Nat)(hx:x%2=1)(h0:y≠0)(h:y<18446744073709551616):E4 x (odd y)=E4 x y:=by
 have hs:=(Yc y h0 h).1;have:=Xb x (odd y) (Lib.ctz 64 y) hx;rw[←this,←hs]
theorem Zn(x y:Nat)(h:x<=y):E4 x (y-x)=E4 x y:=Nat.gcd_sub_self_right h
theorem KX(a b:Nat)(ha:a≠0)(hb:b≠0)(h1:a<18446744073709551616)(h2:b<18446744073709551616)(k:Nat)
  (hk:k=min (Lib.ctz 64 a) (Lib.ctz 64 b)):E4 (odd a) b*2^k=E4 a b:=by
 obtain⟨ea,oa,_,_,_⟩:=Yc a ha h1;obtain⟨eb,ob,_,_,_⟩:=Yc b hb h2;have g1:E4 (odd a) b=E4 (odd a) (odd b):=(Zo (odd a) b oa hb h2).symm;rw[g1];rcases Nat.le_total (Lib.ctz 64 a) (Lib.ctz 64 b)with h|h
 ·rw[Fm h]at hk;subst hk;obtain⟨d,hd⟩:=Nat.exists_eq_add_of_le h;have:b=2^Lib.ctz 64 a*(2^d*odd b):=by rw[←E8,←Fx,←hd];exact eb
  have e:E4 a b=E4 (2^Lib.ctz 64 a*odd a) (2^Lib.ctz 64 a*(2^d*odd b)):=by rw[←this,←ea]
  rw[e,Nat.gcd_mul_left,Xb _ _ _ oa,Fg]
 ·rw[Nat.min_eq_right h]at hk;subst hk;obtain⟨d,hd⟩:=Nat.exists_eq_add_of_le h;have:a=2^Lib.ctz 64 b*(2^d*odd a):=by rw[←E8,←Fx,←hd];exact ea
  have e:E4 a b=E4 (2^Lib.ctz 64 b*(2^d*odd a)) (2^Lib.ctz 64 b*odd b):=by rw[←this,←eb]
  rw[e,Nat.gcd_mul_left,Fh (2^d*odd a),Xb _ _ _ ob,Fh,Fg]
theorem EG(a b:Nat)(ha:a≠0)(hb:b≠0)(h1:a<18446744073709551616)(h2:b<18446744073709551616):Lib.ctz 64 (a ||| b)=min (Lib.ctz 64 a) (Lib.ctz 64 b):=by
 have hor:(a ||| b)≠0:=by intro h;exact ha (Nat.or_eq_zero_iff.1 h).1
 have hlt:(a ||| b)<18446744073709551616:=by
  have:=Nat.or_lt_two_pow (n:=64) (x:=a) (y:=b) (by simpa using h1) (by simpa using h2);simpa using this
 obtain⟨ea,oa,_,_,_⟩:=Yc a ha h1;obtain⟨eb,ob,_,_,_⟩:=Yc b hb h2;obtain⟨ec,oc,_,_,_⟩:=Yc _ hor hlt;have bit:∀x m k i,x=2^k*m->x.testBit i=(decide (k<=i) && m.testBit (i-k)):=fun x m k i e=>by rw[e,Nat.testBit_two_pow_mul]
 have low:∀x m k,x=2^k*m->m%2=1->x.testBit k=true:=fun x m k e o=>by
  rw[bit x m k k e];simp[Nat.testBit_zero,o]
 have less:∀x m k i,x=2^k*m->i<k->x.testBit i=false:=fun x m k i e h=>by
  rw[bit x m k i e];simp;omega
 have hc:(a ||| b).testBit (Lib.ctz 64 (a ||| b))=true:=low _ _ _ ec oc;rcases Nat.lt_trichotomy (Lib.ctz 64 (a ||| b)) (min (Lib.ctz 64 a) (Lib.ctz 64 b))with h|h|h
 ·rw[Nat.testBit_or,less _ _ _ _ ea (by omega),less _ _ _ _ eb (by omega)]at hc;simp at hc
 ·exact h
 ·exfalso;have hmin:(a ||| b).testBit (min (Lib.ctz 64 a) (Lib.ctz 64 b))=true:=by
   rw[Nat.testBit_or];rcases Nat.le_total (Lib.ctz 64 a) (Lib.ctz 64 b)with h'|h'
   ·rw[Fm h',low _ _ _ ea oa];rfl
   ·rw[Nat.min_eq_right h',low _ _ _ eb ob];simp
  rw[less _ _ _ _ ec h]at hmin;simp at hmin
abbrev Yf(w:JW):Prop:=TabAt (Tryz.lays7n29_ren.g 1) Lib.deBruijn64tab w
theorem Vq(a b:Nat)(w:JW)(ha:a<18446744073709551616)(hb:b<18446744073709551616)(h:a=0\/b=0) :
  Calls Tryz.prog 104 #[Ji Ju a,Ji Ju b] w fun e w'=>e= .returned (Ji Ju (E4 a b:Nat))/\w'=w:=by
 have e:bits BinOp.or IntKind.u64 (a:Int) (b:Int)=(E4 a b:Nat):=by
  rw[bits_or_u64_nat a b ha hb];rcases h with rfl|rfl <;> simp
 have He:=Lh e;clear e;rcases h with h|h
 ·subst h;go_enter Tryz.func104,Tryz.ntmps104;go_wp2;go_ret;exact⟨YQ He.out,rfl⟩
 ·subst h;by_cases h0:a=0
  ·subst h0;go_enter Tryz.func104,Tryz.ntmps104;go_wp2;go_ret;exact⟨rfl,rfl⟩
  ·have h1:((a:Int) ==0)=false:=by rw[beq_eq_false_iff_ne];omega
   go_enter Tryz.func104,Tryz.ntmps104;go_wp2;go_ret;exact⟨YQ He.out,rfl⟩
theorem Wo(x k:Nat)(hx:x<18446744073709551616)(hk:Lib.ctz 64 x=k)(w:JW)(ht:Yf w) :
  Calls Tryz.prog 137 #[Ji Ju x] w fun e w'=>e= .returned (Ji .i64 (k:Nat))/\w=w':=by
 subst hk;exact(Tryz.bits_TrailingZeros64 x hx w (fun _=>ht)).mono fun e w' ⟨h1,h2⟩=>⟨h1,h2.symm⟩
def O9(g:Nat)(va vb:Value):Prop:=∃x y:Nat,va=Ji Ju x/\vb=Ji Ju y/\x%2=1/\x<18446744073709551616/\y<18446744073709551616/\E4 x y=g
theorem Xt{k l:IntKind}{u v:Int}:(intOf (Ji k u)).toNat+(intOf (Ji l v)).toNat=u.toNat+v.toNat:=rfl
theorem EA{g x y z j:Nat}(hg:E4 x y=g)(ho:E4 x z=E4 x y)(hz:((y:Int)/2^j)=(z:Int))(hx:x%2=1)(hx1:x<18446744073709551616)(hy1:y<18446744073709551616)(ly:z<=y)(py:1<=z)
  (h:(x:Int)<=(y:Int)/2^j):O9 g (Ji Ju x) (Ji Ju (IntKind.u64.wrap ((y:Int)/2^j-x))) /\
   (intOf (Ji Ju x)).toNat+(intOf (Ji Ju (IntKind.u64.wrap ((y:Int)/2^j-x)))).toNat<(intOf (Ji Ju x)).toNat+(intOf (Ji Ju y)).toNat:=by
 rw[hz]at h ⊢;have e:IntKind.u64.wrap ((z:Int)-x)=((z-x:Nat):Int):=by rw[Jr];omega
 rw[e,Xt,Xt];refine⟨⟨x,z-x,rfl,rfl,hx,hx1,by omega,?_⟩,by omega⟩;rw[Zn x z (by omega),ho,hg]
theorem WV{g x y z j:Nat}(hg:E4 x y=g)(ho:E4 x z=E4 x y)(hz:((y:Int)/2^j)=(z:Int))(oy:z%2=1)(hx1:x<18446744073709551616)(hy1:y<18446744073709551616)(ly:z<=y)
  (h:(y:Int)/2^j<(x:Int)):O9 g (Ji Ju ((y:Int)/2^j)) (Ji Ju (IntKind.u64.wrap ((x:Int)-(y:Int)/2^j))) /\
   (intOf (Ji Ju ((y:Int)/2^j))).toNat+(intOf (Ji Ju (IntKind.u64.wrap ((x:Int)-(y:Int)/2^j)))).toNat<(intOf (Ji Ju x)).toNat+(intOf (Ji Ju y)).toNat:=by
 rw[hz]at h ⊢;have e:IntKind.u64.wrap ((x:Int)-z)=((x-z:Nat):Int):=by rw[Jr];omega
 rw[e,Xt,Xt];refine⟨⟨z,x-z,rfl,rfl,oy,by omega,by omega,?_⟩,by omega⟩;rw[Zn z x (by omega),Fh,ho,hg]
theorem Gj(a b:Nat)(w:JW)(ha:a<18446744073709551616)(hb:b<18446744073709551616)(h0:a≠0)(h1:b≠0)(ht:Yf w) :
  Calls Tryz.prog 104 #[Ji Ju a,Ji Ju b] w fun e w'=>e= .returned (Ji Ju (E4 a b:Nat))/\w'=w:=by
 have t0:((a:Int) ==0)=false:=by rw[beq_eq_false_iff_ne];omega
 have t1:((b:Int) ==0)=false:=by rw[beq_eq_false_iff_ne];omega
 have hor:=EG a b h0 h1 ha hb;have hgcd:=KX a b h0 h1 ha hb _ hor;have hlt:(a ||| b)<18446744073709551616:=by
  have:=Nat.or_lt_two_pow (n:=64) (x:=a) (y:=b) (by simpa using ha) (by simpa using hb);simpa using this
 have hbits:=bits_or_u64_nat a b ha hb;obtain⟨c,hc⟩:∃c,a ||| b=c:=⟨_,rfl⟩;rw[hc]at hor hgcd hlt hbits;obtain⟨s,hs⟩:∃s,Lib.ctz 64 c=s:=⟨_,rfl⟩;rw[hs]at hgcd hor;obtain⟨sa,oa,ka,la,pa⟩:=Yc a h0 ha;have ks:s<64:=by omega
 obtain⟨k,hk⟩:∃k,Lib.ctz 64 a=k:=⟨_,rfl⟩;rw[hk]at ka;have Hs:=Lh hs;have Hk:=Lh hk;have Hb:=Lh hbits;have Hg:=Lh hgcd;have Ht:=Lh ht;have Ho:=Lh (show odd a=a/2^k by unfold odd;rw[hk]);clear hs hk hbits hgcd ht hc hor sa h0 h1;go_enter Tryz.func104,Tryz.ntmps104;go_wp2_with fail
 rw[Hb.out];refine(Wo c s hlt Hs.out _ Ht.out).mono ?_;rintro e w' ⟨rfl,rfl⟩;go_wp2_with fail
 refine(Wo a k ha Hk.out _ Ht.out).mono ?_;rintro e w' ⟨rfl,rfl⟩;go_wp2_with fail
 go_loop [0,1] (fun va vb=>O9 (E4 (odd a) b) va vb) (fun va vb=>(intOf va).toNat+(intOf vb).toNat)
 case atStart=>
  refine⟨odd a,b,?_,rfl,oa,by omega,hb,rfl⟩;rw[Ho.out];simp
 case round=>
  obtain⟨x,y,rfl,rfl,hx,hx1,hy1,hg⟩:=hrel;have Hg':=Lh hg;clear hg;by_cases hy:y=0
  ·subst hy;go_wp2;go_ret;refine⟨YQ ?_,rfl⟩;have e:x=E4 (odd a) b:=by have:=Hg'.out;simpa using this
   have e2:=Hg.out;rw[←e]at e2;have e3:E4 a b<18446744073709551616:=Nat.lt_of_le_of_lt (Nat.gcd_le_left _ (by omega)) ha;rw[Jr,←e2];rw[←e2]at e3;have e4:(x:Int)*2^s=((x*2^s:Nat):Int):=by simp
   rw[e4];omega
  ·obtain⟨sy,oy,ky,ly,py⟩:=Yc y hy hy1;have hgo:=Zo x y hx hy hy1;obtain⟨j,hj⟩:∃j,Lib.ctz 64 y=j:=⟨_,rfl⟩;obtain⟨z,hz⟩:∃z,odd y=z:=⟨_,rfl⟩;rw[hz]at oy ly py hgo;have t2:((y:Int) ==0)=false:=by rw[beq_eq_false_iff_ne];omega
   have Hz:=Lh (show((y:Int)/2^j)=(z:Int)by rw[←hz,←hj];unfold odd;simp);rw[hj]at ky;have Hj:=Lh hj;have Hgo:=Lh hgo;clear hj hz hgo sy hy;go_wp2_with fail
   refine(Wo y j hy1 Hj.out _ Ht.out).mono ?_;rintro e w' ⟨rfl,rfl⟩;go_wp2_with fail
   ·exact WV Hg'.out Hgo.out Hz.out oy hx1 hy1 ly (by assumption)
   ·exact EA Hg'.out Hgo.out Hz.out hx hx1 hy1 ly py (by assumption)
theorem WR(a b:Nat)(w:JW)(ha:a<18446744073709551616)(hb:b<18446744073709551616)(ht:Yf w) :
  Calls Tryz.prog 104 #[Ji Ju a,Ji Ju b] w fun e w'=>e= .returned (Ji Ju (E4 a b:Nat))/\w'=w:=by
 by_cases h:a=0\/b=0
 ·exact Vq a b w ha hb h
 ·exact Gj a b w ha hb (fun e=>h (.inl e)) (fun e=>h (.inr e)) ht
theorem YB(a b g:Nat)(w:JW)(ha:a<18446744073709551616)(hb:b<18446744073709551616)(hg:E4 a b=g)(ht:Yf w) :
  Calls Tryz.prog 104 #[Ji Ju a,Ji Ju b] w fun e w'=>e= .returned (Ji Ju (g:Nat))/\w'=w:=by
 subst hg;exact WR a b w ha hb ht
abbrev TzG:Nat:=Tryz.lays7n29_ren.g 1
theorem Yp{B:Nat}{w w':JW}(ht:Yf w)(hb:Below B w w')(hB:TzG<B):Yf w':=fun j hj=>by
 rw[←ht j hj];exact hb.cell (p:=⟨_,j,Jn⟩) hB
theorem ZW(a b:Int)(w:JW)(ha:I64 a)(hb:I64 b)(g:Nat)(hg:E4 a.natAbs b.natAbs=g)(hg1:g<=9223372036854775807)(ht:Yf w)(hw:TzG<w.heap.size) :
  Calls Tryz.prog 74 #[JN a,JN b] w fun e w'=>e= .returned (JN g)/\Below w.heap.size w w':=by
 have hg2:(g:Int)<=9223372036854775807:=by omega
 have Hg:=Lh hg;have Ht:∀w',Below w.heap.size w w'->Yf w':=fun w' h=>Yp ht h hw;have Hx:=Lh Ht;clear hg ht Ht;go_enter Tryz.func74,Tryz.ntmps74;go_wp2_with fail
 go_quiet ((first|(go_at_call 105;exact Calls.quiet_of_same (Qj _ _ (by assumption)))|(go_at_call 104;exact Calls.quiet_of_same (YB _ _ g _ (QN ha) (QN hb) Hg.out (Hx.out _ (by repeat (first|exact E6 _ _|refine below_drewN ?_ _|refine Fe ?_ (by first|exact E5 _|(simp <;> omega)) _)))))))
 go_wp2;exact bodyPost_ret (v:=JN g) (by simp[results,Tryz.results74,go_sem]) rfl ⟨rfl,by repeat (first|exact E6 _ _|refine Fr ?_ (by first|exact E5 _|(simp <;> omega)) _|refine below_drewN ?_ _|refine Fe ?_ (by first|exact E5 _|(simp <;> omega)) _)⟩
def Wh(n:Int)(w:JW)(e:Ending)(w':JW):Prop:=
 ∃b,e= .returned (.tuple #[.slice (Jo ⟨b,0,Jn⟩) 1 1,.bool (decide (n<0))])/\w.heap.size<=b/\w'.cell? ⟨b,0,Jn⟩=Jo (Ji Ju n.natAbs)/\Below w.heap.size w w'
theorem G7(n:Int)(w:JW)(hn:I64 n)(h0:n≠0) :
  Calls Tryz.prog 107 #[JN n] w (Wh n w):=by
 have t0:((n:Int) ==0)=false:=by rw[beq_eq_false_iff_ne];exact h0
 clear h0;go_enter Tryz.func107,Tryz.ntmps107;go_wp2_with fail
 go_region_with (go_at_call 105;refine(Qj _ _ hn).mono ?_;rintro e w' ⟨rfl,rfl⟩)
 all_goals
  go_wp2;go_ret2;exact⟨w.heap.size+1,rfl,by omega,by simp[go_sem],by repeat (first|exact E6 _ _|refine Below.drew ?_|refine Fe ?_ (by first|exact E5 _|(simp <;> omega)) _)⟩
theorem gTab:Tryz.prog.globalNamed "internal/strconv.uint64pow10"=Jo 6:=by kernel_rfl
theorem UC{w:JW}{b o:Nat}{v:Value}(h:w.cell? ⟨b,o,Jn⟩=Jo v):b<w.heap.size:=World.block_lt_of_cell? w ⟨b,o,Jn⟩ h
def Good(w:JW):Prop:=Tab w/\Yf w
theorem Er{w:JW}(h:Yf w):TzG<w.heap.size:=UC (h 0 (by decide))
theorem Good.size{w:JW}(h:Good w):TzG<w.heap.size:=Er h.2
theorem Good.below{w w':JW}(h:Good w)(hb:Below w.heap.size w w'):Good w':=
 ⟨Go.Joins.tab_stays gTab h.1 hb (E5 _),Yp h.2 hb h.size⟩
def IsL(w:JW)(A:Option Addr)(n c:Nat)(xs:List Value):Prop:=
 xs.length=n/\n<=c/\(0<n->∃b o,A=Jo ⟨b,o,Jn⟩/\b<w.heap.size/\∀j u,xs[j]?=Jo u->w.cell? ⟨b,o+j,Jn⟩=Jo u)
theorem IsL.keep{w w':JW}{A:Option Addr}{n c:Nat}{xs:List Value}(h:IsL w A n c xs)(hb:Below w.heap.size w w'):IsL w' A n c xs:=
 ⟨h.1,h.2.1,fun hn=>by
  obtain⟨b,o,e,hl,hc⟩:=h.2.2 hn;exact ⟨b,o,e,E7 hl hb.size,fun j u hu=>(hb.cell (p:=⟨b,o+j,Jn⟩) hl).trans (hc j u hu)⟩⟩
def ints(l:List Int):List Value:=l.map (Fp .i64)
def U2(l:List Int):Nat->Nat
 | 0=>0
 | k+1=>if l.getD k 0=0 then U2 l k else k+1
theorem ZG{A:Option Addr}{n m c:Nat}(h:n=m):Fb (.slice A n c)= .returned (.slice A m c):=by rw[h]
theorem KV:(Tryz.prog.info? 5).map (fun i=>(i.zero,i.size,i.bytes))=Jo (Jo (Ji .u8 0),1,1):=by kernel_rfl
def outN(neg:Bool)(t:List Int)(j:Nat):List Int:=(if neg then[45] else[]) ++ (t.drop j).reverse.map (48+·)
def Qx(l:List Int):List Value:=l.map (Fp .u8)
def YG(neg:Bool)(l:List Int):ByteArray:=
 if U2 l l.length=0 then⟨#[48]⟩ else strOfNums (outN neg (l.take (U2 l l.length)) 0)
theorem Ez{w:JW}{base:Nat}{e:TypeId}{size n:Nat}{v:Value}{xs:List Value}(h:w.ownsRow base e size v n xs){k:Nat}(hk:v.ownBlock=Jo k):base<=k:=by
 rcases h.2 with⟨rfl,_⟩|⟨g,cap,cur,rfl,hg,_⟩
 ·simp[Fo]at hk
 ·simp[Fo]at hk;omega
def digN(u:Nat):List Int:=if u=0 then[] else((u%10:Nat):Int) :: digN (u/10)
termination_by u
decreasing_by omega
theorem Qa:digN 0=[]:=by rw[digN,if_pos rfl]
theorem Qt{u:Nat}(h:u≠0):digN u=((u%10:Nat):Int) :: digN (u/10):=by rw[digN,if_neg h]
theorem UN:∀(k u:Nat),u<10^k->(digN u).length<=k
 | 0,u,h=>by
  have:u=0:=by simpa using h
  subst this;rw[Qa];exact E5 _
 | k+1,u,h=>by
  by_cases h0:u=0
  ·subst h0;rw[Qa];exact Fy _
  ·rw[Qt h0];have:=UN k (u/10) (by rw[Fu]at h;omega);simpa using this
theorem Kj(u:Nat):∀x∈digN u,0<=x/\x<=9:=by
 induction u using Fc with
 | _ u ih=>
  intro x hx;by_cases h0:u=0
  ·subst h0;rw[Qa]at hx;cases hx
  ·rw[Qt h0]at hx;rcases List.mem_cons.1 hx with rfl|hx
   ·omega
   ·exact ih (u/10) (by omega) x hx
theorem Xf(l:List Int)(h:l.getLast?≠Jo 0):U2 l l.length=l.length:=by
 rcases List.eq_nil_or_concat l with rfl|⟨l',x,rfl⟩
 ·rfl
 ·rw[List.concat_eq_append]at h ⊢;have hx:x≠0:=by intro e;apply h;simp[e]
  rw[EY];show U2 _ (l'.length+1)=_;unfold U2;rw[if_neg (by simpa[Fq]using hx)];rfl
theorem Xd(u:Nat):(digN u).getLast?≠Jo 0:=by
 induction u using Fc with
 | _ u ih=>
  by_cases h0:u=0
  ·subst h0;rw[Qa];simp
  ·rw[Qt h0];by_cases h1:u/10=0
   ·rw[h1,Qa];simp;omega
   ·have hne:digN (u/10)≠[]:=by rw[Qt h1];simp
    rw[List.getLast?_cons_of_ne_nil hne];exact ih (u/10) (by omega)
theorem Vb(u:Nat):Fj (48+((u:Int))).toNat=Fj (48+u):=by
 congr 1
theorem Ud(u:Nat)(h:u≠0):Lib.decDigits u=(digN u).reverse.map fun d=>Fj (48+d).toNat:=by
 induction u using Fc with
 | _ u ih=>
  rw[Qt h,Lib.decDigits];by_cases h1:u<10
  ·rw[dif_pos h1,show u/10=0 by omega,Qa,show u%10=u by omega];rw[List.reverse_singleton,List.map_singleton,Vb]
  ·rw[dif_neg h1,ih (u/10) (by omega) (by omega),List.reverse_cons,List.map_append,List.map_singleton,Vb]
theorem GM(n:Int):YG (decide (n<0)) (digN n.natAbs)=⟨(Lib.itoa n).toArray⟩:=by
 unfold YG;rw[Xf _ (Xd _)];by_cases h0:n=0
 ·subst h0;rw[show(0:Int).natAbs=0 from rfl,Qa];simp[Lib.itoa,Lib.decDigits]
 ·have hne:n.natAbs≠0:=by omega
  have hl:(digN n.natAbs).length≠0:=by rw[Qt hne];simp
  rw[if_neg hl,List.take_length];unfold strOfNums outN Lib.itoa;by_cases hn:n<0
  ·rw[if_pos hn,Ud _ hne];simp[hn]
  ·rw[if_neg hn,show n.toNat=n.natAbs by omega,Ud _ hne];simp[hn]
def Je:List Nat->Nat
 | []=>0
 | d :: r=>d+18446744073709551616*Je r
def Jy(l:List Nat):Prop:=∀d∈l,d<18446744073709551616
def u64s(l:List Nat):List Value:=l.map fun d:Nat=>Fp Ju (d:Int)
def base(n:Nat):Nat:=18446744073709551616^n
theorem Qk:base 0=1:=rfl
theorem JJ(n:Nat):base (n+1)=18446744073709551616*base n:=by unfold base;rw[Fu,Fg]
theorem Uf(n:Nat):0<base n:=Fw (by decide)
theorem Qc(a b:List Nat):Je (a ++ b)=Je a+base a.length*Je b:=by
 induction a with
 | nil=>simp[Je,Qk]
 | cons d r ih=>rw[List.cons_append,Je,Je,ih,Fl,JJ,Fk,E8];omega
theorem JH{l:List Nat}(h:Jy l):Je l<base l.length:=by
 induction l with
 | nil=>exact Nat.one_pos
 | cons d r ih=>
  rw[Je,Fl,JJ];have h1:=h d (List.mem_cons_self ..);have h2:=ih (fun x hx=>h x (List.mem_cons_of_mem _ hx));have h3:18446744073709551616*(Je r+1)<=18446744073709551616*base r.length:=Nat.mul_le_mul_left _ h2;omega
theorem JB(a:List Nat)(d:Nat):Je (a ++ [d])=Je a+base a.length*d:=by rw[Qc];simp[Je]
def Blk(w:JW)(g:Nat)(xs:List Nat):Prop:=∃cur:Array Value,w.heap[g]?=Jo (.cells cur 154 (0,0))/\cur.toList.take xs.length=u64s xs
theorem Blk.lt{w:JW}{g:Nat}{xs:List Nat}(h:Blk w g xs):g<w.heap.size:=by
 obtain⟨cur,h,_⟩:=h;rcases Nat.lt_or_ge g w.heap.size with hlt|hge
 ·exact hlt
 ·rw[Array.getElem?_eq_none hge]at h;cases h
theorem Blk.cell{w:JW}{g:Nat}{xs:List Nat}(h:Blk w g xs){i:Nat}(hi:i<xs.length):w.cell? ⟨g,i,Jn⟩=Jo (Ji Ju ((xs.getD i 0:Nat):Int)):=by
 obtain⟨cur,h,hc⟩:=h;rw[cell_of_row w g i cur 154 (0,0) h];have e:cur.toList[i]?=(u64s xs)[i]?:=by rw[←hc,Fi,if_pos hi]
 rw[←Array.getElem?_toList,e];simp[u64s,hi]
theorem Blk.frozen{w:JW}{g:Nat}{xs:List Nat}(h:Blk w g xs)(i:Nat):w.frozen? ⟨g,i,Jn⟩=false:=by
 obtain⟨cur,h,_⟩:=h;simp[World.frozen?,h]
theorem Blk.set_{w:JW}{g:Nat}{xs:List Nat}(h:Blk w g xs){i:Nat}(d:Nat)(_hi:i<xs.length):Blk (w.setCell ⟨g,i,Jn⟩ (Ji Ju (d:Int))) g (xs.set i d):=by
 obtain⟨cur,h,hc⟩:=h;refine⟨cur.setIfInBounds i (Ji Ju (d:Int)),by simp[EZ,E9,h],?_⟩;rw[Array.toList_setIfInBounds,List.length_set,List.take_set,hc];simp[u64s,List.map_set]
theorem Blk.below{w w':JW}{g B:Nat}{xs:List Nat}(h:Blk w g xs)(hb:Below B w w')(hg:g<B):Blk w' g xs:=by
 obtain⟨cur,h,hc⟩:=h;exact⟨cur,(hb.block g hg).trans h,hc⟩
theorem Blk.drewN{w:JW}{g:Nat}{xs:List Nat}(h:Blk w g xs)(n:Nat):Blk (w.drewN n) g xs:=h
theorem Blk.take{w:JW}{g:Nat}{xs:List Nat}(h:Blk w g xs)(n:Nat):Blk w g (xs.take n):=by
 obtain⟨cur,h,hc⟩:=h;refine⟨cur,h,?_⟩;rw[List.length_take];have:u64s (xs.take n)=(u64s xs).take n:=by simp[u64s,List.map_take]
 rw[this,←hc,List.take_take]
theorem Blk.of_own{w:JW}{base n:Nat}{v:Value}{xs:List Nat}(h:w.ownsRow base 154 1 v n (u64s xs))(hn:0<n):∃g c,v= .slice (Jo ⟨g,0,Jn⟩) n c/\n<=c/\c<=maxLen/\base<=g/\Blk w g xs:=by
 have hl:xs.length=n:=by simpa[u64s]using h.1
 rcases h.2 with⟨_,h0⟩|⟨g,cap,cur,rfl,hg,hh,hnc,hcm,hcs,hx⟩
 ·omega
 ·exact⟨g,cap,rfl,hnc,hcm,hg,cur,hh,by rw[hl,←hx,Nat.mul_one]⟩
theorem Blk.isL{w:JW}{g:Nat}{xs:List Nat}(h:Blk w g xs){o n c:Nat}(hn:o+n<=xs.length)(hc:n<=c):IsL w (Jo ⟨g,o,Jn⟩) n c (u64s ((xs.drop o).take n)):=by
 refine⟨by simp[u64s];omega,hc,fun _=>⟨g,o,rfl,h.lt,fun j u hu=>?_⟩⟩;simp only[u64s,List.getElem?_map,Fi,List.getElem?_drop,Option.map_eq_some_iff]at hu;obtain⟨d,hd,rfl⟩:=hu
 split at hd
 ·have hj:o+j<xs.length:=by omega
  rw[h.cell hj];rw[Fa hj]at hd;simp at hd;simp[Fq,hj,hd]
 ·cases hd
def Y5(w:JW)(g:Nat):Nat:=
 match w.heap[g]? with
 | some (.cells cur _ _)=>cur.size
 | _=>0
theorem OJ(w:JW)(g i:Nat)(u:Value):Y5 (w.setCell ⟨g,i,Jn⟩ u) g=Y5 w g:=by
 unfold Y5;cases h:w.heap[g]? with
 | none=>simp[EZ,E9,h]
 | some o=>cases o <;> simp[EZ,E9,h]
structure Only (g:Nat) (w w':JW):Prop where
 os:w'.os=w.os
 tape:w'.tape=w.tape
 output:w'.output=w.output
 size:w.heap.size<=w'.heap.size
 block:∀k,k<w.heap.size->k≠g->w'.heap[k]?=w.heap[k]?
 room:g<w.heap.size->Y5 w' g=Y5 w g
theorem Only.refl(g:Nat)(w:JW):Only g w w:=⟨rfl,rfl,rfl,E5 _,fun _ _ _=>rfl,fun _=>rfl⟩
theorem Only.trans{g:Nat}{a b c:JW}(h:Only g a b)(k:Only g b c):Only g a c:=
 ⟨k.os.trans h.os,k.tape.trans h.tape,k.output.trans h.output,Fv h.size k.size,fun i hi hg=>(k.block i (E7 hi h.size) hg).trans (h.block i hi hg),fun hg=>(k.room (E7 hg h.size)).trans (h.room hg)⟩
theorem Only.set_{g:Nat}{a w:JW}(h:Only g a w)(i:Nat)(u:Value):Only g a (w.setCell ⟨g,i,Jn⟩ u):=
 ⟨h.os,h.tape,h.output,by simpa[EZ]using h.size,fun k hk hg=>(Below.heap_setCell w ⟨g,i,Jn⟩ u k hg).trans (h.block k hk hg),fun hg=>(OJ w g i u).trans (h.room hg)⟩
theorem Only.drewN{g:Nat}{a w:JW}(h:Only g a w)(n:Nat):Only g a (w.drewN n):=⟨h.os,h.tape,h.output,h.size,h.block,h.room⟩
theorem Below.only{B g:Nat}{a w w':JW}(h:Below B a w)(ho:Only g w w')(hg:B<=g)(hB:B<=w.heap.size):Below B a w':=
 ⟨ho.os.trans h.os,ho.tape.trans h.tape,ho.output.trans h.output,Fv h.size ho.size,fun k hk=>(ho.block k (E7 hk hB) (by omega)).trans (h.block k hk)⟩
theorem Only.cell{g:Nat}{w w':JW}(h:Only g w w'){b o:Nat}(hb:b<w.heap.size)(hg:b≠g):w'.cell? ⟨b,o,Jn⟩=w.cell? ⟨b,o,Jn⟩:=
 World.cell?_of_block (h.block b hb hg)
theorem Yv(x y c s d:Nat)(hc:c<=1)(hs:(x+y+c)%18446744073709551616=s)(hd:(x+y+c)/18446744073709551616=d)(w:JW) :
  (callFunc 169 #[Ji Ju x,Ji Ju y,Ji Ju c]).run Tryz.prog w= .ok (.value (.tuple #[Ji Ju (s:Int),Ji Ju (d:Int)])) w:=by
 rw[←hs,←hd];exact Any7.bits_Add64 Tryz.lays7n25 x y c hc w
theorem Y0(x y b s d:Nat)(hb:b<=1)(hs:(x+18446744073709551616-y-b)%18446744073709551616=s)(hd:(if x<y+b then 1 else 0)=d)(w:JW) :
  (callFunc 166 #[Ji Ju x,Ji Ju y,Ji Ju b]).run Tryz.prog w= .ok (.value (.tuple #[Ji Ju (s:Int),Ji Ju (d:Int)])) w:=by
 rw[←hs,←hd];exact Any7.bits_Sub64 Tryz.lays7n26 x y b hb w
theorem UI(x y h l:Nat)(hx:x<18446744073709551616)(hy:y<18446744073709551616)(hh:x*y/18446744073709551616=h)(hl:x*y%18446744073709551616=l)(w:JW) :
  Calls Tryz.prog 109 #[Ji Ju x,Ji Ju y] w fun e w'=>e= .returned (.tuple #[Ji Ju (h:Int),Ji Ju (l:Int)])/\w=w':=by
 rw[←hh,←hl];exact(Tryz.bits_Mul64 x y hx hy w).mono fun e w' ⟨h1,h2⟩=>⟨h1,h2.symm⟩
def put(xs:List Nat)(o:Nat)(ys:List Nat):List Nat:=xs.take o ++ ys ++ xs.drop (o+ys.length)
theorem Yz(xs:List Nat)(o:Nat):put xs o []=xs:=by simp[put]
theorem Jv{xs:List Nat}{o:Nat}{ys:List Nat}(h:o+ys.length<=xs.length):(put xs o ys).length=xs.length:=by simp[put];omega
theorem QM{xs:List Nat}{o:Nat}{ys:List Nat}{i:Nat}(ho:o<=xs.length)(hi:o+ys.length<=i):(put xs o ys).getD i 0=xs.getD i 0:=by
 unfold put;rw[F0,F0,List.getElem?_append_right (by simp;omega),List.getElem?_drop]
 congr 2
 simp;omega
theorem QJ{xs:List Nat}{o:Nat}{ys:List Nat}{d:Nat}(h:o+ys.length<xs.length):(put xs o ys).set (o+ys.length) d=put xs o (ys ++ [d]):=by
 unfold put;rw[List.set_append_right _ _ (by simp;omega)];have e:o+ys.length-(xs.take o ++ ys).length=0:=by simp;omega
 rw[e,List.drop_eq_getElem_cons h,List.set_cons_zero,EY,Ff];simp[Ft]
def VQ(w0:JW)(g o:Nat)(xs:List Nat)(p0 m:Nat)(vi vp:Value)(wr:JW)(n:Nat):Prop:=
 ∃(ys:List Nat) (p:Nat),ys.length<=n/\vi=Ji .i64 (ys.length:Nat)/\vp=Ji Ju (p:Nat)/\p<18446744073709551616/\Jy ys/\Je ys+base ys.length*p=Je ((xs.drop o).take ys.length)*m+p0 /\
  Blk wr g (put xs o ys)/\Only g w0 wr
theorem VI{d m q h l s f:Nat}(hd:d<18446744073709551616)(hm:m<18446744073709551616)(hq:q<18446744073709551616)(hh:d*m/18446744073709551616=h)(hl:d*m%18446744073709551616=l)
  (hs:(l+q+0)%18446744073709551616=s) (hf:(l+q+0)/18446744073709551616=f):s+18446744073709551616*(h+f)=d*m+q/\h+f<18446744073709551616/\s<18446744073709551616/\f<=1:=by
 have h1:d*m<=18446744073709551615*18446744073709551615:=Nat.mul_le_mul (by omega) (by omega);generalize d*m=t at *
 omega
theorem Yo{xs:List Nat}{o k d:Nat}(hk:o+k<xs.length)(hd:xs.getD (o+k) 0=d):(xs.drop o).take (k+1)=(xs.drop o).take k ++ [d]:=by
 rw[List.take_succ_eq_append_getElem (by simp;omega)]
 congr 2
 rw[List.getElem_drop,←hd];simp[Fq,hk]
theorem QL{xs:List Nat}{o k:Nat}(hk:o+k<=xs.length):((xs.drop o).take k).length=k:=by simp;omega
theorem Oa{w0 wr:JW}{g o k n d m p q h l s f:Nat}{xs ys:List Nat}(hk:ys.length=k)(hkn:k<n)(ho:o+n<=xs.length)(hdx:xs.getD (o+ys.length) 0=d)(hd:d<18446744073709551616)(hm:m<18446744073709551616)(hq:q<18446744073709551616)
  (hh:d*m/18446744073709551616=h) (hl:d*m%18446744073709551616=l) (hs:(l+q+0)%18446744073709551616=s) (hf:(l+q+0)/18446744073709551616=f)
  (hyw:Jy ys) (hval:Je ys+base ys.length*q=Je ((xs.drop o).take ys.length)*m+p) (hb:Blk wr g (put xs o ys)) (hw:Only g w0 wr) :
  VQ w0 g o xs p m (Ji .i64 ((k:Int)+1)) (Ji Ju ((h:Int)+f)) (wr.setCell ⟨g,o+k,Jn⟩ (Ji Ju (s:Int))) n:=by
 obtain⟨e1,e2,e3,_⟩:=VI hd hm hq hh hl hs hf;subst hk;refine⟨ys ++ [s],h+f,by simp;omega,by simp,by simp,e2,?_,?_,?_,hw.set_ _ _⟩
 ·intro x hx;rcases List.mem_append.1 hx with hx|hx
  ·exact hyw x hx
  ·rw[List.mem_singleton.1 hx];exact e3
 ·rw[JB,EY,Ff,JJ,Yo (by omega) hdx,JB,QL (by omega)];have e4:base ys.length*s+18446744073709551616*base ys.length*(h+f)=base ys.length*(d*m+q):=by rw[←e1];simp only[Fk,E8,Nat.mul_left_comm]
  rw[Ft,e4,Fk,Nat.add_mul,E8];omega
 ·rw[←QJ (by omega)];exact hb.set_ _ (by rw[Jv (by omega)];omega)
theorem XS(g o n c:Nat)(xs:List Nat)(m p:Nat)(w:JW)(hb:Blk w g xs)(ho:o+n<=xs.length)(hx:Jy xs)(hm:m<18446744073709551616)(hp:p<18446744073709551616)(hn:n<4294967296)(_hoo:o<4294967296) :
  Calls Tryz.prog 162 #[.slice (Jo ⟨g,o,Jn⟩) n c,Ji Ju (m:Nat),Ji Ju (p:Nat)] w fun e w'=>
   ∃(ys:List Nat) (q:Nat),e= .returned (Ji Ju (q:Nat))/\ys.length=n/\q<18446744073709551616/\Jy ys/\Je ys+base n*q=Je ((xs.drop o).take n)*m+p/\Blk w' g (put xs o ys)/\Only g w w':=by
 have Hb:=Lh hb;have Hx:=Lh hx;clear hb hx;go_enter Tryz.func162,Tryz.ntmps162;go_wp2_with fail
 go_loopw [14,2] (fun vi vp wr=>VQ w g o xs p m vi vp wr n) (fun vi _ _=>n-(intOf vi).toNat)
 case atStart=>exact⟨[],p,Fy _,rfl,rfl,hp,fun d hd=>(by cases hd),by simp[Je,Qk],by rw[Yz];exact Hb.out,Only.refl _ _⟩
 case round=>
  obtain⟨ys,q,hyn,rfl,rfl,hq,hyw,hval,hblk,honly⟩:=hrel;have hlen:(put xs o ys).length=xs.length:=Jv (by omega);have Hblk:=Lh hblk;have Hyw:=Lh hyw;have Hval:=Lh hval;have Honly:=Lh honly;by_cases hlt:ys.length<n
  ·have hcell:=hblk.cell (i:=o+ys.length) (by omega);rw[QM (by omega) (E5 _)]at hcell;have hfz:=hblk.frozen (o+ys.length);have hd:=Hx.out (xs.getD (o+ys.length) 0) (by simp[show o+ys.length<xs.length by omega]);obtain⟨d,hd'⟩:∃d,xs.getD (o+ys.length) 0=d:=⟨_,rfl⟩;rw[hd']at hcell hd;obtain⟨k,hk⟩:∃k,ys.length=k:=⟨_,rfl⟩;have Hk:=Lh hk;have Hd:=Lh hd';rw[hk]at hcell hfz hlt hyn;rw[hk];clear hblk hyw hval honly hd' hk hlen;obtain⟨h,hh⟩:∃h,d*m/18446744073709551616=h:=⟨_,rfl⟩;obtain⟨l,hl⟩:∃l,d*m%18446744073709551616=l:=⟨_,rfl⟩;obtain⟨s,hs⟩:∃s,(l+q+0)%18446744073709551616=s:=⟨_,rfl⟩;obtain⟨f,hf⟩:∃f,(l+q+0)/18446744073709551616=f:=⟨_,rfl⟩;have Hmul:=Lh (UI d m h l hd hm hh hl);have Hadd:=Lh (Yv l q 0 s f (by omega) hs hf);have hadd:∀W:JW,(callFunc 169 #[Ji Ju (l:Int),Ji Ju (q:Int),Ji Ju 0]).run Tryz.prog W= .ok (.value (.tuple #[Ji Ju (s:Int),Ji Ju (f:Int)])) W:=Hadd.out;have hle:h+f<18446744073709551616:=(VI hd hm hq hh hl hs hf).2.1;have Hh:=Lh hh;have Hl:=Lh hl;have Hs:=Lh hs;have Hf:=Lh hf;have hle':(h:Int)+f<18446744073709551616:=by omega
   clear hh hl hs hf;go_wp2_with fail
   refine(Hmul.out _).mono ?_;rintro e w' ⟨rfl,rfl⟩;go_wp2_with fail
   exact⟨Oa Hk.out hlt ho Hd.out hd hm hq Hh.out Hl.out Hs.out Hf.out Hyw.out Hval.out Hblk.out Honly.out,by simp[intOf] <;> omega⟩
  ·obtain rfl:ys.length=n:=by omega
   clear hblk hyw hval honly hlen;go_wp2;go_ret;exact⟨ys,q,rfl,rfl,hq,Hyw.out,Hval.out,Hblk.out,Honly.out⟩
def XV(c:UInt8):Bool:=decide (48<=c.toNat) && decide (c.toNat<=57)
def Yu(l:List UInt8):Bool:=l.all XV
theorem UB(s:ByteArray):s.data.toList.length=s.size:=Array.length_toList
theorem Ev{s:ByteArray}{k:Nat}(h:k<s.size):s.data.toList[k]?=Jo s[k]:=by
 have h':k<s.data.toList.length:=by rw[UB];exact h
 rw[Fa h'];rfl
def dig(c:UInt8):Nat:=c.toNat-48
def decF(a:Nat)(c:UInt8):Nat:=10*a+dig c
def decV(l:List UInt8):Nat:=l.foldl decF 0
theorem Z5(l:List UInt8)(c:UInt8):decV (l ++ [c])=10*decV l+dig c:=by simp[decV,decF,List.foldl_append]
theorem ED{c:UInt8}(h:XV c=true):dig c<10:=by
 unfold XV at h;simp at h;unfold dig;omega
def Vf(xs:List Nat):Prop:=xs.length=0\/base (xs.length-1)<=Je xs
theorem Oy:base 1=18446744073709551616:=by decide
theorem Gk(t:ByteArray)(m:Nat):(t.extract m t.size).data.toList=t.data.toList.drop m:=by
 have h:t.data.toList.length=t.size:=UB t;simp[ByteArray.data_extract,List.take_of_length_le,h]
