/- GC01: Int1 Int5 FrameZ -/
import Derived.Test.YtekhdklbfincpaaGreatDoorChecked
import Derived.Test.YtekhdklbfincpaaGreatDoorShelf
import Derived.WalkKit
import Derived.WalkSmall
import Derived.Deep.QuietTactic
import Derived.BigQuiet
import Derived.RegionTactic
import Derived.Below
import Derived.Lib.Hide
import Derived.Lib.SmallJoins
import Derived.Laws.ResultCell
import Derived.OwnWalk
import Derived.Lib.TrailingZeros
import Derived.Laws.Bits64b
import Derived.Deep.RegionHeld3
import Derived.Deep.RegionWith
import Derived.Test.YtekhdklbfincpaaGreatDoorCards
import Derived.Test.YtekhdklbfincpaaGreatDoorTie
import Derived.ProofKit
import Derived.OpenShut
import Derived.Deep.DeepHandedRow
import Derived.Lib.LaidTab
import Derived.Stop.LaidErr
set_option maxRecDepth 100000
set_option maxHeartbeats 16000000
namespace Go.Proofs.YtekhdklbfincpaaGreatDoor
open Go.Value renaming int→Ji,int→M3
open Go.IntKind renaming u64→Ju
open Go renaming World→JW
open _root_.Nat renaming gcd→M0,le_refl→M1,gcd_comm→M5,min_eq_left→M6,mul_assoc→M8,mul_comm→M9,pow_add→Mr
open Go.RowKit.Below renaming refl→M2,alloc→M4,setCell→M7
open Go.RowKit
theorem Lh{p:Prop}(h:p):RowKit.Hid p:=h
theorem Pls:(∀ {α:Type} (l:List α) (i:Nat) (a:α),l.toArray.setIfInBounds i a=(l.set i a).toArray)/\(∀ {α:Type} (x a:α) (xs:List α),(x :: xs).set 0 a=a :: xs)/\(∀ {α:Type} (x a:α) (xs:List α) (n:Nat),(x :: xs).set (n+1) a=x :: xs.set n a):=⟨fun _ _ _=>by simp,fun _ _ _=>rfl,fun _ _ _ _=>rfl⟩
abbrev JP(n:Int):Value:= .agg #[Ji .i64 n,.pointer none]
theorem YX(n:Int)(w:JW) :
  Calls Tryz.prog 69 #[Ji .i64 n] w fun e w'=>e= .returned (JP n)/\Below w.heap.size w w':=by
 go_enter Tryz.func69,Tryz.ntmps69;go_wp2;exact bodyPost_ret (v:=JP n) (by simp[results,Tryz.results69,go_sem]) rfl ⟨rfl,(M2 _ _).alloc (M1 _) _⟩
theorem Nq(n:Int)(w:JW) :
  Calls Tryz.prog 97 #[JP n] w fun e w'=>e= .returned (.tuple #[Ji .i64 n,.bool true])/\Below w.heap.size w w':=by
 go_enter Tryz.func97,Tryz.ntmps97;go_wp2;go_quiet (fail)
 go_wp2;go_ret2;exact⟨rfl,below_drewN ((M2 _ _).alloc (M1 _) _) _⟩
def sgn(n:Int):Int:=if n<0 then -1 else if 0<n then 1 else 0
theorem Wr(n:Int)(w:JW) :
  Calls Tryz.prog 66 #[JP n] w fun e w'=>e= .returned (Ji .i64 (sgn n))/\Below w.heap.size w w':=by
 rcases Int.lt_trichotomy n 0 with h|h|h
 ·have e:sgn n=-1:=by unfold sgn;rw[if_pos h]
  rw[e];clear e;go_enter Tryz.func66,Tryz.ntmps66;go_wp2;go_ret;exact⟨rfl,(M2 _ _).alloc (M1 _) _⟩
 ·subst h;go_enter Tryz.func66,Tryz.ntmps66;go_wp2;go_ret;exact⟨rfl,(M2 _ _).alloc (M1 _) _⟩
 ·have e:sgn n=1:=by unfold sgn;rw[if_neg (by omega),if_pos h]
  rw[e];clear e;go_enter Tryz.func66,Tryz.ntmps66;go_wp2;go_ret;exact⟨rfl,(M2 _ _).alloc (M1 _) _⟩
def I64(n:Int):Prop:=-9223372036854775808<=n/\n<=9223372036854775807
abbrev Tab (w:JW):Prop:=Lib.TabIs Tryz.prog w "internal/strconv.uint64pow10" Ju Lib.pow10Tab
theorem ED{B:Nat}{a w:JW}(h:Below B a w)(hB:B<=w.heap.size)(os:Array Obj):Below B a (Sort.grow w os):=
 h.trans ⟨rfl,rfl,rfl,by simp[Sort.grow],fun k hk=>by simp[Sort.grow,Array.getElem?_append_left (show k<w.heap.size by omega)]⟩
theorem DR(n:Int)(w:JW)(hn:I64 n)(ht:Tab w) :
  Calls Tryz.prog 79 #[JP n] w fun e w'=>e= .returned (.string ⟨(Lib.itoa n).toArray⟩)/\Below w.heap.size w w':=by
 have h0:=hn.1;have h1:=hn.2;have ht':=Lib.tabIs_alloc ht (.cells #[Ji .i64 n,.pointer none] 28);clear hn;go_enter Tryz.func79,Tryz.ntmps79;go_wp2_with (go_at_call 111;refine(Tryz.strconv_Itoa _ h0 h1 _ ht').mono ?_;rintro e w' ⟨rfl,k,os,rfl⟩)
 go_ret;exact⟨rfl,ED (below_drewN ((M2 _ _).alloc (M1 _) _) _) (by simp) _⟩
theorem Jx(n:Int):IntKind.u64.wrap n=n%18446744073709551616:=by simp[IntKind.wrap,IntKind.signed,IntKind.bits]
theorem U2{a b:Int}(h:a=b):Ending.returned (Ji Ju a)= .returned (Ji Ju b):=by rw[h]
theorem QN{a b:Int}(h:a=b):Ending.returned (Ji .i64 a)= .returned (Ji .i64 b):=by rw[h]
theorem QG(n:Int)(w:JW)(hn:I64 n) :
  Calls Tryz.prog 115 #[Ji .i64 n] w fun e w'=>e= .returned (Ji Ju (n.natAbs:Int))/\w'=w:=by
 have h0:=hn.1;have h1:=hn.2;clear hn;by_cases h:n<0
 ·go_enter Tryz.func115,Tryz.ntmps115;go_wp2;go_ret;exact⟨U2 (by rw[Jx,Jx];omega),rfl⟩
 ·go_enter Tryz.func115,Tryz.ntmps115;go_wp2;go_ret;exact⟨U2 (by omega),rfl⟩
theorem FR(x y m:Nat)(hx:x<18446744073709551616)(hy:y<18446744073709551616)(hm:x*y=m)(h:m<=9223372036854775807)(w:JW) :
  Calls Tryz.prog 120 #[Ji Ju x,Ji Ju y] w fun e w'=>e= .returned (.tuple #[Ji Ju 0,Ji Ju (m:Int)])/\w'=w:=by
 have h1:x*y/18446744073709551616=0:=by rw[hm];omega
 have h2:x*y%18446744073709551616=m:=by rw[hm];omega
 have h:=Tryz.bits_Mul64 x y hx hy w;rw[h1,h2]at h;exact h
theorem Yq{a:Int}(ha:I64 a):a.natAbs<18446744073709551616:=by have:=ha.1;have:=ha.2;omega
theorem FJ(a b:Int)(w:JW)(ha:I64 a)(hb:I64 b)(hab:(a.natAbs*b.natAbs)<=9223372036854775807) :
  Calls Tryz.prog 86 #[JP a,JP b] w fun e w'=>e= .returned (JP (a*b))/\Below w.heap.size w w':=by
 obtain⟨m,hm⟩:∃m,a.natAbs*b.natAbs=m:=⟨_,rfl⟩;have hm':m<=9223372036854775807:=by omega
 have hc:m=(a*b).natAbs:=by rw[←hm,Int.natAbs_mul]
 have h1:-9223372036854775807<=a*b:=by omega
 have h2:a*b<=9223372036854775807:=by omega
 have h3:(m:Int)<=9223372036854775807:=by omega
 have Hm:=Lh hm;clear hm hab hc;go_enter Tryz.func86,Tryz.ntmps86;go_wp2_with fail
 go_quiet ((first|(go_at_call 115;exact Calls.quiet_of_same (QG _ _ (by assumption)))|(go_at_call 120;exact Calls.quiet_of_same (FR _ _ _ (Yq ha) (Yq hb) Hm.out hm' _))))
 go_wp2;exact bodyPost_ret (v:=JP (a*b)) (by simp[results,Tryz.results86,go_sem]) rfl ⟨rfl,by repeat (first|exact M2 _ _|refine M7 ?_ (by first|exact M1 _|(simp <;> omega)) _|refine below_drewN ?_ _|refine M4 ?_ (by first|exact M1 _|(simp <;> omega)) _)⟩
theorem LP(x:Nat)(h0:x≠0)(h:x<18446744073709551616):∃m,x=2^Lib.ctz 64 x*m/\m%2=1/\Lib.ctz 64 x<64:=by
 obtain⟨m,hm,hk⟩:=Lib.ctzFrom_spec 64 x (by omega) (by simpa using h);have e:Lib.ctz 64 x=Lib.ctzFrom 64 x:=by unfold Lib.ctz;rw[if_neg h0]
 rw[e];exact⟨2*m+1,hm,by omega,hk⟩
theorem V4(x m k:Nat)(hx:x%2=1):M0 x (2^k*m)=M0 x m:=by
 have hc:Nat.Coprime (2^k) x:=by
  refine Nat.Coprime.pow_left k ?_;show M0 2 x=1;rw[Nat.gcd_rec,hx]
  decide
 exact Nat.Coprime.gcd_mul_left_cancel_right m hc
def odd(x:Nat):Nat:=x/2^Lib.ctz 64 x
theorem YU(x:Nat)(h0:x≠0)(h:x<18446744073709551616):x=2^Lib.ctz 64 x*odd x/\odd x%2=1/\Lib.ctz 64 x<64/\odd x<=x/\1<=odd x:=by
 obtain⟨m,hm,ho,hk⟩:=LP x h0 h;have e:odd x=m:=by
  unfold odd
  conv=>lhs;lhs;rw[hm]
  exact Nat.mul_div_cancel_left m (Nat.pow_pos (by decide))
 rw[e];refine⟨hm,ho,hk,?_,by omega⟩;rw[←e];exact Nat.div_le_self _ _
theorem E5(x y:Nat)(hx:x%2=1)(h0:y≠0)(h:y<18446744073709551616):M0 x (odd y)=M0 x y:=by
 have hs:=(YU y h0 h).1;have:=V4 x (odd y) (Lib.ctz 64 y) hx;rw[←this,←hs]
theorem E4(x y:Nat)(h:x<=y):M0 x (y-x)=M0 x y:=Nat.gcd_sub_self_right h
theorem Nr(a b:Nat)(ha:a≠0)(hb:b≠0)(h1:a<18446744073709551616)(h2:b<18446744073709551616)(k:Nat)
  (hk:k=min (Lib.ctz 64 a) (Lib.ctz 64 b)):M0 (odd a) b*2^k=M0 a b:=by
 obtain⟨ea,oa,_,_,_⟩:=YU a ha h1;obtain⟨eb,ob,_,_,_⟩:=YU b hb h2;have g1:M0 (odd a) b=M0 (odd a) (odd b):=(E5 (odd a) b oa hb h2).symm;rw[g1];rcases Nat.le_total (Lib.ctz 64 a) (Lib.ctz 64 b)with h|h
 ·rw[M6 h]at hk;subst hk;obtain⟨d,hd⟩:=Nat.exists_eq_add_of_le h;have:b=2^Lib.ctz 64 a*(2^d*odd b):=by rw[←M8,←Mr,←hd];exact eb
  have e:M0 a b=M0 (2^Lib.ctz 64 a*odd a) (2^Lib.ctz 64 a*(2^d*odd b)):=by rw[←this,←ea]
  rw[e,Nat.gcd_mul_left,V4 _ _ _ oa,M9]
 ·rw[Nat.min_eq_right h]at hk;subst hk;obtain⟨d,hd⟩:=Nat.exists_eq_add_of_le h;have:a=2^Lib.ctz 64 b*(2^d*odd a):=by rw[←M8,←Mr,←hd];exact ea
  have e:M0 a b=M0 (2^Lib.ctz 64 b*(2^d*odd a)) (2^Lib.ctz 64 b*odd b):=by rw[←this,←eb]
  rw[e,Nat.gcd_mul_left,M5 (2^d*odd a),V4 _ _ _ ob,M5,M9]
theorem N3(a b:Nat)(ha:a≠0)(hb:b≠0)(h1:a<18446744073709551616)(h2:b<18446744073709551616):Lib.ctz 64 (a ||| b)=min (Lib.ctz 64 a) (Lib.ctz 64 b):=by
 have hor:(a ||| b)≠0:=by intro h;exact ha (Nat.or_eq_zero_iff.1 h).1
 have hlt:(a ||| b)<18446744073709551616:=by
  have:=Nat.or_lt_two_pow (n:=64) (x:=a) (y:=b) (by simpa using h1) (by simpa using h2);simpa using this
 obtain⟨ea,oa,_,_,_⟩:=YU a ha h1;obtain⟨eb,ob,_,_,_⟩:=YU b hb h2;obtain⟨ec,oc,_,_,_⟩:=YU _ hor hlt;have bit:∀x m k i,x=2^k*m->x.testBit i=(decide (k<=i) && m.testBit (i-k)):=fun x m k i e=>by rw[e,Nat.testBit_two_pow_mul]
 have low:∀x m k,x=2^k*m->m%2=1->x.testBit k=true:=fun x m k e o=>by
  rw[bit x m k k e];simp[Nat.testBit_zero,o]
 have less:∀x m k i,x=2^k*m->i<k->x.testBit i=false:=fun x m k i e h=>by
  rw[bit x m k i e];simp;omega
 have hc:(a ||| b).testBit (Lib.ctz 64 (a ||| b))=true:=low _ _ _ ec oc;rcases Nat.lt_trichotomy (Lib.ctz 64 (a ||| b)) (min (Lib.ctz 64 a) (Lib.ctz 64 b))with h|h|h
 ·rw[Nat.testBit_or,less _ _ _ _ ea (by omega),less _ _ _ _ eb (by omega)]at hc;simp at hc
 ·exact h
 ·exfalso;have hmin:(a ||| b).testBit (min (Lib.ctz 64 a) (Lib.ctz 64 b))=true:=by
   rw[Nat.testBit_or];rcases Nat.le_total (Lib.ctz 64 a) (Lib.ctz 64 b)with h'|h'
   ·rw[M6 h',low _ _ _ ea oa];rfl
   ·rw[Nat.min_eq_right h',low _ _ _ eb ob];simp
  rw[less _ _ _ _ ec h]at hmin;simp at hmin
abbrev YY(w:JW):Prop:=TabAt (Tryz.lays7n29_ren.g 1) Lib.deBruijn64tab w
theorem OQ(a b:Nat)(w:JW)(ha:a<18446744073709551616)(hb:b<18446744073709551616)(h:a=0\/b=0) :
  Calls Tryz.prog 114 #[Ji Ju a,Ji Ju b] w fun e w'=>e= .returned (Ji Ju (M0 a b:Nat))/\w'=w:=by
 have e:bits BinOp.or IntKind.u64 (a:Int) (b:Int)=(M0 a b:Nat):=by
  rw[bits_or_u64_nat a b ha hb];rcases h with rfl|rfl <;> simp
 have He:=Lh e;clear e;rcases h with h|h
 ·subst h;go_enter Tryz.func114,Tryz.ntmps114;go_wp2;go_ret;exact⟨U2 He.out,rfl⟩
 ·subst h;by_cases h0:a=0
  ·subst h0;go_enter Tryz.func114,Tryz.ntmps114;go_wp2;go_ret;exact⟨rfl,rfl⟩
  ·have h1:((a:Int) ==0)=false:=by rw[beq_eq_false_iff_ne];omega
   go_enter Tryz.func114,Tryz.ntmps114;go_wp2;go_ret;exact⟨U2 He.out,rfl⟩
theorem DL(x k:Nat)(hx:x<18446744073709551616)(hk:Lib.ctz 64 x=k)(w:JW)(ht:YY w) :
  Calls Tryz.prog 141 #[Ji Ju x] w fun e w'=>e= .returned (Ji .i64 (k:Nat))/\w=w':=by
 subst hk;exact(Tryz.bits_TrailingZeros64 x hx w (fun _=>ht)).mono fun e w' ⟨h1,h2⟩=>⟨h1,h2.symm⟩
def EJ(g:Nat)(va vb:Value):Prop:=∃x y:Nat,va=Ji Ju x/\vb=Ji Ju y/\x%2=1/\x<18446744073709551616/\y<18446744073709551616/\M0 x y=g
theorem Gx{k l:IntKind}{u v:Int}:(intOf (Ji k u)).toNat+(intOf (Ji l v)).toNat=u.toNat+v.toNat:=rfl
theorem NV{g x y z j:Nat}(hg:M0 x y=g)(ho:M0 x z=M0 x y)(hz:((y:Int)/2^j)=(z:Int))(hx:x%2=1)(hx1:x<18446744073709551616)(hy1:y<18446744073709551616)(ly:z<=y)(py:1<=z)
  (h:(x:Int)<=(y:Int)/2^j):EJ g (Ji Ju x) (Ji Ju (IntKind.u64.wrap ((y:Int)/2^j-x))) /\
   (intOf (Ji Ju x)).toNat+(intOf (Ji Ju (IntKind.u64.wrap ((y:Int)/2^j-x)))).toNat<(intOf (Ji Ju x)).toNat+(intOf (Ji Ju y)).toNat:=by
 rw[hz]at h ⊢;have e:IntKind.u64.wrap ((z:Int)-x)=((z-x:Nat):Int):=by rw[Jx];omega
 rw[e,Gx,Gx];refine⟨⟨x,z-x,rfl,rfl,hx,hx1,by omega,?_⟩,by omega⟩;rw[E4 x z (by omega),ho,hg]
theorem LA{g x y z j:Nat}(hg:M0 x y=g)(ho:M0 x z=M0 x y)(hz:((y:Int)/2^j)=(z:Int))(oy:z%2=1)(hx1:x<18446744073709551616)(hy1:y<18446744073709551616)(ly:z<=y)
  (h:(y:Int)/2^j<(x:Int)):EJ g (Ji Ju ((y:Int)/2^j)) (Ji Ju (IntKind.u64.wrap ((x:Int)-(y:Int)/2^j))) /\
   (intOf (Ji Ju ((y:Int)/2^j))).toNat+(intOf (Ji Ju (IntKind.u64.wrap ((x:Int)-(y:Int)/2^j)))).toNat<(intOf (Ji Ju x)).toNat+(intOf (Ji Ju y)).toNat:=by
 rw[hz]at h ⊢;have e:IntKind.u64.wrap ((x:Int)-z)=((x-z:Nat):Int):=by rw[Jx];omega
 rw[e,Gx,Gx];refine⟨⟨z,x-z,rfl,rfl,oy,by omega,by omega,?_⟩,by omega⟩;rw[E4 z x (by omega),M5,ho,hg]
theorem ZP(a b:Nat)(w:JW)(ha:a<18446744073709551616)(hb:b<18446744073709551616)(h0:a≠0)(h1:b≠0)(ht:YY w) :
  Calls Tryz.prog 114 #[Ji Ju a,Ji Ju b] w fun e w'=>e= .returned (Ji Ju (M0 a b:Nat))/\w'=w:=by
 have t0:((a:Int) ==0)=false:=by rw[beq_eq_false_iff_ne];omega
 have t1:((b:Int) ==0)=false:=by rw[beq_eq_false_iff_ne];omega
 have hor:=N3 a b h0 h1 ha hb;have hgcd:=Nr a b h0 h1 ha hb _ hor;have hlt:(a ||| b)<18446744073709551616:=by
  have:=Nat.or_lt_two_pow (n:=64) (x:=a) (y:=b) (by simpa using ha) (by simpa using hb);simpa using this
 have hbits:=bits_or_u64_nat a b ha hb;obtain⟨c,hc⟩:∃c,a ||| b=c:=⟨_,rfl⟩;rw[hc]at hor hgcd hlt hbits;obtain⟨s,hs⟩:∃s,Lib.ctz 64 c=s:=⟨_,rfl⟩;rw[hs]at hgcd hor;obtain⟨sa,oa,ka,la,pa⟩:=YU a h0 ha;have ks:s<64:=by omega
 obtain⟨k,hk⟩:∃k,Lib.ctz 64 a=k:=⟨_,rfl⟩;rw[hk]at ka;have Hs:=Lh hs;have Hk:=Lh hk;have Hb:=Lh hbits;have Hg:=Lh hgcd;have Ht:=Lh ht;have Ho:=Lh (show odd a=a/2^k by unfold odd;rw[hk]);clear hs hk hbits hgcd ht hc hor sa h0 h1;go_enter Tryz.func114,Tryz.ntmps114;go_wp2_with fail
 rw[Hb.out];refine(DL c s hlt Hs.out _ Ht.out).mono ?_;rintro e w' ⟨rfl,rfl⟩;go_wp2_with fail
 refine(DL a k ha Hk.out _ Ht.out).mono ?_;rintro e w' ⟨rfl,rfl⟩;go_wp2_with fail
 go_loop [0,1] (fun va vb=>EJ (M0 (odd a) b) va vb) (fun va vb=>(intOf va).toNat+(intOf vb).toNat)
 case atStart=>
  refine⟨odd a,b,?_,rfl,oa,by omega,hb,rfl⟩;rw[Ho.out];simp
 case round=>
  obtain⟨x,y,rfl,rfl,hx,hx1,hy1,hg⟩:=hrel;have Hg':=Lh hg;clear hg;by_cases hy:y=0
  ·subst hy;go_wp2;go_ret;refine⟨U2 ?_,rfl⟩;have e:x=M0 (odd a) b:=by have:=Hg'.out;simpa using this
   have e2:=Hg.out;rw[←e]at e2;have e3:M0 a b<18446744073709551616:=Nat.lt_of_le_of_lt (Nat.gcd_le_left _ (by omega)) ha;rw[Jx,←e2];rw[←e2]at e3;have e4:(x:Int)*2^s=((x*2^s:Nat):Int):=by simp
   rw[e4];omega
  ·obtain⟨sy,oy,ky,ly,py⟩:=YU y hy hy1;have hgo:=E5 x y hx hy hy1;obtain⟨j,hj⟩:∃j,Lib.ctz 64 y=j:=⟨_,rfl⟩;obtain⟨z,hz⟩:∃z,odd y=z:=⟨_,rfl⟩;rw[hz]at oy ly py hgo;have t2:((y:Int) ==0)=false:=by rw[beq_eq_false_iff_ne];omega
   have Hz:=Lh (show((y:Int)/2^j)=(z:Int)by rw[←hz,←hj];unfold odd;simp);rw[hj]at ky;have Hj:=Lh hj;have Hgo:=Lh hgo;clear hj hz hgo sy hy;go_wp2_with fail
   refine(DL y j hy1 Hj.out _ Ht.out).mono ?_;rintro e w' ⟨rfl,rfl⟩;go_wp2_with fail
   ·exact LA Hg'.out Hgo.out Hz.out oy hx1 hy1 ly (by assumption)
   ·exact NV Hg'.out Hgo.out Hz.out hx hx1 hy1 ly py (by assumption)
theorem Lw(a b:Nat)(w:JW)(ha:a<18446744073709551616)(hb:b<18446744073709551616)(ht:YY w) :
  Calls Tryz.prog 114 #[Ji Ju a,Ji Ju b] w fun e w'=>e= .returned (Ji Ju (M0 a b:Nat))/\w'=w:=by
 by_cases h:a=0\/b=0
 ·exact OQ a b w ha hb h
 ·exact ZP a b w ha hb (fun e=>h (.inl e)) (fun e=>h (.inr e)) ht
theorem UE(a b g:Nat)(w:JW)(ha:a<18446744073709551616)(hb:b<18446744073709551616)(hg:M0 a b=g)(ht:YY w) :
  Calls Tryz.prog 114 #[Ji Ju a,Ji Ju b] w fun e w'=>e= .returned (Ji Ju (g:Nat))/\w'=w:=by
 subst hg;exact Lw a b w ha hb ht
abbrev TzG:Nat:=Tryz.lays7n29_ren.g 1
theorem Um{B:Nat}{w w':JW}(ht:YY w)(hb:Below B w w')(hB:TzG<B):YY w':=fun j hj=>by
 rw[←ht j hj];exact hb.cell (p:=⟨_,j,none⟩) hB
theorem FY(a b:Int)(w:JW)(ha:I64 a)(hb:I64 b)(g:Nat)(hg:M0 a.natAbs b.natAbs=g)(hg1:g<=9223372036854775807)(ht:YY w)(hw:TzG<w.heap.size) :
  Calls Tryz.prog 83 #[JP a,JP b] w fun e w'=>e= .returned (JP g)/\Below w.heap.size w w':=by
 have hg2:(g:Int)<=9223372036854775807:=by omega
 have Hg:=Lh hg;have Ht:∀w',Below w.heap.size w w'->YY w':=fun w' h=>Um ht h hw;have Hx:=Lh Ht;clear hg ht Ht;go_enter Tryz.func83,Tryz.ntmps83;go_wp2_with fail
 go_quiet ((first|(go_at_call 115;exact Calls.quiet_of_same (QG _ _ (by assumption)))|(go_at_call 114;exact Calls.quiet_of_same (UE _ _ g _ (Yq ha) (Yq hb) Hg.out (Hx.out _ (by repeat (first|exact M2 _ _|refine below_drewN ?_ _|refine M4 ?_ (by first|exact M1 _|(simp <;> omega)) _)))))))
 go_wp2;exact bodyPost_ret (v:=JP g) (by simp[results,Tryz.results83,go_sem]) rfl ⟨rfl,by repeat (first|exact M2 _ _|refine M7 ?_ (by first|exact M1 _|(simp <;> omega)) _|refine below_drewN ?_ _|refine M4 ?_ (by first|exact M1 _|(simp <;> omega)) _)⟩
def Dy(n:Int)(w:JW)(e:Ending)(w':JW):Prop:=
 ∃b,e= .returned (.tuple #[.slice (some ⟨b,0,none⟩) 1 1,.bool (decide (n<0))])/\w.heap.size<=b/\w'.cell? ⟨b,0,none⟩=some (Ji Ju n.natAbs)/\Below w.heap.size w w'
theorem WK(n:Int)(w:JW)(hn:I64 n)(h0:n≠0) :
  Calls Tryz.prog 103 #[JP n] w (Dy n w):=by
 have t0:((n:Int) ==0)=false:=by rw[beq_eq_false_iff_ne];exact h0
 clear h0;go_enter Tryz.func103,Tryz.ntmps103;go_wp2_with fail
 go_region_with (go_at_call 115;refine(QG _ _ hn).mono ?_;rintro e w' ⟨rfl,rfl⟩)
 all_goals
  go_wp2;go_ret2;exact⟨w.heap.size+1,rfl,by omega,by simp[go_sem],by repeat (first|exact M2 _ _|refine Below.drew ?_|refine M4 ?_ (by first|exact M1 _|(simp <;> omega)) _)⟩
theorem gTab:Tryz.prog.globalNamed "internal/strconv.uint64pow10"=some 4:=by kernel_rfl
theorem Ve{w:JW}{b o:Nat}{v:Value}(h:w.cell? ⟨b,o,none⟩=some v):b<w.heap.size:=World.block_lt_of_cell? w ⟨b,o,none⟩ h
def Good(w:JW):Prop:=Tab w/\YY w
theorem NM{w:JW}(h:YY w):TzG<w.heap.size:=Ve (h 0 (by decide))
theorem Good.size{w:JW}(h:Good w):TzG<w.heap.size:=NM h.2
theorem Good.below{w w':JW}(h:Good w)(hb:Below w.heap.size w w'):Good w':=
 ⟨Go.Joins.tab_stays gTab h.1 hb (M1 _),Um h.2 hb h.size⟩
open Go.ChangeShapes Go.WideShapes Go.ChangeAt
theorem own:ownKnob Tryz.prog.godebug=none:=by kernel_rfl
theorem g64:Tryz.prog.globalNamed "math/bits.deBruijn64tab"=some 0:=by kernel_rfl
theorem Ns:(Tryz.prog.globals[0]?).map (·.type)=some 181:=by kernel_rfl
theorem Nt:(Tryz.prog.globals[4]?).map (·.type)=some 200:=by kernel_rfl
theorem NB:Tryz.prog.cellsOf 181=64:=by kernel_rfl
theorem NG:Tryz.prog.cellsOf 200=20:=by kernel_rfl
theorem NA:Tryz.prog.cellsOf 5=1:=by kernel_rfl
theorem LR:Tryz.prog.cellsOf 139=1:=by kernel_rfl
abbrev list:List (String × DataW Unit):=[("math/bits.deBruijn32tab",Rows.laid_math_bits_deBruijn32tab),("math/bits.deBruijn64tab",Rows.laid_math_bits_deBruijn64tab),("internal/strconv.uint64pow10",Rows.laid_internal_strconv_uint64pow10),("unicode/utf8.acceptRanges",Rows.laid_unicode_utf8_acceptRanges),("unicode/utf8.first",Rows.laid_unicode_utf8_first)]
theorem N1:(Rows.laid_math_bits_deBruijn64tab:DataW Unit)=Lib.tabData .u8 (Lib.deBruijn64tab.map Int.ofNat):=by kernel_rfl
theorem N2:(Rows.laid_internal_strconv_uint64pow10:DataW Unit)=Lib.tabData Ju Lib.pow10Tab:=by kernel_rfl
theorem good{W:JW}(h:laidMet Tryz.prog list W):Good W:=by
 have h1:=laidMet.tail h;have h2:=laidMet.tail h1;rw[N1]at h1;rw[N2]at h2;have t1:=Lib.tabIs_of_head g64 Ns Tryz.underlying181 Tryz.underlying5 NA NB h1;have t2:=Lib.tabIs_of_head gTab Nt Tryz.underlying200 Tryz.underlying139 LR NG h2;refine⟨t2,fun j hj=>?_⟩;have:=t1.cell g64 j (by simpa using hj);rw[show Tryz.lays7n29_ren.g 1=0 from rfl,this]
 congr 2
 simp[List.getD,hj]
def Frame.setBlk(w:JW)(g:Nat)(cs:Array Value):JW:=
 { w with heap:=w.heap.modify g fun
   | .cells _ t frozen=> .cells cs t frozen
   | o=>o }
def Frame.accept:Array Value:=((#[128,191,160,191,128,159,144,191,128,143]:Array Int) ++ Array.replicate 22 (0:Int)).map fun n=>M3 .u8 n
def Frame.first:Array Value:=(Pinned.utf8FirstZ.map fun n=>M3 .u8 (Int.ofNat n)).toArray
noncomputable def Frame.laidWorld (os:Os):JW:=
 Frame.setBlk (Frame.setBlk (Frame.setBlk (Frame.setBlk (Frame.setBlk (World.holding Tryz.prog os ⟨#[],#[],[]⟩) 0 (Lib.deBruijn64tab.map fun n=>M3 .u8 (Int.ofNat n)).toArray)
  7 (Lib.deBruijn32tab.map fun n=>M3 .u8 (Int.ofNat n)).toArray) 4 (Lib.pow10Tab.map fun n=>M3 Ju n).toArray)
  6 Frame.accept) 5 Frame.first
