/- GC13: DM Ref2 -/
import Derived.Test.YtekhdklbfincpaaGreatDoorGC04
import Derived.Test.YtekhdklbfincpaaGreatDoorGC07
import Derived.Test.YtekhdklbfincpaaGreatDoorGC08
set_option maxRecDepth 100000
set_option maxHeartbeats 16000000
namespace Go.Proofs.YtekhdklbfincpaaGreatDoor
open Go renaming World→JW
open _root_.List renaming drop_eq_getElem_cons→M0,getD→M3,drop_eq_nil_of_le→M4,take_succ_eq_append_getElem→M5,eq_nil_of_length_eq_zero→M7,length_reverse→M9,length_cons→Mw,length_map→Mx,mem_cons_of_mem→Mz,mem_cons_self→MB,length_append→MC,take_length→MF,nil_append→MI
open _root_.Bool renaming false_eq_true→M1
open _root_.Nat renaming le_refl→M2,mul_le_mul_left→M8,add_zero→Mv,mul_comm→MA,eq_zero_or_pos→MD,div_add_mod→MG,strongRecOn→MH,mul_add→MK,mod_lt→ML
open _root_.Int renaming mul_le_mul_of_nonneg_right→M6,lt_trichotomy→Mt,neg_mul→My,sub_mul→ME,le_of_lt→MJ
open _root_.UInt8 renaming ofNat→Mr,toNat_ofNat'→Ms
open Go.RowKit.Below renaming refl→Mu
open Go.RowKit
def DM(z k q r:Int):Prop:=z=q*k+r/\((0<=r/\r<k)\/(k<r/\r<=0))
theorem Dh{m m' u:Nat}(h:m=u*m'+0)(hr:0<m')(_e:(0:Nat)=0):DM (-(m:Int)) (-(m':Int)) (Jk false u) 0:=by
 rw[Mv]at h;unfold DM Jk;simp only[M1,if_false,Int.mul_neg];rw[h];push_cast
 refine⟨by omega,?_⟩;simp only[true_and,and_true];omega
theorem Om{m m' u r:Nat}(h:m=u*m'+r)(hr:r<m'):DM (-(m:Int)) (-(m':Int)) (Jk false u) (Jk true r):=by
 unfold DM Jk;simp only[M1,if_false,if_true,Int.mul_neg];rw[h];push_cast
 omega
theorem Zi{m m' u:Nat}(h:m=u*m'+0)(hr:0<m')(_e:(0:Nat)=0):DM (-(m:Int)) (m':Int) (Jk true u) 0:=by
 rw[Mv]at h;unfold DM Jk;simp only[if_true,My];rw[h];push_cast
 refine⟨by omega,?_⟩;simp only[true_and,and_true];omega
theorem Ol{m m' u r:Nat}(h:m=u*m'+r)(hr:r<m')(h0:0<r):DM (-(m:Int)) (m':Int) (Jk true u-1) (Jk true r+(m':Int)):=by
 unfold DM Jk;simp only[if_true,My,ME,Int.one_mul];rw[h];push_cast
 omega
theorem Zh{m m' u:Nat}(h:m=u*m'+0)(hr:0<m')(_e:(0:Nat)=0):DM (m:Int) (-(m':Int)) (Jk true u) 0:=by
 rw[Mv]at h;unfold DM Jk;simp only[if_true,My,Int.mul_neg,Int.neg_neg];rw[h];push_cast
 refine⟨by omega,?_⟩;simp only[true_and,and_true];omega
theorem Ok{m m' u r:Nat}(h:m=u*m'+r)(hr:r<m')(h0:0<r):DM (m:Int) (-(m':Int)) (Jk true u-1) (Jk false r+(-(m':Int))):=by
 unfold DM Jk;simp only[M1,if_false,if_true,My,Int.mul_neg,ME,Int.one_mul];rw[h];push_cast
 omega
theorem Dg{m m' u:Nat}(h:m=u*m'+0)(hr:0<m')(_e:(0:Nat)=0):DM (m:Int) (m':Int) (Jk false u) 0:=by
 rw[Mv]at h;unfold DM Jk;simp only[M1,if_false];rw[h];push_cast
 refine⟨by omega,?_⟩;simp only[true_and,and_true];omega
theorem Oj{m m' u r:Nat}(h:m=u*m'+r)(hr:r<m'):DM (m:Int) (m':Int) (Jk false u) (Jk false r):=by
 unfold DM Jk;simp only[M1,if_false];rw[h];push_cast
 omega
theorem Ex{m' u:Nat}(h:0=u*m'+0)(hr:0<m')(_e:(0:Nat)=0):DM 0 (-(m':Int)) (Jk false u) 0:=by
 have h1:u*1<=u*m':=M8 _ hr;obtain rfl:u=0:=by omega
 unfold DM Jk;simp;omega
theorem Ew{m' u:Nat}(h:0=u*m'+0)(hr:0<m')(_e:(0:Nat)=0):DM 0 (m':Int) (Jk false u) 0:=by
 have h1:u*1<=u*m':=M8 _ hr;obtain rfl:u=0:=by omega
 unfold DM Jk;simp;omega
theorem Zg{z k q r q' r':Int}(h:DM z k q r)(h':DM z k q' r'):q=q'/\r=r':=by
 unfold DM at h h';have e:(q-q')*k=r'-r:=by rw[ME];omega
 have hq:q-q'=0:=by
  rcases Mt (q-q') 0 with h1|h1|h1
  ·exfalso;rcases Int.lt_or_le 0 k with hk|hk
   ·have:=M6 (show q-q'<=-1 by omega) (MJ hk);omega
   ·have:=Int.mul_le_mul_of_nonpos_right (show q-q'<=-1 by omega) hk;omega
  ·exact h1
  ·exfalso;rcases Int.lt_or_le 0 k with hk|hk
   ·have:=M6 (show 1<=q-q' by omega) (MJ hk);omega
   ·have:=Int.mul_le_mul_of_nonpos_right (show 1<=q-q' by omega) hk;omega
 rw[hq,Int.zero_mul]at e;omega
theorem ZS{z k:Int}{m m':Nat}(hm:z.natAbs=m)(hm':k.natAbs=m')(hk:k≠0)(h:m%m'=0\/(decide (z<0) !=decide (k<0))=false):DM z k (Jk (decide (z<0) !=decide (k<0)) (m/m')) (Jk (decide (z<0)) (m%m')):=by
 have hp:0<m':=by omega
 have hd:=MG m m';have hl:=ML m hp;generalize m/m'=u at *
 generalize m%m'=r at *
 rw[MA]at hd;by_cases hz:z<0 <;> by_cases hk2:k<0
 ·obtain rfl:z=-(m:Int):=by omega
  obtain rfl:k=-(m':Int):=by omega
  rw[decide_eq_true hz,decide_eq_true hk2];exact Om hd.symm hl
 ·obtain rfl:z=-(m:Int):=by omega
  obtain rfl:k=(m':Int):=by omega
  rw[decide_eq_true hz,decide_eq_false hk2]at h ⊢;obtain rfl:r=0:=by
   rcases h with h|h
   ·exact h
   ·cases h
  exact Zi hd.symm hl rfl
 ·obtain rfl:z=(m:Int):=by omega
  obtain rfl:k=-(m':Int):=by omega
  rw[decide_eq_false hz,decide_eq_true hk2]at h ⊢;obtain rfl:r=0:=by
   rcases h with h|h
   ·exact h
   ·cases h
  exact Zh hd.symm hl rfl
 ·obtain rfl:z=(m:Int):=by omega
  obtain rfl:k=(m':Int):=by omega
  rw[decide_eq_false hz,decide_eq_false hk2];exact Oj hd.symm hl
theorem ZR{z k:Int}{m m':Nat}(hm:z.natAbs=m)(hm':k.natAbs=m')(hk:k≠0)(h0:m%m'≠0)(h:(decide (z<0) !=decide (k<0))=true):DM z k (Jk (decide (z<0) !=decide (k<0)) (m/m')-1) (Jk (decide (z<0)) (m%m')+k):=by
 have hp:0<m':=by omega
 have hd:=MG m m';have hl:=ML m hp;rw[h];generalize m/m'=u at *
 generalize m%m'=r at *
 rw[MA]at hd;by_cases hz:z<0 <;> by_cases hk2:k<0
 ·simp[hz,hk2]at h
 ·obtain rfl:z=-(m:Int):=by omega
  obtain rfl:k=(m':Int):=by omega
  rw[decide_eq_true hz];exact Ol hd.symm hl (by omega)
 ·obtain rfl:z=(m:Int):=by omega
  obtain rfl:k=-(m':Int):=by omega
  rw[decide_eq_false hz];exact Ok hd.symm hl (by omega)
 ·simp[hz,hk2]at h
def dval:List Int->Nat
 | []=>0
 | d :: r=>d.toNat+10*dval r
def Dig(l:List Int):Prop:=∀x∈l,0<=x/\x<=9
def ten(n:Nat):Nat:=10^n
theorem DS:ten 0=1:=rfl
theorem Yi(n:Nat):ten (n+1)=10*ten n:=by unfold ten;rw[Nat.pow_succ,MA]
theorem L6(n:Nat):0<ten n:=Nat.pow_pos (by decide)
theorem JK{a b:Nat}(h:a<=b):ten a<=ten b:=Nat.pow_le_pow_right (by decide) h
theorem UF(a b:List Int):dval (a ++ b)=dval a+ten a.length*dval b:=by
 induction a with
 | nil=>simp[dval,DS]
 | cons d r ih=>rw[List.cons_append,dval,dval,ih,Mw,Yi,MK,Nat.mul_assoc];omega
theorem XJ(a:List Int)(d:Int):dval (a ++ [d])=dval a+ten a.length*d.toNat:=by rw[UF];simp[dval]
theorem XK{l:List Int}(h:Dig l):dval l<ten l.length:=by
 induction l with
 | nil=>exact Nat.one_pos
 | cons d r ih=>
  rw[dval,Mw,Yi];have h1:=h d (MB ..);have h2:=ih (fun x hx=>h x (Mz _ hx));omega
theorem Qz(u:Nat):dval (digN u)=u:=by
 induction u using MH with
 | _ u ih=>
  by_cases h0:u=0
  ·subst h0;rw[JL];rfl
  ·rw[Qq h0,dval,ih (u/10) (by omega)];omega
theorem JM(u:Nat):Dig (digN u):=Kr u
theorem Ou{l:List Int}(h:Dig l)(k:Nat):Dig (l.take k):=fun d hd=>h d (List.mem_of_mem_take hd)
theorem Oi(xs:List Int)(k:Nat):dval xs=dval (xs.take k)+ten (xs.take k).length*dval (xs.drop k):=by
 rw[←UF,List.take_append_drop]
theorem Dj:∀l:List Int,Dig l->l.getLast?≠some 0->digN (dval l)=l:=by
 intro l
 induction l with
 | nil=>intro _ _;rw[dval,JL]
 | cons d r ih=>
  intro h hl;have hd:=h d (MB ..);have hr:Dig r:=fun x hx=>h x (Mz _ hx);cases r with
  | nil=>
   have:d≠0:=by intro e;apply hl;simp[e]
   rw[dval,dval,Qq (by omega),show(d.toNat+10*0)/10=0 by omega,JL]
   congr 1
   omega
  | cons e s=>
   have hl':(e :: s).getLast?≠some 0:=by rw[List.getLast?_cons_of_ne_nil (by simp)]at hl;exact hl
   have ih':=ih hr hl';have hpos:dval (e :: s)≠0:=by
    intro h0;rw[h0,JL]at ih';cases ih'
   rw[dval,Qq (by omega),show(d.toNat+10*dval (e :: s))/10=dval (e :: s)by omega,ih']
   congr 1
   omega
theorem Dd(l:List Int):∀k,k<=l.length->dval (l.take (JX l k))=dval (l.take k):=by
 intro k
 induction k with
 | zero=>intro _;rfl
 | succ k ih=>
  intro hk;unfold JX;by_cases h0:l.getD k 0=0
  ·rw[if_pos h0,ih (by omega),M5 (by omega),XJ];have e:l[k]=0:=by rw[←h0];simp[M3,show k<l.length by omega]
   rw[e];simp
  ·rw[if_neg h0]
theorem Fk(l:List Int):∀k,k<=l.length->(l.take (JX l k)).getLast?≠some 0:=by
 intro k
 induction k with
 | zero=>intro _;simp[JX]
 | succ k ih=>
  intro hk;unfold JX;by_cases h0:l.getD k 0=0
  ·rw[if_pos h0];exact ih (by omega)
  ·rw[if_neg h0,M5 (by omega)];have e:l[k]=l.getD k 0:=by simp[M3,show k<l.length by omega]
   rw[List.getLast?_append,List.getLast?_singleton,e];simp only[Option.some_or,ne_eq,Option.some.injEq];exact h0
theorem UO{l:List Int}(h:Dig l):l.take (JX l l.length)=digN (dval l):=by
 have e:=Dj _ (Ou h _) (Fk l l.length (M2 _));rw[Dd l l.length (M2 _),MF]at e;exact e.symm
theorem GG{l:List Int}(h:Dig l):JX l l.length=(digN (dval l)).length:=by
 rw[←UO h,List.length_take];have:=YE l l.length;omega
theorem Wk(neg:Bool){l:List Int}(h:Dig l):JR neg l=JR neg (digN (dval l)):=by
 unfold JR;rw[Xj _ (XM _),MF,UO h,GG h]
theorem Ny{u:Nat}(h:0<u):ten ((digN u).length-1)<=u:=by
 induction u using MH with
 | _ u ih=>
  rw[Qq (by omega),Mw];by_cases h1:u/10=0
  ·rw[h1,JL];exact h
  ·have h2:=ih (u/10) (by omega) (by omega);have h3:0<(digN (u/10)).length:=by rw[Qq h1];simp
   rw[show(digN (u/10)).length+1-1=((digN (u/10)).length-1)+1 by omega,Yi];omega
theorem Yo(u:Nat):u<ten (digN u).length:=by
 have:=XK (JM u)
 rwa [Qz]at this
def txt(z:Int):ByteArray:=JR (decide (z<0)) (digN z.natAbs)
def zOf(s:ByteArray):Int:=Jk (Yv s) (decV (JE s).data.toList)
theorem Gr{s:ByteArray}(h:Qu s=0):txt (zOf s)=s:=KU h
theorem Qg{neg:Bool}{l:List Int}{z:Int}(h:Dig l)(hv:dval l=z.natAbs)(hs:z≠0->neg=decide (z<0)):JR neg l=txt z:=by
 rw[Wk neg h,hv];unfold txt;by_cases h0:z=0
 ·subst h0;unfold JR;rw[show(0:Int).natAbs=0 from rfl,JL];rfl
 ·rw[hs h0]
theorem Qo:txt 0=⟨#[48]⟩:=by
 unfold txt JR;rw[show(0:Int).natAbs=0 from rfl,JL];rfl
theorem XW{z:Int}(h:z≠0):txt z=strOfNums ((if z<0 then[45] else[]) ++ (digN z.natAbs).reverse.map (48+·)):=by
 have e:txt z=JR (decide (z<0)) (digN z.natAbs):=rfl;rw[e,XX _ (by omega)];unfold sig;rw[List.map_reverse];by_cases hz:z<0 <;> simp[hz]
theorem VY(l:List Int):(strOfNums l).data.toList=l.map fun n=>Mr n.toNat:=by
 simp[strOfNums]
def dl(l:List UInt8):List Int:=(l.filter (· !=45)).reverse.map fun c=>(c.toNat:Int)-48
theorem Kg(l:List UInt8):dl (45 :: l)=dl l:=by unfold dl;rw[List.filter_cons_of_neg (by decide)]
theorem LH{c:UInt8}(h:c≠45)(l:List UInt8):dl (c :: l)=dl l ++ [(c.toNat:Int)-48]:=by
 unfold dl;rw[List.filter_cons_of_pos (by simpa using h),List.reverse_cons,List.map_append];rfl
theorem NZ:∀l:List Int,Dig l->dl (l.reverse.map fun d=>Mr (48+d).toNat)=l:=by
 intro l h;unfold dl;have hf:(l.reverse.map fun d=>Mr (48+d).toNat).filter (· !=45)=l.reverse.map fun d=>Mr (48+d).toNat:=by
  rw[List.filter_eq_self];intro c hc;obtain⟨d,hd,rfl⟩:=List.mem_map.1 hc;have:=h d (by simpa using hd);simp only[bne_iff_ne,ne_eq];intro e;have e2:=congrArg UInt8.toNat e;rw[Ms]at e2;simp at e2;omega
 rw[hf,←List.map_reverse,List.reverse_reverse,List.map_map]
 conv=>rhs;rw[←List.map_id l]
 apply List.map_congr_left;intro d hd;have:=h d hd;simp only[Function.comp,id];rw[Ms];omega
theorem Vb(z:Int):Dig (dl (txt z).data.toList)/\dval (dl (txt z).data.toList)=z.natAbs:=by
 by_cases h0:z=0
 ·subst h0;rw[Qo];have e:dl (⟨#[48]⟩:ByteArray).data.toList=[0]:=by decide
  rw[e];exact⟨fun x hx=>by rw[List.mem_singleton.1 hx];decide,rfl⟩
 ·have e:dl (txt z).data.toList=digN z.natAbs:=by
   rw[XW h0,VY];have hd:=NZ _ (JM z.natAbs);by_cases hz:z<0
   ·rw[if_pos hz,List.map_append,List.map_map,←hd];exact(Kg _).trans (by rw[hd];exact hd)
   ·rw[if_neg hz,MI,List.map_map];exact hd
  rw[e];exact⟨JM _,Qz _⟩
theorem UN{z:Int}(h:z≠0):∃(n:Nat) (hs:0<(txt z).size),((txt z)[0]).toNat=n/\(z<0->n=45)/\(0<z->49<=n/\n<=57):=by
 have e:=XW h;have hl:(txt z).data.toList=((if z<0 then[45] else[]) ++ (digN z.natAbs).reverse.map (48+·)).map fun n:Int=>Mr n.toNat:=by rw[e,VY]
 have hne:digN z.natAbs≠[]:=by rw[Qq (by omega)];simp
 obtain⟨d,hd⟩:∃d,(digN z.natAbs).getLast?=some d:=⟨_,List.getLast?_eq_some_getLast hne⟩;have hd0:d≠0:=fun e=>XM z.natAbs (by rw[hd,e]);have hdm:=JM z.natAbs d (List.mem_of_getLast? hd);have hs:0<(txt z).size:=by
  rw[←JU,hl];simp only[Mx,MC,M9];have:=List.length_pos_iff.mpr hne;omega
 have hh:=Gy hs;rw[hl]at hh;refine⟨_,hs,rfl,fun hz=>?_,fun hz=>?_⟩
 ·rw[if_pos hz]at hh;simp at hh;rw[←hh]
  decide
 ·rw[if_neg (by omega),MI,List.map_map,List.head?_map,List.head?_reverse,hd]at hh;simp at hh;rw[←hh,Ms];omega
theorem QY(z:Int){k:Nat}(h:z.natAbs<ten k)(hk:0<k):(txt z).size<=k+1:=by
 by_cases h0:z=0
 ·subst h0;rw[Qo];show 1<=k+1;omega
 ·rw[XW h0,strOfNums_size];have:=UW k z.natAbs h
  split <;> simp <;> omega
theorem Oz{s:ByteArray}{n:Nat}(hs:0<s.size)(h:(s[0]).toNat=n)(h48:n≠48):(s.toList == [48])=false:=by
 rw[ByteArray.toList_eq,beq_eq_false_iff_ne];intro e;have hh:=Gy hs;rw[e]at hh;simp at hh;apply h48;rw[←h,←hh];rfl
theorem Wy(s:ByteArray)(w:JW)(hs:0<s.size)(hn:(s[0]).toNat=45)(hne:(s.toList == [48])=false)(_hsz:s.size<=5000) :
  Calls Tryz.prog 108 #[.string s] w fun e w'=>e= .returned (.int .i64 (-1))/\w=w':=by
 go_enter Tryz.func108,Tryz.ntmps108;go_wp2;go_ret;exact⟨rfl,rfl⟩
theorem Wx(s:ByteArray)(w:JW)(n:Nat)(hs:0<s.size)(hn:(s[0]).toNat=n)(hne:(s.toList == [48])=false)(h45:((n:Int) ==45)=false)(_hsz:s.size<=5000) :
  Calls Tryz.prog 108 #[.string s] w fun e w'=>e= .returned (.int .i64 1)/\w=w':=by
 go_enter Tryz.func108,Tryz.ntmps108;go_wp2;go_ret;exact⟨rfl,rfl⟩
theorem Qe(z:Int)(w:JW)(hsz:(txt z).size<=5000) :
  Calls Tryz.prog 108 #[.string (txt z)] w fun e w'=>e= .returned (.int .i64 (sgn z))/\w=w':=by
 rcases Mt z 0 with h|h|h
 ·obtain⟨n,hs,hn,h1,_⟩:=UN (z:=z) (by omega);have h45:=h1 h;rw[show sgn z=-1 by unfold sgn;rw[if_pos h]];exact Wy _ w hs (hn.trans h45) (Oz hs hn (by omega)) hsz
 ·subst h;rw[Qo];go_enter Tryz.func108,Tryz.ntmps108;go_wp2;go_ret;exact⟨rfl,rfl⟩
 ·obtain⟨n,hs,hn,_,h2⟩:=UN (z:=z) (by omega);have h49:=h2 h;rw[show sgn z=1 by unfold sgn;rw[if_neg (by omega),if_pos h]];exact Wx _ w n hs hn (Oz hs hn (by omega)) (by rw[beq_eq_false_iff_ne];omega) hsz
def V8(w0:JW)(s:ByteArray)(v i:Value)(wr:JW):Prop:=
 ∃j:Nat,j<=s.size/\i= .int .i64 ((j:Int)-1)/\wr.ownsRow w0.heap.size 3 1 v (dl (s.data.toList.drop j)).length (ints (dl (s.data.toList.drop j)))/\Below w0.heap.size w0 wr
theorem Zf{s:ByteArray}{j:Nat}(hj:j<s.size):s.data.toList.drop j=s[j] :: s.data.toList.drop (j+1):=by
 rw[M0 (by rw[JU];exact hj)]
 congr 1
theorem Km{w0 wr:JW}{s:ByteArray}{j y:Nat}{v:Value}(hj:j<s.size)(hy:(s[j]).toNat=y)(h45:y=45)(hown:wr.ownsRow w0.heap.size 3 1 v (dl (s.data.toList.drop (j+1))).length (ints (dl (s.data.toList.drop (j+1)))))(hbel:Below w0.heap.size w0 wr) :
  V8 w0 s v (.int .i64 ((j:Int)-1)) wr:=by
 have e:dl (s.data.toList.drop j)=dl (s.data.toList.drop (j+1)):=by
  rw[Zf hj,GB (n:=45) (by decide) (hy.trans h45)];exact Kg _
 exact⟨j,by omega,rfl,by rw[e];exact hown,hbel⟩
theorem Kj{w0 wr w1:JW}{s:ByteArray}{j y:Nat}{u v':Value}{x:Int}(hj:j<s.size)(hy:(s[j]).toNat=y)(h45:y≠45)(hx:x=(y:Int)-48)(hown:wr.ownsRow w0.heap.size 3 1 u (dl (s.data.toList.drop (j+1))).length (ints (dl (s.data.toList.drop (j+1)))))
  (hown':w1.ownsRow w0.heap.size 3 1 v' ((dl (s.data.toList.drop (j+1))).length+1) (ints (dl (s.data.toList.drop (j+1))) ++ [.int .i64 x]))
  (hgrow:(wr.alloc (.cells #[.int .i64 x] 3)).grownBy w1 u.ownBlock) (hbel:Below w0.heap.size w0 wr):V8 w0 s v' (.int .i64 ((j:Int)-1)) w1:=by
 have e:dl (s.data.toList.drop j)=dl (s.data.toList.drop (j+1)) ++ [x]:=by
  rw[Zf hj,LH (by intro e;apply h45;rw[←hy,e];rfl),hy,hx]
 refine⟨j,by omega,rfl,?_,(hbel.alloc hbel.size _).grown hgrow (by simp;have:=hbel.size;omega) (fun k hk=>UL hown hk)⟩;rw[e];simpa[ints]using hown'
theorem N0(l:List UInt8):(dl l).length<=l.length:=by
 unfold dl;rw[Mx,M9];exact List.length_filter_le _ _
theorem Kn(s:ByteArray)(w:JW)(hs:s.size<=5000)(hd:Dig (dl s.data.toList)) :
  Calls Tryz.prog 110 #[.string s] w fun e w'=>∃A c,e= .returned (.slice A (digN (dval (dl s.data.toList))).length c)/\IsL w' A (digN (dval (dl s.data.toList))).length c (ints (digN (dval (dl s.data.toList))))/\c<=9223372036854775807/\Below w.heap.size w w':=by
 obtain⟨i0,hi,hz0,hz1,hz2⟩:=info_parts UT;have Hd:=Lh hd;clear hd;go_enter Tryz.func110,Tryz.ntmps110;go_wp2_with fail
 go_loopw [3,4] (fun v i wr=>V8 w s v i wr) (fun _ i _=>(intOf i+1).toNat)
 case atStart=>
  refine⟨s.size,M2 _,rfl,?_,Mu _ _⟩;rw[M4 (by rw[JU];exact M2 _)];exact World.ownsRow_nil _ _ _ _
 case round=>
  obtain⟨j,hj,rfl,hown,hbel⟩:=hrel;have hsz:=hbel.size;have hlen:(dl (s.data.toList.drop j)).length<=5000:=by
   have:=N0 (s.data.toList.drop j);rw[List.length_drop,JU]at this;omega
  have Hown:=Lh hown;have Hbel:=Lh hbel;clear hown hbel;cases j with
  | zero=>
   rw[List.drop_zero]at Hown hlen;obtain⟨A,c,rfl,hisl,hc⟩:=Yn Hown.out;have Hi:=Lh hisl;have Ht:=Lh (UP A _ c _ wr hisl (by omega) hc);clear hisl;go_wp2_with fail
   refine Ht.out.mono ?_;rintro e w2⟨rfl,rfl⟩;have hcut:=Hi.out.cut (YE (dl s.data.toList) _);have e1:(ints (dl s.data.toList)).take (JX (dl s.data.toList) (dl s.data.toList).length)=ints (digN (dval (dl s.data.toList))):=by
    unfold ints;rw[←List.map_take,UO Hd.out]
   rw[e1,GG Hd.out]at hcut;have Hcut:=Lh hcut;have Hlen:=Lh (GG Hd.out);clear hcut e1;go_wp2;go_ret;exact⟨A,c,VU Hlen.out,Hcut.out,hc,Hbel.out⟩
  | succ j=>
   have hjs:j<s.size:=by omega
   obtain⟨y,hy⟩:∃y,(s[j]).toNat=y:=⟨_,rfl⟩;have hy1:y<256:=by rw[←hy];exact UInt8.toNat_lt _
   have Hy:=Lh hy;by_cases h45:y=45
   ·have Hfin:=Lh (Km hjs hy h45 Hown.out Hbel.out);subst h45;go_wp2;go_roundw;case rel=>exact Hfin.out
    case measure=>simp[intOf] <;> omega
   ·have t0:((y:Int) ==45)=false:=by rw[beq_eq_false_iff_ne];omega
    go_wp2_with (at_builtin;refine wpList_append_own _ rfl _ _ 126 rfl w.heap.size 3 i0 (.int .i64 0) 1 8 Tryz.underlying126 hi hz0 hz1 hz2 rfl (by decide) _ _ _ rfl (Hown.out.alloc _) ⟨wr.heap.size,0,none⟩ 1 1 [.int .i64 ((y:Int)-48)] rfl rfl (fun k u hu=>by match k,hu with|0,hu=>simp at hu;subst hu;simp[Addr.add]) (fun u hu=>by simp at hu;subst hu;rfl) (by unfold maxLen;omega) (by omega) (by simp;omega) ?_)
    intro v' w1 hown' hgrow _;have hfin:=Kj hjs Hy.out h45 rfl Hown.out hown' hgrow Hbel.out;have Hfin:=Lh hfin;clear hfin hown' hgrow;go_wp2;go_roundw;case rel=>exact Hfin.out
    case measure=>simp[intOf] <;> omega
theorem OM(z:Int)(w:JW)(hs:(txt z).size<=5000) :
  Calls Tryz.prog 110 #[.string (txt z)] w fun e w'=>∃A c,e= .returned (.slice A (digN z.natAbs).length c)/\IsL w' A (digN z.natAbs).length c (ints (digN z.natAbs))/\c<=9223372036854775807/\Below w.heap.size w w':=by
 have h:=Kn (txt z) w hs (Vb z).1;rw[(Vb z).2]at h;exact h
structure Q0 (w:JW) (A:Option Addr) (n c:Nat) (xs:List Int) (m:Nat):Prop where
 isl:IsL w A n c (ints xs)
 cap:c<=9223372036854775807
 len:n<4294967296
 dig:Dig xs
 tight:xs=digN m
theorem YV(xs:List Int):(ints xs).length=xs.length:=by simp[ints]
theorem Q0.size{w:JW}{A:Option Addr}{n c m:Nat}{xs:List Int}(h:Q0 w A n c xs m):xs.length=n:=by
 have:=h.isl.1;rwa [YV]at this
theorem Q0.val{w:JW}{A:Option Addr}{n c m:Nat}{xs:List Int}(h:Q0 w A n c xs m):dval xs=m:=by
 rw[h.tight,Qz]
theorem Q0.at{w:JW}{A:Option Addr}{n c m:Nat}{xs:List Int}(h:Q0 w A n c xs m)(h0:0<n):∃b o,A=some ⟨b,o,none⟩/\b<w.heap.size/\∀k:Nat,k<n->w.cell? ⟨b,o+k,none⟩=some (.int .i64 (xs.getD k 0)):=by
 obtain⟨b,o,e,hb,hc⟩:=h.isl.2.2 h0;exact⟨b,o,e,hb,fun k hk=>hc k _ (by have:=h.size;simp[ints,show k<xs.length by omega])⟩
theorem Q0.keep{w w':JW}{A:Option Addr}{n c m:Nat}{xs:List Int}(h:Q0 w A n c xs m)(hb:Below w.heap.size w w'):Q0 w' A n c xs m:=
 ⟨h.isl.keep hb,h.cap,h.len,h.dig,h.tight⟩
theorem JV{l:List Int}(h:Dig l)(k:Nat):0<=l.getD k 0/\l.getD k 0<=9:=by
 by_cases hk:k<l.length
 ·have e:l.getD k 0=l[k]:=by simp[M3,hk]
  rw[e];exact h _ (List.getElem_mem hk)
 ·have e:l.getD k 0=0:=by simp[M3,List.getElem?_eq_none (by omega:l.length<=k)]
  rw[e];decide
theorem Oy{xs ys:List Int}{m:Nat}(hx:Dig xs)(hy:ys=digN m)(h:xs.length<ys.length):dval xs<dval ys:=by
 subst hy;have hm:0<m:=by
  rcases MD m with h0|h0
  ·subst h0;rw[JL]at h;simp at h
  ·exact h0
 rw[Qz];exact Nat.lt_of_lt_of_le (XK hx) (Nat.le_trans (JK (by omega)) (Ny hm))
theorem Zp{xs ys:List Int}{k:Nat}{x y:Int}(hx:Dig xs)(hk:k<xs.length)(hk2:k<ys.length)(hd:xs.drop (k+1)=ys.drop (k+1))(ex:xs.getD k 0=x)(ey:ys.getD k 0=y)(h:x<y):dval xs<dval ys:=by
 have e1:xs[k]=x:=by rw[←ex];simp[M3,hk]
 have e2:ys[k]=y:=by rw[←ey];simp[M3,hk2]
 have hx0:=(JV hx k).1;rw[ex]at hx0;rw[Oi xs k,Oi ys k,M0 hk,M0 hk2,hd,e1,e2];have h1:=XK (Ou hx k);have l1:(xs.take k).length=k:=by simp;omega
 have l2:(ys.take k).length=k:=by simp;omega
 rw[l1]at h1 ⊢;rw[l2,dval,dval];have h2:ten k*(x.toNat+10*dval (ys.drop (k+1))+1)<=ten k*(y.toNat+10*dval (ys.drop (k+1))):=M8 _ (by omega);rw[MK _ _ 1]at h2;omega
theorem Ev{xs ys:List Int}{k:Nat}{x:Int}(hk:k<xs.length)(hk2:k<ys.length)(hd:xs.drop (k+1)=ys.drop (k+1))(ex:xs.getD k 0=x)(ey:ys.getD k 0=x):xs.drop k=ys.drop k:=by
 have e1:xs[k]=x:=by rw[←ex];simp[M3,hk]
 have e2:ys[k]=x:=by rw[←ey];simp[M3,hk2]
 rw[M0 hk,M0 hk2,hd,e1,e2]
theorem Q4{A A':Option Addr}{n c n' c' m m':Nat}{xs ys:List Int}(w:JW)(hx:Q0 w A n c xs m)(hy:Q0 w A' n' c' ys m') :
  Calls Tryz.prog 133 #[.slice A n c,.slice A' n' c'] w fun e w'=>e= .returned (.int .i64 (cmpN m m'))/\Below w.heap.size w w':=by
 have hn:=hx.len;have hn':=hy.len;have hs:=hx.size;have hs':=hy.size;have hv:=hx.val;have hv':=hy.val;have hle:=hx.isl.2.1;have hle':=hy.isl.2.1;by_cases h1:n<n'
 ·have he:=Yg (Oy hx.dig hy.tight (by omega));rw[hv,hv']at he;rw[he];have t0:((n:Int) ==(n':Int))=false:=by rw[beq_eq_false_iff_ne];omega
  clear hx hy hs hs' hv hv' he;go_enter Tryz.func133,Tryz.ntmps133;go_wp2;go_ret;exact⟨rfl,Mu _ _⟩
 ·by_cases h2:n'<n
  ·have he:=Gz (Oy hy.dig hx.tight (by omega));rw[hv,hv']at he;rw[he];have t0:((n:Int) ==(n':Int))=false:=by rw[beq_eq_false_iff_ne];omega
   clear hx hy hs hs' hv hv' he;go_enter Tryz.func133,Tryz.ntmps133;go_wp2;go_ret;exact⟨rfl,Mu _ _⟩
  ·obtain rfl:n=n':=by omega
   clear h1 h2;rcases MD n with h0|h0
   ·subst h0;have e1:xs=[]:=M7 hs;have e2:ys=[]:=M7 hs';subst e1 e2;have he:cmpN m m'=0:=GA (by rw[←hv,←hv']);rw[he];clear hx hy hv hv' he hs hs';go_enter Tryz.func133,Tryz.ntmps133;go_wp2_with fail
    refine wp_loop_rounds 1 ?_;rw[rounds_succ];go_wp2;go_ret;exact⟨rfl,Mu _ _⟩
   ·obtain⟨b,o,rfl,hb,hcx⟩:=hx.at h0;obtain⟨b',o',rfl,hb',hcy⟩:=hy.at h0;have Hcx:=Lh hcx;have Hcy:=Lh hcy;have Hwx:=Lh hx.dig;have Hwy:=Lh hy.dig;have Hs:=Lh hs;have Hs':=Lh hs';have Hv:=Lh hv;have Hv':=Lh hv';clear hx hy hcx hcy hs hs' hv hv';go_enter Tryz.func133,Tryz.ntmps133;go_wp2_with fail
    go_loopw [5] (fun i wr=>∃k:Nat,k<=n/\i= .int .i64 ((k:Int)-1)/\xs.drop k=ys.drop k/\Below w.heap.size w wr) (fun i _=>(intOf i+1).toNat)
    case atStart=>exact⟨n,M2 _,rfl,by rw[M4 (by rw[Hs.out];exact M2 _),M4 (by rw[Hs'.out];exact M2 _)],Mu _ _⟩
    case round=>
     obtain⟨k,hk,rfl,hd,hbel⟩:=hrel;have Hbel:=Lh hbel;have Hd:=Lh hd;clear hd;cases k with
     | zero=>
      have he:cmpN m m'=0:=GA (by rw[←Hv.out,←Hv'.out];have:=Hd.out;simp at this;rw[this]);have He:=Lh he;clear he;clear hbel;go_wp2;go_ret;exact⟨by rw[He.out];rfl,Hbel.out⟩
     | succ k=>
      have cx:=(hbel.cell (p:=⟨b,o+k,none⟩) hb).trans (Hcx.out k (by omega));have cy:=(hbel.cell (p:=⟨b',o'+k,none⟩) hb').trans (Hcy.out k (by omega));clear hbel;obtain⟨x,hx⟩:∃x,xs.getD k 0=x:=⟨_,rfl⟩;obtain⟨y,hy⟩:∃y,ys.getD k 0=y:=⟨_,rfl⟩;rw[hx]at cx;rw[hy]at cy;have Hx:=Lh hx;have Hy:=Lh hy;clear hx hy;have hx0:=(JV Hwx.out k).1;have hy0:=(JV Hwy.out k).1;have hx9:=(JV Hwx.out k).2;have hy9:=(JV Hwy.out k).2;rw[Hx.out]at hx0 hx9;rw[Hy.out]at hy0 hy9;by_cases h1:x<y
      ·have he:=Yg (Zp Hwx.out (by have:=Hs.out;omega) (by have:=Hs'.out;omega) Hd.out Hx.out Hy.out h1);rw[Hv.out,Hv'.out]at he;have He:=Lh he;clear he;go_wp2;go_quiet (fail)
       go_wp2;go_ret;exact⟨by rw[He.out];rfl,by repeat (first|exact Hbel.out|refine below_drewN ?_ _)⟩
      ·by_cases h2:y<x
       ·have he:=Gz (Zp Hwy.out (by have:=Hs'.out;omega) (by have:=Hs.out;omega) Hd.out.symm Hy.out Hx.out h2);rw[Hv.out,Hv'.out]at he;have He:=Lh he;clear he;go_wp2;go_quiet (fail)
        go_wp2;go_quiet (fail)
        go_wp2;go_ret;exact⟨by rw[He.out];rfl,by repeat (first|exact Hbel.out|refine below_drewN ?_ _)⟩
       ·obtain rfl:x=y:=by omega
        have Hnew:=Lh (Ev (by have:=Hs.out;omega) (by have:=Hs'.out;omega) Hd.out Hx.out Hy.out);go_wp2;go_quiet (fail)
        go_wp2;go_quiet (fail)
        go_wp2;exact⟨⟨k,by omega,by go_num,Hnew.out,by repeat (first|exact Hbel.out|refine below_drewN ?_ _)⟩,by simp[intOf] <;> omega⟩
theorem QE(z:Int)(w:JW)(hs:(txt z).size<=5000) :
  Calls Tryz.prog 110 #[.string (txt z)] w fun e w'=>∃A n c,e= .returned (.slice A n c)/\Q0 w' A n c (digN z.natAbs) z.natAbs/\n<=5001/\Below w.heap.size w w':=by
 refine(OM z w hs).mono ?_;rintro e w' ⟨A,c,rfl,hl,hc,hb⟩;have hlen:(digN z.natAbs).length<=5000:=by
  by_cases h0:z=0
  ·subst h0;rw[show(0:Int).natAbs=0 from rfl,JL];simp
  ·have:=hs;rw[XW h0,strOfNums_size,MC,Mx,M9]at this;omega
 exact⟨A,_,c,rfl,⟨hl,hc,by omega,JM _,rfl⟩,by omega,hb⟩
theorem QR(z:Int):(z<0/\sgn z=-1)\/(z=0/\sgn z=0)\/(0<z/\sgn z=1):=by
 unfold sgn;rcases Mt z 0 with h|h|h
 ·exact .inl ⟨h,if_pos h⟩
 ·exact .inr (.inl ⟨h,by rw[if_neg (by omega),if_neg (by omega)]⟩)
 ·exact .inr (.inr ⟨h,by rw[if_neg (by omega),if_pos h]⟩)
