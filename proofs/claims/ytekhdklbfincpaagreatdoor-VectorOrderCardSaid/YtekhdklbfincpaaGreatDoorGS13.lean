/- GS13: DM Ref2 -/
import Derived.Test.YtekhdklbfincpaaGreatDoorGS04
import Derived.Test.YtekhdklbfincpaaGreatDoorGS07
import Derived.Test.YtekhdklbfincpaaGreatDoorGS08
set_option maxRecDepth 100000
set_option maxHeartbeats 16000000
namespace Go.Proofs.YtekhdklbfincpaaGreatDoor
open Go renaming World→JW
open _root_.List renaming drop_eq_getElem_cons→M0,getD→M3,drop_eq_nil_of_le→M4,take_succ_eq_append_getElem→M5,eq_nil_of_length_eq_zero→M7,length_reverse→M9,length_cons→Mn,length_map→Mo,mem_cons_of_mem→Mq,mem_cons_self→Ms,length_append→Mt,take_length→Mw,nil_append→Mz
open _root_.Bool renaming false_eq_true→M1
open _root_.Nat renaming le_refl→M2,mul_le_mul_left→M8,add_zero→Mm,mul_comm→Mr,eq_zero_or_pos→Mu,div_add_mod→Mx,strongRecOn→My,mul_add→MB,mod_lt→MC
open _root_.Int renaming mul_le_mul_of_nonneg_right→M6,lt_trichotomy→Mk,neg_mul→Mp,sub_mul→Mv,le_of_lt→MA
open _root_.UInt8 renaming ofNat→Mi,toNat_ofNat'→Mj
open Go.RowKit.Below renaming refl→Ml
open Go.RowKit
def DM(z k q r:Int):Prop:=z=q*k+r/\((0<=r/\r<k)\/(k<r/\r<=0))
theorem dm_negneg{m m' u:Nat}(h:m=u*m'+0)(hr:0<m')(_e:(0:Nat)=0):DM (-(m:Int)) (-(m':Int)) (signZ false u) 0:=by
 rw[Mm]at h;unfold DM signZ;simp only[M1,if_false,Int.mul_neg];rw[h];push_cast
 refine⟨by omega,?_⟩;simp only[true_and,and_true];omega
theorem dm_negneg'{m m' u r:Nat}(h:m=u*m'+r)(hr:r<m'):DM (-(m:Int)) (-(m':Int)) (signZ false u) (signZ true r):=by
 unfold DM signZ;simp only[M1,if_false,if_true,Int.mul_neg];rw[h];push_cast
 omega
theorem dm_negpos{m m' u:Nat}(h:m=u*m'+0)(hr:0<m')(_e:(0:Nat)=0):DM (-(m:Int)) (m':Int) (signZ true u) 0:=by
 rw[Mm]at h;unfold DM signZ;simp only[if_true,Mp];rw[h];push_cast
 refine⟨by omega,?_⟩;simp only[true_and,and_true];omega
theorem dm_negpos'{m m' u r:Nat}(h:m=u*m'+r)(hr:r<m')(h0:0<r):DM (-(m:Int)) (m':Int) (signZ true u-1) (signZ true r+(m':Int)):=by
 unfold DM signZ;simp only[if_true,Mp,Mv,Int.one_mul];rw[h];push_cast
 omega
theorem dm_posneg{m m' u:Nat}(h:m=u*m'+0)(hr:0<m')(_e:(0:Nat)=0):DM (m:Int) (-(m':Int)) (signZ true u) 0:=by
 rw[Mm]at h;unfold DM signZ;simp only[if_true,Mp,Int.mul_neg,Int.neg_neg];rw[h];push_cast
 refine⟨by omega,?_⟩;simp only[true_and,and_true];omega
theorem dm_posneg'{m m' u r:Nat}(h:m=u*m'+r)(hr:r<m')(h0:0<r):DM (m:Int) (-(m':Int)) (signZ true u-1) (signZ false r+(-(m':Int))):=by
 unfold DM signZ;simp only[M1,if_false,if_true,Mp,Int.mul_neg,Mv,Int.one_mul];rw[h];push_cast
 omega
theorem dm_pospos{m m' u:Nat}(h:m=u*m'+0)(hr:0<m')(_e:(0:Nat)=0):DM (m:Int) (m':Int) (signZ false u) 0:=by
 rw[Mm]at h;unfold DM signZ;simp only[M1,if_false];rw[h];push_cast
 refine⟨by omega,?_⟩;simp only[true_and,and_true];omega
theorem dm_pospos'{m m' u r:Nat}(h:m=u*m'+r)(hr:r<m'):DM (m:Int) (m':Int) (signZ false u) (signZ false r):=by
 unfold DM signZ;simp only[M1,if_false];rw[h];push_cast
 omega
theorem dm_zeroneg{m' u:Nat}(h:0=u*m'+0)(hr:0<m')(_e:(0:Nat)=0):DM 0 (-(m':Int)) (signZ false u) 0:=by
 have h1:u*1<=u*m':=M8 _ hr;obtain rfl:u=0:=by omega
 unfold DM signZ;simp;omega
theorem dm_zeropos{m' u:Nat}(h:0=u*m'+0)(hr:0<m')(_e:(0:Nat)=0):DM 0 (m':Int) (signZ false u) 0:=by
 have h1:u*1<=u*m':=M8 _ hr;obtain rfl:u=0:=by omega
 unfold DM signZ;simp;omega
theorem dm_unique{z k q r q' r':Int}(h:DM z k q r)(h':DM z k q' r'):q=q'/\r=r':=by
 unfold DM at h h';have e:(q-q')*k=r'-r:=by rw[Mv];omega
 have hq:q-q'=0:=by
  rcases Mk (q-q') 0 with h1|h1|h1
  ·exfalso;rcases Int.lt_or_le 0 k with hk|hk
   ·have:=M6 (show q-q'<=-1 by omega) (MA hk);omega
   ·have:=Int.mul_le_mul_of_nonpos_right (show q-q'<=-1 by omega) hk;omega
  ·exact h1
  ·exfalso;rcases Int.lt_or_le 0 k with hk|hk
   ·have:=M6 (show 1<=q-q' by omega) (MA hk);omega
   ·have:=Int.mul_le_mul_of_nonpos_right (show 1<=q-q' by omega) hk;omega
 rw[hq,Int.zero_mul]at e;omega
theorem dm_keep{z k:Int}{m m':Nat}(hm:z.natAbs=m)(hm':k.natAbs=m')(hk:k≠0)(h:m%m'=0\/(decide (z<0) !=decide (k<0))=false):DM z k (signZ (decide (z<0) !=decide (k<0)) (m/m')) (signZ (decide (z<0)) (m%m')):=by
 have hp:0<m':=by omega
 have hd:=Mx m m';have hl:=MC m hp;generalize m/m'=u at *
 generalize m%m'=r at *
 rw[Mr]at hd;by_cases hz:z<0 <;> by_cases hk2:k<0
 ·obtain rfl:z=-(m:Int):=by omega
  obtain rfl:k=-(m':Int):=by omega
  rw[decide_eq_true hz,decide_eq_true hk2];exact dm_negneg' hd.symm hl
 ·obtain rfl:z=-(m:Int):=by omega
  obtain rfl:k=(m':Int):=by omega
  rw[decide_eq_true hz,decide_eq_false hk2]at h ⊢;obtain rfl:r=0:=by
   rcases h with h|h
   ·exact h
   ·cases h
  exact dm_negpos hd.symm hl rfl
 ·obtain rfl:z=(m:Int):=by omega
  obtain rfl:k=-(m':Int):=by omega
  rw[decide_eq_false hz,decide_eq_true hk2]at h ⊢;obtain rfl:r=0:=by
   rcases h with h|h
   ·exact h
   ·cases h
  exact dm_posneg hd.symm hl rfl
 ·obtain rfl:z=(m:Int):=by omega
  obtain rfl:k=(m':Int):=by omega
  rw[decide_eq_false hz,decide_eq_false hk2];exact dm_pospos' hd.symm hl
theorem dm_turn{z k:Int}{m m':Nat}(hm:z.natAbs=m)(hm':k.natAbs=m')(hk:k≠0)(h0:m%m'≠0)(h:(decide (z<0) !=decide (k<0))=true):DM z k (signZ (decide (z<0) !=decide (k<0)) (m/m')-1) (signZ (decide (z<0)) (m%m')+k):=by
 have hp:0<m':=by omega
 have hd:=Mx m m';have hl:=MC m hp;rw[h];generalize m/m'=u at *
 generalize m%m'=r at *
 rw[Mr]at hd;by_cases hz:z<0 <;> by_cases hk2:k<0
 ·simp[hz,hk2]at h
 ·obtain rfl:z=-(m:Int):=by omega
  obtain rfl:k=(m':Int):=by omega
  rw[decide_eq_true hz];exact dm_negpos' hd.symm hl (by omega)
 ·obtain rfl:z=(m:Int):=by omega
  obtain rfl:k=-(m':Int):=by omega
  rw[decide_eq_false hz];exact dm_posneg' hd.symm hl (by omega)
 ·simp[hz,hk2]at h
def dval:List Int->Nat
 | []=>0
 | d :: r=>d.toNat+10*dval r
def Dig(l:List Int):Prop:=∀x∈l,0<=x/\x<=9
def ten(n:Nat):Nat:=10^n
theorem ten_zero:ten 0=1:=rfl
theorem ten_succ(n:Nat):ten (n+1)=10*ten n:=by unfold ten;rw[Nat.pow_succ,Mr]
theorem ten_pos(n:Nat):0<ten n:=Nat.pow_pos (by decide)
theorem ten_le{a b:Nat}(h:a<=b):ten a<=ten b:=Nat.pow_le_pow_right (by decide) h
theorem dval_append(a b:List Int):dval (a ++ b)=dval a+ten a.length*dval b:=by
 induction a with
 | nil=>simp[dval,ten_zero]
 | cons d r ih=>rw[List.cons_append,dval,dval,ih,Mn,ten_succ,MB,Nat.mul_assoc];omega
theorem dval_snoc(a:List Int)(d:Int):dval (a ++ [d])=dval a+ten a.length*d.toNat:=by rw[dval_append];simp[dval]
theorem dval_lt{l:List Int}(h:Dig l):dval l<ten l.length:=by
 induction l with
 | nil=>exact Nat.one_pos
 | cons d r ih=>
  rw[dval,Mn,ten_succ];have h1:=h d (Ms ..);have h2:=ih (fun x hx=>h x (Mq _ hx));omega
theorem dval_digN(u:Nat):dval (digN u)=u:=by
 induction u using My with
 | _ u ih=>
  by_cases h0:u=0
  ·subst h0;rw[digN_zero];rfl
  ·rw[digN_pos h0,dval,ih (u/10) (by omega)];omega
theorem dig_digN(u:Nat):Dig (digN u):=digN_mem u
theorem dig_take{l:List Int}(h:Dig l)(k:Nat):Dig (l.take k):=fun d hd=>h d (List.mem_of_mem_take hd)
theorem dval_split(xs:List Int)(k:Nat):dval xs=dval (xs.take k)+ten (xs.take k).length*dval (xs.drop k):=by
 rw[←dval_append,List.take_append_drop]
theorem digN_dval:∀l:List Int,Dig l->l.getLast?≠some 0->digN (dval l)=l:=by
 intro l
 induction l with
 | nil=>intro _ _;rw[dval,digN_zero]
 | cons d r ih=>
  intro h hl;have hd:=h d (Ms ..);have hr:Dig r:=fun x hx=>h x (Mq _ hx);cases r with
  | nil=>
   have:d≠0:=by intro e;apply hl;simp[e]
   rw[dval,dval,digN_pos (by omega),show(d.toNat+10*0)/10=0 by omega,digN_zero]
   congr 1
   omega
  | cons e s=>
   have hl':(e :: s).getLast?≠some 0:=by rw[List.getLast?_cons_of_ne_nil (by simp)]at hl;exact hl
   have ih':=ih hr hl';have hpos:dval (e :: s)≠0:=by
    intro h0;rw[h0,digN_zero]at ih';cases ih'
   rw[dval,digN_pos (by omega),show(d.toNat+10*dval (e :: s))/10=dval (e :: s)by omega,ih']
   congr 1
   omega
theorem dval_trim(l:List Int):∀k,k<=l.length->dval (l.take (trimTo l k))=dval (l.take k):=by
 intro k
 induction k with
 | zero=>intro _;rfl
 | succ k ih=>
  intro hk;unfold trimTo;by_cases h0:l.getD k 0=0
  ·rw[if_pos h0,ih (by omega),M5 (by omega),dval_snoc];have e:l[k]=0:=by rw[←h0];simp[M3,show k<l.length by omega]
   rw[e];simp
  ·rw[if_neg h0]
theorem trim_last(l:List Int):∀k,k<=l.length->(l.take (trimTo l k)).getLast?≠some 0:=by
 intro k
 induction k with
 | zero=>intro _;simp[trimTo]
 | succ k ih=>
  intro hk;unfold trimTo;by_cases h0:l.getD k 0=0
  ·rw[if_pos h0];exact ih (by omega)
  ·rw[if_neg h0,M5 (by omega)];have e:l[k]=l.getD k 0:=by simp[M3,show k<l.length by omega]
   rw[List.getLast?_append,List.getLast?_singleton,e];simp only[Option.some_or,ne_eq,Option.some.injEq];exact h0
theorem trim_digN{l:List Int}(h:Dig l):l.take (trimTo l l.length)=digN (dval l):=by
 have e:=digN_dval _ (dig_take h _) (trim_last l l.length (M2 _));rw[dval_trim l l.length (M2 _),Mw]at e;exact e.symm
theorem trim_len{l:List Int}(h:Dig l):trimTo l l.length=(digN (dval l)).length:=by
 rw[←trim_digN h,List.length_take];have:=trimTo_le l l.length;omega
theorem textOf_dval(neg:Bool){l:List Int}(h:Dig l):textOf neg l=textOf neg (digN (dval l)):=by
 unfold textOf;rw[trimTo_full _ (digN_last _),Mw,trim_digN h,trim_len h]
theorem digN_ge{u:Nat}(h:0<u):ten ((digN u).length-1)<=u:=by
 induction u using My with
 | _ u ih=>
  rw[digN_pos (by omega),Mn];by_cases h1:u/10=0
  ·rw[h1,digN_zero];exact h
  ·have h2:=ih (u/10) (by omega) (by omega);have h3:0<(digN (u/10)).length:=by rw[digN_pos h1];simp
   rw[show(digN (u/10)).length+1-1=((digN (u/10)).length-1)+1 by omega,ten_succ];omega
theorem digN_lt(u:Nat):u<ten (digN u).length:=by
 have:=dval_lt (dig_digN u)
 rwa [dval_digN]at this
def txt(z:Int):ByteArray:=textOf (decide (z<0)) (digN z.natAbs)
def zOf(s:ByteArray):Int:=signZ (isNeg s) (decV (bodyOf s).data.toList)
theorem txt_zOf{s:ByteArray}(h:errOf s=0):txt (zOf s)=s:=text_whole h
theorem textOf_txt{neg:Bool}{l:List Int}{z:Int}(h:Dig l)(hv:dval l=z.natAbs)(hs:z≠0->neg=decide (z<0)):textOf neg l=txt z:=by
 rw[textOf_dval neg h,hv];unfold txt;by_cases h0:z=0
 ·subst h0;unfold textOf;rw[show(0:Int).natAbs=0 from rfl,digN_zero];rfl
 ·rw[hs h0]
theorem txt_zero:txt 0=⟨#[48]⟩:=by
 unfold txt textOf;rw[show(0:Int).natAbs=0 from rfl,digN_zero];rfl
theorem txt_ne{z:Int}(h:z≠0):txt z=strOfNums ((if z<0 then[45] else[]) ++ (digN z.natAbs).reverse.map (48+·)):=by
 have e:txt z=textOf (decide (z<0)) (digN z.natAbs):=rfl;rw[e,textOf_pos _ (by omega)];unfold sig;rw[List.map_reverse];by_cases hz:z<0 <;> simp[hz]
theorem nums_data(l:List Int):(strOfNums l).data.toList=l.map fun n=>Mi n.toNat:=by
 simp[strOfNums]
def dl(l:List UInt8):List Int:=(l.filter (· !=45)).reverse.map fun c=>(c.toNat:Int)-48
theorem dl_minus(l:List UInt8):dl (45 :: l)=dl l:=by unfold dl;rw[List.filter_cons_of_neg (by decide)]
theorem dl_digit{c:UInt8}(h:c≠45)(l:List UInt8):dl (c :: l)=dl l ++ [(c.toNat:Int)-48]:=by
 unfold dl;rw[List.filter_cons_of_pos (by simpa using h),List.reverse_cons,List.map_append];rfl
theorem dl_sig:∀l:List Int,Dig l->dl (l.reverse.map fun d=>Mi (48+d).toNat)=l:=by
 intro l h;unfold dl;have hf:(l.reverse.map fun d=>Mi (48+d).toNat).filter (· !=45)=l.reverse.map fun d=>Mi (48+d).toNat:=by
  rw[List.filter_eq_self];intro c hc;obtain⟨d,hd,rfl⟩:=List.mem_map.1 hc;have:=h d (by simpa using hd);simp only[bne_iff_ne,ne_eq];intro e;have e2:=congrArg UInt8.toNat e;rw[Mj]at e2;simp at e2;omega
 rw[hf,←List.map_reverse,List.reverse_reverse,List.map_map]
 conv=>rhs;rw[←List.map_id l]
 apply List.map_congr_left;intro d hd;have:=h d hd;simp only[Function.comp,id];rw[Mj];omega
theorem dl_txt(z:Int):Dig (dl (txt z).data.toList)/\dval (dl (txt z).data.toList)=z.natAbs:=by
 by_cases h0:z=0
 ·subst h0;rw[txt_zero];have e:dl (⟨#[48]⟩:ByteArray).data.toList=[0]:=by decide
  rw[e];exact⟨fun x hx=>by rw[List.mem_singleton.1 hx];decide,rfl⟩
 ·have e:dl (txt z).data.toList=digN z.natAbs:=by
   rw[txt_ne h0,nums_data];have hd:=dl_sig _ (dig_digN z.natAbs);by_cases hz:z<0
   ·rw[if_pos hz,List.map_append,List.map_map,←hd];exact(dl_minus _).trans (by rw[hd];exact hd)
   ·rw[if_neg hz,Mz,List.map_map];exact hd
  rw[e];exact⟨dig_digN _,dval_digN _⟩
theorem txt_first{z:Int}(h:z≠0):∃(n:Nat) (hs:0<(txt z).size),((txt z)[0]).toNat=n/\(z<0->n=45)/\(0<z->49<=n/\n<=57):=by
 have e:=txt_ne h;have hl:(txt z).data.toList=((if z<0 then[45] else[]) ++ (digN z.natAbs).reverse.map (48+·)).map fun n:Int=>Mi n.toNat:=by rw[e,nums_data]
 have hne:digN z.natAbs≠[]:=by rw[digN_pos (by omega)];simp
 obtain⟨d,hd⟩:∃d,(digN z.natAbs).getLast?=some d:=⟨_,List.getLast?_eq_some_getLast hne⟩;have hd0:d≠0:=fun e=>digN_last z.natAbs (by rw[hd,e]);have hdm:=dig_digN z.natAbs d (List.mem_of_getLast? hd);have hs:0<(txt z).size:=by
  rw[←str_len,hl];simp only[Mo,Mt,M9];have:=List.length_pos_iff.mpr hne;omega
 have hh:=head_at hs;rw[hl]at hh;refine⟨_,hs,rfl,fun hz=>?_,fun hz=>?_⟩
 ·rw[if_pos hz]at hh;simp at hh;rw[←hh]
  decide
 ·rw[if_neg (by omega),Mz,List.map_map,List.head?_map,List.head?_reverse,hd]at hh;simp at hh;rw[←hh,Mj];omega
theorem txt_size(z:Int){k:Nat}(h:z.natAbs<ten k)(hk:0<k):(txt z).size<=k+1:=by
 by_cases h0:z=0
 ·subst h0;rw[txt_zero];show 1<=k+1;omega
 ·rw[txt_ne h0,strOfNums_size];have:=digN_len k z.natAbs h
  split <;> simp <;> omega
theorem bytes_ne{s:ByteArray}{n:Nat}(hs:0<s.size)(h:(s[0]).toNat=n)(h48:n≠48):(s.toList == [48])=false:=by
 rw[ByteArray.toList_eq,beq_eq_false_iff_ne];intro e;have hh:=head_at hs;rw[e]at hh;simp at hh;apply h48;rw[←h,←hh];rfl
theorem refSign_neg(s:ByteArray)(w:JW)(hs:0<s.size)(hn:(s[0]).toNat=45)(hne:(s.toList == [48])=false)(_hsz:s.size<=5000) :
  Calls Tryz.prog 108 #[.string s] w fun e w'=>e= .returned (.int .i64 (-1))/\w=w':=by
 go_enter Tryz.func108,Tryz.ntmps108;go_wp2;go_ret;exact⟨rfl,rfl⟩
theorem refSign_pos(s:ByteArray)(w:JW)(n:Nat)(hs:0<s.size)(hn:(s[0]).toNat=n)(hne:(s.toList == [48])=false)(h45:((n:Int) ==45)=false)(_hsz:s.size<=5000) :
  Calls Tryz.prog 108 #[.string s] w fun e w'=>e= .returned (.int .i64 1)/\w=w':=by
 go_enter Tryz.func108,Tryz.ntmps108;go_wp2;go_ret;exact⟨rfl,rfl⟩
theorem refSign_any(z:Int)(w:JW)(hsz:(txt z).size<=5000) :
  Calls Tryz.prog 108 #[.string (txt z)] w fun e w'=>e= .returned (.int .i64 (sgn z))/\w=w':=by
 rcases Mk z 0 with h|h|h
 ·obtain⟨n,hs,hn,h1,_⟩:=txt_first (z:=z) (by omega);have h45:=h1 h;rw[show sgn z=-1 by unfold sgn;rw[if_pos h]];exact refSign_neg _ w hs (hn.trans h45) (bytes_ne hs hn (by omega)) hsz
 ·subst h;rw[txt_zero];go_enter Tryz.func108,Tryz.ntmps108;go_wp2;go_ret;exact⟨rfl,rfl⟩
 ·obtain⟨n,hs,hn,_,h2⟩:=txt_first (z:=z) (by omega);have h49:=h2 h;rw[show sgn z=1 by unfold sgn;rw[if_neg (by omega),if_pos h]];exact refSign_pos _ w n hs hn (bytes_ne hs hn (by omega)) (by rw[beq_eq_false_iff_ne];omega) hsz
def DigitsInv(w0:JW)(s:ByteArray)(v i:Value)(wr:JW):Prop:=
 ∃j:Nat,j<=s.size/\i= .int .i64 ((j:Int)-1)/\wr.ownsRow w0.heap.size 3 1 v (dl (s.data.toList.drop j)).length (ints (dl (s.data.toList.drop j)))/\Below w0.heap.size w0 wr
theorem drop_byte{s:ByteArray}{j:Nat}(hj:j<s.size):s.data.toList.drop j=s[j] :: s.data.toList.drop (j+1):=by
 rw[M0 (by rw[str_len];exact hj)]
 congr 1
theorem digits_skip{w0 wr:JW}{s:ByteArray}{j y:Nat}{v:Value}(hj:j<s.size)(hy:(s[j]).toNat=y)(h45:y=45)(hown:wr.ownsRow w0.heap.size 3 1 v (dl (s.data.toList.drop (j+1))).length (ints (dl (s.data.toList.drop (j+1)))))(hbel:Below w0.heap.size w0 wr) :
  DigitsInv w0 s v (.int .i64 ((j:Int)-1)) wr:=by
 have e:dl (s.data.toList.drop j)=dl (s.data.toList.drop (j+1)):=by
  rw[drop_byte hj,byte_eq (n:=45) (by decide) (hy.trans h45)];exact dl_minus _
 exact⟨j,by omega,rfl,by rw[e];exact hown,hbel⟩
theorem digits_step{w0 wr w1:JW}{s:ByteArray}{j y:Nat}{u v':Value}{x:Int}(hj:j<s.size)(hy:(s[j]).toNat=y)(h45:y≠45)(hx:x=(y:Int)-48)(hown:wr.ownsRow w0.heap.size 3 1 u (dl (s.data.toList.drop (j+1))).length (ints (dl (s.data.toList.drop (j+1)))))
  (hown':w1.ownsRow w0.heap.size 3 1 v' ((dl (s.data.toList.drop (j+1))).length+1) (ints (dl (s.data.toList.drop (j+1))) ++ [.int .i64 x]))
  (hgrow:(wr.alloc (.cells #[.int .i64 x] 3)).grownBy w1 u.ownBlock) (hbel:Below w0.heap.size w0 wr):DigitsInv w0 s v' (.int .i64 ((j:Int)-1)) w1:=by
 have e:dl (s.data.toList.drop j)=dl (s.data.toList.drop (j+1)) ++ [x]:=by
  rw[drop_byte hj,dl_digit (by intro e;apply h45;rw[←hy,e];rfl),hy,hx]
 refine⟨j,by omega,rfl,?_,(hbel.alloc hbel.size _).grown hgrow (by simp;have:=hbel.size;omega) (fun k hk=>own_ge hown hk)⟩;rw[e];simpa[ints]using hown'
theorem dl_len(l:List UInt8):(dl l).length<=l.length:=by
 unfold dl;rw[Mo,M9];exact List.length_filter_le _ _
theorem digits_loop(s:ByteArray)(w:JW)(hs:s.size<=5000)(hd:Dig (dl s.data.toList)) :
  Calls Tryz.prog 110 #[.string s] w fun e w'=>∃A c,e= .returned (.slice A (digN (dval (dl s.data.toList))).length c)/\IsL w' A (digN (dval (dl s.data.toList))).length c (ints (digN (dval (dl s.data.toList))))/\c<=9223372036854775807/\Below w.heap.size w w':=by
 obtain⟨i0,hi,hz0,hz1,hz2⟩:=info_parts info_int;have Hd:=Lh hd;clear hd;go_enter Tryz.func110,Tryz.ntmps110;go_wp2_with fail
 go_loopw [3,4] (fun v i wr=>DigitsInv w s v i wr) (fun _ i _=>(intOf i+1).toNat)
 case atStart=>
  refine⟨s.size,M2 _,rfl,?_,Ml _ _⟩;rw[M4 (by rw[str_len];exact M2 _)];exact World.ownsRow_nil _ _ _ _
 case round=>
  obtain⟨j,hj,rfl,hown,hbel⟩:=hrel;have hsz:=hbel.size;have hlen:(dl (s.data.toList.drop j)).length<=5000:=by
   have:=dl_len (s.data.toList.drop j);rw[List.length_drop,str_len]at this;omega
  have Hown:=Lh hown;have Hbel:=Lh hbel;clear hown hbel;cases j with
  | zero=>
   rw[List.drop_zero]at Hown hlen;obtain⟨A,c,rfl,hisl,hc⟩:=own_isL Hown.out;have Hi:=Lh hisl;have Ht:=Lh (trim_any A _ c _ wr hisl (by omega) hc);clear hisl;go_wp2_with fail
   refine Ht.out.mono ?_;rintro e w2⟨rfl,rfl⟩;have hcut:=Hi.out.cut (trimTo_le (dl s.data.toList) _);have e1:(ints (dl s.data.toList)).take (trimTo (dl s.data.toList) (dl s.data.toList).length)=ints (digN (dval (dl s.data.toList))):=by
    unfold ints;rw[←List.map_take,trim_digN Hd.out]
   rw[e1,trim_len Hd.out]at hcut;have Hcut:=Lh hcut;have Hlen:=Lh (trim_len Hd.out);clear hcut e1;go_wp2;go_ret;exact⟨A,c,ret_slice Hlen.out,Hcut.out,hc,Hbel.out⟩
  | succ j=>
   have hjs:j<s.size:=by omega
   obtain⟨y,hy⟩:∃y,(s[j]).toNat=y:=⟨_,rfl⟩;have hy1:y<256:=by rw[←hy];exact UInt8.toNat_lt _
   have Hy:=Lh hy;by_cases h45:y=45
   ·have Hfin:=Lh (digits_skip hjs hy h45 Hown.out Hbel.out);subst h45;go_wp2;go_roundw;case rel=>exact Hfin.out
    case measure=>simp[intOf] <;> omega
   ·have t0:((y:Int) ==45)=false:=by rw[beq_eq_false_iff_ne];omega
    go_wp2_with (at_builtin;refine wpList_append_own _ rfl _ _ 126 rfl w.heap.size 3 i0 (.int .i64 0) 1 8 Tryz.underlying126 hi hz0 hz1 hz2 rfl (by decide) _ _ _ rfl (Hown.out.alloc _) ⟨wr.heap.size,0,none⟩ 1 1 [.int .i64 ((y:Int)-48)] rfl rfl (fun k u hu=>by match k,hu with|0,hu=>simp at hu;subst hu;simp[Addr.add]) (fun u hu=>by simp at hu;subst hu;rfl) (by unfold maxLen;omega) (by omega) (by simp;omega) ?_)
    intro v' w1 hown' hgrow _;have hfin:=digits_step hjs Hy.out h45 rfl Hown.out hown' hgrow Hbel.out;have Hfin:=Lh hfin;clear hfin hown' hgrow;go_wp2;go_roundw;case rel=>exact Hfin.out
    case measure=>simp[intOf] <;> omega
theorem refDigits_any(z:Int)(w:JW)(hs:(txt z).size<=5000) :
  Calls Tryz.prog 110 #[.string (txt z)] w fun e w'=>∃A c,e= .returned (.slice A (digN z.natAbs).length c)/\IsL w' A (digN z.natAbs).length c (ints (digN z.natAbs))/\c<=9223372036854775807/\Below w.heap.size w w':=by
 have h:=digits_loop (txt z) w hs (dl_txt z).1;rw[(dl_txt z).2]at h;exact h
structure IsDig (w:JW) (A:Option Addr) (n c:Nat) (xs:List Int) (m:Nat):Prop where
 isl:IsL w A n c (ints xs)
 cap:c<=9223372036854775807
 len:n<4294967296
 dig:Dig xs
 tight:xs=digN m
theorem ints_length(xs:List Int):(ints xs).length=xs.length:=by simp[ints]
theorem IsDig.size{w:JW}{A:Option Addr}{n c m:Nat}{xs:List Int}(h:IsDig w A n c xs m):xs.length=n:=by
 have:=h.isl.1;rwa [ints_length]at this
theorem IsDig.val{w:JW}{A:Option Addr}{n c m:Nat}{xs:List Int}(h:IsDig w A n c xs m):dval xs=m:=by
 rw[h.tight,dval_digN]
theorem IsDig.at{w:JW}{A:Option Addr}{n c m:Nat}{xs:List Int}(h:IsDig w A n c xs m)(h0:0<n):∃b o,A=some ⟨b,o,none⟩/\b<w.heap.size/\∀k:Nat,k<n->w.cell? ⟨b,o+k,none⟩=some (.int .i64 (xs.getD k 0)):=by
 obtain⟨b,o,e,hb,hc⟩:=h.isl.2.2 h0;exact⟨b,o,e,hb,fun k hk=>hc k _ (by have:=h.size;simp[ints,show k<xs.length by omega])⟩
theorem IsDig.keep{w w':JW}{A:Option Addr}{n c m:Nat}{xs:List Int}(h:IsDig w A n c xs m)(hb:Below w.heap.size w w'):IsDig w' A n c xs m:=
 ⟨h.isl.keep hb,h.cap,h.len,h.dig,h.tight⟩
theorem getD_dig{l:List Int}(h:Dig l)(k:Nat):0<=l.getD k 0/\l.getD k 0<=9:=by
 by_cases hk:k<l.length
 ·have e:l.getD k 0=l[k]:=by simp[M3,hk]
  rw[e];exact h _ (List.getElem_mem hk)
 ·have e:l.getD k 0=0:=by simp[M3,List.getElem?_eq_none (by omega:l.length<=k)]
  rw[e];decide
theorem cmpD_len{xs ys:List Int}{m:Nat}(hx:Dig xs)(hy:ys=digN m)(h:xs.length<ys.length):dval xs<dval ys:=by
 subst hy;have hm:0<m:=by
  rcases Mu m with h0|h0
  ·subst h0;rw[digN_zero]at h;simp at h
  ·exact h0
 rw[dval_digN];exact Nat.lt_of_lt_of_le (dval_lt hx) (Nat.le_trans (ten_le (by omega)) (digN_ge hm))
theorem cmpD_step{xs ys:List Int}{k:Nat}{x y:Int}(hx:Dig xs)(hk:k<xs.length)(hk2:k<ys.length)(hd:xs.drop (k+1)=ys.drop (k+1))(ex:xs.getD k 0=x)(ey:ys.getD k 0=y)(h:x<y):dval xs<dval ys:=by
 have e1:xs[k]=x:=by rw[←ex];simp[M3,hk]
 have e2:ys[k]=y:=by rw[←ey];simp[M3,hk2]
 have hx0:=(getD_dig hx k).1;rw[ex]at hx0;rw[dval_split xs k,dval_split ys k,M0 hk,M0 hk2,hd,e1,e2];have h1:=dval_lt (dig_take hx k);have l1:(xs.take k).length=k:=by simp;omega
 have l2:(ys.take k).length=k:=by simp;omega
 rw[l1]at h1 ⊢;rw[l2,dval,dval];have h2:ten k*(x.toNat+10*dval (ys.drop (k+1))+1)<=ten k*(y.toNat+10*dval (ys.drop (k+1))):=M8 _ (by omega);rw[MB _ _ 1]at h2;omega
theorem dropD_same{xs ys:List Int}{k:Nat}{x:Int}(hk:k<xs.length)(hk2:k<ys.length)(hd:xs.drop (k+1)=ys.drop (k+1))(ex:xs.getD k 0=x)(ey:ys.getD k 0=x):xs.drop k=ys.drop k:=by
 have e1:xs[k]=x:=by rw[←ex];simp[M3,hk]
 have e2:ys[k]=x:=by rw[←ey];simp[M3,hk2]
 rw[M0 hk,M0 hk2,hd,e1,e2]
theorem order_any{A A':Option Addr}{n c n' c' m m':Nat}{xs ys:List Int}(w:JW)(hx:IsDig w A n c xs m)(hy:IsDig w A' n' c' ys m') :
  Calls Tryz.prog 133 #[.slice A n c,.slice A' n' c'] w fun e w'=>e= .returned (.int .i64 (cmpN m m'))/\Below w.heap.size w w':=by
 have hn:=hx.len;have hn':=hy.len;have hs:=hx.size;have hs':=hy.size;have hv:=hx.val;have hv':=hy.val;have hle:=hx.isl.2.1;have hle':=hy.isl.2.1;by_cases h1:n<n'
 ·have he:=cmpN_lt (cmpD_len hx.dig hy.tight (by omega));rw[hv,hv']at he;rw[he];have t0:((n:Int) ==(n':Int))=false:=by rw[beq_eq_false_iff_ne];omega
  clear hx hy hs hs' hv hv' he;go_enter Tryz.func133,Tryz.ntmps133;go_wp2;go_ret;exact⟨rfl,Ml _ _⟩
 ·by_cases h2:n'<n
  ·have he:=cmpN_gt (cmpD_len hy.dig hx.tight (by omega));rw[hv,hv']at he;rw[he];have t0:((n:Int) ==(n':Int))=false:=by rw[beq_eq_false_iff_ne];omega
   clear hx hy hs hs' hv hv' he;go_enter Tryz.func133,Tryz.ntmps133;go_wp2;go_ret;exact⟨rfl,Ml _ _⟩
  ·obtain rfl:n=n':=by omega
   clear h1 h2;rcases Mu n with h0|h0
   ·subst h0;have e1:xs=[]:=M7 hs;have e2:ys=[]:=M7 hs';subst e1 e2;have he:cmpN m m'=0:=cmpN_eq (by rw[←hv,←hv']);rw[he];clear hx hy hv hv' he hs hs';go_enter Tryz.func133,Tryz.ntmps133;go_wp2_with fail
    refine wp_loop_rounds 1 ?_;rw[rounds_succ];go_wp2;go_ret;exact⟨rfl,Ml _ _⟩
   ·obtain⟨b,o,rfl,hb,hcx⟩:=hx.at h0;obtain⟨b',o',rfl,hb',hcy⟩:=hy.at h0;have Hcx:=Lh hcx;have Hcy:=Lh hcy;have Hwx:=Lh hx.dig;have Hwy:=Lh hy.dig;have Hs:=Lh hs;have Hs':=Lh hs';have Hv:=Lh hv;have Hv':=Lh hv';clear hx hy hcx hcy hs hs' hv hv';go_enter Tryz.func133,Tryz.ntmps133;go_wp2_with fail
    go_loopw [5] (fun i wr=>∃k:Nat,k<=n/\i= .int .i64 ((k:Int)-1)/\xs.drop k=ys.drop k/\Below w.heap.size w wr) (fun i _=>(intOf i+1).toNat)
    case atStart=>exact⟨n,M2 _,rfl,by rw[M4 (by rw[Hs.out];exact M2 _),M4 (by rw[Hs'.out];exact M2 _)],Ml _ _⟩
    case round=>
     obtain⟨k,hk,rfl,hd,hbel⟩:=hrel;have Hbel:=Lh hbel;have Hd:=Lh hd;clear hd;cases k with
     | zero=>
      have he:cmpN m m'=0:=cmpN_eq (by rw[←Hv.out,←Hv'.out];have:=Hd.out;simp at this;rw[this]);have He:=Lh he;clear he;clear hbel;go_wp2;go_ret;exact⟨by rw[He.out];rfl,Hbel.out⟩
     | succ k=>
      have cx:=(hbel.cell (p:=⟨b,o+k,none⟩) hb).trans (Hcx.out k (by omega));have cy:=(hbel.cell (p:=⟨b',o'+k,none⟩) hb').trans (Hcy.out k (by omega));clear hbel;obtain⟨x,hx⟩:∃x,xs.getD k 0=x:=⟨_,rfl⟩;obtain⟨y,hy⟩:∃y,ys.getD k 0=y:=⟨_,rfl⟩;rw[hx]at cx;rw[hy]at cy;have Hx:=Lh hx;have Hy:=Lh hy;clear hx hy;have hx0:=(getD_dig Hwx.out k).1;have hy0:=(getD_dig Hwy.out k).1;have hx9:=(getD_dig Hwx.out k).2;have hy9:=(getD_dig Hwy.out k).2;rw[Hx.out]at hx0 hx9;rw[Hy.out]at hy0 hy9;by_cases h1:x<y
      ·have he:=cmpN_lt (cmpD_step Hwx.out (by have:=Hs.out;omega) (by have:=Hs'.out;omega) Hd.out Hx.out Hy.out h1);rw[Hv.out,Hv'.out]at he;have He:=Lh he;clear he;go_wp2;go_quiet (fail)
       go_wp2;go_ret;exact⟨by rw[He.out];rfl,by repeat (first|exact Hbel.out|refine below_drewN ?_ _)⟩
      ·by_cases h2:y<x
       ·have he:=cmpN_gt (cmpD_step Hwy.out (by have:=Hs'.out;omega) (by have:=Hs.out;omega) Hd.out.symm Hy.out Hx.out h2);rw[Hv.out,Hv'.out]at he;have He:=Lh he;clear he;go_wp2;go_quiet (fail)
        go_wp2;go_quiet (fail)
        go_wp2;go_ret;exact⟨by rw[He.out];rfl,by repeat (first|exact Hbel.out|refine below_drewN ?_ _)⟩
       ·obtain rfl:x=y:=by omega
        have Hnew:=Lh (dropD_same (by have:=Hs.out;omega) (by have:=Hs'.out;omega) Hd.out Hx.out Hy.out);go_wp2;go_quiet (fail)
        go_wp2;go_quiet (fail)
        go_wp2;exact⟨⟨k,by omega,by go_num,Hnew.out,by repeat (first|exact Hbel.out|refine below_drewN ?_ _)⟩,by simp[intOf] <;> omega⟩
theorem refDigits_at(z:Int)(w:JW)(hs:(txt z).size<=5000) :
  Calls Tryz.prog 110 #[.string (txt z)] w fun e w'=>∃A n c,e= .returned (.slice A n c)/\IsDig w' A n c (digN z.natAbs) z.natAbs/\n<=5001/\Below w.heap.size w w':=by
 refine(refDigits_any z w hs).mono ?_;rintro e w' ⟨A,c,rfl,hl,hc,hb⟩;have hlen:(digN z.natAbs).length<=5000:=by
  by_cases h0:z=0
  ·subst h0;rw[show(0:Int).natAbs=0 from rfl,digN_zero];simp
  ·have:=hs;rw[txt_ne h0,strOfNums_size,Mt,Mo,M9]at this;omega
 exact⟨A,_,c,rfl,⟨hl,hc,by omega,dig_digN _,rfl⟩,by omega,hb⟩
theorem sgn_cases(z:Int):(z<0/\sgn z=-1)\/(z=0/\sgn z=0)\/(0<z/\sgn z=1):=by
 unfold sgn;rcases Mk z 0 with h|h|h
 ·exact .inl ⟨h,if_pos h⟩
 ·exact .inr (.inl ⟨h,by rw[if_neg (by omega),if_neg (by omega)]⟩)
 ·exact .inr (.inr ⟨h,by rw[if_neg (by omega),if_pos h]⟩)
