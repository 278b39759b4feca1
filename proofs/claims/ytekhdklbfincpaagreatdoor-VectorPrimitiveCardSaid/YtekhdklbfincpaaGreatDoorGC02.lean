/- GC02: From -/
import Derived.Test.YtekhdklbfincpaaGreatDoorGC01
import Derived.Laws.BytesArg
import Derived.Lib.ItoaNum
set_option maxRecDepth 100000
set_option maxHeartbeats 16000000
namespace Go.Proofs.YtekhdklbfincpaaGreatDoor
open Go.Value renaming int→Ji,ownBlock→M5,int→Mr
open Go.IntKind renaming i64→Jl
open Go renaming World→JW
open _root_.Nat renaming le_refl→M0,strongRecOn→M4
open _root_.List renaming getElem?_take→M1,length_append→M7,append_assoc→M8,getD→Ms
open _root_.Int renaming tmod_eq_emod_of_nonneg→M2
open Go.World renaming ownsRow_nil→M3
open Go.Addr renaming add→M6
open _root_.UInt8 renaming ofNat→M9
open Go.RowKit
def IsL(w:JW)(A:Option Addr)(n c:Nat)(xs:List Value):Prop:=
 xs.length=n/\n<=c/\(0<n->∃b o,A=some ⟨b,o,none⟩/\b<w.heap.size/\∀j u,xs[j]?=some u->w.cell? ⟨b,o+j,none⟩=some u)
theorem IsL.keep{w w':JW}{A:Option Addr}{n c:Nat}{xs:List Value}(h:IsL w A n c xs)(hb:Below w.heap.size w w'):IsL w' A n c xs:=
 ⟨h.1,h.2.1,fun hn=>by
  obtain⟨b,o,e,hl,hc⟩:=h.2.2 hn;exact ⟨b,o,e,Nat.lt_of_lt_of_le hl hb.size,fun j u hu=>(hb.cell (p:=⟨b,o+j,none⟩) hl).trans (hc j u hu)⟩⟩
theorem IsL.cut{w:JW}{A:Option Addr}{n c m:Nat}{xs:List Value}(h:IsL w A n c xs)(hm:m<=n):IsL w A m c (xs.take m):=
 ⟨by rw [List.length_take,h.1]; omega,by have:=h.2.1; omega,fun hn=>by
  obtain⟨b,o,e,hl,hc⟩:=h.2.2 (by omega);refine⟨b,o,e,hl,fun j u hu=>hc j u ?_⟩;rw[M1]at hu
  split at hu
  ·exact hu
  ·cases hu⟩
def ints(l:List Int):List Value:=l.map (Mr Jl)
def JX(l:List Int):Nat->Nat
 | 0=>0
 | k+1=>if l.getD k 0=0 then JX l k else k+1
theorem YE(l:List Int)(k:Nat):JX l k<=k:=by
 induction k with
 | zero=>exact M0 _
 | succ k ih=>unfold JX;split <;> omega
theorem VU{A:Option Addr}{n m c:Nat}(h:n=m):Ending.returned (.slice A n c)= .returned (.slice A m c):=by rw[h]
theorem UP(A:Option Addr)(n c:Nat)(l:List Int)(w:JW)(hl:IsL w A n c (ints l))(hn:n<4294967296)(_hc:c<=9223372036854775807) :
  Calls Tryz.prog 131 #[.slice A n c] w fun e w'=>e= .returned (.slice A (JX l n) c)/\w=w':=by
 have hle:=hl.2.1;rcases Nat.eq_zero_or_pos n with h0|h0
 ·subst h0;go_enter Tryz.func131,Tryz.ntmps131;go_wp2_with fail
  refine wp_loop_rounds 1 ?_;rw[rounds_succ];go_wp2;go_ret;exact⟨rfl,rfl⟩
 ·obtain⟨b,o,rfl,hb,hcell⟩:=hl.2.2 h0;have hlen:=hl.1;simp[ints]at hlen;have Hc:=Lh (show ∀k:Nat,k<n->w.cell? ⟨b,o+k,none⟩=some (Ji Jl (l.getD k 0))from fun k hk=>hcell k _ (by simp[ints,show k<l.length by omega]));clear hcell hl hb;go_enter Tryz.func131,Tryz.ntmps131;go_wp2_with fail
  go_loop [3] (fun v=>∃k:Nat,k<=n/\v=Ji Jl k/\JX l k=JX l n) (fun v=>(intOf v).toNat)
  case atStart=>exact⟨n,M0 _,rfl,rfl⟩
  case round=>
   obtain⟨k,hk,rfl,ht⟩:=hrel;have Ht:=Lh ht;clear ht;cases k with
   | zero=>
    go_wp2;go_ret;exact⟨by rw[←Ht.out];rfl,rfl⟩
   | succ k=>
    have hcell:=Hc.out k (by omega);by_cases hz:l.getD k 0=0
    ·have Hz:=Lh hz;rw[hz]at hcell;clear hz;go_wp2;go_round
     case rel=>exact⟨k,by omega,by go_num,by rw[←Ht.out,JX,if_pos Hz.out]⟩
     case measure=>simp[intOf] <;> omega
    ·have hz':(l.getD k 0 ==0)=false:=by rw[beq_eq_false_iff_ne];exact hz
     have Hz:=Lh hz;obtain⟨x,hx⟩:∃x,l.getD k 0=x:=⟨_,rfl⟩;rw[hx]at hcell hz';clear hz hx;go_wp2;go_ret;exact⟨VU (by rw[←Ht.out,JX,if_neg Hz.out]),rfl⟩
theorem E3:(Tryz.prog.info? 5).map (fun i=>(i.zero,i.size,i.bytes))=some (some (Ji .u8 0),1,1):=by kernel_rfl
theorem UT:(Tryz.prog.info? 3).map (fun i=>(i.zero,i.size,i.bytes))=some (some (Ji Jl 0),1,8):=by kernel_rfl
def outN(neg:Bool)(t:List Int)(j:Nat):List Int:=(if neg then[45] else[]) ++ (t.drop j).reverse.map (48+·)
def Qn(l:List Int):List Value:=l.map (Mr .u8)
theorem Zb(neg:Bool)(t:List Int)(j:Nat)(h:j<t.length):outN neg t j=outN neg t (j+1) ++ [48+t.getD j 0]:=by
 unfold outN;rw[List.drop_eq_getElem_cons h,List.reverse_cons,List.map_append,M8];simp[Ms,h]
theorem WO(neg:Bool)(t:List Int):outN neg t t.length=if neg then[45] else[]:=by
 unfold outN;simp
theorem Gc(neg:Bool)(t:List Int)(j:Nat):(outN neg t j).length<=t.length+1:=by
 unfold outN;cases neg <;> simp <;> omega
def JR(neg:Bool)(l:List Int):ByteArray:=
 if JX l l.length=0 then⟨#[48]⟩ else strOfNums (outN neg (l.take (JX l l.length)) 0)
def Z5(B:Nat)(w0:JW)(neg:Bool)(t:List Int)(v i:Value)(wr:JW):Prop:=
 ∃j:Nat,j<=t.length/\i=Ji Jl ((j:Int)-1)/\wr.ownsRow B 5 1 v (outN neg t j).length (Qn (outN neg t j))/\Below w0.heap.size w0 wr
theorem UL{w:JW}{base:Nat}{e:TypeId}{size n:Nat}{v:Value}{xs:List Value}(h:w.ownsRow base e size v n xs){k:Nat}(hk:v.ownBlock=some k):base<=k:=by
 rcases h.2 with⟨rfl,_⟩|⟨g,cap,cur,rfl,hg,_⟩
 ·simp[M5]at hk
 ·simp[M5]at hk;omega
theorem O1{w0 wr w1:JW}{neg:Bool}{t:List Int}{j:Nat}{u v':Value}{x:Int}(hj:j+1<=t.length)(hstep:outN neg t j=outN neg t (j+1) ++ [48+x])
  (hown:wr.ownsRow w0.heap.size 5 1 u (outN neg t (j+1)).length (Qn (outN neg t (j+1))))
  (hown':w1.ownsRow w0.heap.size 5 1 v' ((outN neg t (j+1)).length+1) (Qn (outN neg t (j+1)) ++ [Ji .u8 (48+x)]))
  (hgrow:(wr.alloc (.cells #[Ji .u8 (48+x)] 5)).grownBy w1 u.ownBlock) (hbel:Below w0.heap.size w0 wr):Z5 w0.heap.size w0 neg t v' (Ji Jl ((j:Int)-1)) w1:=by
 refine⟨j,by omega,rfl,?_,(hbel.alloc hbel.size _).grown hgrow (by simp;have:=hbel.size;omega) (fun k hk=>UL hown hk)⟩;rw[hstep];simpa[Qn]using hown'
theorem GZ{w:JW}{base:Nat}{v:Value}{l:List Int}(h:w.ownsRow base 5 1 v l.length (Qn l))(hl:0<l.length) :
  ∀dst,Tryz.prog.underlying dst=some .string->(convert 155 dst v).run Tryz.prog w= .ok (.string (strOfNums l)) w:=by
 rcases h.2 with⟨_,h0⟩|⟨g,cap,cur,rfl,hg,hh,hnc,hcm,hcs,hx⟩
 ·omega
 ·refine run_convert_bytes_arg w 155 5 Tryz.underlying155 Tryz.underlying5 g 0 _ _ l rfl (fun i hi=>?_);rw[cell_of_row w g (0+i) cur 5 (0,0) hh];have e:cur.toList[i]?=(Qn l)[i]?:=by rw[←hx,M1,if_pos (by omega)]
  simp[Qn,hi]at e ⊢;simpa using e
theorem Fm(neg:Bool)(A:Option Addr)(n c:Nat)(l:List Int)(w:JW)(hl:IsL w A n c (ints l))(hn:n<4294967296)(hc:c<=9223372036854775807)(h0:JX l l.length=0) :
  Calls Tryz.prog 102 #[.bool neg,.slice A n c] w fun e w'=>e= .returned (.string (JR neg l))/\Below w.heap.size w w':=by
 have e:JR neg l=⟨#[48]⟩:=by unfold JR;rw[if_pos h0]
 have hlen:l.length=n:=by have:=hl.1;simpa[ints]using this
 rw[e];clear e;rw[hlen]at h0;have Ht:=Lh (UP A n c l w hl hn hc);rw[h0]at Ht;clear hl h0 hlen;go_enter Tryz.func102,Tryz.ntmps102;go_wp2_with fail
 refine Ht.out.mono ?_;rintro e w' ⟨rfl,rfl⟩;go_wp2;go_ret;exact⟨rfl,Below.refl _ _⟩
theorem Fo(neg:Bool)(A:Option Addr)(n c:Nat)(l:List Int)(w:JW)(hl:IsL w A n c (ints l))(hn:n<4294967296)(hc:c<=9223372036854775807)(h0:JX l l.length≠0)(hd:∀x∈l,0<=x/\x<=9) :
  Calls Tryz.prog 102 #[.bool neg,.slice A n c] w fun e w'=>e= .returned (.string (JR neg l))/\Below w.heap.size w w':=by
 have hlen:l.length=n:=by have:=hl.1;simpa[ints]using this
 have ht:=UP A n c l w hl hn hc;have hle:=YE l n;have e:JR neg l=strOfNums (outN neg (l.take (JX l n)) 0):=by unfold JR;rw[hlen,if_neg (by rw[←hlen];exact h0)]
 rw[hlen]at h0;obtain⟨m,hm⟩:∃m,JX l n=m:=⟨_,rfl⟩;rw[hm]at ht hle h0 e;have hcut:=hl.cut hle;obtain⟨t,htt⟩:∃t,l.take m=t:=⟨_,rfl⟩;rw[htt]at e;have hint:(ints l).take m=ints t:=by rw[←htt];unfold ints;rw[List.map_take]
 rw[hint]at hcut;have hdt:∀x∈t,0<=x/\x<=9:=fun x hx=>hd x (by rw[←htt]at hx;exact List.mem_of_mem_take hx);obtain⟨b,o,rfl,hb,hcell⟩:=hcut.2.2 (by omega);have htl:t.length=m:=by have:=hcut.1;simpa[ints]using this
 have Hc:=Lh (show ∀k:Nat,k<m->w.cell? ⟨b,o+k,none⟩=some (Ji Jl (t.getD k 0))from fun k hk=>hcell k _ (by simp[ints,show k<t.length by omega]));have Hd:=Lh (show ∀k:Nat,k<m->0<=t.getD k 0/\t.getD k 0<=9 from fun k hk=>hdt _ (by simp[show k<t.length by omega]));rw[e];have Ht:=Lh ht;have Hl:=Lh htl;have Hb:=Lh hb;have t0:((m:Int) ==0)=false:=by rw[beq_eq_false_iff_ne];omega
 have hcm:m<=c:=by have:=hl.2.1;omega
 have hm1:1<=m:=by omega
 clear ht hl hcut hcell hint e hm htt hdt hd htl hlen h0 hb;obtain⟨i0,hi,hz0,hz1,hz2⟩:=info_parts E3;go_enter Tryz.func102,Tryz.ntmps102;go_wp2_with fail
 refine Ht.out.mono ?_;rintro e w' ⟨rfl,rfl⟩;cases neg with
 | false=>
  go_wp2_with fail
  go_loopw [5,6] (fun v i wr=>Z5 w.heap.size w false t v i wr) (fun _ i _=>(intOf i+1).toNat)
  case atStart => 
   refine⟨m,by rw[Hl.out];exact M0 _,rfl,?_,Below.refl _ _⟩;have:=WO false t;rw[Hl.out]at this;rw[this];exact M3 _ _ _ _
  case round=>
   obtain⟨j,hj,rfl,hown,hbel⟩:=hrel;have hjm:j<=m:=by have:=Hl.out;omega
   cases j with
   | zero=>
    have Hown:=Lh hown;have Hbel:=Lh hbel;have hml:=Hl.out;have hconv:=GZ hown (by unfold outN;simp <;> omega) 9 Tryz.underlying9;clear hown hbel hj hml;go_wp2;go_ret;exact⟨rfl,Hbel.out⟩
   | succ j=>
    have hcj:=(hbel.cell (p:=⟨b,o+j,none⟩) Hb.out).trans (Hc.out j (by omega));obtain⟨hd0,hd9⟩:=Hd.out j (by omega);obtain⟨x,hx⟩:∃x,t.getD j 0=x:=⟨_,rfl⟩;have hstep:=Zb false t j (by have:=Hl.out;omega);rw[hx]at hcj hd0 hd9 hstep;have Hstep:=Lh hstep;have hlen:=Gc false t (j+1);have hml:=Hl.out;have hlen':(outN false t (j+1)).length<=4294967297:=by omega
    have Hown:=Lh hown;have Hbel:=Lh hbel;have hsz:=hbel.size;clear hx hstep hlen hml hown hbel hj;go_wp2_with (at_builtin;refine wpList_append_own _ rfl _ _ 155 rfl w.heap.size 5 i0 (Ji .u8 0) 1 1 Tryz.underlying155 hi hz0 hz1 hz2 rfl (by decide) _ _ _ rfl (Hown.out.alloc _) ⟨wr.heap.size,0,none⟩ 1 1 [Ji .u8 (48+x)] rfl rfl ?c1 ?c2 ?c3 ?c4 ?c5 ?_)
    case c1=>
     intro k u hu
     match k,hu with
     | 0,hu=>simp at hu;subst hu;simp[M6]
    case c2=>intro u hu;simp at hu;subst hu;rfl
    case c3=>unfold maxLen;omega
    case c4=>omega
    case c5=>simp;omega
    intro v' w1 hown' hgrow _;have hfin:=O1 (by have:=Hl.out;omega) Hstep.out Hown.out hown' hgrow Hbel.out;have Hfin:=Lh hfin;clear hfin hown' hgrow;go_wp2;go_roundw;case rel=>exact Hfin.out
    case measure=>simp[intOf] <;> omega
 | true=>
  go_wp2_with (at_builtin;refine wpList_append_own _ rfl (.tmp 13) (.tmp 14) 155 rfl w.heap.size 5 i0 (Ji .u8 0) 1 1 Tryz.underlying155 hi hz0 hz1 hz2 rfl (by decide) (.slice none 0 0) 0 [] rfl (M3 _ _ _ _) ⟨w.heap.size,0,none⟩ 1 1 [Ji .u8 45] rfl rfl (fun k u hu=>by match k,hu with|0,hu=>simp at hu;subst hu;simp[M6]) (fun u hu=>by simp at hu;subst hu;rfl) (by unfold maxLen;omega) (by omega) (by simp) ?_)
  intro v0 w0 hown0 hgrow0 _;have hb0:Below w.heap.size w w0:=((Below.refl _ _).alloc (M0 _) _).grown hgrow0 (by simp) (fun k hk=>by simp[M5]at hk);have Hb0:=Lh hb0;have Hown0:=Lh hown0;clear hb0 hown0 hgrow0;go_wp2_with fail
  go_loopw [5,6] (fun v i wr=>Z5 w.heap.size w true t v i wr) (fun _ i _=>(intOf i+1).toNat)
  case atStart => 
   refine⟨m,by rw[Hl.out];exact M0 _,rfl,?_,Hb0.out⟩;have:=WO true t;rw[Hl.out]at this;rw[this];exact Hown0.out
  case round=>
   obtain⟨j,hj,rfl,hown,hbel⟩:=hrel;have hjm:j<=m:=by have:=Hl.out;omega
   cases j with
   | zero=>
    have Hown:=Lh hown;have Hbel:=Lh hbel;have hml:=Hl.out;have hconv:=GZ hown (by unfold outN;simp <;> omega) 9 Tryz.underlying9;clear hown hbel hj hml;go_wp2;go_ret;exact⟨rfl,Hbel.out⟩
   | succ j=>
    have hcj:=(hbel.cell (p:=⟨b,o+j,none⟩) Hb.out).trans (Hc.out j (by omega));obtain⟨hd0,hd9⟩:=Hd.out j (by omega);obtain⟨x,hx⟩:∃x,t.getD j 0=x:=⟨_,rfl⟩;have hstep:=Zb true t j (by have:=Hl.out;omega);rw[hx]at hcj hd0 hd9 hstep;have Hstep:=Lh hstep;have hlen:=Gc true t (j+1);have hml:=Hl.out;have hlen':(outN true t (j+1)).length<=4294967297:=by omega
    have Hown:=Lh hown;have Hbel:=Lh hbel;have hsz:=hbel.size;clear hx hstep hlen hml hown hbel hj;go_wp2_with (at_builtin;refine wpList_append_own _ rfl _ _ 155 rfl w.heap.size 5 i0 (Ji .u8 0) 1 1 Tryz.underlying155 hi hz0 hz1 hz2 rfl (by decide) _ _ _ rfl (Hown.out.alloc _) ⟨wr.heap.size,0,none⟩ 1 1 [Ji .u8 (48+x)] rfl rfl ?c1 ?c2 ?c3 ?c4 ?c5 ?_)
    case c1=>
     intro k u hu
     match k,hu with
     | 0,hu=>simp at hu;subst hu;simp[M6]
    case c2=>intro u hu;simp at hu;subst hu;rfl
    case c3=>unfold maxLen;omega
    case c4=>omega
    case c5=>simp;omega
    intro v' w1 hown' hgrow _;have hfin:=O1 (by have:=Hl.out;omega) Hstep.out Hown.out hown' hgrow Hbel.out;have Hfin:=Lh hfin;clear hfin hown' hgrow;go_wp2;go_roundw;case rel=>exact Hfin.out
    case measure=>simp[intOf] <;> omega
theorem JB(neg:Bool)(A:Option Addr)(n c:Nat)(l:List Int)(w:JW)(hl:IsL w A n c (ints l))(hn:n<4294967296)(hc:c<=9223372036854775807)(hd:∀x∈l,0<=x/\x<=9) :
  Calls Tryz.prog 102 #[.bool neg,.slice A n c] w fun e w'=>e= .returned (.string (JR neg l))/\Below w.heap.size w w':=by
 by_cases h:JX l l.length=0
 ·exact Fm neg A n c l w hl hn hc h
 ·exact Fo neg A n c l w hl hn hc h hd
def digN(u:Nat):List Int:=if u=0 then[] else((u%10:Nat):Int) :: digN (u/10)
termination_by u
decreasing_by omega
theorem JL:digN 0=[]:=by rw[digN,if_pos rfl]
theorem Qq{u:Nat}(h:u≠0):digN u=((u%10:Nat):Int) :: digN (u/10):=by rw[digN,if_neg h]
theorem UW:∀(k u:Nat),u<10^k->(digN u).length<=k
 | 0,u,h=>by
  have:u=0:=by simpa using h
  subst this;rw[JL];exact M0 _
 | k+1,u,h=>by
  by_cases h0:u=0
  ·subst h0;rw[JL];exact Nat.zero_le _
  ·rw[Qq h0];have:=UW k (u/10) (by rw[Nat.pow_succ]at h;omega);simpa using this
theorem Kr(u:Nat):∀x∈digN u,0<=x/\x<=9:=by
 induction u using M4 with
 | _ u ih=>
  intro x hx;by_cases h0:u=0
  ·subst h0;rw[JL]at hx;cases hx
  ·rw[Qq h0]at hx;rcases List.mem_cons.1 hx with rfl|hx
   ·omega
   ·exact ih (u/10) (by omega) x hx
theorem Xj(l:List Int)(h:l.getLast?≠some 0):JX l l.length=l.length:=by
 rcases List.eq_nil_or_concat l with rfl|⟨l',x,rfl⟩
 ·rfl
 ·rw[List.concat_eq_append]at h ⊢;have hx:x≠0:=by intro e;apply h;simp[e]
  rw[M7];show JX _ (l'.length+1)=_;unfold JX;rw[if_neg (by simpa[Ms]using hx)];rfl
theorem XM(u:Nat):(digN u).getLast?≠some 0:=by
 induction u using M4 with
 | _ u ih=>
  by_cases h0:u=0
  ·subst h0;rw[JL];simp
  ·rw[Qq h0];by_cases h1:u/10=0
   ·rw[h1,JL];simp;omega
   ·have hne:digN (u/10)≠[]:=by rw[Qq h1];simp
    rw[List.getLast?_cons_of_ne_nil hne];exact ih (u/10) (by omega)
theorem Ot(u:Nat):M9 (48+((u:Int))).toNat=M9 (48+u):=by
 congr 1
theorem Xq(u:Nat)(h:u≠0):Lib.decDigits u=(digN u).reverse.map fun d=>M9 (48+d).toNat:=by
 induction u using M4 with
 | _ u ih=>
  rw[Qq h,Lib.decDigits];by_cases h1:u<10
  ·rw[dif_pos h1,show u/10=0 by omega,JL,show u%10=u by omega];rw[List.reverse_singleton,List.map_singleton,Ot]
  ·rw[dif_neg h1,ih (u/10) (by omega) (by omega),List.reverse_cons,List.map_append,List.map_singleton,Ot]
theorem Wl(n:Int):JR (decide (n<0)) (digN n.natAbs)=⟨(Lib.itoa n).toArray⟩:=by
 unfold JR;rw[Xj _ (XM _)];by_cases h0:n=0
 ·subst h0;rw[show(0:Int).natAbs=0 from rfl,JL];simp[Lib.itoa,Lib.decDigits]
 ·have hne:n.natAbs≠0:=by omega
  have hl:(digN n.natAbs).length≠0:=by rw[Qq hne];simp
  rw[if_neg hl,List.take_length];unfold strOfNums outN Lib.itoa;by_cases hn:n<0
  ·rw[if_pos hn,Xq _ hne];simp[hn]
  ·rw[if_neg hn,show n.toNat=n.natAbs by omega,Xq _ hne];simp[hn]
def Fe(w0:JW)(n:Int)(d v:Value)(wr:JW):Prop:=
 ∃(m:Int) (l:List Int),v=Ji Jl m/\I64 m/\l ++ digN m.natAbs=digN n.natAbs/\wr.ownsRow w0.heap.size 3 1 d l.length (ints l)/\Below w0.heap.size w0 wr
theorem DO(m:Int):m.tmod 10=if m<0 then -((-m)%10) else m%10:=by
 by_cases h:m<0
 ·rw[if_pos h];have e:m.tmod 10=-((-m).tmod 10):=by rw[Int.neg_tmod,Int.neg_neg]
  rw[e,M2 (by omega)]
 ·rw[if_neg h,M2 (by omega)]
theorem DU(m:Int):m.tdiv 10=if m<0 then -((-m)/10) else m/10:=by
 by_cases h:m<0
 ·rw[if_pos h];have e:m.tdiv 10=-((-m).tdiv 10):=by rw[Int.neg_tdiv,Int.neg_neg]
  rw[e,Int.tdiv_eq_ediv_of_nonneg (by omega)]
 ·rw[if_neg h,Int.tdiv_eq_ediv_of_nonneg (by omega)]
theorem Wj(m:Int):((m.tmod 10).natAbs:Int)=((m.natAbs%10:Nat):Int):=by rw[DO];split <;> omega
theorem L5(m:Int):-9<=m.tmod 10/\m.tmod 10<=9:=by rw[DO];split <;> omega
theorem GH(m:Int):(m.tdiv 10).natAbs=m.natAbs/10:=by rw[DU];split <;> omega
theorem L7{m:Int}(h:I64 m):I64 (m.tdiv 10):=by
 have h0:=h.1;have h1:=h.2;constructor <;> rw[DU] <;> split <;> omega
theorem Ze{w0 wr w1:JW}{n m x:Int}{l:List Int}{u v':Value}(hm:I64 m)(h0:m≠0)(hx:x=((m.natAbs%10:Nat):Int))(hl:l ++ digN m.natAbs=digN n.natAbs)
  (hown:wr.ownsRow w0.heap.size 3 1 u l.length (ints l)) (hown':w1.ownsRow w0.heap.size 3 1 v' (l.length+1) (ints l ++ [Ji Jl x]))
  (hgrow:(wr.alloc (.cells #[Ji Jl x] 3)).grownBy w1 u.ownBlock) (hbel:Below w0.heap.size w0 wr):Fe w0 n v' (Ji Jl (m.tdiv 10)) w1:=by
 refine⟨m.tdiv 10,l ++ [x],rfl,L7 hm,?_,by simpa[ints]using hown',(hbel.alloc hbel.size _).grown hgrow (by simp;have:=hbel.size;omega) (fun k hk=>UL hown hk)⟩;rw[GH,M8,←hl,Qq (show m.natAbs≠0 by omega),hx];rfl
theorem Yn{w:JW}{base:Nat}{e:TypeId}{v:Value}{n:Nat}{xs:List Value}(h:w.ownsRow base e 1 v n xs):∃A c,v= .slice A n c/\IsL w A n c xs/\c<=9223372036854775807:=by
 have hl:xs.length=n:=by simpa using h.1
 rcases h.2 with⟨rfl,rfl⟩|⟨g,cap,cur,rfl,hg,hh,hnc,hcm,hcs,hx⟩
 ·exact⟨none,0,rfl,⟨hl,M0 _,fun h=>by omega⟩,by omega⟩
 ·refine⟨_,cap,rfl,⟨hl,hnc,fun _=>⟨g,0,rfl,?_,fun j u hu=>?_⟩⟩,?_⟩
  ·rcases Nat.lt_or_ge g w.heap.size with h|h
   ·exact h
   ·rw[Array.getElem?_eq_none h]at hh;cases hh
  ·rw[cell_of_row w g (0+j) cur e (0,0) hh];rw[←hx,M1]at hu
   split at hu
   ·simpa using hu
   ·cases hu
  ·unfold maxLen at hcm;omega
theorem UA(n:Int)(w:JW)(hn:I64 n) :
  Calls Tryz.prog 64 #[Ji Jl n] w fun e w'=>e= .returned (.string (JR (decide (n<0)) (digN n.natAbs)))/\Below w.heap.size w w':=by
 obtain⟨i0,hi,hz0,hz1,hz2⟩:=info_parts UT;have hn0:=hn.1;have hn1:=hn.2;have Hn:=Lh hn;clear hn;go_enter Tryz.func64,Tryz.ntmps64;go_wp2_with fail
 go_loopw [3,4] (fun d v wr=>Fe w n d v wr) (fun _ v _=>(intOf v).natAbs)
 case atStart=>exact⟨n,[],rfl,Hn.out,rfl,M3 _ _ _ _,Below.refl _ _⟩
 case round=>
  obtain⟨m,l,rfl,hm,hl,hown,hbel⟩:=hrel;have hm0:=hm.1;have hm1:=hm.2;have hsz:=hbel.size;have hlen:l.length<=20:=by
   have h1:=UW 20 n.natAbs (by omega);rw[←hl,M7]at h1;omega
  have Hl:=Lh hl;have Hown:=Lh hown;have Hbel:=Lh hbel;have Hm:=Lh hm;clear hl hown hbel hm;by_cases h0:m=0
  ·subst h0;have hll:l=digN n.natAbs:=by have:=Hl.out;rw[show(0:Int).natAbs=0 from rfl,JL,List.append_nil]at this;exact this
   subst hll;obtain⟨A,c,rfl,hisl,hc⟩:=Yn Hown.out;have Hi:=Lh hisl;clear hisl;go_wp2_with fail
   refine(JB _ A _ c _ _ Hi.out (by omega) hc (Kr _)).mono ?_;rintro e w2⟨rfl,hb2⟩;have hfin:=Hbel.out.trans (hb2.mono hsz);have Hfin:=Lh hfin;clear hfin hb2;go_wp2;go_ret;exact⟨rfl,Hfin.out⟩
  ·have t0:(m ==0)=false:=by rw[beq_eq_false_iff_ne];exact h0
   obtain⟨hb1,hb2⟩:=L5 m;by_cases hs:m.tmod 10<0
   ·go_wp2_with (at_builtin;refine wpList_append_own _ rfl _ _ 126 rfl w.heap.size 3 i0 (Ji Jl 0) 1 8 Tryz.underlying126 hi hz0 hz1 hz2 rfl (by decide) _ _ _ rfl (Hown.out.alloc _) ⟨wr.heap.size,0,none⟩ 1 1 [Ji Jl (-m.tmod 10)] rfl rfl (fun k u hu=>by match k,hu with|0,hu=>simp at hu;subst hu;simp[M6]) (fun u hu=>by simp at hu;subst hu;rfl) (by unfold maxLen;omega) (by omega) (by simp;omega) ?_)
    intro v' w1 hown' hgrow _;have hfin:=Ze Hm.out h0 (by have:=Wj m;omega) Hl.out Hown.out hown' hgrow Hbel.out;have Hfin:=Lh hfin;clear hfin hown' hgrow;go_wp2;go_roundw;case rel=>exact Hfin.out
    case measure=>simp only[intOf];rw[GH];omega
   ·go_wp2_with (at_builtin;refine wpList_append_own _ rfl _ _ 126 rfl w.heap.size 3 i0 (Ji Jl 0) 1 8 Tryz.underlying126 hi hz0 hz1 hz2 rfl (by decide) _ _ _ rfl (Hown.out.alloc _) ⟨wr.heap.size,0,none⟩ 1 1 [Ji Jl (m.tmod 10)] rfl rfl (fun k u hu=>by match k,hu with|0,hu=>simp at hu;subst hu;simp[M6]) (fun u hu=>by simp at hu;subst hu;rfl) (by unfold maxLen;omega) (by omega) (by simp;omega) ?_)
    intro v' w1 hown' hgrow _;have hfin:=Ze Hm.out h0 (by have:=Wj m;omega) Hl.out Hown.out hown' hgrow Hbel.out;have Hfin:=Lh hfin;clear hfin hown' hgrow;go_wp2;go_roundw;case rel=>exact Hfin.out
    case measure=>simp only[intOf];rw[GH];omega
