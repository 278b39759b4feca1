/- C04: Write Back -/
import Derived.Test.YthhobhjcnmmipaaGreatDoorC01
import Derived.WalkSpells
import Derived.Test.YthhobhjcnmmipaaGreatDoorC03
import Derived.Test.YthhobhjcnmmipaaGreatDoorC02
set_option maxRecDepth 100000
set_option maxHeartbeats 16000000
namespace Go.Proofs.YthhobhjcnmmipaaGreatDoor
open Go.Value renaming int→Ji,ownBlock→F0
open Go.IntKind renaming u64→Ju
open _root_.Option renaming none→Jn,some→Jo
open Go renaming World→JW
open _root_.Nat renaming le_refl→E4,eq_zero_or_pos→E6,zero_add→Fc,mul_comm→Fg,add_assoc→Fj,mul_assoc→Fk,mul_zero→Fl,add_comm→Fm,pow_succ→Fo,zero_le→Fp
open _root_.List renaming take_succ_eq_append_getElem→E5,eq_nil_of_length_eq_zero→E7,reverse_reverse→E8,take_length→E9,getD→EY,length_reverse→EZ,getD_eq_getElem?_getD→Fa,append_assoc→Fb,length_set→Fe,getElem?_take→Ff,nil_append→Fh,drop_zero→Fi
open Go.RowKit
theorem QT:(Tryz.prog.info? 154).map (fun i=>(i.zero,i.size,i.bytes))=Jo (Jo (Ji Ju 0),1,8):=by kernel_rfl
def Wi(n:Nat)(xs:List Nat)(w:JW)(e:Ending)(w':JW):Prop:=
 ∃g c,e= .returned (.slice (Jo ⟨g,0,Jn⟩) n c)/\n<=c/\c<=9223372036854775807/\w.heap.size<=g/\Blk w' g xs/\Below w.heap.size w w'
theorem Yt(A:Option Addr)(n c:Nat)(xs:List Nat)(w:JW)(hl:IsL w A n c (u64s xs))(h0:0<n)(hn:n<4294967296) :
  Calls Tryz.prog 141 #[.slice A n c] w (Wi n xs w):=by
 obtain⟨i0,hi,hz0,hz1,hz2⟩:=info_parts QT;obtain⟨b,o,rfl,hb,hcell⟩:=hl.2.2 h0;have hlen:=hl.1;have Hc:=Lh hcell;clear hcell hl;have hnil:=fun W:JW=>Lib.run_eql_slice_nil (P:=Tryz.prog) W 159 154 (Jo ⟨b,o,Jn⟩) n c 0 0 Tryz.underlying159;go_enter Tryz.func141,Tryz.ntmps141;go_wp2_with (at_builtin;refine wpList_append_own _ rfl _ _ 159 rfl w.heap.size 154 i0 (Ji Ju 0) 1 8 Tryz.underlying159 hi hz0 hz1 hz2 rfl (by decide) _ 0 [] rfl ?c0 ⟨b,o,Jn⟩ n c (u64s xs) rfl ?c6 ?c1 ?c2 ?c3 ?c4 ?c5 ?_)
 case c0=>exact⟨by simp,.inr ⟨w.heap.size,0,#[],rfl,E4 _,heap_alloc_new w _,E4 _,Fp _,by simp,by simp⟩⟩
 case c6=>rw[hlen,Nat.mul_one]
 case c1=>
  intro j u hu;have e:(⟨b,o,Jn⟩:Addr).add j=⟨b,o+j,Jn⟩:=by unfold Addr.add;split <;> simp_all
  rw[e,World.cell?_alloc_lt _ _ _ (by exact hb)];exact Hc.out j u hu
 case c2=>
  intro u hu;obtain⟨d,_,rfl⟩:=List.mem_map.1 hu;rfl
 case c3=>unfold maxLen;omega
 case c4=>omega
 case c5=>simp
 intro v' w1 hown' hgrow _;try simp only[Fc,Fh]at hown'
 obtain⟨g,c',rfl,hnc,hcm,hg,hblk⟩:=Blk.of_own hown' h0;have hbel:Below w.heap.size w w1:=((Below.refl _ _).alloc (E4 _) _).grown hgrow (by simp) (fun k hk=>by simp[F0]at hk;omega);have Hblk:=Lh hblk;have Hbel:=Lh hbel;unfold maxLen at hcm;clear hblk hbel hown' hgrow hnil;go_wp2;go_ret;exact⟨g,c',rfl,hnc,hcm,hg,Hblk.out,Hbel.out⟩
def QW(w:JW)(g:Nat)(bs:List Int):Prop:=∃cur:Array Value,w.heap[g]?=Jo (.cells cur 5 (0,0))/\cur.toList.take bs.length=Qx bs
theorem QW.cell{w:JW}{g:Nat}{xs:List Int}(h:QW w g xs){i:Nat}(hi:i<xs.length):w.cell? ⟨g,i,Jn⟩=Jo (Ji .u8 (xs.getD i 0)):=by
 obtain⟨cur,h,hc⟩:=h;rw[cell_of_row w g i cur 5 (0,0) h];have e:cur.toList[i]?=(Qx xs)[i]?:=by rw[←hc,Ff,if_pos hi]
 rw[←Array.getElem?_toList,e];simp[Qx,hi]
theorem QW.frozen{w:JW}{g:Nat}{xs:List Int}(h:QW w g xs)(i:Nat):w.frozen? ⟨g,i,Jn⟩=false:=by
 obtain⟨cur,h,_⟩:=h;simp[World.frozen?,h]
theorem QW.set_{w:JW}{g:Nat}{xs:List Int}(h:QW w g xs)(i:Nat)(d:Int):QW (w.setCell ⟨g,i,Jn⟩ (Ji .u8 d)) g (xs.set i d):=by
 obtain⟨cur,h,hc⟩:=h;refine⟨cur.setIfInBounds i (Ji .u8 d),by simp[World.setCell,Array.getElem?_modify,h],?_⟩;rw[Array.toList_setIfInBounds,Fe,List.take_set,hc];simp[Qx,List.map_set]
theorem QW.drew{w:JW}{g:Nat}{xs:List Int}(h:QW w g xs):QW w.drew g xs:=h
theorem WE{l m:List Int}{i q n:Nat}{x y:Int}(hm:m.length=n)(hin:i<n)(hqn:q<n)(hiq:i<q)(hij:i+(q+1)=n)(hx:m.getD i 0=x)(hy:m.getD q 0=y)
  (hval:∀k,k<n->m.getD k 0=if i<=k/\k<q+1 then l.getD k 0 else l.getD (n-1-k) 0):∀k,k<n->((m.set i y).set q x).getD k 0=if i+1<=k/\k<q then l.getD k 0 else l.getD (n-1-k) 0:=by
 intro k hk;have hvi:=hval i hin;have hvq:=hval q hqn;rw[if_pos (by omega),hx]at hvi;rw[if_pos (by omega),hy]at hvq;by_cases h1:k=q
 ·subst h1;rw[if_neg (by omega),show n-1-k=i by omega,←hvi];simp[EY,hm,hk]
 ·by_cases h2:k=i
  ·subst h2;rw[if_neg (by omega),show n-1-k=q by omega,←hvq];simp[EY,hm,hk,Ne.symm h1]
  ·have e:((m.set i y).set q x).getD k 0=m.getD k 0:=by simp[EY,Ne.symm h1,Ne.symm h2]
   rw[e,hval k hk];by_cases h3:i<=k/\k<q+1
   ·rw[if_pos h3,if_pos (by omega)]
   ·rw[if_neg h3,if_neg (by omega)]
theorem GW(g n c:Nat)(l:List Int)(w:JW)(hb:QW w g l)(hn:l.length=n)(h1:n<4294967296) :
  Calls Tryz.prog 155 #[.slice (Jo ⟨g,0,Jn⟩) n c] w fun e w'=>e= .returned (.tuple #[])/\QW w' g l.reverse/\Only g w w':=by
 have Hb:=Lh hb;have Hn:=Lh hn;clear hb hn;go_enter Tryz.func155,Tryz.ntmps155;go_wp2_with fail
 go_loopw [2,3] (fun vi vj wr=>∃i j:Nat,vi=Ji .i64 (i:Nat)/\vj=Ji .i64 ((j:Int)-1)/\i+j=n/\i<=j+1/\(∃m,m.length=n/\QW wr g m/\(∀k,k<n->m.getD k 0=if i<=k/\k<j then l.getD k 0 else l.getD (n-1-k) 0))/\Only g w wr) (fun vi vj _=>(intOf vj-intOf vi+2).toNat)
 case atStart=>exact⟨0,n,rfl,rfl,by omega,by omega,⟨l,Hn.out,Hb.out,fun k hk=>by rw[if_pos ⟨Fp _,hk⟩]⟩,Only.refl _ _⟩
 case round=>
  obtain⟨i,j,rfl,rfl,hij,hle,⟨m,hm,hbm,hval⟩,honly⟩:=hrel;have Hval:=Lh hval;have Honly:=Lh honly;have Hbm:=Lh hbm;have Hm:=Lh hm;have Hij:=Lh hij;by_cases hlt:i+1<j
  ·have ci:=hbm.cell (i:=i) (by omega);have cj:=hbm.cell (i:=j-1) (by omega);have fi:=hbm.frozen i;have fj:=hbm.frozen (j-1);clear hval honly hbm hm hij;obtain⟨q,rfl⟩:∃q,j=q+1:=⟨j-1,by omega⟩;rw[show q+1-1=q from rfl]at cj fj;have hin:i<n:=by have:=Hij.out;omega
   have hqn:q<n:=by have:=Hij.out;omega
   have hiq:i<q:=by omega
   have hne:i≠q:=by omega
   obtain⟨x,hx⟩:∃x,m.getD i 0=x:=⟨_,rfl⟩;obtain⟨y,hy⟩:∃y,m.getD q 0=y:=⟨_,rfl⟩;rw[hx]at ci;rw[hy]at cj;have Hx:=Lh hx;have Hy:=Lh hy;clear hx hy;go_wp2_with fail
   go_region
   all_goals
    have Hf1:=Lh (((Hbm.out.drew).set_ i y).set_ q x);go_wp2_with fail
    exact⟨⟨i+1,q,by go_num,rfl,by have:=Hij.out;omega,by omega,⟨(m.set i y).set q x,by rw[Fe,Fe];exact Hm.out,Hf1.out,WE Hm.out hin hqn hiq Hij.out Hx.out Hy.out Hval.out⟩,(((Honly.out.drewN 1).set_ i _).set_ q _)⟩,by simp[intOf] <;> omega⟩
  ·have hfin:m=l.reverse:=by
    apply List.ext_getElem
    ·rw[EZ,Hm.out,Hn.out]
    ·intro k h1 h2;have hk:k<n:=by have:=Hm.out;omega
     have:=Hval.out k hk;rw[List.getElem_reverse];have e:(if i<=k/\k<j then l.getD k 0 else l.getD (n-1-k) 0)=l.getD (n-1-k) 0:=by
      split
      ·congr 1;have:=Hij.out;omega
      ·rfl
     rw[e]at this;have hl:=Hn.out;simp[EY,h1,show n-1-k<l.length by omega]at this;simp[this,hl]
   have Hfin:=Lh (show QW wr g l.reverse by rw[←hfin];exact hbm);clear hval honly hbm hm hij hfin;go_wp2;go_end0
   exact⟨rfl,Hfin.out,Honly.out⟩
theorem VL(hi lo y:Nat)(w:JW)(hl:lo<18446744073709551616)(hy:y<18446744073709551616)(h1:hi<y)(q r:Nat)(hq:(18446744073709551616*hi+lo)/y=q)(hr:(18446744073709551616*hi+lo)%y=r) :
  Calls Tryz.prog 167 #[Ji Ju (hi:Nat),Ji Ju (lo:Nat),Ji Ju (y:Nat)] w fun e w'=>e= .returned (.tuple #[Ji Ju (q:Int),Ji Ju (r:Int)])/\∃n,w'=w.drewN n:=by
 rw[←hq,←hr];by_cases h0:hi=0
 ·subst h0;rw[Fl,Fc];exact On lo y w hl hy (by omega)
 ·exact(O0 hi lo y w hl hy (by omega) h1).mono fun e w' ⟨a,b⟩=>⟨a,0,b.symm⟩
def Qi(l:List Nat):Nat->Nat
 | 0=>0
 | k+1=>if l.getD k 0=0 then Qi l k else k+1
theorem YJ(l:List Nat)(k:Nat):Qi l k<=k:=by
 induction k with
 | zero=>exact E4 _
 | succ k ih=>unfold Qi;split <;> omega
theorem JT(A:Option Addr)(n c:Nat)(l:List Nat)(w:JW)(hl:IsL w A n c (u64s l))(hn:n<4294967296)(_hc:c<=9223372036854775807) :
  Calls Tryz.prog 144 #[.slice A n c] w fun e w'=>e= .returned (.slice A (Qi l n) c)/\w=w':=by
 have hle:=hl.2.1;rcases E6 n with h0|h0
 ·subst h0;go_enter Tryz.func144,Tryz.ntmps144;go_wp2_with fail
  refine wp_loop_rounds 1 ?_;rw[rounds_succ];go_wp2;go_ret;exact⟨rfl,rfl⟩
 ·obtain⟨b,o,rfl,hb,hcell⟩:=hl.2.2 h0;have hlen:=hl.1;simp[u64s]at hlen;have Hc:=Lh (show ∀k:Nat,k<n->w.cell? ⟨b,o+k,Jn⟩=Jo (Ji Ju ((l.getD k 0:Nat):Int))from fun k hk=>hcell k _ (by simp[u64s,show k<l.length by omega]));clear hcell hl hb;go_enter Tryz.func144,Tryz.ntmps144;go_wp2_with fail
  go_loop [0] (fun v=>∃k:Nat,k<=n/\v= .slice (Jo ⟨b,o,Jn⟩) k c/\Qi l k=Qi l n) (fun v=>match v with | .slice _ k _=>k|_=>0)
  case atStart=>exact⟨n,E4 _,rfl,rfl⟩
  case round=>
   obtain⟨k,hk,rfl,ht⟩:=hrel;have Ht:=Lh ht;clear ht;cases k with
   | zero=>
    go_wp2;go_ret;exact⟨by rw[←Ht.out];rfl,rfl⟩
   | succ k=>
    have hcell:=Hc.out k (by omega);by_cases hz:l.getD k 0=0
    ·have Hz:=Lh hz;rw[hz]at hcell;clear hz;go_wp2;exact⟨⟨k,by omega,rfl,by rw[←Ht.out,Qi,if_pos Hz.out]⟩,Nat.lt_succ_self k⟩
    ·have hz':(((l.getD k 0:Nat):Int) ==0)=false:=by rw[beq_eq_false_iff_ne];omega
     have Hz:=Lh hz;obtain⟨x,hx⟩:∃x,l.getD k 0=x:=⟨_,rfl⟩;rw[hx]at hcell hz';clear hz hx;go_wp2;go_ret;exact⟨ZG (by rw[←Ht.out,Qi,if_neg Hz.out]),rfl⟩
theorem OM{xs:List Nat}{o i:Nat}{ys:List Nat}(hi:i<o)(ho:o<=xs.length):(put xs o ys).getD i 0=xs.getD i 0:=by
 unfold put;rw[Fa,Fa,Fb,List.getElem?_append_left (by simp;omega),Ff,if_pos hi]
theorem ZH{xs:List Nat}{o:Nat}{ys:List Nat}{d:Nat}(h:o+1+ys.length<=xs.length):(put xs (o+1) ys).set o d=put xs o (d :: ys):=by
 unfold put;have e:xs.take (o+1)=xs.take o ++ [xs[o]]:=by rw[E5 (by omega)]
 rw[e,Fb,Fb,List.set_append_right _ _ (by simp;omega)];have e2:o-(xs.take o).length=0:=by simp;omega
 rw[e2];simp[Fj,Fm 1]
theorem Z0{xs:List Nat}{o k d:Nat}{n:Nat}(hk:k<n)(hn:o+n<=xs.length)(hd:xs.getD (o+k) 0=d):(xs.drop (o+k)).take (n-k)=d :: (xs.drop (o+(k+1))).take (n-(k+1)):=by
 rw[List.drop_eq_getElem_cons (by omega),show n-k=(n-(k+1))+1 by omega,List.take_succ_cons,←hd];simp[EY,show o+k<xs.length by omega,Fj]
def KD(w0:JW)(g o n y:Nat)(xs:List Nat)(vr vi:Value)(wr:JW):Prop:=
 ∃(j:Nat) (ys:List Nat) (r:Nat),j<=n/\vi=Ji .i64 ((j:Int)-1)/\vr=Ji Ju (r:Int)/\r<y/\ys.length=n-j/\Jy ys/\Je ((xs.drop (o+j)).take (n-j))=Je ys*y+r/\Blk wr g (put xs (o+j) ys)/\Only g w0 wr
theorem Vr{w0 wr:JW}{g o n y j d q r s m:Nat}{xs ys:List Nat}(hj:j<n)(ho:o+n<=xs.length)(hy:0<y)(_hy2:y<18446744073709551616)(hd:xs.getD (o+j) 0=d)(hd2:d<18446744073709551616)(hr:r<y)(hq:(18446744073709551616*r+d)/y=q)(hs:(18446744073709551616*r+d)%y=s)
  (hl:ys.length=n-(j+1)) (hw:Jy ys) (hv:Je ((xs.drop (o+(j+1))).take (n-(j+1)))=Je ys*y+r) (hb:Blk wr g (put xs (o+(j+1)) ys)) (ho2:Only g w0 wr) :
  KD w0 g o n y xs (Ji Ju (s:Int)) (Ji .i64 ((j:Int)-1)) ((wr.drewN m).setCell ⟨g,o+j,Jn⟩ (Ji Ju (q:Int))):=by
 have hqlt:q<18446744073709551616:=by
  rw[←hq,Nat.div_lt_iff_lt_mul hy];have h2:18446744073709551616*(r+1)<=18446744073709551616*y:=Nat.mul_le_mul_left _ hr;omega
 have hdm:=Nat.div_add_mod (18446744073709551616*r+d) y;rw[hq,hs]at hdm;refine⟨j,q :: ys,s,by omega,rfl,rfl,by rw[←hs];exact Nat.mod_lt _ hy,by simp;omega,?_,?_,?_,(ho2.drewN m).set_ _ _⟩
 ·intro x hx;rcases List.mem_cons.1 hx with rfl|hx
  ·exact hqlt
  ·exact hw x hx
 ·rw[Z0 hj ho hd,Je,hv,Je,Nat.add_mul,Nat.mul_add,Fg q y,←Fk];omega
 ·rw[←ZH (by omega)];exact(hb.drewN m).set_ _ (by rw[Jv (by omega)];omega)
theorem Yk(g o n c:Nat)(xs:List Nat)(y:Nat)(w:JW)(hb:Blk w g xs)(ho:o+n<=xs.length)(hx:Jy xs)(hy0:0<y)(hy:y<18446744073709551616)(hn:n<4294967296)(_hoo:o<4294967296) :
  Calls Tryz.prog 140 #[.slice (Jo ⟨g,o,Jn⟩) n c,Ji Ju (y:Nat)] w fun e w'=>
   ∃(ys:List Nat) (r:Nat),e= .returned (Ji Ju (r:Nat))/\ys.length=n/\r<y/\Jy ys/\Je ((xs.drop o).take n)=Je ys*y+r/\Blk w' g (put xs o ys)/\Only g w w':=by
 have Hb:=Lh hb;have Hx:=Lh hx;clear hb hx;go_enter Tryz.func140,Tryz.ntmps140;go_wp2_with fail
 go_loopw [5,6] (fun vr vi wr=>KD w g o n y xs vr vi wr) (fun _ vi _=>(intOf vi+1).toNat)
 case atStart=>exact⟨n,[],0,E4 _,rfl,rfl,hy0,by simp,fun d hd=>(by cases hd),by simp[Je],by rw[Yz];exact Hb.out,Only.refl _ _⟩
 case round=>
  obtain⟨j,ys,r,hj,rfl,rfl,hr,hl,hw,hv,hblk,honly⟩:=hrel;have Hw:=Lh hw;have Hv:=Lh hv;have Hl:=Lh hl;have Honly:=Lh honly;cases j with
  | zero=>
   have Hblk:=Lh hblk;clear hblk hw hv honly hl;go_wp2;go_ret;exact⟨ys,r,rfl,by have:=Hl.out;omega,hr,Hw.out,by have:=Hv.out;simpa using this,by have:=Hblk.out;simpa using this,Honly.out⟩
  | succ j=>
   have hcell:=hblk.cell (i:=o+j) (by rw[Jv (by omega)];omega);rw[OM (by omega) (by omega)]at hcell;have hfz:=hblk.frozen (o+j);have hd:=Hx.out (xs.getD (o+j) 0) (by simp[show o+j<xs.length by omega]);obtain⟨d,hd'⟩:∃d,xs.getD (o+j) 0=d:=⟨_,rfl⟩;rw[hd']at hcell hd;have Hblk:=Lh hblk;have Hd:=Lh hd';clear hblk hw hv honly hl hd';go_wp2_with fail
   refine(VL r d y _ hd hy hr _ _ rfl rfl).mono ?_;rintro e w' ⟨rfl,m,rfl⟩;obtain⟨q,hq⟩:∃q,(18446744073709551616*r+d)/y=q:=⟨_,rfl⟩;obtain⟨s,hs⟩:∃s,(18446744073709551616*r+d)%y=s:=⟨_,rfl⟩;rw[hq,hs];have Hfin:=Lh (Vr (m:=m) (show j<n by omega) ho hy0 hy Hd.out hd hr hq hs Hl.out Hw.out Hv.out Hblk.out Honly.out);clear hq hs;go_wp2_with fail
   exact⟨Hfin.out,by simp[intOf] <;> omega⟩
theorem Yn(l:List Nat):∀n,n<=l.length->Je (l.take (Qi l n))=Je (l.take n)
 | 0,_=>rfl
 | n+1,h=>by
  unfold Qi;by_cases h0:l.getD n 0=0
  ·rw[if_pos h0,Yn l n (by omega),E5 (by omega),JB];have:l[n]=0:=by simpa[EY,show n<l.length by omega]using h0
   rw[this];simp
  ·rw[if_neg h0]
theorem Vy{l:List Nat}{n:Nat}(h:n<=l.length):0<Qi l n↔0<Je (l.take n):=by
 rw[←Yn l n h];constructor
 ·intro hp;obtain⟨k,hk⟩:∃k,Qi l n=k+1:=⟨Qi l n-1,by omega⟩;rw[hk];have hle:=YJ l n;have hne:l.getD k 0≠0:=by
   clear hp h
   induction n with
   | zero=>simp[Qi]at hk
   | succ n ih=>
    unfold Qi at hk
    split at hk
    ·exact ih hk (YJ l n)
    ·obtain rfl:n=k:=by omega
     assumption
  rw[E5 (by omega),JB];have:l[k]'(by omega)≠0:=by simpa[EY,show k<l.length by omega]using hne
  have hb:0<base (l.take k).length*l[k]'(by omega):=Nat.mul_pos (Uf _) (Nat.pos_of_ne_zero this);omega
 ·intro hp;rcases E6 (Qi l n)with h0|h0
  ·rw[h0]at hp;simp[Je]at hp
  ·exact h0
theorem GG{p N i:Nat}(hi:i<19)(h:p+10^(19-i)*N≠0):digN (p+10^(19-i)*N)=((p%10:Nat):Int) :: digN (p/10+10^(19-(i+1))*N):=by
 rw[Qt h];have e:10^(19-i)*N=10*(10^(19-(i+1))*N):=by rw[show 19-i=(19-(i+1))+1 by omega,Fo,Fg (10^_) 10,Fk]
 rw[e]
 congr 2
 ·omega
 ·omega
theorem WJ:(10:Nat)^19=10000000000000000000:=by decide
theorem KS{p i:Nat}(hi:i<19)(h:p<10^(19-i)):p/10<10^(19-(i+1)):=by
 rw[show 19-i=(19-(i+1))+1 by omega,Fo]at h;omega
theorem WK{w w':JW}{base e n g:Nat}{v:Value}{xs:List Value}(h:w.ownsRow base e 1 v n xs)(ho:Only g w w')(hg:v.ownBlock≠Jo g):w'.ownsRow base e 1 v n xs:=by
 refine⟨h.1,?_⟩;rcases h.2 with h2|⟨k,cap,cur,rfl,h3,h4,h5⟩
 ·exact .inl h2
 ·refine .inr ⟨k,cap,cur,rfl,h3,?_,h5⟩;have hne:k≠g:=by intro e;apply hg;simp[F0,e]
  have hlt:k<w.heap.size:=by
   rcases Nat.lt_or_ge k w.heap.size with h|h
   ·exact h
   ·rw[Array.getElem?_eq_none h]at h4;cases h4
  rw[ho.block k hlt hne];exact h4
theorem Kr{w:JW}{base n g:Nat}{v:Value}{xs:List Nat}{ys:List Value}(hb:Blk w g xs)(h:w.ownsRow base 5 1 v n ys):v.ownBlock≠Jo g:=by
 obtain⟨cur,hc,_⟩:=hb;rcases h.2 with⟨rfl,_⟩|⟨k,cap,cur',rfl,_,h4,_⟩
 ·simp[F0]
 ·intro e;simp[F0]at e;subst e;rw[hc]at h4
  injection h4 with h4
  injection h4 with _ h5
  exact absurd h5 (by decide)
theorem Blk.grown{w w':JW}{g:Nat}{xs:List Nat}{row:Option Nat}(h:Blk w g xs)(hg:w.grownBy w' row)(hne:row≠Jo g):Blk w' g xs:=by
 obtain⟨cur,hc,hx⟩:=h;refine⟨cur,?_,hx⟩;rw[hg.block g (Blk.lt ⟨cur,hc,hx⟩) (fun e=>hne e.symm)];exact hc
theorem Blk.alloc{w:JW}{g:Nat}{xs:List Nat}(h:Blk w g xs)(o:Obj):Blk (w.alloc o) g xs:=h.below ((Below.refl w.heap.size w).alloc (E4 _) o) h.lt
def sig(l:List Int):List Int:=l.map (48+·)
def Ve(w0:JW)(g c v:Nat)(vl vt:Value)(wr:JW):Prop:=
 ∃(ls:List Nat) (t:List Int),vl= .slice (Jo ⟨g,0,Jn⟩) ls.length c/\(0<ls.length↔0<Je ls)/\Jy ls/\Blk wr g ls/\w0.heap.size<=g/\t ++ sig (digN (Je ls))=sig (digN v) /\
  wr.ownsRow w0.heap.size 5 1 vt t.length (Qx t)/\Below w0.heap.size w0 wr/\ls.length<4294967296/\ls.length<=c
def Vj(w0:JW)(g v T0:Nat)(ls:List Nat)(vt vp vi:Value)(wr:JW):Prop:=
 ∃(i p:Nat) (t:List Int),vi=Ji .i64 (i:Nat)/\vp=Ji Ju (p:Nat)/\i<=19/\p<10^(19-i)/\Blk wr g ls/\t ++ sig (digN (p+10^(19-i)*Je ls))=sig (digN v)/\t.length=T0+i /\
  wr.ownsRow w0.heap.size 5 1 vt t.length (Qx t)/\Below w0.heap.size w0 wr
def XC:Value->Nat
 | .slice _ n _=>n
 | _=>0
theorem UH{w:JW}{base e n:Nat}{v:Value}{xs:List Value}(h:w.ownsRow base e 1 v n xs):XC v=n:=by
 rcases h.2 with⟨rfl,rfl⟩|⟨k,cap,cur,rfl,_⟩ <;> rfl
theorem GF{w w1 w2:JW}{g n c v:Nat}{xs:List Nat}(hx:xs.length=n)(h0:0<n)(hn4:n<4294967296){k:Nat}(hnk:n<=k)(hv:Je xs=v)(hv0:0<v)(hw:Jy xs)(hb:Blk w1 g xs)(hg:w.heap.size<=g)(hbel:Below w.heap.size w w1)
  (hown:w2.ownsRow w1.heap.size 5 1 (.slice (Jo ⟨w1.heap.size,0,Jn⟩) 0 c) 0 []) (hgr:w1.grownBy w2 Jn) :
  Ve w g k v (.slice (Jo ⟨g,0,Jn⟩) n k) (.slice (Jo ⟨w1.heap.size,0,Jn⟩) 0 c) w2:=by
 subst hx;refine⟨xs,[],rfl,by omega,hw,hb.grown hgr (by simp),hg,by rw[hv];rfl,?_,hbel.grown hgr hbel.size (by simp),hn4,hnk⟩;refine⟨by simp[Qx],?_⟩;rcases hown.2 with h|⟨a,b,cur,h1,h2,h3⟩
 ·exact .inl h
 ·exact .inr ⟨a,b,cur,h1,Nat.le_trans hbel.size h2,h3⟩
theorem Gw{w wr w1:JW}{g v p k:Nat}{ls ys:List Nat}{t:List Int}{vt:Value}(hb:Blk wr g ls)(hg:w.heap.size<=g)(ht:t ++ sig (digN (Je ls))=sig (digN v))
  (hown:wr.ownsRow w.heap.size 5 1 vt t.length (Qx t)) (hbel:Below w.heap.size w wr) (hyl:ys.length=ls.length) (hp:p<10000000000000000000) (hv:Je ls=Je ys*10000000000000000000+p) (hb1:Blk w1 g ys) (ho:Only g wr w1)
  (hk:Qi ys ls.length=k):Vj w g v t.length (ys.take k) vt (Ji Ju (p:Nat)) (Ji .i64 0) w1:=by
 have hval:Je (ys.take k)=Je ys:=by rw[←hk,Yn _ _ (by omega),←hyl,E9]
 refine⟨0,p,t,rfl,rfl,by omega,by rw[Nat.sub_zero,WJ];exact hp,hb1.take k,?_,rfl,WK hown ho (Kr hb hown),Below.only hbel ho hg hbel.size⟩;rw[hval,Nat.sub_zero,WJ,Fm,Fg,←hv];exact ht
theorem Va{w wr w1:JW}{g v T0 i p:Nat}{ls:List Nat}{t:List Int}{vt v':Value}(hi:i<19)(hp:p<10^(19-i))(hb:Blk wr g ls)(ht:t ++ sig (digN (p+10^(19-i)*Je ls))=sig (digN v))(hne:p+10^(19-i)*Je ls≠0)
  (hown:wr.ownsRow w.heap.size 5 1 vt t.length (Qx t)) (hbel:Below w.heap.size w wr) (x:Int) (hx:x=48+((p%10:Nat):Int))
  (hT:t.length=T0+i) (hown':w1.ownsRow w.heap.size 5 1 v' (t.length+1) (Qx t ++ [Ji .u8 x])) (hgrow:(wr.alloc (.cells #[Ji .u8 x] 5)).grownBy w1 vt.ownBlock) :
  Vj w g v T0 ls v' (Ji Ju ((p/10:Nat):Int)) (Ji .i64 ((i:Int)+1)) w1:=by
 refine⟨i+1,p/10,t ++ [x],by simp,rfl,by omega,KS hi hp,(hb.alloc _).grown hgrow (Kr hb hown),?_,by simp;omega,by simpa[Qx]using hown',(hbel.alloc hbel.size _).grown hgrow (by simp;have:=hbel.size;omega) (fun k hk=>Ez hown hk)⟩;rw[GG hi hne]at ht;rw[←ht,hx];simp[sig]
theorem QW.string{w:JW}{g n c:Nat}{l:List Int}(h:QW w g l)(hl:l.length=n) :
  ∀dst,Tryz.prog.underlying dst=Jo .string->(convert 209 dst (.slice (Jo ⟨g,0,Jn⟩) n c)).run Tryz.prog w= .ok (.string (strOfNums l)) w:=by
 subst hl;refine run_convert_bytes_arg w 209 5 Tryz.underlying209 Tryz.underlying5 g 0 _ _ l rfl (fun i hi=>?_);have:=h.cell hi;rw[Fc,this]
theorem ZK{w:JW}{base n:Nat}{v:Value}{l:List Int}(h:w.ownsRow base 5 1 v n (Qx l))(hl:0<l.length):∃g c,v= .slice (Jo ⟨g,0,Jn⟩) l.length c/\base<=g/\QW w g l:=by
 have hn:l.length=n:=by simpa[Qx]using h.1
 subst hn;rcases h.2 with⟨_,h0⟩|⟨g,cap,cur,rfl,hg,hh,hnc,hcm,hcs,hx⟩
 ·omega
 ·exact⟨g,cap,rfl,hg,cur,hh,by simpa using hx⟩
theorem Yl{v:Nat}(h:0<v):0<(digN v).length:=by
 rw[Qt (by omega)];simp
theorem Zx{w wr:JW}{v:Nat}{vt:Value}{t:List Int}{k:Nat}(hv:0<v)(hk0:k=0){ls:List Nat}(hk:ls.length=k)(ht:t ++ sig (digN (Je ls))=sig (digN v))(hown:wr.ownsRow w.heap.size 5 1 vt t.length (Qx t)) :
  ∃g' c',vt= .slice (Jo ⟨g',0,Jn⟩) t.length c'/\w.heap.size<=g'/\QW wr g' (sig (digN v))/\t.length=(sig (digN v)).length:=by
 subst hk0;have:ls=[]:=E7 hk;subst this;rw[show Je []=0 from rfl,Qa]at ht;simp[sig]at ht;have hl:0<t.length:=by rw[ht];simp;exact Yl hv
 obtain⟨g',c',h1,h2,h3⟩:=ZK hown hl;exact⟨g',c',h1,h2,by rw[show sig (digN v)=t by rw[ht];rfl];exact h3,by rw[ht];rfl⟩
theorem O1{w wr:JW}{g c v T0 k m:Nat}{ls0 ys:List Nat}{vt:Value}{i p:Nat}{t:List Int}(hi:i<=19)(hp:p<10^(19-i))(hx:i=19\/(p=0/\k=0))(hb:Blk wr g (ys.take k))(ht:t ++ sig (digN (p+10^(19-i)*Je (ys.take k)))=sig (digN v))(hT:t.length=T0+i)
  (hown:wr.ownsRow w.heap.size 5 1 vt t.length (Qx t)) (hbel:Below w.heap.size w wr) (hg:w.heap.size<=g) (hk:Qi ys m=k) (hm:m=ys.length) (hw:Jy ys) (hk4:k<4294967296) (hkc:k<=c) (h0:T0+(digN (Je ls0)).length=(digN v).length) (hls0:0<Je ls0) :
  Ve w g c v (.slice (Jo ⟨g,0,Jn⟩) k c) vt wr/\T0<XC vt:=by
 have hkle:k<=ys.length:=by rw[←hk,hm];exact YJ _ _
 have hlen:(ys.take k).length=k:=by simp;omega
 have hp0:p=0:=by
  rcases hx with rfl|⟨h,_⟩
  ·simpa using hp
  ·exact h
 subst hp0;have e:digN (0+10^(19-i)*Je (ys.take k))=digN (Je (ys.take k)):=by
  rcases hx with rfl|⟨_,rfl⟩
  ·simp
  ·simp[Je]
 rw[e]at ht;refine⟨⟨ys.take k,t,by rw[hlen],?_,fun d hd=>hw d (List.mem_of_mem_take hd),hb,hg,ht,hown,hbel,by rw[hlen];exact hk4,by rw[hlen];exact hkc⟩,?_⟩
 ·have:=Vy (l:=ys) (n:=m) (by omega);rw[hlen,←hk,Yn _ _ (by omega)];exact this
 ·rw[UH hown,hT];rcases hx with rfl|⟨_,hk0⟩
  ·omega
  ·have hl:=congrArg List.length ht;subst hk0;have:=Yl hls0;simp[sig,Je,Qa]at hl;omega
theorem Ek{w:JW}{g n c:Nat}{ys:List Nat}(h:Blk w g ys)(hl:ys.length=n)(hc:n<=c):IsL w (Jo ⟨g,0,Jn⟩) n c (u64s ys):=by
 have:=h.isL (o:=0) (n:=n) (c:=c) (by omega) hc;rw[Fi,←hl,E9]at this;rw[←hl];exact this
theorem Kh{p j k n:Nat}{ys:List Nat}(hk:Qi ys n=k)(hn:ys.length=n)(h:¬(p=0/\k=0)):p+10^j*Je (ys.take k)≠0:=by
 intro h0;obtain⟨h1,h2⟩:p=0/\10^j*Je (ys.take k)=0:=by omega
 have h3:0<k:=by omega
 have h4:=(Vy (l:=ys) (n:=n) (by omega)).mp (by omega);rw[←Yn _ _ (by omega),hk]at h4;rcases Nat.mul_eq_zero.mp h2 with h5|h5
 ·have:=Nat.pow_pos (n:=j) (show 0<10 by decide);omega
 ·omega
theorem Ey{p i:Nat}(h:p<10^(19-i)):p<18446744073709551616:=by
 have h1:(10:Nat)^(19-i)<=10^19:=Nat.pow_le_pow_right (by decide) (by omega);rw[WJ]at h1;omega
theorem Ex{p i:Nat}(h:p<10^(19-i)):IntKind.u64.wrap ((p:Int)/10)=((p/10:Nat):Int):=by
 have h1:=Ey h;rw[Jr] <;> omega
theorem Xm(A:Option Addr)(n c:Nat)(xs:List Nat)(w:JW)(hl:IsL w A n c (u64s xs))(hw:Jy xs)(hv:0<Je xs)(hn:n<1000) :
  Calls Tryz.prog 119 #[.slice A n c] w fun e w'=>e= .returned (.string (strOfNums (sig (digN (Je xs))).reverse))/\Below w.heap.size w w':=by
 have hlen:xs.length=n:=by have:=hl.1;simpa[u64s]using this
 have h0:0<n:=by
  rcases E6 n with h|h
  ·subst h;have:xs=[]:=E7 hlen;subst this;simp[Je]at hv
  ·exact h
 obtain⟨v,hvv⟩:∃v,Je xs=v:=⟨_,rfl⟩;have hbig:(digN v).length<=20*n:=by
  refine UN (20*n) v (Nat.lt_of_lt_of_le (by rw[←hvv];exact JH hw) ?_);rw[hlen];unfold base;have h1:(18446744073709551616:Nat)^n<=(10^20)^n:=Nat.pow_le_pow_left (by decide) n;rw[←Nat.pow_mul]at h1;exact h1
 rw[hvv]at hv ⊢;have Hv0:=Lh hv;have Hclone:=Lh (Yt A n c xs w hl h0 (by omega));have Hv:=Lh hvv;have Hw:=Lh hw;have Hlen:=Lh hlen;have t0:((n:Int) ==0)=false:=by rw[beq_eq_false_iff_ne];omega
 clear hl hvv hw hlen;obtain⟨i0,hi,hz0,hz1,hz2⟩:=info_parts KV;go_enter Tryz.func119,Tryz.ntmps119;go_wp2_with fail
 refine Hclone.out.mono ?_;rintro e w1⟨g,c1,rfl,hnc,hc1,hg,hblk,hbel⟩;have Hblk:=Lh hblk;have Hbel:=Lh hbel;have Hg:=Lh hg;clear hblk hbel hg;go_wp2_with (at_make;refine wpList_make_own _ rfl _ _ 209 rfl w1.heap.size 5 i0 (Ji .u8 0) 1 Tryz.underlying209 hi hz0 hz1 _ _ _ (n*20) rfl rfl (by omega) (by rw[hz2];omega) (by unfold maxLen;omega) (E4 _) ?_)
 intro w2 hown2 hgr2;have Hst:=Lh (GF (k:=c1) Hlen.out h0 (by omega) hnc Hv.out hv Hw.out Hblk.out Hg.out Hbel.out hown2 hgr2);clear hown2 hgr2;go_wp2_with fail
 go_loopw [3,4] (fun vl vt wr=>Ve w g c1 v vl vt wr) (fun _ vt _=>20*n-XC vt)
 case atStart=>exact Hst.out
 case round=>
  obtain⟨ls,t,rfl,hpos,hws,hb,hg,ht,hown,hbel,hk1000,hkc⟩:=hrel;have hlt:(t ++ sig (digN (Je ls))).length=(sig (digN v)).length:=by rw[ht]
  simp[sig]at hlt;have htl:t.length<=20*n:=by omega
  obtain⟨k,hk⟩:∃k,ls.length=k:=⟨_,rfl⟩;rw[hk]at hk1000 hkc ⊢;have Hpos:=Lh hpos;have Hws:=Lh hws;have Hb:=Lh hb;have Hg:=Lh hg;have Ht:=Lh ht;have Hown:=Lh hown;have Hbel:=Lh hbel;have Hlt:=Lh hlt;have hsl:=UH hown;have Hsl:=Lh hsl;have Hk:=Lh hk;by_cases hk0:k=0
  ·obtain⟨g',c',rfl,hg',hby,htv⟩:=Zx Hv0.out hk0 hk ht hown;have Hg':=Lh hg';have Hby:=Lh hby;have Htv:=Lh htv;clear hpos hws hb hg ht hown hbel hlt hsl hk hg' hby htv;subst hk0;go_wp2_with fail
   refine(GW g' _ c' _ _ Hby.out Htv.out.symm (by omega)).mono ?_;rintro e w3⟨rfl,hb3,ho3⟩;have cv:=hb3.string (n:=t.length) (c:=c') (by rw[EZ];exact Htv.out.symm);have Hfin:=Lh (Below.only Hbel.out ho3 Hg'.out Hbel.out.size);clear hb3 ho3;go_wp2;go_ret;exact⟨rfl,Hfin.out⟩
  ·have hk1:0<k:=by omega
   clear hpos hws hb hg ht hown hbel hlt hsl hk;go_wp2_with fail
   refine(Yk g 0 k c1 ls 10000000000000000000 _ Hb.out (by have:=Hk.out;omega) Hws.out (by decide) (by decide) hk1000 (by decide)).mono ?_;rintro e w3⟨ys,p,rfl,hyl,hp,hyw,hyv,hb3,ho3⟩;have e:put ls 0 ys=ys:=by
    have:=Hk.out;simp[put,hyl,this]
   rw[e]at hb3;have ev:Je ls=Je ys*10000000000000000000+p:=by rw[←hyv,Fi,←Hk.out,E9]
   obtain⟨k',hk'⟩:∃k',Qi ys k=k':=⟨_,rfl⟩;have hkk:k'<=k:=by rw[←hk'];exact YJ _ _
   have hdig:=Gw (k:=k') Hb.out Hg.out Ht.out Hown.out Hbel.out (by rw[hyl];exact Hk.out.symm) hp ev hb3 ho3 (by rw[Hk.out];exact hk');have htrim:=JT (Jo ⟨g,0,Jn⟩) k c1 ys w3 (Ek hb3 hyl hkc) hk1000 hc1;rw[hk']at htrim;have Htrim:=Lh htrim;have Hdig:=Lh hdig;have Hyl:=Lh hyl;have Hk':=Lh hk';have Hyw:=Lh hyw;have Hev:=Lh ev;have hpos1:=Hpos.out.mp (by rw[Hk.out];exact hk1);have hdl:=Yl hpos1;clear hyl hp hyw hyv hb3 ho3 e ev hk' hdig htrim;obtain⟨T0,hT0⟩:∃T0,t.length=T0:=⟨_,rfl⟩;rw[hT0]at Hdig htl Hlt Hsl;have hT1:T0<20*n:=by have:=Hlt.out;omega
   have hT2:=Hsl.out;have Hp1:=Lh hpos1;clear hpos1 hdl Hsl hT0;go_wp2_with fail
   refine Htrim.out.mono ?_;rintro e w4⟨rfl,rfl⟩;obtain⟨wo,hwo⟩:∃wo:JW,wo=wr:=⟨_,rfl⟩;go_wp2_with fail
   go_loopw [4,5,6] (fun vt vp vi wr=>Vj w g v T0 (ys.take k') vt vp vi wr) (fun _ _ vi _=>(19-intOf vi).toNat)
   case atStart=>exact Hdig.out
   case round=>
    obtain⟨i,p',t',rfl,rfl,hi19,hp',hb',ht',hT',hown',hbel'⟩:=hrel;have Hp:=Lh hp';have Hb':=Lh hb';have Ht':=Lh ht';have HT':=Lh hT';have Hown':=Lh hown';have Hbel':=Lh hbel';by_cases hx:i=19\/(p'=0/\k'=0)
    ·have hstop:=O1 (c:=c1) (k:=k') (m:=k) (ls0:=ls) hi19 hp' hx hb' ht' hT' hown' hbel' Hg.out Hk'.out Hyl.out.symm Hyw.out (by omega) (by omega) Hlt.out Hp1.out;have Hstop:=Lh hstop;have hs2:=hstop.2;clear hp' hb' ht' hT' hown' hbel' hstop;by_cases hi:i=19
     ·subst hi;go_wp2_with fail
      go_roundw;case rel=>exact Hstop.out.1
      case measure=>omega
     ·have hlt:i<19:=by omega
      obtain⟨rfl,rfl⟩:p'=0/\k'=0:=by omega
      go_wp2_with fail
      go_roundw;case rel=>exact Hstop.out.1
      case measure=>omega
    ·have hne:p'+10^(19-i)*Je (ys.take k')≠0:=by
      have:=Kh (p:=p') (j:=19-i) Hk'.out Hyl.out (by omega);exact this
     have Hne:=Lh hne;have hsz':=hbel'.size;have Hw10:=Lh (Ex hp');have hlt:i<19:=by omega
     clear hp' hb' ht' hown' hbel' hne;by_cases hp0:p'=0
     ·have hk2:0<k':=by omega
      clear Hw10;subst hp0;go_wp2_with (at_builtin;refine wpList_append_own _ rfl _ _ 209 rfl w.heap.size 5 i0 (Ji .u8 0) 1 1 Tryz.underlying209 hi hz0 hz1 hz2 rfl (by decide) _ _ _ rfl (Hown'.out.alloc _) ⟨wr.heap.size,0,Jn⟩ 1 1 [Ji .u8 (48)] rfl rfl (fun k u hu=>by match k,hu with|0,hu=>simp at hu;subst hu;simp[Addr.add]) (fun u hu=>by simp at hu;subst hu;rfl) (by unfold maxLen;omega) (by omega) (by simp;omega) ?_)
      intro v' w4 hownN hgrow _;rw[←HT'.out]at hownN;have hfin:=Va hlt Hp.out Hb'.out Ht'.out Hne.out Hown'.out Hbel'.out (48) (by omega) HT'.out hownN hgrow;have Hfin:=Lh hfin;clear hfin hownN hgrow;go_wp2;go_roundw;case rel=>exact Hfin.out
      case measure=>simp[intOf];omega
     ·have hp1:0<p':=by omega
      have hw10:=Hw10.out;go_wp2_with (at_builtin;refine wpList_append_own _ rfl _ _ 209 rfl w.heap.size 5 i0 (Ji .u8 0) 1 1 Tryz.underlying209 hi hz0 hz1 hz2 rfl (by decide) _ _ _ rfl (Hown'.out.alloc _) ⟨wr.heap.size,0,Jn⟩ 1 1 [Ji .u8 (48+(p':Int)%10)] rfl rfl (fun k u hu=>by match k,hu with|0,hu=>simp at hu;subst hu;simp[Addr.add]) (fun u hu=>by simp at hu;subst hu;rfl) (by unfold maxLen;omega) (by omega) (by simp;omega) ?_)
      intro v' w4 hownN hgrow _;rw[←HT'.out]at hownN;have hfin:=Va hlt Hp.out Hb'.out Ht'.out Hne.out Hown'.out Hbel'.out (48+(p':Int)%10) (by omega) HT'.out hownN hgrow;have Hfin:=Lh hfin;clear hfin hownN hgrow;go_wp2;go_roundw;case rel=>exact Hfin.out
      case measure=>simp[intOf];omega
def XU(s:ByteArray):Bool:=s.data.toList.head? ==Jo 45
def QD(s:ByteArray):ByteArray:=if XU s then s.extract 1 s.size else s
def XT(d:ByteArray):Bool:=d.data.toList.head? ==Jo 48
def UM(s:ByteArray):Int:=
 if (QD s).size=0 then 14 else if Yu (QD s).data.toList=false then 14 else if XT (QD s)=true/\(1<(QD s).size\/1<s.size) then 3 else 0
theorem KW{s:ByteArray}(h:0<s.size):s.data.toList.head?=Jo s[0]:=by
 have:=Ev h
 rwa [←List.head?_eq_getElem?]at this
theorem Ej{c:UInt8}{n:Nat}(hn:n<256)(h:c.toNat=n):c=UInt8.ofNat n:=by
 apply UInt8.toNat_inj.mp;rw[h,UInt8.toNat_ofNat'];omega
theorem ZB(s:ByteArray):(s.extract 1 s.size).size=s.size-1:=by simp
theorem OU{s d:ByteArray}(hb:QD s=d):(d.size=0->UM s=14)/\(Yu d.data.toList=false->UM s=14)/\(Yu d.data.toList=true->0<d.size->XT d=true->(1<d.size\/1<s.size)->UM s=3)
  /\ (Yu d.data.toList=true->0<d.size->¬(XT d=true/\(1<d.size\/1<s.size))->UM s=0):=by
 subst hb;unfold UM;refine⟨fun h=>by rw[if_pos h],fun h=>by split <;> simp,fun h1 h2 h3 h4=>?_,fun h1 h2 h3=>?_⟩
 ·rw[if_neg (by omega),if_neg (by simp[h1]),if_pos ⟨h3,h4⟩]
 ·rw[if_neg (by omega),if_neg (by simp[h1]),if_neg h3]
theorem Uw(neg:Bool){v:Nat}(h:0<v):YG neg (digN v)=strOfNums ((if neg then[45] else[]) ++ (sig (digN v)).reverse):=by
 unfold YG;have hl:=Yl h;rw[Xf _ (Xd _),if_neg (by omega),E9];unfold outN sig;simp[List.map_reverse]
theorem ZE(l:List Int):(⟨#[45]⟩:ByteArray) ++ strOfNums l=strOfNums ([45] ++ l):=by
 apply ByteArray.ext;rw[ByteArray.data_append];apply Array.toList_inj.mp;simp[strOfNums]
theorem U4(v:Value)(z:Int)(w:JW){B:Nat}(h:Jj B w v z)(ht:Tab w) :
  Calls Tryz.prog 90 #[v] w fun e w'=>e= .returned (.string (YG (decide (z<0)) (digN z.natAbs)))/\Below w.heap.size w w':=by
 rcases h with⟨hz,rfl⟩|⟨hz,p,A,n,c,xs,rfl,hp,_,_,c0,c1,hl,hc,hn,hw,htt,hval⟩
 ·rw[GM];exact Wq z w hz ht
 ·have hpos:0<z.natAbs:=by unfold I64 at hz;omega
  have hb1:=(Below.refl w.heap.size w).alloc (E4 _) (.cells #[Ji .i64 0,.pointer (Jo ⟨p,0,Jn⟩)] 29);have Hcall:=Lh (Xm A n c xs (w.alloc (.cells #[Ji .i64 0,.pointer (Jo ⟨p,0,Jn⟩)] 29)) (hl.grow _) hw (by rw[hval];exact hpos) hn);rw[hval]at Hcall;have Htx:=Lh (Uw (decide (z<0)) hpos);have hlen:=hl.1;simp[u64s]at hlen;have hsz:(strOfNums (sig (digN z.natAbs)).reverse).size<=20000:=by
   rw[strOfNums_size,EZ,sig,List.length_map];have h1:=JH hw;rw[hval,hlen]at h1;have h2:base n<=(10^20)^n:=Nat.pow_le_pow_left (by decide) n;rw[←Nat.pow_mul]at h2;have:=UN (20*n) z.natAbs (by omega);omega
  have C0:=Lh c0;have Hb1:=Lh hb1;clear hl hw htt hval hb1 hz hlen;have Hsm:=Lh (ZE (sig (digN z.natAbs)).reverse);obtain⟨U,hU⟩:∃U,strOfNums (sig (digN z.natAbs)).reverse=U:=⟨_,rfl⟩;rw[hU]at hsz Hcall Hsm;have HU:=Lh hU;clear hU;obtain⟨T,hT⟩:∃T,YG (decide (z<0)) (digN z.natAbs)=T:=⟨_,rfl⟩;rw[hT]at Htx ⊢;clear hT;cases hneg:decide (z<0)
  ·rw[hneg]at c0 Htx C0;go_enter Tryz.func90,Tryz.ntmps90;go_wp2_with fail
   refine Hcall.out.mono ?_;rintro e w2⟨rfl,hb⟩;have e0:w2.cell? ⟨p,0,Jn⟩=Jo (.bool false):=((hb.cell (p:=⟨p,0,Jn⟩) (by simp;omega)).trans (Hb1.out.cell (p:=⟨p,0,Jn⟩) hp)).trans C0.out;have e1:w2.cell? ⟨w.heap.size,0,Jn⟩=Jo (Ji .i64 0):=(hb.cell (p:=⟨w.heap.size,0,Jn⟩) (by simp)).trans (by simp[go_sem]);have e2:w2.cell? ⟨w.heap.size,1,Jn⟩=Jo (.pointer (Jo ⟨p,0,Jn⟩)):=(hb.cell (p:=⟨w.heap.size,1,Jn⟩) (by simp)).trans (by simp[go_sem]);have Hfin:=Lh (Hb1.out.trans (hb.mono (by simp)));clear hb;go_wp2;go_ret;exact⟨by rw[Htx.out,←HU.out];rfl,Hfin.out⟩
  ·rw[hneg]at c0 Htx C0;go_enter Tryz.func90,Tryz.ntmps90;go_wp2_with fail
   refine Hcall.out.mono ?_;rintro e w2⟨rfl,hb⟩;have e0:w2.cell? ⟨p,0,Jn⟩=Jo (.bool true):=((hb.cell (p:=⟨p,0,Jn⟩) (by simp;omega)).trans (Hb1.out.cell (p:=⟨p,0,Jn⟩) hp)).trans C0.out;have e1:w2.cell? ⟨w.heap.size,0,Jn⟩=Jo (Ji .i64 0):=(hb.cell (p:=⟨w.heap.size,0,Jn⟩) (by simp)).trans (by simp[go_sem]);have e2:w2.cell? ⟨w.heap.size,1,Jn⟩=Jo (.pointer (Jo ⟨p,0,Jn⟩)):=(hb.cell (p:=⟨w.heap.size,1,Jn⟩) (by simp)).trans (by simp[go_sem]);have Hfin:=Lh (Hb1.out.trans (hb.mono (by simp)));clear hb;go_wp2;go_ret;exact⟨by rw[Htx.out,if_pos trivial,←Hsm.out];rfl,Hfin.out⟩
theorem Jj.form{B:Nat}{w:JW}{v:Value}{z:Int}(h:Jj B w v z):∃a P,v= .agg #[Ji .i64 a,.pointer P]:=by
 rcases h with⟨_,rfl⟩|⟨_,p,A,n,c,xs,rfl,_⟩
 ·exact⟨_,_,rfl⟩
 ·exact⟨_,_,rfl⟩
theorem Ww{c:UInt8}(h:XV c=true):(48:Int)+((dig c:Nat):Int)=(c.toNat:Int):=by
 unfold XV at h;simp at h;unfold dig;omega
theorem Ki:∀r:List UInt8,r≠[]->Yu r.reverse=true->r.reverse.head?≠Jo 48->0<decV r.reverse/\digN (decV r.reverse)=r.map (fun c=>((dig c:Nat):Int)):=by
 intro r
 induction r with
 | nil=>intro h;exact absurd rfl h
 | cons c r ih=>
  intro _ hd hh;rw[List.reverse_cons]at hd hh ⊢;unfold Yu at hd;rw[List.all_append,Bool.and_eq_true]at hd;have hc:XV c=true:=by simpa using hd.2
  have hlt:=ED hc;rw[Z5];cases r with
  | nil=>
   have hne:c≠48:=by simpa using hh
   have hpos:0<dig c:=by
    rcases E6 (dig c)with h|h
    ·exfalso;apply hne;unfold XV at hc;simp at hc;unfold dig at h;exact Ej (n:=48) (by decide) (by omega)
    ·exact h
   rw[show decV ([]:List UInt8).reverse=0 from rfl,Fl,Fc];refine⟨hpos,?_⟩;rw[Qt (by omega),show dig c/10=0 by omega,Qa,show dig c%10=dig c by omega];rfl
  | cons c' r'=>
   obtain ⟨h1,h2⟩:=ih (by simp) hd.1 (by
    intro h;apply hh;rw[List.head?_append,h];rfl)
   refine⟨by omega,?_⟩;rw[Qt (by omega),show(10*decV (c' :: r').reverse+dig c)/10=decV (c' :: r').reverse by omega,show(10*decV (c' :: r').reverse+dig c)%10=dig c by omega,h2];rfl
theorem ZA(l:List UInt8)(h0:l≠[])(hd:Yu l=true)(hh:l.head?≠Jo 48):0<decV l/\(sig (digN (decV l))).reverse=l.map fun c=>(c.toNat:Int):=by
 have h:=Ki l.reverse (by simpa using h0) (by rw[E8];exact hd) (by rw[E8];exact hh);rw[E8]at h;refine⟨h.1,?_⟩;rw[h.2,sig,List.map_map,List.map_reverse,E8];apply List.map_congr_left;intro c hc;unfold Yu at hd;exact Ww (List.all_eq_true.mp hd c hc)
theorem YY(l:List UInt8):strOfNums (l.map fun c=>(c.toNat:Int))=⟨l.toArray⟩:=by
 unfold strOfNums;rw[List.map_map]
 congr 2
 conv=>rhs;rw[←List.map_id l]
 apply List.map_congr_left;intro c _;simp
theorem Gh{s:ByteArray}{l:List UInt8}(h:s.data.toList=l):(⟨l.toArray⟩:ByteArray)=s:=by
 subst h;rfl
theorem OD{s:ByteArray}(h:UM s=0):YG (decide (Jx (XU s) (decV (QD s).data.toList)<0)) (digN (Jx (XU s) (decV (QD s).data.toList)).natAbs)=s:=by
 obtain⟨d,hd⟩:∃d,QD s=d:=⟨_,rfl⟩;obtain⟨e1,e2,e3,_⟩:=OU hd;rw[h]at e1 e2 e3;rw[hd,QP];have hall:Yu d.data.toList=true:=by
  cases hx:Yu d.data.toList
  ·exact absurd (e2 hx) (by decide)
  ·rfl
 have hpos:0<d.size:=by
  rcases E6 d.size with hx|hx
  ·exact absurd (e1 hx) (by decide)
  ·exact hx
 cases hl:XT d
 ·have hh:d.data.toList.head?≠Jo 48:=by
   unfold XT at hl;exact beq_eq_false_iff_ne.mp hl
  obtain⟨hv,hs⟩:=ZA d.data.toList (by intro hx;have h2:=UB d;rw[hx]at h2;simp at h2;omega) hall hh;rw[Vz hv,Uw _ hv,hs];cases hn:XU s
  ·have:QD s=s:=by unfold QD;rw[hn];rfl
   rw[this]at hd;subst hd;simp only[Bool.false_eq_true,if_false,Fh];exact(YY _).trans (Gh rfl)
  ·have hb:QD s=s.extract 1 s.size:=by unfold QD;rw[hn];rfl
   rw[hb]at hd;subst hd;rw[Gk];have hcons:s.data.toList=45 :: s.data.toList.drop 1:=by
    unfold XU at hn;have h45:=eq_of_beq hn;cases hx:s.data.toList with
    | nil=>rw[hx]at h45;cases h45
    | cons a m=>
     rw[hx]at h45;simp at h45;rw[h45];rfl
   rw[if_pos rfl];have:=YY (45 :: s.data.toList.drop 1);rw[List.map_cons]at this;exact this.trans (Gh hcons)
 ·have hone:¬(1<d.size\/1<s.size):=fun hx=>absurd (e3 hall hpos hl hx) (by decide);cases hn:XU s
  ·have:QD s=s:=by unfold QD;rw[hn];rfl
   rw[this]at hd;subst hd;have hlist:s.data.toList=[48]:=by
    unfold XT at hl;have h48:=eq_of_beq hl;cases hx:s.data.toList with
    | nil=>rw[hx]at h48;cases h48
    | cons a m=>
     rw[hx]at h48;simp at h48;have hlen:=UB s;rw[hx]at hlen;simp at hlen;have:m=[]:=E7 (by omega);rw[h48,this]
   rw[hlist];have hz:decV [48]=0:=by decide
   rw[hz,Qa];exact Gh hlist
  ·exfalso;have hb:QD s=s.extract 1 s.size:=by unfold QD;rw[hn];rfl
   have:=ZB s;rw[←hb,hd]at this;omega
