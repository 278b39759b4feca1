/- GC06: Write -/
import Derived.Test.YtekhdklbfincpaaGreatDoorGC03
import Derived.WalkSpells
import Derived.Test.YtekhdklbfincpaaGreatDoorGC05
set_option maxRecDepth 100000
set_option maxHeartbeats 16000000
namespace Go.Proofs.YtekhdklbfincpaaGreatDoor
open Go.Value renaming int→Ji,ownBlock→M3
open Go renaming World→JW
open _root_.List renaming take_succ_eq_append_getElem→M0,getD→M2,getD_eq_getElem?_getD→M4,append_assoc→M5,length_set→M6,getElem?_take→M7
open _root_.Nat renaming le_refl→M1,eq_zero_or_pos→M8,add_assoc→M9,mul_assoc→Mr,zero_add→Ms,mul_comm→Mt,pow_succ→Mu,zero_le→Mv
open Go.RowKit
theorem YA:(Tryz.prog.info? 139).map (fun i=>(i.zero,i.size,i.bytes))=some (some (Ji .u64 0),1,8):=by kernel_rfl
def Dz(n:Nat)(xs:List Nat)(w:JW)(e:Ending)(w':JW):Prop:=
 ∃g c,e= .returned (.slice (some ⟨g,0,none⟩) n c)/\n<=c/\c<=9223372036854775807/\w.heap.size<=g/\Blk w' g xs/\Below w.heap.size w w'
theorem Uu(A:Option Addr)(n c:Nat)(xs:List Nat)(w:JW)(hl:IsL w A n c (u64s xs))(h0:0<n)(hn:n<4294967296) :
  Calls Tryz.prog 137 #[.slice A n c] w (Dz n xs w):=by
 obtain⟨i0,hi,hz0,hz1,hz2⟩:=info_parts YA;obtain⟨b,o,rfl,hb,hcell⟩:=hl.2.2 h0;have hlen:=hl.1;have Hc:=Lh hcell;clear hcell hl;have hnil:=fun W:JW=>Lib.run_eql_slice_nil (P:=Tryz.prog) W 129 139 (some ⟨b,o,none⟩) n c 0 0 Tryz.underlying129;go_enter Tryz.func137,Tryz.ntmps137;go_wp2_with (at_builtin;refine wpList_append_own _ rfl _ _ 129 rfl w.heap.size 139 i0 (Ji .u64 0) 1 8 Tryz.underlying129 hi hz0 hz1 hz2 rfl (by decide) _ 0 [] rfl ?c0 ⟨b,o,none⟩ n c (u64s xs) rfl ?c6 ?c1 ?c2 ?c3 ?c4 ?c5 ?_)
 case c0=>exact⟨by simp,.inr ⟨w.heap.size,0,#[],rfl,M1 _,heap_alloc_new w _,M1 _,Mv _,by simp,by simp⟩⟩
 case c6=>rw[hlen,Nat.mul_one]
 case c1=>
  intro j u hu;have e:(⟨b,o,none⟩:Addr).add j=⟨b,o+j,none⟩:=by unfold Addr.add;split <;> simp_all
  rw[e,World.cell?_alloc_lt _ _ _ (by exact hb)];exact Hc.out j u hu
 case c2=>
  intro u hu;obtain⟨d,_,rfl⟩:=List.mem_map.1 hu;rfl
 case c3=>unfold maxLen;omega
 case c4=>omega
 case c5=>simp
 intro v' w1 hown' hgrow _;try simp only[Ms,List.nil_append]at hown'
 obtain⟨g,c',rfl,hnc,hcm,hg,hblk⟩:=Blk.of_own hown' h0;have hbel:Below w.heap.size w w1:=((Below.refl _ _).alloc (M1 _) _).grown hgrow (by simp) (fun k hk=>by simp[M3]at hk;omega);have Hblk:=Lh hblk;have Hbel:=Lh hbel;unfold maxLen at hcm;clear hblk hbel hown' hgrow hnil;go_wp2;go_ret;exact⟨g,c',rfl,hnc,hcm,hg,Hblk.out,Hbel.out⟩
def YD(w:JW)(g:Nat)(bs:List Int):Prop:=∃cur:Array Value,w.heap[g]?=some (.cells cur 5 (0,0))/\cur.toList.take bs.length=Qn bs
theorem YD.cell{w:JW}{g:Nat}{xs:List Int}(h:YD w g xs){i:Nat}(hi:i<xs.length):w.cell? ⟨g,i,none⟩=some (Ji .u8 (xs.getD i 0)):=by
 obtain⟨cur,h,hc⟩:=h;rw[cell_of_row w g i cur 5 (0,0) h];have e:cur.toList[i]?=(Qn xs)[i]?:=by rw[←hc,M7,if_pos hi]
 rw[←Array.getElem?_toList,e];simp[Qn,hi]
theorem YD.frozen{w:JW}{g:Nat}{xs:List Int}(h:YD w g xs)(i:Nat):w.frozen? ⟨g,i,none⟩=false:=by
 obtain⟨cur,h,_⟩:=h;simp[World.frozen?,h]
theorem YD.set_{w:JW}{g:Nat}{xs:List Int}(h:YD w g xs)(i:Nat)(d:Int):YD (w.setCell ⟨g,i,none⟩ (Ji .u8 d)) g (xs.set i d):=by
 obtain⟨cur,h,hc⟩:=h;refine⟨cur.setIfInBounds i (Ji .u8 d),by simp[World.setCell,Array.getElem?_modify,h],?_⟩;rw[Array.toList_setIfInBounds,M6,List.take_set,hc];simp[Qn,List.map_set]
theorem YD.drew{w:JW}{g:Nat}{xs:List Int}(h:YD w g xs):YD w.drew g xs:=h
theorem D9{l m:List Int}{i q n:Nat}{x y:Int}(hm:m.length=n)(hin:i<n)(hqn:q<n)(hiq:i<q)(hij:i+(q+1)=n)(hx:m.getD i 0=x)(hy:m.getD q 0=y)
  (hval:∀k,k<n->m.getD k 0=if i<=k/\k<q+1 then l.getD k 0 else l.getD (n-1-k) 0):∀k,k<n->((m.set i y).set q x).getD k 0=if i+1<=k/\k<q then l.getD k 0 else l.getD (n-1-k) 0:=by
 intro k hk;have hvi:=hval i hin;have hvq:=hval q hqn;rw[if_pos (by omega),hx]at hvi;rw[if_pos (by omega),hy]at hvq;by_cases h1:k=q
 ·subst h1;rw[if_neg (by omega),show n-1-k=i by omega,←hvi];simp[M2,hm,hk]
 ·by_cases h2:k=i
  ·subst h2;rw[if_neg (by omega),show n-1-k=q by omega,←hvq];simp[M2,hm,hk,Ne.symm h1]
  ·have e:((m.set i y).set q x).getD k 0=m.getD k 0:=by simp[M2,Ne.symm h1,Ne.symm h2]
   rw[e,hval k hk];by_cases h3:i<=k/\k<q+1
   ·rw[if_pos h3,if_pos (by omega)]
   ·rw[if_neg h3,if_neg (by omega)]
theorem Wu(g n c:Nat)(l:List Int)(w:JW)(hb:YD w g l)(hn:l.length=n)(h1:n<4294967296) :
  Calls Tryz.prog 140 #[.slice (some ⟨g,0,none⟩) n c] w fun e w'=>e= .returned (.tuple #[])/\YD w' g l.reverse/\Only g w w':=by
 have Hb:=Lh hb;have Hn:=Lh hn;clear hb hn;go_enter Tryz.func140,Tryz.ntmps140;go_wp2_with fail
 go_loopw [2,3] (fun vi vj wr=>∃i j:Nat,vi=Ji .i64 (i:Nat)/\vj=Ji .i64 ((j:Int)-1)/\i+j=n/\i<=j+1/\(∃m,m.length=n/\YD wr g m/\(∀k,k<n->m.getD k 0=if i<=k/\k<j then l.getD k 0 else l.getD (n-1-k) 0))/\Only g w wr) (fun vi vj _=>(intOf vj-intOf vi+2).toNat)
 case atStart=>exact⟨0,n,rfl,rfl,by omega,by omega,⟨l,Hn.out,Hb.out,fun k hk=>by rw[if_pos ⟨Mv _,hk⟩]⟩,Only.refl _ _⟩
 case round=>
  obtain⟨i,j,rfl,rfl,hij,hle,⟨m,hm,hbm,hval⟩,honly⟩:=hrel;have Hval:=Lh hval;have Honly:=Lh honly;have Hbm:=Lh hbm;have Hm:=Lh hm;have Hij:=Lh hij;by_cases hlt:i+1<j
  ·have ci:=hbm.cell (i:=i) (by omega);have cj:=hbm.cell (i:=j-1) (by omega);have fi:=hbm.frozen i;have fj:=hbm.frozen (j-1);clear hval honly hbm hm hij;obtain⟨q,rfl⟩:∃q,j=q+1:=⟨j-1,by omega⟩;rw[show q+1-1=q from rfl]at cj fj;have hin:i<n:=by have:=Hij.out;omega
   have hqn:q<n:=by have:=Hij.out;omega
   have hiq:i<q:=by omega
   have hne:i≠q:=by omega
   obtain⟨x,hx⟩:∃x,m.getD i 0=x:=⟨_,rfl⟩;obtain⟨y,hy⟩:∃y,m.getD q 0=y:=⟨_,rfl⟩;rw[hx]at ci;rw[hy]at cj;have Hx:=Lh hx;have Hy:=Lh hy;clear hx hy;go_wp2_with fail
   go_region
   all_goals
    have Hf1:=Lh (((Hbm.out.drew).set_ i y).set_ q x);go_wp2_with fail
    exact⟨⟨i+1,q,by go_num,rfl,by have:=Hij.out;omega,by omega,⟨(m.set i y).set q x,by rw[M6,M6];exact Hm.out,Hf1.out,D9 Hm.out hin hqn hiq Hij.out Hx.out Hy.out Hval.out⟩,(((Honly.out.drewN 1).set_ i _).set_ q _)⟩,by simp[intOf] <;> omega⟩
  ·have hfin:m=l.reverse:=by
    apply List.ext_getElem
    ·rw[List.length_reverse,Hm.out,Hn.out]
    ·intro k h1 h2;have hk:k<n:=by have:=Hm.out;omega
     have:=Hval.out k hk;rw[List.getElem_reverse];have e:(if i<=k/\k<j then l.getD k 0 else l.getD (n-1-k) 0)=l.getD (n-1-k) 0:=by
      split
      ·congr 1;have:=Hij.out;omega
      ·rfl
     rw[e]at this;have hl:=Hn.out;simp[M2,h1,show n-1-k<l.length by omega]at this;simp[this,hl]
   have Hfin:=Lh (show YD wr g l.reverse by rw[←hfin];exact hbm);clear hval honly hbm hm hij hfin;go_wp2;go_end0
   exact⟨rfl,Hfin.out,Honly.out⟩
theorem Zj(hi lo y:Nat)(w:JW)(hl:lo<18446744073709551616)(hy:y<18446744073709551616)(h1:hi<y)(q r:Nat)(hq:(18446744073709551616*hi+lo)/y=q)(hr:(18446744073709551616*hi+lo)%y=r) :
  Calls Tryz.prog 164 #[Ji .u64 (hi:Nat),Ji .u64 (lo:Nat),Ji .u64 (y:Nat)] w fun e w'=>e= .returned (.tuple #[Ji .u64 (q:Int),Ji .u64 (r:Int)])/\∃n,w'=w.drewN n:=by
 rw[←hq,←hr];by_cases h0:hi=0
 ·subst h0;rw[Nat.mul_zero,Ms];exact Ki lo y w hl hy (by omega)
 ·exact(EA hi lo y w hl hy (by omega) h1).mono fun e w' ⟨a,b⟩=>⟨a,0,b.symm⟩
def QF(l:List Nat):Nat->Nat
 | 0=>0
 | k+1=>if l.getD k 0=0 then QF l k else k+1
theorem UQ(l:List Nat)(k:Nat):QF l k<=k:=by
 induction k with
 | zero=>exact M1 _
 | succ k ih=>unfold QF;split <;> omega
theorem Qj(A:Option Addr)(n c:Nat)(l:List Nat)(w:JW)(hl:IsL w A n c (u64s l))(hn:n<4294967296)(_hc:c<=9223372036854775807) :
  Calls Tryz.prog 139 #[.slice A n c] w fun e w'=>e= .returned (.slice A (QF l n) c)/\w=w':=by
 have hle:=hl.2.1;rcases M8 n with h0|h0
 ·subst h0;go_enter Tryz.func139,Tryz.ntmps139;go_wp2_with fail
  refine wp_loop_rounds 1 ?_;rw[rounds_succ];go_wp2;go_ret;exact⟨rfl,rfl⟩
 ·obtain⟨b,o,rfl,hb,hcell⟩:=hl.2.2 h0;have hlen:=hl.1;simp[u64s]at hlen;have Hc:=Lh (show ∀k:Nat,k<n->w.cell? ⟨b,o+k,none⟩=some (Ji .u64 ((l.getD k 0:Nat):Int))from fun k hk=>hcell k _ (by simp[u64s,show k<l.length by omega]));clear hcell hl hb;go_enter Tryz.func139,Tryz.ntmps139;go_wp2_with fail
  go_loop [0] (fun v=>∃k:Nat,k<=n/\v= .slice (some ⟨b,o,none⟩) k c/\QF l k=QF l n) (fun v=>match v with | .slice _ k _=>k|_=>0)
  case atStart=>exact⟨n,M1 _,rfl,rfl⟩
  case round=>
   obtain⟨k,hk,rfl,ht⟩:=hrel;have Ht:=Lh ht;clear ht;cases k with
   | zero=>
    go_wp2;go_ret;exact⟨by rw[←Ht.out];rfl,rfl⟩
   | succ k=>
    have hcell:=Hc.out k (by omega);by_cases hz:l.getD k 0=0
    ·have Hz:=Lh hz;rw[hz]at hcell;clear hz;go_wp2;exact⟨⟨k,by omega,rfl,by rw[←Ht.out,QF,if_pos Hz.out]⟩,Nat.lt_succ_self k⟩
    ·have hz':(((l.getD k 0:Nat):Int) ==0)=false:=by rw[beq_eq_false_iff_ne];omega
     have Hz:=Lh hz;obtain⟨x,hx⟩:∃x,l.getD k 0=x:=⟨_,rfl⟩;rw[hx]at hcell hz';clear hz hx;go_wp2;go_ret;exact⟨VU (by rw[←Ht.out,QF,if_neg Hz.out]),rfl⟩
theorem Eg{xs:List Nat}{o i:Nat}{ys:List Nat}(hi:i<o)(ho:o<=xs.length):(put xs o ys).getD i 0=xs.getD i 0:=by
 unfold put;rw[M4,M4,M5,List.getElem?_append_left (by simp;omega),M7,if_pos hi]
theorem Fx{xs:List Nat}{o:Nat}{ys:List Nat}{d:Nat}(h:o+1+ys.length<=xs.length):(put xs (o+1) ys).set o d=put xs o (d :: ys):=by
 unfold put;have e:xs.take (o+1)=xs.take o ++ [xs[o]]:=by rw[M0 (by omega)]
 rw[e,M5,M5,List.set_append_right _ _ (by simp;omega)];have e2:o-(xs.take o).length=0:=by simp;omega
 rw[e2];simp[M9,Nat.add_comm 1]
theorem Df{xs:List Nat}{o k d:Nat}{n:Nat}(hk:k<n)(hn:o+n<=xs.length)(hd:xs.getD (o+k) 0=d):(xs.drop (o+k)).take (n-k)=d :: (xs.drop (o+(k+1))).take (n-(k+1)):=by
 rw[List.drop_eq_getElem_cons (by omega),show n-k=(n-(k+1))+1 by omega,List.take_succ_cons,←hd];simp[M2,show o+k<xs.length by omega,M9]
def LZ(w0:JW)(g o n y:Nat)(xs:List Nat)(vr vi:Value)(wr:JW):Prop:=
 ∃(j:Nat) (ys:List Nat) (r:Nat),j<=n/\vi=Ji .i64 ((j:Int)-1)/\vr=Ji .u64 (r:Int)/\r<y/\ys.length=n-j/\Jz ys/\Je ((xs.drop (o+j)).take (n-j))=Je ys*y+r/\Blk wr g (put xs (o+j) ys)/\Only g w0 wr
theorem OS{w0 wr:JW}{g o n y j d q r s m:Nat}{xs ys:List Nat}(hj:j<n)(ho:o+n<=xs.length)(hy:0<y)(_hy2:y<18446744073709551616)(hd:xs.getD (o+j) 0=d)(hd2:d<18446744073709551616)(hr:r<y)(hq:(18446744073709551616*r+d)/y=q)(hs:(18446744073709551616*r+d)%y=s)
  (hl:ys.length=n-(j+1)) (hw:Jz ys) (hv:Je ((xs.drop (o+(j+1))).take (n-(j+1)))=Je ys*y+r) (hb:Blk wr g (put xs (o+(j+1)) ys)) (ho2:Only g w0 wr) :
  LZ w0 g o n y xs (Ji .u64 (s:Int)) (Ji .i64 ((j:Int)-1)) ((wr.drewN m).setCell ⟨g,o+j,none⟩ (Ji .u64 (q:Int))):=by
 have hqlt:q<18446744073709551616:=by
  rw[←hq,Nat.div_lt_iff_lt_mul hy];have h2:18446744073709551616*(r+1)<=18446744073709551616*y:=Nat.mul_le_mul_left _ hr;omega
 have hdm:=Nat.div_add_mod (18446744073709551616*r+d) y;rw[hq,hs]at hdm;refine⟨j,q :: ys,s,by omega,rfl,rfl,by rw[←hs];exact Nat.mod_lt _ hy,by simp;omega,?_,?_,?_,(ho2.drewN m).set_ _ _⟩
 ·intro x hx;rcases List.mem_cons.1 hx with rfl|hx
  ·exact hqlt
  ·exact hw x hx
 ·rw[Df hj ho hd,Je,hv,Je,Nat.add_mul,Nat.mul_add,Mt q y,←Mr];omega
 ·rw[←Fx (by omega)];exact(hb.drewN m).set_ _ (by rw[Jy (by omega)];omega)
theorem Uc(g o n c:Nat)(xs:List Nat)(y:Nat)(w:JW)(hb:Blk w g xs)(ho:o+n<=xs.length)(hx:Jz xs)(hy0:0<y)(hy:y<18446744073709551616)(hn:n<4294967296)(_hoo:o<4294967296) :
  Calls Tryz.prog 138 #[.slice (some ⟨g,o,none⟩) n c,Ji .u64 (y:Nat)] w fun e w'=>
   ∃(ys:List Nat) (r:Nat),e= .returned (Ji .u64 (r:Nat))/\ys.length=n/\r<y/\Jz ys/\Je ((xs.drop o).take n)=Je ys*y+r/\Blk w' g (put xs o ys)/\Only g w w':=by
 have Hb:=Lh hb;have Hx:=Lh hx;clear hb hx;go_enter Tryz.func138,Tryz.ntmps138;go_wp2_with fail
 go_loopw [5,6] (fun vr vi wr=>LZ w g o n y xs vr vi wr) (fun _ vi _=>(intOf vi+1).toNat)
 case atStart=>exact⟨n,[],0,M1 _,rfl,rfl,hy0,by simp,fun d hd=>(by cases hd),by simp[Je],by rw[UC];exact Hb.out,Only.refl _ _⟩
 case round=>
  obtain⟨j,ys,r,hj,rfl,rfl,hr,hl,hw,hv,hblk,honly⟩:=hrel;have Hw:=Lh hw;have Hv:=Lh hv;have Hl:=Lh hl;have Honly:=Lh honly;cases j with
  | zero=>
   have Hblk:=Lh hblk;clear hblk hw hv honly hl;go_wp2;go_ret;exact⟨ys,r,rfl,by have:=Hl.out;omega,hr,Hw.out,by have:=Hv.out;simpa using this,by have:=Hblk.out;simpa using this,Honly.out⟩
  | succ j=>
   have hcell:=hblk.cell (i:=o+j) (by rw[Jy (by omega)];omega);rw[Eg (by omega) (by omega)]at hcell;have hfz:=hblk.frozen (o+j);have hd:=Hx.out (xs.getD (o+j) 0) (by simp[show o+j<xs.length by omega]);obtain⟨d,hd'⟩:∃d,xs.getD (o+j) 0=d:=⟨_,rfl⟩;rw[hd']at hcell hd;have Hblk:=Lh hblk;have Hd:=Lh hd';clear hblk hw hv honly hl hd';go_wp2_with fail
   refine(Zj r d y _ hd hy hr _ _ rfl rfl).mono ?_;rintro e w' ⟨rfl,m,rfl⟩;obtain⟨q,hq⟩:∃q,(18446744073709551616*r+d)/y=q:=⟨_,rfl⟩;obtain⟨s,hs⟩:∃s,(18446744073709551616*r+d)%y=s:=⟨_,rfl⟩;rw[hq,hs];have Hfin:=Lh (OS (m:=m) (show j<n by omega) ho hy0 hy Hd.out hd hr hq hs Hl.out Hw.out Hv.out Hblk.out Honly.out);clear hq hs;go_wp2_with fail
   exact⟨Hfin.out,by simp[intOf] <;> omega⟩
theorem Uh(l:List Nat):∀n,n<=l.length->Je (l.take (QF l n))=Je (l.take n)
 | 0,_=>rfl
 | n+1,h=>by
  unfold QF;by_cases h0:l.getD n 0=0
  ·rw[if_pos h0,Uh l n (by omega),M0 (by omega),JD];have:l[n]=0:=by simpa[M2,show n<l.length by omega]using h0
   rw[this];simp
  ·rw[if_neg h0]
theorem O0{l:List Nat}{n:Nat}(h:n<=l.length):0<QF l n↔0<Je (l.take n):=by
 rw[←Uh l n h];constructor
 ·intro hp;obtain⟨k,hk⟩:∃k,QF l n=k+1:=⟨QF l n-1,by omega⟩;rw[hk];have hle:=UQ l n;have hne:l.getD k 0≠0:=by
   clear hp h
   induction n with
   | zero=>simp[QF]at hk
   | succ n ih=>
    unfold QF at hk
    split at hk
    ·exact ih hk (UQ l n)
    ·obtain rfl:n=k:=by omega
     assumption
  rw[M0 (by omega),JD];have:l[k]'(by omega)≠0:=by simpa[M2,show k<l.length by omega]using hne
  have hb:0<base (l.take k).length*l[k]'(by omega):=Nat.mul_pos (Xs _) (Nat.pos_of_ne_zero this);omega
 ·intro hp;rcases M8 (QF l n)with h0|h0
  ·rw[h0]at hp;simp[Je]at hp
  ·exact h0
theorem Wd{p N i:Nat}(hi:i<19)(h:p+10^(19-i)*N≠0):digN (p+10^(19-i)*N)=((p%10:Nat):Int) :: digN (p/10+10^(19-(i+1))*N):=by
 rw[Qq h];have e:10^(19-i)*N=10*(10^(19-(i+1))*N):=by rw[show 19-i=(19-(i+1))+1 by omega,Mu,Mt (10^_) 10,Mr]
 rw[e]
 congr 2
 ·omega
 ·omega
theorem Lf:(10:Nat)^19=10000000000000000000:=by decide
theorem Nn{p i:Nat}(hi:i<19)(h:p<10^(19-i)):p/10<10^(19-(i+1)):=by
 rw[show 19-i=(19-(i+1))+1 by omega,Mu]at h;omega
theorem Ll{w w':JW}{base e n g:Nat}{v:Value}{xs:List Value}(h:w.ownsRow base e 1 v n xs)(ho:Only g w w')(hg:v.ownBlock≠some g):w'.ownsRow base e 1 v n xs:=by
 refine⟨h.1,?_⟩;rcases h.2 with h2|⟨k,cap,cur,rfl,h3,h4,h5⟩
 ·exact .inl h2
 ·refine .inr ⟨k,cap,cur,rfl,h3,?_,h5⟩;have hne:k≠g:=by intro e;apply hg;simp[M3,e]
  have hlt:k<w.heap.size:=by
   rcases Nat.lt_or_ge k w.heap.size with h|h
   ·exact h
   ·rw[Array.getElem?_eq_none h]at h4;cases h4
  rw[ho.block k hlt hne];exact h4
theorem LS{w:JW}{base n g:Nat}{v:Value}{xs:List Nat}{ys:List Value}(hb:Blk w g xs)(h:w.ownsRow base 5 1 v n ys):v.ownBlock≠some g:=by
 obtain⟨cur,hc,_⟩:=hb;rcases h.2 with⟨rfl,_⟩|⟨k,cap,cur',rfl,_,h4,_⟩
 ·simp[M3]
 ·intro e;simp[M3]at e;subst e;rw[hc]at h4
  injection h4 with h4
  injection h4 with _ h5
  exact absurd h5 (by decide)
theorem Blk.grown{w w':JW}{g:Nat}{xs:List Nat}{row:Option Nat}(h:Blk w g xs)(hg:w.grownBy w' row)(hne:row≠some g):Blk w' g xs:=by
 obtain⟨cur,hc,hx⟩:=h;refine⟨cur,?_,hx⟩;rw[hg.block g (Blk.lt ⟨cur,hc,hx⟩) (fun e=>hne e.symm)];exact hc
theorem Blk.alloc{w:JW}{g:Nat}{xs:List Nat}(h:Blk w g xs)(o:Obj):Blk (w.alloc o) g xs:=h.below ((Below.refl w.heap.size w).alloc (M1 _) o) h.lt
def sig(l:List Int):List Int:=l.map (48+·)
def OB(w0:JW)(g c v:Nat)(vl vt:Value)(wr:JW):Prop:=
 ∃(ls:List Nat) (t:List Int),vl= .slice (some ⟨g,0,none⟩) ls.length c/\(0<ls.length↔0<Je ls)/\Jz ls/\Blk wr g ls/\w0.heap.size<=g/\t ++ sig (digN (Je ls))=sig (digN v) /\
  wr.ownsRow w0.heap.size 5 1 vt t.length (Qn t)/\Below w0.heap.size w0 wr/\ls.length<4294967296/\ls.length<=c
def OG(w0:JW)(g v T0:Nat)(ls:List Nat)(vt vp vi:Value)(wr:JW):Prop:=
 ∃(i p:Nat) (t:List Int),vi=Ji .i64 (i:Nat)/\vp=Ji .u64 (p:Nat)/\i<=19/\p<10^(19-i)/\Blk wr g ls/\t ++ sig (digN (p+10^(19-i)*Je ls))=sig (digN v)/\t.length=T0+i /\
  wr.ownsRow w0.heap.size 5 1 vt t.length (Qn t)/\Below w0.heap.size w0 wr
def GL:Value->Nat
 | .slice _ n _=>n
 | _=>0
theorem Vp{w:JW}{base e n:Nat}{v:Value}{xs:List Value}(h:w.ownsRow base e 1 v n xs):GL v=n:=by
 rcases h.2 with⟨rfl,rfl⟩|⟨k,cap,cur,rfl,_⟩ <;> rfl
