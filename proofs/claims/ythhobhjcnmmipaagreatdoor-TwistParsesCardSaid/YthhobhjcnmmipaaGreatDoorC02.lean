/- C02: Signed DM -/
import Derived.Test.YthhobhjcnmmipaaGreatDoorC01
set_option maxRecDepth 100000
set_option maxHeartbeats 16000000
namespace Go.Proofs.YthhobhjcnmmipaaGreatDoor
open Go.Value renaming pointer→Jp
open Go.World renaming cell?_of_block→E4,setCell→Fa
open _root_.Int renaming mul_le_mul_of_nonneg_right→E5,neg_mul→E9,sub_mul→EZ,le_of_lt→Fe
open _root_.Nat renaming le_refl→E6,lt_of_lt_of_le→EY,div_add_mod→F0,le_trans→Fb,add_zero→Fc,mul_comm→Ff,mod_lt→Fg
open _root_.Bool renaming false_eq_true→E7
open Go.RowKit.Below renaming refl→E8
open Go.RowKit
def Jj(B:Nat)(w:World)(v:Value)(z:Int):Prop:=
 (I64 z/\v=JN z)\/(¬ I64 z/\∃ (p:Nat) (A:Option Addr) (n c:Nat) (xs:List Nat),v= .agg #[.int .i64 0,Jp (some ⟨p,0,none⟩)]/\p<w.heap.size/\B<=p/\(∀ a:Addr,A=some a->B<=a.block)/\w.cell? ⟨p,0,none⟩=some (.bool (decide (z<0)))/\w.cell? ⟨p,1,none⟩=some (.slice A n c) /\
  IsL w A n c (u64s xs)/\c<=9223372036854775807/\n<1000/\Jy xs/\Vf xs/\Je xs=z.natAbs)
def Jx(neg:Bool)(v:Nat):Int:=if neg then -(v:Int) else(v:Int)
theorem QP(neg:Bool)(v:Nat):(Jx neg v).natAbs=v:=by unfold Jx;split <;> omega
theorem Vz{neg:Bool}{v:Nat}(h:0<v):decide (Jx neg v<0)=neg:=by
 unfold Jx;cases neg <;> simp <;> omega
theorem IsL.grow{w:World}{A:Option Addr}{n c:Nat}{xs:List Value}(h:IsL w A n c xs)(o:Obj):IsL (w.alloc o) A n c xs:=by
 refine⟨h.1,h.2.1,fun hn=>?_⟩;obtain⟨g,i,rfl,hg,hc⟩:=h.2.2 hn;refine⟨g,i,rfl,by simp;omega,fun j u hu=>?_⟩;rw[←hc j u hu];exact E4 (((E8 w.heap.size w).alloc (E6 _) o).block g hg)
theorem VO(w:World)(o1 o2:Obj):((w.alloc o1).alloc o2).heap[w.heap.size+1]?=some o2:=by
 show((w.heap.push o1).push o2)[w.heap.size+1]?=some o2;rw[Array.getElem?_push,if_pos (by simp)]
theorem UE{B:Nat}{w w':World}{A:Option Addr}{n c:Nat}{xs:List Nat}{neg:Bool}(hl:IsL w A n c (u64s xs))(hw:Jy xs)(ht:Vf xs)(hn:n<1000)(hc:c<=9223372036854775807)(hpos:0<Je xs)(hz:¬I64 (Jx neg (Je xs)))
  (hB:B<=w.heap.size) (hA:∀a:Addr,A=some a->B<=a.block) (o1:Obj) (he:w'=(w.alloc o1).alloc (.cells #[.bool neg,.slice A n c] 177)) :
  Jj B w' (.agg #[.int .i64 0,Jp (some ⟨w.heap.size+1,0,none⟩)]) (Jx neg (Je xs)):=by
 subst he;refine .inr ⟨hz,w.heap.size+1,A,n,c,xs,rfl,by simp,by omega,hA,?_,?_,(hl.grow _).grow _,hc,hn,hw,ht,by rw[QP]⟩
 ·rw[Vz hpos,cell_of_row _ _ _ #[.bool neg,.slice A n c] 177 (0,0) (VO _ _ _)];rfl
 ·rw[cell_of_row _ _ _ #[.bool neg,.slice A n c] 177 (0,0) (VO _ _ _)];rfl
theorem OI(B:Nat)(A:Option Addr)(n c:Nat)(xs:List Nat)(neg:Bool)(w:World)(hl:IsL w A n c (u64s xs))(hw:Jy xs)(ht:Vf xs)(hn:n<1000)(hc:c<=9223372036854775807)(hB:B<=w.heap.size)(hA:∀a:Addr,A=some a->B<=a.block) :
  Calls Tryz.prog 106 #[.slice A n c,.bool neg] w fun e w'=>∃v,e= .returned v/\Jj B w' v (Jx neg (Je xs))/\Below w.heap.size w w':=by
 have hlen:xs.length=n:=by have:=hl.1;simpa[u64s]using this
 have hb2:=((E8 w.heap.size w).alloc (E6 _) (.cells #[.int .i64 0,Jp (some ⟨w.heap.size+1,0,none⟩)] 29)).alloc (by simp) (.cells #[.bool neg,.slice A n c] 177);by_cases h2:2<=n
 ·have hbig:base 1<=Je xs:=by
   rcases ht with h|h
   ·omega
   ·exact Fb (Nat.pow_le_pow_right (by decide) (by omega)) h
  have hz:¬I64 (Jx neg (Je xs)):=by
   rw[Oy]at hbig;unfold Jx I64
   split <;> omega
  have hfin:=fun o1 w'=>UE (w':=w') hl hw ht hn hc (by rw[Oy]at hbig;omega) hz hB hA o1;have Hfin:=Lh hfin;have Hb:=Lh hb2;clear hl hw ht hlen hb2 hfin hz hbig hA;go_enter Tryz.func106,Tryz.ntmps106;go_wp2;exact bodyPost_ret (v:= .agg #[.int .i64 0,Jp (some ⟨w.heap.size+1,0,none⟩)]) (by simp[results,Tryz.results106,go_sem]) rfl ⟨_,rfl,Hfin.out _ _ rfl,Hb.out⟩
 ·rcases Nat.eq_zero_or_pos n with h0|h0
  ·subst h0;have hx:xs=[]:=List.eq_nil_of_length_eq_zero hlen;subst hx;have hz:Jx neg (Je [])=0:=by cases neg <;> rfl
   rw[hz];clear hl hw ht hlen hb2 hz hA;go_enter Tryz.func106,Tryz.ntmps106;go_wp2;exact bodyPost_ret (v:=JN 0) (by simp[results,Tryz.results106,go_sem]) rfl ⟨_,rfl,.inl ⟨by unfold I64;omega,rfl⟩,(E8 _ _).alloc (E6 _) _⟩
  ·obtain rfl:n=1:=by omega
   obtain⟨x,rfl⟩:∃x,xs=[x]:=List.length_eq_one_iff.mp hlen;obtain⟨b,o,rfl,hb,hcell⟩:=hl.2.2 (by omega);have c0:w.cell? ⟨b,o,none⟩=some (.int .u64 (x:Int)):=hcell 0 _ rfl;have hx:Je [x]=x:=by simp[Je]
   have hx1:x<18446744073709551616:=hw x (by simp);have hx0:0<x:=by
    rcases ht with h|h
    ·simp at h
    ·rw[hx]at h;exact EY (Uf _) h
   by_cases hbig:I64 (Jx neg x)
   ·rw[hx];have Hbig:=Lh hbig;unfold I64 Jx at hbig;clear hcell hl hw ht hlen hb2 hx hA;cases neg
    ·simp at hbig;go_enter Tryz.func106,Tryz.ntmps106;go_wp2;exact bodyPost_ret (v:=JN x) (by simp[results,Tryz.results106,go_sem]) rfl ⟨_,rfl,.inl ⟨Hbig.out,rfl⟩,(E8 _ _).alloc (E6 _) _⟩
    ·simp at hbig;have e1:IntKind.u64.wrap (-(x:Int))=18446744073709551616-(x:Int):=by rw[Jr];omega
     have e2:wrap64 (18446744073709551616-(x:Int))=-(x:Int):=by unfold wrap64;omega
     go_enter Tryz.func106,Tryz.ntmps106;go_wp2;exact bodyPost_ret (v:=JN (-(x:Int))) (by simp[results,Tryz.results106,go_sem]) rfl ⟨_,rfl,.inl ⟨Hbig.out,rfl⟩,(E8 _ _).alloc (E6 _) _⟩
   ·have hfin:=fun o1 w'=>UE (w':=w') hl hw ht hn hc (by rw[hx];exact hx0) (by rw[hx];exact hbig) hB hA o1;have Hfin:=Lh hfin;have Hb:=Lh hb2;unfold I64 Jx at hbig;clear hcell hl hw ht hlen hb2 hfin hx hA;cases neg
    ·simp at hbig;go_enter Tryz.func106,Tryz.ntmps106;go_wp2;exact bodyPost_ret (v:= .agg #[.int .i64 0,Jp (some ⟨w.heap.size+1,0,none⟩)]) (by simp[results,Tryz.results106,go_sem]) rfl ⟨_,rfl,Hfin.out _ _ rfl,Hb.out⟩
    ·simp at hbig;go_enter Tryz.func106,Tryz.ntmps106;go_wp2;exact bodyPost_ret (v:= .agg #[.int .i64 0,Jp (some ⟨w.heap.size+1,0,none⟩)]) (by simp[results,Tryz.results106,go_sem]) rfl ⟨_,rfl,Hfin.out _ _ rfl,Hb.out⟩
theorem Jj.set_{B:Nat}{w:World}{v:Value}{z:Int}{i:Nat}{u:Value}(h:Jj (B+1) w v z):Jj (B+1) (w.setCell ⟨B,i,none⟩ u) v z:=by
 rcases h with h|⟨hz,p,A,n,c,xs,rfl,hp,hBp,hBA,c0,c1,hl,rest⟩
 ·exact .inl h
 ·have hh:∀k,k≠B->(w.setCell ⟨B,i,none⟩ u).heap[k]?=w.heap[k]?:=fun k hk=>Below.heap_setCell w ⟨B,i,none⟩ u k hk;refine .inr ⟨hz,p,A,n,c,xs,rfl,by simpa[Fa]using hp,hBp,hBA,(E4 (hh p (by omega))).trans c0,(E4 (hh p (by omega))).trans c1,⟨hl.1,hl.2.1,fun hn=>?_⟩,rest⟩;obtain⟨b,o,e,hb,hc⟩:=hl.2.2 hn;exact⟨b,o,e,by simpa[Fa]using hb,fun j u' hu=>(E4 (hh b (by have:=hBA _ e;simp at this;omega))).trans (hc j u' hu)⟩
theorem Jj.mono{B B':Nat}{w:World}{v:Value}{z:Int}(h:Jj B w v z)(hB:B'<=B):Jj B' w v z:=by
 rcases h with h|⟨hz,p,A,n,c,xs,rfl,hp,hBp,hBA,rest⟩
 ·exact .inl h
 ·exact .inr ⟨hz,p,A,n,c,xs,rfl,hp,by omega,fun a e=>Fb hB (hBA a e),rest⟩
theorem Jj.keep{B:Nat}{w w':World}{v:Value}{z:Int}(h:Jj B w v z)(hb:Below w.heap.size w w'):Jj B w' v z:=by
 rcases h with h|⟨hz,p,A,n,c,xs,rfl,hp,hBp,hBA,c0,c1,hl,rest⟩
 ·exact .inl h
 ·exact .inr ⟨hz,p,A,n,c,xs,rfl,EY hp hb.size,hBp,hBA,(hb.cell (p:=⟨p,0,none⟩) hp).trans c0,(hb.cell (p:=⟨p,1,none⟩) hp).trans c1,hl.keep hb,rest⟩
def DM(z k q r:Int):Prop:=z=q*k+r/\((0<=r/\r<k)\/(k<r/\r<=0))
theorem OY{m m' u r:Nat}(h:m=u*m'+r)(hr:r<m'):DM (-(m:Int)) (-(m':Int)) (Jx false u) (Jx true r):=by
 unfold DM Jx;simp only[E7,if_false,if_true,Int.mul_neg];rw[h];push_cast
 omega
theorem Z4{m m' u:Nat}(h:m=u*m'+0)(hr:0<m')(_e:(0:Nat)=0):DM (-(m:Int)) (m':Int) (Jx true u) 0:=by
 rw[Fc]at h;unfold DM Jx;simp only[if_true,E9];rw[h];push_cast
 refine⟨by omega,?_⟩;simp only[true_and,and_true];omega
theorem OX{m m' u r:Nat}(h:m=u*m'+r)(hr:r<m')(h0:0<r):DM (-(m:Int)) (m':Int) (Jx true u-1) (Jx true r+(m':Int)):=by
 unfold DM Jx;simp only[if_true,E9,EZ,Int.one_mul];rw[h];push_cast
 omega
theorem Z3{m m' u:Nat}(h:m=u*m'+0)(hr:0<m')(_e:(0:Nat)=0):DM (m:Int) (-(m':Int)) (Jx true u) 0:=by
 rw[Fc]at h;unfold DM Jx;simp only[if_true,E9,Int.mul_neg,Int.neg_neg];rw[h];push_cast
 refine⟨by omega,?_⟩;simp only[true_and,and_true];omega
theorem OW{m m' u r:Nat}(h:m=u*m'+r)(hr:r<m')(h0:0<r):DM (m:Int) (-(m':Int)) (Jx true u-1) (Jx false r+(-(m':Int))):=by
 unfold DM Jx;simp only[E7,if_false,if_true,E9,Int.mul_neg,EZ,Int.one_mul];rw[h];push_cast
 omega
theorem OV{m m' u r:Nat}(h:m=u*m'+r)(hr:r<m'):DM (m:Int) (m':Int) (Jx false u) (Jx false r):=by
 unfold DM Jx;simp only[E7,if_false];rw[h];push_cast
 omega
theorem Z2{z k q r q' r':Int}(h:DM z k q r)(h':DM z k q' r'):q=q'/\r=r':=by
 unfold DM at h h';have e:(q-q')*k=r'-r:=by rw[EZ];omega
 have hq:q-q'=0:=by
  rcases Int.lt_trichotomy (q-q') 0 with h1|h1|h1
  ·exfalso;rcases Int.lt_or_le 0 k with hk|hk
   ·have:=E5 (show q-q'<=-1 by omega) (Fe hk);omega
   ·have:=Int.mul_le_mul_of_nonpos_right (show q-q'<=-1 by omega) hk;omega
  ·exact h1
  ·exfalso;rcases Int.lt_or_le 0 k with hk|hk
   ·have:=E5 (show 1<=q-q' by omega) (Fe hk);omega
   ·have:=Int.mul_le_mul_of_nonpos_right (show 1<=q-q' by omega) hk;omega
 rw[hq,Int.zero_mul]at e;omega
theorem Gn{z k:Int}{m m':Nat}(hm:z.natAbs=m)(hm':k.natAbs=m')(hk:k≠0)(h:m%m'=0\/(decide (z<0) !=decide (k<0))=false):DM z k (Jx (decide (z<0) !=decide (k<0)) (m/m')) (Jx (decide (z<0)) (m%m')):=by
 have hp:0<m':=by omega
 have hd:=F0 m m';have hl:=Fg m hp;generalize m/m'=u at *
 generalize m%m'=r at *
 rw[Ff]at hd;by_cases hz:z<0 <;> by_cases hk2:k<0
 ·obtain rfl:z=-(m:Int):=by omega
  obtain rfl:k=-(m':Int):=by omega
  rw[decide_eq_true hz,decide_eq_true hk2];exact OY hd.symm hl
 ·obtain rfl:z=-(m:Int):=by omega
  obtain rfl:k=(m':Int):=by omega
  rw[decide_eq_true hz,decide_eq_false hk2]at h ⊢;obtain rfl:r=0:=by
   rcases h with h|h
   ·exact h
   ·cases h
  exact Z4 hd.symm hl rfl
 ·obtain rfl:z=(m:Int):=by omega
  obtain rfl:k=-(m':Int):=by omega
  rw[decide_eq_false hz,decide_eq_true hk2]at h ⊢;obtain rfl:r=0:=by
   rcases h with h|h
   ·exact h
   ·cases h
  exact Z3 hd.symm hl rfl
 ·obtain rfl:z=(m:Int):=by omega
  obtain rfl:k=(m':Int):=by omega
  rw[decide_eq_false hz,decide_eq_false hk2];exact OV hd.symm hl
theorem Gm{z k:Int}{m m':Nat}(hm:z.natAbs=m)(hm':k.natAbs=m')(hk:k≠0)(h0:m%m'≠0)(h:(decide (z<0) !=decide (k<0))=true):DM z k (Jx (decide (z<0) !=decide (k<0)) (m/m')-1) (Jx (decide (z<0)) (m%m')+k):=by
 have hp:0<m':=by omega
 have hd:=F0 m m';have hl:=Fg m hp;rw[h];generalize m/m'=u at *
 generalize m%m'=r at *
 rw[Ff]at hd;by_cases hz:z<0 <;> by_cases hk2:k<0
 ·simp[hz,hk2]at h
 ·obtain rfl:z=-(m:Int):=by omega
  obtain rfl:k=(m':Int):=by omega
  rw[decide_eq_true hz];exact OX hd.symm hl (by omega)
 ·obtain rfl:z=(m:Int):=by omega
  obtain rfl:k=-(m':Int):=by omega
  rw[decide_eq_false hz];exact OW hd.symm hl (by omega)
 ·simp[hz,hk2]at h
