/- C05: Num Cmp Ref2 Add Sub -/
import Derived.Test.YthhobhjcnmmipaaGreatDoorC02
import Derived.Test.YthhobhjcnmmipaaGreatDoorC01
import Derived.Deep.RegionHeld3
import Derived.Test.YthhobhjcnmmipaaGreatDoorC04
set_option maxRecDepth 100000
set_option maxHeartbeats 16000000
namespace Go.Proofs.YthhobhjcnmmipaaGreatDoor
open Go.Value renaming pointer→Jp,int→Ji
open Go.IntKind renaming i64→Jl,u64→Ju
open Go.Obj renaming cells→Jc
open _root_.Option renaming none→Jn,some→Jo
open Go renaming World→JW
open _root_.Nat renaming le_refl→E4,zero_le→E9,mul_add→EZ,mul_le_mul_left→Fa,min_eq_left→Ff,pow_le_pow_right→Fi,le_trans→Fj,mul_left_comm→Fk,mul_assoc→Fp,lt_or_ge→Fq
open Go.RowKit.Below renaming refl→E5,alloc→Fl
open _root_.List renaming take_of_length_le→E6,drop_eq_getElem_cons→E7,getD→E8,getElem?_eq_none→EY,eq_nil_of_length_eq_zero→F0,append_assoc→Fe,drop_eq_nil_of_le→Fg,take_append_drop→Fh,nil_append→Fm,take_take→Fo
open _root_.UInt8 renaming ofNat→Fb,toNat_ofNat'→Fc
open Go.RowKit
structure Jz (B:Nat) (w:JW) (A:Option Addr) (n c:Nat) (xs:List Nat) (m:Nat):Prop where
 isl:IsL w A n c (u64s xs)
 cap:c<=9223372036854775807
 len:n<1000
 words:Jy xs
 tight:Vf xs
 val:Je xs=m
 low:∀a:Addr,A=Jo a->B<=a.block
theorem Jz.keep{B:Nat}{w w':JW}{A:Option Addr}{n c m:Nat}{xs:List Nat}(h:Jz B w A n c xs m)(hb:Below w.heap.size w w'):Jz B w' A n c xs m:=
 ⟨h.isl.keep hb,h.cap,h.len,h.words,h.tight,h.val,h.low⟩
theorem Jz.mono{B B':Nat}{w:JW}{A:Option Addr}{n c m:Nat}{xs:List Nat}(h:Jz B w A n c xs m)(hb:B'<=B):Jz B' w A n c xs m:=
 ⟨h.isl,h.cap,h.len,h.words,h.tight,h.val,fun a e=>Fj hb (h.low a e)⟩
theorem JS(xs:List Nat):(u64s xs).length=xs.length:=by simp[u64s]
theorem Jz.size{B:Nat}{w:JW}{A:Option Addr}{n c m:Nat}{xs:List Nat}(h:Jz B w A n c xs m):xs.length=n:=by
 have:=h.isl.1;rwa [JS]at this
theorem Jz.zero(B:Nat)(w:JW):Jz B w Jn 0 0 [] 0:=
 ⟨⟨rfl,E4 _,fun h=>absurd h (by decide)⟩,by decide,by decide,fun d hd=>absurd hd (by simp),.inl rfl,rfl,fun a e=>absurd e (by simp)⟩
theorem Jz.at{B:Nat}{w:JW}{A:Option Addr}{n c m:Nat}{xs:List Nat}(h:Jz B w A n c xs m)(h0:0<n):∃b o,A=Jo ⟨b,o,Jn⟩/\b<w.heap.size/\B<=b/\∀k:Nat,k<n->w.cell? ⟨b,o+k,Jn⟩=Jo (Ji Ju ((xs.getD k 0:Nat):Int)):=by
 obtain⟨b,o,e,hb,hc⟩:=h.isl.2.2 h0;exact⟨b,o,e,hb,h.low _ e,fun k hk=>hc k _ (by have:=h.size;simp[u64s,show k<xs.length by omega])⟩
theorem IsL.grow_cell{w:JW}{p:Nat}{o:Obj}(hp:p<w.heap.size)(i:Nat):(w.alloc o).cell? ⟨p,i,Jn⟩=w.cell? ⟨p,i,Jn⟩:=
 ((E5 w.heap.size w).alloc (E4 _) o).cell (p:=⟨p,i,Jn⟩) hp
def Eo(z:Int)(B:Nat)(w:JW)(e:Ending)(w':JW):Prop:=
 ∃(A:Option Addr) (n c:Nat) (xs:List Nat),e= .returned (.tuple #[.slice A n c,.bool (decide (z<0))])/\Jz B w' A n c xs z.natAbs/\Below w.heap.size w w'
theorem Xn{n:Int}{w':JW}{b B:Nat}(hn:I64 n)(h0:n≠0)(hb:B<=b)(hc:w'.cell? ⟨b,0,Jn⟩=Jo (Ji Ju n.natAbs)):Jz B w' (Jo ⟨b,0,Jn⟩) 1 1 [n.natAbs] n.natAbs:=by
 refine⟨⟨rfl,E4 _,fun _=>⟨b,0,rfl,UC hc,fun j u hu=>?_⟩⟩,by decide,by decide,fun d hd=>?_,.inr ?_,by simp[Je],fun a e=>?_⟩
 ·match j,hu with
  | 0,hu=>simp[u64s]at hu;subst hu;exact hc
 ·rw[List.mem_singleton.1 hd];exact QN hn
 ·simp[Je,Qk];omega
 ·injection e with e;subst e;exact hb
theorem ZJ(v:Value)(z:Int)(w:JW){B:Nat}(h:Jj B w v z)(hB:B<=w.heap.size) :
  Calls Tryz.prog 107 #[v] w (Eo z B w):=by
 rcases h with⟨hz,rfl⟩|⟨hz,p,A,n,c,xs,rfl,hp,_,hA,c0,c1,hl,hc,hn,hw,htt,hval⟩
 ·by_cases h0:z=0
  ·subst h0;clear hz;go_enter Tryz.func107,Tryz.ntmps107;go_wp2;exact bodyPost_ret (v:= .tuple #[.slice Jn 0 0,.bool false]) (by simp[results,Tryz.results107,go_sem]) rfl ⟨Jn,0,0,[],rfl,Jz.zero _ _,(E5 w.heap.size w).alloc (E4 _) _⟩
  ·refine(G7 z w hz h0).mono ?_;rintro e w' ⟨b,rfl,hb,hcell,hbel⟩;exact⟨_,_,_,_,rfl,Xn hz h0 (Fj hB hb) hcell,hbel⟩
 ·have Hfin:=Lh (show Jz B (w.alloc (Jc #[Ji Jl 0,Jp (Jo ⟨p,0,Jn⟩)] 29)) A n c xs z.natAbs from⟨hl.grow _,hc,hn,hw,htt,hval,hA⟩);have e0:=(IsL.grow_cell (o:=Jc #[Ji Jl 0,Jp (Jo ⟨p,0,Jn⟩)] 29) hp 0).trans c0;have e1:=(IsL.grow_cell (o:=Jc #[Ji Jl 0,Jp (Jo ⟨p,0,Jn⟩)] 29) hp 1).trans c1;clear hl hw htt hval hA hz hc hn;go_enter Tryz.func107,Tryz.ntmps107;go_wp2;go_quiet (fail)
  go_wp2;go_ret2;exact⟨A,n,c,xs,rfl,(Hfin.out).keep (below_drewN (E5 _ _) _),below_drewN ((E5 w.heap.size w).alloc (E4 _) _) _⟩
def cmpN(a b:Nat):Int:=if a<b then -1 else if b<a then 1 else 0
theorem JR(xs:List Nat)(k:Nat):Je xs=Je (xs.take k)+base (xs.take k).length*Je (xs.drop k):=by
 rw[←Qc,Fh]
theorem JK{xs:List Nat}(h:Jy xs)(k:Nat):Jy (xs.take k):=fun d hd=>h d (List.mem_of_mem_take hd)
theorem Us{a b:Nat}(h:a<=b):base a<=base b:=Fi (by decide) h
theorem Ur{xs ys:List Nat}(hx:Jy xs)(hy:Vf ys)(h:xs.length<ys.length):Je xs<Je ys:=by
 rcases hy with h0|h0
 ·omega
 ·exact Nat.lt_of_lt_of_le (JH hx) (Fj (Us (by omega)) h0)
theorem Ov{xs ys:List Nat}{k x y:Nat}(hx:Jy xs)(hk:k<xs.length)(hk2:k<ys.length)(hd:xs.drop (k+1)=ys.drop (k+1))(ex:xs.getD k 0=x)(ey:ys.getD k 0=y)(h:x<y):Je xs<Je ys:=by
 have e1:xs[k]=x:=by rw[←ex];simp[E8,hk]
 have e2:ys[k]=y:=by rw[←ey];simp[E8,hk2]
 rw[JR xs k,JR ys k,E7 hk,E7 hk2,hd,e1,e2];have h1:=JH (JK hx k);have l1:(xs.take k).length=k:=by simp;omega
 have l2:(ys.take k).length=k:=by simp;omega
 rw[l1]at h1 ⊢;rw[l2,Je,Je];have h2:base k*(x+18446744073709551616*Je (ys.drop (k+1))+1)<=base k*(y+18446744073709551616*Je (ys.drop (k+1))):=Fa _ (by omega);rw[EZ _ _ 1]at h2;omega
theorem ZZ{xs ys:List Nat}{k x:Nat}(hk:k<xs.length)(hk2:k<ys.length)(hd:xs.drop (k+1)=ys.drop (k+1))(ex:xs.getD k 0=x)(ey:ys.getD k 0=x):xs.drop k=ys.drop k:=by
 have e1:xs[k]=x:=by rw[←ex];simp[E8,hk]
 have e2:ys[k]=x:=by rw[←ey];simp[E8,hk2]
 rw[E7 hk,E7 hk2,hd,e1,e2]
theorem YW{a b:Nat}(h:a<b):cmpN a b=-1:=by unfold cmpN;rw[if_pos h]
theorem Zs{a b:Nat}(h:b<a):cmpN a b=1:=by unfold cmpN;rw[if_neg (by omega),if_pos h]
theorem Zt{a b:Nat}(h:a=b):cmpN a b=0:=by unfold cmpN;rw[if_neg (by omega),if_neg (by omega)]
theorem JI{B B':Nat}{A A':Option Addr}{n c n' c' m m':Nat}{xs ys:List Nat}(w:JW)(hx:Jz B w A n c xs m)(hy:Jz B' w A' n' c' ys m') :
  Calls Tryz.prog 133 #[.slice A n c,.slice A' n' c'] w fun e w'=>e= .returned (Ji Jl (cmpN m m'))/\Below w.heap.size w w':=by
 have hn:=hx.len;have hn':=hy.len;have hs:=hx.size;have hs':=hy.size;have hv:=hx.val;have hv':=hy.val;have hle:=hx.isl.2.1;have hle':=hy.isl.2.1;by_cases h1:n<n'
 ·have he:=YW (Ur hx.words hy.tight (by omega));rw[hv,hv']at he;rw[he];have t0:((n:Int) ==(n':Int))=false:=by rw[beq_eq_false_iff_ne];omega
  clear hx hy hs hs' hv hv' he;go_enter Tryz.func133,Tryz.ntmps133;go_wp2;go_ret;exact⟨rfl,E5 _ _⟩
 ·by_cases h2:n'<n
  ·have he:=Zs (Ur hy.words hx.tight (by omega));rw[hv,hv']at he;rw[he];have t0:((n:Int) ==(n':Int))=false:=by rw[beq_eq_false_iff_ne];omega
   clear hx hy hs hs' hv hv' he;go_enter Tryz.func133,Tryz.ntmps133;go_wp2;go_ret;exact⟨rfl,E5 _ _⟩
  ·obtain rfl:n=n':=by omega
   clear h1 h2;rcases Nat.eq_zero_or_pos n with h0|h0
   ·subst h0;have e1:xs=[]:=F0 hs;have e2:ys=[]:=F0 hs';subst e1 e2;have he:cmpN m m'=0:=Zt (by rw[←hv,←hv']);rw[he];clear hx hy hv hv' he hs hs';go_enter Tryz.func133,Tryz.ntmps133;go_wp2_with fail
    refine wp_loop_rounds 1 ?_;rw[rounds_succ];go_wp2;go_ret;exact⟨rfl,E5 _ _⟩
   ·obtain⟨b,o,rfl,hb,_,hcx⟩:=hx.at h0;obtain⟨b',o',rfl,hb',_,hcy⟩:=hy.at h0;have Hcx:=Lh hcx;have Hcy:=Lh hcy;have Hwx:=Lh hx.words;have Hwy:=Lh hy.words;have Hs:=Lh hs;have Hs':=Lh hs';have Hv:=Lh hv;have Hv':=Lh hv';clear hx hy hcx hcy hs hs' hv hv';go_enter Tryz.func133,Tryz.ntmps133;go_wp2_with fail
    go_loopw [5] (fun i wr=>∃k:Nat,k<=n/\i=Ji Jl ((k:Int)-1)/\xs.drop k=ys.drop k/\Below w.heap.size w wr) (fun i _=>(intOf i+1).toNat)
    case atStart=>exact⟨n,E4 _,rfl,by rw[Fg (by rw[Hs.out];exact E4 _),Fg (by rw[Hs'.out];exact E4 _)],E5 _ _⟩
    case round=>
     obtain⟨k,hk,rfl,hd,hbel⟩:=hrel;have Hbel:=Lh hbel;have Hd:=Lh hd;clear hd;cases k with
     | zero=>
      have he:cmpN m m'=0:=Zt (by rw[←Hv.out,←Hv'.out];have:=Hd.out;simp at this;rw[this]);have He:=Lh he;clear he;clear hbel;go_wp2;go_ret;exact⟨by rw[He.out];rfl,Hbel.out⟩
     | succ k=>
      have cx:=(hbel.cell (p:=⟨b,o+k,Jn⟩) hb).trans (Hcx.out k (by omega));have cy:=(hbel.cell (p:=⟨b',o'+k,Jn⟩) hb').trans (Hcy.out k (by omega));clear hbel;obtain⟨x,hx⟩:∃x,xs.getD k 0=x:=⟨_,rfl⟩;obtain⟨y,hy⟩:∃y,ys.getD k 0=y:=⟨_,rfl⟩;rw[hx]at cx;rw[hy]at cy;have Hx:=Lh hx;have Hy:=Lh hy;clear hx hy;by_cases h1:x<y
      ·have he:=YW (Ov Hwx.out (by have:=Hs.out;omega) (by have:=Hs'.out;omega) Hd.out Hx.out Hy.out h1);rw[Hv.out,Hv'.out]at he;have He:=Lh he;clear he;go_wp2;go_quiet (fail)
       go_wp2;go_ret;exact⟨by rw[He.out];rfl,by repeat (first|exact Hbel.out|refine below_drewN ?_ _)⟩
      ·by_cases h2:y<x
       ·have he:=Zs (Ov Hwy.out (by have:=Hs'.out;omega) (by have:=Hs.out;omega) Hd.out.symm Hy.out Hx.out h2);rw[Hv.out,Hv'.out]at he;have He:=Lh he;clear he;go_wp2;go_quiet (fail)
        go_wp2;go_quiet (fail)
        go_wp2;go_ret;exact⟨by rw[He.out];rfl,by repeat (first|exact Hbel.out|refine below_drewN ?_ _)⟩
       ·obtain rfl:x=y:=by omega
        have Hnew:=Lh (ZZ (by have:=Hs.out;omega) (by have:=Hs'.out;omega) Hd.out Hx.out Hy.out);go_wp2;go_quiet (fail)
        go_wp2;go_quiet (fail)
        go_wp2;exact⟨⟨k,by omega,by go_num,Hnew.out,by repeat (first|exact Hbel.out|refine below_drewN ?_ _)⟩,by simp[intOf] <;> omega⟩
theorem Vs(a b:Int)(w:JW) :
  Calls Tryz.prog 103 #[JN a,JN b] w fun e w'=>e= .returned (Ji Jl (if a<b then -1 else if b<a then 1 else 0))/\Below w.heap.size w w':=by
 rcases Int.lt_trichotomy a b with h|h|h
 ·rw[if_pos h];go_enter Tryz.func103,Tryz.ntmps103;go_wp2;go_ret;exact⟨rfl,by repeat (first|exact E5 _ _|refine Fl ?_ (by first|exact E4 _|(simp <;> omega)) _)⟩
 ·subst h;rw[if_neg (by omega),if_neg (by omega)];go_enter Tryz.func103,Tryz.ntmps103;go_wp2;go_ret;exact⟨rfl,by repeat (first|exact E5 _ _|refine Fl ?_ (by first|exact E4 _|(simp <;> omega)) _)⟩
 ·rw[if_neg (by omega),if_pos h];go_enter Tryz.func103,Tryz.ntmps103;go_wp2;go_ret;exact⟨rfl,by repeat (first|exact E5 _ _|refine Fl ?_ (by first|exact E4 _|(simp <;> omega)) _)⟩
def cmpZ(a b:Int):Int:=if a<b then -1 else if b<a then 1 else 0
theorem Ow{z k:Int}(hz:0<=z)(hk:0<=k):cmpN z.natAbs k.natAbs=cmpZ z k:=by
 unfold cmpN cmpZ;by_cases h1:z<k
 ·rw[if_pos h1,if_pos (by omega)]
 ·by_cases h2:k<z
  ·rw[if_neg h1,if_pos h2,if_neg (by omega),if_pos (by omega)]
  ·rw[if_neg h1,if_neg h2,if_neg (by omega),if_neg (by omega)]
theorem Ox{z k:Int}(hz:z<0)(hk:k<0):cmpN k.natAbs z.natAbs=cmpZ z k:=by
 unfold cmpN cmpZ;by_cases h1:z<k
 ·rw[if_pos h1,if_pos (by omega)]
 ·by_cases h2:k<z
  ·rw[if_neg h1,if_pos h2,if_neg (by omega),if_pos (by omega)]
  ·rw[if_neg h1,if_neg h2,if_neg (by omega),if_neg (by omega)]
theorem Jj.any{B:Nat}{w:JW}{v:Value}{z:Int}(h:Jj B w v z):Jj 0 w v z:=h.mono (E9 _)
theorem Jj.ways{B:Nat}{w:JW}{v:Value}{z:Int}(h:Jj B w v z):(I64 z/\v=JN z)\/(¬I64 z/\∃p,v= .agg #[Ji Jl 0,Jp (Jo ⟨p,0,Jn⟩)]/\p<w.heap.size/\w.cell? ⟨p,0,Jn⟩=Jo (.bool (decide (z<0)))):=by
 rcases h with h|⟨hz,p,A,n,c,xs,rfl,hp,_,_,c0,_⟩
 ·exact .inl h
 ·exact .inr ⟨hz,p,rfl,hp,c0⟩
theorem JF(v:Value)(z:Int)(w:JW)(b:Bool)(hb:decide (z<0)=b)(h:Jj 0 w v z) :
  Calls Tryz.prog 107 #[v] w fun e w'=>∃(A:Option Addr) (n c:Nat) (xs:List Nat),e= .returned (.tuple #[.slice A n c,.bool b])/\Jz 0 w' A n c xs z.natAbs/\Below w.heap.size w w':=by
 subst hb;exact ZJ v z w h (E9 _)
theorem Vu(a b:Int)(P Q:Option Addr)(z k:Int)(w:JW)(h:Jj 0 w (.agg #[Ji Jl a,Jp P]) z)(h':Jj 0 w (.agg #[Ji Jl b,Jp Q]) k)(p:Nat)(hp:P=Jo ⟨p,0,Jn⟩) :
  Calls Tryz.prog 103 #[.agg #[Ji Jl a,Jp P],.agg #[Ji Jl b,Jp Q]] w fun e w'=>e= .returned (Ji Jl (cmpZ z k))/\Below w.heap.size w w':=by
 subst hp;obtain⟨bz,hbz⟩:∃bz,decide (z<0)=bz:=⟨_,rfl⟩;obtain⟨bk,hbk⟩:∃bk,decide (k<0)=bk:=⟨_,rfl⟩;have kk:=((E5 w.heap.size w).alloc (E4 _) (Jc #[Ji Jl a,Jp (Jo ⟨p,0,Jn⟩)] 29)).alloc (by simp) (Jc #[Ji Jl b,Jp Q] 29);have Hx:=Lh (JF _ z _ bz hbz (h.keep kk));have Hy:=Lh (fun w' (hb:Below w.heap.size w w')=>JF _ k w' bk hbk (h'.keep hb));have Kk:=Lh kk;have Hbz:=Lh hbz;have Hbk:=Lh hbk;clear h h' kk hbz hbk;go_enter Tryz.func103,Tryz.ntmps103;go_wp2_with fail
 refine Hx.out.mono ?_;rintro e w1⟨A,n,c,xs,rfl,hx,h1⟩;have e1:w1.cell? ⟨w.heap.size+1,0,Jn⟩=Jo (Ji Jl b):=(h1.cell (p:=⟨w.heap.size+1,0,Jn⟩) (by simp)).trans (by simp[go_sem]);have e2:w1.cell? ⟨w.heap.size+1,1,Jn⟩=Jo (Jp Q):=(h1.cell (p:=⟨w.heap.size+1,1,Jn⟩) (by simp)).trans (by simp[go_sem]);have K1:=Lh (Kk.out.trans (h1.mono (by simp;omega)));have Hnx:=Lh hx;clear h1 hx;go_wp2_with fail
 refine(Hy.out _ K1.out).mono ?_;rintro e w2⟨A',n',c',ys,rfl,hy,h2⟩;have Hnx2:=Lh (Hnx.out.keep h2);have Hny:=Lh hy;have K2:=Lh (K1.out.trans (h2.mono K1.out.size));clear h2 hy e1 e2;cases bz <;> cases bk
 ·have hz:=of_decide_eq_false Hbz.out;have hk:=of_decide_eq_false Hbk.out;have He:=Lh (Ow (z:=z) (k:=k) (by omega) (by omega));clear hz hk;go_wp2_with fail
  refine(JI _ Hnx2.out Hny.out).mono ?_;rintro e w3⟨rfl,h3⟩;have K3:=Lh (K2.out.trans (h3.mono K2.out.size));clear h3;go_wp2;go_ret;exact⟨by rw[←He.out];rfl,K3.out⟩
 ·have hz:=of_decide_eq_false Hbz.out;have hk:=of_decide_eq_true Hbk.out;have He:=Lh (show cmpZ z k=1 by unfold cmpZ;rw[if_neg (by omega),if_pos (by omega)]);clear hz hk;go_wp2;go_ret;exact⟨by rw[He.out];rfl,K2.out⟩
 ·have hz:=of_decide_eq_true Hbz.out;have hk:=of_decide_eq_false Hbk.out;have He:=Lh (show cmpZ z k=-1 by unfold cmpZ;rw[if_pos (by omega)]);clear hz hk;go_wp2;go_ret;exact⟨by rw[He.out];rfl,K2.out⟩
 ·have hz:=of_decide_eq_true Hbz.out;have hk:=of_decide_eq_true Hbk.out;have He:=Lh (Ox (z:=z) (k:=k) (by omega) (by omega));clear hz hk;go_wp2_with fail
  refine(JI _ Hny.out Hnx2.out).mono ?_;rintro e w3⟨rfl,h3⟩;have K3:=Lh (K2.out.trans (h3.mono K2.out.size));clear h3;go_wp2;go_ret;exact⟨by rw[←He.out];rfl,K3.out⟩
theorem Vt(a b:Int)(Q:Option Addr)(z k:Int)(w:JW)(h:Jj 0 w (.agg #[Ji Jl a,Jp Jn]) z)(h':Jj 0 w (.agg #[Ji Jl b,Jp Q]) k)(p:Nat)(hp:Q=Jo ⟨p,0,Jn⟩) :
  Calls Tryz.prog 103 #[.agg #[Ji Jl a,Jp Jn],.agg #[Ji Jl b,Jp Q]] w fun e w'=>e= .returned (Ji Jl (cmpZ z k))/\Below w.heap.size w w':=by
 subst hp;obtain⟨bz,hbz⟩:∃bz,decide (z<0)=bz:=⟨_,rfl⟩;obtain⟨bk,hbk⟩:∃bk,decide (k<0)=bk:=⟨_,rfl⟩;have kk:=((E5 w.heap.size w).alloc (E4 _) (Jc #[Ji Jl a,Jp Jn] 29)).alloc (by simp) (Jc #[Ji Jl b,Jp (Jo ⟨p,0,Jn⟩)] 29);have Hx:=Lh (JF _ z _ bz hbz (h.keep kk));have Hy:=Lh (fun w' (hb:Below w.heap.size w w')=>JF _ k w' bk hbk (h'.keep hb));have Kk:=Lh kk;have Hbz:=Lh hbz;have Hbk:=Lh hbk;clear h h' kk hbz hbk;go_enter Tryz.func103,Tryz.ntmps103;go_wp2_with fail
 refine Hx.out.mono ?_;rintro e w1⟨A,n,c,xs,rfl,hx,h1⟩;have e1:w1.cell? ⟨w.heap.size+1,0,Jn⟩=Jo (Ji Jl b):=(h1.cell (p:=⟨w.heap.size+1,0,Jn⟩) (by simp)).trans (by simp[go_sem]);have e2:w1.cell? ⟨w.heap.size+1,1,Jn⟩=Jo (Jp (Jo ⟨p,0,Jn⟩)):=(h1.cell (p:=⟨w.heap.size+1,1,Jn⟩) (by simp)).trans (by simp[go_sem]);have K1:=Lh (Kk.out.trans (h1.mono (by simp;omega)));have Hnx:=Lh hx;clear h1 hx;go_wp2_with fail
 refine(Hy.out _ K1.out).mono ?_;rintro e w2⟨A',n',c',ys,rfl,hy,h2⟩;have Hnx2:=Lh (Hnx.out.keep h2);have Hny:=Lh hy;have K2:=Lh (K1.out.trans (h2.mono K1.out.size));clear h2 hy e1 e2;cases bz <;> cases bk
 ·have hz:=of_decide_eq_false Hbz.out;have hk:=of_decide_eq_false Hbk.out;have He:=Lh (Ow (z:=z) (k:=k) (by omega) (by omega));clear hz hk;go_wp2_with fail
  refine(JI _ Hnx2.out Hny.out).mono ?_;rintro e w3⟨rfl,h3⟩;have K3:=Lh (K2.out.trans (h3.mono K2.out.size));clear h3;go_wp2;go_ret;exact⟨by rw[←He.out];rfl,K3.out⟩
 ·have hz:=of_decide_eq_false Hbz.out;have hk:=of_decide_eq_true Hbk.out;have He:=Lh (show cmpZ z k=1 by unfold cmpZ;rw[if_neg (by omega),if_pos (by omega)]);clear hz hk;go_wp2;go_ret;exact⟨by rw[He.out];rfl,K2.out⟩
 ·have hz:=of_decide_eq_true Hbz.out;have hk:=of_decide_eq_false Hbk.out;have He:=Lh (show cmpZ z k=-1 by unfold cmpZ;rw[if_pos (by omega)]);clear hz hk;go_wp2;go_ret;exact⟨by rw[He.out];rfl,K2.out⟩
 ·have hz:=of_decide_eq_true Hbz.out;have hk:=of_decide_eq_true Hbk.out;have He:=Lh (Ox (z:=z) (k:=k) (by omega) (by omega));clear hz hk;go_wp2_with fail
  refine(JI _ Hny.out Hnx2.out).mono ?_;rintro e w3⟨rfl,h3⟩;have K3:=Lh (K2.out.trans (h3.mono K2.out.size));clear h3;go_wp2;go_ret;exact⟨by rw[←He.out];rfl,K3.out⟩
theorem Xj(v u:Value)(z k:Int)(w:JW)(h:Jj 0 w v z)(h':Jj 0 w u k) :
  Calls Tryz.prog 103 #[v,u] w fun e w'=>e= .returned (Ji Jl (cmpZ z k))/\Below w.heap.size w w':=by
 rcases h.ways with⟨hz,rfl⟩|⟨hz,p,rfl,hp,c0⟩
 ·rcases h'.ways with⟨hk,rfl⟩|⟨hk,q,rfl,hq,d0⟩
  ·exact Vs z k w
  ·exact Vt _ _ _ z k w h h' q rfl
 ·obtain⟨b,Q,rfl⟩:=h'.form;exact Vu _ _ _ _ z k w h h' p rfl
theorem QA(v:Value)(z:Int)(w:JW)(h:Jj 0 w v z) :
  Calls Tryz.prog 81 #[v] w fun e w'=>e= .returned (Ji Jl (sgn z))/\Below w.heap.size w w':=by
 rcases h.ways with⟨hz,rfl⟩|⟨hz,p,rfl,hp,c0⟩
 ·exact GS z w
 ·unfold I64 at hz;have e0:=(IsL.grow_cell (o:=Jc #[Ji Jl 0,Jp (Jo ⟨p,0,Jn⟩)] 29) hp 0).trans c0;by_cases hneg:z<0
  ·have He:=Lh (show sgn z=-1 by unfold sgn;rw[if_pos hneg]);rw[decide_eq_true hneg]at e0;clear h hz c0 hneg;go_enter Tryz.func81,Tryz.ntmps81;go_wp2;go_ret;exact⟨by rw[He.out];rfl,(E5 _ _).alloc (E4 _) _⟩
  ·have He:=Lh (show sgn z=1 by unfold sgn;rw[if_neg hneg,if_pos (by omega)]);rw[decide_eq_false hneg]at e0;clear h hz c0 hneg;go_enter Tryz.func81,Tryz.ntmps81;go_wp2;go_ret;exact⟨by rw[He.out];rfl,(E5 _ _).alloc (E4 _) _⟩
def dval:List Int->Nat
 | []=>0
 | d :: r=>d.toNat+10*dval r
def Dig(l:List Int):Prop:=∀x∈l,0<=x/\x<=9
def ten(n:Nat):Nat:=10^n
theorem GN(n:Nat):ten (n+1)=10*ten n:=by unfold ten;rw[Nat.pow_succ,Nat.mul_comm]
theorem Zb(n:Nat):0<ten n:=Nat.pow_pos (by decide)
theorem QB{a b:Nat}(h:a<=b):ten a<=ten b:=Fi (by decide) h
theorem Ea{l:List Int}(h:Dig l):dval l<ten l.length:=by
 induction l with
 | nil=>exact Nat.one_pos
 | cons d r ih=>
  rw[dval,List.length_cons,GN];have h1:=h d (List.mem_cons_self ..);have h2:=ih (fun x hx=>h x (List.mem_cons_of_mem _ hx));omega
theorem Xc(u:Nat):dval (digN u)=u:=by
 induction u using Nat.strongRecOn with
 | _ u ih=>
  by_cases h0:u=0
  ·subst h0;rw[Qa];rfl
  ·rw[Qt h0,dval,ih (u/10) (by omega)];omega
theorem Uc(u:Nat):Dig (digN u):=Kj u
theorem Zq(u:Nat):u<ten (digN u).length:=by
 have:=Ea (Uc u)
 rwa [Xc]at this
def txt(z:Int):ByteArray:=YG (decide (z<0)) (digN z.natAbs)
def zOf(s:ByteArray):Int:=Jx (XU s) (decV (QD s).data.toList)
theorem KH{s:ByteArray}(h:UM s=0):txt (zOf s)=s:=OD h
theorem Xz:txt 0=⟨#[48]⟩:=by
 unfold txt YG;rw[show(0:Int).natAbs=0 from rfl,Qa];rfl
theorem U1{z:Int}(h:z≠0):txt z=strOfNums ((if z<0 then[45] else[]) ++ (digN z.natAbs).reverse.map (48+·)):=by
 have e:txt z=YG (decide (z<0)) (digN z.natAbs):=rfl;rw[e,Uw _ (by omega)];unfold sig;rw[List.map_reverse];by_cases hz:z<0 <;> simp[hz]
theorem U9(l:List Int):(strOfNums l).data.toList=l.map fun n=>Fb n.toNat:=by
 simp[strOfNums]
def dl(l:List UInt8):List Int:=(l.filter (· !=45)).reverse.map fun c=>(c.toNat:Int)-48
theorem Kc(l:List UInt8):dl (45 :: l)=dl l:=by unfold dl;rw[List.filter_cons_of_neg (by decide)]
theorem EC:∀l:List Int,Dig l->dl (l.reverse.map fun d=>Fb (48+d).toNat)=l:=by
 intro l h;unfold dl;have hf:(l.reverse.map fun d=>Fb (48+d).toNat).filter (· !=45)=l.reverse.map fun d=>Fb (48+d).toNat:=by
  rw[List.filter_eq_self];intro c hc;obtain⟨d,hd,rfl⟩:=List.mem_map.1 hc;have:=h d (by simpa using hd);simp only[bne_iff_ne,ne_eq];intro e;have e2:=congrArg UInt8.toNat e;rw[Fc]at e2;simp at e2;omega
 rw[hf,←List.map_reverse,List.reverse_reverse,List.map_map]
 conv=>rhs;rw[←List.map_id l]
 apply List.map_congr_left;intro d hd;have:=h d hd;simp only[Function.comp,id];rw[Fc];omega
theorem Ka(z:Int):Dig (dl (txt z).data.toList)/\dval (dl (txt z).data.toList)=z.natAbs:=by
 by_cases h0:z=0
 ·subst h0;rw[Xz];have e:dl (⟨#[48]⟩:ByteArray).data.toList=[0]:=by decide
  rw[e];exact⟨fun x hx=>by rw[List.mem_singleton.1 hx];decide,rfl⟩
 ·have e:dl (txt z).data.toList=digN z.natAbs:=by
   rw[U1 h0,U9];have hd:=EC _ (Uc z.natAbs);by_cases hz:z<0
   ·rw[if_pos hz,List.map_append,List.map_map,←hd];exact(Kc _).trans (by rw[hd];exact hd)
   ·rw[if_neg hz,Fm,List.map_map];exact hd
  rw[e];exact⟨Uc _,Xc _⟩
theorem Vx{z:Int}(h:z≠0):∃(n:Nat) (hs:0<(txt z).size),((txt z)[0]).toNat=n/\(z<0->n=45)/\(0<z->49<=n/\n<=57):=by
 have e:=U1 h;have hl:(txt z).data.toList=((if z<0 then[45] else[]) ++ (digN z.natAbs).reverse.map (48+·)).map fun n:Int=>Fb n.toNat:=by rw[e,U9]
 have hne:digN z.natAbs≠[]:=by rw[Qt (by omega)];simp
 obtain⟨d,hd⟩:∃d,(digN z.natAbs).getLast?=Jo d:=⟨_,List.getLast?_eq_some_getLast hne⟩;have hd0:d≠0:=fun e=>Xd z.natAbs (by rw[hd,e]);have hdm:=Uc z.natAbs d (List.mem_of_getLast? hd);have hs:0<(txt z).size:=by
  rw[←UB,hl];simp only[List.length_map,List.length_append,List.length_reverse];have:=List.length_pos_iff.mpr hne;omega
 have hh:=KW hs;rw[hl]at hh;refine⟨_,hs,rfl,fun hz=>?_,fun hz=>?_⟩
 ·rw[if_pos hz]at hh;simp at hh;rw[←hh]
  decide
 ·rw[if_neg (by omega),Fm,List.map_map,List.head?_map,List.head?_reverse,hd]at hh;simp at hh;rw[←hh,Fc];omega
theorem XA(z:Int){k:Nat}(h:z.natAbs<ten k)(hk:0<k):(txt z).size<=k+1:=by
 by_cases h0:z=0
 ·subst h0;rw[Xz];show 1<=k+1;omega
 ·rw[U1 h0,strOfNums_size];have:=UN k z.natAbs h
  split <;> simp <;> omega
structure Yx (w:JW) (A:Option Addr) (n c:Nat) (xs:List Int) (m:Nat):Prop where
 isl:IsL w A n c (ints xs)
 cap:c<=9223372036854775807
 len:n<4294967296
 dig:Dig xs
 tight:xs=digN m
theorem Xh(xs:List Int):(ints xs).length=xs.length:=by simp[ints]
theorem Yx.size{w:JW}{A:Option Addr}{n c m:Nat}{xs:List Int}(h:Yx w A n c xs m):xs.length=n:=by
 have:=h.isl.1;rwa [Xh]at this
theorem Yx.val{w:JW}{A:Option Addr}{n c m:Nat}{xs:List Int}(h:Yx w A n c xs m):dval xs=m:=by
 rw[h.tight,Xc]
theorem Yx.at{w:JW}{A:Option Addr}{n c m:Nat}{xs:List Int}(h:Yx w A n c xs m)(h0:0<n):∃b o,A=Jo ⟨b,o,Jn⟩/\b<w.heap.size/\∀k:Nat,k<n->w.cell? ⟨b,o+k,Jn⟩=Jo (Ji Jl (xs.getD k 0)):=by
 obtain⟨b,o,e,hb,hc⟩:=h.isl.2.2 h0;exact⟨b,o,e,hb,fun k hk=>hc k _ (by have:=h.size;simp[ints,show k<xs.length by omega])⟩
theorem Yx.keep{w w':JW}{A:Option Addr}{n c m:Nat}{xs:List Int}(h:Yx w A n c xs m)(hb:Below w.heap.size w w'):Yx w' A n c xs m:=
 ⟨h.isl.keep hb,h.cap,h.len,h.dig,h.tight⟩
theorem JY{ys:List Nat}{s:Nat}(hy:Jy ys)(hs:s<18446744073709551616):Jy (ys ++ [s]):=by
 intro x hx;rcases List.mem_append.1 hx with hx|hx
 ·exact hy x hx
 ·rw[List.mem_singleton.1 hx];exact hs
theorem JQ{a b:List Nat}(ha:Jy a)(hb:Jy b):Jy (a ++ b):=by
 intro x hx;rcases List.mem_append.1 hx with hx|hx
 ·exact ha x hx
 ·exact hb x hx
theorem QF{xs:List Nat}(h:Jy xs)(k:Nat):Jy (xs.drop k):=fun d hd=>h d (List.mem_of_mem_drop hd)
theorem JG{xs:List Nat}(h:Jy xs)(k:Nat):xs.getD k 0<18446744073709551616:=by
 by_cases hk:k<xs.length
 ·have e:xs.getD k 0=xs[k]:=by simp[E8,hk]
  rw[e];exact h _ (List.getElem_mem hk)
 ·have e:xs.getD k 0=0:=by simp[E8,EY (by omega:xs.length<=k)]
  rw[e];decide
theorem Zd{xs:List Nat}{k d:Nat}(hk:k<xs.length)(hd:xs.getD k 0=d):xs.take (k+1)=xs.take k ++ [d]:=by
 rw[List.take_succ_eq_append_getElem hk,←hd];simp[E8,hk]
theorem JX{xs:List Nat}{k d:Nat}(hd:xs.getD k 0=d):Je (xs.take (k+1))=Je (xs.take k)+base k*d:=by
 by_cases hk:k<xs.length
 ·rw[Zd hk hd,JB,List.length_take,Ff (by omega)]
 ·have e:d=0:=by rw[←hd];simp[E8,EY (by omega:xs.length<=k)]
  rw[e,E6 (by omega),E6 (by omega)];rfl
theorem GZ{xs:List Nat}{o n:Nat}{rs:List Nat}(h:rs.length<=n)(hn:o+n<=xs.length):put xs o rs=put xs o (rs ++ ((xs.drop o).take n).drop rs.length):=by
 unfold put;rw[Fe,Fe,Fe]
 congr 2
 rw[List.drop_take,List.drop_drop];have e:o+(rs ++ ((xs.drop (o+rs.length)).take (n-rs.length))).length=o+rs.length+(n-rs.length):=by simp;omega
 have e3:xs.drop (o+rs.length+(n-rs.length))=(xs.drop (o+rs.length)).drop (n-rs.length):=by rw[List.drop_drop]
 rw[e,e3,Fh]
def Vl(w0:JW)(g o n:Nat)(xs ys:List Nat)(k:Nat)(vc:Value)(wr:JW):Prop:=
 ∃(rs:List Nat) (c:Nat),rs.length=k/\k<=n/\vc=Ji Ju (c:Nat)/\c<=1/\Jy rs/\Je rs+base k*c=Je ((xs.drop o).take k)+Je (ys.take k)/\Blk wr g (put xs o rs)/\Only g w0 wr
theorem Vd{w0 wr:JW}{g o n k x y c s f m:Nat}{xs ys rs:List Nat}(hk:rs.length=k)(hkn:k<n)(ho:o+n<=xs.length)(hx:xs.getD (o+k) 0=x)(hy:ys.getD k 0=y)(hx1:x<18446744073709551616)(hy1:y<18446744073709551616)(hc:c<=1)
  (hs:(x+y+c)%18446744073709551616=s) (hf:(x+y+c)/18446744073709551616=f) (hw:Jy rs) (hv:Je rs+base k*c=Je ((xs.drop o).take k)+Je (ys.take k)) (hb:Blk wr g (put xs o rs)) (ho2:Only g w0 wr) :
  Vl w0 g o n xs ys (k+1) (Ji Ju (f:Int)) ((wr.drewN m).setCell ⟨g,o+k,Jn⟩ (Ji Ju (s:Int))):=by
 have e1:s+18446744073709551616*f=x+y+c:=by omega
 refine⟨rs ++ [s],f,by simp;omega,by omega,rfl,by omega,JY hw (by omega),?_,?_,(ho2.drewN m).set_ _ _⟩
 ·rw[JB,hk,Yo (by omega) hx,JB,QL (by omega),JX hy,JJ];have e2:base k*s+18446744073709551616*base k*f=base k*(x+y+c):=by rw[←e1];simp only[EZ,Fp,Fk]
  rw[EZ,EZ]at e2;omega
 ·subst hk;rw[←QJ (by omega)];exact(hb.drewN m).set_ _ (by rw[Jv (by omega)];omega)
theorem Kv{k n c:Nat}{xs ys rs:List Nat}{o:Nat}(_hk:rs.length=k)(hkn:k<=n)(hyk:ys.length<=k)(hc:c≠0)(hv:Je rs+base k*c=Je ((xs.drop o).take k)+Je (ys.take k))(hroom:Je ((xs.drop o).take n)+Je ys<base n):k<n:=by
 rcases Fq k n with h|h
 ·exact h
 ·exfalso;obtain rfl:k=n:=by omega
  rw[E6 hyk]at hv;have h1:base k*1<=base k*c:=Fa _ (by omega);omega
theorem Em{wr:JW}{g o n k:Nat}{xs ys rs:List Nat}(hx:Jy xs)(hk:rs.length=k)(hkn:k<=n)(ho:o+n<=xs.length)(hyk:ys.length<=k)(hw:Jy rs)(hv:Je rs+base k*0=Je ((xs.drop o).take k)+Je (ys.take k))(hb:Blk wr g (put xs o rs)) :
  ∃zs:List Nat,zs.length=n/\Jy zs/\Je zs=Je ((xs.drop o).take n)+Je ys/\Blk wr g (put xs o zs):=by
 refine⟨rs ++ ((xs.drop o).take n).drop rs.length,by simp;omega,JQ hw (QF (JK (QF hx o) n) _),?_,by rw[←GZ (by omega) ho];exact hb⟩;rw[E6 hyk]at hv;rw[Qc,hk,JR ((xs.drop o).take n) k,Fo,Ff hkn,QL (by omega)];omega
theorem Xl(g o n c n' c':Nat)(A':Option Addr)(xs ys:List Nat)(w:JW)(hb:Blk w g xs)(hl:IsL w A' n' c' (u64s ys))(hA:0<n'->∀a:Addr,A'=Jo a->a.block≠g)(ho:o+n<=xs.length)(hn':n'<=n)(hx:Jy xs)(hy:Jy ys)(hn:n<1000000)(_hoo:o<1000000)
  (hroom:Je ((xs.drop o).take n)+Je ys<base n) :
  Calls Tryz.prog 163 #[.slice (Jo ⟨g,o,Jn⟩) n c,.slice A' n' c'] w fun e w'=>
   e= .returned (.tuple #[])/\(∃zs:List Nat,zs.length=n/\Jy zs/\Je zs=Je ((xs.drop o).take n)+Je ys/\Blk w' g (put xs o zs))/\Only g w w':=by
 have hlen:ys.length=n':=by have:=hl.1;rwa [JS]at this
 have Hb:=Lh hb;have Hx:=Lh hx;have Hy:=Lh hy;have Hl:=Lh hl;have HA:=Lh hA;have Hlen:=Lh hlen;have Hroom:=Lh hroom;clear hb hx hy hl hA hlen hroom;go_enter Tryz.func163,Tryz.ntmps163;go_wp2_with fail
 go_loopw [9,4] (fun vi vc wr=>∃k:Nat,k<=n'/\vi=Ji Jl (k:Nat)/\Vl w g o n xs ys k vc wr) (fun vi _ _=>n'-(intOf vi).toNat)
 case atStart=>exact⟨0,E9 _,rfl,[],0,rfl,E9 _,rfl,E9 _,fun d hd=>absurd hd (by simp),by simp[Je,Qk],by rw[Yz];exact Hb.out,Only.refl _ _⟩
 case round=>
  obtain⟨k,hk,rfl,rs,cc,hrk,hkn,rfl,hc1,hw,hv,hblk,honly⟩:=hrel;have Hrk:=Lh hrk;have Hw:=Lh hw;have Hv:=Lh hv;have Hblk:=Lh hblk;have Honly:=Lh honly;by_cases hlt:k<n'
  ·obtain⟨b',o',rfl,hb',hc'⟩:=Hl.out.2.2 (by omega);have hne:b'≠g:=HA.out (by omega) _ rfl;have hcell:=hblk.cell (i:=o+k) (by rw[Jv (by omega)];omega);rw[QM (by omega) (by omega)]at hcell;have hfz:=hblk.frozen (o+k);have hcy:=(honly.cell (o:=o'+k) hb' hne).trans (hc' k (Ji Ju ((ys.getD k 0:Nat):Int)) (by have:=Hlen.out;simp[u64s,show k<ys.length by omega]));have hx1:=JG Hx.out (o+k);have hy1:=JG Hy.out k;obtain⟨x,hx⟩:∃x,xs.getD (o+k) 0=x:=⟨_,rfl⟩;obtain⟨y,hy⟩:∃y,ys.getD k 0=y:=⟨_,rfl⟩;rw[hx]at hcell hx1;rw[hy]at hcy;rw[hy]at hy1;have HX:=Lh hx;have HY:=Lh hy;clear hc' hblk honly hw hv hrk hx hy;obtain⟨s,hs⟩:∃s,(x+y+cc)%18446744073709551616=s:=⟨_,rfl⟩;obtain⟨f,hf⟩:∃f,(x+y+cc)/18446744073709551616=f:=⟨_,rfl⟩;have hadd:∀W:JW,(callFunc 169 #[Ji Ju (x:Int),Ji Ju (y:Int),Ji Ju (cc:Int)]).run Tryz.prog W= .ok (.value (.tuple #[Ji Ju (s:Int),Ji Ju (f:Int)])) W:=Yv x y cc s f hc1 hs hf;have Hs:=Lh hs;have Hf:=Lh hf;clear hs hf;go_wp2_with fail
   go_region
   all_goals
    have Hfin:=Lh (Vd (m:=1) Hrk.out (show k<n by omega) ho HX.out HY.out hx1 hy1 hc1 Hs.out Hf.out Hw.out Hv.out Hblk.out Honly.out);go_wp2_with fail
    exact⟨⟨k+1,hlt,by go_num,Hfin.out⟩,by simp[intOf] <;> omega⟩
  ·obtain rfl:k=n':=by omega
   have Hinv:=Lh (show Vl w g o n xs ys k (Ji Ju (cc:Nat)) wr from⟨rs,cc,Hrk.out,hkn,rfl,hc1,Hw.out,Hv.out,Hblk.out,Honly.out⟩);clear hblk honly hw hv hrk;go_wp2_with fail
   go_loopw [6,4] (fun vi vc wr=>∃j:Nat,k<=j/\vi=Ji Jl (j:Nat)/\Vl w g o n xs ys j vc wr) (fun vi _ _=>n-(intOf vi).toNat)
   case atStart=>exact⟨k,E4 _,rfl,Hinv.out⟩
   case round=>
    obtain⟨j,hj,rfl,rs,cc,hrk,hkn,rfl,hc1,hw,hv,hblk,honly⟩:=hrel;have Hrk:=Lh hrk;have Hw:=Lh hw;have Hv:=Lh hv;have Hblk:=Lh hblk;have Honly:=Lh honly;have hyj:ys.length<=j:=by rw[Hlen.out];exact hj
    by_cases h0:cc=0
    ·subst h0;have Hfin:=Lh (Em Hx.out hrk hkn ho hyj hw hv hblk);clear hblk honly hw hv hrk hyj;go_wp2;go_end0
     exact⟨rfl,Hfin.out,Honly.out⟩
    ·have hlt:=Kv hrk hkn hyj h0 hv Hroom.out;have hcell:=hblk.cell (i:=o+j) (by rw[Jv (by omega)];omega);rw[QM (by omega) (by omega)]at hcell;have hfz:=hblk.frozen (o+j);have hx1:=JG Hx.out (o+j);obtain⟨x,hx⟩:∃x,xs.getD (o+j) 0=x:=⟨_,rfl⟩;have hy:ys.getD j 0=0:=by simp[E8,EY hyj]
     rw[hx]at hcell hx1;have HX:=Lh hx;have HY:=Lh hy;have t0:((cc:Int) ==0)=false:=by rw[beq_eq_false_iff_ne];omega
     clear hblk honly hw hv hrk hx hy hyj;obtain⟨s,hs⟩:∃s,(x+0+cc)%18446744073709551616=s:=⟨_,rfl⟩;obtain⟨f,hf⟩:∃f,(x+0+cc)/18446744073709551616=f:=⟨_,rfl⟩;have hadd:∀W:JW,(callFunc 169 #[Ji Ju (x:Int),Ji Ju 0,Ji Ju (cc:Int)]).run Tryz.prog W= .ok (.value (.tuple #[Ji Ju (s:Int),Ji Ju (f:Int)])) W:=Yv x 0 cc s f hc1 hs hf;have Hs:=Lh hs;have Hf:=Lh hf;clear hs hf;have Hfin:=Lh (Vd (m:=0) Hrk.out hlt ho HX.out HY.out hx1 (by decide) hc1 Hs.out Hf.out Hw.out Hv.out Hblk.out Honly.out);go_wp2_with fail
     exact⟨⟨j+1,by omega,by go_num,Hfin.out⟩,by simp[intOf] <;> omega⟩
def GB(w0:JW)(g o n:Nat)(xs ys:List Nat)(k:Nat)(vc:Value)(wr:JW):Prop:=
 ∃(rs:List Nat) (c:Nat),rs.length=k/\k<=n/\vc=Ji Ju (c:Nat)/\c<=1/\Jy rs/\Je rs+Je (ys.take k)=Je ((xs.drop o).take k)+base k*c/\Blk wr g (put xs o rs)/\Only g w0 wr
theorem GO{w0 wr:JW}{g o n k x y c s f m:Nat}{xs ys rs:List Nat}(hk:rs.length=k)(hkn:k<n)(ho:o+n<=xs.length)(hx:xs.getD (o+k) 0=x)(hy:ys.getD k 0=y)(hx1:x<18446744073709551616)(hy1:y<18446744073709551616)(hc:c<=1)
  (hs:(x+18446744073709551616-y-c)%18446744073709551616=s) (hf:(if x<y+c then 1 else 0)=f) (hw:Jy rs) (hv:Je rs+Je (ys.take k)=Je ((xs.drop o).take k)+base k*c) (hb:Blk wr g (put xs o rs)) (ho2:Only g w0 wr) :
  GB w0 g o n xs ys (k+1) (Ji Ju (f:Int)) ((wr.drewN m).setCell ⟨g,o+k,Jn⟩ (Ji Ju (s:Int))):=by
 have e1:s+y+c=x+18446744073709551616*f:=by
  by_cases h1:x<y+c
  ·rw[if_pos h1]at hf;omega
  ·rw[if_neg h1]at hf;omega
 have e0:f<=1:=by rw[←hf];split <;> omega
 refine⟨rs ++ [s],f,by simp;omega,by omega,rfl,e0,JY hw (by omega),?_,?_,(ho2.drewN m).set_ _ _⟩
 ·rw[JB,hk,Yo (by omega) hx,JB,QL (by omega),JX hy,JJ];have e2:base k*x+18446744073709551616*base k*f=base k*(s+y+c):=by rw[e1];simp only[EZ,Fp,Fk]
  rw[EZ,EZ]at e2;omega
 ·subst hk;rw[←QJ (by omega)];exact(hb.drewN m).set_ _ (by rw[Jv (by omega)];omega)
theorem Wt{k n c:Nat}{xs ys rs:List Nat}{o:Nat}(hw:Jy rs)(hk:rs.length=k)(hkn:k<=n)(hyk:ys.length<=k)(hc:c≠0)(hv:Je rs+Je (ys.take k)=Je ((xs.drop o).take k)+base k*c)(hroom:Je ys<=Je ((xs.drop o).take n)):k<n:=by
 rcases Fq k n with h|h
 ·exact h
 ·exfalso;obtain rfl:k=n:=by omega
  rw[E6 hyk]at hv;have h1:base k*1<=base k*c:=Fa _ (by omega);have h2:=JH hw;rw[hk]at h2;omega
theorem KL{wr:JW}{g o n k:Nat}{xs ys rs:List Nat}(hx:Jy xs)(hk:rs.length=k)(hkn:k<=n)(ho:o+n<=xs.length)(hyk:ys.length<=k)(hw:Jy rs)(hv:Je rs+Je (ys.take k)=Je ((xs.drop o).take k)+base k*0)(hb:Blk wr g (put xs o rs)) :
  ∃zs:List Nat,zs.length=n/\Jy zs/\Je zs+Je ys=Je ((xs.drop o).take n)/\Blk wr g (put xs o zs):=by
 refine⟨rs ++ ((xs.drop o).take n).drop rs.length,by simp;omega,JQ hw (QF (JK (QF hx o) n) _),?_,by rw[←GZ (by omega) ho];exact hb⟩;rw[E6 hyk]at hv;rw[Qc,hk,JR ((xs.drop o).take n) k,Fo,Ff hkn,QL (by omega)];omega
theorem GP(g o n c n' c':Nat)(A':Option Addr)(xs ys:List Nat)(w:JW)(hb:Blk w g xs)(hl:IsL w A' n' c' (u64s ys))(hA:0<n'->∀a:Addr,A'=Jo a->a.block≠g)(ho:o+n<=xs.length)(hn':n'<=n)(hx:Jy xs)(hy:Jy ys)(hn:n<1000000)(_hoo:o<1000000)
  (hroom:Je ys<=Je ((xs.drop o).take n)) :
  Calls Tryz.prog 164 #[.slice (Jo ⟨g,o,Jn⟩) n c,.slice A' n' c'] w fun e w'=>
   e= .returned (.tuple #[])/\(∃zs:List Nat,zs.length=n/\Jy zs/\Je zs+Je ys=Je ((xs.drop o).take n)/\Blk w' g (put xs o zs))/\Only g w w':=by
 have hlen:ys.length=n':=by have:=hl.1;rwa [JS]at this
 have Hb:=Lh hb;have Hx:=Lh hx;have Hy:=Lh hy;have Hl:=Lh hl;have HA:=Lh hA;have Hlen:=Lh hlen;have Hroom:=Lh hroom;clear hb hx hy hl hA hlen hroom;go_enter Tryz.func164,Tryz.ntmps164;go_wp2_with fail
 go_loopw [9,4] (fun vi vc wr=>∃k:Nat,k<=n'/\vi=Ji Jl (k:Nat)/\GB w g o n xs ys k vc wr) (fun vi _ _=>n'-(intOf vi).toNat)
 case atStart=>exact⟨0,E9 _,rfl,[],0,rfl,E9 _,rfl,E9 _,fun d hd=>absurd hd (by simp),by simp[Je,Qk],by rw[Yz];exact Hb.out,Only.refl _ _⟩
 case round=>
  obtain⟨k,hk,rfl,rs,cc,hrk,hkn,rfl,hc1,hw,hv,hblk,honly⟩:=hrel;have Hrk:=Lh hrk;have Hw:=Lh hw;have Hv:=Lh hv;have Hblk:=Lh hblk;have Honly:=Lh honly;by_cases hlt:k<n'
  ·obtain⟨b',o',rfl,hb',hc'⟩:=Hl.out.2.2 (by omega);have hne:b'≠g:=HA.out (by omega) _ rfl;have hcell:=hblk.cell (i:=o+k) (by rw[Jv (by omega)];omega);rw[QM (by omega) (by omega)]at hcell;have hfz:=hblk.frozen (o+k);have hcy:=(honly.cell (o:=o'+k) hb' hne).trans (hc' k (Ji Ju ((ys.getD k 0:Nat):Int)) (by have:=Hlen.out;simp[u64s,show k<ys.length by omega]));have hx1:=JG Hx.out (o+k);have hy1:=JG Hy.out k;obtain⟨x,hx⟩:∃x,xs.getD (o+k) 0=x:=⟨_,rfl⟩;obtain⟨y,hy⟩:∃y,ys.getD k 0=y:=⟨_,rfl⟩;rw[hx]at hcell hx1;rw[hy]at hcy;rw[hy]at hy1;have HX:=Lh hx;have HY:=Lh hy;clear hc' hblk honly hw hv hrk hx hy;obtain⟨s,hs⟩:∃s,(x+18446744073709551616-y-cc)%18446744073709551616=s:=⟨_,rfl⟩;obtain⟨f,hf⟩:∃f,(if x<y+cc then 1 else 0)=f:=⟨_,rfl⟩;have hsub:∀W:JW,(callFunc 166 #[Ji Ju (x:Int),Ji Ju (y:Int),Ji Ju (cc:Int)]).run Tryz.prog W= .ok (.value (.tuple #[Ji Ju (s:Int),Ji Ju (f:Int)])) W:=Y0 x y cc s f hc1 hs hf;have Hs:=Lh hs;have Hf:=Lh hf;clear hs hf;go_wp2_with fail
   go_region
   all_goals
    have Hfin:=Lh (GO (m:=1) Hrk.out (show k<n by omega) ho HX.out HY.out hx1 hy1 hc1 Hs.out Hf.out Hw.out Hv.out Hblk.out Honly.out);go_wp2_with fail
    exact⟨⟨k+1,hlt,by go_num,Hfin.out⟩,by simp[intOf] <;> omega⟩
  ·obtain rfl:k=n':=by omega
   have Hinv:=Lh (show GB w g o n xs ys k (Ji Ju (cc:Nat)) wr from⟨rs,cc,Hrk.out,hkn,rfl,hc1,Hw.out,Hv.out,Hblk.out,Honly.out⟩);clear hblk honly hw hv hrk;go_wp2_with fail
   go_loopw [6,4] (fun vi vc wr=>∃j:Nat,k<=j/\vi=Ji Jl (j:Nat)/\GB w g o n xs ys j vc wr) (fun vi _ _=>n-(intOf vi).toNat)
   case atStart=>exact⟨k,E4 _,rfl,Hinv.out⟩
   case round=>
    obtain⟨j,hj,rfl,rs,cc,hrk,hkn,rfl,hc1,hw,hv,hblk,honly⟩:=hrel;have Hrk:=Lh hrk;have Hw:=Lh hw;have Hv:=Lh hv;have Hblk:=Lh hblk;have Honly:=Lh honly;have hyj:ys.length<=j:=by rw[Hlen.out];exact hj
    by_cases h0:cc=0
    ·subst h0;have Hfin:=Lh (KL Hx.out hrk hkn ho hyj hw hv hblk);clear hblk honly hw hv hrk hyj;go_wp2;go_end0
     exact⟨rfl,Hfin.out,Honly.out⟩
    ·have hlt:=Wt hw hrk hkn hyj h0 hv Hroom.out;have hcell:=hblk.cell (i:=o+j) (by rw[Jv (by omega)];omega);rw[QM (by omega) (by omega)]at hcell;have hfz:=hblk.frozen (o+j);have hx1:=JG Hx.out (o+j);obtain⟨x,hx⟩:∃x,xs.getD (o+j) 0=x:=⟨_,rfl⟩;have hy:ys.getD j 0=0:=by simp[E8,EY hyj]
     rw[hx]at hcell hx1;have HX:=Lh hx;have HY:=Lh hy;have t0:((cc:Int) ==0)=false:=by rw[beq_eq_false_iff_ne];omega
     clear hblk honly hw hv hrk hx hy hyj;obtain⟨s,hs⟩:∃s,(x+18446744073709551616-0-cc)%18446744073709551616=s:=⟨_,rfl⟩;obtain⟨f,hf⟩:∃f,(if x<0+cc then 1 else 0)=f:=⟨_,rfl⟩;have hsub:∀W:JW,(callFunc 166 #[Ji Ju (x:Int),Ji Ju 0,Ji Ju (cc:Int)]).run Tryz.prog W= .ok (.value (.tuple #[Ji Ju (s:Int),Ji Ju (f:Int)])) W:=Y0 x 0 cc s f hc1 hs hf;have Hs:=Lh hs;have Hf:=Lh hf;clear hs hf;have Hfin:=Lh (GO (m:=0) Hrk.out hlt ho HX.out HY.out hx1 (by decide) hc1 Hs.out Hf.out Hw.out Hv.out Hblk.out Honly.out);go_wp2_with fail
     exact⟨⟨j+1,by omega,by go_num,Hfin.out⟩,by simp[intOf] <;> omega⟩
