/- GC04: Signed Num -/
import Derived.Test.YtekhdklbfincpaaGreatDoorGC03
set_option maxRecDepth 100000
set_option maxHeartbeats 16000000
namespace Go.Proofs.YtekhdklbfincpaaGreatDoor
open Go.Value renaming pointer→Jp
open _root_.Option renaming none→Jn,some→Jo
open Go renaming World→JW
open _root_.Nat renaming le_refl→M0,le_trans→M5,lt_of_lt_of_le→M6,pow_le_pow_right→M8,eq_zero_or_pos→M9
open Go.RowKit.Below renaming refl→M1
open _root_.List renaming drop_eq_getElem_cons→M2,eq_nil_of_length_eq_zero→M3,drop_eq_nil_of_le→M7,getD→Mr
open Go.World renaming cell?_of_block→M4,setCell→Ms
open Go.RowKit
def Jq(B:Nat)(w:JW)(v:Value)(z:Int):Prop:=
 (I64 z/\v=JP z)\/(¬ I64 z/\∃ (p:Nat) (A:Option Addr) (n c:Nat) (xs:List Nat),v= .agg #[.int .i64 0,Jp (Jo ⟨p,0,Jn⟩)]/\p<w.heap.size/\B<=p/\(∀ a:Addr,A=Jo a->B<=a.block)/\w.cell? ⟨p,0,Jn⟩=Jo (.bool (decide (z<0)))/\w.cell? ⟨p,1,Jn⟩=Jo (.slice A n c) /\
  IsL w A n c (u64s xs)/\c<=9223372036854775807/\n<1000/\Jz xs/\Uw xs/\Je xs=z.natAbs)
def Jk(neg:Bool)(v:Nat):Int:=if neg then -(v:Int) else(v:Int)
theorem QQ(neg:Bool)(v:Nat):(Jk neg v).natAbs=v:=by unfold Jk;split <;> omega
theorem O3{neg:Bool}{v:Nat}(h:0<v):decide (Jk neg v<0)=neg:=by
 unfold Jk;cases neg <;> simp <;> omega
theorem IsL.grow{w:JW}{A:Option Addr}{n c:Nat}{xs:List Value}(h:IsL w A n c xs)(o:Obj):IsL (w.alloc o) A n c xs:=by
 refine⟨h.1,h.2.1,fun hn=>?_⟩;obtain⟨g,i,rfl,hg,hc⟩:=h.2.2 hn;refine⟨g,i,rfl,by simp;omega,fun j u hu=>?_⟩;rw[←hc j u hu];exact M4 (((M1 w.heap.size w).alloc (M0 _) o).block g hg)
theorem Zr(w:JW)(o1 o2:Obj):((w.alloc o1).alloc o2).heap[w.heap.size+1]?=Jo o2:=by
 show((w.heap.push o1).push o2)[w.heap.size+1]?=Jo o2;rw[Array.getElem?_push,if_pos (by simp)]
theorem Vh{B:Nat}{w w':JW}{A:Option Addr}{n c:Nat}{xs:List Nat}{neg:Bool}(hl:IsL w A n c (u64s xs))(hw:Jz xs)(ht:Uw xs)(hn:n<1000)(hc:c<=9223372036854775807)(hpos:0<Je xs)(hz:¬I64 (Jk neg (Je xs)))
  (hB:B<=w.heap.size) (hA:∀a:Addr,A=Jo a->B<=a.block) (o1:Obj) (he:w'=(w.alloc o1).alloc (.cells #[.bool neg,.slice A n c] 131)) :
  Jq B w' (.agg #[.int .i64 0,Jp (Jo ⟨w.heap.size+1,0,Jn⟩)]) (Jk neg (Je xs)):=by
 subst he;refine .inr ⟨hz,w.heap.size+1,A,n,c,xs,rfl,by simp,by omega,hA,?_,?_,(hl.grow _).grow _,hc,hn,hw,ht,by rw[QQ]⟩
 ·rw[O3 hpos,cell_of_row _ _ _ #[.bool neg,.slice A n c] 131 (0,0) (Zr _ _ _)];rfl
 ·rw[cell_of_row _ _ _ #[.bool neg,.slice A n c] 131 (0,0) (Zr _ _ _)];rfl
theorem UZ(B:Nat)(A:Option Addr)(n c:Nat)(xs:List Nat)(neg:Bool)(w:JW)(hl:IsL w A n c (u64s xs))(hw:Jz xs)(ht:Uw xs)(hn:n<1000)(hc:c<=9223372036854775807)(hB:B<=w.heap.size)(hA:∀a:Addr,A=Jo a->B<=a.block) :
  Calls Tryz.prog 104 #[.slice A n c,.bool neg] w fun e w'=>∃v,e= .returned v/\Jq B w' v (Jk neg (Je xs))/\Below w.heap.size w w':=by
 have hlen:xs.length=n:=by have:=hl.1;simpa[u64s]using this
 have hb2:=((M1 w.heap.size w).alloc (M0 _) (.cells #[.int .i64 0,Jp (Jo ⟨w.heap.size+1,0,Jn⟩)] 28)).alloc (by simp) (.cells #[.bool neg,.slice A n c] 131);by_cases h2:2<=n
 ·have hbig:base 1<=Je xs:=by
   rcases ht with h|h
   ·omega
   ·exact M5 (M8 (by decide) (by omega)) h
  have hz:¬I64 (Jk neg (Je xs)):=by
   rw[KG]at hbig;unfold Jk I64
   split <;> omega
  have hfin:=fun o1 w'=>Vh (w':=w') hl hw ht hn hc (by rw[KG]at hbig;omega) hz hB hA o1;have Hfin:=Lh hfin;have Hb:=Lh hb2;clear hl hw ht hlen hb2 hfin hz hbig hA;go_enter Tryz.func104,Tryz.ntmps104;go_wp2;exact bodyPost_ret (v:= .agg #[.int .i64 0,Jp (Jo ⟨w.heap.size+1,0,Jn⟩)]) (by simp[results,Tryz.results104,go_sem]) rfl ⟨_,rfl,Hfin.out _ _ rfl,Hb.out⟩
 ·rcases M9 n with h0|h0
  ·subst h0;have hx:xs=[]:=M3 hlen;subst hx;have hz:Jk neg (Je [])=0:=by cases neg <;> rfl
   rw[hz];clear hl hw ht hlen hb2 hz hA;go_enter Tryz.func104,Tryz.ntmps104;go_wp2;exact bodyPost_ret (v:=JP 0) (by simp[results,Tryz.results104,go_sem]) rfl ⟨_,rfl,.inl ⟨by unfold I64;omega,rfl⟩,(M1 _ _).alloc (M0 _) _⟩
  ·obtain rfl:n=1:=by omega
   obtain⟨x,rfl⟩:∃x,xs=[x]:=List.length_eq_one_iff.mp hlen;obtain⟨b,o,rfl,hb,hcell⟩:=hl.2.2 (by omega);have c0:w.cell? ⟨b,o,Jn⟩=Jo (.int .u64 (x:Int)):=hcell 0 _ rfl;have hx:Je [x]=x:=by simp[Je]
   have hx1:x<18446744073709551616:=hw x (by simp);have hx0:0<x:=by
    rcases ht with h|h
    ·simp at h
    ·rw[hx]at h;exact M6 (Xs _) h
   by_cases hbig:I64 (Jk neg x)
   ·rw[hx];have Hbig:=Lh hbig;unfold I64 Jk at hbig;clear hcell hl hw ht hlen hb2 hx hA;cases neg
    ·simp at hbig;go_enter Tryz.func104,Tryz.ntmps104;go_wp2;exact bodyPost_ret (v:=JP x) (by simp[results,Tryz.results104,go_sem]) rfl ⟨_,rfl,.inl ⟨Hbig.out,rfl⟩,(M1 _ _).alloc (M0 _) _⟩
    ·simp at hbig;have e1:IntKind.u64.wrap (-(x:Int))=18446744073709551616-(x:Int):=by rw[Jx];omega
     have e2:wrap64 (18446744073709551616-(x:Int))=-(x:Int):=by unfold wrap64;omega
     go_enter Tryz.func104,Tryz.ntmps104;go_wp2;exact bodyPost_ret (v:=JP (-(x:Int))) (by simp[results,Tryz.results104,go_sem]) rfl ⟨_,rfl,.inl ⟨Hbig.out,rfl⟩,(M1 _ _).alloc (M0 _) _⟩
   ·have hfin:=fun o1 w'=>Vh (w':=w') hl hw ht hn hc (by rw[hx];exact hx0) (by rw[hx];exact hbig) hB hA o1;have Hfin:=Lh hfin;have Hb:=Lh hb2;unfold I64 Jk at hbig;clear hcell hl hw ht hlen hb2 hfin hx hA;cases neg
    ·simp at hbig;go_enter Tryz.func104,Tryz.ntmps104;go_wp2;exact bodyPost_ret (v:= .agg #[.int .i64 0,Jp (Jo ⟨w.heap.size+1,0,Jn⟩)]) (by simp[results,Tryz.results104,go_sem]) rfl ⟨_,rfl,Hfin.out _ _ rfl,Hb.out⟩
    ·simp at hbig;go_enter Tryz.func104,Tryz.ntmps104;go_wp2;exact bodyPost_ret (v:= .agg #[.int .i64 0,Jp (Jo ⟨w.heap.size+1,0,Jn⟩)]) (by simp[results,Tryz.results104,go_sem]) rfl ⟨_,rfl,Hfin.out _ _ rfl,Hb.out⟩
theorem Jq.set_{B:Nat}{w:JW}{v:Value}{z:Int}{i:Nat}{u:Value}(h:Jq (B+1) w v z):Jq (B+1) (w.setCell ⟨B,i,Jn⟩ u) v z:=by
 rcases h with h|⟨hz,p,A,n,c,xs,rfl,hp,hBp,hBA,c0,c1,hl,rest⟩
 ·exact .inl h
 ·have hh:∀k,k≠B->(w.setCell ⟨B,i,Jn⟩ u).heap[k]?=w.heap[k]?:=fun k hk=>Below.heap_setCell w ⟨B,i,Jn⟩ u k hk;refine .inr ⟨hz,p,A,n,c,xs,rfl,by simpa[Ms]using hp,hBp,hBA,(M4 (hh p (by omega))).trans c0,(M4 (hh p (by omega))).trans c1,⟨hl.1,hl.2.1,fun hn=>?_⟩,rest⟩;obtain⟨b,o,e,hb,hc⟩:=hl.2.2 hn;exact⟨b,o,e,by simpa[Ms]using hb,fun j u' hu=>(M4 (hh b (by have:=hBA _ e;simp at this;omega))).trans (hc j u' hu)⟩
theorem Jq.mono{B B':Nat}{w:JW}{v:Value}{z:Int}(h:Jq B w v z)(hB:B'<=B):Jq B' w v z:=by
 rcases h with h|⟨hz,p,A,n,c,xs,rfl,hp,hBp,hBA,rest⟩
 ·exact .inl h
 ·exact .inr ⟨hz,p,A,n,c,xs,rfl,hp,by omega,fun a e=>M5 hB (hBA a e),rest⟩
theorem Jq.keep{B:Nat}{w w':JW}{v:Value}{z:Int}(h:Jq B w v z)(hb:Below w.heap.size w w'):Jq B w' v z:=by
 rcases h with h|⟨hz,p,A,n,c,xs,rfl,hp,hBp,hBA,c0,c1,hl,rest⟩
 ·exact .inl h
 ·exact .inr ⟨hz,p,A,n,c,xs,rfl,M6 hp hb.size,hBp,hBA,(hb.cell (p:=⟨p,0,Jn⟩) hp).trans c0,(hb.cell (p:=⟨p,1,Jn⟩) hp).trans c1,hl.keep hb,rest⟩
structure JC (B:Nat) (w:JW) (A:Option Addr) (n c:Nat) (xs:List Nat) (m:Nat):Prop where
 isl:IsL w A n c (u64s xs)
 cap:c<=9223372036854775807
 len:n<1000
 words:Jz xs
 tight:Uw xs
 val:Je xs=m
 low:∀a:Addr,A=Jo a->B<=a.block
theorem JC.keep{B:Nat}{w w':JW}{A:Option Addr}{n c m:Nat}{xs:List Nat}(h:JC B w A n c xs m)(hb:Below w.heap.size w w'):JC B w' A n c xs m:=
 ⟨h.isl.keep hb,h.cap,h.len,h.words,h.tight,h.val,h.low⟩
theorem JC.mono{B B':Nat}{w:JW}{A:Option Addr}{n c m:Nat}{xs:List Nat}(h:JC B w A n c xs m)(hb:B'<=B):JC B' w A n c xs m:=
 ⟨h.isl,h.cap,h.len,h.words,h.tight,h.val,fun a e=>M5 hb (h.low a e)⟩
theorem Qi(xs:List Nat):(u64s xs).length=xs.length:=by simp[u64s]
theorem JC.size{B:Nat}{w:JW}{A:Option Addr}{n c m:Nat}{xs:List Nat}(h:JC B w A n c xs m):xs.length=n:=by
 have:=h.isl.1;rwa [Qi]at this
theorem JC.zero(B:Nat)(w:JW):JC B w Jn 0 0 [] 0:=
 ⟨⟨rfl,M0 _,fun h=>absurd h (by decide)⟩,by decide,by decide,fun d hd=>absurd hd (by simp),.inl rfl,rfl,fun a e=>absurd e (by simp)⟩
theorem JC.at{B:Nat}{w:JW}{A:Option Addr}{n c m:Nat}{xs:List Nat}(h:JC B w A n c xs m)(h0:0<n):∃b o,A=Jo ⟨b,o,Jn⟩/\b<w.heap.size/\B<=b/\∀k:Nat,k<n->w.cell? ⟨b,o+k,Jn⟩=Jo (.int .u64 ((xs.getD k 0:Nat):Int)):=by
 obtain⟨b,o,e,hb,hc⟩:=h.isl.2.2 h0;exact⟨b,o,e,hb,h.low _ e,fun k hk=>hc k _ (by have:=h.size;simp[u64s,show k<xs.length by omega])⟩
theorem IsL.grow_cell{w:JW}{p:Nat}{o:Obj}(hp:p<w.heap.size)(i:Nat):(w.alloc o).cell? ⟨p,i,Jn⟩=w.cell? ⟨p,i,Jn⟩:=
 ((M1 w.heap.size w).alloc (M0 _) o).cell (p:=⟨p,i,Jn⟩) hp
def NJ(z:Int)(B:Nat)(w:JW)(e:Ending)(w':JW):Prop:=
 ∃(A:Option Addr) (n c:Nat) (xs:List Nat),e= .returned (.tuple #[.slice A n c,.bool (decide (z<0))])/\JC B w' A n c xs z.natAbs/\Below w.heap.size w w'
theorem Gm{n:Int}{w':JW}{b B:Nat}(hn:I64 n)(h0:n≠0)(hb:B<=b)(hc:w'.cell? ⟨b,0,Jn⟩=Jo (.int .u64 n.natAbs)):JC B w' (Jo ⟨b,0,Jn⟩) 1 1 [n.natAbs] n.natAbs:=by
 refine⟨⟨rfl,M0 _,fun _=>⟨b,0,rfl,Ve hc,fun j u hu=>?_⟩⟩,by decide,by decide,fun d hd=>?_,.inr ?_,by simp[Je],fun a e=>?_⟩
 ·match j,hu with
  | 0,hu=>simp[u64s]at hu;subst hu;exact hc
 ·rw[List.mem_singleton.1 hd];exact Yq hn
 ·simp[Je,QH];omega
 ·injection e with e;subst e;exact hb
theorem FC(v:Value)(z:Int)(w:JW){B:Nat}(h:Jq B w v z)(hB:B<=w.heap.size) :
  Calls Tryz.prog 103 #[v] w (NJ z B w):=by
 rcases h with⟨hz,rfl⟩|⟨hz,p,A,n,c,xs,rfl,hp,_,hA,c0,c1,hl,hc,hn,hw,htt,hval⟩
 ·by_cases h0:z=0
  ·subst h0;clear hz;go_enter Tryz.func103,Tryz.ntmps103;go_wp2;exact bodyPost_ret (v:= .tuple #[.slice Jn 0 0,.bool false]) (by simp[results,Tryz.results103,go_sem]) rfl ⟨Jn,0,0,[],rfl,JC.zero _ _,(M1 w.heap.size w).alloc (M0 _) _⟩
  ·refine(WK z w hz h0).mono ?_;rintro e w' ⟨b,rfl,hb,hcell,hbel⟩;exact⟨_,_,_,_,rfl,Gm hz h0 (M5 hB hb) hcell,hbel⟩
 ·have Hfin:=Lh (show JC B (w.alloc (.cells #[.int .i64 0,Jp (Jo ⟨p,0,Jn⟩)] 28)) A n c xs z.natAbs from⟨hl.grow _,hc,hn,hw,htt,hval,hA⟩);have e0:=(IsL.grow_cell (o:= .cells #[.int .i64 0,Jp (Jo ⟨p,0,Jn⟩)] 28) hp 0).trans c0;have e1:=(IsL.grow_cell (o:= .cells #[.int .i64 0,Jp (Jo ⟨p,0,Jn⟩)] 28) hp 1).trans c1;clear hl hw htt hval hA hz hc hn;go_enter Tryz.func103,Tryz.ntmps103;go_wp2;go_quiet (fail)
  go_wp2;go_ret2;exact⟨A,n,c,xs,rfl,(Hfin.out).keep (below_drewN (M1 _ _) _),below_drewN ((M1 w.heap.size w).alloc (M0 _) _) _⟩
def cmpN(a b:Nat):Int:=if a<b then -1 else if b<a then 1 else 0
theorem Qh(xs:List Nat)(k:Nat):Je xs=Je (xs.take k)+base (xs.take k).length*Je (xs.drop k):=by
 rw[←Qx,List.take_append_drop]
theorem JY{xs:List Nat}(h:Jz xs)(k:Nat):Jz (xs.take k):=fun d hd=>h d (List.mem_of_mem_take hd)
theorem XP{a b:Nat}(h:a<=b):base a<=base b:=M8 (by decide) h
theorem XO{xs ys:List Nat}(hx:Jz xs)(hy:Uw ys)(h:xs.length<ys.length):Je xs<Je ys:=by
 rcases hy with h0|h0
 ·omega
 ·exact M6 (JO hx) (M5 (XP (by omega)) h0)
theorem KD{xs ys:List Nat}{k x y:Nat}(hx:Jz xs)(hk:k<xs.length)(hk2:k<ys.length)(hd:xs.drop (k+1)=ys.drop (k+1))(ex:xs.getD k 0=x)(ey:ys.getD k 0=y)(h:x<y):Je xs<Je ys:=by
 have e1:xs[k]=x:=by rw[←ex];simp[Mr,hk]
 have e2:ys[k]=y:=by rw[←ey];simp[Mr,hk2]
 rw[Qh xs k,Qh ys k,M2 hk,M2 hk2,hd,e1,e2];have h1:=JO (JY hx k);have l1:(xs.take k).length=k:=by simp;omega
 have l2:(ys.take k).length=k:=by simp;omega
 rw[l1]at h1 ⊢;rw[l2,Je,Je];have h2:base k*(x+18446744073709551616*Je (ys.drop (k+1))+1)<=base k*(y+18446744073709551616*Je (ys.drop (k+1))):=Nat.mul_le_mul_left _ (by omega);rw[Nat.mul_add _ _ 1]at h2;omega
theorem De{xs ys:List Nat}{k x:Nat}(hk:k<xs.length)(hk2:k<ys.length)(hd:xs.drop (k+1)=ys.drop (k+1))(ex:xs.getD k 0=x)(ey:ys.getD k 0=x):xs.drop k=ys.drop k:=by
 have e1:xs[k]=x:=by rw[←ex];simp[Mr,hk]
 have e2:ys[k]=x:=by rw[←ey];simp[Mr,hk2]
 rw[M2 hk,M2 hk2,hd,e1,e2]
theorem Yg{a b:Nat}(h:a<b):cmpN a b=-1:=by unfold cmpN;rw[if_pos h]
theorem Gz{a b:Nat}(h:b<a):cmpN a b=1:=by unfold cmpN;rw[if_neg (by omega),if_pos h]
theorem GA{a b:Nat}(h:a=b):cmpN a b=0:=by unfold cmpN;rw[if_neg (by omega),if_neg (by omega)]
theorem JQ{B B':Nat}{A A':Option Addr}{n c n' c' m m':Nat}{xs ys:List Nat}(w:JW)(hx:JC B w A n c xs m)(hy:JC B' w A' n' c' ys m') :
  Calls Tryz.prog 125 #[.slice A n c,.slice A' n' c'] w fun e w'=>e= .returned (.int .i64 (cmpN m m'))/\Below w.heap.size w w':=by
 have hn:=hx.len;have hn':=hy.len;have hs:=hx.size;have hs':=hy.size;have hv:=hx.val;have hv':=hy.val;have hle:=hx.isl.2.1;have hle':=hy.isl.2.1;by_cases h1:n<n'
 ·have he:=Yg (XO hx.words hy.tight (by omega));rw[hv,hv']at he;rw[he];have t0:((n:Int) ==(n':Int))=false:=by rw[beq_eq_false_iff_ne];omega
  clear hx hy hs hs' hv hv' he;go_enter Tryz.func125,Tryz.ntmps125;go_wp2;go_ret;exact⟨rfl,M1 _ _⟩
 ·by_cases h2:n'<n
  ·have he:=Gz (XO hy.words hx.tight (by omega));rw[hv,hv']at he;rw[he];have t0:((n:Int) ==(n':Int))=false:=by rw[beq_eq_false_iff_ne];omega
   clear hx hy hs hs' hv hv' he;go_enter Tryz.func125,Tryz.ntmps125;go_wp2;go_ret;exact⟨rfl,M1 _ _⟩
  ·obtain rfl:n=n':=by omega
   clear h1 h2;rcases M9 n with h0|h0
   ·subst h0;have e1:xs=[]:=M3 hs;have e2:ys=[]:=M3 hs';subst e1 e2;have he:cmpN m m'=0:=GA (by rw[←hv,←hv']);rw[he];clear hx hy hv hv' he hs hs';go_enter Tryz.func125,Tryz.ntmps125;go_wp2_with fail
    refine wp_loop_rounds 1 ?_;rw[rounds_succ];go_wp2;go_ret;exact⟨rfl,M1 _ _⟩
   ·obtain⟨b,o,rfl,hb,_,hcx⟩:=hx.at h0;obtain⟨b',o',rfl,hb',_,hcy⟩:=hy.at h0;have Hcx:=Lh hcx;have Hcy:=Lh hcy;have Hwx:=Lh hx.words;have Hwy:=Lh hy.words;have Hs:=Lh hs;have Hs':=Lh hs';have Hv:=Lh hv;have Hv':=Lh hv';clear hx hy hcx hcy hs hs' hv hv';go_enter Tryz.func125,Tryz.ntmps125;go_wp2_with fail
    go_loopw [5] (fun i wr=>∃k:Nat,k<=n/\i= .int .i64 ((k:Int)-1)/\xs.drop k=ys.drop k/\Below w.heap.size w wr) (fun i _=>(intOf i+1).toNat)
    case atStart=>exact⟨n,M0 _,rfl,by rw[M7 (by rw[Hs.out];exact M0 _),M7 (by rw[Hs'.out];exact M0 _)],M1 _ _⟩
    case round=>
     obtain⟨k,hk,rfl,hd,hbel⟩:=hrel;have Hbel:=Lh hbel;have Hd:=Lh hd;clear hd;cases k with
     | zero=>
      have he:cmpN m m'=0:=GA (by rw[←Hv.out,←Hv'.out];have:=Hd.out;simp at this;rw[this]);have He:=Lh he;clear he;clear hbel;go_wp2;go_ret;exact⟨by rw[He.out];rfl,Hbel.out⟩
     | succ k=>
      have cx:=(hbel.cell (p:=⟨b,o+k,Jn⟩) hb).trans (Hcx.out k (by omega));have cy:=(hbel.cell (p:=⟨b',o'+k,Jn⟩) hb').trans (Hcy.out k (by omega));clear hbel;obtain⟨x,hx⟩:∃x,xs.getD k 0=x:=⟨_,rfl⟩;obtain⟨y,hy⟩:∃y,ys.getD k 0=y:=⟨_,rfl⟩;rw[hx]at cx;rw[hy]at cy;have Hx:=Lh hx;have Hy:=Lh hy;clear hx hy;by_cases h1:x<y
      ·have he:=Yg (KD Hwx.out (by have:=Hs.out;omega) (by have:=Hs'.out;omega) Hd.out Hx.out Hy.out h1);rw[Hv.out,Hv'.out]at he;have He:=Lh he;clear he;go_wp2;go_quiet (fail)
       go_wp2;go_ret;exact⟨by rw[He.out];rfl,by repeat (first|exact Hbel.out|refine below_drewN ?_ _)⟩
      ·by_cases h2:y<x
       ·have he:=Gz (KD Hwy.out (by have:=Hs'.out;omega) (by have:=Hs.out;omega) Hd.out.symm Hy.out Hx.out h2);rw[Hv.out,Hv'.out]at he;have He:=Lh he;clear he;go_wp2;go_quiet (fail)
        go_wp2;go_quiet (fail)
        go_wp2;go_ret;exact⟨by rw[He.out];rfl,by repeat (first|exact Hbel.out|refine below_drewN ?_ _)⟩
       ·obtain rfl:x=y:=by omega
        have Hnew:=Lh (De (by have:=Hs.out;omega) (by have:=Hs'.out;omega) Hd.out Hx.out Hy.out);go_wp2;go_quiet (fail)
        go_wp2;go_quiet (fail)
        go_wp2;exact⟨⟨k,by omega,by go_num,Hnew.out,by repeat (first|exact Hbel.out|refine below_drewN ?_ _)⟩,by simp[intOf] <;> omega⟩
