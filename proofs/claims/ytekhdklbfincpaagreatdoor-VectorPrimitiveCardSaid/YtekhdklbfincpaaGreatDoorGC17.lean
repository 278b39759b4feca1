/- GC17: Ref4 -/
import Derived.Test.YtekhdklbfincpaaGreatDoorGC13
set_option maxRecDepth 100000
set_option maxHeartbeats 16000000
namespace Go.Proofs.YtekhdklbfincpaaGreatDoor
open Go.Value renaming int→Ji
open Go.IntKind renaming i64→Jl
open _root_.Option renaming none→Jn
open Go renaming World→JW
open _root_.List renaming take_of_length_le→M0,getElem?_eq_none→M1,getD→M4,length_singleton→M5,length_append→M6
open _root_.Nat renaming mul_add→M2,mul_left_comm→M7,zero_le→M8,mul_assoc→M9
open Go.Addr renaming add→M3
open Go.RowKit
theorem Un{xs:List Int}{k:Nat}{d:Int}(hd:xs.getD k 0=d):dval (xs.take (k+1))=dval (xs.take k)+ten k*d.toNat:=by
 by_cases hk:k<xs.length
 ·rw[List.take_succ_eq_append_getElem hk,XJ,List.length_take,Nat.min_eq_left (by omega),←hd];simp[M4,hk]
 ·have e:d=0:=by rw[←hd];simp[M4,M1 (by omega:xs.length<=k)]
  rw[e,M0 (by omega),M0 (by omega)];rfl
theorem Kq{l:List Int}{x:Int}(h:Dig l)(h0:0<=x)(h9:x<=9):Dig (l ++ [x]):=by
 intro y hy;rcases List.mem_append.1 hy with hy|hy
 ·exact h y hy
 ·rw[List.mem_singleton.1 hy];exact⟨h0,h9⟩
structure IsDs (w:JW) (A:Option Addr) (n c:Nat) (xs:List Int):Prop where
 isl:IsL w A n c (ints xs)
 cap:c<=9223372036854775807
 len:n<100000
 dig:Dig xs
theorem IsDs.size{w:JW}{A:Option Addr}{n c:Nat}{xs:List Int}(h:IsDs w A n c xs):xs.length=n:=by
 have:=h.isl.1;rwa [YV]at this
theorem IsDs.keep{w w':JW}{A:Option Addr}{n c:Nat}{xs:List Int}(h:IsDs w A n c xs)(hb:Below w.heap.size w w'):IsDs w' A n c xs:=
 ⟨h.isl.keep hb,h.cap,h.len,h.dig⟩
theorem IsDs.cell{w:JW}{A:Option Addr}{n c:Nat}{xs:List Int}(h:IsDs w A n c xs){k:Nat}(hk:k<n):∃b o,A=some ⟨b,o,Jn⟩/\b<w.heap.size/\w.cell? ⟨b,o+k,Jn⟩=some (Ji Jl (xs.getD k 0)):=by
 obtain⟨b,o,e,hb,hc⟩:=h.isl.2.2 (by omega);exact⟨b,o,e,hb,hc k _ (by have:=h.size;simp[ints,show k<xs.length by omega])⟩
theorem Q0.ds{w:JW}{A:Option Addr}{n c m:Nat}{xs:List Int}(h:Q0 w A n c xs m)(hn:n<100000):IsDs w A n c xs:=⟨h.isl,h.cap,hn,h.dig⟩
def Fd(w0:JW)(xs ys:List Int)(vo vc vi:Value)(wr:JW):Prop:=
 ∃(l:List Int) (c:Int),vi=Ji Jl (l.length:Nat)/\vc=Ji Jl c/\0<=c/\c<=1/\Dig l/\dval l+ten l.length*c.toNat=dval (xs.take l.length)+dval (ys.take l.length)/\l.length<=xs.length+ys.length+1/\(0<c->l.length<=max xs.length ys.length)/\wr.ownsRow w0.heap.size 3 1 vo l.length (ints l)/\Below w0.heap.size w0 wr
theorem XF{w0 wr w1:JW}{xs ys l:List Int}{x y c s d:Int}{u v':Value}(hx:xs.getD l.length 0=x)(hy:ys.getD l.length 0=y)(hx0:0<=x)(hx9:x<=9)(hy0:0<=y)(hy9:y<=9)(hc0:0<=c)(hc1:c<=1)(hs:s=(c+x+y)%10)(hd:d=(c+x+y)/10)
  (hdig:Dig l) (hv:dval l+ten l.length*c.toNat=dval (xs.take l.length)+dval (ys.take l.length)) (hlen:l.length<=xs.length+ys.length) (hmx:l.length<max xs.length ys.length\/(x=0/\y=0))
  (hown:wr.ownsRow w0.heap.size 3 1 u l.length (ints l)) (hown':w1.ownsRow w0.heap.size 3 1 v' (l.length+1) (ints l ++ [Ji Jl s]))
  (hgrow:(wr.alloc (.cells #[Ji Jl s] 3)).grownBy w1 u.ownBlock) (hbel:Below w0.heap.size w0 wr):Fd w0 xs ys v' (Ji Jl d) (Ji Jl ((l.length:Int)+1)) w1:=by
 refine ⟨l ++ [s],d,by simp,rfl,by omega,by omega,Kq hdig (by omega) (by omega),?_,by simp; omega,fun hd0=>by
  rw[M6,M5];rcases hmx with h | ⟨h1,h2⟩ <;> omega,by simpa [ints] using hown',(hbel.alloc hbel.size _).grown hgrow (by simp; have:=hbel.size; omega) (fun k hk=>UL hown hk)⟩
 rw[XJ,M6,M5,Yi,Un hx,Un hy];have e2:ten l.length*s.toNat+10*ten l.length*d.toNat=ten l.length*(c.toNat+x.toNat+y.toNat):=by
  rw[show c.toNat+x.toNat+y.toNat=s.toNat+10*d.toNat by omega];simp only[M2,M9,M7]
 rw[M2,M2]at e2;omega
theorem YT{A A':Option Addr}{n c n' c':Nat}{xs ys:List Int}(w:JW)(hx:IsDs w A n c xs)(hy:IsDs w A' n' c' ys) :
  Calls Tryz.prog 132 #[.slice A n c,.slice A' n' c'] w fun e w'=>∃(v:Value) (l:List Int),e= .returned v/\Dig l/\dval l=dval xs+dval ys/\l.length<=n+n'+1/\w'.ownsRow w.heap.size 3 1 v l.length (ints l)/\Below w.heap.size w w':=by
 obtain⟨i0,hi,hz0,hz1,hz2⟩:=info_parts UT;have HX:=Lh hx;have HY:=Lh hy;have hn:=hx.len;have hn':=hy.len;have hle:=hx.isl.2.1;have hle':=hy.isl.2.1;clear hx hy;go_enter Tryz.func132,Tryz.ntmps132;go_wp2_with fail
 go_loopw [5,6,7] (fun vo vc vi wr=>Fd w xs ys vo vc vi wr) (fun _ vc vi _=>2*(n+n'+1-(intOf vi).toNat)+(intOf vc).toNat)
 case atStart=>exact⟨[],0,rfl,rfl,by decide,by decide,fun d hd=>absurd hd (by simp),rfl,M8 _,fun _=>M8 _,World.ownsRow_nil _ _ _ _,Below.refl _ _⟩
 case round=>
  obtain⟨l,c,rfl,rfl,hc0,hc1',hdig,hv,hll,hmx,hown,hbel⟩:=hrel;have hsz:=hbel.size;have Hdig:=Lh hdig;have Hv:=Lh hv;have Hown:=Lh hown;have Hbel:=Lh hbel;have hxs:=HX.out.size;have hys:=HY.out.size;obtain⟨k,hk⟩:∃k,l.length=k:=⟨_,rfl⟩;have hk2:k<=n+n'+1:=by omega
  have hlen:l.length<=300000:=by omega
  have Hk:=Lh hk;rw[hk];obtain⟨x,hx⟩:∃x,xs.getD k 0=x:=⟨_,rfl⟩;obtain⟨y,hy⟩:∃y,ys.getD k 0=y:=⟨_,rfl⟩;have hx0:=(JV HX.out.dig k).1;have hx9:=(JV HX.out.dig k).2;have hy0:=(JV HY.out.dig k).1;have hy9:=(JV HY.out.dig k).2;rw[hx]at hx0 hx9;rw[hy]at hy0 hy9;have Hxk:=Lh hx;have Hyk:=Lh hy;have Hx:=Lh (show xs.getD l.length 0=x by rw[hk];exact hx);have Hy:=Lh (show ys.getD l.length 0=y by rw[hk];exact hy);clear hdig hv hown hbel hk hx hy hxs hys hll;by_cases ha:k<n
  ·by_cases hb:k<n'
   ·skip
    obtain⟨b1,o1,rfl,hb1,hc1⟩:=HX.out.cell ha;have cx:=(Hbel.out.cell (p:=⟨b1,o1+k,Jn⟩) hb1).trans hc1;rw[Hxk.out]at cx;clear hc1;obtain⟨b2,o2,rfl,hb2,hc2⟩:=HY.out.cell hb;have cy:=(Hbel.out.cell (p:=⟨b2,o2+k,Jn⟩) hb2).trans hc2;rw[Hyk.out]at cy;clear hc2;go_wp2_with (at_builtin;refine wpList_append_own _ rfl _ _ 126 rfl w.heap.size 3 i0 (Ji Jl 0) 1 8 Tryz.underlying126 hi hz0 hz1 hz2 rfl (by decide) _ _ _ rfl (Hown.out.alloc _) ⟨wr.heap.size,0,Jn⟩ 1 1 [Ji Jl ((c+x+y)%10)] rfl rfl (fun k u hu=>by match k,hu with|0,hu=>simp at hu;subst hu;simp[M3]) (fun u hu=>by simp at hu;subst hu;rfl) (by unfold maxLen;omega) (by omega) (by simp;omega) ?_)
    intro v' w1 hown' hgrow _;have hfin:=XF (s:=(c+x+y)%10) (d:=(c+x+y)/10) Hx.out Hy.out (by omega) (by omega) (by omega) (by omega) hc0 hc1' (by simp) (by simp) Hdig.out Hv.out (by have:=HX.out.size;have:=HY.out.size;have:=Hk.out;omega) (.inl (by have:=HX.out.size;have:=HY.out.size;have:=Hk.out;omega)) Hown.out hown' hgrow Hbel.out;rw[Hk.out]at hfin;have Hfin:=Lh hfin;clear hfin hown' hgrow;go_wp2;exact⟨Hfin.out,by simp[intOf] <;> omega⟩
   ·skip
    obtain⟨b1,o1,rfl,hb1,hc1⟩:=HX.out.cell ha;have cx:=(Hbel.out.cell (p:=⟨b1,o1+k,Jn⟩) hb1).trans hc1;rw[Hxk.out]at cx;clear hc1;have e0:y=0:=by rw[←Hyk.out];simp[M4,M1 (by have:=HY.out.size;omega:ys.length<=k)]
    subst e0;go_wp2_with (at_builtin;refine wpList_append_own _ rfl _ _ 126 rfl w.heap.size 3 i0 (Ji Jl 0) 1 8 Tryz.underlying126 hi hz0 hz1 hz2 rfl (by decide) _ _ _ rfl (Hown.out.alloc _) ⟨wr.heap.size,0,Jn⟩ 1 1 [Ji Jl ((c+x)%10)] rfl rfl (fun k u hu=>by match k,hu with|0,hu=>simp at hu;subst hu;simp[M3]) (fun u hu=>by simp at hu;subst hu;rfl) (by unfold maxLen;omega) (by omega) (by simp;omega) ?_)
    intro v' w1 hown' hgrow _;have hfin:=XF (s:=(c+x)%10) (d:=(c+x)/10) Hx.out Hy.out (by omega) (by omega) (by omega) (by omega) hc0 hc1' (by simp) (by simp) Hdig.out Hv.out (by have:=HX.out.size;have:=HY.out.size;have:=Hk.out;omega) (.inl (by have:=HX.out.size;have:=HY.out.size;have:=Hk.out;omega)) Hown.out hown' hgrow Hbel.out;rw[Hk.out]at hfin;have Hfin:=Lh hfin;clear hfin hown' hgrow;go_wp2;exact⟨Hfin.out,by simp[intOf] <;> omega⟩
  ·by_cases hb:k<n'
   ·skip
    obtain⟨b2,o2,rfl,hb2,hc2⟩:=HY.out.cell hb;have cy:=(Hbel.out.cell (p:=⟨b2,o2+k,Jn⟩) hb2).trans hc2;rw[Hyk.out]at cy;clear hc2;have e0:x=0:=by rw[←Hxk.out];simp[M4,M1 (by have:=HX.out.size;omega:xs.length<=k)]
    subst e0;go_wp2_with (at_builtin;refine wpList_append_own _ rfl _ _ 126 rfl w.heap.size 3 i0 (Ji Jl 0) 1 8 Tryz.underlying126 hi hz0 hz1 hz2 rfl (by decide) _ _ _ rfl (Hown.out.alloc _) ⟨wr.heap.size,0,Jn⟩ 1 1 [Ji Jl ((c+y)%10)] rfl rfl (fun k u hu=>by match k,hu with|0,hu=>simp at hu;subst hu;simp[M3]) (fun u hu=>by simp at hu;subst hu;rfl) (by unfold maxLen;omega) (by omega) (by simp;omega) ?_)
    intro v' w1 hown' hgrow _;have hfin:=XF (s:=(c+y)%10) (d:=(c+y)/10) Hx.out Hy.out (by omega) (by omega) (by omega) (by omega) hc0 hc1' (by simp) (by simp) Hdig.out Hv.out (by have:=HX.out.size;have:=HY.out.size;have:=Hk.out;omega) (.inl (by have:=HX.out.size;have:=HY.out.size;have:=Hk.out;omega)) Hown.out hown' hgrow Hbel.out;rw[Hk.out]at hfin;have Hfin:=Lh hfin;clear hfin hown' hgrow;go_wp2;exact⟨Hfin.out,by simp[intOf] <;> omega⟩
   ·by_cases h0:c=0
    ·subst h0;have hx0:xs.take l.length=xs:=M0 (by rw[Hk.out,HX.out.size];omega);have hy0:ys.take l.length=ys:=M0 (by rw[Hk.out,HY.out.size];omega);have hval:dval l=dval xs+dval ys:=by
      have:=Hv.out;rw[hx0,hy0]at this;simpa using this
     have Hval:=Lh hval;have Hll:=Lh (show l.length<=n+n'+1 by have:=Hk.out;omega);clear hx0 hy0 hval;go_wp2;go_ret;exact⟨_,l,rfl,Hdig.out,Hval.out,Hll.out,Hown.out,Hbel.out⟩
    ·have hc1:0<c:=by omega
     have hkm:=hmx hc1;have hkm2:k<=n+n':=by have:=HX.out.size;have:=HY.out.size;have:=Hk.out;omega
     have e0:x=0:=by rw[←Hxk.out];simp[M4,M1 (by have:=HX.out.size;omega:xs.length<=k)]
     subst e0;have e0:y=0:=by rw[←Hyk.out];simp[M4,M1 (by have:=HY.out.size;omega:ys.length<=k)]
     subst e0;go_wp2_with (at_builtin;refine wpList_append_own _ rfl _ _ 126 rfl w.heap.size 3 i0 (Ji Jl 0) 1 8 Tryz.underlying126 hi hz0 hz1 hz2 rfl (by decide) _ _ _ rfl (Hown.out.alloc _) ⟨wr.heap.size,0,Jn⟩ 1 1 [Ji Jl (c%10)] rfl rfl (fun k u hu=>by match k,hu with|0,hu=>simp at hu;subst hu;simp[M3]) (fun u hu=>by simp at hu;subst hu;rfl) (by unfold maxLen;omega) (by omega) (by simp;omega) ?_)
     intro v' w1 hown' hgrow _;have hfin:=XF (s:=c%10) (d:=c/10) Hx.out Hy.out (by omega) (by omega) (by omega) (by omega) hc0 hc1' (by simp) (by simp) Hdig.out Hv.out (by have:=HX.out.size;have:=HY.out.size;have:=Hk.out;omega) (.inr ⟨rfl,rfl⟩) Hown.out hown' hgrow Hbel.out;rw[Hk.out]at hfin;have Hfin:=Lh hfin;clear hfin hown' hgrow;go_wp2;exact⟨Hfin.out,by simp[intOf] <;> omega⟩
def KI(w0:JW)(xs ys:List Int)(vo vb vi:Value)(wr:JW):Prop:=
 ∃(l:List Int) (b:Int),vi=Ji Jl (l.length:Nat)/\vb=Ji Jl b/\0<=b/\b<=1/\Dig l/\dval l+dval (ys.take l.length)=dval (xs.take l.length)+ten l.length*b.toNat/\l.length<=xs.length/\wr.ownsRow w0.heap.size 3 1 vo l.length (ints l)/\Below w0.heap.size w0 wr
theorem U9{w0 wr w1:JW}{xs ys l:List Int}{x y b s d:Int}{u v':Value}(hx:xs.getD l.length 0=x)(hy:ys.getD l.length 0=y)(hx0:0<=x)(hx9:x<=9)(hy0:0<=y)(hy9:y<=9)(hb0:0<=b)(hb1:b<=1)(hs:s+y+b=x+10*d)(hd0:0<=d)(hd1:d<=1)(hs0:0<=s)(hs9:s<=9)
  (hdig:Dig l) (hv:dval l+dval (ys.take l.length)=dval (xs.take l.length)+ten l.length*b.toNat) (hlen:l.length<xs.length)
  (hown:wr.ownsRow w0.heap.size 3 1 u l.length (ints l)) (hown':w1.ownsRow w0.heap.size 3 1 v' (l.length+1) (ints l ++ [Ji Jl s]))
  (hgrow:(wr.alloc (.cells #[Ji Jl s] 3)).grownBy w1 u.ownBlock) (hbel:Below w0.heap.size w0 wr):KI w0 xs ys v' (Ji Jl d) (Ji Jl ((l.length:Int)+1)) w1:=by
 refine⟨l ++ [s],d,by simp,rfl,hd0,hd1,Kq hdig hs0 hs9,?_,by simp;omega,by simpa[ints]using hown',(hbel.alloc hbel.size _).grown hgrow (by simp;have:=hbel.size;omega) (fun k hk=>UL hown hk)⟩;rw[XJ,M6,M5,Yi,Un hx,Un hy];have e2:ten l.length*x.toNat+10*ten l.length*d.toNat=ten l.length*(s.toNat+y.toNat+b.toNat):=by
  rw[show s.toNat+y.toNat+b.toNat=x.toNat+10*d.toNat by omega];simp only[M2,M9,M7]
 rw[M2,M2]at e2;omega
theorem FS{xs ys l:List Int}{b:Int}{k:Nat}(hk:l.length=k)(hxk:xs.length=k)(hyk:ys.length<=k)(hb0:0<=b)(hb1:b<=1)(hl:Dig l)(hv:dval l+dval (ys.take l.length)=dval (xs.take l.length)+ten l.length*b.toNat)(hle:dval ys<=dval xs):dval l=dval xs-dval ys:=by
 rw[hk,M0 (by omega),M0 (by omega)]at hv;have h1:=XK hl;rw[hk]at h1;have hb:b=0\/b=1:=by omega
 rcases hb with h|h <;> subst h <;> simp at hv <;> omega
theorem WN{w:JW}{base:Nat}{e:TypeId}{A:Option Addr}{n m c:Nat}{xs:List Value}(h:w.ownsRow base e 1 (.slice A m c) n xs)(hA:A=Jn):c=0:=by
 rcases h.2 with⟨h,_⟩|⟨g,cap,cur,h,_⟩
 ·injection h
 ·injection h with h1;rw[hA]at h1;cases h1
theorem U6{A A':Option Addr}{n c n' c' m m':Nat}{xs ys:List Int}(w:JW)(hx:Q0 w A n c xs m)(hy:Q0 w A' n' c' ys m')(hle:m'<=m)(hn:n<100000) :
  Calls Tryz.prog 134 #[.slice A n c,.slice A' n' c'] w fun e w'=>∃(A3:Option Addr) (n3 c3:Nat),e= .returned (.slice A3 n3 c3)/\Q0 w' A3 n3 c3 (digN (m-m')) (m-m')/\n3<100000/\Below w.heap.size w w'/\(A3=Jn->c3=0)/\(∀a:Addr,A3=some a->w.heap.size<=a.block):=by
 obtain⟨i0,hi,hz0,hz1,hz2⟩:=info_parts UT;have hxv:=hx.val;have hyv:=hy.val;have hnn:n'<=n:=by
  rcases Nat.lt_or_ge n n' with h|h
  ·exfalso;have:=Oy hx.dig hy.tight (by rw[hx.size,hy.size];exact h);omega
  ·exact h
 have HX:=Lh (hx.ds hn);have HY:=Lh (hy.ds (by omega));have Hxv:=Lh hxv;have Hyv:=Lh hyv;have hcl:=hx.isl.2.1;have hcl':=hy.isl.2.1;clear hx hy hxv hyv;go_enter Tryz.func134,Tryz.ntmps134;go_wp2_with fail
 go_loopw [5,6,7] (fun vo vb vi wr=>KI w xs ys vo vb vi wr) (fun _ _ vi _=>n-(intOf vi).toNat)
 case atStart=>exact⟨[],0,rfl,rfl,by decide,by decide,fun d hd=>absurd hd (by simp),rfl,M8 _,World.ownsRow_nil _ _ _ _,Below.refl _ _⟩
 case round=>
  obtain⟨l,b,rfl,rfl,hb0,hb1',hdig,hv,hll,hown,hbel⟩:=hrel;have hsz:=hbel.size;have Hdig:=Lh hdig;have Hv:=Lh hv;have Hown:=Lh hown;have Hbel:=Lh hbel;have hxs:=HX.out.size;have hys:=HY.out.size;obtain⟨k,hk⟩:∃k,l.length=k:=⟨_,rfl⟩;have hkn:k<=n:=by omega
  have hlen:l.length<=300000:=by omega
  have Hk:=Lh hk;rw[hk];obtain⟨x,hx⟩:∃x,xs.getD k 0=x:=⟨_,rfl⟩;obtain⟨y,hy⟩:∃y,ys.getD k 0=y:=⟨_,rfl⟩;have hx0:=(JV HX.out.dig k).1;have hx9:=(JV HX.out.dig k).2;have hy0:=(JV HY.out.dig k).1;have hy9:=(JV HY.out.dig k).2;rw[hx]at hx0 hx9;rw[hy]at hy0 hy9;have Hxk:=Lh hx;have Hyk:=Lh hy;have Hx:=Lh (show xs.getD l.length 0=x by rw[hk];exact hx);have Hy:=Lh (show ys.getD l.length 0=y by rw[hk];exact hy);clear hdig hv hown hbel hk hx hy hxs hys hll;by_cases ha:k<n
  ·obtain⟨b1,o1,rfl,hb1,hc1⟩:=HX.out.cell ha;have cx:=(Hbel.out.cell (p:=⟨b1,o1+k,Jn⟩) hb1).trans hc1;rw[Hxk.out]at cx;clear hc1;by_cases hb:k<n'
   ·obtain⟨b2,o2,rfl,hb2,hc2⟩:=HY.out.cell hb;have cy:=(Hbel.out.cell (p:=⟨b2,o2+k,Jn⟩) hb2).trans hc2;rw[Hyk.out]at cy;clear hc2;by_cases hneg:x-b-y<0
    ·skip
     go_wp2_with (at_builtin;refine wpList_append_own _ rfl _ _ 126 rfl w.heap.size 3 i0 (Ji Jl 0) 1 8 Tryz.underlying126 hi hz0 hz1 hz2 rfl (by decide) _ _ _ rfl (Hown.out.alloc _) ⟨wr.heap.size,0,Jn⟩ 1 1 [Ji Jl (x-b-y+10)] rfl rfl (fun k u hu=>by match k,hu with|0,hu=>simp at hu;subst hu;simp[M3]) (fun u hu=>by simp at hu;subst hu;rfl) (by unfold maxLen;omega) (by omega) (by simp;omega) ?_)
     intro v' w1 hown' hgrow _;have hfin:=U9 (s:=x-b-y+10) (d:=1) Hx.out Hy.out (by omega) (by omega) (by omega) (by omega) hb0 hb1' (by omega) (by decide) (by decide) (by omega) (by omega) Hdig.out Hv.out (by rw[HX.out.size,Hk.out];exact ha) Hown.out hown' hgrow Hbel.out;rw[Hk.out]at hfin;have Hfin:=Lh hfin;clear hfin hown' hgrow;go_wp2;exact⟨Hfin.out,by simp[intOf] <;> omega⟩
    ·skip
     go_wp2_with (at_builtin;refine wpList_append_own _ rfl _ _ 126 rfl w.heap.size 3 i0 (Ji Jl 0) 1 8 Tryz.underlying126 hi hz0 hz1 hz2 rfl (by decide) _ _ _ rfl (Hown.out.alloc _) ⟨wr.heap.size,0,Jn⟩ 1 1 [Ji Jl (x-b-y)] rfl rfl (fun k u hu=>by match k,hu with|0,hu=>simp at hu;subst hu;simp[M3]) (fun u hu=>by simp at hu;subst hu;rfl) (by unfold maxLen;omega) (by omega) (by simp;omega) ?_)
     intro v' w1 hown' hgrow _;have hfin:=U9 (s:=x-b-y) (d:=0) Hx.out Hy.out (by omega) (by omega) (by omega) (by omega) hb0 hb1' (by omega) (by decide) (by decide) (by omega) (by omega) Hdig.out Hv.out (by rw[HX.out.size,Hk.out];exact ha) Hown.out hown' hgrow Hbel.out;rw[Hk.out]at hfin;have Hfin:=Lh hfin;clear hfin hown' hgrow;go_wp2;exact⟨Hfin.out,by simp[intOf] <;> omega⟩
   ·have e0:y=0:=by rw[←Hyk.out];simp[M4,M1 (by have:=HY.out.size;omega:ys.length<=k)]
    subst e0;by_cases hneg:x-b<0
    ·skip
     go_wp2_with (at_builtin;refine wpList_append_own _ rfl _ _ 126 rfl w.heap.size 3 i0 (Ji Jl 0) 1 8 Tryz.underlying126 hi hz0 hz1 hz2 rfl (by decide) _ _ _ rfl (Hown.out.alloc _) ⟨wr.heap.size,0,Jn⟩ 1 1 [Ji Jl (x-b+10)] rfl rfl (fun k u hu=>by match k,hu with|0,hu=>simp at hu;subst hu;simp[M3]) (fun u hu=>by simp at hu;subst hu;rfl) (by unfold maxLen;omega) (by omega) (by simp;omega) ?_)
     intro v' w1 hown' hgrow _;have hfin:=U9 (s:=x-b+10) (d:=1) Hx.out Hy.out (by omega) (by omega) (by omega) (by omega) hb0 hb1' (by omega) (by decide) (by decide) (by omega) (by omega) Hdig.out Hv.out (by rw[HX.out.size,Hk.out];exact ha) Hown.out hown' hgrow Hbel.out;rw[Hk.out]at hfin;have Hfin:=Lh hfin;clear hfin hown' hgrow;go_wp2;exact⟨Hfin.out,by simp[intOf] <;> omega⟩
    ·skip
     go_wp2_with (at_builtin;refine wpList_append_own _ rfl _ _ 126 rfl w.heap.size 3 i0 (Ji Jl 0) 1 8 Tryz.underlying126 hi hz0 hz1 hz2 rfl (by decide) _ _ _ rfl (Hown.out.alloc _) ⟨wr.heap.size,0,Jn⟩ 1 1 [Ji Jl (x-b)] rfl rfl (fun k u hu=>by match k,hu with|0,hu=>simp at hu;subst hu;simp[M3]) (fun u hu=>by simp at hu;subst hu;rfl) (by unfold maxLen;omega) (by omega) (by simp;omega) ?_)
     intro v' w1 hown' hgrow _;have hfin:=U9 (s:=x-b) (d:=0) Hx.out Hy.out (by omega) (by omega) (by omega) (by omega) hb0 hb1' (by omega) (by decide) (by decide) (by omega) (by omega) Hdig.out Hv.out (by rw[HX.out.size,Hk.out];exact ha) Hown.out hown' hgrow Hbel.out;rw[Hk.out]at hfin;have Hfin:=Lh hfin;clear hfin hown' hgrow;go_wp2;exact⟨Hfin.out,by simp[intOf] <;> omega⟩
  ·have Hval:=Lh (FS (k:=n) (show l.length=n by have:=Hk.out;omega) HX.out.size (by rw[HY.out.size];exact hnn) hb0 hb1' Hdig.out Hv.out (by rw[Hxv.out,Hyv.out];exact hle));obtain⟨A3,c3,rfl,hisl,hc⟩:=Yn Hown.out;have Hnil:=Lh (WN Hown.out);have Hlow:=Lh (fun(a:Addr) (h:A3=some a)=>UL (k:=a.block) Hown.out (by rw[h];rfl));have Hi:=Lh hisl;have Ht:=Lh (UP A3 _ c3 _ wr hisl (by omega) hc);have Hlk:=Lh (show l.length=k from Hk.out);clear hisl;go_wp2_with fail
   refine Ht.out.mono ?_;rintro e w2⟨rfl,rfl⟩;have hcut:=Hi.out.cut (YE l _);have e1:(ints l).take (JX l l.length)=ints (digN (m-m')):=by
    unfold ints;rw[←List.map_take,UO Hdig.out,Hval.out,Hxv.out,Hyv.out]
   rw[e1]at hcut;have hl3:JX l l.length<100000:=by have:=YE l l.length;have:=Hlk.out;omega
   have Hfin:=Lh (show Q0 wr A3 (JX l l.length) c3 (digN (m-m')) (m-m')from⟨hcut,hc,by omega,JM _,rfl⟩);clear hcut e1;go_wp2;go_ret;exact⟨A3,_,c3,rfl,Hfin.out,hl3,Hbel.out,Hnil.out,Hlow.out⟩
theorem QK{A A':Option Addr}{n c n' c' m m':Nat}{xs ys:List Int}(w:JW)(hx:Q0 w A n c xs m)(hy:Q0 w A' n' c' ys m')(hle:m'<=m)(hn:n<100000) :
  Calls Tryz.prog 134 #[.slice A n c,.slice A' n' c'] w fun e w'=>∃(A3:Option Addr) (n3 c3:Nat),e= .returned (.slice A3 n3 c3)/\Q0 w' A3 n3 c3 (digN (m-m')) (m-m')/\n3<100000/\Below w.heap.size w w':=by
 refine(U6 w hx hy hle hn).mono ?_;rintro e w' ⟨A3,n3,c3,h1,h2,h3,h4,_⟩;exact⟨A3,n3,c3,h1,h2,h3,h4⟩
