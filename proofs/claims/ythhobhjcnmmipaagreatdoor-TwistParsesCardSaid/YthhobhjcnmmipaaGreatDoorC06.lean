/- C06: Ops3 Arith -/
import Derived.Test.YthhobhjcnmmipaaGreatDoorC05
import Derived.Test.YthhobhjcnmmipaaGreatDoorC04
import Derived.Laws.CopyRow
import Derived.Laws.BitsAllLaws
set_option maxRecDepth 100000
set_option maxHeartbeats 16000000
namespace Go.Proofs.YthhobhjcnmmipaaGreatDoor
open Go.Value renaming pointer→Jp,int→Ji
open Go.IntKind renaming i64→Jl,u64→Ju
open _root_.Option renaming none→Jn
open Go renaming World→JW
open _root_.Nat renaming le_refl→E4,eq_zero_or_pos→EZ,mul_add→Fe,zero_le→Ff,lt_or_ge→Fg,ne_of_lt→Fh,mul_left_comm→Fl,min_eq_left→Fo,mul_assoc→Fp,add_assoc→Fq,zero_add→Ft,mul_zero→Fu,le_succ→Fv
open _root_.List renaming take_of_length_le→E5,length_append→E6,drop_zero→E7,replicate→E8,length_replicate→E9,length_singleton→Fa,nil_append→Fi,take_zero→Fj,length_take→Fm
open _root_.BitVec renaming ofInt→EY
open Go.RowKit.Below renaming refl→F0,heap_setCell→Fk
open _root_.Array renaming getElem?_modify→Fb
open Go.World renaming cell?_of_block→Fc,frozen?→Fr
open Go.RowKit
theorem XL{d m q x h l s f s2 f2:Nat}(hd:d<18446744073709551616)(hm:m<18446744073709551616)(hq:q<18446744073709551616)(hx:x<18446744073709551616)(hh:d*m/18446744073709551616=h)(hl:d*m%18446744073709551616=l)
  (hs:(l+q+0)%18446744073709551616=s) (hf:(l+q+0)/18446744073709551616=f) (hs2:(s+x+0)%18446744073709551616=s2) (hf2:(s+x+0)/18446744073709551616=f2) :
  s2+18446744073709551616*(h+f+f2)=x+d*m+q/\h+f+f2<18446744073709551616/\s2<18446744073709551616/\s<18446744073709551616/\h+f<18446744073709551616:=by
 have h1:d*m<=18446744073709551615*18446744073709551615:=Nat.mul_le_mul (by omega) (by omega);generalize d*m=t at *
 omega
def Zv(w0:JW)(g o n:Nat)(xs ys:List Nat)(m:Nat)(vi vp:Value)(wr:JW):Prop:=
 ∃(rs:List Nat) (p:Nat),rs.length<=n/\vi=Ji Jl (rs.length:Nat)/\vp=Ji Ju (p:Nat)/\p<18446744073709551616/\Jy rs/\Je rs+base rs.length*p=Je ((xs.drop o).take rs.length)+Je (ys.take rs.length)*m/\Blk wr g (put xs o rs)/\Only g w0 wr
theorem ZI{w0 wr:JW}{g o n k x d m q h l s f s2 f2 j:Nat}{xs ys rs:List Nat}(hk:rs.length=k)(hkn:k<n)(ho:o+n<=xs.length)(hx:xs.getD (o+k) 0=x)(hy:ys.getD k 0=d)(hx1:x<18446744073709551616)(hd:d<18446744073709551616)(hm:m<18446744073709551616)(hq:q<18446744073709551616)
  (hh:d*m/18446744073709551616=h) (hl:d*m%18446744073709551616=l) (hs:(l+q+0)%18446744073709551616=s) (hf:(l+q+0)/18446744073709551616=f) (hs2:(s+x+0)%18446744073709551616=s2) (hf2:(s+x+0)/18446744073709551616=f2)
  (hw:Jy rs) (hv:Je rs+base rs.length*q=Je ((xs.drop o).take rs.length)+Je (ys.take rs.length)*m) (hb:Blk wr g (put xs o rs)) (ho2:Only g w0 wr) :
  Zv w0 g o n xs ys m (Ji Jl ((k:Int)+1)) (Ji Ju ((h:Int)+f+f2)) ((wr.drewN j).setCell ⟨g,o+k,Jn⟩ (Ji Ju (s2:Int))):=by
 obtain⟨e1,e2,e3,_⟩:=XL hd hm hq hx1 hh hl hs hf hs2 hf2;subst hk;refine⟨rs ++ [s2],h+f+f2,by simp;omega,by simp,by simp,e2,JY hw e3,?_,?_,(ho2.drewN j).set_ _ _⟩
 ·rw[JB,E6,Fa,JJ,Yo (by omega) hx,JB,QL (by omega),JX hy];have e4:base rs.length*s2+18446744073709551616*base rs.length*(h+f+f2)=base rs.length*(x+d*m+q):=by rw[←e1];simp only[Fe,Fp,Fl]
  rw[Fq,e4,Fe,Fe,Nat.add_mul,Fp];omega
 ·rw[←QJ (by omega)];exact(hb.drewN j).set_ _ (by rw[Jv (by omega)];omega)
theorem Ug(g o n c n' c':Nat)(A':Option Addr)(xs ys:List Nat)(m:Nat)(w:JW)(hb:Blk w g xs)(hl:IsL w A' n' c' (u64s ys))(hA:∀a:Addr,A'=some a->a.block≠g)(ho:o+n<=xs.length)(hn':n'<=n)(hx:Jy xs)(hy:Jy ys)(hm:m<18446744073709551616)(hn:n<1000000)(_hoo:o<1000000)(h0:0<n') :
  Calls Tryz.prog 143 #[.slice (some ⟨g,o,Jn⟩) n c,.slice A' n' c',Ji Ju (m:Nat)] w fun e w'=>
   ∃(rs:List Nat) (q:Nat),e= .returned (Ji Ju (q:Nat))/\rs.length=n'/\q<18446744073709551616/\Jy rs/\Je rs+base n'*q=Je ((xs.drop o).take n')+Je ys*m/\Blk w' g (put xs o rs)/\Only g w w':=by
 have hlen:ys.length=n':=by have:=hl.1;rwa [JS]at this
 obtain⟨b',o',rfl,hb',hc'⟩:=hl.2.2 h0;have hne:b'≠g:=hA _ rfl;have Hb:=Lh hb;have Hx:=Lh hx;have Hy:=Lh hy;have Hlen:=Lh hlen;have Hc:=Lh (show ∀k:Nat,k<n'->w.cell? ⟨b',o'+k,Jn⟩=some (Ji Ju ((ys.getD k 0:Nat):Int))from fun k hk=>hc' k _ (by simp[u64s,show k<ys.length by omega]));have hle:=hl.2.1;clear hb hx hy hl hA hlen hc';go_enter Tryz.func143,Tryz.ntmps143;go_wp2_with fail
 go_loopw [15,7] (fun vi vp wr=>Zv w g o n' xs ys m vi vp wr) (fun vi _ _=>n'-(intOf vi).toNat)
 case atStart=>exact⟨[],0,Ff _,rfl,rfl,by decide,fun d hd=>absurd hd (by simp),by simp[Je,Qk],by rw[Yz];exact Hb.out,Only.refl _ _⟩
 case round=>
  obtain⟨rs,q,hkn,rfl,rfl,hq,hw,hv,hblk,honly⟩:=hrel;have Hw:=Lh hw;have Hv:=Lh hv;have Hblk:=Lh hblk;have Honly:=Lh honly;obtain⟨k,hk⟩:∃k,rs.length=k:=⟨_,rfl⟩;have Hk:=Lh hk;rw[hk]at hkn ⊢;by_cases hlt:k<n'
  ·have hcell:=hblk.cell (i:=o+k) (by rw[Jv (by omega)];omega);rw[QM (by omega) (by omega)]at hcell;have hfz:=hblk.frozen (o+k);have hcy:=(honly.cell (o:=o'+k) hb' hne).trans (Hc.out k hlt);have hx1:=JG Hx.out (o+k);have hy1:=JG Hy.out k;obtain⟨x,hx⟩:∃x,xs.getD (o+k) 0=x:=⟨_,rfl⟩;obtain⟨d,hd⟩:∃d,ys.getD k 0=d:=⟨_,rfl⟩;rw[hx]at hcell hx1;rw[hd]at hcy hy1;have HX:=Lh hx;have HY:=Lh hd;clear hblk honly hw hv hk hx hd;obtain⟨h,hh⟩:∃h,d*m/18446744073709551616=h:=⟨_,rfl⟩;obtain⟨l,hl⟩:∃l,d*m%18446744073709551616=l:=⟨_,rfl⟩;obtain⟨s,hs⟩:∃s,(l+q+0)%18446744073709551616=s:=⟨_,rfl⟩;obtain⟨f,hf⟩:∃f,(l+q+0)/18446744073709551616=f:=⟨_,rfl⟩;obtain⟨s2,hs2⟩:∃s2,(s+x+0)%18446744073709551616=s2:=⟨_,rfl⟩;obtain⟨f2,hf2⟩:∃f2,(s+x+0)/18446744073709551616=f2:=⟨_,rfl⟩;have Hmul:=Lh (UI d m h l hy1 hm hh hl);have hadd:∀W:JW,(callFunc 169 #[Ji Ju (l:Int),Ji Ju (q:Int),Ji Ju 0]).run Tryz.prog W= .ok (.value (.tuple #[Ji Ju (s:Int),Ji Ju (f:Int)])) W:=Yv l q 0 s f (by omega) hs hf;have hadd2:∀W:JW,(callFunc 169 #[Ji Ju (s:Int),Ji Ju (x:Int),Ji Ju 0]).run Tryz.prog W= .ok (.value (.tuple #[Ji Ju (s2:Int),Ji Ju (f2:Int)])) W:=Yv s x 0 s2 f2 (by omega) hs2 hf2;obtain⟨_,hle,_,_,hle2⟩:=XL hy1 hm hq hx1 hh hl hs hf hs2 hf2;have hle':(h:Int)+f+f2<18446744073709551616:=by omega
   have hle2':(h:Int)+f<18446744073709551616:=by omega
   have Hh:=Lh hh;have Hl:=Lh hl;have Hs:=Lh hs;have Hf:=Lh hf;have Hs2:=Lh hs2;have Hf2:=Lh hf2;clear hh hl hs hf hs2 hf2;go_wp2_with fail
   refine(Hmul.out _).mono ?_;rintro e w' ⟨rfl,rfl⟩;go_wp2_with fail
   exact⟨ZI (j:=0) Hk.out hlt (by omega) HX.out HY.out hx1 hy1 hm hq Hh.out Hl.out Hs.out Hf.out Hs2.out Hf2.out Hw.out Hv.out Hblk.out Honly.out,by simp[intOf] <;> omega⟩
  ·obtain rfl:k=n':=by omega
   have Hys:=Lh (show ys.take k=ys from E5 (by rw[Hlen.out];exact E4 _));clear hblk honly hw hv hk;go_wp2;go_ret;exact⟨rs,q,rfl,Hk.out,hq,Hw.out,by have h1:=Hv.out;rw[Hk.out,Hys.out]at h1;exact h1,Hblk.out,Honly.out⟩
theorem Jz.len_le{B:Nat}{w:JW}{A:Option Addr}{n c m k:Nat}{xs:List Nat}(h:Jz B w A n c xs m)(hm:m<base k):n<=k:=by
 rcases h.tight with h0|h0
 ·have:=h.size;omega
 ·rw[h.val,h.size]at h0;rcases Fg k n with hlt|hge
  ·have:=Us (show k<=n-1 by omega);omega
  ·exact hge
theorem Jz.zero_iff{B:Nat}{w:JW}{A:Option Addr}{n c m:Nat}{xs:List Nat}(h:Jz B w A n c xs m):n=0↔m=0:=by
 have hs:=h.size;constructor
 ·intro h0;subst h0;have:xs=[]:=List.eq_nil_of_length_eq_zero hs;rw[←h.val,this];rfl
 ·intro h0;subst h0;have:=h.len_le (k:=0) (by rw[Qk];decide);omega
def QO(m:Nat)(w:JW)(e:Ending)(w':JW):Prop:=
 ∃(A:Option Addr) (n c:Nat) (xs:List Nat),e= .returned (.slice A n c)/\Jz w.heap.size w' A n c xs m/\Below w.heap.size w w'
theorem GL{l:List Nat}{n:Nat}(h:n<=l.length):Vf (l.take (Qi l n)):=by
 have hle:=YJ l n;have hlen:(l.take (Qi l n)).length=Qi l n:=by simp;omega
 rcases EZ (Qi l n)with h0|h0
 ·exact .inl (by omega)
 ·refine .inr ?_;rw[hlen];have hlast:l.getD (Qi l n-1) 0≠0:=by
   clear hlen hle
   induction n with
   | zero=>simp[Qi]at h0
   | succ n ih=>
    unfold Qi at h0 ⊢;by_cases hz:l.getD n 0=0
    ·rw[if_pos hz]at h0 ⊢;exact ih (by omega) h0
    ·rw[if_neg hz];exact hz
  obtain⟨k,hk⟩:∃k,Qi l n=k+1:=⟨Qi l n-1,by omega⟩;rw[hk]at hlast hle ⊢;rw[show k+1-1=k from rfl]at hlast ⊢;obtain⟨d,hd⟩:∃d,l.getD k 0=d:=⟨_,rfl⟩;rw[Zd (by omega) hd,JB,Fm,Fo (by omega)];rw[hd]at hlast;have:base k*1<=base k*d:=Nat.mul_le_mul_left _ (by omega);omega
theorem Ql{B:Nat}{w:JW}{g n c m:Nat}{zs:List Nat}(hb:Blk w g zs)(hn:zs.length=n)(hc:n<=c)(hc2:c<=9223372036854775807)(hlen:n<1000)(hw:Jy zs)(hv:Je zs=m)(hB:B<=g) :
  Jz B w (some ⟨g,0,Jn⟩) (Qi zs n) c (zs.take (Qi zs n)) m:=by
 have hle:=YJ zs n;have h:=hb.isL (o:=0) (n:=Qi zs n) (c:=c) (by omega) (by omega);rw[E7]at h;refine⟨h,hc2,by omega,JK hw _,GL (by omega),?_,fun a e=>by injection e with e;subst e;exact hB⟩;rw[Yn zs n (by omega),←hn,List.take_length,hv]
theorem UZ(n:Nat):(madeCells #[Ji Ju 0] n).toList=u64s (E8 n 0):=by
 unfold u64s madeCells;apply List.ext_getElem
 ·simp
 ·intro i h1 h2;simp[Nat.mod_one]
theorem Yj(n:Nat):Je (E8 n 0)=0:=by
 induction n with
 | zero=>rfl
 | succ n ih=>rw[List.replicate_succ,Je,ih]
theorem Q8(n:Nat):Jy (E8 n 0):=fun d hd=>by rw[(List.mem_replicate.1 hd).2];decide
theorem OK(w:JW)(g:Nat)(cs:Array Value)(_k:Nat)(cur:Array Value)(t:TypeId)(hg:w.heap[g]?=some (.cells cur t (0,0)))(hk:cs.size=cur.size):Y5 (w.setRow g cs) g=Y5 w g:=by
 unfold Y5;rw[hg];simp[World.setRow,Fb,hg,hk]
theorem YU{w:JW}{g N C:Nat}{zs:List Nat}{A:Option Addr}{n c:Nat}{xs:List Nat}(hb:Blk w g zs)(hN:N<=zs.length)(hl:IsL w A n c (u64s xs))(h0:0<n)(hn:n<=N) :
  ∃w',(∀ty,(Builtin.copy_ #[159,159] ty #[.slice (some ⟨g,0,Jn⟩) N C,.slice A n c]).run Tryz.prog w= .ok (goInt n) w')/\Blk w' g (put zs 0 xs)/\Only g w w':=by
 obtain⟨cur,hg,hcur⟩:=hb;obtain⟨b,o,rfl,hbw,hc⟩:=hl.2.2 h0;have hlen:(u64s xs).length=n:=hl.1;have hxl:xs.length=n:=by rwa [JS]at hlen
 have hroom:zs.length<=cur.size:=by
  have:=congrArg List.length hcur;rw[Fm,JS]at this;have e:cur.toList.length=cur.size:=by simp
  omega
 refine⟨w.setRow g ((u64s xs) ++ cur.toList.drop (0+(u64s xs).length)).toArray,fun ty=>?_,?_,?_⟩
 ·have h:=run_copy_row (P:=Tryz.prog) w 159 159 ty 154 g 0 N C ⟨b,o,Jn⟩ n c cur 154 (u64s xs) Tryz.underlying159 (by kernel_rfl) hg
   (by rw [hlen]; show n=min n N; omega) (fun j v hj=>by
    have e:(⟨b,o,Jn⟩:Addr).add j=⟨b,o+j,Jn⟩:=by unfold Addr.add;split <;> simp_all
    rw [e]; exact hc j v hj) (by omega) (fun v hv=>by obtain ⟨d,_,rfl⟩:=List.mem_map.1 hv; rfl)
  rw[hlen,Fj,Fi]at h;rw[hlen];exact h ▸ rfl
 ·refine⟨_,by simp[World.setRow,Fb,hg];rfl,?_⟩;have e:put zs 0 xs=xs ++ zs.drop xs.length:=by unfold put;simp
  rw[e,E6,List.length_drop];simp only[hlen];rw[show xs.length+(zs.length-xs.length)=zs.length by omega];rw[List.take_append,hlen,E5 (by omega)];have e2:u64s (xs ++ zs.drop xs.length)=u64s xs ++ (u64s zs).drop n:=by simp[u64s,hxl]
  rw[e2,←hcur,List.drop_take]
 ·refine⟨rfl,rfl,rfl,by simp[World.setRow],fun k hk hkg=>?_,fun _=>?_⟩
  ·simp[World.setRow,Fb,Ne.symm hkg]
  ·refine OK w g _ 0 cur _ hg ?_;simp;omega
theorem Xr{xs zs:List Nat}(h:zs.length=xs.length):put xs 0 zs=zs:=by
 unfold put;rw[Fj,Fi,Ft,h,List.drop_length,List.append_nil]
theorem Un{xs:List Nat}{n k:Nat}(h:xs.length=n):put (E8 (n+k) 0) 0 xs=xs ++ E8 k 0:=by
 unfold put;rw[Fj,Fi,Ft,h,List.drop_replicate,Nat.add_sub_cancel_left]
theorem Q5(xs:List Nat)(k:Nat):Je (xs ++ E8 k 0)=Je xs:=by
 rw[Qc,Yj,Fu,Nat.add_zero]
theorem Yi{xs:List Nat}(h:Jy xs)(k:Nat):Jy (xs ++ E8 k 0):=JQ h (Q8 k)
theorem YM{w w1:JW}{N:Nat}(hown:w1.ownsRow w.heap.size 154 1 (.slice (some ⟨w.heap.size,0,Jn⟩) N N) N (madeCells #[Ji Ju 0] N).toList)(h0:0<N):Blk w1 w.heap.size (E8 N 0):=by
 rw[UZ]at hown;obtain⟨g,c,e,_,_,_,hb⟩:=Blk.of_own hown h0
 injection e with e1 e2 e3
 injection e1 with e1
 injection e1 with e1
 rw[e1];exact hb
theorem Wf{B B':Nat}{A A':Option Addr}{n c n' c' m m':Nat}{xs ys:List Nat}(w:JW)(hx:Jz B w A n c xs m)(hy:Jz B' w A' n' c' ys m')(hlt:n'<=n)(h0:0<n)(hm:n<900) :
  Calls Tryz.prog 132 #[.slice A n c,.slice A' n' c'] w (QO (m+m') w):=by
 obtain⟨i0,hi,hz0,hz1,hz2⟩:=info_parts QT;have hle:=hx.isl.2.1;have hle':=hy.isl.2.1;have hcc:=hx.cap;have hcc':=hy.cap;have hxl:=hx.size;have hyl:=hy.size;have Hx:=Lh hx;have Hy:=Lh hy;have Hxl:=Lh hxl;have Hyl:=Lh hyl;clear hx hy hxl hyl;go_enter Tryz.func132,Tryz.ntmps132;go_wp2_with (at_make;refine wpList_make_full _ rfl _ _ 159 rfl w.heap.size 154 i0 (Ji Ju 0) 1 Tryz.underlying159 hi hz0 hz1 _ _ _ _ (n+1) rfl rfl (by simp) (by simp) (by rw[hz2];omega) (by unfold maxLen;omega) (E4 _) ?_)
 intro w1 hown hgrow;have hblk:=YM hown (by omega);have b1:=(F0 w.heap.size w).grown hgrow (E4 _) (by simp);have hi1:=Hx.out.isl.keep b1;obtain⟨w2,hcopy,hblk2,honly2⟩:=YU (N:=n+1) (C:=n+1) hblk (by simp) hi1 h0 (by omega);rw[Un Hxl.out]at hblk2;have b2:=Below.only b1 honly2 (E4 _) b1.size;have hadd:=Xl w.heap.size 0 (n+1) (n+1) n' c' A' (xs ++ E8 1 0) ys w2 hblk2 (Hy.out.isl.keep b2)
  (fun hk a e=>by
   obtain⟨b',o',e2,hb',_⟩:=Hy.out.isl.2.2 hk;rw [e2] at e; injection e with e; subst e; exact Fh hb')
  (by rw [E6,E9,Hxl.out]; omega) (by omega) (Yi Hx.out.words 1) Hy.out.words (by omega) (by omega) (by
   rw[E7,E5 (by rw[E6,E9,Hxl.out];exact E4 _),Q5];have h1:=JH Hx.out.words;have h2:=JH Hy.out.words;rw[Hxl.out]at h1;rw[Hyl.out]at h2;have h3:=Us (show n'<=n by omega);rw[JJ];omega)
 have Hadd:=Lh hadd;have B2:=Lh b2;clear hown hgrow hblk b1 hi1 hblk2 honly2 b2 hadd;go_wp2_with fail
 refine Hadd.out.mono ?_;rintro e w3⟨rfl,⟨zs,hzl,hzw,hzv,hzb⟩,hon⟩;rw[Xr (by rw[hzl,E6,E9,Hxl.out])]at hzb;rw[E7,E5 (by rw[E6,E9,Hxl.out];exact E4 _),Q5,Hx.out.val,Hy.out.val]at hzv;have hisl:=hzb.isL (o:=0) (n:=n+1) (c:=n+1) (by omega) (E4 _);rw[E7,E5 (by omega)]at hisl;have Htrim:=Lh (JT _ _ _ zs w3 hisl (by omega) (by omega));have b3:=Below.only B2.out hon (E4 _) B2.out.size;have hnew:=Ql (B:=w.heap.size) (c:=n+1) hzb hzl (E4 _) (by omega) (by omega) hzw (show Je zs=m+m' by omega) (E4 _);have Hnew:=Lh hnew;have B3:=Lh b3;clear hzb hzl hzw hzv hisl hon b3 hnew;go_wp2_with fail
 refine Htrim.out.mono ?_;rintro e w4⟨rfl,rfl⟩;go_wp2;go_ret;exact⟨_,_,_,_,rfl,Hnew.out,B3.out⟩
theorem We{B B':Nat}{A A':Option Addr}{n c n' c' m m':Nat}{xs ys:List Nat}(w:JW)(hx:Jz B w A n c xs m)(hy:Jz B' w A' n' c' ys m')(hlt:n<n')(h0:0<n')(hm:n'<900) :
  Calls Tryz.prog 132 #[.slice A n c,.slice A' n' c'] w (QO (m+m') w):=by
 obtain⟨i0,hi,hz0,hz1,hz2⟩:=info_parts QT;have hle:=hx.isl.2.1;have hle':=hy.isl.2.1;have hcc:=hx.cap;have hcc':=hy.cap;have hxl:=hx.size;have hyl:=hy.size;have Hx:=Lh hx;have Hy:=Lh hy;have Hxl:=Lh hxl;have Hyl:=Lh hyl;clear hx hy hxl hyl;go_enter Tryz.func132,Tryz.ntmps132;go_wp2_with (at_make;refine wpList_make_full _ rfl _ _ 159 rfl w.heap.size 154 i0 (Ji Ju 0) 1 Tryz.underlying159 hi hz0 hz1 _ _ _ _ (n'+1) rfl rfl (by simp) (by simp) (by rw[hz2];omega) (by unfold maxLen;omega) (E4 _) ?_)
 intro w1 hown hgrow;have hblk:=YM hown (by omega);have b1:=(F0 w.heap.size w).grown hgrow (E4 _) (by simp);have hi1:=Hy.out.isl.keep b1;obtain⟨w2,hcopy,hblk2,honly2⟩:=YU (N:=n'+1) (C:=n'+1) hblk (by simp) hi1 h0 (by omega);rw[Un Hyl.out]at hblk2;have b2:=Below.only b1 honly2 (E4 _) b1.size;have hadd:=Xl w.heap.size 0 (n'+1) (n'+1) n c A (ys ++ E8 1 0) xs w2 hblk2 (Hx.out.isl.keep b2)
  (fun hk a e=>by
   obtain⟨b',o',e2,hb',_⟩:=Hx.out.isl.2.2 hk;rw [e2] at e; injection e with e; subst e; exact Fh hb')
  (by rw [E6,E9,Hyl.out]; omega) (by omega) (Yi Hy.out.words 1) Hx.out.words (by omega) (by omega) (by
   rw[E7,E5 (by rw[E6,E9,Hyl.out];exact E4 _),Q5];have h1:=JH Hy.out.words;have h2:=JH Hx.out.words;rw[Hyl.out]at h1;rw[Hxl.out]at h2;have h3:=Us (show n<=n' by omega);rw[JJ];omega)
 have Hadd:=Lh hadd;have B2:=Lh b2;clear hown hgrow hblk b1 hi1 hblk2 honly2 b2 hadd;go_wp2_with fail
 refine Hadd.out.mono ?_;rintro e w3⟨rfl,⟨zs,hzl,hzw,hzv,hzb⟩,hon⟩;rw[Xr (by rw[hzl,E6,E9,Hyl.out])]at hzb;rw[E7,E5 (by rw[E6,E9,Hyl.out];exact E4 _),Q5,Hy.out.val,Hx.out.val]at hzv;have hisl:=hzb.isL (o:=0) (n:=n'+1) (c:=n'+1) (by omega) (E4 _);rw[E7,E5 (by omega)]at hisl;have Htrim:=Lh (JT _ _ _ zs w3 hisl (by omega) (by omega));have b3:=Below.only B2.out hon (E4 _) B2.out.size;have hnew:=Ql (B:=w.heap.size) (c:=n'+1) hzb hzl (E4 _) (by omega) (by omega) hzw (show Je zs=m+m' by omega) (E4 _);have Hnew:=Lh hnew;have B3:=Lh b3;clear hzb hzl hzw hzv hisl hon b3 hnew;go_wp2_with fail
 refine Htrim.out.mono ?_;rintro e w4⟨rfl,rfl⟩;go_wp2;go_ret;exact⟨_,_,_,_,rfl,Hnew.out,B3.out⟩
theorem QO.cast{m m':Nat}{w w':JW}{e:Ending}(h:QO m w e w')(hm:m=m'):QO m' w e w':=hm ▸ h
theorem UA{B B':Nat}{A A':Option Addr}{n c n' c' m m':Nat}{xs ys:List Nat}(w:JW)(hx:Jz B w A n c xs m)(hy:Jz B' w A' n' c' ys m')(h0:0<n\/0<n')(hm:n<900)(hm':n'<900) :
  Calls Tryz.prog 132 #[.slice A n c,.slice A' n' c'] w (QO (m+m') w):=by
 rcases Fg n n' with h|h
 ·exact We w hx hy h (by omega) hm'
 ·exact Wf w hx hy h (by omega) hm
theorem QZ{B B':Nat}{A A':Option Addr}{n c n' c' m m':Nat}{xs ys:List Nat}(w:JW)(hx:Jz B w A n c xs m)(hy:Jz B' w A' n' c' ys m')(hle:m'<=m)(h0:0<n)(hm:n<900) :
  Calls Tryz.prog 134 #[.slice A n c,.slice A' n' c'] w (QO (m-m') w):=by
 have hxl:=hx.size;have hyl:=hy.size;have hnn:n'<=n:=by
  have h1:=JH hx.words;rw[hxl,hx.val]at h1;exact hy.len_le (by omega)
 have Hclone:=Lh (Yt A n c xs w hx.isl h0 (by omega));have Hx:=Lh hx;have Hy:=Lh hy;have Hxl:=Lh hxl;have hcn:=hx.isl.2.1;have hcc:=hx.cap;clear hx hy hxl hyl;go_enter Tryz.func134,Tryz.ntmps134;go_wp2_with fail
 refine Hclone.out.mono ?_;rintro e w1⟨g,d,rfl,hnd,hdm,hg,hblk,b1⟩;have hsub:=GP g 0 n d n' c' A' xs ys w1 hblk (Hy.out.isl.keep b1)
  (fun hk a e=>by
   obtain⟨b',o',e2,hb',_⟩:=Hy.out.isl.2.2 hk;rw[e2]at e;injection e with e;subst e
   show b'≠g;omega)
  (by rw [Hxl.out]; omega) hnn Hx.out.words Hy.out.words (by omega) (by omega) (by
   rw[E7,E5 (by rw[Hxl.out];exact E4 _),Hx.out.val,Hy.out.val];exact hle)
 have Hsub:=Lh hsub;have B1:=Lh b1;clear hblk b1 hsub;go_wp2_with fail
 refine Hsub.out.mono ?_;rintro e w3⟨rfl,⟨zs,hzl,hzw,hzv,hzb⟩,hon⟩;rw[Xr (by rw[hzl,Hxl.out])]at hzb;rw[E7,E5 (by rw[Hxl.out];exact E4 _),Hx.out.val,Hy.out.val]at hzv;have hisl:=hzb.isL (o:=0) (n:=n) (c:=d) (by omega) hnd;rw[E7,E5 (by omega)]at hisl;have Htrim:=Lh (JT _ _ _ zs w3 hisl (by omega) (by omega));have b3:=Below.only B1.out hon hg B1.out.size;have hnew:=Ql (B:=w.heap.size) (c:=d) hzb hzl hnd (by omega) (by omega) hzw (show Je zs=m-m' by omega) hg;have Hnew:=Lh hnew;have B3:=Lh b3;clear hzb hzl hzw hzv hisl hon b3 hnew;go_wp2_with fail
 refine Htrim.out.mono ?_;rintro e w4⟨rfl,rfl⟩;go_wp2;go_ret;exact⟨_,_,_,_,rfl,Hnew.out,B3.out⟩
theorem G9{P rs xs ys:List Nat}{k n n' d q:Nat}(hP:P.length=n+n')(hk:k<n')(hr:rs.length=n)(hv:Je (P.take (k+n))=Je xs*Je (ys.take k))(h:Je rs+base n*q=Je ((P.drop k).take n)+Je xs*d)(hd:ys.getD k 0=d) :
  Je ((put P k (rs ++ [q])).take (k+1+n))=Je xs*Je (ys.take (k+1)):=by
 have e:(put P k (rs ++ [q])).take (k+1+n)=P.take k ++ (rs ++ [q]):=by
  unfold put;exact List.take_left' (by simp;omega)
 have lk:(P.take k).length=k:=by simp;omega
 have e2:Je (P.take (k+n))=Je (P.take k)+base k*Je ((P.drop k).take n):=by
  have h1:=JR (P.take (k+n)) k;rw[List.take_take,Fo (by omega),lk,List.drop_take,Nat.add_sub_cancel_left]at h1;exact h1
 rw[e,Qc,JB,lk,hr,h,JX hd,Fe,Fe,←hv,e2,←Fq];rw[Fl (base k) (Je xs) d]
def GC(w0:JW)(n n':Nat)(xs ys:List Nat)(vi:Value)(wr:JW):Prop:=
 ∃(k:Nat) (P:List Nat),k<=n'/\vi=Ji Jl (k:Nat)/\P.length=n+n'/\Jy P/\Je (P.take (k+n))=Je xs*Je (ys.take k)/\Blk wr w0.heap.size P/\Below w0.heap.size w0 wr
theorem ZR{B B':Nat}{A A':Option Addr}{n c n' c' m m':Nat}{xs ys:List Nat}(w:JW)(hx:Jz B w A n c xs m)(hy:Jz B' w A' n' c' ys m')(hlt:n'<=n)(h0:0<n')(h48:n'<48)(hm:n<900) :
  Calls Tryz.prog 110 #[.slice A n c,.slice A' n' c'] w (QO (m*m') w):=by
 obtain⟨i0,hi,hz0,hz1,hz2⟩:=info_parts QT;have hle:=hx.isl.2.1;have hle':=hy.isl.2.1;have hcc:=hx.cap;have hcc':=hy.cap;obtain⟨bx,ox,rfl,hbx,_⟩:=hx.at (by omega);obtain⟨b,o,rfl,hb,_,hcell⟩:=hy.at h0;have Hc:=Lh hcell;have Hxl:=Lh hx.size;have Hyl:=Lh hy.size;have Hx:=Lh hx;have Hy:=Lh hy;have t0:((n':Int) ==0)=false:=by rw[beq_eq_false_iff_ne];omega
 clear hx hy hcell;go_enter Tryz.func110,Tryz.ntmps110;go_wp2_with (at_make;refine wpList_make_full _ rfl _ _ 159 rfl w.heap.size 154 i0 (Ji Ju 0) 1 Tryz.underlying159 hi hz0 hz1 _ _ _ _ (n+n') rfl rfl (by simp) (by simp) (by rw[hz2];omega) (by unfold maxLen;omega) (E4 _) ?_)
 intro w1 hown hgrow;have hblk:=YM hown (by omega);have b1:=(F0 w.heap.size w).grown hgrow (E4 _) (by simp);have Hblk:=Lh hblk;have B1:=Lh b1;clear hown hgrow hblk b1;go_wp2_with fail
 go_loopw [31] (fun vi wr=>GC w n n' xs ys vi wr) (fun vi _=>n'-(intOf vi).toNat)
 case atStart=>
  refine⟨0,E8 (n+n') 0,Ff _,rfl,by simp,Q8 _,?_,Hblk.out,B1.out⟩;rw[List.take_replicate,Yj];rfl
 case round=>
  obtain⟨j,P,hj,rfl,hP,hPw,hPv,hPb,hbel⟩:=hrel;have HPv:=Lh hPv;have HPb:=Lh hPb;have HPw:=Lh hPw;have Hbel:=Lh hbel;have HP:=Lh hP;by_cases hjk:j<n'
  ·have cb:=(hbel.cell (p:=⟨b,o+j,Jn⟩) hb).trans (Hc.out j hjk);have hd1:=JG Hy.out.words j;obtain⟨d,hd⟩:∃d,ys.getD j 0=d:=⟨_,rfl⟩;rw[hd]at cb hd1;have Hd:=Lh hd;have Hprod:=Lh (Ug w.heap.size j (n+n'-j) (n+n'-j) n c _ P xs d wr.drew (hPb.drewN 1) (Hx.out.isl.keep hbel.drew) (fun a e=>by injection e with e;subst e;exact Fh hbx) (by omega) (by omega) hPw Hx.out.words hd1 (by omega) (by omega) (by omega));clear hPv hPb hPw hP hbel hd;go_wp2_with fail
   go_region_with (go_at_call 143;refine Hprod.out.mono ?_;rintro e w2 ⟨rs,q,rfl,hrl,hq,hrw,hrv,hrb,hon⟩;have hput:=Jv (xs:=P) (o:=j) (ys:=rs) (by rw[hrl,HP.out];omega);have hfz:=hrb.frozen (j+n);have hcl:=hrb.cell (i:=j+n) (by rw[hput,HP.out];omega))
   all_goals
    have hstep:=G9 HP.out hjk hrl HPv.out hrv Hd.out;have hset:(put P j rs).set (j+n) q=put P j (rs ++ [q]):=by
     rw[←hrl];exact QJ (by rw[hrl,HP.out];omega)
    have hnb:=hrb.set_ q (i:=j+n) (by rw[hput,HP.out];omega);rw[hset]at hnb;have hbel2:=(Below.only Hbel.out.drew hon (E4 _) Hbel.out.drew.size).setCell (p:=⟨w.heap.size,j+n,Jn⟩) (E4 w.heap.size) (Ji Ju (q:Int));have hlen2:(put P j (rs ++ [q])).length=n+n':=by rw[Jv (by rw[E6,hrl,Fa,HP.out];omega),HP.out]
    have hwd:Jy (put P j (rs ++ [q])):=JQ (JQ (JK HPw.out j) (JY hrw hq)) (QF HPw.out _);have Hfin:=Lh (show GC w n n' xs ys (Ji Jl ((j+1:Nat):Int)) _ from⟨j+1,put P j (rs ++ [q]),hjk,rfl,hlen2,hwd,hstep,hnb,hbel2⟩);clear hstep hset hnb hbel2 hlen2 hwd hrl hrw hrv hrb hon hput hfz hcl;go_wp2_with fail
    exact⟨Hfin.out,by simp[intOf] <;> omega⟩
  ·obtain rfl:j=n':=by omega
   have hisl:=hPb.isL (o:=0) (n:=n+j) (c:=n+j) (by omega) (E4 _);rw[E7,E5 (by omega)]at hisl;have Htrim:=Lh (JT _ _ _ P wr hisl (by omega) (by omega));have hval:Je P=m*m':=by
    rw[E5 (by omega),E5 (by rw[Hyl.out];exact E4 _),Hx.out.val,Hy.out.val]at hPv;exact hPv
   have Hnew:=Lh (Ql (B:=w.heap.size) (c:=n+j) hPb hP (E4 _) (by omega) (by omega) hPw hval (E4 _));clear hPb hP hPw hPv hval hisl hbel;go_wp2_with fail
   refine Htrim.out.mono ?_;rintro e w4⟨rfl,rfl⟩;go_wp2;go_ret;exact⟨_,_,_,_,rfl,Hnew.out,Hbel.out⟩
theorem ZQ{B B':Nat}{A A':Option Addr}{n c n' c' m m':Nat}{xs ys:List Nat}(w:JW)(hx:Jz B w A n c xs m)(hy:Jz B' w A' n' c' ys m')(hlt:n<n')(h0:0<n)(h48:n<48)(hm:n'<900) :
  Calls Tryz.prog 110 #[.slice A n c,.slice A' n' c'] w (QO (m'*m) w):=by
 obtain⟨i0,hi,hz0,hz1,hz2⟩:=info_parts QT;have hle:=hx.isl.2.1;have hle':=hy.isl.2.1;have hcc:=hx.cap;have hcc':=hy.cap;obtain⟨bx,ox,rfl,hbx,_⟩:=hy.at (by omega);obtain⟨b,o,rfl,hb,_,hcell⟩:=hx.at h0;have Hc:=Lh hcell;have Hxl:=Lh hy.size;have Hyl:=Lh hx.size;have Hx:=Lh hx;have Hy:=Lh hy;have t0:((n:Int) ==0)=false:=by rw[beq_eq_false_iff_ne];omega
 clear hx hy hcell;go_enter Tryz.func110,Tryz.ntmps110;go_wp2_with (at_make;refine wpList_make_full _ rfl _ _ 159 rfl w.heap.size 154 i0 (Ji Ju 0) 1 Tryz.underlying159 hi hz0 hz1 _ _ _ _ (n'+n) rfl rfl (by simp) (by simp) (by rw[hz2];omega) (by unfold maxLen;omega) (E4 _) ?_)
 intro w1 hown hgrow;have hblk:=YM hown (by omega);have b1:=(F0 w.heap.size w).grown hgrow (E4 _) (by simp);have Hblk:=Lh hblk;have B1:=Lh b1;clear hown hgrow hblk b1;go_wp2_with fail
 go_loopw [31] (fun vi wr=>GC w n' n ys xs vi wr) (fun vi _=>n-(intOf vi).toNat)
 case atStart=>
  refine⟨0,E8 (n'+n) 0,Ff _,rfl,by simp,Q8 _,?_,Hblk.out,B1.out⟩;rw[List.take_replicate,Yj];rfl
 case round=>
  obtain⟨j,P,hj,rfl,hP,hPw,hPv,hPb,hbel⟩:=hrel;have HPv:=Lh hPv;have HPb:=Lh hPb;have HPw:=Lh hPw;have Hbel:=Lh hbel;have HP:=Lh hP;by_cases hjk:j<n
  ·have cb:=(hbel.cell (p:=⟨b,o+j,Jn⟩) hb).trans (Hc.out j hjk);have hd1:=JG Hx.out.words j;obtain⟨d,hd⟩:∃d,xs.getD j 0=d:=⟨_,rfl⟩;rw[hd]at cb hd1;have Hd:=Lh hd;have Hprod:=Lh (Ug w.heap.size j (n'+n-j) (n'+n-j) n' c' _ P ys d wr.drew (hPb.drewN 1) (Hy.out.isl.keep hbel.drew) (fun a e=>by injection e with e;subst e;exact Fh hbx) (by omega) (by omega) hPw Hy.out.words hd1 (by omega) (by omega) (by omega));clear hPv hPb hPw hP hbel hd;go_wp2_with fail
   go_region_with (go_at_call 143;refine Hprod.out.mono ?_;rintro e w2 ⟨rs,q,rfl,hrl,hq,hrw,hrv,hrb,hon⟩;have hput:=Jv (xs:=P) (o:=j) (ys:=rs) (by rw[hrl,HP.out];omega);have hfz:=hrb.frozen (j+n');have hcl:=hrb.cell (i:=j+n') (by rw[hput,HP.out];omega))
   all_goals
    have hstep:=G9 HP.out hjk hrl HPv.out hrv Hd.out;have hset:(put P j rs).set (j+n') q=put P j (rs ++ [q]):=by
     rw[←hrl];exact QJ (by rw[hrl,HP.out];omega)
    have hnb:=hrb.set_ q (i:=j+n') (by rw[hput,HP.out];omega);rw[hset]at hnb;have hbel2:=(Below.only Hbel.out.drew hon (E4 _) Hbel.out.drew.size).setCell (p:=⟨w.heap.size,j+n',Jn⟩) (E4 w.heap.size) (Ji Ju (q:Int));have hlen2:(put P j (rs ++ [q])).length=n'+n:=by rw[Jv (by rw[E6,hrl,Fa,HP.out];omega),HP.out]
    have hwd:Jy (put P j (rs ++ [q])):=JQ (JQ (JK HPw.out j) (JY hrw hq)) (QF HPw.out _);have Hfin:=Lh (show GC w n' n ys xs (Ji Jl ((j+1:Nat):Int)) _ from⟨j+1,put P j (rs ++ [q]),hjk,rfl,hlen2,hwd,hstep,hnb,hbel2⟩);clear hstep hset hnb hbel2 hlen2 hwd hrl hrw hrv hrb hon hput hfz hcl;go_wp2_with fail
    exact⟨Hfin.out,by simp[intOf] <;> omega⟩
  ·obtain rfl:j=n:=by omega
   have hisl:=hPb.isL (o:=0) (n:=n'+j) (c:=n'+j) (by omega) (E4 _);rw[E7,E5 (by omega)]at hisl;have Htrim:=Lh (JT _ _ _ P wr hisl (by omega) (by omega));have hval:Je P=m'*m:=by
    rw[E5 (by omega),E5 (by rw[Hyl.out];exact E4 _),Hy.out.val,Hx.out.val]at hPv;exact hPv
   have Hnew:=Lh (Ql (B:=w.heap.size) (c:=n'+j) hPb hP (E4 _) (by omega) (by omega) hPw hval (E4 _));clear hPb hP hPw hPv hval hisl hbel;go_wp2_with fail
   refine Htrim.out.mono ?_;rintro e w4⟨rfl,rfl⟩;go_wp2;go_ret;exact⟨_,_,_,_,rfl,Hnew.out,Hbel.out⟩
theorem XQ{B B':Nat}{A A':Option Addr}{n c c' m m':Nat}{xs ys:List Nat}(w:JW)(hx:Jz B w A n c xs m)(hy:Jz B' w A' 0 c' ys m') :
  Calls Tryz.prog 110 #[.slice A n c,.slice A' 0 c'] w (QO (m*m') w):=by
 obtain rfl:m'=0:=hy.zero_iff.1 rfl;have hn:=hx.len;have hle:=hx.isl.2.1;have hcc:=hx.cap;have hcc':=hy.cap;rw[Fu];clear hx hy;go_enter Tryz.func110,Tryz.ntmps110;go_wp2;go_ret;exact⟨Jn,0,0,[],rfl,Jz.zero _ _,F0 _ _⟩
theorem XP{B B':Nat}{A A':Option Addr}{c n' c' m m':Nat}{xs ys:List Nat}(w:JW)(hx:Jz B w A 0 c xs m)(hy:Jz B' w A' n' c' ys m')(h0:0<n') :
  Calls Tryz.prog 110 #[.slice A 0 c,.slice A' n' c'] w (QO (m*m') w):=by
 obtain rfl:m=0:=hx.zero_iff.1 rfl;have hn:=hy.len;have hle:=hy.isl.2.1;have hcc:=hx.cap;have hcc':=hy.cap;rw[Nat.zero_mul];clear hx hy;go_enter Tryz.func110,Tryz.ntmps110;go_wp2;go_ret;exact⟨Jn,0,0,[],rfl,Jz.zero _ _,F0 _ _⟩
theorem YR{B B':Nat}{A A':Option Addr}{n c n' c' m m':Nat}{xs ys:List Nat}(w:JW)(hx:Jz B w A n c xs m)(hy:Jz B' w A' n' c' ys m')(h48:n<48\/n'<48)(hm:n<900)(hm':n'<900) :
  Calls Tryz.prog 110 #[.slice A n c,.slice A' n' c'] w (QO (m*m') w):=by
 rcases EZ n' with h0|h0
 ·subst h0;exact XQ w hx hy
 ·rcases EZ n with h1|h1
  ·subst h1;exact XP w hx hy h0
  ·rcases Fg n n' with h|h
   ·exact(ZQ w hx hy h h1 (by omega) hm').mono fun e w' k=>k.cast (Nat.mul_comm _ _)
   ·exact ZR w hx hy h h0 (by omega) hm
theorem Za(x:BitVec 64):IntKind.i64.wrap (x.toNat:Int)=x.toInt:=by
 have:=x.isLt;rw[BitVec.toInt_eq_toNat_cond];simp[IntKind.wrap,IntKind.bits,IntKind.signed]
 split <;> omega
theorem EH{a:Int}(h:I64 a):(EY 64 a).toInt=a:=by
 unfold I64 at h;rw[BitVec.toInt_ofInt];unfold Int.bmod;simp;omega
theorem O2{a:Int}(h:I64 a):(EY 64 a).msb=decide (a<0):=by
 rw[BitVec.msb_eq_toInt,EH h]
theorem Wk(a b:Int):bits .xor Jl a b=(EY 64 a ^^^ EY 64 b).toInt:=by
 show IntKind.i64.wrap ((EY 64 a ^^^ EY 64 b).toNat:Int)=_;exact Za _
theorem EK(a b:Int):bits .and Jl a b=(EY 64 a &&& EY 64 b).toInt:=by
 show IntKind.i64.wrap ((EY 64 a &&& EY 64 b).toNat:Int)=_;exact Za _
theorem VP{a b s:Int}(ha:I64 a)(hb:I64 b)(hs:I64 s):decide (bits .and Jl (bits .xor Jl a s) (bits .xor Jl b s)<0)=((decide (a<0) ^^ decide (s<0)) && (decide (b<0) ^^ decide (s<0))):=by
 rw[Wk,Wk,EK,BitVec.ofInt_toInt,BitVec.ofInt_toInt,←BitVec.msb_eq_toInt,BitVec.msb_and,BitVec.msb_xor,BitVec.msb_xor,O2 ha,O2 hb,O2 hs]
def Qb(z:Int)(w:JW)(e:Ending)(w':JW):Prop:=
 ∃(a:Int) (P:Option Addr),e= .returned (.agg #[Ji Jl a,Jp P])/\Jj 0 w' (.agg #[Ji Jl a,Jp P]) z/\Below w.heap.size w w'
theorem JD{A:Option Addr}{n c m:Nat}{xs:List Nat}(neg:Bool)(z:Int)(w:JW){B:Nat}(h:Jz B w A n c xs m)(hz:Jx neg m=z) :
  Calls Tryz.prog 106 #[.slice A n c,.bool neg] w (Qb z w):=by
 refine(OI 0 A n c xs neg w h.isl h.words h.tight h.len h.cap (Ff _) (fun _ _=>Ff _)).mono ?_;rintro e w' ⟨v,rfl,hv,hb⟩;obtain⟨a,P,rfl⟩:=Jj.form hv;rw[h.val,hz]at hv;exact⟨a,P,rfl,hv,hb⟩
theorem Qb.cast{z k:Int}{w w':JW}{e:Ending}(h:Qb z w e w')(hz:z=k):Qb k w e w':=hz ▸ h
theorem Jd{w0 w w':JW}(h:Below w0.heap.size w0 w)(h':Below w.heap.size w w'):Below w0.heap.size w0 w':=h.trans (h'.mono h.size)
theorem Ua(w:JW)(o:Obj):(w.alloc o).heap[w.heap.size]?=some o:=by
 show(w.heap.push o)[w.heap.size]?=some o;rw[Array.getElem?_push,if_pos rfl]
structure Res (w:JW) (p:Nat):Prop where
 at_:w.heap[p]?=some (.cells #[Ji Jl 0,Jp Jn] 29 (0,0))
theorem Res.new(w:JW):Res (w.alloc (.cells #[Ji Jl 0,Jp Jn] 29)) w.heap.size:=⟨Ua w _⟩
theorem Res.keep{w w':JW}{p:Nat}(h:Res w p)(hb:Below w.heap.size w w'):Res w' p:=by
 have hlt:p<w.heap.size:=by
  rcases Fg p w.heap.size with h1|h1
  ·exact h1
  ·have:=h.at_;rw[Array.getElem?_eq_none h1]at this;cases this
 exact⟨(hb.block p hlt).trans h.at_⟩
theorem Res.k0{w:JW}{p:Nat}(h:Res w p):w.cell? ⟨p,0,Jn⟩=some (Ji Jl 0):=by rw[cell_of_row _ _ _ _ _ _ h.at_];rfl
theorem Res.k1{w:JW}{p:Nat}(h:Res w p):w.cell? ⟨p,1,Jn⟩=some (Jp Jn):=by rw[cell_of_row _ _ _ _ _ _ h.at_];rfl
theorem Res.f0{w:JW}{p:Nat}(h:Res w p):w.frozen? ⟨p,0,Jn⟩=false:=by simp only[Fr,h.at_];rfl
theorem Res.f1{w:JW}{p:Nat}(h:Res w p):w.frozen? ⟨p,1,Jn⟩=false:=by simp only[Fr,h.at_];rfl
theorem Jj.res{w w':JW}{v:Value}{z:Int}{p:Nat}(h:Jj 0 w v z)(hr:Res w p)(hs:w'.heap.size=w.heap.size)(hk:∀k,k≠p->w'.heap[k]?=w.heap[k]?):Jj 0 w' v z:=by
 rcases h with h|⟨hz,q,A,n,c,xs,rfl,hq,hB,hA,c0,c1,hl,hc,hn,hw,ht,hv⟩
 ·exact .inl h
 ·have hqp:q≠p:=by
   intro e;subst e;rw[hr.k0]at c0;cases c0
  refine .inr ⟨hz,q,A,n,c,xs,rfl,by omega,hB,hA,(Fc (hk q hqp)).trans c0,(Fc (hk q hqp)).trans c1,⟨hl.1,hl.2.1,fun h0=>?_⟩,hc,hn,hw,ht,hv⟩;obtain⟨b,o,e,hb,hcell⟩:=hl.2.2 h0;have hlen:=hl.1;rw[JS]at hlen;have hbp:b≠p:=by
   intro e2;subst e2;have h1:=hcell 0 (Ji Ju ((xs.getD 0 0:Nat):Int)) (by simp[u64s,show 0<xs.length by omega]);rw[cell_of_row _ _ _ _ _ _ hr.at_]at h1
   match o,h1 with
   | 0,h1=>simp at h1
   | 1,h1=>simp at h1
   | o+2,h1=>simp at h1
  exact⟨b,o,e,by omega,fun j u hu=>(Fc (hk b hbp)).trans (hcell j u hu)⟩
theorem Jj.stored{w:JW}{v:Value}{z:Int}{p:Nat}(h:Jj 0 w v z)(hr:Res w p)(x y:Value):Jj 0 ((w.setCell ⟨p,0,Jn⟩ x).setCell ⟨p,1,Jn⟩ y) v z:=
 h.res hr (by simp[World.setCell]) (fun k hk=>(Fk (w.setCell ⟨p,0,Jn⟩ x) ⟨p,1,Jn⟩ y k hk).trans (Fk w ⟨p,0,Jn⟩ x k hk))
theorem Jg{w0 w:JW}{p:Nat}(h:Below w0.heap.size w0 w)(hp:w0.heap.size<=p)(x y:Value):Below w0.heap.size w0 ((w.setCell ⟨p,0,Jn⟩ x).setCell ⟨p,1,Jn⟩ y):=
 (h.setCell (p:=⟨p,0,Jn⟩) hp x).setCell (p:=⟨p,1,Jn⟩) hp y
theorem Wv(z:Int):Jx (!decide (z<0)) z.natAbs=-z:=by
 unfold Jx;by_cases hz:z<0 <;> simp[hz] <;> omega
theorem U5{z k:Int}(h:decide (z<0)=decide (k<0)):Jx (decide (z<0)) (z.natAbs+k.natAbs)=z+k:=by
 unfold Jx;by_cases hz:z<0 <;> by_cases hk:k<0 <;> simp[hz,hk]at h ⊢ <;> omega
theorem VZ{z k:Int}(h:decide (z<0)≠decide (k<0))(hle:k.natAbs<=z.natAbs):Jx (decide (z<0)) (z.natAbs-k.natAbs)=z+k:=by
 unfold Jx;by_cases hz:z<0 <;> by_cases hk:k<0 <;> simp[hz,hk]at h ⊢ <;> omega
theorem VY{z k:Int}(h:decide (z<0)≠decide (k<0))(hle:z.natAbs<k.natAbs):Jx (decide (k<0)) (k.natAbs-z.natAbs)=z+k:=by
 unfold Jx;by_cases hz:z<0 <;> by_cases hk:k<0 <;> simp[hz,hk]at h ⊢ <;> omega
theorem UF(z k:Int):Jx (decide (z<0) !=decide (k<0)) (z.natAbs*k.natAbs)=z*k:=by
 rcases Int.natAbs_eq z with hz|hz <;> rcases Int.natAbs_eq k with hk|hk <;> unfold Jx
 all_goals
  have e:((z.natAbs*k.natAbs:Nat):Int)=(z.natAbs:Int)*(k.natAbs:Int):=by push_cast;rfl
  obtain⟨p,hp⟩:∃p:Nat,z.natAbs=p:=⟨_,rfl⟩;obtain⟨q,hq⟩:∃q:Nat,k.natAbs=q:=⟨_,rfl⟩;rw[hp]at hz e ⊢;rw[hq]at hk e ⊢;rw[e,hz,hk];rcases EZ p with h0|h0
  ·subst h0;simp
  ·rcases EZ q with h1|h1
   ·subst h1;simp
   ·first
     | rw[decide_eq_false (show ¬((p:Int)<0)by omega),decide_eq_false (show ¬((q:Int)<0)by omega)];simp
     | rw[decide_eq_false (show ¬((p:Int)<0)by omega),decide_eq_true (show(-(q:Int)<0)by omega)];simp[Int.mul_neg]
     | rw[decide_eq_true (show(-(p:Int)<0)by omega),decide_eq_false (show ¬((q:Int)<0)by omega)];simp[Int.neg_mul]
     | rw[decide_eq_true (show(-(p:Int)<0)by omega),decide_eq_true (show(-(q:Int)<0)by omega)];simp[Int.mul_neg,Int.neg_mul]
theorem Uo(a:Int)(P:Option Addr)(z:Int)(w:JW)(h:Jj 0 w (.agg #[Ji Jl a,Jp P]) z) :
  Calls Tryz.prog 88 #[.agg #[Ji Jl a,Jp P]] w (Qb (-z) w):=by
 obtain⟨bz,hbz⟩:∃bz,decide (z<0)=bz:=⟨_,rfl⟩;have kk:=((F0 w.heap.size w).alloc (E4 _) (.cells #[Ji Jl a,Jp P] 29)).alloc (by simp) (.cells #[Ji Jl 0,Jp Jn] 29);have Hr:=Lh (Res.new (w.alloc (.cells #[Ji Jl a,Jp P] 29)));simp only[World.size_alloc]at Hr;have Hx:=Lh (JF _ z _ bz hbz (h.keep kk));have Kk:=Lh kk;have Hs:=Lh (Wv z);rw[hbz]at Hs;clear hbz kk;rcases h.ways with⟨hz,hv⟩|⟨hz,p,hv,hp,_⟩
 ·obtain⟨rfl,rfl⟩:a=z/\P=Jn:=by simpa[JN]using hv
  unfold I64 at hz;by_cases hmin:a=-9223372036854775808
  ·subst hmin;clear h hz hv;go_enter Tryz.func88,Tryz.ntmps88;go_wp2_with fail
   refine Hx.out.mono ?_;rintro e w1⟨A,n,c,xs,rfl,hx,h1⟩;have Hsg:=Lh (JD (!bz) _ w1 hx Hs.out);have K1:=Lh (Jd Kk.out h1);have R1:=Lh (Hr.out.keep h1);clear hx h1;go_wp2_with fail
   refine Hsg.out.mono ?_;rintro e w2⟨a',P',rfl,hi2,h2⟩;have R2:=Lh (R1.out.keep h2);have Hi2:=Lh (hi2.stored R2.out (Ji Jl a') (Jp P'));have K2:=Lh (Jg (Jd K1.out h2) (Fv w.heap.size) (Ji Jl a') (Jp P'));have k0:=R2.out.k0;have k1:=R2.out.k1;have f0:=R2.out.f0;have f1:=R2.out.f1;clear hi2 h2;go_wp2;exact bodyPost_ret (v:= .agg #[Ji Jl a',Jp P']) (by simp[results,Tryz.results88,go_sem,k0,k1]) rfl ⟨a',P',rfl,Hi2.out,K2.out⟩
  ·have t0:(a == -9223372036854775808)=false:=by rw[beq_eq_false_iff_ne];exact hmin
   have Hfin:=Lh (show I64 (-a)from⟨by omega,by omega⟩);clear h hv;go_enter Tryz.func88,Tryz.ntmps88;go_wp2;exact bodyPost_ret (v:=JN (-a)) (by simp[results,Tryz.results88,go_sem]) rfl ⟨-a,Jn,rfl,.inl ⟨Hfin.out,rfl⟩,((F0 w.heap.size w).alloc (E4 _) _).alloc (by simp) _⟩
 ·obtain⟨rfl,rfl⟩:a=0/\P=some ⟨p,0,Jn⟩:=by simpa using hv
  clear h hz hv;go_enter Tryz.func88,Tryz.ntmps88;go_wp2_with fail
  refine Hx.out.mono ?_;rintro e w1⟨A,n,c,xs,rfl,hx,h1⟩;have Hsg:=Lh (JD (!bz) _ w1 hx Hs.out);have K1:=Lh (Jd Kk.out h1);have R1:=Lh (Hr.out.keep h1);clear hx h1;go_wp2_with fail
  refine Hsg.out.mono ?_;rintro e w2⟨a',P',rfl,hi2,h2⟩;have R2:=Lh (R1.out.keep h2);have Hi2:=Lh (hi2.stored R2.out (Ji Jl a') (Jp P'));have K2:=Lh (Jg (Jd K1.out h2) (Fv w.heap.size) (Ji Jl a') (Jp P'));have k0:=R2.out.k0;have k1:=R2.out.k1;have f0:=R2.out.f0;have f1:=R2.out.f1;clear hi2 h2;go_wp2;exact bodyPost_ret (v:= .agg #[Ji Jl a',Jp P']) (by simp[results,Tryz.results88,go_sem,k0,k1]) rfl ⟨a',P',rfl,Hi2.out,K2.out⟩
