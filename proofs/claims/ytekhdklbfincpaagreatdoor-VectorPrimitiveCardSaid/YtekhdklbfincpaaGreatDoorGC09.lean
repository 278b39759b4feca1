/- GC09: Ops3 -/
import Derived.Test.YtekhdklbfincpaaGreatDoorGC08
import Derived.Test.YtekhdklbfincpaaGreatDoorGC06
import Derived.Laws.CopyRow
set_option maxRecDepth 100000
set_option maxHeartbeats 16000000
namespace Go.Proofs.YtekhdklbfincpaaGreatDoor
open Go.Value renaming int→Ji
open Go.IntKind renaming u64→Ju
open _root_.Option renaming none→Jn
open Go renaming World→JW
open _root_.Nat renaming le_refl→M0,mul_add→M9,eq_zero_or_pos→Mr,ne_of_lt→Ms,lt_or_ge→Mv,mul_left_comm→Mw,zero_le→Mx,min_eq_left→Mz,mul_assoc→MA,add_assoc→MB,zero_add→MC,mul_zero→MD
open _root_.List renaming take_of_length_le→M1,length_append→M2,drop_zero→M3,replicate→M4,length_replicate→M5,length_singleton→M6,nil_append→Mt,take_zero→Mu,length_take→My
open _root_.Array renaming getElem?_modify→M7
open Go.RowKit.Below renaming refl→M8
open Go.RowKit
theorem GX{d m q x h l s f s2 f2:Nat}(hd:d<18446744073709551616)(hm:m<18446744073709551616)(hq:q<18446744073709551616)(hx:x<18446744073709551616)(hh:d*m/18446744073709551616=h)(hl:d*m%18446744073709551616=l)
  (hs:(l+q+0)%18446744073709551616=s) (hf:(l+q+0)/18446744073709551616=f) (hs2:(s+x+0)%18446744073709551616=s2) (hf2:(s+x+0)/18446744073709551616=f2) :
  s2+18446744073709551616*(h+f+f2)=x+d*m+q/\h+f+f2<18446744073709551616/\s2<18446744073709551616/\s<18446744073709551616/\h+f<18446744073709551616:=by
 have h1:d*m<=18446744073709551615*18446744073709551615:=Nat.mul_le_mul (by omega) (by omega);generalize d*m=t at *
 omega
def Fc(w0:JW)(g o n:Nat)(xs ys:List Nat)(m:Nat)(vi vp:Value)(wr:JW):Prop:=
 ∃(rs:List Nat) (p:Nat),rs.length<=n/\vi=Ji .i64 (rs.length:Nat)/\vp=Ji Ju (p:Nat)/\p<18446744073709551616/\Jz rs/\Je rs+base rs.length*p=Je ((xs.drop o).take rs.length)+Je (ys.take rs.length)*m/\Blk wr g (put xs o rs)/\Only g w0 wr
theorem Fy{w0 wr:JW}{g o n k x d m q h l s f s2 f2 j:Nat}{xs ys rs:List Nat}(hk:rs.length=k)(hkn:k<n)(ho:o+n<=xs.length)(hx:xs.getD (o+k) 0=x)(hy:ys.getD k 0=d)(hx1:x<18446744073709551616)(hd:d<18446744073709551616)(hm:m<18446744073709551616)(hq:q<18446744073709551616)
  (hh:d*m/18446744073709551616=h) (hl:d*m%18446744073709551616=l) (hs:(l+q+0)%18446744073709551616=s) (hf:(l+q+0)/18446744073709551616=f) (hs2:(s+x+0)%18446744073709551616=s2) (hf2:(s+x+0)/18446744073709551616=f2)
  (hw:Jz rs) (hv:Je rs+base rs.length*q=Je ((xs.drop o).take rs.length)+Je (ys.take rs.length)*m) (hb:Blk wr g (put xs o rs)) (ho2:Only g w0 wr) :
  Fc w0 g o n xs ys m (Ji .i64 ((k:Int)+1)) (Ji Ju ((h:Int)+f+f2)) ((wr.drewN j).setCell ⟨g,o+k,Jn⟩ (Ji Ju (s2:Int))):=by
 obtain⟨e1,e2,e3,_⟩:=GX hd hm hq hx1 hh hl hs hf hs2 hf2;subst hk;refine⟨rs ++ [s2],h+f+f2,by simp;omega,by simp,by simp,e2,Qr hw e3,?_,?_,(ho2.drewN j).set_ _ _⟩
 ·rw[JD,M2,M6,JT,Ui (by omega) hx,JD,Yj (by omega),Qp hy];have e4:base rs.length*s2+18446744073709551616*base rs.length*(h+f+f2)=base rs.length*(x+d*m+q):=by rw[←e1];simp only[M9,MA,Mw]
  rw[MB,e4,M9,M9,Nat.add_mul,MA];omega
 ·rw[←Yd (by omega)];exact(hb.drewN j).set_ _ (by rw[Jy (by omega)];omega)
theorem Xt(g o n c n' c':Nat)(A':Option Addr)(xs ys:List Nat)(m:Nat)(w:JW)(hb:Blk w g xs)(hl:IsL w A' n' c' (u64s ys))(hA:∀a:Addr,A'=some a->a.block≠g)(ho:o+n<=xs.length)(hn':n'<=n)(hx:Jz xs)(hy:Jz ys)(hm:m<18446744073709551616)(hn:n<1000000)(_hoo:o<1000000)(h0:0<n') :
  Calls Tryz.prog 151 #[.slice (some ⟨g,o,Jn⟩) n c,.slice A' n' c',Ji Ju (m:Nat)] w fun e w'=>
   ∃(rs:List Nat) (q:Nat),e= .returned (Ji Ju (q:Nat))/\rs.length=n'/\q<18446744073709551616/\Jz rs/\Je rs+base n'*q=Je ((xs.drop o).take n')+Je ys*m/\Blk w' g (put xs o rs)/\Only g w w':=by
 have hlen:ys.length=n':=by have:=hl.1;rwa [Qi]at this
 obtain⟨b',o',rfl,hb',hc'⟩:=hl.2.2 h0;have hne:b'≠g:=hA _ rfl;have Hb:=Lh hb;have Hx:=Lh hx;have Hy:=Lh hy;have Hlen:=Lh hlen;have Hc:=Lh (show ∀k:Nat,k<n'->w.cell? ⟨b',o'+k,Jn⟩=some (Ji Ju ((ys.getD k 0:Nat):Int))from fun k hk=>hc' k _ (by simp[u64s,show k<ys.length by omega]));have hle:=hl.2.1;clear hb hx hy hl hA hlen hc';go_enter Tryz.func151,Tryz.ntmps151;go_wp2_with fail
 go_loopw [15,7] (fun vi vp wr=>Fc w g o n' xs ys m vi vp wr) (fun vi _ _=>n'-(intOf vi).toNat)
 case atStart=>exact⟨[],0,Mx _,rfl,rfl,by decide,fun d hd=>absurd hd (by simp),by simp[Je,QH],by rw[UC];exact Hb.out,Only.refl _ _⟩
 case round=>
  obtain⟨rs,q,hkn,rfl,rfl,hq,hw,hv,hblk,honly⟩:=hrel;have Hw:=Lh hw;have Hv:=Lh hv;have Hblk:=Lh hblk;have Honly:=Lh honly;obtain⟨k,hk⟩:∃k,rs.length=k:=⟨_,rfl⟩;have Hk:=Lh hk;rw[hk]at hkn ⊢;by_cases hlt:k<n'
  ·have hcell:=hblk.cell (i:=o+k) (by rw[Jy (by omega)];omega);rw[Ym (by omega) (by omega)]at hcell;have hfz:=hblk.frozen (o+k);have hcy:=(honly.cell (o:=o'+k) hb' hne).trans (Hc.out k hlt);have hx1:=JN Hx.out (o+k);have hy1:=JN Hy.out k;obtain⟨x,hx⟩:∃x,xs.getD (o+k) 0=x:=⟨_,rfl⟩;obtain⟨d,hd⟩:∃d,ys.getD k 0=d:=⟨_,rfl⟩;rw[hx]at hcell hx1;rw[hd]at hcy hy1;have HX:=Lh hx;have HY:=Lh hd;clear hblk honly hw hv hk hx hd;obtain⟨h,hh⟩:∃h,d*m/18446744073709551616=h:=⟨_,rfl⟩;obtain⟨l,hl⟩:∃l,d*m%18446744073709551616=l:=⟨_,rfl⟩;obtain⟨s,hs⟩:∃s,(l+q+0)%18446744073709551616=s:=⟨_,rfl⟩;obtain⟨f,hf⟩:∃f,(l+q+0)/18446744073709551616=f:=⟨_,rfl⟩;obtain⟨s2,hs2⟩:∃s2,(s+x+0)%18446744073709551616=s2:=⟨_,rfl⟩;obtain⟨f2,hf2⟩:∃f2,(s+x+0)/18446744073709551616=f2:=⟨_,rfl⟩;have Hmul:=Lh (Vq d m h l hy1 hm hh hl);have hadd:∀W:JW,(callFunc 170 #[Ji Ju (l:Int),Ji Ju (q:Int),Ji Ju 0]).run Tryz.prog W= .ok (.value (.tuple #[Ji Ju (s:Int),Ji Ju (f:Int)])) W:=Uv l q 0 s f (by omega) hs hf;have hadd2:∀W:JW,(callFunc 170 #[Ji Ju (s:Int),Ji Ju (x:Int),Ji Ju 0]).run Tryz.prog W= .ok (.value (.tuple #[Ji Ju (s2:Int),Ji Ju (f2:Int)])) W:=Uv s x 0 s2 f2 (by omega) hs2 hf2;obtain⟨_,hle,_,_,hle2⟩:=GX hy1 hm hq hx1 hh hl hs hf hs2 hf2;have hle':(h:Int)+f+f2<18446744073709551616:=by omega
   have hle2':(h:Int)+f<18446744073709551616:=by omega
   have Hh:=Lh hh;have Hl:=Lh hl;have Hs:=Lh hs;have Hf:=Lh hf;have Hs2:=Lh hs2;have Hf2:=Lh hf2;clear hh hl hs hf hs2 hf2;go_wp2_with fail
   refine(Hmul.out _).mono ?_;rintro e w' ⟨rfl,rfl⟩;go_wp2_with fail
   exact⟨Fy (j:=0) Hk.out hlt (by omega) HX.out HY.out hx1 hy1 hm hq Hh.out Hl.out Hs.out Hf.out Hs2.out Hf2.out Hw.out Hv.out Hblk.out Honly.out,by simp[intOf] <;> omega⟩
  ·obtain rfl:k=n':=by omega
   have Hys:=Lh (show ys.take k=ys from M1 (by rw[Hlen.out];exact M0 _));clear hblk honly hw hv hk;go_wp2;go_ret;exact⟨rs,q,rfl,Hk.out,hq,Hw.out,by have h1:=Hv.out;rw[Hk.out,Hys.out]at h1;exact h1,Hblk.out,Honly.out⟩
theorem JC.len_le{B:Nat}{w:JW}{A:Option Addr}{n c m k:Nat}{xs:List Nat}(h:JC B w A n c xs m)(hm:m<base k):n<=k:=by
 rcases h.tight with h0|h0
 ·have:=h.size;omega
 ·rw[h.val,h.size]at h0;rcases Mv k n with hlt|hge
  ·have:=XP (show k<=n-1 by omega);omega
  ·exact hge
theorem JC.zero_iff{B:Nat}{w:JW}{A:Option Addr}{n c m:Nat}{xs:List Nat}(h:JC B w A n c xs m):n=0↔m=0:=by
 have hs:=h.size;constructor
 ·intro h0;subst h0;have:xs=[]:=List.eq_nil_of_length_eq_zero hs;rw[←h.val,this];rfl
 ·intro h0;subst h0;have:=h.len_le (k:=0) (by rw[QH];decide);omega
def Yr(m:Nat)(w:JW)(e:Ending)(w':JW):Prop:=
 ∃(A:Option Addr) (n c:Nat) (xs:List Nat),e= .returned (.slice A n c)/\JC w.heap.size w' A n c xs m/\Below w.heap.size w w'
theorem Wi{l:List Nat}{n:Nat}(h:n<=l.length):Uw (l.take (QF l n)):=by
 have hle:=UQ l n;have hlen:(l.take (QF l n)).length=QF l n:=by simp;omega
 rcases Mr (QF l n)with h0|h0
 ·exact .inl (by omega)
 ·refine .inr ?_;rw[hlen];have hlast:l.getD (QF l n-1) 0≠0:=by
   clear hlen hle
   induction n with
   | zero=>simp[QF]at h0
   | succ n ih=>
    unfold QF at h0 ⊢;by_cases hz:l.getD n 0=0
    ·rw[if_pos hz]at h0 ⊢;exact ih (by omega) h0
    ·rw[if_neg hz];exact hz
  obtain⟨k,hk⟩:∃k,QF l n=k+1:=⟨QF l n-1,by omega⟩;rw[hk]at hlast hle ⊢;rw[show k+1-1=k from rfl]at hlast ⊢;obtain⟨d,hd⟩:∃d,l.getD k 0=d:=⟨_,rfl⟩;rw[EP (by omega) hd,JD,My,Mz (by omega)];rw[hd]at hlast;have:base k*1<=base k*d:=Nat.mul_le_mul_left _ (by omega);omega
theorem QI{B:Nat}{w:JW}{g n c m:Nat}{zs:List Nat}(hb:Blk w g zs)(hn:zs.length=n)(hc:n<=c)(hc2:c<=9223372036854775807)(hlen:n<1000)(hw:Jz zs)(hv:Je zs=m)(hB:B<=g) :
  JC B w (some ⟨g,0,Jn⟩) (QF zs n) c (zs.take (QF zs n)) m:=by
 have hle:=UQ zs n;have h:=hb.isL (o:=0) (n:=QF zs n) (c:=c) (by omega) (by omega);rw[M3]at h;refine⟨h,hc2,by omega,JY hw _,Wi (by omega),?_,fun a e=>by injection e with e;subst e;exact hB⟩;rw[Uh zs n (by omega),←hn,List.take_length,hv]
theorem VL(n:Nat):(madeCells #[Ji Ju 0] n).toList=u64s (M4 n 0):=by
 unfold u64s madeCells;apply List.ext_getElem
 ·simp
 ·intro i h1 h2;simp[Nat.mod_one]
theorem Ua(n:Nat):Je (M4 n 0)=0:=by
 induction n with
 | zero=>rfl
 | succ n ih=>rw[List.replicate_succ,Je,ih]
theorem YR(n:Nat):Jz (M4 n 0):=fun d hd=>by rw[(List.mem_replicate.1 hd).2];decide
theorem Eb(w:JW)(g:Nat)(cs:Array Value)(_k:Nat)(cur:Array Value)(t:TypeId)(hg:w.heap[g]?=some (.cells cur t (0,0)))(hk:cs.size=cur.size):U0 (w.setRow g cs) g=U0 w g:=by
 unfold U0;rw[hg];simp[World.setRow,M7,hg,hk]
theorem Xc{w:JW}{g N C:Nat}{zs:List Nat}{A:Option Addr}{n c:Nat}{xs:List Nat}(hb:Blk w g zs)(hN:N<=zs.length)(hl:IsL w A n c (u64s xs))(h0:0<n)(hn:n<=N) :
  ∃w',(∀ty,(Builtin.copy_ #[129,129] ty #[.slice (some ⟨g,0,Jn⟩) N C,.slice A n c]).run Tryz.prog w= .ok (goInt n) w')/\Blk w' g (put zs 0 xs)/\Only g w w':=by
 obtain⟨cur,hg,hcur⟩:=hb;obtain⟨b,o,rfl,hbw,hc⟩:=hl.2.2 h0;have hlen:(u64s xs).length=n:=hl.1;have hxl:xs.length=n:=by rwa [Qi]at hlen
 have hroom:zs.length<=cur.size:=by
  have:=congrArg List.length hcur;rw[My,Qi]at this;have e:cur.toList.length=cur.size:=by simp
  omega
 refine⟨w.setRow g ((u64s xs) ++ cur.toList.drop (0+(u64s xs).length)).toArray,fun ty=>?_,?_,?_⟩
 ·have h:=run_copy_row (P:=Tryz.prog) w 129 129 ty 139 g 0 N C ⟨b,o,Jn⟩ n c cur 139 (u64s xs) Tryz.underlying129 (by kernel_rfl) hg
   (by rw [hlen]; show n=min n N; omega) (fun j v hj=>by
    have e:(⟨b,o,Jn⟩:Addr).add j=⟨b,o+j,Jn⟩:=by unfold Addr.add;split <;> simp_all
    rw [e]; exact hc j v hj) (by omega) (fun v hv=>by obtain ⟨d,_,rfl⟩:=List.mem_map.1 hv; rfl)
  rw[hlen,Mu,Mt]at h;rw[hlen];exact h ▸ rfl
 ·refine⟨_,by simp[World.setRow,M7,hg];rfl,?_⟩;have e:put zs 0 xs=xs ++ zs.drop xs.length:=by unfold put;simp
  rw[e,M2,List.length_drop];simp only[hlen];rw[show xs.length+(zs.length-xs.length)=zs.length by omega];rw[List.take_append,hlen,M1 (by omega)];have e2:u64s (xs ++ zs.drop xs.length)=u64s xs ++ (u64s zs).drop n:=by simp[u64s,hxl]
  rw[e2,←hcur,List.drop_take]
 ·refine⟨rfl,rfl,rfl,by simp[World.setRow],fun k hk hkg=>?_,fun _=>?_⟩
  ·simp[World.setRow,M7,Ne.symm hkg]
  ·refine Eb w g _ 0 cur _ hg ?_;simp;omega
theorem Gu{xs zs:List Nat}(h:zs.length=xs.length):put xs 0 zs=zs:=by
 unfold put;rw[Mu,Mt,MC,h,List.drop_length,List.append_nil]
theorem XE{xs:List Nat}{n k:Nat}(h:xs.length=n):put (M4 (n+k) 0) 0 xs=xs ++ M4 k 0:=by
 unfold put;rw[Mu,Mt,MC,h,List.drop_replicate,Nat.add_sub_cancel_left]
theorem YM(xs:List Nat)(k:Nat):Je (xs ++ M4 k 0)=Je xs:=by
 rw[Qx,Ua,MD,Nat.add_zero]
theorem Y5{xs:List Nat}(h:Jz xs)(k:Nat):Jz (xs ++ M4 k 0):=Qf h (YR k)
theorem US{w w1:JW}{N:Nat}(hown:w1.ownsRow w.heap.size 139 1 (.slice (some ⟨w.heap.size,0,Jn⟩) N N) N (madeCells #[Ji Ju 0] N).toList)(h0:0<N):Blk w1 w.heap.size (M4 N 0):=by
 rw[VL]at hown;obtain⟨g,c,e,_,_,_,hb⟩:=Blk.of_own hown h0
 injection e with e1 e2 e3
 injection e1 with e1
 injection e1 with e1
 rw[e1];exact hb
theorem Dw{B B':Nat}{A A':Option Addr}{n c n' c' m m':Nat}{xs ys:List Nat}(w:JW)(hx:JC B w A n c xs m)(hy:JC B' w A' n' c' ys m')(hlt:n'<=n)(h0:0<n)(hm:n<900) :
  Calls Tryz.prog 148 #[.slice A n c,.slice A' n' c'] w (Yr (m+m') w):=by
 obtain⟨i0,hi,hz0,hz1,hz2⟩:=info_parts YA;have hle:=hx.isl.2.1;have hle':=hy.isl.2.1;have hcc:=hx.cap;have hcc':=hy.cap;have hxl:=hx.size;have hyl:=hy.size;have Hx:=Lh hx;have Hy:=Lh hy;have Hxl:=Lh hxl;have Hyl:=Lh hyl;clear hx hy hxl hyl;go_enter Tryz.func148,Tryz.ntmps148;go_wp2_with (at_make;refine wpList_make_full _ rfl _ _ 129 rfl w.heap.size 139 i0 (Ji Ju 0) 1 Tryz.underlying129 hi hz0 hz1 _ _ _ _ (n+1) rfl rfl (by simp) (by simp) (by rw[hz2];omega) (by unfold maxLen;omega) (M0 _) ?_)
 intro w1 hown hgrow;have hblk:=US hown (by omega);have b1:=(M8 w.heap.size w).grown hgrow (M0 _) (by simp);have hi1:=Hx.out.isl.keep b1;obtain⟨w2,hcopy,hblk2,honly2⟩:=Xc (N:=n+1) (C:=n+1) hblk (by simp) hi1 h0 (by omega);rw[XE Hxl.out]at hblk2;have b2:=Below.only b1 honly2 (M0 _) b1.size;have hadd:=Gi w.heap.size 0 (n+1) (n+1) n' c' A' (xs ++ M4 1 0) ys w2 hblk2 (Hy.out.isl.keep b2)
  (fun hk a e=>by
   obtain⟨b',o',e2,hb',_⟩:=Hy.out.isl.2.2 hk;rw [e2] at e; injection e with e; subst e; exact Ms hb')
  (by rw [M2,M5,Hxl.out]; omega) (by omega) (Y5 Hx.out.words 1) Hy.out.words (by omega) (by omega) (by
   rw[M3,M1 (by rw[M2,M5,Hxl.out];exact M0 _),YM];have h1:=JO Hx.out.words;have h2:=JO Hy.out.words;rw[Hxl.out]at h1;rw[Hyl.out]at h2;have h3:=XP (show n'<=n by omega);rw[JT];omega)
 have Hadd:=Lh hadd;have B2:=Lh b2;clear hown hgrow hblk b1 hi1 hblk2 honly2 b2 hadd;go_wp2_with fail
 refine Hadd.out.mono ?_;rintro e w3⟨rfl,⟨zs,hzl,hzw,hzv,hzb⟩,hon⟩;rw[Gu (by rw[hzl,M2,M5,Hxl.out])]at hzb;rw[M3,M1 (by rw[M2,M5,Hxl.out];exact M0 _),YM,Hx.out.val,Hy.out.val]at hzv;have hisl:=hzb.isL (o:=0) (n:=n+1) (c:=n+1) (by omega) (M0 _);rw[M3,M1 (by omega)]at hisl;have Htrim:=Lh (Qj _ _ _ zs w3 hisl (by omega) (by omega));have b3:=Below.only B2.out hon (M0 _) B2.out.size;have hnew:=QI (B:=w.heap.size) (c:=n+1) hzb hzl (M0 _) (by omega) (by omega) hzw (show Je zs=m+m' by omega) (M0 _);have Hnew:=Lh hnew;have B3:=Lh b3;clear hzb hzl hzw hzv hisl hon b3 hnew;go_wp2_with fail
 refine Htrim.out.mono ?_;rintro e w4⟨rfl,rfl⟩;go_wp2;go_ret;exact⟨_,_,_,_,rfl,Hnew.out,B3.out⟩
theorem Dv{B B':Nat}{A A':Option Addr}{n c n' c' m m':Nat}{xs ys:List Nat}(w:JW)(hx:JC B w A n c xs m)(hy:JC B' w A' n' c' ys m')(hlt:n<n')(h0:0<n')(hm:n'<900) :
  Calls Tryz.prog 148 #[.slice A n c,.slice A' n' c'] w (Yr (m+m') w):=by
 obtain⟨i0,hi,hz0,hz1,hz2⟩:=info_parts YA;have hle:=hx.isl.2.1;have hle':=hy.isl.2.1;have hcc:=hx.cap;have hcc':=hy.cap;have hxl:=hx.size;have hyl:=hy.size;have Hx:=Lh hx;have Hy:=Lh hy;have Hxl:=Lh hxl;have Hyl:=Lh hyl;clear hx hy hxl hyl;go_enter Tryz.func148,Tryz.ntmps148;go_wp2_with (at_make;refine wpList_make_full _ rfl _ _ 129 rfl w.heap.size 139 i0 (Ji Ju 0) 1 Tryz.underlying129 hi hz0 hz1 _ _ _ _ (n'+1) rfl rfl (by simp) (by simp) (by rw[hz2];omega) (by unfold maxLen;omega) (M0 _) ?_)
 intro w1 hown hgrow;have hblk:=US hown (by omega);have b1:=(M8 w.heap.size w).grown hgrow (M0 _) (by simp);have hi1:=Hy.out.isl.keep b1;obtain⟨w2,hcopy,hblk2,honly2⟩:=Xc (N:=n'+1) (C:=n'+1) hblk (by simp) hi1 h0 (by omega);rw[XE Hyl.out]at hblk2;have b2:=Below.only b1 honly2 (M0 _) b1.size;have hadd:=Gi w.heap.size 0 (n'+1) (n'+1) n c A (ys ++ M4 1 0) xs w2 hblk2 (Hx.out.isl.keep b2)
  (fun hk a e=>by
   obtain⟨b',o',e2,hb',_⟩:=Hx.out.isl.2.2 hk;rw [e2] at e; injection e with e; subst e; exact Ms hb')
  (by rw [M2,M5,Hyl.out]; omega) (by omega) (Y5 Hy.out.words 1) Hx.out.words (by omega) (by omega) (by
   rw[M3,M1 (by rw[M2,M5,Hyl.out];exact M0 _),YM];have h1:=JO Hy.out.words;have h2:=JO Hx.out.words;rw[Hyl.out]at h1;rw[Hxl.out]at h2;have h3:=XP (show n<=n' by omega);rw[JT];omega)
 have Hadd:=Lh hadd;have B2:=Lh b2;clear hown hgrow hblk b1 hi1 hblk2 honly2 b2 hadd;go_wp2_with fail
 refine Hadd.out.mono ?_;rintro e w3⟨rfl,⟨zs,hzl,hzw,hzv,hzb⟩,hon⟩;rw[Gu (by rw[hzl,M2,M5,Hyl.out])]at hzb;rw[M3,M1 (by rw[M2,M5,Hyl.out];exact M0 _),YM,Hy.out.val,Hx.out.val]at hzv;have hisl:=hzb.isL (o:=0) (n:=n'+1) (c:=n'+1) (by omega) (M0 _);rw[M3,M1 (by omega)]at hisl;have Htrim:=Lh (Qj _ _ _ zs w3 hisl (by omega) (by omega));have b3:=Below.only B2.out hon (M0 _) B2.out.size;have hnew:=QI (B:=w.heap.size) (c:=n'+1) hzb hzl (M0 _) (by omega) (by omega) hzw (show Je zs=m+m' by omega) (M0 _);have Hnew:=Lh hnew;have B3:=Lh b3;clear hzb hzl hzw hzv hisl hon b3 hnew;go_wp2_with fail
 refine Htrim.out.mono ?_;rintro e w4⟨rfl,rfl⟩;go_wp2;go_ret;exact⟨_,_,_,_,rfl,Hnew.out,B3.out⟩
theorem Yr.cast{m m':Nat}{w w':JW}{e:Ending}(h:Yr m w e w')(hm:m=m'):Yr m' w e w':=hm ▸ h
theorem Vc{B B':Nat}{A A':Option Addr}{n c n' c' m m':Nat}{xs ys:List Nat}(w:JW)(hx:JC B w A n c xs m)(hy:JC B' w A' n' c' ys m')(h0:0<n\/0<n')(hm:n<900)(hm':n'<900) :
  Calls Tryz.prog 148 #[.slice A n c,.slice A' n' c'] w (Yr (m+m') w):=by
 rcases Mv n n' with h|h
 ·exact Dv w hx hy h (by omega) hm'
 ·exact Dw w hx hy h (by omega) hm
theorem YG{B B':Nat}{A A':Option Addr}{n c n' c' m m':Nat}{xs ys:List Nat}(w:JW)(hx:JC B w A n c xs m)(hy:JC B' w A' n' c' ys m')(hle:m'<=m)(h0:0<n)(hm:n<900) :
  Calls Tryz.prog 149 #[.slice A n c,.slice A' n' c'] w (Yr (m-m') w):=by
 have hxl:=hx.size;have hyl:=hy.size;have hnn:n'<=n:=by
  have h1:=JO hx.words;rw[hxl,hx.val]at h1;exact hy.len_le (by omega)
 have Hclone:=Lh (Uu A n c xs w hx.isl h0 (by omega));have Hx:=Lh hx;have Hy:=Lh hy;have Hxl:=Lh hxl;have hcn:=hx.isl.2.1;have hcc:=hx.cap;clear hx hy hxl hyl;go_enter Tryz.func149,Tryz.ntmps149;go_wp2_with fail
 refine Hclone.out.mono ?_;rintro e w1⟨g,d,rfl,hnd,hdm,hg,hblk,b1⟩;have hsub:=Wn g 0 n d n' c' A' xs ys w1 hblk (Hy.out.isl.keep b1)
  (fun hk a e=>by
   obtain⟨b',o',e2,hb',_⟩:=Hy.out.isl.2.2 hk;rw[e2]at e;injection e with e;subst e
   show b'≠g;omega)
  (by rw [Hxl.out]; omega) hnn Hx.out.words Hy.out.words (by omega) (by omega) (by
   rw[M3,M1 (by rw[Hxl.out];exact M0 _),Hx.out.val,Hy.out.val];exact hle)
 have Hsub:=Lh hsub;have B1:=Lh b1;clear hblk b1 hsub;go_wp2_with fail
 refine Hsub.out.mono ?_;rintro e w3⟨rfl,⟨zs,hzl,hzw,hzv,hzb⟩,hon⟩;rw[Gu (by rw[hzl,Hxl.out])]at hzb;rw[M3,M1 (by rw[Hxl.out];exact M0 _),Hx.out.val,Hy.out.val]at hzv;have hisl:=hzb.isL (o:=0) (n:=n) (c:=d) (by omega) hnd;rw[M3,M1 (by omega)]at hisl;have Htrim:=Lh (Qj _ _ _ zs w3 hisl (by omega) (by omega));have b3:=Below.only B1.out hon hg B1.out.size;have hnew:=QI (B:=w.heap.size) (c:=d) hzb hzl hnd (by omega) (by omega) hzw (show Je zs=m-m' by omega) hg;have Hnew:=Lh hnew;have B3:=Lh b3;clear hzb hzl hzw hzv hisl hon b3 hnew;go_wp2_with fail
 refine Htrim.out.mono ?_;rintro e w4⟨rfl,rfl⟩;go_wp2;go_ret;exact⟨_,_,_,_,rfl,Hnew.out,B3.out⟩
theorem WR{P rs xs ys:List Nat}{k n n' d q:Nat}(hP:P.length=n+n')(hk:k<n')(hr:rs.length=n)(hv:Je (P.take (k+n))=Je xs*Je (ys.take k))(h:Je rs+base n*q=Je ((P.drop k).take n)+Je xs*d)(hd:ys.getD k 0=d) :
  Je ((put P k (rs ++ [q])).take (k+1+n))=Je xs*Je (ys.take (k+1)):=by
 have e:(put P k (rs ++ [q])).take (k+1+n)=P.take k ++ (rs ++ [q]):=by
  unfold put;exact List.take_left' (by simp;omega)
 have lk:(P.take k).length=k:=by simp;omega
 have e2:Je (P.take (k+n))=Je (P.take k)+base k*Je ((P.drop k).take n):=by
  have h1:=Qh (P.take (k+n)) k;rw[List.take_take,Mz (by omega),lk,List.drop_take,Nat.add_sub_cancel_left]at h1;exact h1
 rw[e,Qx,JD,lk,hr,h,Qp hd,M9,M9,←hv,e2,←MB];rw[Mw (base k) (Je xs) d]
def Z9(w0:JW)(n n':Nat)(xs ys:List Nat)(vi:Value)(wr:JW):Prop:=
 ∃(k:Nat) (P:List Nat),k<=n'/\vi=Ji .i64 (k:Nat)/\P.length=n+n'/\Jz P/\Je (P.take (k+n))=Je xs*Je (ys.take k)/\Blk wr w0.heap.size P/\Below w0.heap.size w0 wr
theorem FQ{B B':Nat}{A A':Option Addr}{n c n' c' m m':Nat}{xs ys:List Nat}(w:JW)(hx:JC B w A n c xs m)(hy:JC B' w A' n' c' ys m')(hlt:n'<=n)(h0:0<n')(h48:n'<48)(hm:n<900) :
  Calls Tryz.prog 121 #[.slice A n c,.slice A' n' c'] w (Yr (m*m') w):=by
 obtain⟨i0,hi,hz0,hz1,hz2⟩:=info_parts YA;have hle:=hx.isl.2.1;have hle':=hy.isl.2.1;have hcc:=hx.cap;have hcc':=hy.cap;obtain⟨bx,ox,rfl,hbx,_⟩:=hx.at (by omega);obtain⟨b,o,rfl,hb,_,hcell⟩:=hy.at h0;have Hc:=Lh hcell;have Hxl:=Lh hx.size;have Hyl:=Lh hy.size;have Hx:=Lh hx;have Hy:=Lh hy;have t0:((n':Int) ==0)=false:=by rw[beq_eq_false_iff_ne];omega
 clear hx hy hcell;go_enter Tryz.func121,Tryz.ntmps121;go_wp2_with (at_make;refine wpList_make_full _ rfl _ _ 129 rfl w.heap.size 139 i0 (Ji Ju 0) 1 Tryz.underlying129 hi hz0 hz1 _ _ _ _ (n+n') rfl rfl (by simp) (by simp) (by rw[hz2];omega) (by unfold maxLen;omega) (M0 _) ?_)
 intro w1 hown hgrow;have hblk:=US hown (by omega);have b1:=(M8 w.heap.size w).grown hgrow (M0 _) (by simp);have Hblk:=Lh hblk;have B1:=Lh b1;clear hown hgrow hblk b1;go_wp2_with fail
 go_loopw [31] (fun vi wr=>Z9 w n n' xs ys vi wr) (fun vi _=>n'-(intOf vi).toNat)
 case atStart=>
  refine⟨0,M4 (n+n') 0,Mx _,rfl,by simp,YR _,?_,Hblk.out,B1.out⟩;rw[List.take_replicate,Ua];rfl
 case round=>
  obtain⟨j,P,hj,rfl,hP,hPw,hPv,hPb,hbel⟩:=hrel;have HPv:=Lh hPv;have HPb:=Lh hPb;have HPw:=Lh hPw;have Hbel:=Lh hbel;have HP:=Lh hP;by_cases hjk:j<n'
  ·have cb:=(hbel.cell (p:=⟨b,o+j,Jn⟩) hb).trans (Hc.out j hjk);have hd1:=JN Hy.out.words j;obtain⟨d,hd⟩:∃d,ys.getD j 0=d:=⟨_,rfl⟩;rw[hd]at cb hd1;have Hd:=Lh hd;have Hprod:=Lh (Xt w.heap.size j (n+n'-j) (n+n'-j) n c _ P xs d wr.drew (hPb.drewN 1) (Hx.out.isl.keep hbel.drew) (fun a e=>by injection e with e;subst e;exact Ms hbx) (by omega) (by omega) hPw Hx.out.words hd1 (by omega) (by omega) (by omega));clear hPv hPb hPw hP hbel hd;go_wp2_with fail
   go_region_with (go_at_call 151;refine Hprod.out.mono ?_;rintro e w2 ⟨rs,q,rfl,hrl,hq,hrw,hrv,hrb,hon⟩;have hput:=Jy (xs:=P) (o:=j) (ys:=rs) (by rw[hrl,HP.out];omega);have hfz:=hrb.frozen (j+n);have hcl:=hrb.cell (i:=j+n) (by rw[hput,HP.out];omega))
   all_goals
    have hstep:=WR HP.out hjk hrl HPv.out hrv Hd.out;have hset:(put P j rs).set (j+n) q=put P j (rs ++ [q]):=by
     rw[←hrl];exact Yd (by rw[hrl,HP.out];omega)
    have hnb:=hrb.set_ q (i:=j+n) (by rw[hput,HP.out];omega);rw[hset]at hnb;have hbel2:=(Below.only Hbel.out.drew hon (M0 _) Hbel.out.drew.size).setCell (p:=⟨w.heap.size,j+n,Jn⟩) (M0 w.heap.size) (Ji Ju (q:Int));have hlen2:(put P j (rs ++ [q])).length=n+n':=by rw[Jy (by rw[M2,hrl,M6,HP.out];omega),HP.out]
    have hwd:Jz (put P j (rs ++ [q])):=Qf (Qf (JY HPw.out j) (Qr hrw hq)) (Q8 HPw.out _);have Hfin:=Lh (show Z9 w n n' xs ys (Ji .i64 ((j+1:Nat):Int)) _ from⟨j+1,put P j (rs ++ [q]),hjk,rfl,hlen2,hwd,hstep,hnb,hbel2⟩);clear hstep hset hnb hbel2 hlen2 hwd hrl hrw hrv hrb hon hput hfz hcl;go_wp2_with fail
    exact⟨Hfin.out,by simp[intOf] <;> omega⟩
  ·obtain rfl:j=n':=by omega
   have hisl:=hPb.isL (o:=0) (n:=n+j) (c:=n+j) (by omega) (M0 _);rw[M3,M1 (by omega)]at hisl;have Htrim:=Lh (Qj _ _ _ P wr hisl (by omega) (by omega));have hval:Je P=m*m':=by
    rw[M1 (by omega),M1 (by rw[Hyl.out];exact M0 _),Hx.out.val,Hy.out.val]at hPv;exact hPv
   have Hnew:=Lh (QI (B:=w.heap.size) (c:=n+j) hPb hP (M0 _) (by omega) (by omega) hPw hval (M0 _));clear hPb hP hPw hPv hval hisl hbel;go_wp2_with fail
   refine Htrim.out.mono ?_;rintro e w4⟨rfl,rfl⟩;go_wp2;go_ret;exact⟨_,_,_,_,rfl,Hnew.out,Hbel.out⟩
theorem FP{B B':Nat}{A A':Option Addr}{n c n' c' m m':Nat}{xs ys:List Nat}(w:JW)(hx:JC B w A n c xs m)(hy:JC B' w A' n' c' ys m')(hlt:n<n')(h0:0<n)(h48:n<48)(hm:n'<900) :
  Calls Tryz.prog 121 #[.slice A n c,.slice A' n' c'] w (Yr (m'*m) w):=by
 obtain⟨i0,hi,hz0,hz1,hz2⟩:=info_parts YA;have hle:=hx.isl.2.1;have hle':=hy.isl.2.1;have hcc:=hx.cap;have hcc':=hy.cap;obtain⟨bx,ox,rfl,hbx,_⟩:=hy.at (by omega);obtain⟨b,o,rfl,hb,_,hcell⟩:=hx.at h0;have Hc:=Lh hcell;have Hxl:=Lh hy.size;have Hyl:=Lh hx.size;have Hx:=Lh hx;have Hy:=Lh hy;have t0:((n:Int) ==0)=false:=by rw[beq_eq_false_iff_ne];omega
 clear hx hy hcell;go_enter Tryz.func121,Tryz.ntmps121;go_wp2_with (at_make;refine wpList_make_full _ rfl _ _ 129 rfl w.heap.size 139 i0 (Ji Ju 0) 1 Tryz.underlying129 hi hz0 hz1 _ _ _ _ (n'+n) rfl rfl (by simp) (by simp) (by rw[hz2];omega) (by unfold maxLen;omega) (M0 _) ?_)
 intro w1 hown hgrow;have hblk:=US hown (by omega);have b1:=(M8 w.heap.size w).grown hgrow (M0 _) (by simp);have Hblk:=Lh hblk;have B1:=Lh b1;clear hown hgrow hblk b1;go_wp2_with fail
 go_loopw [31] (fun vi wr=>Z9 w n' n ys xs vi wr) (fun vi _=>n-(intOf vi).toNat)
 case atStart=>
  refine⟨0,M4 (n'+n) 0,Mx _,rfl,by simp,YR _,?_,Hblk.out,B1.out⟩;rw[List.take_replicate,Ua];rfl
 case round=>
  obtain⟨j,P,hj,rfl,hP,hPw,hPv,hPb,hbel⟩:=hrel;have HPv:=Lh hPv;have HPb:=Lh hPb;have HPw:=Lh hPw;have Hbel:=Lh hbel;have HP:=Lh hP;by_cases hjk:j<n
  ·have cb:=(hbel.cell (p:=⟨b,o+j,Jn⟩) hb).trans (Hc.out j hjk);have hd1:=JN Hx.out.words j;obtain⟨d,hd⟩:∃d,xs.getD j 0=d:=⟨_,rfl⟩;rw[hd]at cb hd1;have Hd:=Lh hd;have Hprod:=Lh (Xt w.heap.size j (n'+n-j) (n'+n-j) n' c' _ P ys d wr.drew (hPb.drewN 1) (Hy.out.isl.keep hbel.drew) (fun a e=>by injection e with e;subst e;exact Ms hbx) (by omega) (by omega) hPw Hy.out.words hd1 (by omega) (by omega) (by omega));clear hPv hPb hPw hP hbel hd;go_wp2_with fail
   go_region_with (go_at_call 151;refine Hprod.out.mono ?_;rintro e w2 ⟨rs,q,rfl,hrl,hq,hrw,hrv,hrb,hon⟩;have hput:=Jy (xs:=P) (o:=j) (ys:=rs) (by rw[hrl,HP.out];omega);have hfz:=hrb.frozen (j+n');have hcl:=hrb.cell (i:=j+n') (by rw[hput,HP.out];omega))
   all_goals
    have hstep:=WR HP.out hjk hrl HPv.out hrv Hd.out;have hset:(put P j rs).set (j+n') q=put P j (rs ++ [q]):=by
     rw[←hrl];exact Yd (by rw[hrl,HP.out];omega)
    have hnb:=hrb.set_ q (i:=j+n') (by rw[hput,HP.out];omega);rw[hset]at hnb;have hbel2:=(Below.only Hbel.out.drew hon (M0 _) Hbel.out.drew.size).setCell (p:=⟨w.heap.size,j+n',Jn⟩) (M0 w.heap.size) (Ji Ju (q:Int));have hlen2:(put P j (rs ++ [q])).length=n'+n:=by rw[Jy (by rw[M2,hrl,M6,HP.out];omega),HP.out]
    have hwd:Jz (put P j (rs ++ [q])):=Qf (Qf (JY HPw.out j) (Qr hrw hq)) (Q8 HPw.out _);have Hfin:=Lh (show Z9 w n' n ys xs (Ji .i64 ((j+1:Nat):Int)) _ from⟨j+1,put P j (rs ++ [q]),hjk,rfl,hlen2,hwd,hstep,hnb,hbel2⟩);clear hstep hset hnb hbel2 hlen2 hwd hrl hrw hrv hrb hon hput hfz hcl;go_wp2_with fail
    exact⟨Hfin.out,by simp[intOf] <;> omega⟩
  ·obtain rfl:j=n:=by omega
   have hisl:=hPb.isL (o:=0) (n:=n'+j) (c:=n'+j) (by omega) (M0 _);rw[M3,M1 (by omega)]at hisl;have Htrim:=Lh (Qj _ _ _ P wr hisl (by omega) (by omega));have hval:Je P=m'*m:=by
    rw[M1 (by omega),M1 (by rw[Hyl.out];exact M0 _),Hy.out.val,Hx.out.val]at hPv;exact hPv
   have Hnew:=Lh (QI (B:=w.heap.size) (c:=n'+j) hPb hP (M0 _) (by omega) (by omega) hPw hval (M0 _));clear hPb hP hPw hPv hval hisl hbel;go_wp2_with fail
   refine Htrim.out.mono ?_;rintro e w4⟨rfl,rfl⟩;go_wp2;go_ret;exact⟨_,_,_,_,rfl,Hnew.out,Hbel.out⟩
theorem G7{B B':Nat}{A A':Option Addr}{n c c' m m':Nat}{xs ys:List Nat}(w:JW)(hx:JC B w A n c xs m)(hy:JC B' w A' 0 c' ys m') :
  Calls Tryz.prog 121 #[.slice A n c,.slice A' 0 c'] w (Yr (m*m') w):=by
 obtain rfl:m'=0:=hy.zero_iff.1 rfl;have hn:=hx.len;have hle:=hx.isl.2.1;have hcc:=hx.cap;have hcc':=hy.cap;rw[MD];clear hx hy;go_enter Tryz.func121,Tryz.ntmps121;go_wp2;go_ret;exact⟨Jn,0,0,[],rfl,JC.zero _ _,M8 _ _⟩
theorem G6{B B':Nat}{A A':Option Addr}{c n' c' m m':Nat}{xs ys:List Nat}(w:JW)(hx:JC B w A 0 c xs m)(hy:JC B' w A' n' c' ys m')(h0:0<n') :
  Calls Tryz.prog 121 #[.slice A 0 c,.slice A' n' c'] w (Yr (m*m') w):=by
 obtain rfl:m=0:=hx.zero_iff.1 rfl;have hn:=hy.len;have hle:=hy.isl.2.1;have hcc:=hx.cap;have hcc':=hy.cap;rw[Nat.zero_mul];clear hx hy;go_enter Tryz.func121,Tryz.ntmps121;go_wp2;go_ret;exact⟨Jn,0,0,[],rfl,JC.zero _ _,M8 _ _⟩
theorem U8{B B':Nat}{A A':Option Addr}{n c n' c' m m':Nat}{xs ys:List Nat}(w:JW)(hx:JC B w A n c xs m)(hy:JC B' w A' n' c' ys m')(h48:n<48\/n'<48)(hm:n<900)(hm':n'<900) :
  Calls Tryz.prog 121 #[.slice A n c,.slice A' n' c'] w (Yr (m*m') w):=by
 rcases Mr n' with h0|h0
 ·subst h0;exact G7 w hx hy
 ·rcases Mr n with h1|h1
  ·subst h1;exact G6 w hx hy h0
  ·rcases Mv n n' with h|h
   ·exact(FP w hx hy h h1 (by omega) hm').mono fun e w' k=>k.cast (Nat.mul_comm _ _)
   ·exact FQ w hx hy h h0 (by omega) hm
