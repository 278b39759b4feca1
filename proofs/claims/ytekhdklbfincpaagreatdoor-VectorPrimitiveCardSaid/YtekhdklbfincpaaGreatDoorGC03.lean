/- GC03: MulAdd Read -/
import Derived.Test.YtekhdklbfincpaaGreatDoorGC02
import Derived.Test.YtekhdklbfincpaaGreatDoorGC01
set_option maxRecDepth 100000
set_option maxHeartbeats 16000000
namespace Go.Proofs.YtekhdklbfincpaaGreatDoor
open Go.Value renaming int→Ji
open Go.IntKind renaming u64→Ju
open _root_.Option renaming none→Jn
open Go renaming World→JW
open _root_.List renaming length_append→M0,length_cons→M2,length_singleton→M4,eq_nil_of_length_eq_zero→M6,getD_eq_getElem?_getD→Mr,length_take→Ms,getElem?_eq_getElem→Mt,all_append→Mv,mem_of_getElem?→Mx,getElem?_take→MB,all_eq_true→MG,take_length→MH,getD→MO
open _root_.Nat renaming lt_of_lt_of_le→M1,pow_le_pow_right→M5,le_refl→M7,mul_assoc→M8,mul_le_mul_left→My,pow_succ→Mz,mul_comm→MA,zero_mul→MC,mul_add→MD,add_mul→ME,zero_le→MF,add_assoc→MI,lt_or_ge→MJ,le_trans→MK,mul_zero→ML,zero_add→MM,mul_one→MN
open _root_.Array renaming getElem?_modify→M3,getElem?_eq_none→Mw
open Go.World renaming setCell→M9
open _root_.Bool renaming and_eq_true→Mu
open Go.RowKit
def Je:List Nat->Nat
 | []=>0
 | d :: r=>d+18446744073709551616*Je r
def Jz(l:List Nat):Prop:=∀d∈l,d<18446744073709551616
def u64s(l:List Nat):List Value:=l.map fun d:Nat=>Value.int Ju (d:Int)
def base(n:Nat):Nat:=18446744073709551616^n
theorem QH:base 0=1:=rfl
theorem JT(n:Nat):base (n+1)=18446744073709551616*base n:=by unfold base;rw[Mz,MA]
theorem Xs(n:Nat):0<base n:=Nat.pow_pos (by decide)
theorem Qx(a b:List Nat):Je (a ++ b)=Je a+base a.length*Je b:=by
 induction a with
 | nil=>simp[Je,QH]
 | cons d r ih=>rw[List.cons_append,Je,Je,ih,M2,JT,MD,M8];omega
theorem JO{l:List Nat}(h:Jz l):Je l<base l.length:=by
 induction l with
 | nil=>exact Nat.one_pos
 | cons d r ih=>
  rw[Je,M2,JT];have h1:=h d (List.mem_cons_self ..);have h2:=ih (fun x hx=>h x (List.mem_cons_of_mem _ hx));have h3:18446744073709551616*(Je r+1)<=18446744073709551616*base r.length:=My _ h2;omega
theorem JD(a:List Nat)(d:Nat):Je (a ++ [d])=Je a+base a.length*d:=by rw[Qx];simp[Je]
def Blk(w:JW)(g:Nat)(xs:List Nat):Prop:=∃cur:Array Value,w.heap[g]?=some (.cells cur 139 (0,0))/\cur.toList.take xs.length=u64s xs
theorem Blk.lt{w:JW}{g:Nat}{xs:List Nat}(h:Blk w g xs):g<w.heap.size:=by
 obtain⟨cur,h,_⟩:=h;rcases MJ g w.heap.size with hlt|hge
 ·exact hlt
 ·rw[Mw hge]at h;cases h
theorem Blk.cell{w:JW}{g:Nat}{xs:List Nat}(h:Blk w g xs){i:Nat}(hi:i<xs.length):w.cell? ⟨g,i,Jn⟩=some (Ji Ju ((xs.getD i 0:Nat):Int)):=by
 obtain⟨cur,h,hc⟩:=h;rw[cell_of_row w g i cur 139 (0,0) h];have e:cur.toList[i]?=(u64s xs)[i]?:=by rw[←hc,MB,if_pos hi]
 rw[←Array.getElem?_toList,e];simp[u64s,hi]
theorem Blk.frozen{w:JW}{g:Nat}{xs:List Nat}(h:Blk w g xs)(i:Nat):w.frozen? ⟨g,i,Jn⟩=false:=by
 obtain⟨cur,h,_⟩:=h;simp[World.frozen?,h]
theorem Blk.set_{w:JW}{g:Nat}{xs:List Nat}(h:Blk w g xs){i:Nat}(d:Nat)(_hi:i<xs.length):Blk (w.setCell ⟨g,i,Jn⟩ (Ji Ju (d:Int))) g (xs.set i d):=by
 obtain⟨cur,h,hc⟩:=h;refine⟨cur.setIfInBounds i (Ji Ju (d:Int)),by simp[M9,M3,h],?_⟩;rw[Array.toList_setIfInBounds,List.length_set,List.take_set,hc];simp[u64s,List.map_set]
theorem Blk.below{w w':JW}{g B:Nat}{xs:List Nat}(h:Blk w g xs)(hb:Below B w w')(hg:g<B):Blk w' g xs:=by
 obtain⟨cur,h,hc⟩:=h;exact⟨cur,(hb.block g hg).trans h,hc⟩
theorem Blk.drewN{w:JW}{g:Nat}{xs:List Nat}(h:Blk w g xs)(n:Nat):Blk (w.drewN n) g xs:=h
theorem Blk.take{w:JW}{g:Nat}{xs:List Nat}(h:Blk w g xs)(n:Nat):Blk w g (xs.take n):=by
 obtain⟨cur,h,hc⟩:=h;refine⟨cur,h,?_⟩;rw[Ms];have:u64s (xs.take n)=(u64s xs).take n:=by simp[u64s,List.map_take]
 rw[this,←hc,List.take_take]
theorem Blk.of_own{w:JW}{base n:Nat}{v:Value}{xs:List Nat}(h:w.ownsRow base 139 1 v n (u64s xs))(hn:0<n):∃g c,v= .slice (some ⟨g,0,Jn⟩) n c/\n<=c/\c<=maxLen/\base<=g/\Blk w g xs:=by
 have hl:xs.length=n:=by simpa[u64s]using h.1
 rcases h.2 with⟨_,h0⟩|⟨g,cap,cur,rfl,hg,hh,hnc,hcm,hcs,hx⟩
 ·omega
 ·exact⟨g,cap,rfl,hnc,hcm,hg,cur,hh,by rw[hl,←hx,MN]⟩
theorem Blk.isL{w:JW}{g:Nat}{xs:List Nat}(h:Blk w g xs){o n c:Nat}(hn:o+n<=xs.length)(hc:n<=c):IsL w (some ⟨g,o,Jn⟩) n c (u64s ((xs.drop o).take n)):=by
 refine⟨by simp[u64s];omega,hc,fun _=>⟨g,o,rfl,h.lt,fun j u hu=>?_⟩⟩;simp only[u64s,List.getElem?_map,MB,List.getElem?_drop,Option.map_eq_some_iff]at hu;obtain⟨d,hd,rfl⟩:=hu
 split at hd
 ·have hj:o+j<xs.length:=by omega
  rw[h.cell hj];rw[Mt hj]at hd;simp at hd;simp[MO,hj,hd]
 ·cases hd
def U0(w:JW)(g:Nat):Nat:=
 match w.heap[g]? with
 | some (.cells cur _ _)=>cur.size
 | _=>0
theorem Ea(w:JW)(g i:Nat)(u:Value):U0 (w.setCell ⟨g,i,Jn⟩ u) g=U0 w g:=by
 unfold U0;cases h:w.heap[g]? with
 | none=>simp[M9,M3,h]
 | some o=>cases o <;> simp[M9,M3,h]
structure Only (g:Nat) (w w':JW):Prop where
 os:w'.os=w.os
 tape:w'.tape=w.tape
 output:w'.output=w.output
 size:w.heap.size<=w'.heap.size
 block:∀k,k<w.heap.size->k≠g->w'.heap[k]?=w.heap[k]?
 room:g<w.heap.size->U0 w' g=U0 w g
theorem Only.refl(g:Nat)(w:JW):Only g w w:=⟨rfl,rfl,rfl,M7 _,fun _ _ _=>rfl,fun _=>rfl⟩
theorem Only.trans{g:Nat}{a b c:JW}(h:Only g a b)(k:Only g b c):Only g a c:=
 ⟨k.os.trans h.os,k.tape.trans h.tape,k.output.trans h.output,MK h.size k.size,fun i hi hg=>(k.block i (M1 hi h.size) hg).trans (h.block i hi hg),fun hg=>(k.room (M1 hg h.size)).trans (h.room hg)⟩
theorem Only.set_{g:Nat}{a w:JW}(h:Only g a w)(i:Nat)(u:Value):Only g a (w.setCell ⟨g,i,Jn⟩ u):=
 ⟨h.os,h.tape,h.output,by simpa[M9]using h.size,fun k hk hg=>(Below.heap_setCell w ⟨g,i,Jn⟩ u k hg).trans (h.block k hk hg),fun hg=>(Ea w g i u).trans (h.room hg)⟩
theorem Only.drewN{g:Nat}{a w:JW}(h:Only g a w)(n:Nat):Only g a (w.drewN n):=⟨h.os,h.tape,h.output,h.size,h.block,h.room⟩
theorem Below.only{B g:Nat}{a w w':JW}(h:Below B a w)(ho:Only g w w')(hg:B<=g)(hB:B<=w.heap.size):Below B a w':=
 ⟨ho.os.trans h.os,ho.tape.trans h.tape,ho.output.trans h.output,MK h.size ho.size,fun k hk=>(ho.block k (M1 hk hB) (by omega)).trans (h.block k hk)⟩
theorem Only.cell{g:Nat}{w w':JW}(h:Only g w w'){b o:Nat}(hb:b<w.heap.size)(hg:b≠g):w'.cell? ⟨b,o,Jn⟩=w.cell? ⟨b,o,Jn⟩:=
 World.cell?_of_block (h.block b hb hg)
theorem Uv(x y c s d:Nat)(hc:c<=1)(hs:(x+y+c)%18446744073709551616=s)(hd:(x+y+c)/18446744073709551616=d)(w:JW) :
  (callFunc 170 #[Ji Ju x,Ji Ju y,Ji Ju c]).run Tryz.prog w= .ok (.value (.tuple #[Ji Ju (s:Int),Ji Ju (d:Int)])) w:=by
 rw[←hs,←hd];exact Any7.bits_Add64 Tryz.lays7n25 x y c hc w
theorem Xl(x y b s d:Nat)(hb:b<=1)(hs:(x+18446744073709551616-y-b)%18446744073709551616=s)(hd:(if x<y+b then 1 else 0)=d)(w:JW) :
  (callFunc 167 #[Ji Ju x,Ji Ju y,Ji Ju b]).run Tryz.prog w= .ok (.value (.tuple #[Ji Ju (s:Int),Ji Ju (d:Int)])) w:=by
 rw[←hs,←hd];exact Any7.bits_Sub64 Tryz.lays7n26 x y b hb w
theorem Vq(x y h l:Nat)(hx:x<18446744073709551616)(hy:y<18446744073709551616)(hh:x*y/18446744073709551616=h)(hl:x*y%18446744073709551616=l)(w:JW) :
  Calls Tryz.prog 120 #[Ji Ju x,Ji Ju y] w fun e w'=>e= .returned (.tuple #[Ji Ju (h:Int),Ji Ju (l:Int)])/\w=w':=by
 rw[←hh,←hl];exact(Tryz.bits_Mul64 x y hx hy w).mono fun e w' ⟨h1,h2⟩=>⟨h1,h2.symm⟩
def put(xs:List Nat)(o:Nat)(ys:List Nat):List Nat:=xs.take o ++ ys ++ xs.drop (o+ys.length)
theorem UC(xs:List Nat)(o:Nat):put xs o []=xs:=by simp[put]
theorem Jy{xs:List Nat}{o:Nat}{ys:List Nat}(h:o+ys.length<=xs.length):(put xs o ys).length=xs.length:=by simp[put];omega
theorem Ym{xs:List Nat}{o:Nat}{ys:List Nat}{i:Nat}(ho:o<=xs.length)(hi:o+ys.length<=i):(put xs o ys).getD i 0=xs.getD i 0:=by
 unfold put;rw[Mr,Mr,List.getElem?_append_right (by simp;omega),List.getElem?_drop]
 congr 2
 simp;omega
theorem Yd{xs:List Nat}{o:Nat}{ys:List Nat}{d:Nat}(h:o+ys.length<xs.length):(put xs o ys).set (o+ys.length) d=put xs o (ys ++ [d]):=by
 unfold put;rw[List.set_append_right _ _ (by simp;omega)];have e:o+ys.length-(xs.take o ++ ys).length=0:=by simp;omega
 rw[e,List.drop_eq_getElem_cons h,List.set_cons_zero,M0,M4];simp[MI]
def Zu(w0:JW)(g o:Nat)(xs:List Nat)(p0 m:Nat)(vi vp:Value)(wr:JW)(n:Nat):Prop:=
 ∃(ys:List Nat) (p:Nat),ys.length<=n/\vi=Ji .i64 (ys.length:Nat)/\vp=Ji Ju (p:Nat)/\p<18446744073709551616/\Jz ys/\Je ys+base ys.length*p=Je ((xs.drop o).take ys.length)*m+p0 /\
  Blk wr g (put xs o ys)/\Only g w0 wr
theorem Zc{d m q h l s f:Nat}(hd:d<18446744073709551616)(hm:m<18446744073709551616)(hq:q<18446744073709551616)(hh:d*m/18446744073709551616=h)(hl:d*m%18446744073709551616=l)
  (hs:(l+q+0)%18446744073709551616=s) (hf:(l+q+0)/18446744073709551616=f):s+18446744073709551616*(h+f)=d*m+q/\h+f<18446744073709551616/\s<18446744073709551616/\f<=1:=by
 have h1:d*m<=18446744073709551615*18446744073709551615:=Nat.mul_le_mul (by omega) (by omega);generalize d*m=t at *
 omega
theorem Ui{xs:List Nat}{o k d:Nat}(hk:o+k<xs.length)(hd:xs.getD (o+k) 0=d):(xs.drop o).take (k+1)=(xs.drop o).take k ++ [d]:=by
 rw[List.take_succ_eq_append_getElem (by simp;omega)]
 congr 2
 rw[List.getElem_drop,←hd];simp[MO,hk]
theorem Yj{xs:List Nat}{o k:Nat}(hk:o+k<=xs.length):((xs.drop o).take k).length=k:=by simp;omega
theorem WS{w0 wr:JW}{g o k n d m p q h l s f:Nat}{xs ys:List Nat}(hk:ys.length=k)(hkn:k<n)(ho:o+n<=xs.length)(hdx:xs.getD (o+ys.length) 0=d)(hd:d<18446744073709551616)(hm:m<18446744073709551616)(hq:q<18446744073709551616)
  (hh:d*m/18446744073709551616=h) (hl:d*m%18446744073709551616=l) (hs:(l+q+0)%18446744073709551616=s) (hf:(l+q+0)/18446744073709551616=f)
  (hyw:Jz ys) (hval:Je ys+base ys.length*q=Je ((xs.drop o).take ys.length)*m+p) (hb:Blk wr g (put xs o ys)) (hw:Only g w0 wr) :
  Zu w0 g o xs p m (Ji .i64 ((k:Int)+1)) (Ji Ju ((h:Int)+f)) (wr.setCell ⟨g,o+k,Jn⟩ (Ji Ju (s:Int))) n:=by
 obtain⟨e1,e2,e3,_⟩:=Zc hd hm hq hh hl hs hf;subst hk;refine⟨ys ++ [s],h+f,by simp;omega,by simp,by simp,e2,?_,?_,?_,hw.set_ _ _⟩
 ·intro x hx;rcases List.mem_append.1 hx with hx|hx
  ·exact hyw x hx
  ·rw[List.mem_singleton.1 hx];exact e3
 ·rw[JD,M0,M4,JT,Ui (by omega) hdx,JD,Yj (by omega)];have e4:base ys.length*s+18446744073709551616*base ys.length*(h+f)=base ys.length*(d*m+q):=by rw[←e1];simp only[MD,M8,Nat.mul_left_comm]
  rw[MI,e4,MD,ME,M8];omega
 ·rw[←Yd (by omega)];exact hb.set_ _ (by rw[Jy (by omega)];omega)
theorem X9(g o n c:Nat)(xs:List Nat)(m p:Nat)(w:JW)(hb:Blk w g xs)(ho:o+n<=xs.length)(hx:Jz xs)(hm:m<18446744073709551616)(hp:p<18446744073709551616)(hn:n<4294967296)(_hoo:o<4294967296) :
  Calls Tryz.prog 165 #[.slice (some ⟨g,o,Jn⟩) n c,Ji Ju (m:Nat),Ji Ju (p:Nat)] w fun e w'=>
   ∃(ys:List Nat) (q:Nat),e= .returned (Ji Ju (q:Nat))/\ys.length=n/\q<18446744073709551616/\Jz ys/\Je ys+base n*q=Je ((xs.drop o).take n)*m+p/\Blk w' g (put xs o ys)/\Only g w w':=by
 have Hb:=Lh hb;have Hx:=Lh hx;clear hb hx;go_enter Tryz.func165,Tryz.ntmps165;go_wp2_with fail
 go_loopw [14,2] (fun vi vp wr=>Zu w g o xs p m vi vp wr n) (fun vi _ _=>n-(intOf vi).toNat)
 case atStart=>exact⟨[],p,MF _,rfl,rfl,hp,fun d hd=>(by cases hd),by simp[Je,QH],by rw[UC];exact Hb.out,Only.refl _ _⟩
 case round=>
  obtain⟨ys,q,hyn,rfl,rfl,hq,hyw,hval,hblk,honly⟩:=hrel;have hlen:(put xs o ys).length=xs.length:=Jy (by omega);have Hblk:=Lh hblk;have Hyw:=Lh hyw;have Hval:=Lh hval;have Honly:=Lh honly;by_cases hlt:ys.length<n
  ·have hcell:=hblk.cell (i:=o+ys.length) (by omega);rw[Ym (by omega) (M7 _)]at hcell;have hfz:=hblk.frozen (o+ys.length);have hd:=Hx.out (xs.getD (o+ys.length) 0) (by simp[show o+ys.length<xs.length by omega]);obtain⟨d,hd'⟩:∃d,xs.getD (o+ys.length) 0=d:=⟨_,rfl⟩;rw[hd']at hcell hd;obtain⟨k,hk⟩:∃k,ys.length=k:=⟨_,rfl⟩;have Hk:=Lh hk;have Hd:=Lh hd';rw[hk]at hcell hfz hlt hyn;rw[hk];clear hblk hyw hval honly hd' hk hlen;obtain⟨h,hh⟩:∃h,d*m/18446744073709551616=h:=⟨_,rfl⟩;obtain⟨l,hl⟩:∃l,d*m%18446744073709551616=l:=⟨_,rfl⟩;obtain⟨s,hs⟩:∃s,(l+q+0)%18446744073709551616=s:=⟨_,rfl⟩;obtain⟨f,hf⟩:∃f,(l+q+0)/18446744073709551616=f:=⟨_,rfl⟩;have Hmul:=Lh (Vq d m h l hd hm hh hl);have Hadd:=Lh (Uv l q 0 s f (by omega) hs hf);have hadd:∀W:JW,(callFunc 170 #[Ji Ju (l:Int),Ji Ju (q:Int),Ji Ju 0]).run Tryz.prog W= .ok (.value (.tuple #[Ji Ju (s:Int),Ji Ju (f:Int)])) W:=Hadd.out;have hle:h+f<18446744073709551616:=(Zc hd hm hq hh hl hs hf).2.1;have Hh:=Lh hh;have Hl:=Lh hl;have Hs:=Lh hs;have Hf:=Lh hf;have hle':(h:Int)+f<18446744073709551616:=by omega
   clear hh hl hs hf;go_wp2_with fail
   refine(Hmul.out _).mono ?_;rintro e w' ⟨rfl,rfl⟩;go_wp2_with fail
   exact⟨WS Hk.out hlt ho Hd.out hd hm hq Hh.out Hl.out Hs.out Hf.out Hyw.out Hval.out Hblk.out Honly.out,by simp[intOf] <;> omega⟩
  ·obtain rfl:ys.length=n:=by omega
   clear hblk hyw hval honly hlen;go_wp2;go_ret;exact⟨ys,q,rfl,rfl,hq,Hyw.out,Hval.out,Hblk.out,Honly.out⟩
def YZ(c:UInt8):Bool:=decide (48<=c.toNat) && decide (c.toNat<=57)
def JG(l:List UInt8):Bool:=l.all YZ
theorem JU(s:ByteArray):s.data.toList.length=s.size:=Array.length_toList
theorem VR{s:ByteArray}{k:Nat}(h:k<s.size):s.data.toList[k]?=some s[k]:=by
 have h':k<s.data.toList.length:=by rw[JU];exact h
 rw[Mt h'];rfl
theorem Xe{l:List UInt8}{k:Nat}{c:UInt8}(h:l[k]?=some c)(hc:YZ c=false):JG l=false:=by
 unfold JG;rw[Bool.eq_false_iff];intro h1;rw[MG]at h1;have:=h1 c (Mx h);rw[hc]at this;cases this
theorem Gh{l:List UInt8}{k:Nat}{c:UInt8}(h:l[k]?=some c)(hc:YZ c=true)(hd:JG (l.take k)=true):JG (l.take (k+1))=true:=by
 unfold JG at *
 rw[List.take_add_one,h,Mv,hd];simp[hc]
theorem Vt(s:ByteArray)(w:JW)(hs:s.size<=9223372036854775807) :
  Calls Tryz.prog 161 #[.string s] w fun e w'=>e= .returned (.bool (JG s.data.toList && decide (0<s.size)))/\w=w':=by
 go_enter Tryz.func161,Tryz.ntmps161;go_wp2_with fail
 go_loop [6] (fun i=>∃k:Nat,k<=s.size/\i=Ji .i64 k/\JG (s.data.toList.take k)=true) (fun i=>s.size-(intOf i).toNat)
 case atStart=>exact⟨0,MF _,rfl,rfl⟩
 case round=>
  obtain⟨k,hk,rfl,hd⟩:=hrel;have Hd:=Lh hd;clear hd;by_cases hlt:k<s.size
  ·have Hat:=Lh (VR hlt);obtain⟨x,hx⟩:∃x,(s[k]).toNat=x:=⟨_,rfl⟩;have Hx:=Lh hx;by_cases h1:x<48
   ·have hf:JG s.data.toList=false:=Xe Hat.out (by unfold YZ;rw[Hx.out];simp;omega);go_wp2;all_goals go_ret
    all_goals simp
   ·by_cases h2:57<x
    ·have hf:JG s.data.toList=false:=Xe Hat.out (by unfold YZ;rw[Hx.out];simp;omega);go_wp2;all_goals go_ret
     all_goals simp
    ·have hf:=Lh (Gh Hat.out (by unfold YZ;rw[Hx.out];simp;omega) Hd.out);go_wp2;go_round
     case rel=>exact⟨k+1,by omega,by go_num,hf.out⟩
     case measure=>simp[intOf];omega
  ·have e:k=s.size:=by omega
   have hall:JG s.data.toList=true:=by
    have:=Hd.out;rw[e,←JU,MH]at this;exact this
   go_wp2;go_ret;simp
def dig(c:UInt8):Nat:=c.toNat-48
def decF(a:Nat)(c:UInt8):Nat:=10*a+dig c
def decV(l:List UInt8):Nat:=l.foldl decF 0
theorem Zk(l:List UInt8)(c:UInt8):decV (l ++ [c])=10*decV l+dig c:=by simp[decV,decF,List.foldl_append]
theorem Dk(b:List UInt8):∀n,b.foldl decF n=n*10^b.length+decV b:=by
 induction b with
 | nil=>intro n;simp[decV]
 | cons c b ih=>
  intro n;simp only[List.foldl_cons,M2,decV];rw[ih,ih (decF 0 c),Mz,MA (10^_) 10,←M8];unfold decF;rw[ME,ME,ML,MC,MM,MA 10 n];omega
theorem Kw(a b:List UInt8):decV (a ++ b)=decV a*10^b.length+decV b:=by
 have:=Dk b (decV a);rw[←this];simp[decV,List.foldl_append]
theorem LN{c:UInt8}(h:YZ c=true):dig c<10:=by
 unfold YZ at h;simp at h;unfold dig;omega
theorem E8(l:List UInt8)(h:JG l=true):decV l<10^l.length:=by
 have key:∀(b:List UInt8) (n k:Nat),JG b=true->n<10^k->b.foldl decF n<10^(k+b.length):=by
  intro b
  induction b with
  | nil=>intro n k _ hn;simpa using hn
  | cons c b ih=>
   intro n k hb hn;unfold JG at hb ih;simp only[List.all_cons,Mu]at hb;have hc:=LN hb.1;rw[List.foldl_cons,M2,show k+(b.length+1)=(k+1)+b.length by omega];refine ih _ _ hb.2 ?_;unfold decF;rw[Mz];omega
 have:=key l 0 0 h (by decide);rw[MM]at this;exact this
theorem ZO(A:Option Addr)(c m p:Nat)(w:JW) :
  Calls Tryz.prog 165 #[.slice A 0 c,Ji Ju (m:Nat),Ji Ju (p:Nat)] w fun e w'=>e= .returned (Ji Ju (p:Nat))/\w=w':=by
 go_enter Tryz.func165,Tryz.ntmps165;go_wp2_with fail
 refine wp_loop_rounds 1 ?_;rw[rounds_succ];go_wp2;go_ret;exact⟨rfl,rfl⟩
theorem FI{w w':JW}{base g n c:Nat}{xs:List Value}{ys:List Nat}(h:w.ownsRow base 139 1 (.slice (some ⟨g,0,Jn⟩) n c) n xs)(ho:Only g w w')(hb:Blk w' g ys)(hl:ys.length=n) :
  w'.ownsRow base 139 1 (.slice (some ⟨g,0,Jn⟩) n c) n (u64s ys):=by
 refine⟨by simp[u64s,hl],?_⟩;rcases h.2 with⟨h1,_⟩|⟨g',cap,cur,h1,hg,hh,hnc,hcm,hcs,hx⟩
 ·cases h1
 ·injection h1 with h1 _ h3
  injection h1 with h1
  injection h1 with h1
  subst h1 h3;obtain⟨cur',hc,ht⟩:=hb;have hlt:g<w.heap.size:=by
   rcases MJ g w.heap.size with h|h
   ·exact h
   ·rw[Mw h]at hh;cases hh
  have hr:=ho.room hlt;unfold U0 at hr;rw[hc,hh]at hr;exact .inr ⟨g,c,cur',rfl,hg,hc,hnc,hcm,by rw[←hcs];exact hr,by rw[←hl,MN];exact ht⟩
def Uw(xs:List Nat):Prop:=xs.length=0\/base (xs.length-1)<=Je xs
def Z8(w0:JW)(s:ByteArray)(vs va:Value)(wr:JW):Prop:=
 ∃(t:ByteArray) (pre:List UInt8) (xs:List Nat),vs= .string t/\s.data.toList=pre ++ t.data.toList/\Je xs=decV pre/\Jz xs/\(decV pre=0\/t.size%19=0)/\Uw xs/\xs.length<=pre.length /\
  wr.ownsRow w0.heap.size 139 1 va xs.length (u64s xs)/\Below w0.heap.size w0 wr
def GJ:Value->Nat
 | .string t=>t.size
 | _=>0
theorem FU:(Tryz.prog.info? 139).map (fun i=>(i.zero,i.size,i.bytes))=some (some (Ji Ju 0),1,8):=by kernel_rfl
theorem Ee{w w1:JW}{c:Nat}(s:ByteArray)(hown:w1.ownsRow w.heap.size 139 1 (.slice (some ⟨w.heap.size,0,Jn⟩) 0 c) 0 [])(hgr:w.grownBy w1 Jn) :
  Z8 w s (.string s) (.slice (some ⟨w.heap.size,0,Jn⟩) 0 c) w1:=
 ⟨s,[],[],rfl,rfl,rfl,fun d hd=>by simp at hd,.inl rfl,.inl rfl,M7 _,hown,(Below.refl w.heap.size w).grown hgr (M7 _) (by simp)⟩
theorem KG:base 1=18446744073709551616:=by decide
theorem La{pre l:List UInt8}{T m P q:Nat}{xs ys zs:List Nat}(hval:Je xs=decV pre)(hmod:decV pre=0\/T%19=0)(hT:0<T)(hm:(T-1)%19+1=m)(hP:decV (l.take m)=P)(hlm:(l.take m).length=m)(hn:ys.length=xs.length)
  (h:Je ys+base xs.length*q=Je xs*10000000000000000000+P) (hz:zs=if q=0 then ys else ys ++ [q]):Je zs=decV (pre ++ l.take m):=by
 have e:Je zs=Je ys+base xs.length*q:=by
  rw[hz]
  split
  ·rename_i hq;subst hq;simp
  ·rw[JD,hn]
 rw[e,h,Kw,hlm,hP,hval];rcases hmod with h0|h0
 ·rw[h0,MC,MC]
 ·have:m=19:=by omega
  subst this;rfl
theorem Ed{P q:Nat}{xs ys zs:List Nat}(ht:Uw xs)(hn:ys.length=xs.length)(h:Je ys+base xs.length*q=Je xs*10000000000000000000+P)(hz:zs=if q=0 then ys else ys ++ [q]):Uw zs:=by
 unfold Uw at *
 by_cases hq:q=0
 ·subst hq;rw[if_pos rfl]at hz;subst hz;rw[hn];rcases ht with h0|h0
  ·exact .inl h0
  ·right
   rw[ML]at h;omega
 ·rw[if_neg hq]at hz;subst hz
  right
  rw[JD,M0,M4,Nat.add_sub_cancel];have:base ys.length*1<=base ys.length*q:=My _ (by omega);omega
theorem Ub(t:ByteArray)(m:Nat):(t.extract m t.size).data.toList=t.data.toList.drop m:=by
 have h:t.data.toList.length=t.size:=JU t;simp[ByteArray.data_extract,List.take_of_length_le,h]
theorem OR(t:ByteArray)(m:Nat):(t.extract m t.size).size=t.size-m:=by simp
theorem XA{w wn:JW}{s t:ByteArray}{pre:List UInt8}{m P q:Nat}{xs ys zs:List Nat}{va:Value}(hcat:s.data.toList=pre ++ t.data.toList)(hval:Je xs=decV pre)(hmod:decV pre=0\/t.size%19=0)(hT:0<t.size)(hm:(t.size-1)%19+1=m)(hm2:m<=t.size)
  (hP:decV (t.data.toList.take m)=P) (hlen:xs.length<=pre.length) (ht:Uw xs) (hn:ys.length=xs.length) (hy:Jz ys) (hq:q<18446744073709551616) (h:Je ys+base xs.length*q=Je xs*10000000000000000000+P) (hz:zs=if q=0 then ys else ys ++ [q])
  (hown:wn.ownsRow w.heap.size 139 1 va zs.length (u64s zs)) (hbel:Below w.heap.size w wn):Z8 w s (.string (t.extract m t.size)) va wn:=by
 have hlm:(t.data.toList.take m).length=m:=by rw[Ms,JU];omega
 refine⟨t.extract m t.size,pre ++ t.data.toList.take m,zs,rfl,?_,La hval hmod hT hm hP hlm hn h hz,?_,.inr ?_,Ed ht hn h hz,?_,hown,hbel⟩
 ·rw[Ub,List.append_assoc,List.take_append_drop];exact hcat
 ·rw[hz]
  split
  ·exact hy
  ·intro d hd;rw[List.mem_append,List.mem_singleton]at hd;rcases hd with hd|hd
   ·exact hy d hd
   ·rw[hd];exact hq
 ·rw[OR];omega
 ·have:zs.length<=ys.length+1:=by rw[hz];split <;> simp
  rw[M0,hlm];omega
theorem Li{s t:ByteArray}{pre:List UInt8}{k:Nat}(hd:JG s.data.toList=true)(hcat:s.data.toList=pre ++ t.data.toList):decV (t.data.toList.take k)<10^k:=by
 have h1:JG (t.data.toList.take k)=true:=by
  unfold JG at *
  rw[hcat,Mv,Mu]at hd;rw[MG]at *
  exact fun x hx=>List.all_eq_true.mp hd.2 x (List.mem_of_mem_take hx)
 refine M1 (E8 _ h1) (M5 (by decide) ?_);rw[Ms];omega
theorem LM{s t:ByteArray}{pre:List UInt8}{k y:Nat}(hd:JG s.data.toList=true)(hcat:s.data.toList=pre ++ t.data.toList)(hk:k<t.size)(hy:(t[k]).toNat=y):(48<=y/\y<=57)/\decV (t.data.toList.take (k+1))=10*decV (t.data.toList.take k)+(y-48):=by
 have hat:=VR hk;constructor
 ·unfold JG at hd;rw[hcat,Mv,Mu]at hd;have:=List.all_eq_true.mp hd.2 _ (Mx hat);unfold YZ at this;rw[hy]at this;simpa using this
 ·rw[List.take_add_one,hat];simp only[Option.toList_some];rw[Zk];unfold dig;rw[hy]
theorem Eh{P y k:Nat}(hk:k<19)(hP:P<10^k)(hy:48<=y/\y<=57):IntKind.u64.wrap ((P:Int)*10)=(P:Int)*10/\IntKind.u64.wrap ((P:Int)*10+((y:Int)-48))=(P:Int)*10+((y:Int)-48):=by
 have h1:(10:Nat)^k<=10^18:=M5 (by decide) (by omega);have h2:(10:Nat)^18=1000000000000000000:=by decide
 rw[h2]at h1;constructor <;> rw[Jx] <;> omega
theorem O6{w w2 w3:JW}{n q:Nat}{ys:List Nat}{va v':Value}(hn:ys.length=n)(hown:w2.ownsRow w.heap.size 139 1 va n (u64s ys))(hbel:Below w.heap.size w w2)
  (hown':w3.ownsRow w.heap.size 139 1 v' (n+1) (u64s ys ++ [Ji Ju (q:Nat)])) (hgrow:(w2.alloc (.cells #[Ji Ju (q:Nat)] 139)).grownBy w3 va.ownBlock) :
  w3.ownsRow w.heap.size 139 1 v' (ys ++ [q]).length (u64s (ys ++ [q]))/\Below w.heap.size w w3:=by
 refine⟨by simpa[u64s,hn]using hown',?_⟩;exact(hbel.alloc hbel.size _).grown hgrow (by simp;have:=hbel.size;omega) (fun k hk=>UL hown hk)
theorem Ef(P:Nat):Je []+base ([]:List Nat).length*P=Je []*10000000000000000000+P:=by simp[Je,base]
theorem Nm{P k:Nat}(hk:k<=19)(h:P<10^k):P<18446744073709551616:=by
 have h1:(10:Nat)^k<=10^19:=M5 (by decide) hk;have h2:(10:Nat)^19=10000000000000000000:=by decide
 rw[h2]at h1;omega
theorem GS(s:ByteArray)(w:JW)(hs:s.size<=1300)(hd:JG s.data.toList=true) :
  Calls Tryz.prog 162 #[.string s] w fun e w'=>∃(va:Value) (xs:List Nat),e= .returned va/\Je xs=decV s.data.toList/\Jz xs/\Uw xs/\w'.ownsRow w.heap.size 139 1 va xs.length (u64s xs)/\Below w.heap.size w w':=by
 obtain⟨i0,hi,hz0,hz1,hz2⟩:=info_parts FU;have Hd:=Lh hd;clear hd;obtain⟨q,hq⟩:∃q:Nat,s.size/19=q:=⟨_,rfl⟩;have hq1:(s.size:Int)/19=(q:Int):=by omega
 have hq2:q<=1300:=by omega
 clear hq;go_enter Tryz.func162,Tryz.ntmps162;go_wp2_with (at_make;refine wpList_make_own _ rfl _ _ 129 rfl w.heap.size 139 i0 (Ji Ju 0) 1 Tryz.underlying129 hi hz0 hz1 _ _ _ (q+1) rfl rfl (by omega) (by rw[hz2];omega) (by unfold maxLen;omega) (M7 _) ?_)
 intro w1 hown1 hgr1;have Hst:=Lh (Ee s hown1 hgr1);clear hown1 hgr1;go_wp2_with fail
 go_loopw [0,3] (fun vs va wr=>Z8 w s vs va wr) (fun vs _ _=>GJ vs)
 case atStart=>exact Hst.out
 case round=>
  obtain⟨t,pre,xs,rfl,hcat,hval,hw,hmod,htight,hlen,hown,hbel⟩:=hrel;have hsz:pre.length+t.size=s.size:=by have:=congrArg List.length hcat;rw[M0,JU,JU]at this;omega
  have Hcat:=Lh hcat;have Hval:=Lh hval;have Hw:=Lh hw;have Hmod:=Lh hmod;have Htight:=Lh htight;have Hown:=Lh hown;have Hbel:=Lh hbel;have hsize:=hbel.size;by_cases h0:t.size=0
  ·have hnil:t.data.toList=[]:=M6 (by rw[JU];exact h0);have hfin:Je xs=decV s.data.toList:=by rw[hcat,hnil,List.append_nil];exact hval
   have Hfin:=Lh hfin;clear hcat hval hw hmod htight hown hbel hfin hnil;go_wp2;go_ret;exact⟨_,xs,rfl,Hfin.out,Hw.out,Htight.out,Hown.out,Hbel.out⟩
  ·clear hcat hval hw hmod htight hown hbel;have hpos:0<t.size:=by omega
   obtain⟨m,hm⟩:∃m:Nat,(t.size-1)%19+1=m:=⟨_,rfl⟩;have hm0:1<=m:=by omega
   have hm1:m<=19:=by omega
   have hm2:m<=t.size:=by omega
   have hm3:((t.size:Int)-1)%19+1=(m:Int):=by omega
   have Hm:=Lh hm;clear hm;go_wp2_with fail
   go_loop [5,22] (fun vp vi=>∃k:Nat,k<=m/\vi=Ji .i64 k/\vp=Ji Ju (decV (t.data.toList.take k):Nat)) (fun _ vi=>m-(intOf vi).toNat)
   case atStart=>exact⟨0,MF _,rfl,rfl⟩
   case round=>
    obtain⟨k,hk,rfl,rfl⟩:=hrel;obtain⟨P,hP⟩:∃P,decV (t.data.toList.take k)=P:=⟨_,rfl⟩;rw[hP];have HP:=Lh hP;have hPlt:=Li (k:=k) Hd.out Hcat.out;rw[hP]at hPlt;have HPlt:=Lh hPlt;clear hP hPlt;by_cases hkm:k<m
    ·have hkt:k<t.size:=by omega
     obtain⟨y,hy⟩:∃y,(t[k]).toNat=y:=⟨_,rfl⟩;obtain⟨⟨hy1,hy2⟩,hnext⟩:=LM Hd.out Hcat.out hkt hy;obtain⟨e1,e2⟩:=Eh (by omega) HPlt.out ⟨hy1,hy2⟩;rw[HP.out]at hnext;have Hnext:=Lh hnext;clear hnext;go_wp2;go_round
     case rel=>exact⟨k+1,by omega,by go_num,by rw[Hnext.out];congr 1;omega⟩
     case measure=>simp[intOf];omega
    ·obtain rfl:k=m:=by omega
     have hPw:=Nm hm1 HPlt.out;have HPw:=Lh hPw;clear hPw;rcases Nat.eq_zero_or_pos xs.length with hx0|hx0
     ·have hxn:xs=[]:=M6 hx0;subst hxn;obtain⟨A,c,rfl,_,_⟩:=Yn Hown.out;go_wp2_with fail
      refine(ZO A c 10000000000000000000 P _).mono ?_;rintro e w2⟨rfl,rfl⟩;have Hown2:=Hown;have Hbel2:=Hbel;have Hyw:=Hw;have Hq:=HPw;have Hyv:=Lh (Ef P);by_cases hq0:P=0
      ·have Hq0:=Lh hq0;have hfin:=XA Hcat.out Hval.out Hmod.out hpos Hm.out hm2 HP.out hlen Htight.out rfl Hyw.out Hq.out Hyv.out (by rw[if_pos hq0]) Hown2.out Hbel2.out;have Hfin:=Lh hfin;clear hfin;have t1:((P:Int) ==0)=true:=by rw[beq_iff_eq];omega
       go_wp2;go_roundw;case rel=>exact Hfin.out
       case measure=>simp[GJ];omega
      ·have t1:((P:Int) ==0)=false:=by rw[beq_eq_false_iff_ne];omega
       go_wp2_with (at_builtin;refine wpList_append_own _ rfl _ _ 129 rfl w.heap.size 139 i0 (Ji Ju 0) 1 8 Tryz.underlying129 hi hz0 hz1 hz2 rfl (by decide) _ _ _ rfl (Hown2.out.alloc _) ⟨wr.heap.size,0,Jn⟩ 1 1 [Ji Ju (P:Nat)] rfl rfl (fun k u hu=>by match k,hu with|0,hu=>simp at hu;subst hu;simp[Addr.add]) (fun u hu=>by simp at hu;subst hu;rfl) (by unfold maxLen;omega) (by omega) (by simp;omega) ?_)
       intro v' w3 hown3 hgrow _;obtain⟨hown4,hbel4⟩:=O6 rfl Hown2.out Hbel2.out hown3 hgrow;have hfin:=XA Hcat.out Hval.out Hmod.out hpos Hm.out hm2 HP.out hlen Htight.out rfl Hyw.out Hq.out Hyv.out (by rw[if_neg hq0]) hown4 hbel4;have Hfin:=Lh hfin;clear hfin hown3 hgrow hown4 hbel4;go_wp2;go_roundw;case rel=>exact Hfin.out
       case measure=>simp[GJ];omega
     ·obtain⟨n,hn⟩:∃n,xs.length=n:=⟨_,rfl⟩;have hown':=Hown.out;rw[hn]at hown' hx0 hlen;obtain⟨g,c,rfl,hnc,hcm,hgb,hblk⟩:=Blk.of_own hown' hx0;have Hblk:=Lh hblk;have Hown':=Lh hown';have Hn:=Lh hn;clear hblk hown' hn;go_wp2_with fail
      refine(X9 g 0 n c xs 10000000000000000000 P _ Hblk.out (by rw[Hn.out];omega) Hw.out (by decide) HPw.out (by omega) (by decide)).mono ?_;rintro e w2⟨ys,qq,rfl,hyl,hq,hyw,hyv,hb2,ho2⟩;have e:put xs 0 ys=ys:=by
       have:=Hn.out;simp[put,hyl,this]
      rw[e]at hb2;rw[List.drop_zero,←Hn.out,MH]at hyv;have hsize2:=ho2.size;have Hown2:=Lh (FI Hown'.out ho2 hb2 hyl);have Hbel2:=Lh (Below.only Hbel.out ho2 hgb hsize);have Hyn:=Lh hyl;have Hyw:=Lh hyw;have Hq:=Lh hq;have Hyv:=Lh hyv;have hlenx:xs.length<=pre.length:=by rw[Hn.out];exact hlen
      have Hlenx:=Lh hlenx;clear hyl hyw hq hyv hb2 ho2 e hlenx;by_cases hq0:qq=0
      ·have Hq0:=Lh hq0;have hfin:=XA Hcat.out Hval.out Hmod.out hpos Hm.out hm2 HP.out Hlenx.out Htight.out (Hyn.out.trans Hn.out.symm) Hyw.out Hq.out Hyv.out (by rw[if_pos hq0]) (by rw[Hyn.out];exact Hown2.out) Hbel2.out;have Hfin:=Lh hfin;clear hfin;have t1:((qq:Int) ==0)=true:=by rw[beq_iff_eq];omega
       go_wp2;go_roundw;case rel=>exact Hfin.out
       case measure=>simp[GJ];omega
      ·have t1:((qq:Int) ==0)=false:=by rw[beq_eq_false_iff_ne];omega
       go_wp2_with (at_builtin;refine wpList_append_own _ rfl _ _ 129 rfl w.heap.size 139 i0 (Ji Ju 0) 1 8 Tryz.underlying129 hi hz0 hz1 hz2 rfl (by decide) _ _ _ rfl (Hown2.out.alloc _) ⟨w2.heap.size,0,Jn⟩ 1 1 [Ji Ju (qq:Nat)] rfl rfl (fun k u hu=>by match k,hu with|0,hu=>simp at hu;subst hu;simp[Addr.add]) (fun u hu=>by simp at hu;subst hu;rfl) (by unfold maxLen;omega) (by omega) (by simp;omega) ?_)
       intro v' w3 hown3 hgrow _;obtain⟨hown4,hbel4⟩:=O6 Hyn.out Hown2.out Hbel2.out hown3 hgrow;have hfin:=XA Hcat.out Hval.out Hmod.out hpos Hm.out hm2 HP.out Hlenx.out Htight.out (Hyn.out.trans Hn.out.symm) Hyw.out Hq.out Hyv.out (by rw[if_neg hq0]) hown4 hbel4;have Hfin:=Lh hfin;clear hfin hown3 hgrow hown4 hbel4;go_wp2;go_roundw;case rel=>exact Hfin.out
       case measure=>simp[GJ];omega
