/- GC07: Back -/
import Derived.Test.YtekhdklbfincpaaGreatDoorGC06
import Derived.Test.YtekhdklbfincpaaGreatDoorGC03
import Derived.Test.YtekhdklbfincpaaGreatDoorGC04
set_option maxRecDepth 100000
set_option maxHeartbeats 16000000
namespace Go.Proofs.YtekhdklbfincpaaGreatDoor
open Go.Value renaming pointer→Jp,int→Ji,string→Js
open Go.IntKind renaming i64→Jl
open _root_.Option renaming none→Jn,some→Jo
open Go renaming World→JW
open _root_.Nat renaming le_refl→M0,eq_zero_or_pos→M3,le_succ→M9,zero_add→Ms
open Go.RowKit.Below renaming refl→M1
open _root_.List renaming eq_nil_of_length_eq_zero→M2,reverse_reverse→M4,take_length→M6,length_reverse→M8,drop_zero→Mr
open Go.World renaming frozen?→M5
open _root_.Array renaming getElem?_push→M7
open Go.RowKit
theorem Wc{w w1 w2:JW}{g n c v:Nat}{xs:List Nat}(hx:xs.length=n)(h0:0<n)(hn4:n<4294967296){k:Nat}(hnk:n<=k)(hv:Je xs=v)(hv0:0<v)(hw:Jz xs)(hb:Blk w1 g xs)(hg:w.heap.size<=g)(hbel:Below w.heap.size w w1)
  (hown:w2.ownsRow w1.heap.size 5 1 (.slice (Jo ⟨w1.heap.size,0,Jn⟩) 0 c) 0 []) (hgr:w1.grownBy w2 Jn) :
  OB w g k v (.slice (Jo ⟨g,0,Jn⟩) n k) (.slice (Jo ⟨w1.heap.size,0,Jn⟩) 0 c) w2:=by
 subst hx;refine⟨xs,[],rfl,by omega,hw,hb.grown hgr (by simp),hg,by rw[hv];rfl,?_,hbel.grown hgr hbel.size (by simp),hn4,hnk⟩;refine⟨by simp[Qn],?_⟩;rcases hown.2 with h|⟨a,b,cur,h1,h2,h3⟩
 ·exact .inl h
 ·exact .inr ⟨a,b,cur,h1,Nat.le_trans hbel.size h2,h3⟩
theorem ZZ{w wr w1:JW}{g v p k:Nat}{ls ys:List Nat}{t:List Int}{vt:Value}(hb:Blk wr g ls)(hg:w.heap.size<=g)(ht:t ++ sig (digN (Je ls))=sig (digN v))
  (hown:wr.ownsRow w.heap.size 5 1 vt t.length (Qn t)) (hbel:Below w.heap.size w wr) (hyl:ys.length=ls.length) (hp:p<10000000000000000000) (hv:Je ls=Je ys*10000000000000000000+p) (hb1:Blk w1 g ys) (ho:Only g wr w1)
  (hk:QF ys ls.length=k):OG w g v t.length (ys.take k) vt (Ji .u64 (p:Nat)) (Ji Jl 0) w1:=by
 have hval:Je (ys.take k)=Je ys:=by rw[←hk,Uh _ _ (by omega),←hyl,M6]
 refine⟨0,p,t,rfl,rfl,by omega,by rw[Nat.sub_zero,Lf];exact hp,hb1.take k,?_,rfl,Ll hown ho (LS hb hown),Below.only hbel ho hg hbel.size⟩;rw[hval,Nat.sub_zero,Lf,Nat.add_comm,Nat.mul_comm,←hv];exact ht
theorem Oq{w wr w1:JW}{g v T0 i p:Nat}{ls:List Nat}{t:List Int}{vt v':Value}(hi:i<19)(hp:p<10^(19-i))(hb:Blk wr g ls)(ht:t ++ sig (digN (p+10^(19-i)*Je ls))=sig (digN v))(hne:p+10^(19-i)*Je ls≠0)
  (hown:wr.ownsRow w.heap.size 5 1 vt t.length (Qn t)) (hbel:Below w.heap.size w wr) (x:Int) (hx:x=48+((p%10:Nat):Int))
  (hT:t.length=T0+i) (hown':w1.ownsRow w.heap.size 5 1 v' (t.length+1) (Qn t ++ [Ji .u8 x])) (hgrow:(wr.alloc (.cells #[Ji .u8 x] 5)).grownBy w1 vt.ownBlock) :
  OG w g v T0 ls v' (Ji .u64 ((p/10:Nat):Int)) (Ji Jl ((i:Int)+1)) w1:=by
 refine⟨i+1,p/10,t ++ [x],by simp,rfl,by omega,Nn hi hp,(hb.alloc _).grown hgrow (LS hb hown),?_,by simp;omega,by simpa[Qn]using hown',(hbel.alloc hbel.size _).grown hgrow (by simp;have:=hbel.size;omega) (fun k hk=>UL hown hk)⟩;rw[Wd hi hne]at ht;rw[←ht,hx];simp[sig]
theorem YD.string{w:JW}{g n c:Nat}{l:List Int}(h:YD w g l)(hl:l.length=n) :
  ∀dst,Tryz.prog.underlying dst=Jo .string->(convert 155 dst (.slice (Jo ⟨g,0,Jn⟩) n c)).run Tryz.prog w= .ok (Js (strOfNums l)) w:=by
 subst hl;refine run_convert_bytes_arg w 155 5 Tryz.underlying155 Tryz.underlying5 g 0 _ _ l rfl (fun i hi=>?_);have:=h.cell hi;rw[Ms,this]
theorem FH{w:JW}{base n:Nat}{v:Value}{l:List Int}(h:w.ownsRow base 5 1 v n (Qn l))(hl:0<l.length):∃g c,v= .slice (Jo ⟨g,0,Jn⟩) l.length c/\base<=g/\YD w g l:=by
 have hn:l.length=n:=by simpa[Qn]using h.1
 subst hn;rcases h.2 with⟨_,h0⟩|⟨g,cap,cur,rfl,hg,hh,hnc,hcm,hcs,hx⟩
 ·omega
 ·exact⟨g,cap,rfl,hg,cur,hh,by simpa using hx⟩
theorem Ue{v:Nat}(h:0<v):0<(digN v).length:=by
 rw[Qq (by omega)];simp
theorem Fg{w wr:JW}{v:Nat}{vt:Value}{t:List Int}{k:Nat}(hv:0<v)(hk0:k=0){ls:List Nat}(hk:ls.length=k)(ht:t ++ sig (digN (Je ls))=sig (digN v))(hown:wr.ownsRow w.heap.size 5 1 vt t.length (Qn t)) :
  ∃g' c',vt= .slice (Jo ⟨g',0,Jn⟩) t.length c'/\w.heap.size<=g'/\YD wr g' (sig (digN v))/\t.length=(sig (digN v)).length:=by
 subst hk0;have:ls=[]:=M2 hk;subst this;rw[show Je []=0 from rfl,JL]at ht;simp[sig]at ht;have hl:0<t.length:=by rw[ht];simp;exact Ue hv
 obtain⟨g',c',h1,h2,h3⟩:=FH hown hl;exact⟨g',c',h1,h2,by rw[show sig (digN v)=t by rw[ht];rfl];exact h3,by rw[ht];rfl⟩
theorem EB{w wr:JW}{g c v T0 k m:Nat}{ls0 ys:List Nat}{vt:Value}{i p:Nat}{t:List Int}(hi:i<=19)(hp:p<10^(19-i))(hx:i=19\/(p=0/\k=0))(hb:Blk wr g (ys.take k))(ht:t ++ sig (digN (p+10^(19-i)*Je (ys.take k)))=sig (digN v))(hT:t.length=T0+i)
  (hown:wr.ownsRow w.heap.size 5 1 vt t.length (Qn t)) (hbel:Below w.heap.size w wr) (hg:w.heap.size<=g) (hk:QF ys m=k) (hm:m=ys.length) (hw:Jz ys) (hk4:k<4294967296) (hkc:k<=c) (h0:T0+(digN (Je ls0)).length=(digN v).length) (hls0:0<Je ls0) :
  OB w g c v (.slice (Jo ⟨g,0,Jn⟩) k c) vt wr/\T0<GL vt:=by
 have hkle:k<=ys.length:=by rw[←hk,hm];exact UQ _ _
 have hlen:(ys.take k).length=k:=by simp;omega
 have hp0:p=0:=by
  rcases hx with rfl|⟨h,_⟩
  ·simpa using hp
  ·exact h
 subst hp0;have e:digN (0+10^(19-i)*Je (ys.take k))=digN (Je (ys.take k)):=by
  rcases hx with rfl|⟨_,rfl⟩
  ·simp
  ·simp[Je]
 rw[e]at ht;refine⟨⟨ys.take k,t,by rw[hlen],?_,fun d hd=>hw d (List.mem_of_mem_take hd),hb,hg,ht,hown,hbel,by rw[hlen];exact hk4,by rw[hlen];exact hkc⟩,?_⟩
 ·have:=O0 (l:=ys) (n:=m) (by omega);rw[hlen,←hk,Uh _ _ (by omega)];exact this
 ·rw[Vp hown,hT];rcases hx with rfl|⟨_,hk0⟩
  ·omega
  ·have hl:=congrArg List.length ht;subst hk0;have:=Ue hls0;simp[sig,Je,JL]at hl;omega
theorem NH{w:JW}{g n c:Nat}{ys:List Nat}(h:Blk w g ys)(hl:ys.length=n)(hc:n<=c):IsL w (Jo ⟨g,0,Jn⟩) n c (u64s ys):=by
 have:=h.isL (o:=0) (n:=n) (c:=c) (by omega) hc;rw[Mr,←hl,M6]at this;rw[←hl];exact this
theorem LL{p j k n:Nat}{ys:List Nat}(hk:QF ys n=k)(hn:ys.length=n)(h:¬(p=0/\k=0)):p+10^j*Je (ys.take k)≠0:=by
 intro h0;obtain⟨h1,h2⟩:p=0/\10^j*Je (ys.take k)=0:=by omega
 have h3:0<k:=by omega
 have h4:=(O0 (l:=ys) (n:=n) (by omega)).mp (by omega);rw[←Uh _ _ (by omega),hk]at h4;rcases Nat.mul_eq_zero.mp h2 with h5|h5
 ·have:=Nat.pow_pos (n:=j) (show 0<10 by decide);omega
 ·omega
theorem NT{p i:Nat}(h:p<10^(19-i)):p<18446744073709551616:=by
 have h1:(10:Nat)^(19-i)<=10^19:=Nat.pow_le_pow_right (by decide) (by omega);rw[Lf]at h1;omega
theorem NS{p i:Nat}(h:p<10^(19-i)):IntKind.u64.wrap ((p:Int)/10)=((p/10:Nat):Int):=by
 have h1:=NT h;rw[Jx] <;> omega
theorem Gk(A:Option Addr)(n c:Nat)(xs:List Nat)(w:JW)(hl:IsL w A n c (u64s xs))(hw:Jz xs)(hv:0<Je xs)(hn:n<1000) :
  Calls Tryz.prog 112 #[.slice A n c] w fun e w'=>e= .returned (Js (strOfNums (sig (digN (Je xs))).reverse))/\Below w.heap.size w w':=by
 have hlen:xs.length=n:=by have:=hl.1;simpa[u64s]using this
 have h0:0<n:=by
  rcases M3 n with h|h
  ·subst h;have:xs=[]:=M2 hlen;subst this;simp[Je]at hv
  ·exact h
 obtain⟨v,hvv⟩:∃v,Je xs=v:=⟨_,rfl⟩;have hbig:(digN v).length<=20*n:=by
  refine UW (20*n) v (Nat.lt_of_lt_of_le (by rw[←hvv];exact JO hw) ?_);rw[hlen];unfold base;have h1:(18446744073709551616:Nat)^n<=(10^20)^n:=Nat.pow_le_pow_left (by decide) n;rw[←Nat.pow_mul]at h1;exact h1
 rw[hvv]at hv ⊢;have Hv0:=Lh hv;have Hclone:=Lh (Uu A n c xs w hl h0 (by omega));have Hv:=Lh hvv;have Hw:=Lh hw;have Hlen:=Lh hlen;have t0:((n:Int) ==0)=false:=by rw[beq_eq_false_iff_ne];omega
 clear hl hvv hw hlen;obtain⟨i0,hi,hz0,hz1,hz2⟩:=info_parts E3;go_enter Tryz.func112,Tryz.ntmps112;go_wp2_with fail
 refine Hclone.out.mono ?_;rintro e w1⟨g,c1,rfl,hnc,hc1,hg,hblk,hbel⟩;have Hblk:=Lh hblk;have Hbel:=Lh hbel;have Hg:=Lh hg;clear hblk hbel hg;go_wp2_with (at_make;refine wpList_make_own _ rfl _ _ 155 rfl w1.heap.size 5 i0 (Ji .u8 0) 1 Tryz.underlying155 hi hz0 hz1 _ _ _ (n*20) rfl rfl (by omega) (by rw[hz2];omega) (by unfold maxLen;omega) (M0 _) ?_)
 intro w2 hown2 hgr2;have Hst:=Lh (Wc (k:=c1) Hlen.out h0 (by omega) hnc Hv.out hv Hw.out Hblk.out Hg.out Hbel.out hown2 hgr2);clear hown2 hgr2;go_wp2_with fail
 go_loopw [3,4] (fun vl vt wr=>OB w g c1 v vl vt wr) (fun _ vt _=>20*n-GL vt)
 case atStart=>exact Hst.out
 case round=>
  obtain⟨ls,t,rfl,hpos,hws,hb,hg,ht,hown,hbel,hk1000,hkc⟩:=hrel;have hlt:(t ++ sig (digN (Je ls))).length=(sig (digN v)).length:=by rw[ht]
  simp[sig]at hlt;have htl:t.length<=20*n:=by omega
  obtain⟨k,hk⟩:∃k,ls.length=k:=⟨_,rfl⟩;rw[hk]at hk1000 hkc ⊢;have Hpos:=Lh hpos;have Hws:=Lh hws;have Hb:=Lh hb;have Hg:=Lh hg;have Ht:=Lh ht;have Hown:=Lh hown;have Hbel:=Lh hbel;have Hlt:=Lh hlt;have hsl:=Vp hown;have Hsl:=Lh hsl;have Hk:=Lh hk;by_cases hk0:k=0
  ·obtain⟨g',c',rfl,hg',hby,htv⟩:=Fg Hv0.out hk0 hk ht hown;have Hg':=Lh hg';have Hby:=Lh hby;have Htv:=Lh htv;clear hpos hws hb hg ht hown hbel hlt hsl hk hg' hby htv;subst hk0;go_wp2_with fail
   refine(Wu g' _ c' _ _ Hby.out Htv.out.symm (by omega)).mono ?_;rintro e w3⟨rfl,hb3,ho3⟩;have cv:=hb3.string (n:=t.length) (c:=c') (by rw[M8];exact Htv.out.symm);have Hfin:=Lh (Below.only Hbel.out ho3 Hg'.out Hbel.out.size);clear hb3 ho3;go_wp2;go_ret;exact⟨rfl,Hfin.out⟩
  ·have hk1:0<k:=by omega
   clear hpos hws hb hg ht hown hbel hlt hsl hk;go_wp2_with fail
   refine(Uc g 0 k c1 ls 10000000000000000000 _ Hb.out (by have:=Hk.out;omega) Hws.out (by decide) (by decide) hk1000 (by decide)).mono ?_;rintro e w3⟨ys,p,rfl,hyl,hp,hyw,hyv,hb3,ho3⟩;have e:put ls 0 ys=ys:=by
    have:=Hk.out;simp[put,hyl,this]
   rw[e]at hb3;have ev:Je ls=Je ys*10000000000000000000+p:=by rw[←hyv,Mr,←Hk.out,M6]
   obtain⟨k',hk'⟩:∃k',QF ys k=k':=⟨_,rfl⟩;have hkk:k'<=k:=by rw[←hk'];exact UQ _ _
   have hdig:=ZZ (k:=k') Hb.out Hg.out Ht.out Hown.out Hbel.out (by rw[hyl];exact Hk.out.symm) hp ev hb3 ho3 (by rw[Hk.out];exact hk');have htrim:=Qj (Jo ⟨g,0,Jn⟩) k c1 ys w3 (NH hb3 hyl hkc) hk1000 hc1;rw[hk']at htrim;have Htrim:=Lh htrim;have Hdig:=Lh hdig;have Hyl:=Lh hyl;have Hk':=Lh hk';have Hyw:=Lh hyw;have Hev:=Lh ev;have hpos1:=Hpos.out.mp (by rw[Hk.out];exact hk1);have hdl:=Ue hpos1;clear hyl hp hyw hyv hb3 ho3 e ev hk' hdig htrim;obtain⟨T0,hT0⟩:∃T0,t.length=T0:=⟨_,rfl⟩;rw[hT0]at Hdig htl Hlt Hsl;have hT1:T0<20*n:=by have:=Hlt.out;omega
   have hT2:=Hsl.out;have Hp1:=Lh hpos1;clear hpos1 hdl Hsl hT0;go_wp2_with fail
   refine Htrim.out.mono ?_;rintro e w4⟨rfl,rfl⟩;obtain⟨wo,hwo⟩:∃wo:JW,wo=wr:=⟨_,rfl⟩;go_wp2_with fail
   go_loopw [4,5,6] (fun vt vp vi wr=>OG w g v T0 (ys.take k') vt vp vi wr) (fun _ _ vi _=>(19-intOf vi).toNat)
   case atStart=>exact Hdig.out
   case round=>
    obtain⟨i,p',t',rfl,rfl,hi19,hp',hb',ht',hT',hown',hbel'⟩:=hrel;have Hp:=Lh hp';have Hb':=Lh hb';have Ht':=Lh ht';have HT':=Lh hT';have Hown':=Lh hown';have Hbel':=Lh hbel';by_cases hx:i=19\/(p'=0/\k'=0)
    ·have hstop:=EB (c:=c1) (k:=k') (m:=k) (ls0:=ls) hi19 hp' hx hb' ht' hT' hown' hbel' Hg.out Hk'.out Hyl.out.symm Hyw.out (by omega) (by omega) Hlt.out Hp1.out;have Hstop:=Lh hstop;have hs2:=hstop.2;clear hp' hb' ht' hT' hown' hbel' hstop;by_cases hi:i=19
     ·subst hi;go_wp2_with fail
      go_roundw;case rel=>exact Hstop.out.1
      case measure=>omega
     ·have hlt:i<19:=by omega
      obtain⟨rfl,rfl⟩:p'=0/\k'=0:=by omega
      go_wp2_with fail
      go_roundw;case rel=>exact Hstop.out.1
      case measure=>omega
    ·have hne:p'+10^(19-i)*Je (ys.take k')≠0:=by
      have:=LL (p:=p') (j:=19-i) Hk'.out Hyl.out (by omega);exact this
     have Hne:=Lh hne;have hsz':=hbel'.size;have Hw10:=Lh (NS hp');have hlt:i<19:=by omega
     clear hp' hb' ht' hown' hbel' hne;by_cases hp0:p'=0
     ·have hk2:0<k':=by omega
      clear Hw10;subst hp0;go_wp2_with (at_builtin;refine wpList_append_own _ rfl _ _ 155 rfl w.heap.size 5 i0 (Ji .u8 0) 1 1 Tryz.underlying155 hi hz0 hz1 hz2 rfl (by decide) _ _ _ rfl (Hown'.out.alloc _) ⟨wr.heap.size,0,Jn⟩ 1 1 [Ji .u8 (48)] rfl rfl (fun k u hu=>by match k,hu with|0,hu=>simp at hu;subst hu;simp[Addr.add]) (fun u hu=>by simp at hu;subst hu;rfl) (by unfold maxLen;omega) (by omega) (by simp;omega) ?_)
      intro v' w4 hownN hgrow _;rw[←HT'.out]at hownN;have hfin:=Oq hlt Hp.out Hb'.out Ht'.out Hne.out Hown'.out Hbel'.out (48) (by omega) HT'.out hownN hgrow;have Hfin:=Lh hfin;clear hfin hownN hgrow;go_wp2;go_roundw;case rel=>exact Hfin.out
      case measure=>simp[intOf];omega
     ·have hp1:0<p':=by omega
      have hw10:=Hw10.out;go_wp2_with (at_builtin;refine wpList_append_own _ rfl _ _ 155 rfl w.heap.size 5 i0 (Ji .u8 0) 1 1 Tryz.underlying155 hi hz0 hz1 hz2 rfl (by decide) _ _ _ rfl (Hown'.out.alloc _) ⟨wr.heap.size,0,Jn⟩ 1 1 [Ji .u8 (48+(p':Int)%10)] rfl rfl (fun k u hu=>by match k,hu with|0,hu=>simp at hu;subst hu;simp[Addr.add]) (fun u hu=>by simp at hu;subst hu;rfl) (by unfold maxLen;omega) (by omega) (by simp;omega) ?_)
      intro v' w4 hownN hgrow _;rw[←HT'.out]at hownN;have hfin:=Oq hlt Hp.out Hb'.out Ht'.out Hne.out Hown'.out Hbel'.out (48+(p':Int)%10) (by omega) HT'.out hownN hgrow;have Hfin:=Lh hfin;clear hfin hownN hgrow;go_wp2;go_roundw;case rel=>exact Hfin.out
      case measure=>simp[intOf];omega
def Yv(s:ByteArray):Bool:=s.data.toList.head? ==Jo 45
def JE(s:ByteArray):ByteArray:=if Yv s then s.extract 1 s.size else s
def Yh(d:ByteArray):Bool:=d.data.toList.head? ==Jo 48
def Qu(s:ByteArray):Int:=
 if (JE s).size=0 then 14 else if JG (JE s).data.toList=false then 14 else if Yh (JE s)=true/\(1<(JE s).size\/1<s.size) then 3 else 0
theorem Gy{s:ByteArray}(h:0<s.size):s.data.toList.head?=Jo s[0]:=by
 have:=VR h
 rwa [←List.head?_eq_getElem?]at this
theorem GB{c:UInt8}{n:Nat}(hn:n<256)(h:c.toNat=n):c=UInt8.ofNat n:=by
 apply UInt8.toNat_inj.mp;rw[h,UInt8.toNat_ofNat'];omega
theorem WW{s:ByteArray}{x:Nat}(h:0<s.size)(hx:(s[0]).toNat=x):Yv s=decide (x=45):=by
 unfold Yv;rw[Gy h];by_cases e:x=45
 ·subst e;rw[GB (by decide) hx];rfl
 ·rw[decide_eq_false e];rw[beq_eq_false_iff_ne];intro h1
  injection h1 with h1
  rw[h1]at hx;exact e hx.symm
theorem WU{s:ByteArray}{x:Nat}(h:0<s.size)(hx:(s[0]).toNat=x):Yh s=decide (x=48):=by
 unfold Yh;rw[Gy h];by_cases e:x=48
 ·subst e;rw[GB (by decide) hx];rfl
 ·rw[decide_eq_false e];rw[beq_eq_false_iff_ne];intro h1
  injection h1 with h1
  rw[h1]at hx;exact e hx.symm
theorem WX{s:ByteArray}(h:s.size=0):Yv s=false:=by
 unfold Yv;have:s.data.toList=[]:=M2 (by rw[JU];exact h);rw[this];rfl
theorem Uj(s:ByteArray):(s.extract 1 s.size).size=s.size-1:=by simp
theorem QM{s d:ByteArray}(hb:JE s=d):(d.size=0->Qu s=14)/\(JG d.data.toList=false->Qu s=14)/\(JG d.data.toList=true->0<d.size->Yh d=true->(1<d.size\/1<s.size)->Qu s=3)
  /\ (JG d.data.toList=true->0<d.size->¬(Yh d=true/\(1<d.size\/1<s.size))->Qu s=0):=by
 subst hb;unfold Qu;refine⟨fun h=>by rw[if_pos h],fun h=>by split <;> simp,fun h1 h2 h3 h4=>?_,fun h1 h2 h3=>?_⟩
 ·rw[if_neg (by omega),if_neg (by simp[h1]),if_pos ⟨h3,h4⟩]
 ·rw[if_neg (by omega),if_neg (by simp[h1]),if_neg h3]
theorem XX(neg:Bool){v:Nat}(h:0<v):JR neg (digN v)=strOfNums ((if neg then[45] else[]) ++ (sig (digN v)).reverse):=by
 unfold JR;have hl:=Ue h;rw[Xj _ (XM _),if_neg (by omega),M6];unfold outN sig;simp[List.map_reverse]
theorem Fs(l:List Int):(⟨#[45]⟩:ByteArray) ++ strOfNums l=strOfNums ([45] ++ l):=by
 apply ByteArray.ext;rw[ByteArray.data_append];apply Array.toList_inj.mp;simp[strOfNums]
theorem VQ(v:Value)(z:Int)(w:JW){B:Nat}(h:Jq B w v z)(ht:Tab w) :
  Calls Tryz.prog 79 #[v] w fun e w'=>e= .returned (Js (JR (decide (z<0)) (digN z.natAbs)))/\Below w.heap.size w w':=by
 rcases h with⟨hz,rfl⟩|⟨hz,p,A,n,c,xs,rfl,hp,_,_,c0,c1,hl,hc,hn,hw,htt,hval⟩
 ·rw[Wl];exact DR z w hz ht
 ·have hpos:0<z.natAbs:=by unfold I64 at hz;omega
  have hb1:=(M1 w.heap.size w).alloc (M0 _) (.cells #[Ji Jl 0,Jp (Jo ⟨p,0,Jn⟩)] 28);have Hcall:=Lh (Gk A n c xs (w.alloc (.cells #[Ji Jl 0,Jp (Jo ⟨p,0,Jn⟩)] 28)) (hl.grow _) hw (by rw[hval];exact hpos) hn);rw[hval]at Hcall;have Htx:=Lh (XX (decide (z<0)) hpos);have hlen:=hl.1;simp[u64s]at hlen;have hsz:(strOfNums (sig (digN z.natAbs)).reverse).size<=20000:=by
   rw[strOfNums_size,M8,sig,List.length_map];have h1:=JO hw;rw[hval,hlen]at h1;have h2:base n<=(10^20)^n:=Nat.pow_le_pow_left (by decide) n;rw[←Nat.pow_mul]at h2;have:=UW (20*n) z.natAbs (by omega);omega
  have C0:=Lh c0;have Hb1:=Lh hb1;clear hl hw htt hval hb1 hz hlen;have Hsm:=Lh (Fs (sig (digN z.natAbs)).reverse);obtain⟨U,hU⟩:∃U,strOfNums (sig (digN z.natAbs)).reverse=U:=⟨_,rfl⟩;rw[hU]at hsz Hcall Hsm;have HU:=Lh hU;clear hU;obtain⟨T,hT⟩:∃T,JR (decide (z<0)) (digN z.natAbs)=T:=⟨_,rfl⟩;rw[hT]at Htx ⊢;clear hT;cases hneg:decide (z<0)
  ·rw[hneg]at c0 Htx C0;go_enter Tryz.func79,Tryz.ntmps79;go_wp2_with fail
   refine Hcall.out.mono ?_;rintro e w2⟨rfl,hb⟩;have e0:w2.cell? ⟨p,0,Jn⟩=Jo (.bool false):=((hb.cell (p:=⟨p,0,Jn⟩) (by simp;omega)).trans (Hb1.out.cell (p:=⟨p,0,Jn⟩) hp)).trans C0.out;have e1:w2.cell? ⟨w.heap.size,0,Jn⟩=Jo (Ji Jl 0):=(hb.cell (p:=⟨w.heap.size,0,Jn⟩) (by simp)).trans (by simp[go_sem]);have e2:w2.cell? ⟨w.heap.size,1,Jn⟩=Jo (Jp (Jo ⟨p,0,Jn⟩)):=(hb.cell (p:=⟨w.heap.size,1,Jn⟩) (by simp)).trans (by simp[go_sem]);have Hfin:=Lh (Hb1.out.trans (hb.mono (by simp)));clear hb;go_wp2;go_ret;exact⟨by rw[Htx.out,←HU.out];rfl,Hfin.out⟩
  ·rw[hneg]at c0 Htx C0;go_enter Tryz.func79,Tryz.ntmps79;go_wp2_with fail
   refine Hcall.out.mono ?_;rintro e w2⟨rfl,hb⟩;have e0:w2.cell? ⟨p,0,Jn⟩=Jo (.bool true):=((hb.cell (p:=⟨p,0,Jn⟩) (by simp;omega)).trans (Hb1.out.cell (p:=⟨p,0,Jn⟩) hp)).trans C0.out;have e1:w2.cell? ⟨w.heap.size,0,Jn⟩=Jo (Ji Jl 0):=(hb.cell (p:=⟨w.heap.size,0,Jn⟩) (by simp)).trans (by simp[go_sem]);have e2:w2.cell? ⟨w.heap.size,1,Jn⟩=Jo (Jp (Jo ⟨p,0,Jn⟩)):=(hb.cell (p:=⟨w.heap.size,1,Jn⟩) (by simp)).trans (by simp[go_sem]);have Hfin:=Lh (Hb1.out.trans (hb.mono (by simp)));clear hb;go_wp2;go_ret;exact⟨by rw[Htx.out,if_pos trivial,←Hsm.out];rfl,Hfin.out⟩
theorem Lb{xs:List Nat}{k:Nat}(ht:Uw xs)(h:Je xs<10^k):19*xs.length<=k+19:=by
 rcases ht with h0|h0
 ·omega
 ·have h1:(10:Nat)^(19*(xs.length-1))<=base (xs.length-1):=by
   rw[Nat.pow_mul];exact Nat.pow_le_pow_left (by decide) _
  have h2:19*(xs.length-1)<k:=(Nat.pow_lt_pow_iff_right (by decide:1<10)).mp (by omega);omega
theorem Uq(s:ByteArray)(w:JW)(hs:s.size<=1300)(hd:JG s.data.toList=true) :
  Calls Tryz.prog 162 #[Js s] w fun e w'=>∃(A:Option Addr) (n c:Nat) (xs:List Nat),e= .returned (.slice A n c)/\Je xs=decV s.data.toList/\IsL w' A n c (u64s xs)/\Jz xs/\Uw xs/\n<1000/\c<=9223372036854775807/\(∀a:Addr,A=Jo a->w.heap.size<=a.block)/\Below w.heap.size w w':=by
 refine(GS s w (by omega) hd).mono ?_;rintro e w' ⟨va,xs,rfl,hval,hw,ht,hown,hbel⟩;obtain⟨A,c,rfl,hl,hc⟩:=Yn hown;have h1:=E8 _ hd;rw[←hval,JU]at h1;have:=Lb ht h1;exact⟨A,_,c,xs,rfl,hval,hl,hw,ht,by omega,hc,fun a e=>UL hown (by rw[e];rfl),hbel⟩
theorem XU(d:ByteArray)(w:JW)(hs:d.size<=1300)(had:JG d.data.toList=true)(h0:0<d.size) :
  Calls Tryz.prog 161 #[Js d] w fun e w'=>e= .returned (.bool true)/\w=w':=by
 have:=Vt d w (by omega);rw[had,decide_eq_true h0]at this;exact this
theorem Yz(d:ByteArray)(w:JW)(hs:d.size<=1300)(h:JG d.data.toList=false\/d.size=0) :
  Calls Tryz.prog 161 #[Js d] w fun e w'=>e= .returned (.bool false)/\w=w':=by
 have:=Vt d w (by omega);rcases h with h|h
 ·rw[h]at this;exact this
 ·rw[decide_eq_false (by omega),Bool.and_false]at this;exact this
theorem Jq.form{B:Nat}{w:JW}{v:Value}{z:Int}(h:Jq B w v z):∃a P,v= .agg #[Ji Jl a,Jp P]:=by
 rcases h with⟨_,rfl⟩|⟨_,p,A,n,c,xs,rfl,_⟩
 ·exact⟨_,_,rfl⟩
 ·exact⟨_,_,rfl⟩
theorem FF(s:ByteArray)(w:JW)(hs:s.size<=1300)(h0:0<s.size)(hx:(s[0]).toNat=45) :
  Calls Tryz.prog 130 #[Js s] w fun e w'=>∃v,e= .returned (.tuple #[v,Ji Jl (Qu s)])/\(Qu s=0->Jq w.heap.size w' v (Jk (Yv s) (decV (JE s).data.toList)))/\(Qu s≠0->v=JP 0)/\Below w.heap.size w w':=by
 have hneg:=WW h0 hx;have hb:JE s=s.extract 1 s.size:=by unfold JE;rw[hneg];rfl
 obtain⟨d,hd⟩:∃d,s.extract 1 s.size=d:=⟨_,rfl⟩;have hds:d.size=s.size-1:=by rw[←hd,Uj]
 rw[hd]at hb;have He:=Lh (QM hb);rw[hneg,hb];obtain⟨E,hE⟩:∃E,Qu s=E:=⟨_,rfl⟩;rw[hE]at He ⊢;clear hE hneg hb;cases had:JG d.data.toList
 ·have Hdig:=Lh (fun w=>Yz d w (by omega) (.inl had));have hE1:E=14:=He.out.2.1 had;clear had;subst hE1;go_enter Tryz.func130,Tryz.ntmps130;go_wp2_with fail
  refine(Hdig.out _).mono ?_;rintro e w1⟨rfl,rfl⟩;go_wp2;exact bodyPost_ret (v:= .tuple #[JP 0,Ji Jl 14]) (by simp[results,Tryz.results130,go_sem]) rfl ⟨_,rfl,fun h=>absurd h (by decide),fun _=>rfl,(M1 w.heap.size w).alloc (M0 _) _⟩
 ·rcases M3 d.size with hd0|hd0
  ·have Hdig:=Lh (fun w=>Yz d w (by omega) (.inr hd0));have hE1:E=14:=He.out.1 hd0;clear had;subst hE1;go_enter Tryz.func130,Tryz.ntmps130;go_wp2_with fail
   refine(Hdig.out _).mono ?_;rintro e w1⟨rfl,rfl⟩;go_wp2;exact bodyPost_ret (v:= .tuple #[JP 0,Ji Jl 14]) (by simp[results,Tryz.results130,go_sem]) rfl ⟨_,rfl,fun h=>absurd h (by decide),fun _=>rfl,(M1 w.heap.size w).alloc (M0 _) _⟩
  ·have Hdig:=Lh (fun w=>XU d w (by omega) had hd0);obtain⟨y,hy⟩:∃y,(d[0]).toNat=y:=⟨_,rfl⟩;have hl0:=WU hd0 hy;by_cases h48:y=48
   ·have hE1:E=3:=He.out.2.2.1 had hd0 (by rw[hl0,decide_eq_true h48]) (by omega);clear hl0 had;subst hE1;subst h48;go_enter Tryz.func130,Tryz.ntmps130;go_wp2_with fail
    refine(Hdig.out _).mono ?_;rintro e w1⟨rfl,rfl⟩;go_wp2;all_goals first|exact bodyPost_ret (v:= .tuple #[JP 0,Ji Jl 3]) (by simp[results,Tryz.results130,go_sem]) rfl ⟨_,rfl,fun h=>absurd h (by decide),fun _=>rfl,(M1 w.heap.size w).alloc (M0 _) _⟩|exact bodyPost_ret (v:= .tuple #[JP 0,Ji Jl 3]) (by simp[results,Tryz.results130,go_sem]) rfl ⟨_,rfl,rfl,(M1 w.heap.size w).alloc (M0 _) _⟩
   ·have hE1:E=0:=He.out.2.2.2 had hd0 (fun h=>by have h1:=h.1;rw[hl0,decide_eq_false h48]at h1;cases h1);have hy48:((y:Int) ==48)=false:=by rw[beq_eq_false_iff_ne];omega
    have Hread:=Lh (fun w=>Uq d w (by omega) had);clear hl0 had;subst hE1;go_enter Tryz.func130,Tryz.ntmps130;go_wp2_with fail
    refine(Hdig.out _).mono ?_;rintro e w1⟨rfl,rfl⟩;go_wp2_with fail
    refine(Hread.out _).mono ?_;rintro e w2⟨A,n,c,xs,rfl,hval,hl,hw,ht,hn,hc,hA,hbel⟩;have Hsig:=Lh (UZ (w.heap.size+1) A n c xs true w2 hl hw ht hn hc (by have:=hbel.size;simpa using this) (by simpa using hA));have Hbel:=Lh hbel;rw[hval]at Hsig;clear hval hl hw ht hbel hA;go_wp2_with fail
    refine Hsig.out.mono ?_;rintro e w3⟨v,rfl,hint,hbel3⟩;obtain⟨a,P,rfl⟩:=hint.form;have hc3:w3.heap[w.heap.size]?=Jo (.cells #[Ji Jl 0,Jp Jn] 28 (0,0)):=by
     rw[hbel3.block _ (by have:=Hbel.out.size;simp at this;omega),Hbel.out.block _ (by simp)];show(w.heap.push _)[w.heap.size]?=_;rw[M7,if_pos rfl]
    have k0:w3.cell? ⟨w.heap.size,0,Jn⟩=Jo (Ji Jl 0):=by rw[cell_of_row _ _ _ _ _ _ hc3];rfl
    have k1:w3.cell? ⟨w.heap.size,1,Jn⟩=Jo (Jp Jn):=by rw[cell_of_row _ _ _ _ _ _ hc3];rfl
    have f0:w3.frozen? ⟨w.heap.size,0,Jn⟩=false:=by simp[M5,hc3]
    have f1:w3.frozen? ⟨w.heap.size,1,Jn⟩=false:=by simp[M5,hc3]
    have Hc3:=Lh hc3;clear hc3;have Hint:=Lh hint;have Hbel3:=Lh hbel3;clear hint hbel3;go_wp2_with fail
    have Hi:=Lh (((Hint.out.set_ (i:=0) (u:=Ji Jl a)).set_ (i:=1) (u:=Jp P)).mono (M9 _));have Hb:=Lh ((((((M1 w.heap.size w).alloc (M0 _) _).trans (Hbel.out.mono (by simp))).trans (Hbel3.out.mono (by have:=Hbel.out.size;simp at this;omega))).setCell (p:=⟨w.heap.size,0,Jn⟩) (M0 w.heap.size) (Ji Jl a)).setCell (p:=⟨w.heap.size,1,Jn⟩) (M0 w.heap.size) (Jp P));exact bodyPost_ret (v:= .tuple #[.agg #[Ji Jl a,Jp P],Ji Jl 0]) (by simp[results,Tryz.results130,go_sem,k0,k1]) rfl ⟨_,rfl,fun _=>Hi.out,fun h=>absurd rfl h,Hb.out⟩
theorem FD(s:ByteArray)(w:JW)(hs:s.size<=1300)(h0:0<s.size)(x:Nat)(hx:(s[0]).toNat=x)(h45:x≠45) :
  Calls Tryz.prog 130 #[Js s] w fun e w'=>∃v,e= .returned (.tuple #[v,Ji Jl (Qu s)])/\(Qu s=0->Jq w.heap.size w' v (Jk (Yv s) (decV (JE s).data.toList)))/\(Qu s≠0->v=JP 0)/\Below w.heap.size w w':=by
 have hneg:=WW h0 hx;have hb:JE s=s:=by unfold JE;rw[hneg,decide_eq_false h45];rfl
 have hx45:((x:Int) ==45)=false:=by rw[beq_eq_false_iff_ne];omega
 have He:=Lh (QM hb);rw[hneg,decide_eq_false h45,hb];obtain⟨E,hE⟩:∃E,Qu s=E:=⟨_,rfl⟩;rw[hE]at He ⊢;clear hE hneg hb;cases had:JG s.data.toList
 ·have Hdig:=Lh (fun w=>Yz s w (by omega) (.inl had));have hE1:E=14:=He.out.2.1 had;clear had;subst hE1;go_enter Tryz.func130,Tryz.ntmps130;go_wp2_with fail
  refine(Hdig.out _).mono ?_;rintro e w1⟨rfl,rfl⟩;go_wp2;exact bodyPost_ret (v:= .tuple #[JP 0,Ji Jl 14]) (by simp[results,Tryz.results130,go_sem]) rfl ⟨_,rfl,fun h=>absurd h (by decide),fun _=>rfl,(M1 w.heap.size w).alloc (M0 _) _⟩
 ·rcases M3 s.size with hd0|hd0
  ·omega
  ·have Hdig:=Lh (fun w=>XU s w (by omega) had hd0);have hl0:=WU hd0 hx;by_cases h48:x=48
   ·by_cases hone:1<s.size
    ·have hE1:E=3:=He.out.2.2.1 had hd0 (by rw[hl0,decide_eq_true h48]) (.inl hone);clear hl0 had;subst hE1;subst h48;go_enter Tryz.func130,Tryz.ntmps130;go_wp2_with fail
     refine(Hdig.out _).mono ?_;rintro e w1⟨rfl,rfl⟩;go_wp2;all_goals first|exact bodyPost_ret (v:= .tuple #[JP 0,Ji Jl 3]) (by simp[results,Tryz.results130,go_sem]) rfl ⟨_,rfl,fun h=>absurd h (by decide),fun _=>rfl,(M1 w.heap.size w).alloc (M0 _) _⟩|exact bodyPost_ret (v:= .tuple #[JP 0,Ji Jl 3]) (by simp[results,Tryz.results130,go_sem]) rfl ⟨_,rfl,rfl,(M1 w.heap.size w).alloc (M0 _) _⟩
    ·have hE1:E=0:=He.out.2.2.2 had hd0 (fun h=>hone (by omega));subst h48;have Hread:=Lh (fun w=>Uq s w (by omega) had);clear hl0 had;subst hE1;go_enter Tryz.func130,Tryz.ntmps130;go_wp2_with fail
     refine(Hdig.out _).mono ?_;rintro e w1⟨rfl,rfl⟩;go_wp2_with fail
     refine(Hread.out _).mono ?_;rintro e w2⟨A,n,c,xs,rfl,hval,hl,hw,ht,hn,hc,hA,hbel⟩;have Hsig:=Lh (UZ (w.heap.size+1) A n c xs false w2 hl hw ht hn hc (by have:=hbel.size;simpa using this) (by simpa using hA));have Hbel:=Lh hbel;rw[hval]at Hsig;clear hval hl hw ht hbel hA;go_wp2_with fail
     refine Hsig.out.mono ?_;rintro e w3⟨v,rfl,hint,hbel3⟩;obtain⟨a,P,rfl⟩:=hint.form;have hc3:w3.heap[w.heap.size]?=Jo (.cells #[Ji Jl 0,Jp Jn] 28 (0,0)):=by
      rw[hbel3.block _ (by have:=Hbel.out.size;simp at this;omega),Hbel.out.block _ (by simp)];show(w.heap.push _)[w.heap.size]?=_;rw[M7,if_pos rfl]
     have k0:w3.cell? ⟨w.heap.size,0,Jn⟩=Jo (Ji Jl 0):=by rw[cell_of_row _ _ _ _ _ _ hc3];rfl
     have k1:w3.cell? ⟨w.heap.size,1,Jn⟩=Jo (Jp Jn):=by rw[cell_of_row _ _ _ _ _ _ hc3];rfl
     have f0:w3.frozen? ⟨w.heap.size,0,Jn⟩=false:=by simp[M5,hc3]
     have f1:w3.frozen? ⟨w.heap.size,1,Jn⟩=false:=by simp[M5,hc3]
     have Hc3:=Lh hc3;clear hc3;have Hint:=Lh hint;have Hbel3:=Lh hbel3;clear hint hbel3;go_wp2_with fail
     have Hi:=Lh (((Hint.out.set_ (i:=0) (u:=Ji Jl a)).set_ (i:=1) (u:=Jp P)).mono (M9 _));have Hb:=Lh ((((((M1 w.heap.size w).alloc (M0 _) _).trans (Hbel.out.mono (by simp))).trans (Hbel3.out.mono (by have:=Hbel.out.size;simp at this;omega))).setCell (p:=⟨w.heap.size,0,Jn⟩) (M0 w.heap.size) (Ji Jl a)).setCell (p:=⟨w.heap.size,1,Jn⟩) (M0 w.heap.size) (Jp P));exact bodyPost_ret (v:= .tuple #[.agg #[Ji Jl a,Jp P],Ji Jl 0]) (by simp[results,Tryz.results130,go_sem,k0,k1]) rfl ⟨_,rfl,fun _=>Hi.out,fun h=>absurd rfl h,Hb.out⟩
   ·have hE1:E=0:=He.out.2.2.2 had hd0 (fun h=>by have h1:=h.1;rw[hl0,decide_eq_false h48]at h1;cases h1);have hx48:((x:Int) ==48)=false:=by rw[beq_eq_false_iff_ne];omega
    have Hread:=Lh (fun w=>Uq s w (by omega) had);clear hl0 had;subst hE1;go_enter Tryz.func130,Tryz.ntmps130;go_wp2_with fail
    refine(Hdig.out _).mono ?_;rintro e w1⟨rfl,rfl⟩;go_wp2_with fail
    refine(Hread.out _).mono ?_;rintro e w2⟨A,n,c,xs,rfl,hval,hl,hw,ht,hn,hc,hA,hbel⟩;have Hsig:=Lh (UZ (w.heap.size+1) A n c xs false w2 hl hw ht hn hc (by have:=hbel.size;simpa using this) (by simpa using hA));have Hbel:=Lh hbel;rw[hval]at Hsig;clear hval hl hw ht hbel hA;go_wp2_with fail
    refine Hsig.out.mono ?_;rintro e w3⟨v,rfl,hint,hbel3⟩;obtain⟨a,P,rfl⟩:=hint.form;have hc3:w3.heap[w.heap.size]?=Jo (.cells #[Ji Jl 0,Jp Jn] 28 (0,0)):=by
     rw[hbel3.block _ (by have:=Hbel.out.size;simp at this;omega),Hbel.out.block _ (by simp)];show(w.heap.push _)[w.heap.size]?=_;rw[M7,if_pos rfl]
    have k0:w3.cell? ⟨w.heap.size,0,Jn⟩=Jo (Ji Jl 0):=by rw[cell_of_row _ _ _ _ _ _ hc3];rfl
    have k1:w3.cell? ⟨w.heap.size,1,Jn⟩=Jo (Jp Jn):=by rw[cell_of_row _ _ _ _ _ _ hc3];rfl
    have f0:w3.frozen? ⟨w.heap.size,0,Jn⟩=false:=by simp[M5,hc3]
    have f1:w3.frozen? ⟨w.heap.size,1,Jn⟩=false:=by simp[M5,hc3]
    have Hc3:=Lh hc3;clear hc3;have Hint:=Lh hint;have Hbel3:=Lh hbel3;clear hint hbel3;go_wp2_with fail
    have Hi:=Lh (((Hint.out.set_ (i:=0) (u:=Ji Jl a)).set_ (i:=1) (u:=Jp P)).mono (M9 _));have Hb:=Lh ((((((M1 w.heap.size w).alloc (M0 _) _).trans (Hbel.out.mono (by simp))).trans (Hbel3.out.mono (by have:=Hbel.out.size;simp at this;omega))).setCell (p:=⟨w.heap.size,0,Jn⟩) (M0 w.heap.size) (Ji Jl a)).setCell (p:=⟨w.heap.size,1,Jn⟩) (M0 w.heap.size) (Jp P));exact bodyPost_ret (v:= .tuple #[.agg #[Ji Jl a,Jp P],Ji Jl 0]) (by simp[results,Tryz.results130,go_sem,k0,k1]) rfl ⟨_,rfl,fun _=>Hi.out,fun h=>absurd rfl h,Hb.out⟩
theorem WM(s:ByteArray)(w:JW)(h0:s.size=0) :
  Calls Tryz.prog 130 #[Js s] w fun e w'=>e= .returned (.tuple #[JP 0,Ji Jl 14])/\Below w.heap.size w w':=by
 have Hdig:=Lh (fun w=>Yz s w (by omega) (.inr h0));go_enter Tryz.func130,Tryz.ntmps130;go_wp2_with fail
 refine(Hdig.out _).mono ?_;rintro e w1⟨rfl,rfl⟩;go_wp2;exact bodyPost_ret (v:= .tuple #[JP 0,Ji Jl 14]) (by simp[results,Tryz.results130,go_sem]) rfl ⟨rfl,(M1 w.heap.size w).alloc (M0 _) _⟩
theorem XG(s:ByteArray)(w:JW)(hs:s.size<=1300) :
  Calls Tryz.prog 130 #[Js s] w fun e w'=>∃v,e= .returned (.tuple #[v,Ji Jl (Qu s)])/\(Qu s=0->Jq w.heap.size w' v (Jk (Yv s) (decV (JE s).data.toList)))/\(Qu s≠0->v=JP 0)/\Below w.heap.size w w':=by
 rcases M3 s.size with h0|h0
 ·have hb:JE s=s:=by unfold JE;rw[WX h0];rfl
  have he:=(QM hb).1 h0;rw[he];refine(WM s w h0).mono ?_;rintro e w' ⟨rfl,hb⟩;exact⟨_,rfl,fun h=>absurd h (by decide),fun _=>rfl,hb⟩
 ·by_cases h45:(s[0]).toNat=45
  ·exact FF s w hs h0 h45
  ·exact FD s w hs h0 _ rfl h45
theorem DZ{c:UInt8}(h:YZ c=true):(48:Int)+((dig c:Nat):Int)=(c.toNat:Int):=by
 unfold YZ at h;simp at h;unfold dig;omega
theorem LO:∀r:List UInt8,r≠[]->JG r.reverse=true->r.reverse.head?≠Jo 48->0<decV r.reverse/\digN (decV r.reverse)=r.map (fun c=>((dig c:Nat):Int)):=by
 intro r
 induction r with
 | nil=>intro h;exact absurd rfl h
 | cons c r ih=>
  intro _ hd hh;rw[List.reverse_cons]at hd hh ⊢;unfold JG at hd;rw[List.all_append,Bool.and_eq_true]at hd;have hc:YZ c=true:=by simpa using hd.2
  have hlt:=LN hc;rw[Zk];cases r with
  | nil=>
   have hne:c≠48:=by simpa using hh
   have hpos:0<dig c:=by
    rcases M3 (dig c)with h|h
    ·exfalso;apply hne;unfold YZ at hc;simp at hc;unfold dig at h;exact GB (n:=48) (by decide) (by omega)
    ·exact h
   rw[show decV ([]:List UInt8).reverse=0 from rfl,Nat.mul_zero,Ms];refine⟨hpos,?_⟩;rw[Qq (by omega),show dig c/10=0 by omega,JL,show dig c%10=dig c by omega];rfl
  | cons c' r'=>
   obtain ⟨h1,h2⟩:=ih (by simp) hd.1 (by
    intro h;apply hh;rw[List.head?_append,h];rfl)
   refine⟨by omega,?_⟩;rw[Qq (by omega),show(10*decV (c' :: r').reverse+dig c)/10=decV (c' :: r').reverse by omega,show(10*decV (c' :: r').reverse+dig c)%10=dig c by omega,h2];rfl
theorem Fp(l:List UInt8)(h0:l≠[])(hd:JG l=true)(hh:l.head?≠Jo 48):0<decV l/\(sig (digN (decV l))).reverse=l.map fun c=>(c.toNat:Int):=by
 have h:=LO l.reverse (by simpa using h0) (by rw[M4];exact hd) (by rw[M4];exact hh);rw[M4]at h;refine⟨h.1,?_⟩;rw[h.2,sig,List.map_map,List.map_reverse,M4];apply List.map_congr_left;intro c hc;unfold JG at hd;exact DZ (List.all_eq_true.mp hd c hc)
theorem Xg(l:List UInt8):strOfNums (l.map fun c=>(c.toNat:Int))=⟨l.toArray⟩:=by
 unfold strOfNums;rw[List.map_map]
 congr 2
 conv=>rhs;rw[←List.map_id l]
 apply List.map_congr_left;intro c _;simp
theorem ZL{s:ByteArray}{l:List UInt8}(h:s.data.toList=l):(⟨l.toArray⟩:ByteArray)=s:=by
 subst h;rfl
theorem KU{s:ByteArray}(h:Qu s=0):JR (decide (Jk (Yv s) (decV (JE s).data.toList)<0)) (digN (Jk (Yv s) (decV (JE s).data.toList)).natAbs)=s:=by
 obtain⟨d,hd⟩:∃d,JE s=d:=⟨_,rfl⟩;obtain⟨e1,e2,e3,_⟩:=QM hd;rw[h]at e1 e2 e3;rw[hd,QQ];have hall:JG d.data.toList=true:=by
  cases hx:JG d.data.toList
  ·exact absurd (e2 hx) (by decide)
  ·rfl
 have hpos:0<d.size:=by
  rcases M3 d.size with hx|hx
  ·exact absurd (e1 hx) (by decide)
  ·exact hx
 cases hl:Yh d
 ·have hh:d.data.toList.head?≠Jo 48:=by
   unfold Yh at hl;exact beq_eq_false_iff_ne.mp hl
  obtain⟨hv,hs⟩:=Fp d.data.toList (by intro hx;have h2:=JU d;rw[hx]at h2;simp at h2;omega) hall hh;rw[O3 hv,XX _ hv,hs];cases hn:Yv s
  ·have:JE s=s:=by unfold JE;rw[hn];rfl
   rw[this]at hd;subst hd;simp only[Bool.false_eq_true,if_false,List.nil_append];exact(Xg _).trans (ZL rfl)
  ·have hb:JE s=s.extract 1 s.size:=by unfold JE;rw[hn];rfl
   rw[hb]at hd;subst hd;rw[Ub];have hcons:s.data.toList=45 :: s.data.toList.drop 1:=by
    unfold Yv at hn;have h45:=eq_of_beq hn;cases hx:s.data.toList with
    | nil=>rw[hx]at h45;cases h45
    | cons a m=>
     rw[hx]at h45;simp at h45;rw[h45];rfl
   rw[if_pos rfl];have:=Xg (45 :: s.data.toList.drop 1);rw[List.map_cons]at this;exact this.trans (ZL hcons)
 ·have hone:¬(1<d.size\/1<s.size):=fun hx=>absurd (e3 hall hpos hl hx) (by decide);cases hn:Yv s
  ·have:JE s=s:=by unfold JE;rw[hn];rfl
   rw[this]at hd;subst hd;have hlist:s.data.toList=[48]:=by
    unfold Yh at hl;have h48:=eq_of_beq hl;cases hx:s.data.toList with
    | nil=>rw[hx]at h48;cases h48
    | cons a m=>
     rw[hx]at h48;simp at h48;have hlen:=JU s;rw[hx]at hlen;simp at hlen;have:m=[]:=M2 (by omega);rw[h48,this]
   rw[hlist];have hz:decV [48]=0:=by decide
   rw[hz,JL];exact ZL hlist
  ·exfalso;have hb:JE s=s.extract 1 s.size:=by unfold JE;rw[hn];rfl
   have:=Uj s;rw[←hb,hd]at this;omega
