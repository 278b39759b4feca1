/- GC26: RatQ -/
import Derived.Test.YtekhdklbfincpaaGreatDoorGC25
import Derived.Test.YtekhdklbfincpaaGreatDoorGC23
import Derived.Test.YtekhdklbfincpaaGreatDoorGC24
import Derived.Test.YtekhdklbfincpaaGreatDoorGC02
set_option maxRecDepth 100000
set_option maxHeartbeats 16000000
namespace Go.Proofs.YtekhdklbfincpaaGreatDoor
open Go.Value renaming pointer→Jp,int→Ji,string→Js
open Go.IntKind renaming i64→Jl
open Go.Obj renaming cells→Jc
open Go renaming World→JW
open Go.RowKit.Below renaming refl→M0
open _root_.Nat renaming le_refl→M1,lt_of_lt_of_le→M4,zero_le→M5
open _root_.List renaming mem_cons_self→M2,mem_cons_of_mem→M3
open Go.RowKit
theorem Oa:∀l:List UInt8,(∀c∈l,c≠47)->Lib.indexByte l 47=-1
 | [],_=>rfl
 | b :: l,h=>by
  have h1:=Oa l (fun c hc=>h c (M3 _ hc));have h2:(b ==47)=false:=by rw[beq_eq_false_iff_ne];exact h b (M2 ..)
  unfold Lib.indexByte;rw[h2,h1];rfl
theorem G9:∀(l m:List UInt8),(∀c∈l,c≠47)->Lib.indexByte (l ++ 47 :: m) 47=(l.length:Int)
 | [],m,_=>by simp[Lib.indexByte]
 | b :: l,m,h=>by
  have h1:=G9 l m (fun c hc=>h c (M3 _ hc));have h2:(b ==47)=false:=by rw[beq_eq_false_iff_ne];exact h b (M2 ..)
  have h3:((l.length:Int) == -1)=false:=by rw[beq_eq_false_iff_ne];omega
  rw[List.cons_append];unfold Lib.indexByte;rw[h2,h1,h3];simp
theorem UM{p:UInt8->Bool}{x:UInt8}:∀l:List UInt8,x∈l->p x=false->x∈l.dropWhile p
 | [],h,_=>by cases h
 | b :: l,h,hp=>by
  rw[List.dropWhile_cons]
  split
  ·rename_i hb
   rcases List.mem_cons.1 h with rfl|h1
   ·rw[hp]at hb;cases hb
   ·exact UM l h1 hp
  ·exact h
theorem OZ{l:List UInt8}{x:UInt8}(h:x∈l)(hx:x≠48):Lib.trimB l 48≠[]:=by
 have hp:(x ==48)=false:=by rw[beq_eq_false_iff_ne];exact hx
 have h1:x∈Lib.trimRightB l 48:=List.mem_reverse.2 (UM (p:=(· ==48)) _ (List.mem_reverse.2 h) hp);have h2:x∈Lib.trimB l 48:=UM (p:=(· ==48)) _ h1 hp;intro e;rw[e]at h2;cases h2
theorem Xx(s:ByteArray):(⟨(Lib.trimPrefix s.data.toList [45]).toArray⟩:ByteArray)=JE s:=by
 apply ByteArray.ext;apply Array.toList_inj.1;unfold Lib.trimPrefix Lib.hasPrefix JE Yv;cases hl:s.data.toList with
 | nil=>simp[hl]
 | cons c l=>
  by_cases hc:c=45
  ·subst hc;have hlen:=JU s;rw[hl,List.length_cons]at hlen;simp[hl];rw[List.take_of_length_le (by omega)]
  ·have h1:((45:UInt8) ==c)=false:=by rw[beq_eq_false_iff_ne];exact fun e=>hc e.symm
   have h2:(some c ==some (45:UInt8))=false:=by rw[beq_eq_false_iff_ne];intro e;injection e with e;exact hc e
   simp[List.isPrefixOf,h1,hc,hl]
theorem Q5(s:ByteArray)(w:JW)(hs:s.size<=9223372036854775807) :
  Calls Tryz.prog 127 #[Js s] w fun e w'=>e= .returned (.bool (JG s.data.toList && decide (0<s.size)))/\w=w':=by
 go_enter Tryz.func127,Tryz.ntmps127;go_wp2_with fail
 go_loop [6] (fun i=>∃k:Nat,k<=s.size/\i=Ji Jl k/\JG (s.data.toList.take k)=true) (fun i=>s.size-(intOf i).toNat)
 case atStart=>exact⟨0,M5 _,rfl,rfl⟩
 case round=>
  obtain⟨k,hk,rfl,hd⟩:=hrel;have Hd:=Lh hd;clear hd;by_cases hlt:k<s.size
  ·have Hat:=Lh (VR hlt);obtain⟨x,hx⟩:∃x,(s[k]).toNat=x:=⟨_,rfl⟩;have Hx:=Lh hx;by_cases h1:x<48
   ·have hf:JG s.data.toList=false:=Xe Hat.out (by unfold YZ;rw[Hx.out];simp;omega);go_wp2;all_goals go_ret
    all_goals simp
   ·by_cases h2:57<x
    ·have hf:JG s.data.toList=false:=Xe Hat.out (by unfold YZ;rw[Hx.out];simp;omega);go_wp2;all_goals go_ret
     all_goals simp
    ·have hf:=Lh (Gh Hat.out (by unfold YZ;rw[Hx.out];simp;omega) Hd.out);go_wp2;go_round
     case rel=>exact⟨k+1,by omega,by go_num,hf.out⟩
     case measure=>simp[intOf];omega
  ·have e:k=s.size:=by omega
   have hall:JG s.data.toList=true:=by
    have:=Hd.out;rw[e,←JU,List.take_length]at this;exact this
   go_wp2;go_ret;simp
theorem Dm(S:ByteArray)(h:∀c∈S.data.toList,c≠47)(w:JW) :
  Calls Tryz.prog 152 #[Js S,Js ⟨#[47]⟩] w fun e w'=>e= .returned (.tuple #[Js S,Js ⟨#[]⟩,.bool false])/\w=w':=by
 have HI:=Lh (fun w=>Tryz.stringslite_Index_one S 47 w);rw[Oa _ h]at HI;clear h;go_enter Tryz.func152,Tryz.ntmps152;go_wp2_with fail
 refine(HI.out _).mono ?_;rintro e w1⟨rfl,rfl⟩;go_wp2;go_ret3
 exact⟨rfl,rfl⟩
theorem Ky(S:ByteArray)(h:∀c∈S.data.toList,c≠47)(w:JW) :
  Calls Tryz.prog 126 #[Js S,Js ⟨#[47]⟩] w fun e w'=>e= .returned (.tuple #[Js S,Js ⟨#[]⟩,.bool false])/\w=w':=by
 have HI:=Lh (fun w=>Dm S h w);clear h;go_enter Tryz.func126,Tryz.ntmps126;go_wp2_with fail
 refine(HI.out _).mono ?_;rintro e w1⟨rfl,rfl⟩;go_wp2;go_ret3
 exact⟨rfl,rfl⟩
theorem Dl(T U:ByteArray)(h:∀c∈T.data.toList,c≠47)(w:JW)(hs:T.size<=5000)(ht:U.size<=5000) :
  Calls Tryz.prog 152 #[Js (T ++ ⟨#[47]⟩ ++ U),Js ⟨#[47]⟩] w fun e w'=>e= .returned (.tuple #[Js T,Js U,.bool true])/\Below w.heap.size w w':=by
 have hsz:=Vf T U;have hdata:(T ++ ⟨#[47]⟩ ++ U).data.toList=T.data.toList ++ 47 :: U.data.toList:=by simp[ByteArray.data_append]
 have HI:=Lh (fun w=>Tryz.stringslite_Index_one (T ++ ⟨#[47]⟩ ++ U) 47 w);rw[hdata,G9 _ _ h,JU]at HI;have hl:=Kz T U;have hr:=Zl T U;obtain⟨S,hS⟩:∃S,T ++ ⟨#[47]⟩ ++ U=S:=⟨_,rfl⟩;rw[hS]at hl hr hsz HI ⊢;have hle:T.size<=S.size:=by omega
 have hle1:T.size+1<=S.size:=by omega
 have hS5:S.size<=10001:=by omega
 clear hdata hS hsz h;go_enter Tryz.func152,Tryz.ntmps152;go_wp2_with fail
 refine(HI.out _).mono ?_;rintro e w1⟨rfl,rfl⟩;go_wp2_with fail
 go_region
 all_goals
  go_wp2;go_ret3
  exact⟨rfl,(M0 _ _).drew⟩
theorem Kx(T U:ByteArray)(h:∀c∈T.data.toList,c≠47)(w:JW)(hs:T.size<=5000)(ht:U.size<=5000) :
  Calls Tryz.prog 126 #[Js (T ++ ⟨#[47]⟩ ++ U),Js ⟨#[47]⟩] w fun e w'=>e= .returned (.tuple #[Js T,Js U,.bool true])/\Below w.heap.size w w':=by
 have HI:=Lh (fun w=>Dl T U h w hs ht);obtain⟨S,hS⟩:∃S,T ++ ⟨#[47]⟩ ++ U=S:=⟨_,rfl⟩;rw[hS]at HI ⊢;clear hS h;go_enter Tryz.func126,Tryz.ntmps126;go_wp2_with fail
 refine(HI.out _).mono ?_;rintro e w1⟨rfl,h1⟩;have K1:=Lh h1;clear h1;go_wp2;go_ret3
 exact⟨rfl,K1.out⟩
theorem Wh(s:ByteArray)(w:JW)(hs:s.size<=9223372036854775807) :
  Calls Tryz.prog 129 #[Js s,Js ⟨#[48]⟩] w fun e w'=>e= .returned (Js ⟨(Lib.trimB s.data.toList 48).toArray⟩)/\Below w.heap.size w w':=
 (Tryz.strings_Trim_one s 48 (by decide) w hs).mono fun e w' ⟨h1,h2⟩=>⟨h1,by
  rcases h2 with rfl|rfl
  ·exact M0 _ _
  ·exact (M0 _ _).drew⟩
theorem VX(s:ByteArray)(z:Int)(w:JW)(hs:s.size<=1300)(h0:Tx s z) :
  Calls Tryz.prog 130 #[Js s] w fun e w'=>∃a P,e= .returned (.tuple #[.agg #[Ji Jl a,Jp P],Ji Jl 0])/\Jq 0 w' (.agg #[Ji Jl a,Jp P]) z/\Below w.heap.size w w':=by
 refine(XG s w hs).mono ?_;rintro e w' ⟨v,rfl,h1,_,h2⟩;obtain⟨a,P,rfl⟩:=(h1 h0.1).form;exact⟨a,P,by rw[h0.1],by have h3:=(h1 h0.1).mono (M5 _);have h4:Jk (Yv s) (decV (JE s).data.toList)=z:=h0.2;rwa [h4]at h3,h2⟩
theorem XI{s:ByteArray}(h:Qu s=0):JG (JE s).data.toList=true/\0<(JE s).size:=by
 obtain⟨e1,e2,_,_⟩:=QM (s:=s) rfl;refine⟨?_,?_⟩
 ·cases hb:JG (JE s).data.toList
  ·rw[e2 hb]at h;cases h
  ·rfl
 ·rcases Nat.eq_zero_or_pos (JE s).size with h0|h0
  ·rw[e1 h0]at h;cases h
  ·exact h0
theorem Lg{s:ByteArray}{z:Int}(h:Tx s z)(hz:0<z):JE s=s/\∃x∈s.data.toList,x≠48:=by
 have hn:Yv s=false:=by
  cases hn:Yv s
  ·rfl
  ·exfalso;have:=h.2;unfold zOf Jk at this;rw[hn]at this;simp at this;omega
 have hb:JE s=s:=by unfold JE;rw[hn];rfl
 refine⟨hb,?_⟩;obtain⟨hd,h0⟩:=XI h.1;rw[hb]at hd h0;cases hl:s.data.toList with
 | nil=>have:=JU s;rw[hl]at this;simp at this;omega
 | cons c l=>
  by_cases hc:c=48
  ·exfalso;have hlead:Yh s=true:=by unfold Yh;rw[hl,hc];rfl
   have hone:s.size=1:=by
    rcases Nat.lt_or_ge 1 s.size with h1|h1
    ·have:=(QM hb).2.2.1 hd h0 hlead (.inl h1);rw[h.1]at this;cases this
    ·omega
   have hl2:l=[]:=by
    have:=JU s;rw[hl,hone]at this;simpa using this
   have hs:s=⟨#[48]⟩:=by
    apply ByteArray.ext;apply Array.toList_inj.1;rw[hl,hc,hl2]
   have h3:=(Vb z).2;rw[h.txt,hs]at h3;have h4:dval (dl [48])=0:=by decide +kernel
   have h5:dval (dl (⟨#[48]⟩:ByteArray).data.toList)=0:=h4;omega
  ·exact⟨c,M2 ..,hc⟩
theorem FG(q:Rat)(most:Nat)(w:JW)(hd:q.den=1)(hT:Tx (txt q.num) q.num)(hs:(txt q.num).size<=1250)(hm:(txt q.num).size<=most)(_hm2:most<=1000000000) :
  Calls Tryz.prog 98 #[Js (txt q.num),Ji Jl (most:Nat)] w (Made q w):=by
 have HC:=Lh (fun w=>Ky _ (Yt q.num) w);obtain⟨b1,b2⟩:=XI hT.1;have HTr:=Lh (fun w=>Tryz.strings_TrimPrefix (txt q.num) ⟨#[45]⟩ w);rw[show(⟨#[45]⟩:ByteArray).data.toList=[45]from rfl,Xx]at HTr;obtain⟨d,hdd⟩:∃d,JE (txt q.num)=d:=⟨_,rfl⟩;rw[hdd]at b1 b2 HTr;have HP:=Lh (fun w=>VX (txt q.num) q.num w (by omega) hT);have hds:d.size<=1250:=by
  rw[←hdd];unfold JE
  split
  ·rw[Uj];omega
  ·omega
 have HD:=Lh (fun w=>Q5 d w (by omega));rw[b1,decide_eq_true b2]at HD;obtain⟨S,hS⟩:∃S,txt q.num=S:=⟨_,rfl⟩;rw[hS]at HC HTr HP hs hm ⊢;have R:=Lh (Jh.new w #[Ji Jl 0,Jp none,Ji Jl 0,Jp none] 30);have Kk:=Lh ((M0 w.heap.size w).alloc (M1 _) (Jc #[Ji Jl 0,Jp none,Ji Jl 0,Jp none] 30));have Hd1:=Lh hd;have hmI:(S.size:Int)<=(most:Int):=by omega
 clear hdd hS b1 b2 hT hd hds;go_enter Tryz.func98,Tryz.ntmps98;go_wp2_with fail
 refine(HC.out _).mono ?_;rintro e w1⟨rfl,rfl⟩;go_wp2_with fail
 refine(HTr.out _).mono ?_;rintro e w1⟨rfl,rfl⟩;go_wp2_with fail
 refine(HD.out _).mono ?_;rintro e w1⟨rfl,rfl⟩;go_wp2_with fail
 refine(HP.out _).mono ?_;rintro e w1⟨a,P,rfl,hi,h1⟩;have kv:=(M0 w1.heap.size w1).alloc (M1 _) (Jc #[Ji Jl a,Jp P] 28);have R:=Lh ((R.out.keep h1).keep kv);have Hi:=Lh (hi.keep kv);have K1:=Lh (Jd (Jd Kk.out h1) kv);obtain⟨wx,hwx⟩:∃u,w1.alloc (Jc #[Ji Jl a,Jp P] 28)=u:=⟨_,rfl⟩;have V:=Lh (Var.new hi);rw[hwx]at R Hi K1 V;obtain⟨pv,hpv⟩:∃p,w1.heap.size=p:=⟨_,rfl⟩;rw[hpv]at V;have c0:=V.out.c0;have c1:=V.out.c1;clear hi h1 kv;have k0:=R.out.c0;have k1:=R.out.c1;have k2:=R.out.c2;have k3:=R.out.c3;have f0:=R.out.fz 0;have f1:=R.out.fz 1;have f2:=R.out.fz 2;have f3:=R.out.fz 3;have HN:=Lh (Hi.out.wrote R.out (by rfl) (Jr _ w.heap.size (Ji Jl a) (Jp P) (Ji Jl 0) (Jp none)).1 (Jr _ _ _ _ _ _).2);have K2:=Lh (JA K1.out (M1 w.heap.size) (Ji Jl a) (Jp P) (Ji Jl 0) (Jp none));go_wp2;exact bodyPost_ret (v:= .tuple #[.agg #[Ji Jl a,Jp P,Ji Jl 0,Jp none],Ji Jl 0]) (by simp[results,Tryz.results98,go_sem,k0,k1,k2,k3]) rfl ⟨a,P,0,none,rfl,⟨HN.out,by rw[Hd1.out,Ov];exact Q3 ⟨by decide,by decide⟩⟩,K2.out⟩
theorem Ej(q:Rat)(most:Nat)(w:JW)(hd:q.den≠1)(hT:Tx (txt q.num) q.num)(hU:Tx (txt (q.den:Int)) (q.den:Int))(hs:(txt q.num).size<=1250)(ht:(txt (q.den:Int)).size<=1250)(hbn:q.num.natAbs<base 390)(hbd:((q.den:Nat):Int).natAbs<base 390)(hm:(txt q.num ++ ⟨#[47]⟩ ++ txt (q.den:Int)).size<=most)(_hm2:most<=1000000000)(hg:Good w) :
  Calls Tryz.prog 98 #[Js (txt q.num ++ ⟨#[47]⟩ ++ txt (q.den:Int)),Ji Jl (most:Nat)] w (Made q w):=by
 have HC:=Lh (fun w=>Kx _ (txt q.den) (Yt q.num) w (by omega) (by omega));obtain⟨b1,b2⟩:=XI hT.1;obtain⟨b3,b4⟩:=XI hU.1;have hdp:=q.den_pos;obtain⟨hbod,x,hx,hx48⟩:=Lg hU (by omega);rw[hbod]at b3 b4;have HTr:=Lh (fun w=>Tryz.strings_TrimPrefix (txt q.num) ⟨#[45]⟩ w);rw[show(⟨#[45]⟩:ByteArray).data.toList=[45]from rfl,Xx]at HTr;have HZ:=Lh (fun w=>Wh (txt (q.den:Int)) w (by omega));obtain⟨X,hX⟩:∃X:ByteArray,⟨(Lib.trimB (txt (q.den:Int)).data.toList 48).toArray⟩=X:=⟨_,rfl⟩;have hXne:X.toList≠[]:=by
  rw[←hX,ByteArray.toList_eq];exact OZ hx hx48
 rw[hX]at HZ;have tX:(X.toList == [])=false:=by rw[beq_eq_false_iff_ne];exact hXne
 have tX2:X.toList.isEmpty=false:=by rw[List.isEmpty_eq_false_iff];exact hXne
 obtain⟨d,hdd⟩:∃d,JE (txt q.num)=d:=⟨_,rfl⟩;rw[hdd]at b1 b2 HTr;have HP:=Lh (fun w=>VX (txt q.num) q.num w (by omega) hT);have HQ:=Lh (fun w=>VX (txt (q.den:Int)) q.den w (by omega) hU);have hds:d.size<=1250:=by
  rw[←hdd];unfold JE
  split
  ·rw[Uj];omega
  ·omega
 have HD:=Lh (fun w=>Q5 d w (by omega));have HE:=Lh (fun w=>Q5 (txt (q.den:Int)) w (by omega));rw[b1,decide_eq_true b2]at HD;rw[b3,decide_eq_true b4]at HE;have Hg:=Lh (fun w' (hb:Below w.heap.size w w')=>hg.below hb);obtain⟨S,hS⟩:∃S,txt q.num=S:=⟨_,rfl⟩;obtain⟨U,hUU⟩:∃U,txt (q.den:Int)=U:=⟨_,rfl⟩;rw[hS,hUU]at HC hm ⊢;rw[hS]at HTr HP;rw[hUU]at HQ HZ HE;obtain⟨Y,hY⟩:∃Y,S ++ ⟨#[47]⟩ ++ U=Y:=⟨_,rfl⟩;rw[hY]at HC hm ⊢;have R:=Lh (Jh.new w #[Ji Jl 0,Jp none,Ji Jl 0,Jp none] 30);have Kk:=Lh ((M0 w.heap.size w).alloc (M1 _) (Jc #[Ji Jl 0,Jp none,Ji Jl 0,Jp none] 30));have Hd1:=Lh hd;have Hred:=Lh (show Nat.gcd q.num.natAbs ((q.den:Nat):Int).natAbs=1 by rw[Int.natAbs_natCast];exact q.reduced);have Lz:=Lh hbn;have Lk:=Lh hbd;have hmI:(Y.size:Int)<=(most:Int):=by omega
 clear hdd hS hUU hX hXne hY b1 b2 b3 b4 hT hU hd hds hbn hbd hbod hx hx48 hdp hg hs ht;go_enter Tryz.func98,Tryz.ntmps98;go_wp2_with fail
 refine(HC.out _).mono ?_;rintro e w1⟨rfl,h1⟩;have R:=Lh (R.out.keep h1);have K1:=Lh (Jd Kk.out h1);clear h1;go_wp2_with fail
 refine(HTr.out _).mono ?_;rintro e w2⟨rfl,rfl⟩;go_wp2_with fail
 refine(HD.out _).mono ?_;rintro e w2⟨rfl,rfl⟩;go_wp2_with fail
 refine(HE.out _).mono ?_;rintro e w2⟨rfl,rfl⟩;go_wp2_with fail
 refine(HZ.out _).mono ?_;rintro e w3⟨rfl,h3⟩;have R:=Lh (R.out.keep h3);have K3:=Lh (Jd K1.out h3);clear h3;go_wp2_with fail
 refine(HP.out _).mono ?_;rintro e w4⟨a,P,rfl,hi,h1⟩;have kv:=(M0 w4.heap.size w4).alloc (M1 _) (Jc #[Ji Jl a,Jp P] 28);have R:=Lh ((R.out.keep h1).keep kv);have V:=Lh (Var.new hi);have K4:=Lh (Jd (Jd K3.out h1) kv);obtain⟨wx,hwx⟩:∃u,w4.alloc (Jc #[Ji Jl a,Jp P] 28)=u:=⟨_,rfl⟩;rw[hwx]at R K4 V;obtain⟨pv,hpv⟩:∃p,w4.heap.size=p:=⟨_,rfl⟩;rw[hpv]at V;clear hi h1 kv;go_wp2_with fail
 try simp only[hwx,hpv]
 refine(HQ.out _).mono ?_;rintro e w5⟨b,Q,rfl,hi,h1⟩;have kv:=(M0 w5.heap.size w5).alloc (M1 _) (Jc #[Ji Jl b,Jp Q] 28);have R:=Lh ((R.out.keep h1).keep kv);have V:=Lh ((V.out.keep h1).keep kv);have U1:=Lh (Var.new hi);have K5:=Lh (Jd (Jd K4.out h1) kv);obtain⟨wy,hwy⟩:∃u,w5.alloc (Jc #[Ji Jl b,Jp Q] 28)=u:=⟨_,rfl⟩;rw[hwy]at R K5 V U1;obtain⟨pu,hpu⟩:∃p,w5.heap.size=p:=⟨_,rfl⟩;rw[hpu]at U1;clear hi h1 kv hwx hpv;have HO:=Lh (Ul b Q (q.den:Int) wy U1.out.int);rw[show decide ((q.den:Int)=1)=false from decide_eq_false (by have:=Hd1.out;omega)]at HO;have c0:=U1.out.c0;have c1:=U1.out.c1;go_wp2_with fail
 try simp only[hwy,hpu]
 refine HO.out.mono ?_;rintro e w6⟨rfl,h1⟩;have R:=Lh (R.out.keep h1);have V:=Lh (V.out.keep h1);have U1:=Lh (U1.out.keep h1);have K6:=Lh (Jd K5.out h1);clear h1 hwy hpu c0 c1;have HG:=Lh (YO a b P Q q.num (q.den:Int) w6 V.out.int U1.out.int (Jw Lz.out (by decide)) (Jw Lk.out (by decide)) (Hg.out _ K6.out).2 (Nat.lt_of_le_of_lt (M5 _) V.out.lt));rw[Hred.out]at HG;have c0:=V.out.c0;have c1:=V.out.c1;have d0:=U1.out.c0;have d1:=U1.out.c1;go_wp2_with fail
 refine HG.out.mono ?_;rintro e w7⟨ga,gP,rfl,hgi,h1⟩;have R:=Lh (R.out.keep h1);have V:=Lh (V.out.keep h1);have U1:=Lh (U1.out.keep h1);have K7:=Lh (Jd K6.out h1);have HO:=Lh (Ul ga gP _ w7 hgi);rw[show decide (((1:Nat):Int)=1)=true from rfl]at HO;clear h1 hgi c0 c1 d0 d1;go_wp2_with fail
 refine HO.out.mono ?_;rintro e w8⟨rfl,h1⟩;have R:=Lh (R.out.keep h1);have V:=Lh (V.out.keep h1);have U1:=Lh (U1.out.keep h1);have K8:=Lh (Jd K7.out h1);clear h1;have c0:=V.out.c0;have c1:=V.out.c1;have d0:=U1.out.c0;have d1:=U1.out.c1;have k0:=R.out.c0;have k1:=R.out.c1;have k2:=R.out.c2;have k3:=R.out.c3;have f0:=R.out.fz 0;have f1:=R.out.fz 1;have f2:=R.out.fz 2;have f3:=R.out.fz 3;have HN:=Lh (V.out.int.wrote R.out (by rfl) (Jr _ w.heap.size (Ji Jl a) (Jp P) (Ji Jl b) (Jp Q)).1 (Jr _ _ _ _ _ _).2);have HM:=Lh (U1.out.int.wrote R.out (by rfl) (Jr _ w.heap.size (Ji Jl a) (Jp P) (Ji Jl b) (Jp Q)).1 (Jr _ _ _ _ _ _).2);have K9:=Lh (JA K8.out (M1 w.heap.size) (Ji Jl a) (Jp P) (Ji Jl b) (Jp Q));go_wp2;exact bodyPost_ret (v:= .tuple #[.agg #[Ji Jl a,Jp P,Ji Jl b,Jp Q],Ji Jl 0]) (by simp[results,Tryz.results98,go_sem,k0,k1,k2,k3]) rfl ⟨a,P,b,Q,rfl,⟨HN.out,by rw[XN Hd1.out];exact HM.out⟩,K9.out⟩
structure RS (s:ByteArray) (q:Rat):Prop where
 txt_:Jj q=s
 num:Tx (txt q.num) q.num
 den:q.den≠1->Tx (txt (q.den:Int)) (q.den:Int)
 nsz:(txt q.num).size<=40
 dsz:q.den≠1->(txt (q.den:Int)).size<=40
 nlt:q.num.natAbs<ten 40
 dlt:q.den<ten 40
 size:s.size<=40
theorem IsR.rs{s:ByteArray}(h:IsR s)(hs:s.size<=40):∃q,RS s q:=by
 obtain⟨q,h1,h2,h3,h4,h5⟩:=h;refine⟨q,h1,h2,h3,by omega,fun h=>by have:=h5 h;omega,?_,?_,hs⟩
 ·have hl:=@Ud q.num;exact M4 (Yo _) (JK (by omega))
 ·by_cases hd:q.den=1
  ·rw[hd];decide +kernel
  ·have hl:=@Ud (q.den:Int);have h6:=h5 hd;have h7:=Yo ((q.den:Nat):Int).natAbs;rw[Int.natAbs_natCast]at h7 hl;exact M4 h7 (JK (by omega))
def RInt(q:Rat)(n:Int)(b:Bool):Prop:=(q.den=1/\I64 q.num->n=q.num/\b=true)/\(¬(q.den=1/\I64 q.num)->n=0/\b=false)
def LX(q:Rat)(w:JW)(e:Ending)(w':JW):Prop:=(∃n b,e= .returned (.tuple #[Ji Jl n,.bool b])/\RInt q n b)/\Below w.heap.size w w'
theorem Vm(a:Int)(P:Option Addr)(b:Int)(Q:Option Addr)(q:Rat)(w:JW)(h:RatV w a P b Q q) :
  Calls Tryz.prog 58 #[.agg #[Ji Jl a,Jp P,Ji Jl b,Jp Q]] w (LX q w):=by
 have kk:=(M0 w.heap.size w).alloc (M1 _) (Jc #[Ji Jl a,Jp P,Ji Jl b,Jp Q] 30);have V:=Lh (Qb w a P b Q);have Hs:=Lh (Yc _ (denZ q.den) _ (h.den.keep kk));rw[GO]at Hs;have HA:=Lh (fun w' (hb:Below w.heap.size w w')=>Vu a P q.num w' (h.keep hb).num);have Kk:=Lh kk;have c2:=V.out.c2;have c3:=V.out.c3;clear h kk;by_cases hd:q.den=1
 ·rw[if_pos hd]at Hs;have Hd:=Lh hd;clear hd;go_enter Tryz.func58,Tryz.ntmps58;go_wp2_with fail
  refine Hs.out.mono ?_;rintro e w1⟨rfl,h1⟩;have V:=Lh (V.out.keep h1);have K1:=Lh (Jd Kk.out h1);clear h1 c2 c3;have c0:=V.out.c0;have c1:=V.out.c1;go_wp2_with fail
  refine(HA.out _ K1.out).mono ?_;rintro e w2⟨⟨n,b1,rfl,h1,h2⟩,h3⟩;have K2:=Lh (Jd K1.out h3);have Hn:=Lh (show RInt q n b1 from⟨fun h=>h1 h.2,fun h=>h2 (fun h'=>h ⟨Hd.out,h'⟩)⟩);clear h1 h2 h3;go_wp2;go_ret2;exact⟨⟨n,b1,rfl,Hn.out⟩,K2.out⟩
 ·rw[if_neg hd]at Hs;have Hn:=Lh (show RInt q 0 false from⟨fun h=>absurd h.1 hd,fun _=>⟨rfl,rfl⟩⟩);clear hd;go_enter Tryz.func58,Tryz.ntmps58;go_wp2_with fail
  refine Hs.out.mono ?_;rintro e w1⟨rfl,h1⟩;have K1:=Lh (Jd Kk.out h1);clear h1;go_wp2;go_ret2;exact⟨⟨0,false,rfl,Hn.out⟩,K1.out⟩
theorem O5(a:Int)(P:Option Addr)(b:Int)(Q:Option Addr)(q:Rat)(w:JW)(h:RatV w a P b Q q) :
  Calls Tryz.prog 57 #[.agg #[Ji Jl a,Jp P,Ji Jl b,Jp Q]] w fun e w'=>e= .returned (Ji Jl (sgn q.num))/\Below w.heap.size w w':=by
 have kk:=(M0 w.heap.size w).alloc (M1 _) (Jc #[Ji Jl a,Jp P,Ji Jl b,Jp Q] 30);have Hs:=Lh (Yc _ q.num _ (h.num.keep kk));have Kk:=Lh kk;obtain⟨x,hx⟩:∃x,sgn q.num=x:=⟨_,rfl⟩;rw[hx]at Hs ⊢;clear h kk hx;go_enter Tryz.func57,Tryz.ntmps57;go_wp2_with fail
 refine Hs.out.mono ?_;rintro e w1⟨rfl,h1⟩;have K1:=Lh (Jd Kk.out h1);clear h1;go_wp2;go_ret;exact⟨rfl,K1.out⟩
theorem Y9(n:Int)(w:JW)(hn:I64 n):Calls Tryz.prog 34 #[Ji Jl n] w fun e w'=>e= .returned (Js (txt n))/\Below w.heap.size w w':=by
 have HF:=Lh (show Calls Tryz.prog 64 #[Ji Jl n] w (fun e w'=>e= .returned (Js (txt n))/\Below w.heap.size w w')from UA n w hn);obtain⟨T,hT⟩:∃T,txt n=T:=⟨_,rfl⟩;rw[hT]at HF ⊢;clear hT;go_enter Tryz.func34,Tryz.ntmps34;go_wp2_with fail
 refine HF.out.mono ?_;rintro e w1⟨rfl,h1⟩;have K1:=Lh h1;clear h1;go_wp2;go_ret;exact⟨rfl,K1.out⟩
theorem RS.n5{s:ByteArray}{q:Rat}(h:RS s q):(txt q.num).size<=100/\(txt (q.den:Int)).size<=100:=by
 refine⟨by have:=h.nsz;omega,?_⟩;by_cases hd:q.den=1
 ·rw[hd,show txt ((1:Nat):Int)=⟨#[49]⟩from V9];decide
 ·have:=h.dsz hd;omega
