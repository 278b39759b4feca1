/- E02: RatQ ChkA -/
import Derived.Test.YthhobhjcnmmipaaGreatDoorE01
set_option maxRecDepth 100000
set_option maxHeartbeats 16000000
namespace Go.Proofs.YthhobhjcnmmipaaGreatDoor
open Go.Value renaming pointer→Jp,int→Ji,string→Js
open Go.IntKind renaming i64→Jl
open Go.Obj renaming cells→Jc
open Go renaming World→JW
open Go.RowKit.Below renaming refl→T3
open _root_.Nat renaming le_refl→T4,zero_le→T8,gcd→Ts
open _root_.List renaming mem_cons_self→T5,mem_cons_of_mem→T6
open _root_.ByteArray renaming ext→T7,data_extract→T9,data_append→Tr
open Go.RowKit
theorem MR:∀l:List UInt8,(∀c∈l,c≠47)->Lib.indexByte l 47=-1
 | [],_=>rfl
 | b :: l,h=>by
  have h1:=MR l (fun c hc=>h c (T6 _ hc));have h2:(b ==47)=false:=by rw[beq_eq_false_iff_ne];exact h b (T5 ..)
  unfold Lib.indexByte;rw[h2,h1];rfl
theorem MQ:∀(l m:List UInt8),(∀c∈l,c≠47)->Lib.indexByte (l ++ 47 :: m) 47=(l.length:Int)
 | [],m,_=>by simp[Lib.indexByte]
 | b :: l,m,h=>by
  have h1:=MQ l m (fun c hc=>h c (T6 _ hc));have h2:(b ==47)=false:=by rw[beq_eq_false_iff_ne];exact h b (T5 ..)
  have h3:((l.length:Int) == -1)=false:=by rw[beq_eq_false_iff_ne];omega
  rw[List.cons_append];unfold Lib.indexByte;rw[h2,h1,h3];simp
theorem MA{p:UInt8->Bool}{x:UInt8}:∀l:List UInt8,x∈l->p x=false->x∈l.dropWhile p
 | [],h,_=>by cases h
 | b :: l,h,hp=>by
  rw[List.dropWhile_cons]
  split
  ·rename_i hb
   rcases List.mem_cons.1 h with rfl|h1
   ·rw[hp]at hb;cases hb
   ·exact MA l h1 hp
  ·exact h
theorem MW{l:List UInt8}{x:UInt8}(h:x∈l)(hx:x≠48):Lib.trimB l 48≠[]:=by
 have hp:(x ==48)=false:=by rw[beq_eq_false_iff_ne];exact hx
 have h1:x∈Lib.trimRightB l 48:=List.mem_reverse.2 (MA (p:=(· ==48)) _ (List.mem_reverse.2 h) hp);have h2:x∈Lib.trimB l 48:=MA (p:=(· ==48)) _ h1 hp;intro e;rw[e]at h2;cases h2
theorem MD(s:ByteArray):(⟨(Lib.trimPrefix s.data.toList [45]).toArray⟩:ByteArray)=QD s:=by
 apply T7;apply Array.toList_inj.1;unfold Lib.trimPrefix Lib.hasPrefix QD XU;cases hl:s.data.toList with
 | nil=>simp[hl]
 | cons c l=>
  by_cases hc:c=45
  ·subst hc;have hlen:=UB s;rw[hl,List.length_cons]at hlen;simp[hl];rw[List.take_of_length_le (by omega)]
  ·have h1:((45:UInt8) ==c)=false:=by rw[beq_eq_false_iff_ne];exact fun e=>hc e.symm
   have h2:(some c ==some (45:UInt8))=false:=by rw[beq_eq_false_iff_ne];intro e;injection e with e;exact hc e
   simp[List.isPrefixOf,h1,hc,hl]
theorem Mw(s:ByteArray)(w:JW)(hs:s.size<=9223372036854775807) :
  Calls Tryz.prog 92 #[Js s] w fun e w'=>e= .returned (.bool (Yu s.data.toList && decide (0<s.size)))/\w=w':=by
 go_enter Tryz.func92,Tryz.ntmps92;go_wp2_with fail
 go_loop [6] (fun i=>∃k:Nat,k<=s.size/\i=Ji Jl k/\Yu (s.data.toList.take k)=true) (fun i=>s.size-(intOf i).toNat)
 case atStart=>exact⟨0,T8 _,rfl,rfl⟩
 case round=>
  obtain⟨k,hk,rfl,hd⟩:=hrel;have Hd:=Lh hd;clear hd;by_cases hlt:k<s.size
  ·have Hat:=Lh (Ev hlt);obtain⟨x,hx⟩:∃x,(s[k]).toNat=x:=⟨_,rfl⟩;have Hx:=Lh hx;by_cases h1:x<48
   ·have hf:Yu s.data.toList=false:=MB Hat.out (by unfold XV;rw[Hx.out];simp;omega);go_wp2;all_goals go_ret
    all_goals simp
   ·by_cases h2:57<x
    ·have hf:Yu s.data.toList=false:=MB Hat.out (by unfold XV;rw[Hx.out];simp;omega);go_wp2;all_goals go_ret
     all_goals simp
    ·have hf:=Lh (MN Hat.out (by unfold XV;rw[Hx.out];simp;omega) Hd.out);go_wp2;go_round
     case rel=>exact⟨k+1,by omega,by go_num,hf.out⟩
     case measure=>simp[intOf];omega
  ·have e:k=s.size:=by omega
   have hall:Yu s.data.toList=true:=by
    have:=Hd.out;rw[e,←UB,List.take_length]at this;exact this
   go_wp2;go_ret;simp
theorem Rt(S:ByteArray)(h:∀c∈S.data.toList,c≠47)(w:JW) :
  Calls Tryz.prog 120 #[Js S,Js ⟨#[47]⟩] w fun e w'=>e= .returned (.tuple #[Js S,Js ⟨#[]⟩,.bool false])/\w=w':=by
 have HI:=Lh (fun w=>Tryz.stringslite_Index_one S 47 w);rw[MR _ h]at HI;clear h;go_enter Tryz.func120,Tryz.ntmps120;go_wp2_with fail
 refine(HI.out _).mono ?_;rintro e w1⟨rfl,rfl⟩;go_wp2;go_ret3
 exact⟨rfl,rfl⟩
theorem H6(S:ByteArray)(h:∀c∈S.data.toList,c≠47)(w:JW) :
  Calls Tryz.prog 91 #[Js S,Js ⟨#[47]⟩] w fun e w'=>e= .returned (.tuple #[Js S,Js ⟨#[]⟩,.bool false])/\w=w':=by
 have HI:=Lh (fun w=>Rt S h w);clear h;go_enter Tryz.func91,Tryz.ntmps91;go_wp2_with fail
 refine(HI.out _).mono ?_;rintro e w1⟨rfl,rfl⟩;go_wp2;go_ret3
 exact⟨rfl,rfl⟩
theorem Rs(T U:ByteArray)(h:∀c∈T.data.toList,c≠47)(w:JW)(hs:T.size<=5000)(ht:U.size<=5000) :
  Calls Tryz.prog 120 #[Js (T ++ ⟨#[47]⟩ ++ U),Js ⟨#[47]⟩] w fun e w'=>e= .returned (.tuple #[Js T,Js U,.bool true])/\Below w.heap.size w w':=by
 have hsz:=MI T U;have hdata:(T ++ ⟨#[47]⟩ ++ U).data.toList=T.data.toList ++ 47 :: U.data.toList:=by simp[Tr]
 have HI:=Lh (fun w=>Tryz.stringslite_Index_one (T ++ ⟨#[47]⟩ ++ U) 47 w);rw[hdata,MQ _ _ h,UB]at HI;have hl:=RF T U;have hr:=Rr T U;obtain⟨S,hS⟩:∃S,T ++ ⟨#[47]⟩ ++ U=S:=⟨_,rfl⟩;rw[hS]at hl hr hsz HI ⊢;have hle:T.size<=S.size:=by omega
 have hle1:T.size+1<=S.size:=by omega
 have hS5:S.size<=10001:=by omega
 clear hdata hS hsz h;go_enter Tryz.func120,Tryz.ntmps120;go_wp2_with fail
 refine(HI.out _).mono ?_;rintro e w1⟨rfl,rfl⟩;go_wp2_with fail
 go_region
 all_goals
  go_wp2;go_ret3
  exact⟨rfl,(T3 _ _).drew⟩
theorem H5(T U:ByteArray)(h:∀c∈T.data.toList,c≠47)(w:JW)(hs:T.size<=5000)(ht:U.size<=5000) :
  Calls Tryz.prog 91 #[Js (T ++ ⟨#[47]⟩ ++ U),Js ⟨#[47]⟩] w fun e w'=>e= .returned (.tuple #[Js T,Js U,.bool true])/\Below w.heap.size w w':=by
 have HI:=Lh (fun w=>Rs T U h w hs ht);obtain⟨S,hS⟩:∃S,T ++ ⟨#[47]⟩ ++ U=S:=⟨_,rfl⟩;rw[hS]at HI ⊢;clear hS h;go_enter Tryz.func91,Tryz.ntmps91;go_wp2_with fail
 refine(HI.out _).mono ?_;rintro e w1⟨rfl,h1⟩;have K1:=Lh h1;clear h1;go_wp2;go_ret3
 exact⟨rfl,K1.out⟩
theorem M3(s:ByteArray)(w:JW)(hs:s.size<=9223372036854775807) :
  Calls Tryz.prog 94 #[Js s,Js ⟨#[48]⟩] w fun e w'=>e= .returned (Js ⟨(Lib.trimB s.data.toList 48).toArray⟩)/\Below w.heap.size w w':=
 (Tryz.strings_Trim_one s 48 (by decide) w hs).mono fun e w' ⟨h1,h2⟩=>⟨h1,by
  rcases h2 with rfl|rfl
  ·exact T3 _ _
  ·exact (T3 _ _).drew⟩
theorem ML(s:ByteArray)(z:Int)(w:JW)(hs:s.size<=1300)(h0:Tx s z) :
  Calls Tryz.prog 95 #[Js s] w fun e w'=>∃a P,e= .returned (.tuple #[.agg #[Ji Jl a,Jp P],Ji Jl 0])/\Jj 0 w' (.agg #[Ji Jl a,Jp P]) z/\Below w.heap.size w w':=by
 refine(MF s w hs).mono ?_;rintro e w' ⟨v,rfl,h1,_,h2⟩;obtain⟨a,P,rfl⟩:=(h1 h0.1).form;exact⟨a,P,by rw[h0.1],by have h3:=(h1 h0.1).mono (T8 _);have h4:Jx (XU s) (decV (QD s).data.toList)=z:=h0.2;rwa [h4]at h3,h2⟩
theorem MG{s:ByteArray}(h:UM s=0):Yu (QD s).data.toList=true/\0<(QD s).size:=by
 obtain⟨e1,e2,_,_⟩:=OU (s:=s) rfl;refine⟨?_,?_⟩
 ·cases hb:Yu (QD s).data.toList
  ·rw[e2 hb]at h;cases h
  ·rfl
 ·rcases Nat.eq_zero_or_pos (QD s).size with h0|h0
  ·rw[e1 h0]at h;cases h
  ·exact h0
theorem Ry{s:ByteArray}{z:Int}(h:Tx s z)(hz:0<z):QD s=s/\∃x∈s.data.toList,x≠48:=by
 have hn:XU s=false:=by
  cases hn:XU s
  ·rfl
  ·exfalso;have:=h.2;unfold zOf Jx at this;rw[hn]at this;simp at this;omega
 have hb:QD s=s:=by unfold QD;rw[hn];rfl
 refine⟨hb,?_⟩;obtain⟨hd,h0⟩:=MG h.1;rw[hb]at hd h0;cases hl:s.data.toList with
 | nil=>have:=UB s;rw[hl]at this;simp at this;omega
 | cons c l=>
  by_cases hc:c=48
  ·exfalso;have hlead:XT s=true:=by unfold XT;rw[hl,hc];rfl
   have hone:s.size=1:=by
    rcases Nat.lt_or_ge 1 s.size with h1|h1
    ·have:=(OU hb).2.2.1 hd h0 hlead (.inl h1);rw[h.1]at this;cases this
    ·omega
   have hl2:l=[]:=by
    have:=UB s;rw[hl,hone]at this;simpa using this
   have hs:s=⟨#[48]⟩:=by
    apply T7;apply Array.toList_inj.1;rw[hl,hc,hl2]
   have h3:=(Ka z).2;rw[h.txt,hs]at h3;have h4:dval (dl [48])=0:=by decide +kernel
   have h5:dval (dl (⟨#[48]⟩:ByteArray).data.toList)=0:=h4;omega
  ·exact⟨c,T5 ..,hc⟩
theorem Rl(q:Rat)(most:Nat)(w:JW)(hd:q.den=1)(hT:Tx (txt q.num) q.num)(hs:(txt q.num).size<=1250)(hm:(txt q.num).size<=most)(_hm2:most<=1000000000) :
  Calls Tryz.prog 61 #[Js (txt q.num),Ji Jl (most:Nat)] w (Made q w):=by
 have HC:=Lh (fun w=>H6 _ (Ui q.num) w);obtain⟨b1,b2⟩:=MG hT.1;have HTr:=Lh (fun w=>Tryz.strings_TrimPrefix (txt q.num) ⟨#[45]⟩ w);rw[show(⟨#[45]⟩:ByteArray).data.toList=[45]from rfl,MD]at HTr;obtain⟨d,hdd⟩:∃d,QD (txt q.num)=d:=⟨_,rfl⟩;rw[hdd]at b1 b2 HTr;have HP:=Lh (fun w=>ML (txt q.num) q.num w (by omega) hT);have hds:d.size<=1250:=by
  rw[←hdd];unfold QD
  split
  ·rw[ZB];omega
  ·omega
 have HD:=Lh (fun w=>Mw d w (by omega));rw[b1,decide_eq_true b2]at HD;obtain⟨S,hS⟩:∃S,txt q.num=S:=⟨_,rfl⟩;rw[hS]at HC HTr HP hs hm ⊢;have R:=Lh (Jh.new w #[Ji Jl 0,Jp none,Ji Jl 0,Jp none] 31);have Kk:=Lh ((T3 w.heap.size w).alloc (T4 _) (Jc #[Ji Jl 0,Jp none,Ji Jl 0,Jp none] 31));have Hd1:=Lh hd;have hmI:(S.size:Int)<=(most:Int):=by omega
 clear hdd hS b1 b2 hT hd hds;go_enter Tryz.func61,Tryz.ntmps61;go_wp2_with fail
 refine(HC.out _).mono ?_;rintro e w1⟨rfl,rfl⟩;go_wp2_with fail
 refine(HTr.out _).mono ?_;rintro e w1⟨rfl,rfl⟩;go_wp2_with fail
 refine(HD.out _).mono ?_;rintro e w1⟨rfl,rfl⟩;go_wp2_with fail
 refine(HP.out _).mono ?_;rintro e w1⟨a,P,rfl,hi,h1⟩;have kv:=(T3 w1.heap.size w1).alloc (T4 _) (Jc #[Ji Jl a,Jp P] 29);have R:=Lh ((R.out.keep h1).keep kv);have Hi:=Lh (hi.keep kv);have K1:=Lh (Jd (Jd Kk.out h1) kv);obtain⟨wx,hwx⟩:∃u,w1.alloc (Jc #[Ji Jl a,Jp P] 29)=u:=⟨_,rfl⟩;have V:=Lh (Var.new hi);rw[hwx]at R Hi K1 V;obtain⟨pv,hpv⟩:∃p,w1.heap.size=p:=⟨_,rfl⟩;rw[hpv]at V;have c0:=V.out.c0;have c1:=V.out.c1;clear hi h1 kv;have k0:=R.out.c0;have k1:=R.out.c1;have k2:=R.out.c2;have k3:=R.out.c3;have f0:=R.out.fz 0;have f1:=R.out.fz 1;have f2:=R.out.fz 2;have f3:=R.out.fz 3;have HN:=Lh (Hi.out.wrote R.out (by rfl) (Jk _ w.heap.size (Ji Jl a) (Jp P) (Ji Jl 0) (Jp none)).1 (Jk _ _ _ _ _ _).2);have K2:=Lh (JC K1.out (T4 w.heap.size) (Ji Jl a) (Jp P) (Ji Jl 0) (Jp none));go_wp2;exact bodyPost_ret (v:= .tuple #[.agg #[Ji Jl a,Jp P,Ji Jl 0,Jp none],Ji Jl 0]) (by simp[results,Tryz.results61,go_sem,k0,k1,k2,k3]) rfl ⟨a,P,0,none,rfl,⟨HN.out,by rw[Hd1.out,Oq];exact QH ⟨by decide,by decide⟩⟩,K2.out⟩
theorem Rd(q:Rat)(most:Nat)(w:JW)(hd:q.den≠1)(hT:Tx (txt q.num) q.num)(hU:Tx (txt (q.den:Int)) (q.den:Int))(hs:(txt q.num).size<=1250)(ht:(txt (q.den:Int)).size<=1250)(hbn:q.num.natAbs<base 390)(hbd:((q.den:Nat):Int).natAbs<base 390)(hm:(txt q.num ++ ⟨#[47]⟩ ++ txt (q.den:Int)).size<=most)(_hm2:most<=1000000000)(hg:Good w) :
  Calls Tryz.prog 61 #[Js (txt q.num ++ ⟨#[47]⟩ ++ txt (q.den:Int)),Ji Jl (most:Nat)] w (Made q w):=by
 have HC:=Lh (fun w=>H5 _ (txt q.den) (Ui q.num) w (by omega) (by omega));obtain⟨b1,b2⟩:=MG hT.1;obtain⟨b3,b4⟩:=MG hU.1;have hdp:=q.den_pos;obtain⟨hbod,x,hx,hx48⟩:=Ry hU (by omega);rw[hbod]at b3 b4;have HTr:=Lh (fun w=>Tryz.strings_TrimPrefix (txt q.num) ⟨#[45]⟩ w);rw[show(⟨#[45]⟩:ByteArray).data.toList=[45]from rfl,MD]at HTr;have HZ:=Lh (fun w=>M3 (txt (q.den:Int)) w (by omega));obtain⟨X,hX⟩:∃X:ByteArray,⟨(Lib.trimB (txt (q.den:Int)).data.toList 48).toArray⟩=X:=⟨_,rfl⟩;have hXne:X.toList≠[]:=by
  rw[←hX,ByteArray.toList_eq];exact MW hx hx48
 rw[hX]at HZ;have tX:(X.toList == [])=false:=by rw[beq_eq_false_iff_ne];exact hXne
 have tX2:X.toList.isEmpty=false:=by rw[List.isEmpty_eq_false_iff];exact hXne
 obtain⟨d,hdd⟩:∃d,QD (txt q.num)=d:=⟨_,rfl⟩;rw[hdd]at b1 b2 HTr;have HP:=Lh (fun w=>ML (txt q.num) q.num w (by omega) hT);have HQ:=Lh (fun w=>ML (txt (q.den:Int)) q.den w (by omega) hU);have hds:d.size<=1250:=by
  rw[←hdd];unfold QD
  split
  ·rw[ZB];omega
  ·omega
 have HD:=Lh (fun w=>Mw d w (by omega));have HE:=Lh (fun w=>Mw (txt (q.den:Int)) w (by omega));rw[b1,decide_eq_true b2]at HD;rw[b3,decide_eq_true b4]at HE;have Hg:=Lh (fun w' (hb:Below w.heap.size w w')=>hg.below hb);obtain⟨S,hS⟩:∃S,txt q.num=S:=⟨_,rfl⟩;obtain⟨U,hUU⟩:∃U,txt (q.den:Int)=U:=⟨_,rfl⟩;rw[hS,hUU]at HC hm ⊢;rw[hS]at HTr HP;rw[hUU]at HQ HZ HE;obtain⟨Y,hY⟩:∃Y,S ++ ⟨#[47]⟩ ++ U=Y:=⟨_,rfl⟩;rw[hY]at HC hm ⊢;have R:=Lh (Jh.new w #[Ji Jl 0,Jp none,Ji Jl 0,Jp none] 31);have Kk:=Lh ((T3 w.heap.size w).alloc (T4 _) (Jc #[Ji Jl 0,Jp none,Ji Jl 0,Jp none] 31));have Hd1:=Lh hd;have Hred:=Lh (show Ts q.num.natAbs ((q.den:Nat):Int).natAbs=1 by rw[Int.natAbs_natCast];exact q.reduced);have Lz:=Lh hbn;have Lk:=Lh hbd;have hmI:(Y.size:Int)<=(most:Int):=by omega
 clear hdd hS hUU hX hXne hY b1 b2 b3 b4 hT hU hd hds hbn hbd hbod hx hx48 hdp hg hs ht;go_enter Tryz.func61,Tryz.ntmps61;go_wp2_with fail
 refine(HC.out _).mono ?_;rintro e w1⟨rfl,h1⟩;have R:=Lh (R.out.keep h1);have K1:=Lh (Jd Kk.out h1);clear h1;go_wp2_with fail
 refine(HTr.out _).mono ?_;rintro e w2⟨rfl,rfl⟩;go_wp2_with fail
 refine(HD.out _).mono ?_;rintro e w2⟨rfl,rfl⟩;go_wp2_with fail
 refine(HE.out _).mono ?_;rintro e w2⟨rfl,rfl⟩;go_wp2_with fail
 refine(HZ.out _).mono ?_;rintro e w3⟨rfl,h3⟩;have R:=Lh (R.out.keep h3);have K3:=Lh (Jd K1.out h3);clear h3;go_wp2_with fail
 refine(HP.out _).mono ?_;rintro e w4⟨a,P,rfl,hi,h1⟩;have kv:=(T3 w4.heap.size w4).alloc (T4 _) (Jc #[Ji Jl a,Jp P] 29);have R:=Lh ((R.out.keep h1).keep kv);have V:=Lh (Var.new hi);have K4:=Lh (Jd (Jd K3.out h1) kv);obtain⟨wx,hwx⟩:∃u,w4.alloc (Jc #[Ji Jl a,Jp P] 29)=u:=⟨_,rfl⟩;rw[hwx]at R K4 V;obtain⟨pv,hpv⟩:∃p,w4.heap.size=p:=⟨_,rfl⟩;rw[hpv]at V;clear hi h1 kv;go_wp2_with fail
 try simp only[hwx,hpv]
 refine(HQ.out _).mono ?_;rintro e w5⟨b,Q,rfl,hi,h1⟩;have kv:=(T3 w5.heap.size w5).alloc (T4 _) (Jc #[Ji Jl b,Jp Q] 29);have R:=Lh ((R.out.keep h1).keep kv);have V:=Lh ((V.out.keep h1).keep kv);have U1:=Lh (Var.new hi);have K5:=Lh (Jd (Jd K4.out h1) kv);obtain⟨wy,hwy⟩:∃u,w5.alloc (Jc #[Ji Jl b,Jp Q] 29)=u:=⟨_,rfl⟩;rw[hwy]at R K5 V U1;obtain⟨pu,hpu⟩:∃p,w5.heap.size=p:=⟨_,rfl⟩;rw[hpu]at U1;clear hi h1 kv hwx hpv;have HO:=Lh (VK b Q (q.den:Int) wy U1.out.int);rw[show decide ((q.den:Int)=1)=false from decide_eq_false (by have:=Hd1.out;omega)]at HO;have c0:=U1.out.c0;have c1:=U1.out.c1;go_wp2_with fail
 try simp only[hwy,hpu]
 refine HO.out.mono ?_;rintro e w6⟨rfl,h1⟩;have R:=Lh (R.out.keep h1);have V:=Lh (V.out.keep h1);have U1:=Lh (U1.out.keep h1);have K6:=Lh (Jd K5.out h1);clear h1 hwy hpu c0 c1;have HG:=Lh (YC a b P Q q.num (q.den:Int) w6 V.out.int U1.out.int (Jq Lz.out (by decide)) (Jq Lk.out (by decide)) (Hg.out _ K6.out).2 (Nat.lt_of_le_of_lt (T8 _) V.out.lt));rw[Hred.out]at HG;have c0:=V.out.c0;have c1:=V.out.c1;have d0:=U1.out.c0;have d1:=U1.out.c1;go_wp2_with fail
 refine HG.out.mono ?_;rintro e w7⟨ga,gP,rfl,hgi,h1⟩;have R:=Lh (R.out.keep h1);have V:=Lh (V.out.keep h1);have U1:=Lh (U1.out.keep h1);have K7:=Lh (Jd K6.out h1);have HO:=Lh (VK ga gP _ w7 hgi);rw[show decide (((1:Nat):Int)=1)=true from rfl]at HO;clear h1 hgi c0 c1 d0 d1;go_wp2_with fail
 refine HO.out.mono ?_;rintro e w8⟨rfl,h1⟩;have R:=Lh (R.out.keep h1);have V:=Lh (V.out.keep h1);have U1:=Lh (U1.out.keep h1);have K8:=Lh (Jd K7.out h1);clear h1;have c0:=V.out.c0;have c1:=V.out.c1;have d0:=U1.out.c0;have d1:=U1.out.c1;have k0:=R.out.c0;have k1:=R.out.c1;have k2:=R.out.c2;have k3:=R.out.c3;have f0:=R.out.fz 0;have f1:=R.out.fz 1;have f2:=R.out.fz 2;have f3:=R.out.fz 3;have HN:=Lh (V.out.int.wrote R.out (by rfl) (Jk _ w.heap.size (Ji Jl a) (Jp P) (Ji Jl b) (Jp Q)).1 (Jk _ _ _ _ _ _).2);have HM:=Lh (U1.out.int.wrote R.out (by rfl) (Jk _ w.heap.size (Ji Jl a) (Jp P) (Ji Jl b) (Jp Q)).1 (Jk _ _ _ _ _ _).2);have K9:=Lh (JC K8.out (T4 w.heap.size) (Ji Jl a) (Jp P) (Ji Jl b) (Jp Q));go_wp2;exact bodyPost_ret (v:= .tuple #[.agg #[Ji Jl a,Jp P,Ji Jl b,Jp Q],Ji Jl 0]) (by simp[results,Tryz.results61,go_sem,k0,k1,k2,k3]) rfl ⟨a,P,b,Q,rfl,⟨HN.out,by rw[UO Hd1.out];exact HM.out⟩,K9.out⟩
theorem MU(s:ByteArray):s.extract 0 s.size=s:=by
 apply T7;simp
def RQ(s num den:ByteArray)(f:Bool):Prop:=(f=false/\Xq s=s.size/\num=s/\den=⟨#[49]⟩)\/(f=true/\Xq s<s.size/\s=num ++ ⟨#[47]⟩ ++ den)
theorem RO(s:ByteArray):RQ s (numR s) (denR s) (EV s)/\∀c∈(numR s).data.toList,c≠47:=by
 refine⟨?_,fun c hc=>?_⟩
 ·unfold numR denR EV;have hle:=H8 s;by_cases h:Xq s<s.size
  ·rw[if_pos h,decide_eq_true h];exact .inr ⟨rfl,h,M4 h⟩
  ·have e:Xq s=s.size:=by omega
   rw[if_neg h,decide_eq_false h,e,MU];exact .inl ⟨rfl,e,rfl,rfl⟩
 ·have e2:(numR s).data.toList=s.data.toList.take (Xq s):=by unfold numR;simp[T9]
  rw[e2]at hc;obtain⟨i,hi,rfl⟩:=List.getElem_of_mem hc;rw[List.length_take]at hi;have:=List.not_of_lt_findIdx (p:=(· ==47)) (xs:=s.data.toList) (i:=i) (by unfold Xq at hi;omega);rw[List.getElem_take];simpa using this
theorem M0{num den:ByteArray}{f:Bool}(h:digs (QD num)=false\/digs den=false):(14:Int)=errP num den f:=by
 unfold errP;rw[if_pos h]
theorem RN{num den:ByteArray}{f:Bool}(h1:digs (QD num)=true)(h2:digs den=true)(h3:El den.data.toList=true):(19:Int)=errP num den f:=by
 unfold errP;rw[if_neg (by rw[h1,h2];simp),if_pos h3]
theorem MS{num den:ByteArray}{f:Bool}(h1:digs (QD num)=true)(h2:digs den=true)(h3:El den.data.toList=false)(h:UM num≠0\/XT den=true\/(f=true/\(zOf den=1\/Ts (zOf num).natAbs (zOf den).natAbs≠1))):(3:Int)=errP num den f:=by
 unfold errP;rw[if_neg (by rw[h1,h2];simp),if_neg (by rw[h3];simp),if_pos h]
theorem RD{num den:ByteArray}{f:Bool}(h1:digs (QD num)=true)(h2:digs den=true)(h3:El den.data.toList=false)(h4:UM num=0)(h5:XT den=false)(h:f=false\/(zOf den≠1/\Ts (zOf num).natAbs (zOf den).natAbs=1)):(0:Int)=errP num den f:=by
 unfold errP;rw[if_neg (by rw[h1,h2];simp),if_neg (by rw[h3];simp),if_neg];rintro(h6|h6|⟨h6,h7⟩)
 ·exact h6 h4
 ·rw[h5]at h6;cases h6
 ·rcases h with h|⟨h8,h9⟩
  ·rw[h]at h6;cases h6
  ·exact h7.elim h8 (fun h=>h h9)
theorem Re{num d:ByteArray}(hb:QD num=d)(hd:digs d=true)(hl:XT d=true)(h:1<d.size\/1<num.size):UM num≠0:=by
 obtain⟨h1,h2⟩:=Mz hd;rw[(OU hb).2.2.1 h1 h2 hl h]
 decide
