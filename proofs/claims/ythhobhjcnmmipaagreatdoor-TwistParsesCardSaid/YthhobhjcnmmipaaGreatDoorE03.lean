/- E03: Chk Lists2 -/
import Derived.Test.YthhobhjcnmmipaaGreatDoorE02
import Derived.Test.YthhobhjcnmmipaaGreatDoorE01
set_option maxRecDepth 100000
set_option maxHeartbeats 16000000
namespace Go.Proofs.YthhobhjcnmmipaaGreatDoor
open Go.Value renaming pointer→Jp,int→Ji,string→Js,agg→Ja
open Go.IntKind renaming i64→Jl
open Go.Obj renaming cells→Jc
open _root_.Option renaming none→Jn
open Go renaming World→JW
open _root_.Nat renaming le_refl→T3,lt_of_lt_of_le→T4,zero_le→T6,gcd→T7
open Go.RowKit.Below renaming refl→T5
open Go.RowKit
def Tp(a:Int)(P:Option Addr)(b:Int)(Q:Option Addr)(E:Int)(_:JW):Prop:=E=5/\a=0/\P=Jn/\b=0/\Q=Jn
theorem FE.err{s num den:ByteArray}{f:Bool}{E:Int}{w w':JW}(hR:errR s=errP num den f)(hE:E=errP num den f)(h0:E≠0)(h:Below w.heap.size w w'):RetE (FE s) w (.returned (.tuple #[Ja #[Ji Jl 0,Jp Jn,Ji Jl 0,Jp Jn],Ji Jl E])) w':=
 ⟨0,Jn,0,Jn,E,rfl,⟨by rw[hR,←hE],fun h1=>absurd h1 h0,fun _=>⟨rfl,rfl,rfl,rfl⟩⟩,h⟩
theorem FE.err0{s num den:ByteArray}{f:Bool}{a E:Int}{P:Option Addr}{w w':JW}(hR:errR s=errP num den f)(hE:E=errP num den f)(h0:E≠0)(ha:a=0)(hP:P=Jn)(h:Below w.heap.size w w'):RetE (FE s) w (.returned (.tuple #[Ja #[Ji Jl a,Jp P,Ji Jl 0,Jp Jn],Ji Jl E])) w':=by
 subst ha;subst hP;exact FE.err hR hE h0 h
theorem MM{s:ByteArray}(h:digs (QD s)=true):UM s=0\/UM s=3:=by
 obtain⟨h1,h2⟩:=Mz h;by_cases h3:XT (QD s)=true/\(1<(QD s).size\/1<s.size)
 ·exact .inr ((OU rfl).2.2.1 h1 h2 h3.1 h3.2)
 ·exact .inl ((OU rfl).2.2.2 h1 h2 h3)
theorem Rp{d:ByteArray}(h:digs d=true)(_hz:El d.data.toList=false):UM d≠0->XT d=true:=by
 intro h0;obtain⟨h1,h2⟩:=Mz h;cases hl:XT d
 ·exact absurd (HW h1 h2 hl).1 h0
 ·rfl
theorem HJ{p:UInt8->Bool}:∀l:List UInt8,(∀x∈l,p x=true)->l.dropWhile p=[]
 | [],_=>rfl
 | b :: l,h=>by
  rw[List.dropWhile_cons,if_pos (h b (List.mem_cons_self ..))];exact HJ l fun x hx=>h x (List.mem_cons_of_mem _ hx)
theorem Rh{l:List UInt8}(h:El l=true):Lib.trimB l 48=[]:=by
 have h1:Lib.trimRightB l 48=[]:=by
  unfold Lib.trimRightB;rw[List.reverse_eq_nil_iff];refine HJ _ (fun x hx=>?_);unfold El at h;rw[List.all_eq_true]at h;exact h x (List.mem_reverse.1 hx)
 unfold Lib.trimB;rw[h1];rfl
theorem MK{l:List UInt8}(h:El l=false):∃x∈l,x≠48:=by
 unfold El at h;rw[List.all_eq_false]at h;obtain⟨x,h1,h2⟩:=h;exact⟨x,h1,by simpa using h2⟩
theorem RA(s:ByteArray)(most:Nat)(w:JW)(hs:s.size<=500)(hm:s.size<=most)(_hm2:most<=1000000000)(hno:∀c∈s.data.toList,c≠47)(hR:errR s=errP s ⟨#[49]⟩ false)(h0:errR s≠0) :
  Calls Tryz.prog 61 #[Js s,Ji Jl (most:Nat)] w (RetE (FE s) w):=by
 have HC:=Lh (fun w=>H6 s hno w);have HTr:=Lh (fun w=>Tryz.strings_TrimPrefix s ⟨#[45]⟩ w);rw[show(⟨#[45]⟩:ByteArray).data.toList=[45]from rfl,MD]at HTr;obtain⟨d,hdd⟩:∃d,QD s=d:=⟨_,rfl⟩;have hds:d.size<=500:=by
  rw[←hdd];unfold QD
  split
  ·rw[ZB];omega
  ·omega
 have Htwo:=Lh (@MM s);rw[hdd]at HTr Htwo;have Hdd:=Lh hdd;have HD:=Lh (fun w=>Mw d w (by omega));have HP:=Lh (fun w=>MF s w (by omega));have R:=Lh (Jh.new w #[Ji Jl 0,Jp Jn,Ji Jl 0,Jp Jn] 31);have Kk:=Lh ((T5 w.heap.size w).alloc (T3 _) (Jc #[Ji Jl 0,Jp Jn,Ji Jl 0,Jp Jn] 31));obtain⟨b1,hb1⟩:∃b,digs d=b:=⟨_,rfl⟩;rw[show(Yu d.data.toList && decide (0<d.size))=digs d from rfl,hb1]at HD;have Hb1:=Lh hb1;have HR:=Lh hR;have H0:=Lh h0;have hmI:(s.size:Int)<=(most:Int):=by omega
 clear hdd hb1 hno hR h0 hds;go_enter Tryz.func61,Tryz.ntmps61;go_wp2_with fail
 refine(HC.out _).mono ?_;rintro e w1⟨rfl,rfl⟩;go_wp2_with fail
 refine(HTr.out _).mono ?_;rintro e w1⟨rfl,rfl⟩;go_wp2_with fail
 refine(HD.out _).mono ?_;rintro e w1⟨rfl,rfl⟩;have k0:=R.out.c0;have k1:=R.out.c1;have k2:=R.out.c2;have k3:=R.out.c3;cases b1 with
 | false=>
  go_wp2;exact bodyPost_ret (v:= .tuple #[Ja #[Ji Jl 0,Jp Jn,Ji Jl 0,Jp Jn],Ji Jl 14]) (by simp[results,Tryz.results61,go_sem,k0,k1,k2,k3]) rfl (FE.err HR.out (M0 (.inl (by rw[Hdd.out];exact Hb1.out))) (by decide) Kk.out)
 | true=>
  clear k0 k1 k2 k3;go_wp2_with fail
  refine(HP.out _).mono ?_;rintro e w1⟨v,rfl,hi,hn,h1⟩;have he:UM s=3:=by
   rcases Htwo.out Hb1.out with h2|h2
   ·exfalso;apply H0.out;rw[HR.out];exact(RD (by rw[Hdd.out];exact Hb1.out) (by decide +kernel) (by decide +kernel) h2 (by decide +kernel) (.inl rfl)).symm
   ·exact h2
  obtain⟨a,P,rfl,ha,hPn⟩:∃a P,v=Ja #[Ji Jl a,Jp P]/\a=0/\P=Jn:=⟨0,Jn,hn (by rw[he];decide),rfl,rfl⟩;rw[he];have H3:=Lh (MS (f:=false) (by rw[Hdd.out];exact Hb1.out) (show digs ⟨#[49]⟩=true by decide +kernel) (by decide +kernel) (.inl (by rw[he];decide)));have Ha:=Lh ha;have HPn:=Lh hPn;have kv:=(T5 w1.heap.size w1).alloc (T3 _) (Jc #[Ji Jl a,Jp P] 29);have R:=Lh ((R.out.keep h1).keep kv);have K1:=Lh (Jd (Jd Kk.out h1) kv);obtain⟨wx,hwx⟩:∃u,w1.alloc (Jc #[Ji Jl a,Jp P] 29)=u:=⟨_,rfl⟩;have V:=Lh (Jh.new w1 #[Ji Jl a,Jp P] 29);rw[hwx]at R K1 V;obtain⟨pv,hpv⟩:∃p,w1.heap.size=p:=⟨_,rfl⟩;rw[hpv]at V;have c0:=V.out.c0;have c1:=V.out.c1;clear hi hn h1 kv he ha hPn;have k0:=R.out.c0;have k1:=R.out.c1;have k2:=R.out.c2;have k3:=R.out.c3;have f0:=R.out.fz 0;have f1:=R.out.fz 1;have f2:=R.out.fz 2;have f3:=R.out.fz 3;have K2:=Lh (JC K1.out (T3 w.heap.size) (Ji Jl a) (Jp P) (Ji Jl 0) (Jp Jn));go_wp2;exact bodyPost_ret (v:= .tuple #[Ja #[Ji Jl a,Jp P,Ji Jl 0,Jp Jn],Ji Jl 3]) (by simp[results,Tryz.results61,go_sem,k0,k1,k2,k3]) rfl (FE.err0 HR.out H3.out (by decide) Ha.out HPn.out K2.out)
theorem Ru{s:ByteArray}(h:UM s=0)(hs:s.size<=500):(zOf s).natAbs<base 400:=by
 have hl:=@Zp (zOf s);rw[KH h]at hl;exact T4 (Zq _) (Nat.le_trans (QB (show _<=500 by omega)) (by decide +kernel))
theorem Ri(T U:ByteArray)(most:Nat)(w:JW)(hs:(T ++ ⟨#[47]⟩ ++ U).size<=500)(hm:(T ++ ⟨#[47]⟩ ++ U).size<=most)(_hm2:most<=1000000000)(hno:∀c∈T.data.toList,c≠47)(hR:errR (T ++ ⟨#[47]⟩ ++ U)=errP T U true)(h0:errR (T ++ ⟨#[47]⟩ ++ U)≠0)(hg:Good w) :
  Calls Tryz.prog 61 #[Js (T ++ ⟨#[47]⟩ ++ U),Ji Jl (most:Nat)] w (RetE (FE (T ++ ⟨#[47]⟩ ++ U)) w):=by
 have hsz:=MI T U;have HC:=Lh (fun w=>H5 T U hno w (by omega) (by omega));have HTr:=Lh (fun w=>Tryz.strings_TrimPrefix T ⟨#[45]⟩ w);rw[show(⟨#[45]⟩:ByteArray).data.toList=[45]from rfl,MD]at HTr;have HZ:=Lh (fun w=>M3 U w (by omega));obtain⟨X,hX⟩:∃X:ByteArray,⟨(Lib.trimB U.data.toList 48).toArray⟩=X:=⟨_,rfl⟩;have HX:=Lh (show (El U.data.toList=true->X.toList=[])/\(El U.data.toList=false->X.toList≠[]) from ⟨fun h=>by rw [← hX,ByteArray.toList_eq]; exact Rh h,fun h=>by
  obtain⟨x,h1,h2⟩:=MK h;rw[←hX,ByteArray.toList_eq];exact MW h1 h2⟩)
 rw[hX]at HZ;obtain⟨d,hdd⟩:∃d,QD T=d:=⟨_,rfl⟩;have hds:d.size<=500:=by
  rw[←hdd];unfold QD
  split
  ·rw[ZB];omega
  ·omega
 have Htwo:=Lh (@MM T);rw[hdd]at HTr Htwo;have Hdd:=Lh hdd;have HD:=Lh (fun w=>Mw d w (by omega));have HE:=Lh (fun w=>Mw U w (by omega));have HP:=Lh (fun w=>MF T w (by omega));have HQ:=Lh (fun w=>MF U w (by omega));have R:=Lh (Jh.new w #[Ji Jl 0,Jp Jn,Ji Jl 0,Jp Jn] 31);have Kk:=Lh ((T5 w.heap.size w).alloc (T3 _) (Jc #[Ji Jl 0,Jp Jn,Ji Jl 0,Jp Jn] 31));obtain⟨b1,hb1⟩:∃b,digs d=b:=⟨_,rfl⟩;rw[show(Yu d.data.toList && decide (0<d.size))=digs d from rfl,hb1]at HD;have Hb1:=Lh hb1;obtain⟨b2,hb2⟩:∃b,digs U=b:=⟨_,rfl⟩;rw[show(Yu U.data.toList && decide (0<U.size))=digs U from rfl,hb2]at HE;have Hb2:=Lh hb2;have Hg:=Lh (fun w' (hb:Below w.heap.size w w')=>hg.below hb);have Lz:=Lh (fun h=>Ru (s:=T) h (show T.size<=500 by omega));have Lk:=Lh (fun h=>Ru (s:=U) h (show U.size<=500 by omega));obtain⟨Y,hY⟩:∃Y,T ++ ⟨#[47]⟩ ++ U=Y:=⟨_,rfl⟩;rw[hY]at HC hR h0 hm hs ⊢;have HR:=Lh hR;have H0:=Lh h0;have hmI:(Y.size:Int)<=(most:Int):=by omega
 clear hdd hb1 hb2 hno hR h0 hds hX hY hg hsz;go_enter Tryz.func61,Tryz.ntmps61;go_wp2_with fail
 refine(HC.out _).mono ?_;rintro e w1⟨rfl,h1⟩;have R:=Lh (R.out.keep h1);have K1:=Lh (Jd Kk.out h1);clear h1;go_wp2_with fail
 refine(HTr.out _).mono ?_;rintro e w2⟨rfl,rfl⟩;go_wp2_with fail
 refine(HD.out _).mono ?_;rintro e w2⟨rfl,rfl⟩;cases b1 with
 | false=>
  have k0:=R.out.c0;have k1:=R.out.c1;have k2:=R.out.c2;have k3:=R.out.c3;have f0:=R.out.fz 0;have f1:=R.out.fz 1;have f2:=R.out.fz 2;have f3:=R.out.fz 3;have KR:=Lh (JC K1.out (T3 w.heap.size) (Ji Jl 0) (Jp Jn) (Ji Jl 0) (Jp Jn));go_wp2;exact bodyPost_ret (v:= .tuple #[Ja #[Ji Jl 0,Jp Jn,Ji Jl 0,Jp Jn],Ji Jl 14]) (by simp[results,Tryz.results61,go_sem,k0,k1,k2,k3]) rfl (FE.err HR.out (M0 (.inl (by rw[Hdd.out];exact Hb1.out))) (by decide) KR.out)
 | true=>
 go_wp2_with fail
 refine(HE.out _).mono ?_;rintro e w2⟨rfl,rfl⟩;cases b2 with
 | false=>
  have k0:=R.out.c0;have k1:=R.out.c1;have k2:=R.out.c2;have k3:=R.out.c3;have f0:=R.out.fz 0;have f1:=R.out.fz 1;have f2:=R.out.fz 2;have f3:=R.out.fz 3;have KR:=Lh (JC K1.out (T3 w.heap.size) (Ji Jl 0) (Jp Jn) (Ji Jl 0) (Jp Jn));go_wp2;exact bodyPost_ret (v:= .tuple #[Ja #[Ji Jl 0,Jp Jn,Ji Jl 0,Jp Jn],Ji Jl 14]) (by simp[results,Tryz.results61,go_sem,k0,k1,k2,k3]) rfl (FE.err HR.out (M0 (.inr Hb2.out)) (by decide) KR.out)
 | true=>
 go_wp2_with fail
 refine(HZ.out _).mono ?_;rintro e w3⟨rfl,h3⟩;have R:=Lh (R.out.keep h3);have K3:=Lh (Jd K1.out h3);clear h3;cases hb3:El U.data.toList with
 | true=>
  have hX:=HX.out.1 hb3;have tX:(X.toList == [])=true:=by rw[hX];rfl
  have tX2:X.toList.isEmpty=true:=by rw[hX];rfl
  have k0:=R.out.c0;have k1:=R.out.c1;have k2:=R.out.c2;have k3:=R.out.c3;have H3:=Lh (RN (f:=true) (by rw[Hdd.out];exact Hb1.out) Hb2.out hb3);clear hX hb3;have f0:=R.out.fz 0;have f1:=R.out.fz 1;have f2:=R.out.fz 2;have f3:=R.out.fz 3;have KR:=Lh (JC K3.out (T3 w.heap.size) (Ji Jl 0) (Jp Jn) (Ji Jl 0) (Jp Jn));go_wp2;exact bodyPost_ret (v:= .tuple #[Ja #[Ji Jl 0,Jp Jn,Ji Jl 0,Jp Jn],Ji Jl 19]) (by simp[results,Tryz.results61,go_sem,k0,k1,k2,k3]) rfl (FE.err HR.out H3.out (by decide) KR.out)
 | false=>
 have Hb3:=Lh hb3;have hX:=HX.out.2 hb3;have tX:(X.toList == [])=false:=by rw[beq_eq_false_iff_ne];exact hX
 have tX2:X.toList.isEmpty=false:=by rw[List.isEmpty_eq_false_iff];exact hX
 clear hX hb3;go_wp2_with fail
 refine(HP.out _).mono ?_;rintro e w4⟨v,rfl,hi,hn,h1⟩;by_cases he:UM T=3
 ·obtain⟨a,P,rfl,ha,hPn⟩:∃a P,v=Ja #[Ji Jl a,Jp P]/\a=0/\P=Jn:=⟨0,Jn,hn (by rw[he];decide),rfl,rfl⟩;rw[he];have H3:=Lh (MS (f:=true) (by rw[Hdd.out];exact Hb1.out) Hb2.out Hb3.out (.inl (by rw[he];decide)));have Ha:=Lh ha;have HPn:=Lh hPn;have kv:=(T5 w4.heap.size w4).alloc (T3 _) (Jc #[Ji Jl a,Jp P] 29);have R:=Lh ((R.out.keep h1).keep kv);have K4:=Lh (Jd (Jd K3.out h1) kv);obtain⟨wx,hwx⟩:∃u,w4.alloc (Jc #[Ji Jl a,Jp P] 29)=u:=⟨_,rfl⟩;have V:=Lh (Jh.new w4 #[Ji Jl a,Jp P] 29);rw[hwx]at R K4 V;obtain⟨pv,hpv⟩:∃p,w4.heap.size=p:=⟨_,rfl⟩;rw[hpv]at V;have c0:=V.out.c0;have c1:=V.out.c1;clear hi hn h1 kv he tX tX2 ha hPn;have k0:=R.out.c0;have k1:=R.out.c1;have k2:=R.out.c2;have k3:=R.out.c3;have f0:=R.out.fz 0;have f1:=R.out.fz 1;have f2:=R.out.fz 2;have f3:=R.out.fz 3;have K5:=Lh (JC K4.out (T3 w.heap.size) (Ji Jl a) (Jp P) (Ji Jl 0) (Jp Jn));go_wp2;exact bodyPost_ret (v:= .tuple #[Ja #[Ji Jl a,Jp P,Ji Jl 0,Jp Jn],Ji Jl 3]) (by simp[results,Tryz.results61,go_sem,k0,k1,k2,k3]) rfl (FE.err0 HR.out H3.out (by decide) Ha.out HPn.out K5.out)
 have he0:UM T=0:=(Htwo.out Hb1.out).resolve_right he;have hi:=(hi he0).mono (T6 _);rw[he0];obtain⟨a,P,rfl⟩:=hi.form;have He0:=Lh he0;have kv:=(T5 w4.heap.size w4).alloc (T3 _) (Jc #[Ji Jl a,Jp P] 29);have R:=Lh ((R.out.keep h1).keep kv);have V:=Lh (Var.new (z:=zOf T) hi);have K4:=Lh (Jd (Jd K3.out h1) kv);obtain⟨wx,hwx⟩:∃u,w4.alloc (Jc #[Ji Jl a,Jp P] 29)=u:=⟨_,rfl⟩;rw[hwx]at R K4 V;obtain⟨pv,hpv⟩:∃p,w4.heap.size=p:=⟨_,rfl⟩;rw[hpv]at V;clear hi hn h1 kv he he0;go_wp2_with fail
 try simp only[hwx,hpv]
 refine(HQ.out _).mono ?_;rintro e w5⟨v,rfl,hi,hn,h1⟩;by_cases he:UM U=0;case neg=>
  obtain⟨b,Q,rfl⟩:∃b Q,v=Ja #[Ji Jl b,Jp Q]:=⟨0,Jn,hn he⟩;have H3:=Lh (MS (f:=true) (by rw[Hdd.out];exact Hb1.out) Hb2.out Hb3.out (.inr (.inl (Rp Hb2.out Hb3.out he))));have he3:UM U=3:=by
   rcases MM (s:=U) (by have hb:QD U=U:=(by unfold QD;rw[M1 (Mz Hb2.out).1];rfl);rw[hb];exact Hb2.out)with h2|h2
   ·exact absurd h2 he
   ·exact h2
  rw[he3];have kv:=(T5 w5.heap.size w5).alloc (T3 _) (Jc #[Ji Jl b,Jp Q] 29);have R:=Lh ((R.out.keep h1).keep kv);have K5:=Lh (Jd (Jd K4.out h1) kv);obtain⟨wy,hwy⟩:∃u,w5.alloc (Jc #[Ji Jl b,Jp Q] 29)=u:=⟨_,rfl⟩;rw[hwy]at R K5;clear hi hn h1 kv he he3 tX tX2;have k0:=R.out.c0;have k1:=R.out.c1;have k2:=R.out.c2;have k3:=R.out.c3;have f0:=R.out.fz 0;have f1:=R.out.fz 1;have f2:=R.out.fz 2;have f3:=R.out.fz 3;have KR:=Lh (JC K5.out (T3 w.heap.size) (Ji Jl 0) (Jp Jn) (Ji Jl 0) (Jp Jn));go_wp2;exact bodyPost_ret (v:= .tuple #[Ja #[Ji Jl 0,Jp Jn,Ji Jl 0,Jp Jn],Ji Jl 3]) (by simp[results,Tryz.results61,go_sem,k0,k1,k2,k3]) rfl (FE.err HR.out H3.out (by decide) KR.out)
 case pos=>
 have hi:=(hi he).mono (T6 _);rw[he];obtain⟨b,Q,rfl⟩:=hi.form;have Hu0:=Lh he;have kv:=(T5 w5.heap.size w5).alloc (T3 _) (Jc #[Ji Jl b,Jp Q] 29);have R:=Lh ((R.out.keep h1).keep kv);have V:=Lh ((V.out.keep h1).keep kv);have U1:=Lh (Var.new (z:=zOf U) hi);have K5:=Lh (Jd (Jd K4.out h1) kv);obtain⟨wy,hwy⟩:∃u,w5.alloc (Jc #[Ji Jl b,Jp Q] 29)=u:=⟨_,rfl⟩;rw[hwy]at R K5 V U1;obtain⟨pu,hpu⟩:∃p,w5.heap.size=p:=⟨_,rfl⟩;rw[hpu]at U1;clear hi hn h1 kv hwx hpv he tX tX2;obtain⟨zt,hzt⟩:∃z,zOf T=z:=⟨_,rfl⟩;obtain⟨zu,hzu⟩:∃z,zOf U=z:=⟨_,rfl⟩;rw[hzt]at V;rw[hzu]at U1;have HO:=Lh (VK b Q zu wy U1.out.int);have c0:=U1.out.c0;have c1:=U1.out.c1;by_cases hone:zu=1
 ·rw[decide_eq_true hone]at HO;have H3:=Lh (MS (f:=true) (by rw[Hdd.out];exact Hb1.out) Hb2.out Hb3.out (.inr (.inr ⟨rfl,.inl (hzu.trans hone)⟩)));go_wp2_with fail
  try simp only[hwy,hpu]
  refine HO.out.mono ?_;rintro e w6⟨rfl,h1⟩;have R:=Lh (R.out.keep h1);have K6:=Lh (Jd K5.out h1);clear h1 hwy hpu c0 c1;have k0:=R.out.c0;have k1:=R.out.c1;have k2:=R.out.c2;have k3:=R.out.c3;have f0:=R.out.fz 0;have f1:=R.out.fz 1;have f2:=R.out.fz 2;have f3:=R.out.fz 3;have KR:=Lh (JC K6.out (T3 w.heap.size) (Ji Jl 0) (Jp Jn) (Ji Jl 0) (Jp Jn));go_wp2;exact bodyPost_ret (v:= .tuple #[Ja #[Ji Jl 0,Jp Jn,Ji Jl 0,Jp Jn],Ji Jl 3]) (by simp[results,Tryz.results61,go_sem,k0,k1,k2,k3]) rfl (FE.err HR.out H3.out (by decide) KR.out)
 rw[decide_eq_false hone]at HO;obtain⟨g,hgg⟩:∃g,T7 zt.natAbs zu.natAbs=g:=⟨_,rfl⟩;have hg1:g≠1:=by
  intro e;apply H0.out;rw[HR.out];refine(RD (by rw[Hdd.out];exact Hb1.out) Hb2.out Hb3.out He0.out ?_ (.inr ⟨by rw[hzu];exact hone,by rw[hzt,hzu,hgg];exact e⟩)).symm;cases hl:XT U
  ·rfl
  ·exfalso;have h4:=Hu0.out;have hb:QD U=U:=by unfold QD;rw[M1 (Mz Hb2.out).1];rfl
   rcases Nat.lt_or_ge 1 U.size with h5|h5
   ·exact Re hb Hb2.out hl (.inl h5) h4
   ·obtain⟨_,h6⟩:=Mz Hb2.out;obtain⟨x,h7,h8⟩:=MK Hb3.out;unfold XT at hl;have hl2:U.data.toList.head?=some 48:=by simpa using hl
    have hlen:U.data.toList.length=1:=by rw[UB];omega
    obtain⟨c,hc⟩:=List.length_eq_one_iff.1 hlen;rw[hc]at hl2 h7;simp at hl2 h7;exact h8 (h7.trans hl2)
 have H3:=Lh (MS (f:=true) (by rw[Hdd.out];exact Hb1.out) Hb2.out Hb3.out (.inr (.inr ⟨rfl,.inr (by rw[hzt,hzu,hgg];exact hg1)⟩)));go_wp2_with fail
 try simp only[hwy,hpu]
 refine HO.out.mono ?_;rintro e w6⟨rfl,h1⟩;have R:=Lh (R.out.keep h1);have V:=Lh (V.out.keep h1);have U1:=Lh (U1.out.keep h1);have K6:=Lh (Jd K5.out h1);clear h1 hwy hpu c0 c1;have HG:=Lh (YC a b P Q zt zu w6 V.out.int U1.out.int (by rw[←hzt];exact Lz.out He0.out) (by rw[←hzu];exact Lk.out Hu0.out) (Hg.out _ K6.out).2 (Nat.lt_of_le_of_lt (T6 _) V.out.lt));rw[hgg]at HG;have c0:=V.out.c0;have c1:=V.out.c1;have d0:=U1.out.c0;have d1:=U1.out.c1;clear hgg hzt hzu hone;go_wp2_with fail
 refine HG.out.mono ?_;rintro e w7⟨ga,gP,rfl,hgi,h1⟩;have R:=Lh (R.out.keep h1);have K7:=Lh (Jd K6.out h1);have HO:=Lh (VK ga gP _ w7 hgi);rw[decide_eq_false (show ¬((g:Nat):Int)=1 by omega)]at HO;clear h1 hgi c0 c1 d0 d1;go_wp2_with fail
 refine HO.out.mono ?_;rintro e w8⟨rfl,h1⟩;have R:=Lh (R.out.keep h1);have K8:=Lh (Jd K7.out h1);clear h1;have k0:=R.out.c0;have k1:=R.out.c1;have k2:=R.out.c2;have k3:=R.out.c3;have f0:=R.out.fz 0;have f1:=R.out.fz 1;have f2:=R.out.fz 2;have f3:=R.out.fz 3;have KR:=Lh (JC K8.out (T3 w.heap.size) (Ji Jl 0) (Jp Jn) (Ji Jl 0) (Jp Jn));go_wp2;exact bodyPost_ret (v:= .tuple #[Ja #[Ji Jl 0,Jp Jn,Ji Jl 0,Jp Jn],Ji Jl 3]) (by simp[results,Tryz.results61,go_sem,k0,k1,k2,k3]) rfl (FE.err HR.out H3.out (by decide) KR.out)
theorem RC{s:ByteArray}(h0:errR s=0):IsR s:=by
 obtain⟨hp,_⟩:=RO s;have hR:errR s=errP (numR s) (denR s) (EV s):=rfl;rw[hR]at h0;generalize numR s=num at *
 generalize denR s=den at *
 generalize EV s=f at *
 unfold errP at h0
 split at h0
 ·cases h0
 ·rename_i h1
  split at h0
  ·cases h0
  ·rename_i h2
   split at h0
   ·cases h0
   ·rename_i h3
    have hd:digs den=true:=by cases h:digs den;exact absurd (.inr h) h1;rfl
    have he:UM num=0:=Decidable.not_not.1 fun h=>h3 (.inl h);have hl:XT den=false:=by cases h:XT den;rfl;exact absurd (.inr (.inl h)) h3
    rcases hp with⟨rfl,_,rfl,rfl⟩|⟨rfl,_,rfl⟩
    ·exact RM he
    ·obtain⟨h4,h5⟩:=Mz hd;obtain⟨h6,h7⟩:=HW h4 h5 hl;have h8:zOf den≠1:=fun h=>h3 (.inr (.inr ⟨rfl,.inl h⟩));have h9:T7 (zOf num).natAbs (zOf den).natAbs=1:=Decidable.not_not.1 fun h=>h3 (.inr (.inr ⟨rfl,.inr h⟩));exact RB ⟨he,rfl⟩ ⟨h6,rfl⟩ (by omega) h9
theorem Rv{m:Nat}(h:m<ten 500):m<base 390:=T4 h (by decide +kernel)
theorem M5(s:ByteArray)(most:Nat)(w:JW)(hs:s.size<=500)(hm:s.size<=most)(hm2:most<=1000000000)(hg:Good w) :
  Calls Tryz.prog 61 #[Js s,Ji Jl (most:Nat)] w (RetE (FE s) w):=by
 by_cases h0:errR s=0
 ·obtain⟨q,h1,h2,h3,h4,h5⟩:=RC h0;have hn:q.num.natAbs<ten 500:=by
   have hl:=@Zp q.num;exact T4 (Zq _) (QB (by omega))
  have hd2:q.den<ten 500:=by
   by_cases hd:q.den=1
   ·rw[hd];decide +kernel
   ·have hl:=@Zp (q.den:Int);have h6:=h5 hd;have h7:=Zq ((q.den:Nat):Int).natAbs;rw[Int.natAbs_natCast]at h7 hl;exact T4 h7 (QB (by omega))
  have hc:Calls Tryz.prog 61 #[Js s,Ji Jl (most:Nat)] w (Made q w):=by
   have e:=h1;unfold Qs at e;by_cases hd:q.den=1
   ·rw[if_pos hd]at e;subst e;exact Rl q most w hd h2 (by omega) (by omega) hm2
   ·rw[if_neg hd]at e;have h6:=h5 hd;subst e;exact Rd q most w hd h2 (h3 hd) (by omega) (by omega) (Rv hn) (by rw[Int.natAbs_natCast];exact Rv hd2) (by omega) hm2 hg
  refine hc.mono ?_;rintro e w' ⟨a,P,b,Q,rfl,hv,hb⟩;exact⟨a,P,b,Q,0,rfl,⟨h0.symm,fun _=>⟨q,hv,h1,T4 hn (QB (by decide)),T4 hd2 (QB (by decide))⟩,fun h=>absurd rfl h⟩,hb⟩
 ·obtain⟨hp,hno⟩:=RO s;have hR:errR s=errP (numR s) (denR s) (EV s):=rfl;generalize numR s=num at *
  generalize denR s=den at *
  generalize EV s=f at *
  rcases hp with⟨rfl,_,rfl,rfl⟩|⟨rfl,_,rfl⟩
  ·exact RA _ most w hs (by omega) hm2 hno hR h0
  ·exact Ri num den most w hs (by omega) hm2 hno hR h0 hg
theorem RH{F:Int->Option Addr->Int->Option Addr->Int->JW->Prop}(s:ByteArray)(w:JW)(hP:Calls Tryz.prog 61 #[Js s,Ji Jl 65536] (w.alloc (Jc #[Ji Jl 0,Jp Jn,Ji Jl 0,Jp Jn] 31)) (RetE F (w.alloc (Jc #[Ji Jl 0,Jp Jn,Ji Jl 0,Jp Jn] 31))))
  (hF:∀a P b Q E w1,Jh w1 w.heap.size [Ji Jl 0,Jp Jn,Ji Jl 0,Jp Jn]->F a P b Q E w1->F a P b Q E (put4 w1 w.heap.size (Ji Jl a) (Jp P) (Ji Jl b) (Jp Q))) :
  Calls Tryz.prog 14 #[Js s] w (RetE F w):=by
 have R:=Lh (Jh.new w #[Ji Jl 0,Jp Jn,Ji Jl 0,Jp Jn] 31);have Kk:=Lh ((T5 w.heap.size w).alloc (T3 _) (Jc #[Ji Jl 0,Jp Jn,Ji Jl 0,Jp Jn] 31));have HP:=Lh hP;have HF:=Lh hF;clear hP hF;go_enter Tryz.func14,Tryz.ntmps14;go_wp2_with fail
 refine HP.out.mono ?_;rintro e w1⟨a,P,b,Q,E,rfl,hv,h1⟩;have R:=Lh (R.out.keep h1);have Hv:=Lh (HF.out _ _ _ _ _ _ R.out hv);have K1:=Lh (JC (Jd Kk.out h1) (T3 w.heap.size) (Ji Jl a) (Jp P) (Ji Jl b) (Jp Q));clear hv h1;have k0:=R.out.c0;have k1:=R.out.c1;have k2:=R.out.c2;have k3:=R.out.c3;have f0:=R.out.fz 0;have f1:=R.out.fz 1;have f2:=R.out.fz 2;have f3:=R.out.fz 3;go_wp2;exact bodyPost_ret (v:= .tuple #[Ja #[Ji Jl a,Jp P,Ji Jl b,Jp Q],Ji Jl E]) (by simp[results,Tryz.results14,go_sem,k0,k1,k2,k3]) rfl ⟨a,P,b,Q,E,rfl,Hv.out,K1.out⟩
theorem RI(s:ByteArray)(w:JW)(hs:s.size<=500)(hg:Good w):Calls Tryz.prog 14 #[Js s] w (RetE (FE s) w):=
 RH s w (M5 s 65536 _ hs (by omega) (by decide) (hg.below ((T5 w.heap.size w).alloc (T3 _) _))) fun _ _ _ _ _ _ R h=>h.put R
theorem RJ{w w':JW}{l:List ByteArray}{rs:List R4}{k:Nat}{s0:ByteArray}{r0:R4}(hs:l[k]?=some s0)(hr:RatT w r0 s0)(h:∀(i:Nat) (r:R4) (s:ByteArray),i<k->rs[i]?=some r->l[i]?=some s->RatT w r s)(hw:∀r s,RatT w r s->RatT w' r s) :
  ∀(i:Nat) (r:R4) (s:ByteArray),i<k+1->(rs.set k r0)[i]?=some r->l[i]?=some s->RatT w' r s:=by
 intro i r s hi h1 h2;apply hw;by_cases e:i=k
 ·subst e;obtain rfl:s0=s:=by rw[hs]at h2;injection h2
  rw[List.getElem?_set_self']at h1;cases h3:rs[i]? with
  | none=>rw[h3]at h1;cases h1
  | some x=>
   rw[h3]at h1
   injection h1 with h1
   rw[←h1];exact hr
 ·rw[List.getElem?_set_ne (fun h=>e h.symm)]at h1;exact h i r s (by omega) h1 h2
