/- GC30: Chk Lists -/
import Derived.Test.YtekhdklbfincpaaGreatDoorGC29
set_option maxRecDepth 100000
set_option maxHeartbeats 16000000
namespace Go.Proofs.YtekhdklbfincpaaGreatDoor
open Go.Value renaming pointer→Jp,int→Ji,string→Js,agg→Ja
open Go.IntKind renaming i64→Jl
open Go.Obj renaming cells→Jc
open _root_.Option renaming none→Jn
open Go renaming World→JW
open _root_.Nat renaming le_refl→M0,lt_of_lt_of_le→M1,zero_le→M4,lt_or_ge→M5,gcd→M6
open Go.RowKit.Below renaming refl→M2
open _root_.List renaming getElem?_eq_getElem→M3
open Go.RowKit
def RetE(F:Int->Option Addr->Int->Option Addr->Int->JW->Prop)(w:JW)(e:Ending)(w':JW):Prop:=
 ∃a P b Q E,e= .returned (.tuple #[Ja #[Ji Jl a,Jp P,Ji Jl b,Jp Q],Ji Jl E])/\F a P b Q E w'/\Below w.heap.size w w'
def FE(s:ByteArray)(a:Int)(P:Option Addr)(b:Int)(Q:Option Addr)(E:Int)(w:JW):Prop:=
 E=errR s/\(E=0->∃q,RatV w a P b Q q/\Jj q=s/\q.num.natAbs<ten 1250/\q.den<ten 1250)/\(E≠0->a=0/\P=Jn/\b=0/\Q=Jn)
def FL(a:Int)(P:Option Addr)(b:Int)(Q:Option Addr)(E:Int)(_:JW):Prop:=E=5/\a=0/\P=Jn/\b=0/\Q=Jn
theorem FE.err{s num den:ByteArray}{f:Bool}{E:Int}{w w':JW}(hR:errR s=errP num den f)(hE:E=errP num den f)(h0:E≠0)(h:Below w.heap.size w w'):RetE (FE s) w (.returned (.tuple #[Ja #[Ji Jl 0,Jp Jn,Ji Jl 0,Jp Jn],Ji Jl E])) w':=
 ⟨0,Jn,0,Jn,E,rfl,⟨by rw[hR,←hE],fun h1=>absurd h1 h0,fun _=>⟨rfl,rfl,rfl,rfl⟩⟩,h⟩
theorem FE.err0{s num den:ByteArray}{f:Bool}{a E:Int}{P:Option Addr}{w w':JW}(hR:errR s=errP num den f)(hE:E=errP num den f)(h0:E≠0)(ha:a=0)(hP:P=Jn)(h:Below w.heap.size w w'):RetE (FE s) w (.returned (.tuple #[Ja #[Ji Jl a,Jp P,Ji Jl 0,Jp Jn],Ji Jl E])) w':=by
 subst ha;subst hP;exact FE.err hR hE h0 h
theorem V5{s:ByteArray}(h:digs (JE s)=true):Qu s=0\/Qu s=3:=by
 obtain⟨h1,h2⟩:=Ut h;by_cases h3:Yh (JE s)=true/\(1<(JE s).size\/1<s.size)
 ·exact .inr ((QM rfl).2.2.1 h1 h2 h3.1 h3.2)
 ·exact .inl ((QM rfl).2.2.2 h1 h2 h3)
theorem Dc{d:ByteArray}(h:digs d=true)(_hz:Yp d.data.toList=false):Qu d≠0->Yh d=true:=by
 intro h0;obtain⟨h1,h2⟩:=Ut h;cases hl:Yh d
 ·exact absurd (Kv h1 h2 hl).1 h0
 ·rfl
theorem Ke{p:UInt8->Bool}:∀l:List UInt8,(∀x∈l,p x=true)->l.dropWhile p=[]
 | [],_=>rfl
 | b :: l,h=>by
  rw[List.dropWhile_cons,if_pos (h b (List.mem_cons_self ..))];exact Ke l fun x hx=>h x (List.mem_cons_of_mem _ hx)
theorem Fj{l:List UInt8}(h:Yp l=true):Lib.trimB l 48=[]:=by
 have h1:Lib.trimRightB l 48=[]:=by
  unfold Lib.trimRightB;rw[List.reverse_eq_nil_iff];refine Ke _ (fun x hx=>?_);unfold Yp at h;rw[List.all_eq_true]at h;exact h x (List.mem_reverse.1 hx)
 unfold Lib.trimB;rw[h1];rfl
theorem VD{l:List UInt8}(h:Yp l=false):∃x∈l,x≠48:=by
 unfold Yp at h;rw[List.all_eq_false]at h;obtain⟨x,h1,h2⟩:=h;exact⟨x,h1,by simpa using h2⟩
theorem Lj(s:ByteArray)(most:Nat)(w:JW)(hs:s.size<=500)(hm:s.size<=most)(_hm2:most<=1000000000)(hno:∀c∈s.data.toList,c≠47)(hR:errR s=errP s ⟨#[49]⟩ false)(h0:errR s≠0) :
  Calls Tryz.prog 98 #[Js s,Ji Jl (most:Nat)] w (RetE (FE s) w):=by
 have HC:=Lh (fun w=>Ky s hno w);have HTr:=Lh (fun w=>Tryz.strings_TrimPrefix s ⟨#[45]⟩ w);rw[show(⟨#[45]⟩:ByteArray).data.toList=[45]from rfl,Xx]at HTr;obtain⟨d,hdd⟩:∃d,JE s=d:=⟨_,rfl⟩;have hds:d.size<=500:=by
  rw[←hdd];unfold JE
  split
  ·rw[Uj];omega
  ·omega
 have Htwo:=Lh (@V5 s);rw[hdd]at HTr Htwo;have Hdd:=Lh hdd;have HD:=Lh (fun w=>Q5 d w (by omega));have HP:=Lh (fun w=>XG s w (by omega));have R:=Lh (Jh.new w #[Ji Jl 0,Jp Jn,Ji Jl 0,Jp Jn] 30);have Kk:=Lh ((M2 w.heap.size w).alloc (M0 _) (Jc #[Ji Jl 0,Jp Jn,Ji Jl 0,Jp Jn] 30));obtain⟨b1,hb1⟩:∃b,digs d=b:=⟨_,rfl⟩;rw[show(JG d.data.toList && decide (0<d.size))=digs d from rfl,hb1]at HD;have Hb1:=Lh hb1;have HR:=Lh hR;have H0:=Lh h0;have hmI:(s.size:Int)<=(most:Int):=by omega
 clear hdd hb1 hno hR h0 hds;go_enter Tryz.func98,Tryz.ntmps98;go_wp2_with fail
 refine(HC.out _).mono ?_;rintro e w1⟨rfl,rfl⟩;go_wp2_with fail
 refine(HTr.out _).mono ?_;rintro e w1⟨rfl,rfl⟩;go_wp2_with fail
 refine(HD.out _).mono ?_;rintro e w1⟨rfl,rfl⟩;have k0:=R.out.c0;have k1:=R.out.c1;have k2:=R.out.c2;have k3:=R.out.c3;cases b1 with
 | false=>
  go_wp2;exact bodyPost_ret (v:= .tuple #[Ja #[Ji Jl 0,Jp Jn,Ji Jl 0,Jp Jn],Ji Jl 14]) (by simp[results,Tryz.results98,go_sem,k0,k1,k2,k3]) rfl (FE.err HR.out (ZQ (.inl (by rw[Hdd.out];exact Hb1.out))) (by decide) Kk.out)
 | true=>
  clear k0 k1 k2 k3;go_wp2_with fail
  refine(HP.out _).mono ?_;rintro e w1⟨v,rfl,hi,hn,h1⟩;have he:Qu s=3:=by
   rcases Htwo.out Hb1.out with h2|h2
   ·exfalso;apply H0.out;rw[HR.out];exact(LE (by rw[Hdd.out];exact Hb1.out) (by decide +kernel) (by decide +kernel) h2 (by decide +kernel) (.inl rfl)).symm
   ·exact h2
  obtain⟨a,P,rfl,ha,hPn⟩:∃a P,v=Ja #[Ji Jl a,Jp P]/\a=0/\P=Jn:=⟨0,Jn,hn (by rw[he];decide),rfl,rfl⟩;rw[he];have H3:=Lh (Oh (f:=false) (by rw[Hdd.out];exact Hb1.out) (show digs ⟨#[49]⟩=true by decide +kernel) (by decide +kernel) (.inl (by rw[he];decide)));have Ha:=Lh ha;have HPn:=Lh hPn;have kv:=(M2 w1.heap.size w1).alloc (M0 _) (Jc #[Ji Jl a,Jp P] 28);have R:=Lh ((R.out.keep h1).keep kv);have K1:=Lh (Jd (Jd Kk.out h1) kv);obtain⟨wx,hwx⟩:∃u,w1.alloc (Jc #[Ji Jl a,Jp P] 28)=u:=⟨_,rfl⟩;have V:=Lh (Jh.new w1 #[Ji Jl a,Jp P] 28);rw[hwx]at R K1 V;obtain⟨pv,hpv⟩:∃p,w1.heap.size=p:=⟨_,rfl⟩;rw[hpv]at V;have c0:=V.out.c0;have c1:=V.out.c1;clear hi hn h1 kv he ha hPn;have k0:=R.out.c0;have k1:=R.out.c1;have k2:=R.out.c2;have k3:=R.out.c3;have f0:=R.out.fz 0;have f1:=R.out.fz 1;have f2:=R.out.fz 2;have f3:=R.out.fz 3;have K2:=Lh (JA K1.out (M0 w.heap.size) (Ji Jl a) (Jp P) (Ji Jl 0) (Jp Jn));go_wp2;exact bodyPost_ret (v:= .tuple #[Ja #[Ji Jl a,Jp P,Ji Jl 0,Jp Jn],Ji Jl 3]) (by simp[results,Tryz.results98,go_sem,k0,k1,k2,k3]) rfl (FE.err0 HR.out H3.out (by decide) Ha.out HPn.out K2.out)
theorem DB{s:ByteArray}(h:Qu s=0)(hs:s.size<=500):(zOf s).natAbs<base 400:=by
 have hl:=@Ud (zOf s);rw[Gr h]at hl;exact M1 (Yo _) (Nat.le_trans (JK (show _<=500 by omega)) (by decide +kernel))
theorem FA(T U:ByteArray)(most:Nat)(w:JW)(hs:(T ++ ⟨#[47]⟩ ++ U).size<=500)(hm:(T ++ ⟨#[47]⟩ ++ U).size<=most)(_hm2:most<=1000000000)(hno:∀c∈T.data.toList,c≠47)(hR:errR (T ++ ⟨#[47]⟩ ++ U)=errP T U true)(h0:errR (T ++ ⟨#[47]⟩ ++ U)≠0)(hg:Good w) :
  Calls Tryz.prog 98 #[Js (T ++ ⟨#[47]⟩ ++ U),Ji Jl (most:Nat)] w (RetE (FE (T ++ ⟨#[47]⟩ ++ U)) w):=by
 have hsz:=Vf T U;have HC:=Lh (fun w=>Kx T U hno w (by omega) (by omega));have HTr:=Lh (fun w=>Tryz.strings_TrimPrefix T ⟨#[45]⟩ w);rw[show(⟨#[45]⟩:ByteArray).data.toList=[45]from rfl,Xx]at HTr;have HZ:=Lh (fun w=>Wh U w (by omega));obtain⟨X,hX⟩:∃X:ByteArray,⟨(Lib.trimB U.data.toList 48).toArray⟩=X:=⟨_,rfl⟩;have HX:=Lh (show (Yp U.data.toList=true->X.toList=[])/\(Yp U.data.toList=false->X.toList≠[]) from ⟨fun h=>by rw [← hX,ByteArray.toList_eq]; exact Fj h,fun h=>by
  obtain⟨x,h1,h2⟩:=VD h;rw[←hX,ByteArray.toList_eq];exact OZ h1 h2⟩)
 rw[hX]at HZ;obtain⟨d,hdd⟩:∃d,JE T=d:=⟨_,rfl⟩;have hds:d.size<=500:=by
  rw[←hdd];unfold JE
  split
  ·rw[Uj];omega
  ·omega
 have Htwo:=Lh (@V5 T);rw[hdd]at HTr Htwo;have Hdd:=Lh hdd;have HD:=Lh (fun w=>Q5 d w (by omega));have HE:=Lh (fun w=>Q5 U w (by omega));have HP:=Lh (fun w=>XG T w (by omega));have HQ:=Lh (fun w=>XG U w (by omega));have R:=Lh (Jh.new w #[Ji Jl 0,Jp Jn,Ji Jl 0,Jp Jn] 30);have Kk:=Lh ((M2 w.heap.size w).alloc (M0 _) (Jc #[Ji Jl 0,Jp Jn,Ji Jl 0,Jp Jn] 30));obtain⟨b1,hb1⟩:∃b,digs d=b:=⟨_,rfl⟩;rw[show(JG d.data.toList && decide (0<d.size))=digs d from rfl,hb1]at HD;have Hb1:=Lh hb1;obtain⟨b2,hb2⟩:∃b,digs U=b:=⟨_,rfl⟩;rw[show(JG U.data.toList && decide (0<U.size))=digs U from rfl,hb2]at HE;have Hb2:=Lh hb2;have Hg:=Lh (fun w' (hb:Below w.heap.size w w')=>hg.below hb);have Lz:=Lh (fun h=>DB (s:=T) h (show T.size<=500 by omega));have Lk:=Lh (fun h=>DB (s:=U) h (show U.size<=500 by omega));obtain⟨Y,hY⟩:∃Y,T ++ ⟨#[47]⟩ ++ U=Y:=⟨_,rfl⟩;rw[hY]at HC hR h0 hm hs ⊢;have HR:=Lh hR;have H0:=Lh h0;have hmI:(Y.size:Int)<=(most:Int):=by omega
 clear hdd hb1 hb2 hno hR h0 hds hX hY hg hsz;go_enter Tryz.func98,Tryz.ntmps98;go_wp2_with fail
 refine(HC.out _).mono ?_;rintro e w1⟨rfl,h1⟩;have R:=Lh (R.out.keep h1);have K1:=Lh (Jd Kk.out h1);clear h1;go_wp2_with fail
 refine(HTr.out _).mono ?_;rintro e w2⟨rfl,rfl⟩;go_wp2_with fail
 refine(HD.out _).mono ?_;rintro e w2⟨rfl,rfl⟩;cases b1 with
 | false=>
  have k0:=R.out.c0;have k1:=R.out.c1;have k2:=R.out.c2;have k3:=R.out.c3;have f0:=R.out.fz 0;have f1:=R.out.fz 1;have f2:=R.out.fz 2;have f3:=R.out.fz 3;have KR:=Lh (JA K1.out (M0 w.heap.size) (Ji Jl 0) (Jp Jn) (Ji Jl 0) (Jp Jn));go_wp2;exact bodyPost_ret (v:= .tuple #[Ja #[Ji Jl 0,Jp Jn,Ji Jl 0,Jp Jn],Ji Jl 14]) (by simp[results,Tryz.results98,go_sem,k0,k1,k2,k3]) rfl (FE.err HR.out (ZQ (.inl (by rw[Hdd.out];exact Hb1.out))) (by decide) KR.out)
 | true=>
 go_wp2_with fail
 refine(HE.out _).mono ?_;rintro e w2⟨rfl,rfl⟩;cases b2 with
 | false=>
  have k0:=R.out.c0;have k1:=R.out.c1;have k2:=R.out.c2;have k3:=R.out.c3;have f0:=R.out.fz 0;have f1:=R.out.fz 1;have f2:=R.out.fz 2;have f3:=R.out.fz 3;have KR:=Lh (JA K1.out (M0 w.heap.size) (Ji Jl 0) (Jp Jn) (Ji Jl 0) (Jp Jn));go_wp2;exact bodyPost_ret (v:= .tuple #[Ja #[Ji Jl 0,Jp Jn,Ji Jl 0,Jp Jn],Ji Jl 14]) (by simp[results,Tryz.results98,go_sem,k0,k1,k2,k3]) rfl (FE.err HR.out (ZQ (.inr Hb2.out)) (by decide) KR.out)
 | true=>
 go_wp2_with fail
 refine(HZ.out _).mono ?_;rintro e w3⟨rfl,h3⟩;have R:=Lh (R.out.keep h3);have K3:=Lh (Jd K1.out h3);clear h3;cases hb3:Yp U.data.toList with
 | true=>
  have hX:=HX.out.1 hb3;have tX:(X.toList == [])=true:=by rw[hX];rfl
  have tX2:X.toList.isEmpty=true:=by rw[hX];rfl
  have k0:=R.out.c0;have k1:=R.out.c1;have k2:=R.out.c2;have k3:=R.out.c3;have H3:=Lh (Nu (f:=true) (by rw[Hdd.out];exact Hb1.out) Hb2.out hb3);clear hX hb3;have f0:=R.out.fz 0;have f1:=R.out.fz 1;have f2:=R.out.fz 2;have f3:=R.out.fz 3;have KR:=Lh (JA K3.out (M0 w.heap.size) (Ji Jl 0) (Jp Jn) (Ji Jl 0) (Jp Jn));go_wp2;exact bodyPost_ret (v:= .tuple #[Ja #[Ji Jl 0,Jp Jn,Ji Jl 0,Jp Jn],Ji Jl 19]) (by simp[results,Tryz.results98,go_sem,k0,k1,k2,k3]) rfl (FE.err HR.out H3.out (by decide) KR.out)
 | false=>
 have Hb3:=Lh hb3;have hX:=HX.out.2 hb3;have tX:(X.toList == [])=false:=by rw[beq_eq_false_iff_ne];exact hX
 have tX2:X.toList.isEmpty=false:=by rw[List.isEmpty_eq_false_iff];exact hX
 clear hX hb3;go_wp2_with fail
 refine(HP.out _).mono ?_;rintro e w4⟨v,rfl,hi,hn,h1⟩;by_cases he:Qu T=3
 ·obtain⟨a,P,rfl,ha,hPn⟩:∃a P,v=Ja #[Ji Jl a,Jp P]/\a=0/\P=Jn:=⟨0,Jn,hn (by rw[he];decide),rfl,rfl⟩;rw[he];have H3:=Lh (Oh (f:=true) (by rw[Hdd.out];exact Hb1.out) Hb2.out Hb3.out (.inl (by rw[he];decide)));have Ha:=Lh ha;have HPn:=Lh hPn;have kv:=(M2 w4.heap.size w4).alloc (M0 _) (Jc #[Ji Jl a,Jp P] 28);have R:=Lh ((R.out.keep h1).keep kv);have K4:=Lh (Jd (Jd K3.out h1) kv);obtain⟨wx,hwx⟩:∃u,w4.alloc (Jc #[Ji Jl a,Jp P] 28)=u:=⟨_,rfl⟩;have V:=Lh (Jh.new w4 #[Ji Jl a,Jp P] 28);rw[hwx]at R K4 V;obtain⟨pv,hpv⟩:∃p,w4.heap.size=p:=⟨_,rfl⟩;rw[hpv]at V;have c0:=V.out.c0;have c1:=V.out.c1;clear hi hn h1 kv he tX tX2 ha hPn;have k0:=R.out.c0;have k1:=R.out.c1;have k2:=R.out.c2;have k3:=R.out.c3;have f0:=R.out.fz 0;have f1:=R.out.fz 1;have f2:=R.out.fz 2;have f3:=R.out.fz 3;have K5:=Lh (JA K4.out (M0 w.heap.size) (Ji Jl a) (Jp P) (Ji Jl 0) (Jp Jn));go_wp2;exact bodyPost_ret (v:= .tuple #[Ja #[Ji Jl a,Jp P,Ji Jl 0,Jp Jn],Ji Jl 3]) (by simp[results,Tryz.results98,go_sem,k0,k1,k2,k3]) rfl (FE.err0 HR.out H3.out (by decide) Ha.out HPn.out K5.out)
 have he0:Qu T=0:=(Htwo.out Hb1.out).resolve_right he;have hi:=(hi he0).mono (M4 _);rw[he0];obtain⟨a,P,rfl⟩:=hi.form;have He0:=Lh he0;have kv:=(M2 w4.heap.size w4).alloc (M0 _) (Jc #[Ji Jl a,Jp P] 28);have R:=Lh ((R.out.keep h1).keep kv);have V:=Lh (Var.new (z:=zOf T) hi);have K4:=Lh (Jd (Jd K3.out h1) kv);obtain⟨wx,hwx⟩:∃u,w4.alloc (Jc #[Ji Jl a,Jp P] 28)=u:=⟨_,rfl⟩;rw[hwx]at R K4 V;obtain⟨pv,hpv⟩:∃p,w4.heap.size=p:=⟨_,rfl⟩;rw[hpv]at V;clear hi hn h1 kv he he0;go_wp2_with fail
 try simp only[hwx,hpv]
 refine(HQ.out _).mono ?_;rintro e w5⟨v,rfl,hi,hn,h1⟩;by_cases he:Qu U=0;case neg=>
  obtain⟨b,Q,rfl⟩:∃b Q,v=Ja #[Ji Jl b,Jp Q]:=⟨0,Jn,hn he⟩;have H3:=Lh (Oh (f:=true) (by rw[Hdd.out];exact Hb1.out) Hb2.out Hb3.out (.inr (.inl (Dc Hb2.out Hb3.out he))));have he3:Qu U=3:=by
   rcases V5 (s:=U) (by have hb:JE U=U:=(by unfold JE;rw[Z1 (Ut Hb2.out).1];rfl);rw[hb];exact Hb2.out)with h2|h2
   ·exact absurd h2 he
   ·exact h2
  rw[he3];have kv:=(M2 w5.heap.size w5).alloc (M0 _) (Jc #[Ji Jl b,Jp Q] 28);have R:=Lh ((R.out.keep h1).keep kv);have K5:=Lh (Jd (Jd K4.out h1) kv);obtain⟨wy,hwy⟩:∃u,w5.alloc (Jc #[Ji Jl b,Jp Q] 28)=u:=⟨_,rfl⟩;rw[hwy]at R K5;clear hi hn h1 kv he he3 tX tX2;have k0:=R.out.c0;have k1:=R.out.c1;have k2:=R.out.c2;have k3:=R.out.c3;have f0:=R.out.fz 0;have f1:=R.out.fz 1;have f2:=R.out.fz 2;have f3:=R.out.fz 3;have KR:=Lh (JA K5.out (M0 w.heap.size) (Ji Jl 0) (Jp Jn) (Ji Jl 0) (Jp Jn));go_wp2;exact bodyPost_ret (v:= .tuple #[Ja #[Ji Jl 0,Jp Jn,Ji Jl 0,Jp Jn],Ji Jl 3]) (by simp[results,Tryz.results98,go_sem,k0,k1,k2,k3]) rfl (FE.err HR.out H3.out (by decide) KR.out)
 case pos=>
 have hi:=(hi he).mono (M4 _);rw[he];obtain⟨b,Q,rfl⟩:=hi.form;have Hu0:=Lh he;have kv:=(M2 w5.heap.size w5).alloc (M0 _) (Jc #[Ji Jl b,Jp Q] 28);have R:=Lh ((R.out.keep h1).keep kv);have V:=Lh ((V.out.keep h1).keep kv);have U1:=Lh (Var.new (z:=zOf U) hi);have K5:=Lh (Jd (Jd K4.out h1) kv);obtain⟨wy,hwy⟩:∃u,w5.alloc (Jc #[Ji Jl b,Jp Q] 28)=u:=⟨_,rfl⟩;rw[hwy]at R K5 V U1;obtain⟨pu,hpu⟩:∃p,w5.heap.size=p:=⟨_,rfl⟩;rw[hpu]at U1;clear hi hn h1 kv hwx hpv he tX tX2;obtain⟨zt,hzt⟩:∃z,zOf T=z:=⟨_,rfl⟩;obtain⟨zu,hzu⟩:∃z,zOf U=z:=⟨_,rfl⟩;rw[hzt]at V;rw[hzu]at U1;have HO:=Lh (Ul b Q zu wy U1.out.int);have c0:=U1.out.c0;have c1:=U1.out.c1;by_cases hone:zu=1
 ·rw[decide_eq_true hone]at HO;have H3:=Lh (Oh (f:=true) (by rw[Hdd.out];exact Hb1.out) Hb2.out Hb3.out (.inr (.inr ⟨rfl,.inl (hzu.trans hone)⟩)));go_wp2_with fail
  try simp only[hwy,hpu]
  refine HO.out.mono ?_;rintro e w6⟨rfl,h1⟩;have R:=Lh (R.out.keep h1);have K6:=Lh (Jd K5.out h1);clear h1 hwy hpu c0 c1;have k0:=R.out.c0;have k1:=R.out.c1;have k2:=R.out.c2;have k3:=R.out.c3;have f0:=R.out.fz 0;have f1:=R.out.fz 1;have f2:=R.out.fz 2;have f3:=R.out.fz 3;have KR:=Lh (JA K6.out (M0 w.heap.size) (Ji Jl 0) (Jp Jn) (Ji Jl 0) (Jp Jn));go_wp2;exact bodyPost_ret (v:= .tuple #[Ja #[Ji Jl 0,Jp Jn,Ji Jl 0,Jp Jn],Ji Jl 3]) (by simp[results,Tryz.results98,go_sem,k0,k1,k2,k3]) rfl (FE.err HR.out H3.out (by decide) KR.out)
 rw[decide_eq_false hone]at HO;obtain⟨g,hgg⟩:∃g,M6 zt.natAbs zu.natAbs=g:=⟨_,rfl⟩;have hg1:g≠1:=by
  intro e;apply H0.out;rw[HR.out];refine(LE (by rw[Hdd.out];exact Hb1.out) Hb2.out Hb3.out He0.out ?_ (.inr ⟨by rw[hzu];exact hone,by rw[hzt,hzu,hgg];exact e⟩)).symm;cases hl:Yh U
  ·rfl
  ·exfalso;have h4:=Hu0.out;have hb:JE U=U:=by unfold JE;rw[Z1 (Ut Hb2.out).1];rfl
   rcases M5 1 U.size with h5|h5
   ·exact Et hb Hb2.out hl (.inl h5) h4
   ·obtain⟨_,h6⟩:=Ut Hb2.out;obtain⟨x,h7,h8⟩:=VD Hb3.out;unfold Yh at hl;have hl2:U.data.toList.head?=some 48:=by simpa using hl
    have hlen:U.data.toList.length=1:=by rw[JU];omega
    obtain⟨c,hc⟩:=List.length_eq_one_iff.1 hlen;rw[hc]at hl2 h7;simp at hl2 h7;exact h8 (h7.trans hl2)
 have H3:=Lh (Oh (f:=true) (by rw[Hdd.out];exact Hb1.out) Hb2.out Hb3.out (.inr (.inr ⟨rfl,.inr (by rw[hzt,hzu,hgg];exact hg1)⟩)));go_wp2_with fail
 try simp only[hwy,hpu]
 refine HO.out.mono ?_;rintro e w6⟨rfl,h1⟩;have R:=Lh (R.out.keep h1);have V:=Lh (V.out.keep h1);have U1:=Lh (U1.out.keep h1);have K6:=Lh (Jd K5.out h1);clear h1 hwy hpu c0 c1;have HG:=Lh (YO a b P Q zt zu w6 V.out.int U1.out.int (by rw[←hzt];exact Lz.out He0.out) (by rw[←hzu];exact Lk.out Hu0.out) (Hg.out _ K6.out).2 (Nat.lt_of_le_of_lt (M4 _) V.out.lt));rw[hgg]at HG;have c0:=V.out.c0;have c1:=V.out.c1;have d0:=U1.out.c0;have d1:=U1.out.c1;clear hgg hzt hzu hone;go_wp2_with fail
 refine HG.out.mono ?_;rintro e w7⟨ga,gP,rfl,hgi,h1⟩;have R:=Lh (R.out.keep h1);have K7:=Lh (Jd K6.out h1);have HO:=Lh (Ul ga gP _ w7 hgi);rw[decide_eq_false (show ¬((g:Nat):Int)=1 by omega)]at HO;clear h1 hgi c0 c1 d0 d1;go_wp2_with fail
 refine HO.out.mono ?_;rintro e w8⟨rfl,h1⟩;have R:=Lh (R.out.keep h1);have K8:=Lh (Jd K7.out h1);clear h1;have k0:=R.out.c0;have k1:=R.out.c1;have k2:=R.out.c2;have k3:=R.out.c3;have f0:=R.out.fz 0;have f1:=R.out.fz 1;have f2:=R.out.fz 2;have f3:=R.out.fz 3;have KR:=Lh (JA K8.out (M0 w.heap.size) (Ji Jl 0) (Jp Jn) (Ji Jl 0) (Jp Jn));go_wp2;exact bodyPost_ret (v:= .tuple #[Ja #[Ji Jl 0,Jp Jn,Ji Jl 0,Jp Jn],Ji Jl 3]) (by simp[results,Tryz.results98,go_sem,k0,k1,k2,k3]) rfl (FE.err HR.out H3.out (by decide) KR.out)
theorem LD{s:ByteArray}(h0:errR s=0):IsR s:=by
 obtain⟨hp,_⟩:=NN s;have hR:errR s=errP (numR s) (denR s) (Og s):=rfl;rw[hR]at h0;generalize numR s=num at *
 generalize denR s=den at *
 generalize Og s=f at *
 unfold errP at h0
 split at h0
 ·cases h0
 ·rename_i h1
  split at h0
  ·cases h0
  ·rename_i h2
   split at h0
   ·cases h0
   ·rename_i h3
    have hd:digs den=true:=by cases h:digs den;exact absurd (.inr h) h1;rfl
    have he:Qu num=0:=Decidable.not_not.1 fun h=>h3 (.inl h);have hl:Yh den=false:=by cases h:Yh den;rfl;exact absurd (.inr (.inl h)) h3
    rcases hp with⟨rfl,_,rfl,rfl⟩|⟨rfl,_,rfl⟩
    ·exact Np he
    ·obtain⟨h4,h5⟩:=Ut hd;obtain⟨h6,h7⟩:=Kv h4 h5 hl;have h8:zOf den≠1:=fun h=>h3 (.inr (.inr ⟨rfl,.inl h⟩));have h9:M6 (zOf num).natAbs (zOf den).natAbs=1:=Decidable.not_not.1 fun h=>h3 (.inr (.inr ⟨rfl,.inr h⟩));exact Lv ⟨he,rfl⟩ ⟨h6,rfl⟩ (by omega) h9
theorem DT{m:Nat}(h:m<ten 500):m<base 390:=M1 h (by decide +kernel)
theorem Ga(s:ByteArray)(most:Nat)(w:JW)(hs:s.size<=500)(hm:s.size<=most)(hm2:most<=1000000000)(hg:Good w) :
  Calls Tryz.prog 98 #[Js s,Ji Jl (most:Nat)] w (RetE (FE s) w):=by
 by_cases h0:errR s=0
 ·obtain⟨q,h1,h2,h3,h4,h5⟩:=LD h0;have hn:q.num.natAbs<ten 500:=by
   have hl:=@Ud q.num;exact M1 (Yo _) (JK (by omega))
  have hd2:q.den<ten 500:=by
   by_cases hd:q.den=1
   ·rw[hd];decide +kernel
   ·have hl:=@Ud (q.den:Int);have h6:=h5 hd;have h7:=Yo ((q.den:Nat):Int).natAbs;rw[Int.natAbs_natCast]at h7 hl;exact M1 h7 (JK (by omega))
  have hc:Calls Tryz.prog 98 #[Js s,Ji Jl (most:Nat)] w (Made q w):=by
   have e:=h1;unfold Jj at e;by_cases hd:q.den=1
   ·rw[if_pos hd]at e;subst e;exact FG q most w hd h2 (by omega) (by omega) hm2
   ·rw[if_neg hd]at e;have h6:=h5 hd;subst e;exact Ej q most w hd h2 (h3 hd) (by omega) (by omega) (DT hn) (by rw[Int.natAbs_natCast];exact DT hd2) (by omega) hm2 hg
  refine hc.mono ?_;rintro e w' ⟨a,P,b,Q,rfl,hv,hb⟩;exact⟨a,P,b,Q,0,rfl,⟨h0.symm,fun _=>⟨q,hv,h1,M1 hn (JK (by decide)),M1 hd2 (JK (by decide))⟩,fun h=>absurd rfl h⟩,hb⟩
 ·obtain⟨hp,hno⟩:=NN s;have hR:errR s=errP (numR s) (denR s) (Og s):=rfl;generalize numR s=num at *
  generalize denR s=den at *
  generalize Og s=f at *
  rcases hp with⟨rfl,_,rfl,rfl⟩|⟨rfl,_,rfl⟩
  ·exact Lj _ most w hs (by omega) hm2 hno hR h0
  ·exact FA num den most w hs (by omega) hm2 hno hR h0 hg
theorem Fv(s:ByteArray)(most:Nat)(w:JW)(hs:most<s.size)(_hs2:s.size<=9223372036854775807) :
  Calls Tryz.prog 98 #[Js s,Ji Jl (most:Nat)] w (RetE FL w):=by
 have hmI:(most:Int)<(s.size:Int):=by omega
 go_enter Tryz.func98,Tryz.ntmps98;go_wp2;exact bodyPost_ret (v:= .tuple #[Ja #[Ji Jl 0,Jp Jn,Ji Jl 0,Jp Jn],Ji Jl 5]) (by simp[results,Tryz.results98,go_sem]) rfl ⟨0,Jn,0,Jn,5,rfl,⟨rfl,rfl,rfl,rfl,rfl⟩,(M2 w.heap.size w).alloc (M0 _) _⟩
theorem FE.put{s:ByteArray}{a b E:Int}{P Q:Option Addr}{w:JW}{p:Nat}(h:FE s a P b Q E w)(R:Jh w p [Ji Jl 0,Jp Jn,Ji Jl 0,Jp Jn]):FE s a P b Q E (put4 w p (Ji Jl a) (Jp P) (Ji Jl b) (Jp Q)):=
 ⟨h.1,fun h0=>let ⟨q,h2,h3⟩:=h.2.1 h0;⟨q,h2.wrote R (by rfl) (Jr _ p (Ji Jl a) (Jp P) (Ji Jl b) (Jp Q)).1 (Jr _ _ _ _ _ _).2,h3⟩,h.2.2⟩
theorem FE.keep{s:ByteArray}{a b E:Int}{P Q:Option Addr}{w w':JW}(h:FE s a P b Q E w)(hb:Below w.heap.size w w'):FE s a P b Q E w':=
 ⟨h.1,fun h0=>let ⟨q,h2,h3⟩:=h.2.1 h0;⟨q,h2.keep hb,h3⟩,h.2.2⟩
theorem ER{F:Int->Option Addr->Int->Option Addr->Int->JW->Prop}(s:ByteArray)(w:JW)(hP:Calls Tryz.prog 98 #[Js s,Ji Jl 400] (w.alloc (Jc #[Ji Jl 0,Jp Jn,Ji Jl 0,Jp Jn] 30)) (RetE F (w.alloc (Jc #[Ji Jl 0,Jp Jn,Ji Jl 0,Jp Jn] 30))))
  (hF:∀a P b Q E w1,Jh w1 w.heap.size [Ji Jl 0,Jp Jn,Ji Jl 0,Jp Jn]->F a P b Q E w1->F a P b Q E (put4 w1 w.heap.size (Ji Jl a) (Jp P) (Ji Jl b) (Jp Q))) :
  Calls Tryz.prog 60 #[Js s] w (RetE F w):=by
 have R:=Lh (Jh.new w #[Ji Jl 0,Jp Jn,Ji Jl 0,Jp Jn] 30);have Kk:=Lh ((M2 w.heap.size w).alloc (M0 _) (Jc #[Ji Jl 0,Jp Jn,Ji Jl 0,Jp Jn] 30));have HP:=Lh hP;have HF:=Lh hF;clear hP hF;go_enter Tryz.func60,Tryz.ntmps60;go_wp2_with fail
 refine HP.out.mono ?_;rintro e w1⟨a,P,b,Q,E,rfl,hv,h1⟩;have R:=Lh (R.out.keep h1);have Hv:=Lh (HF.out _ _ _ _ _ _ R.out hv);have K1:=Lh (JA (Jd Kk.out h1) (M0 w.heap.size) (Ji Jl a) (Jp P) (Ji Jl b) (Jp Q));clear hv h1;have k0:=R.out.c0;have k1:=R.out.c1;have k2:=R.out.c2;have k3:=R.out.c3;have f0:=R.out.fz 0;have f1:=R.out.fz 1;have f2:=R.out.fz 2;have f3:=R.out.fz 3;go_wp2;exact bodyPost_ret (v:= .tuple #[Ja #[Ji Jl a,Jp P,Ji Jl b,Jp Q],Ji Jl E]) (by simp[results,Tryz.results60,go_sem,k0,k1,k2,k3]) rfl ⟨a,P,b,Q,E,rfl,Hv.out,K1.out⟩
theorem Nd(s:ByteArray)(w:JW)(hs:s.size<=400)(hg:Good w):Calls Tryz.prog 60 #[Js s] w (RetE (FE s) w):=
 ER s w (Ga s 400 _ (by omega) hs (by decide) (hg.below ((M2 w.heap.size w).alloc (M0 _) _))) fun _ _ _ _ _ _ R h=>h.put R
theorem Nc(s:ByteArray)(w:JW)(hs:400<s.size)(hs2:s.size<=9223372036854775807):Calls Tryz.prog 60 #[Js s] w (RetE FL w):=
 ER s w (Fv s 400 _ hs hs2) fun _ _ _ _ _ _ _ h=>h
theorem Ng{F:Int->Option Addr->Int->Option Addr->Int->JW->Prop}(s:ByteArray)(w:JW)(hP:Calls Tryz.prog 98 #[Js s,Ji Jl 65536] (w.alloc (Jc #[Ji Jl 0,Jp Jn,Ji Jl 0,Jp Jn] 30)) (RetE F (w.alloc (Jc #[Ji Jl 0,Jp Jn,Ji Jl 0,Jp Jn] 30))))
  (hF:∀a P b Q E w1,Jh w1 w.heap.size [Ji Jl 0,Jp Jn,Ji Jl 0,Jp Jn]->F a P b Q E w1->F a P b Q E (put4 w1 w.heap.size (Ji Jl a) (Jp P) (Ji Jl b) (Jp Q))) :
  Calls Tryz.prog 61 #[Js s] w (RetE F w):=by
 have R:=Lh (Jh.new w #[Ji Jl 0,Jp Jn,Ji Jl 0,Jp Jn] 30);have Kk:=Lh ((M2 w.heap.size w).alloc (M0 _) (Jc #[Ji Jl 0,Jp Jn,Ji Jl 0,Jp Jn] 30));have HP:=Lh hP;have HF:=Lh hF;clear hP hF;go_enter Tryz.func61,Tryz.ntmps61;go_wp2_with fail
 refine HP.out.mono ?_;rintro e w1⟨a,P,b,Q,E,rfl,hv,h1⟩;have R:=Lh (R.out.keep h1);have Hv:=Lh (HF.out _ _ _ _ _ _ R.out hv);have K1:=Lh (JA (Jd Kk.out h1) (M0 w.heap.size) (Ji Jl a) (Jp P) (Ji Jl b) (Jp Q));clear hv h1;have k0:=R.out.c0;have k1:=R.out.c1;have k2:=R.out.c2;have k3:=R.out.c3;have f0:=R.out.fz 0;have f1:=R.out.fz 1;have f2:=R.out.fz 2;have f3:=R.out.fz 3;go_wp2;exact bodyPost_ret (v:= .tuple #[Ja #[Ji Jl a,Jp P,Ji Jl b,Jp Q],Ji Jl E]) (by simp[results,Tryz.results61,go_sem,k0,k1,k2,k3]) rfl ⟨a,P,b,Q,E,rfl,Hv.out,K1.out⟩
theorem Nh(s:ByteArray)(w:JW)(hs:s.size<=500)(hg:Good w):Calls Tryz.prog 61 #[Js s] w (RetE (FE s) w):=
 Ng s w (Ga s 65536 _ hs (by omega) (by decide) (hg.below ((M2 w.heap.size w).alloc (M0 _) _))) fun _ _ _ _ _ _ R h=>h.put R
def SL(w:JW)(A:Option Addr)(n:Nat)(l:List ByteArray):Prop:=
 l.length=n/\∀k s,l[k]?=some s->∃b o,A=some ⟨b,o,Jn⟩/\b<w.heap.size/\w.cell? ⟨b,o+k,Jn⟩=some (Js s)
theorem SL.keep{w w':JW}{A:Option Addr}{n:Nat}{l:List ByteArray}(h:SL w A n l)(hb:Below w.heap.size w w'):SL w' A n l:=
 ⟨h.1,fun k s hk=>let ⟨b,o,e,hlt,hc⟩:=h.2 k s hk;⟨b,o,e,M1 hlt hb.size,(hb.cell (p:=⟨b,o+k,Jn⟩) hlt).trans hc⟩⟩
theorem SL.at_{w:JW}{A:Option Addr}{n:Nat}{l:List ByteArray}(h:SL w A n l){k:Nat}(hk:k<n):∃s b o,l[k]?=some s/\A=some ⟨b,o,Jn⟩/\b<w.heap.size/\w.cell? ⟨b,o+k,Jn⟩=some (Js s):=by
 have hl:k<l.length:=by rw[h.1];exact hk
 obtain⟨b,o,e,hb,hc⟩:=h.2 k l[k] (M3 hl);exact⟨_,b,o,M3 hl,e,hb,hc⟩
def UJ(l:List ByteArray):List Value:=l.map Value.string
theorem SL.of_own{w:JW}{base n:Nat}{v:Value}{l:List ByteArray}(h:w.ownsRow base 22 1 v n (UJ l))(hl:l.length=n):∃A c,v= .slice A n c/\SL w A n l/\(A=Jn->n=0/\c=0)/\c<=maxLen:=by
 rcases h.2 with⟨rfl,rfl⟩|⟨g,cap,cur,rfl,hg,hh,hnc,hcm,hcs,hx⟩
 ·refine⟨Jn,0,rfl,⟨hl,fun k s hk=>?_⟩,fun _=>⟨rfl,rfl⟩,M4 _⟩;rw[List.eq_nil_of_length_eq_zero hl]at hk;cases hk
 ·refine⟨_,cap,rfl,⟨hl,fun k s hk=>⟨g,0,rfl,?_,?_⟩⟩,(fun h=>by cases h),hcm⟩
  ·rcases M5 g w.heap.size with h1|h1
   ·exact h1
   ·rw[Array.getElem?_eq_none h1]at hh;cases hh
  ·rw[cell_of_row _ _ _ _ _ _ hh,Nat.zero_add];have e:cur.toList[k]?=some (Js s):=by
    have hk2:k<n:=by
     rcases M5 k l.length with h1|h1
     ·omega
     ·rw[List.getElem?_eq_none h1]at hk;cases hk
    have e1:(cur.toList.take (n*1))[k]?=cur.toList[k]?:=List.getElem?_take_of_lt (by omega);rw[←e1,hx];unfold UJ;rw[List.getElem?_map,hk];rfl
   simpa using e
