/- C18: RatS Few ChkA Chk -/
import Derived.Test.YthhobhjcnmmipaaGreatDoorC16
import Derived.Test.YthhobhjcnmmipaaGreatDoorC17
import Derived.Deep.DeepCutAuto
import Derived.Test.YthhobhjcnmmipaaGreatDoorC15
set_option maxRecDepth 100000
set_option maxHeartbeats 16000000
namespace Go.Proofs.YthhobhjcnmmipaaGreatDoor
open Go.Value renaming pointer→Jp,int→Ji,agg→Ja
open Go.IntKind renaming i64→Jl
open Go.Obj renaming cells→Jc
open _root_.Option renaming none→Jn,some→Jo
open Go renaming World→JW
open Go.Act renaming put→E4
open _root_.Int renaming natAbs_natCast→E5,natAbs_ediv_le_natAbs→F0,natCast_mul→Fa,natAbs_neg→Fe,toNat_of_nonneg→Ff,natAbs_mul→Fj
open Go.RowKit.Below renaming refl→E6
open _root_.Nat renaming lt_of_le_of_lt→E7,lt_of_lt_of_le→E8,le_refl→E9,gcd→Fb,gcd_pos_of_pos_right→Fc,le_trans→Fg,gcd_le_right→Fh,div_le_self→Fi,zero_le→Fk
open _root_.Rat renaming divInt→EY
open _root_.And renaming intro→EZ
open Go.RowKit
theorem JP{w:JW}{p:Nat}{a:Int}{P:Option Addr}{b:Int}{Q:Option Addr}{z:Int}(h:Hold w p a P)(hi:Jj 0 w (Ja #[Ji Jl b,Jp Q]) z):Var ((w.setCell ⟨p,0,Jn⟩ (Ji Jl b)).setCell ⟨p,1,Jn⟩ (Jp Q)) p b Q z:=⟨(h.store b Q).c0,(h.store b Q).c1,(h.store b Q).lt,hi.held h _ _⟩
theorem Vo(p q:Rat):(p*q).num=p.num/((Fb p.num.natAbs q.den:Nat):Int)*(q.num/((Fb q.num.natAbs p.den:Nat):Int))/\(((p*q).den:Nat):Int)=(p.den:Int)/((Fb q.num.natAbs p.den:Nat):Int)*((q.den:Int)/((Fb p.num.natAbs q.den:Nat):Int)):=by
 have e:p*q=Rat.mul p q:=rfl;constructor
 ·rw[e];unfold Rat.mul;simp[Int.divExact_eq_ediv]
 ·rw[e];unfold Rat.mul;simp
theorem GX(p q:Rat):p*q=EY (p.num*q.num) ((p.den*q.den:Nat):Int):=by
 have e0:=Rat.divInt_mul_divInt p.num q.num (d₁:=p.den) (d₂:=q.den);rw[Ya,Ya]at e0;rw[e0,Fa]
theorem Um{z:Int}{g n:Nat}(h:z.natAbs<n):(z/(g:Int)).natAbs<n:=E7 (F0 z g) h
theorem Qz(a:Int)(P:Option Addr)(b:Int)(Q:Option Addr)(c:Int)(U:Option Addr)(d:Int)(V:Option Addr)(p q:Rat)(w:JW)(h:RatV w a P b Q p)(h':RatV w c U d V q)(hpn:p.num.natAbs<base 47)(hpd:p.den<base 47)(hqn:q.num.natAbs<base 47)(hqd:q.den<base 47)(hg:Good w) :
  Calls Tryz.prog 38 #[Ja #[Ji Jl a,Jp P,Ji Jl b,Jp Q],Ja #[Ji Jl c,Jp U,Ji Jl d,Jp V]] w (Qo (p*q) w):=by
 have kk:=(((E6 w.heap.size w).alloc (E9 _) (Jc #[Ji Jl a,Jp P,Ji Jl b,Jp Q] 31)).alloc (by simp) (Jc #[Ji Jl c,Jp U,Ji Jl d,Jp V] 31)).alloc (by simp;omega) (Jc #[Ji Jl 0,Jp Jn,Ji Jl 0,Jp Jn] 31);have V0:=Lh (((Qd w a P b Q).keep ((E6 _ _).alloc (E9 _) (Jc #[Ji Jl c,Jp U,Ji Jl d,Jp V] 31))).keep ((E6 _ _).alloc (E9 _) (Jc #[Ji Jl 0,Jp Jn,Ji Jl 0,Jp Jn] 31)));have V1:=Lh ((Qd (w.alloc (Jc #[Ji Jl a,Jp P,Ji Jl b,Jp Q] 31)) c U d V).keep ((E6 _ _).alloc (E9 _) (Jc #[Ji Jl 0,Jp Jn,Ji Jl 0,Jp Jn] 31)));have R:=Lh (Jh.new ((w.alloc (Jc #[Ji Jl a,Jp P,Ji Jl b,Jp Q] 31)).alloc (Jc #[Ji Jl c,Jp U,Ji Jl d,Jp V] 31)) #[Ji Jl 0,Jp Jn,Ji Jl 0,Jp Jn] 31);simp only[World.size_alloc]at V1 R;have HA:=Lh (Yd a P b Q p _ (h.keep kk));have HB:=Lh (fun w' (hb:Below w.heap.size w w')=>Yd c U d V q w' (h'.keep hb));have HP:=Lh (fun w' (hb:Below w.heap.size w w')=>h.keep hb);have HQ:=Lh (fun w' (hb:Below w.heap.size w w')=>h'.keep hb);have Hw:=Lh (fun w' (hb:Below w.heap.size w w')=>hg.below hb);have Kk:=Lh kk;have Bd:=Lh (EZ hpn (EZ hpd (EZ hqn hqd)));clear h h' kk hpn hpd hqn hqd hg;have c0:=V0.out.c0;have c1:=V0.out.c1;have c2:=V0.out.c2;have c3:=V0.out.c3;go_enter Tryz.func38,Tryz.ntmps38;go_wp2_with fail
 refine HA.out.mono ?_;rintro e w1⟨n1,d1,b1,rfl,h1,_,i1,j1,h3⟩;have V0:=Lh (V0.out.keep h3);have V1:=Lh (V1.out.keep h3);have R:=Lh (R.out.keep h3);have K1:=Lh (Jd Kk.out h3);have H1:=Lh (EZ i1 (EZ j1 h1));clear h1 h3 i1 j1 c0 c1 c2 c3;have c0:=V1.out.c0;have c1:=V1.out.c1;have c2:=V1.out.c2;have c3:=V1.out.c3;go_wp2_with fail
 refine(HB.out _ K1.out).mono ?_;rintro e w2⟨n2,d2,b2,rfl,h1,_,i1,j1,h3⟩;have V0:=Lh (V0.out.keep h3);have V1:=Lh (V1.out.keep h3);have R:=Lh (R.out.keep h3);have K2:=Lh (Jd K1.out h3);have H2:=Lh (EZ i1 (EZ j1 h1));clear h1 h3 i1 j1 c0 c1 c2 c3;have HC:=Lh (fun w'=>QQ n1 d1 w');have HD:=Lh (fun w'=>QQ n2 d2 w');obtain⟨s1,hs1⟩:∃t,QC n1 d1=t:=⟨_,rfl⟩;obtain⟨s2,hs2⟩:∃t,QC n2 d2=t:=⟨_,rfl⟩;rw[hs1]at HC;rw[hs2]at HD;have Hs1:=Lh hs1;have Hs2:=Lh hs2;clear hs1 hs2;go_upto_region 3 with fail
 go_cut [41] (fun s wx=>s= .bool (b1 && b2 && s1 && s2)/\wx=w2)
 case first=>
  cases b1 with
  | false=>
   go_wp2_with fail
   go_meet;exact⟨rfl,rfl⟩
  | true=>
   cases b2 with
   | false=>
    go_wp2_with fail
    go_meet;exact⟨rfl,rfl⟩
   | true=>
    cases s1 with
    | false=>
     go_wp2_with fail
     refine(HC.out _).mono ?_;rintro e w3⟨rfl,rfl⟩;go_wp2_with fail
     go_meet;exact⟨rfl,rfl⟩
    | true=>
     go_wp2_with fail
     refine(HC.out _).mono ?_;rintro e w3⟨rfl,rfl⟩;go_wp2_with fail
     refine(HD.out _).mono ?_;rintro e w3⟨rfl,rfl⟩;go_wp2_with fail
     go_meet;exact⟨rfl,rfl⟩
 case rest=>
  obtain⟨rfl,rfl⟩:=hcut;generalize wc=wm at *
  cases hB:(b1 && b2 && s1 && s2)with
  | true=>
   obtain⟨⟨⟨rfl,rfl⟩,rfl⟩,rfl⟩:((b1=true/\b2=true)/\s1=true)/\s2=true:=by simpa only[Bool.and_eq_true]using hB
   clear hB;obtain⟨_,_,h1⟩:=H1.out;obtain⟨_,_,h2⟩:=H2.out;obtain⟨e1,e2⟩:=h1 rfl;obtain⟨e3,e4⟩:=h2 rfl;obtain⟨u1,u2,u3⟩:=Yy Hs1.out;obtain⟨z1,z2,z3⟩:=Yy Hs2.out;have pp:=p.den_pos;have qp:=q.den_pos;obtain⟨m5,m6⟩:=Uk (x:=d1) (y:=d2) (by omega) (by omega) (by omega) (by omega);have m7:0<d1*d2:=Int.mul_pos (by omega) (by omega);have m8:(n1*n2).natAbs<=4611686014132420609:=by
    rw[Fj];exact Fg (Nat.mul_le_mul (show n1.natAbs<=2147483647 by omega) (show n2.natAbs<=2147483647 by omega)) (by decide)
   have Hsum:=Lh (show p*q=EY (n1*n2) (((d1*d2).toNat:Nat):Int) by
    rw [GX p q,e1,e3,Ff (by omega),e2,e4,Fa])
   have e9:d1*d2=(((d1*d2).toNat:Nat):Int):=by rw[Ff (by omega)]
   clear h1 h2 e1 e2 e3 e4 u1 u2 u3 z1 z2 z3 pp qp;obtain⟨x1,hx1⟩:∃x,n1*n2=x:=⟨_,rfl⟩;obtain⟨x3,hx3⟩:∃x,d1*d2=x:=⟨_,rfl⟩;rw[hx1]at m8;rw[hx3]at m5 m6 m7;rw[hx1,hx3]at Hsum;rw[hx3]at e9;have m9:-9223372036854775808<=x1/\x1<=9223372036854775807:=by omega
   obtain⟨m9,m10⟩:=m9;have HO:=Lh (fun w'=>Ux x1 x3.toNat w' (by omega) (by omega) (by omega));rw[←e9]at HO Hsum;clear e9 m8;go_wp2_with fail
   refine(HO.out _).mono ?_;rintro e w5⟨xa,xP,xb,xQ,rfl,hv,h5⟩;have R:=Lh (R.out.keep h5);have Hv:=Lh (hv.wrote R.out (by rfl) (Jk w5 (w.heap.size+1+1) (Ji Jl xa) (Jp xP) (Ji Jl xb) (Jp xQ)).1 (Jk _ _ _ _ _ _).2);have K5:=Lh (JC (Jd K2.out h5) (show w.heap.size<=w.heap.size+1+1 by omega) (Ji Jl xa) (Jp xP) (Ji Jl xb) (Jp xQ));clear h5 hv;have k0:=R.out.c0;have k1:=R.out.c1;have k2:=R.out.c2;have k3:=R.out.c3;have f0:=R.out.fz 0;have f1:=R.out.fz 1;have f2:=R.out.fz 2;have f3:=R.out.fz 3;go_wp2;exact bodyPost_ret (v:=Ja #[Ji Jl xa,Jp xP,Ji Jl xb,Jp xQ]) (by simp[results,Tryz.results38,go_sem,k0,k1,k2,k3]) rfl ⟨xa,xP,xb,xQ,rfl,by rw[Hsum.out];exact Hv.out,K5.out⟩
  | false=>
   have HS:=Lh (fun w' (hb:Below wm.heap.size wm w')=>(⟨(V0.out.keep hb).c0,(V0.out.keep hb).c1,(V0.out.keep hb).c2,(V0.out.keep hb).c3,(V1.out.keep hb).c0,(V1.out.keep hb).c1,(V1.out.keep hb).c2,(V1.out.keep hb).c3⟩:w'.cell? ⟨w.heap.size,0,Jn⟩=Jo (Ji Jl a)/\w'.cell? ⟨w.heap.size,1,Jn⟩=Jo (Jp P)/\w'.cell? ⟨w.heap.size,2,Jn⟩=Jo (Ji Jl b)/\w'.cell? ⟨w.heap.size,3,Jn⟩=Jo (Jp Q)/\w'.cell? ⟨w.heap.size+1,0,Jn⟩=Jo (Ji Jl c)/\w'.cell? ⟨w.heap.size+1,1,Jn⟩=Jo (Jp U)/\w'.cell? ⟨w.heap.size+1,2,Jn⟩=Jo (Ji Jl d)/\w'.cell? ⟨w.heap.size+1,3,Jn⟩=Jo (Jp V)));have HD1:=Lh (fun v (hb:Below wm.heap.size wm v)=>QU a P b Q p v (HP.out v (Jd K2.out hb)));have HD2:=Lh (fun v (hb:Below wm.heap.size wm v)=>QU c U d V q v (HQ.out v (Jd K2.out hb)));clear hB;go_upto_region 5 with fail
   go_cut [11,12] (fun s s' wx=>∃(p11:Nat) (x:Int) (X:Option Addr) (p12:Nat) (y:Int) (Y:Option Addr),s=Jp (Jo ⟨p11,0,Jn⟩)/\s'=Jp (Jo ⟨p12,0,Jn⟩)/\Var wx p11 x X (p.den:Int)/\Var wx p12 y Y (q.den:Int)/\p11≠p12/\wm.heap.size<=p11/\wm.heap.size<=p12/\Below wm.heap.size wm wx)
   case first=>
    refine Till.begin 7 (fun w'=>w'.cell? ⟨w.heap.size,0,Jn⟩=Jo (Ji Jl a)/\w'.cell? ⟨w.heap.size,1,Jn⟩=Jo (Jp P)/\w'.cell? ⟨w.heap.size,2,Jn⟩=Jo (Ji Jl b)/\w'.cell? ⟨w.heap.size,3,Jn⟩=Jo (Jp Q)/\w'.cell? ⟨w.heap.size+1,0,Jn⟩=Jo (Ji Jl c)/\w'.cell? ⟨w.heap.size+1,1,Jn⟩=Jo (Jp U)/\w'.cell? ⟨w.heap.size+1,2,Jn⟩=Jo (Ji Jl d)/\w'.cell? ⟨w.heap.size+1,3,Jn⟩=Jo (Jp V)) (by kernel_rfl) (HS.out _ (E6 _ _).drew) (fun hH=>?_);refine Till.tk 0 1 49 (Ja #[Ji Jl a,Jp P,Ji Jl b,Jp Q]) hH ?_;try simp only[E4,Pls]
    refine Till.tk 2 3 51 (Ja #[Ji Jl c,Jp U,Ji Jl d,Jp V]) hH ?_;try simp only[E4,Pls]
    clear hH;have B0:=Lh (E6 wm.heap.size wm).drew;generalize wm.drew=v0 at B0 ⊢;refine Till.phase [1,3,4,5] #[true,true,true,true,true,true,false,false] 2 (fun a0 d a v=>∃t1 t3 t4 t5:Value,a=puts a0 [(50,t1),(52,t3),(11,t4),(12,t5)]/\Below wm.heap.size wm v/\(d 1=true->Qh v t1 ((p.den:Int)))/\(d 3=true->Qh v t3 ((q.den:Int)))/\(d 4=true->PtrI wm.heap.size v t4)/\(d 5=true->PtrI wm.heap.size v t5)/\(d 4=true->d 5=true->t4≠t5)) rfl (by kernel_rfl) (by rintro d a v ⟨_,_,_,_,rfl,hB,_⟩;exact HS.out _ hB) ⟨_,_,_,_,rfl,B0.out,(fun h=>absurd h (by decide)),(fun h=>absurd h (by decide)),(fun h=>absurd h (by decide)),(fun h=>absurd h (by decide)),(fun h=>absurd h (by decide))⟩ ⟨⟨_,rfl,?_⟩,⟨_,rfl,?_⟩,⟨_,rfl,?_⟩,⟨_,rfl,?_⟩,trivial⟩ ?_
    ·rintro d a v⟨t1,t3,t4,t5,rfl,hB,F1,F3,F4,F5,D4_5⟩ _ ha K hK;replace hB:=Lh hB;replace F1:=Lh F1;replace F3:=Lh F3;replace F4:=Lh F4;replace F5:=Lh F5;replace D4_5:=Lh D4_5;clear ha;try simp only[puts,E4,Pls]
     go_simp;refine(HD1.out _ hB.out).mono ?_;rintro e v1⟨x1,X1,rfl,hx,g⟩;replace hx:=Lh hx;replace g:=Lh g;go_wp2_with fail
     exact hK.out _ _ ⟨Ja #[Ji Jl x1,Jp X1],t3,t4,t5,rfl,Jd hB.out g.out,fun _=>⟨x1,X1,rfl,hx.out⟩,fun h=>(F3.out h).keep g.out,fun h=>(F4.out h).keep g.out,fun h=>(F5.out h).keep g.out,fun h h2=>D4_5.out h h2⟩
    ·rintro d a v⟨t1,t3,t4,t5,rfl,hB,F1,F3,F4,F5,D4_5⟩ _ ha K hK;obtain⟨x1,X1,rfl,I1⟩:=F1 (ha 1 (by kernel_rfl));replace hB:=Lh hB;replace F1:=Lh F1;replace F3:=Lh F3;replace F4:=Lh F4;replace F5:=Lh F5;replace I1:=Lh I1;replace D4_5:=Lh D4_5;clear ha;try simp only[puts,E4,Pls]
     go_simp;refine(HD2.out _ hB.out).mono ?_;rintro e v1⟨x3,X3,rfl,hx,g⟩;replace hx:=Lh hx;replace g:=Lh g;go_wp2_with fail
     exact hK.out _ _ ⟨Ja #[Ji Jl x1,Jp X1],Ja #[Ji Jl x3,Jp X3],t4,t5,rfl,Jd hB.out g.out,fun h=>(F1.out h).keep g.out,fun _=>⟨x3,X3,rfl,hx.out⟩,fun h=>(F4.out h).keep g.out,fun h=>(F5.out h).keep g.out,fun h h2=>D4_5.out h h2⟩
    ·rintro d a v⟨t1,t3,t4,t5,rfl,hB,F1,F3,F4,F5,D4_5⟩ _ ha K hK;replace hB:=Lh hB;replace F1:=Lh F1;replace F3:=Lh F3;replace F4:=Lh F4;replace F5:=Lh F5;replace D4_5:=Lh D4_5;clear ha;try simp only[puts,E4,Pls]
     have g:=Lh ((E6 v.heap.size v).alloc (E9 _) (Jc #[Ji Jl 0,Jp Jn] 29));go_simp;exact hK.out _ _ ⟨t1,t3,Jp (Jo ⟨v.heap.size,0,Jn⟩),t5,rfl,Jd hB.out g.out,fun h=>(F1.out h).keep g.out,fun h=>(F3.out h).keep g.out,fun _=>⟨v.heap.size,rfl,hB.out.size,Hold.new v 0 Jn⟩,fun h=>(F5.out h).keep g.out,fun _ h=>((F5.out h).ne).symm⟩
    ·rintro d a v⟨t1,t3,t4,t5,rfl,hB,F1,F3,F4,F5,D4_5⟩ _ ha K hK;replace hB:=Lh hB;replace F1:=Lh F1;replace F3:=Lh F3;replace F4:=Lh F4;replace F5:=Lh F5;replace D4_5:=Lh D4_5;clear ha;try simp only[puts,E4,Pls]
     have g:=Lh ((E6 v.heap.size v).alloc (E9 _) (Jc #[Ji Jl 0,Jp Jn] 29));go_simp;exact hK.out _ _ ⟨t1,t3,t4,Jp (Jo ⟨v.heap.size,0,Jn⟩),rfl,Jd hB.out g.out,fun h=>(F1.out h).keep g.out,fun h=>(F3.out h).keep g.out,fun h=>(F4.out h).keep g.out,fun _=>⟨v.heap.size,rfl,hB.out.size,Hold.new v 0 Jn⟩,fun h _=>(F4.out h).ne⟩
    ·rintro d a v⟨t1,t3,t4,t5,rfl,hB,F1,F3,F4,F5,D4_5⟩ hE;obtain⟨x1,X1,rfl,I1⟩:=F1 (hE 1 (by decide));obtain⟨x3,X3,rfl,I3⟩:=F3 (hE 3 (by decide));obtain⟨p4,rfl,le4,N4⟩:=F4 (hE 4 (by decide));obtain⟨p5,rfl,le5,N5⟩:=F5 (hE 5 (by decide));have ne4_5:p4≠p5:=fun h=>D4_5 (hE 4 (by decide)) (hE 5 (by decide)) (by rw[h]);have ne5_4:p5≠p4:=Ne.symm ne4_5;clear hE F1 F3 F4 F5 D4_5;replace hB:=Lh hB;replace I1:=Lh I1;replace I3:=Lh I3;replace N4:=Lh N4;replace N5:=Lh N5;try simp only[puts,E4,Pls]
     have k40:=N4.out.c0;have k41:=N4.out.c1;have f40:=N4.out.f0;have f41:=N4.out.f1;have k50:=N5.out.c0;have k51:=N5.out.c1;have f50:=N5.out.f0;have f51:=N5.out.f1;refine Till.one (i:=6) (by kernel_rfl) rfl (fun K hK=>?_);go_simp;refine hK.out _ _ (fun _=>HS.out _ (Jg hB.out le4 (Ji Jl x1) (Jp X1))) ?_;clear hK K;try simp only[Pls]
     refine Till.one (i:=7) (by kernel_rfl) rfl (fun K hK=>?_);go_simp;refine hK.out _ _ (fun h=>absurd h (by simp)) ?_;clear hK K;try simp only[Pls]
     refine Till.done (by kernel_rfl) ?_ _;go_wp2_with fail
     go_meet;exact⟨p4,x1,X1,p5,x3,X3,rfl,rfl,(JP N4.out I1.out).held (N5.out.other ne5_4 (Ji Jl x1) (Jp X1)) ne4_5 (Ji Jl x3) (Jp X3),JP (N5.out.other ne5_4 (Ji Jl x1) (Jp X1)) (I3.out.held N4.out _ _),ne4_5,le4,le5,Jg (Jg hB.out le4 (Ji Jl x1) (Jp X1)) le5 (Ji Jl x3) (Jp X3)⟩
   case rest=>
    obtain⟨p11,x1,X1,p12,y1,Y1,rfl,rfl,hv1,hv2,hne,le11,le12,hb⟩:=hcut;have V0:=Lh (V0.out.keep hb);have V1:=Lh (V1.out.keep hb);have R:=Lh (R.out.keep hb);have K3:=Lh (Jd K2.out hb);have A1:=Lh hv1;have A2:=Lh hv2;have l11:=Lh (E8 R.out.lt (E9 _));clear hv1 hv2 hb HS HD1 HD2 hne le11 le12 l11;generalize wc=wn at *
    have HS:=Lh (fun w' (hb:Below wn.heap.size wn w')=>(⟨(V0.out.keep hb).c0,(V0.out.keep hb).c1,(V0.out.keep hb).c2,(V0.out.keep hb).c3,(V1.out.keep hb).c0,(V1.out.keep hb).c1,(V1.out.keep hb).c2,(V1.out.keep hb).c3,(A1.out.keep hb).c0,(A1.out.keep hb).c1,(A2.out.keep hb).c0,(A2.out.keep hb).c1⟩:w'.cell? ⟨w.heap.size,0,Jn⟩=Jo (Ji Jl a)/\w'.cell? ⟨w.heap.size,1,Jn⟩=Jo (Jp P)/\w'.cell? ⟨w.heap.size,2,Jn⟩=Jo (Ji Jl b)/\w'.cell? ⟨w.heap.size,3,Jn⟩=Jo (Jp Q)/\w'.cell? ⟨w.heap.size+1,0,Jn⟩=Jo (Ji Jl c)/\w'.cell? ⟨w.heap.size+1,1,Jn⟩=Jo (Jp U)/\w'.cell? ⟨w.heap.size+1,2,Jn⟩=Jo (Ji Jl d)/\w'.cell? ⟨w.heap.size+1,3,Jn⟩=Jo (Jp V)/\w'.cell? ⟨p11,0,Jn⟩=Jo (Ji Jl x1)/\w'.cell? ⟨p11,1,Jn⟩=Jo (Jp X1)/\w'.cell? ⟨p12,0,Jn⟩=Jo (Ji Jl y1)/\w'.cell? ⟨p12,1,Jn⟩=Jo (Jp Y1)));obtain⟨hpn,hpd,hqn,hqd⟩:=Bd.out;have HG1:=Lh (fun v (hb:Below wn.heap.size wn v)=>YC a y1 P Y1 p.num (q.den:Int) v (HP.out v (Jd K3.out hb)).num (A2.out.keep hb).int (Jq hpn (by decide)) (by rw[E5];exact Jq hqd (by decide)) (Hw.out v (Jd K3.out hb)).2 (E7 (Fk _) (A2.out.keep hb).lt));have HG2:=Lh (fun v (hb:Below wn.heap.size wn v)=>YC c x1 U X1 q.num (p.den:Int) v (HQ.out v (Jd K3.out hb)).num (A1.out.keep hb).int (Jq hqn (by decide)) (by rw[E5];exact Jq hpd (by decide)) (Hw.out v (Jd K3.out hb)).2 (E7 (Fk _) (A1.out.keep hb).lt));simp only[E5]at HG1 HG2;obtain⟨g1,hg1⟩:∃g,Fb p.num.natAbs q.den=g:=⟨_,rfl⟩;obtain⟨g2,hg2⟩:∃g,Fb q.num.natAbs p.den=g:=⟨_,rfl⟩;have g1p:0<g1:=by rw[←hg1];exact Fc _ q.den_pos
    have g2p:0<g2:=by rw[←hg2];exact Fc _ p.den_pos
    have g1l:((g1:Nat):Int).natAbs<base 390:=by rw[E5,←hg1];exact E7 (Fh _ q.den_pos) (Jq hqd (by decide))
    have g2l:((g2:Nat):Int).natAbs<base 390:=by rw[E5,←hg2];exact E7 (Fh _ p.den_pos) (Jq hpd (by decide))
    obtain⟨hm1,hm2⟩:=Vo p q;rw[hg1,hg2]at hm1 hm2;rw[hg1]at HG1;rw[hg2]at HG2;have Hm1:=Lh hm1;have Hm2:=Lh hm2;have G:=Lh (EZ (show 0<(g1:Int)by omega) (EZ (show 0<(g2:Int)by omega) (EZ g1l g2l)));clear hpn hpd hqn hqd hg1 hg2 g1p g2p g1l g2l hm1 hm2;go_upto_region 6 with fail
    go_cut [13,14] (fun s s' wx=>∃(p11:Nat) (x:Int) (X:Option Addr) (p12:Nat) (y:Int) (Y:Option Addr),s=Jp (Jo ⟨p11,0,Jn⟩)/\s'=Jp (Jo ⟨p12,0,Jn⟩)/\Var wx p11 x X (g1:Int)/\Var wx p12 y Y (g2:Int)/\p11≠p12/\wn.heap.size<=p11/\wn.heap.size<=p12/\Below wn.heap.size wn wx)
    case first=>
     refine Till.begin 11 (fun w'=>w'.cell? ⟨w.heap.size,0,Jn⟩=Jo (Ji Jl a)/\w'.cell? ⟨w.heap.size,1,Jn⟩=Jo (Jp P)/\w'.cell? ⟨w.heap.size,2,Jn⟩=Jo (Ji Jl b)/\w'.cell? ⟨w.heap.size,3,Jn⟩=Jo (Jp Q)/\w'.cell? ⟨w.heap.size+1,0,Jn⟩=Jo (Ji Jl c)/\w'.cell? ⟨w.heap.size+1,1,Jn⟩=Jo (Jp U)/\w'.cell? ⟨w.heap.size+1,2,Jn⟩=Jo (Ji Jl d)/\w'.cell? ⟨w.heap.size+1,3,Jn⟩=Jo (Jp V)/\w'.cell? ⟨p11,0,Jn⟩=Jo (Ji Jl x1)/\w'.cell? ⟨p11,1,Jn⟩=Jo (Jp X1)/\w'.cell? ⟨p12,0,Jn⟩=Jo (Ji Jl y1)/\w'.cell? ⟨p12,1,Jn⟩=Jo (Jp Y1)) (by kernel_rfl) (HS.out _ (E6 _ _).drew) (fun hH=>?_);refine Till.tk 0 1 53 (Jp (Jo ⟨w.heap.size,0,Jn⟩)) hH ?_;try simp only[E4,Pls]
     refine Till.tk 1 3 54 (Ja #[Ji Jl a,Jp P]) hH ?_;try simp only[E4,Pls]
     refine Till.tk 2 3 55 (Ja #[Ji Jl y1,Jp Y1]) hH ?_;try simp only[E4,Pls]
     refine Till.tk 4 5 57 (Jp (Jo ⟨w.heap.size+1,0,Jn⟩)) hH ?_;try simp only[E4,Pls]
     refine Till.tk 5 7 58 (Ja #[Ji Jl c,Jp U]) hH ?_;try simp only[E4,Pls]
     refine Till.tk 6 7 59 (Ja #[Ji Jl x1,Jp X1]) hH ?_;try simp only[E4,Pls]
     clear hH;have B0:=Lh (E6 wn.heap.size wn).drew;generalize wn.drew=v0 at B0 ⊢;refine Till.phase [3,7,8,9] #[true,true,true,true,true,true,true,true,true,true,false,false] 2 (fun a0 d a v=>∃t3 t7 t8 t9:Value,a=puts a0 [(56,t3),(60,t7),(13,t8),(14,t9)]/\Below wn.heap.size wn v/\(d 3=true->Qh v t3 ((g1:Int)))/\(d 7=true->Qh v t7 ((g2:Int)))/\(d 8=true->PtrI wn.heap.size v t8)/\(d 9=true->PtrI wn.heap.size v t9)/\(d 8=true->d 9=true->t8≠t9)) rfl (by kernel_rfl) (by rintro d a v ⟨_,_,_,_,rfl,hB,_⟩;exact HS.out _ hB) ⟨_,_,_,_,rfl,B0.out,(fun h=>absurd h (by decide)),(fun h=>absurd h (by decide)),(fun h=>absurd h (by decide)),(fun h=>absurd h (by decide)),(fun h=>absurd h (by decide))⟩ ⟨⟨_,rfl,?_⟩,⟨_,rfl,?_⟩,⟨_,rfl,?_⟩,⟨_,rfl,?_⟩,trivial⟩ ?_
     ·rintro d a v⟨t3,t7,t8,t9,rfl,hB,F3,F7,F8,F9,D8_9⟩ _ ha K hK;replace hB:=Lh hB;replace F3:=Lh F3;replace F7:=Lh F7;replace F8:=Lh F8;replace F9:=Lh F9;replace D8_9:=Lh D8_9;clear ha;try simp only[puts,E4,Pls]
      go_simp;refine(HG1.out _ hB.out).mono ?_;rintro e v1⟨x3,X3,rfl,hx,g⟩;replace hx:=Lh hx;replace g:=Lh g;go_wp2_with fail
      exact hK.out _ _ ⟨Ja #[Ji Jl x3,Jp X3],t7,t8,t9,rfl,Jd hB.out g.out,fun _=>⟨x3,X3,rfl,hx.out⟩,fun h=>(F7.out h).keep g.out,fun h=>(F8.out h).keep g.out,fun h=>(F9.out h).keep g.out,fun h h2=>D8_9.out h h2⟩
     ·rintro d a v⟨t3,t7,t8,t9,rfl,hB,F3,F7,F8,F9,D8_9⟩ _ ha K hK;obtain⟨x3,X3,rfl,I3⟩:=F3 (ha 3 (by kernel_rfl));replace hB:=Lh hB;replace F3:=Lh F3;replace F7:=Lh F7;replace F8:=Lh F8;replace F9:=Lh F9;replace I3:=Lh I3;replace D8_9:=Lh D8_9;clear ha;try simp only[puts,E4,Pls]
      go_simp;refine(HG2.out _ hB.out).mono ?_;rintro e v1⟨x7,X7,rfl,hx,g⟩;replace hx:=Lh hx;replace g:=Lh g;go_wp2_with fail
      exact hK.out _ _ ⟨Ja #[Ji Jl x3,Jp X3],Ja #[Ji Jl x7,Jp X7],t8,t9,rfl,Jd hB.out g.out,fun h=>(F3.out h).keep g.out,fun _=>⟨x7,X7,rfl,hx.out⟩,fun h=>(F8.out h).keep g.out,fun h=>(F9.out h).keep g.out,fun h h2=>D8_9.out h h2⟩
     ·rintro d a v⟨t3,t7,t8,t9,rfl,hB,F3,F7,F8,F9,D8_9⟩ _ ha K hK;replace hB:=Lh hB;replace F3:=Lh F3;replace F7:=Lh F7;replace F8:=Lh F8;replace F9:=Lh F9;replace D8_9:=Lh D8_9;clear ha;try simp only[puts,E4,Pls]
      have g:=Lh ((E6 v.heap.size v).alloc (E9 _) (Jc #[Ji Jl 0,Jp Jn] 29));go_simp;exact hK.out _ _ ⟨t3,t7,Jp (Jo ⟨v.heap.size,0,Jn⟩),t9,rfl,Jd hB.out g.out,fun h=>(F3.out h).keep g.out,fun h=>(F7.out h).keep g.out,fun _=>⟨v.heap.size,rfl,hB.out.size,Hold.new v 0 Jn⟩,fun h=>(F9.out h).keep g.out,fun _ h=>((F9.out h).ne).symm⟩
     ·rintro d a v⟨t3,t7,t8,t9,rfl,hB,F3,F7,F8,F9,D8_9⟩ _ ha K hK;replace hB:=Lh hB;replace F3:=Lh F3;replace F7:=Lh F7;replace F8:=Lh F8;replace F9:=Lh F9;replace D8_9:=Lh D8_9;clear ha;try simp only[puts,E4,Pls]
      have g:=Lh ((E6 v.heap.size v).alloc (E9 _) (Jc #[Ji Jl 0,Jp Jn] 29));go_simp;exact hK.out _ _ ⟨t3,t7,t8,Jp (Jo ⟨v.heap.size,0,Jn⟩),rfl,Jd hB.out g.out,fun h=>(F3.out h).keep g.out,fun h=>(F7.out h).keep g.out,fun h=>(F8.out h).keep g.out,fun _=>⟨v.heap.size,rfl,hB.out.size,Hold.new v 0 Jn⟩,fun h _=>(F8.out h).ne⟩
     ·rintro d a v⟨t3,t7,t8,t9,rfl,hB,F3,F7,F8,F9,D8_9⟩ hE;obtain⟨x3,X3,rfl,I3⟩:=F3 (hE 3 (by decide));obtain⟨x7,X7,rfl,I7⟩:=F7 (hE 7 (by decide));obtain⟨p8,rfl,le8,N8⟩:=F8 (hE 8 (by decide));obtain⟨p9,rfl,le9,N9⟩:=F9 (hE 9 (by decide));have ne8_9:p8≠p9:=fun h=>D8_9 (hE 8 (by decide)) (hE 9 (by decide)) (by rw[h]);have ne9_8:p9≠p8:=Ne.symm ne8_9;clear hE F3 F7 F8 F9 D8_9;replace hB:=Lh hB;replace I3:=Lh I3;replace I7:=Lh I7;replace N8:=Lh N8;replace N9:=Lh N9;try simp only[puts,E4,Pls]
      have k80:=N8.out.c0;have k81:=N8.out.c1;have f80:=N8.out.f0;have f81:=N8.out.f1;have k90:=N9.out.c0;have k91:=N9.out.c1;have f90:=N9.out.f0;have f91:=N9.out.f1;refine Till.one (i:=10) (by kernel_rfl) rfl (fun K hK=>?_);go_simp;refine hK.out _ _ (fun _=>HS.out _ (Jg hB.out le8 (Ji Jl x3) (Jp X3))) ?_;clear hK K;try simp only[Pls]
      refine Till.one (i:=11) (by kernel_rfl) rfl (fun K hK=>?_);go_simp;refine hK.out _ _ (fun h=>absurd h (by simp)) ?_;clear hK K;try simp only[Pls]
      refine Till.done (by kernel_rfl) ?_ _;go_wp2_with fail
      go_meet;exact⟨p8,x3,X3,p9,x7,X7,rfl,rfl,(JP N8.out I3.out).held (N9.out.other ne9_8 (Ji Jl x3) (Jp X3)) ne8_9 (Ji Jl x7) (Jp X7),JP (N9.out.other ne9_8 (Ji Jl x3) (Jp X3)) (I7.out.held N8.out _ _),ne8_9,le8,le9,Jg (Jg hB.out le8 (Ji Jl x3) (Jp X3)) le9 (Ji Jl x7) (Jp X7)⟩
    case rest=>
     obtain⟨p13,x2,X2,p14,y2,Y2,rfl,rfl,hv1,hv2,hne,le11,le12,hb⟩:=hcut;have V0:=Lh (V0.out.keep hb);have V1:=Lh (V1.out.keep hb);have R:=Lh (R.out.keep hb);have A1:=Lh (A1.out.keep hb);have A2:=Lh (A2.out.keep hb);have K4:=Lh (Jd K3.out hb);have A3:=Lh hv1;have A4:=Lh hv2;clear hv1 hv2 hb HS HG1 HG2 hne le11 le12;generalize wc=wo at *
     have HS:=Lh (fun w' (hb:Below wo.heap.size wo w')=>(⟨(V0.out.keep hb).c0,(V0.out.keep hb).c1,(V0.out.keep hb).c2,(V0.out.keep hb).c3,(V1.out.keep hb).c0,(V1.out.keep hb).c1,(V1.out.keep hb).c2,(V1.out.keep hb).c3,(A1.out.keep hb).c0,(A1.out.keep hb).c1,(A2.out.keep hb).c0,(A2.out.keep hb).c1,(A3.out.keep hb).c0,(A3.out.keep hb).c1,(A4.out.keep hb).c0,(A4.out.keep hb).c1⟩:w'.cell? ⟨w.heap.size,0,Jn⟩=Jo (Ji Jl a)/\w'.cell? ⟨w.heap.size,1,Jn⟩=Jo (Jp P)/\w'.cell? ⟨w.heap.size,2,Jn⟩=Jo (Ji Jl b)/\w'.cell? ⟨w.heap.size,3,Jn⟩=Jo (Jp Q)/\w'.cell? ⟨w.heap.size+1,0,Jn⟩=Jo (Ji Jl c)/\w'.cell? ⟨w.heap.size+1,1,Jn⟩=Jo (Jp U)/\w'.cell? ⟨w.heap.size+1,2,Jn⟩=Jo (Ji Jl d)/\w'.cell? ⟨w.heap.size+1,3,Jn⟩=Jo (Jp V)/\w'.cell? ⟨p11,0,Jn⟩=Jo (Ji Jl x1)/\w'.cell? ⟨p11,1,Jn⟩=Jo (Jp X1)/\w'.cell? ⟨p12,0,Jn⟩=Jo (Ji Jl y1)/\w'.cell? ⟨p12,1,Jn⟩=Jo (Jp Y1)/\w'.cell? ⟨p13,0,Jn⟩=Jo (Ji Jl x2)/\w'.cell? ⟨p13,1,Jn⟩=Jo (Jp X2)/\w'.cell? ⟨p14,0,Jn⟩=Jo (Ji Jl y2)/\w'.cell? ⟨p14,1,Jn⟩=Jo (Jp Y2)));obtain⟨hpn,hpd,hqn,hqd⟩:=Bd.out;obtain⟨g1p,g2p,g1l,g2l⟩:=G.out;have HQ1:=Lh (fun v (hb:Below wo.heap.size wo v)=>JM a P x2 X2 p.num (g1:Int) v (HP.out v (Jd K4.out hb)).num (A3.out.keep hb).int g1p (Jq hpn (by decide)) g1l);have HQ2:=Lh (fun v (hb:Below wo.heap.size wo v)=>JM c U y2 Y2 q.num (g2:Int) v (HQ.out v (Jd K4.out hb)).num (A4.out.keep hb).int g2p (Jq hqn (by decide)) g2l);have HM:=Lh (fun x X y Y v (hx:Jj 0 v (Ja #[Ji Jl x,Jp X]) (p.num/(g1:Int))) (hy:Jj 0 v (Ja #[Ji Jl y,Jp Y]) (q.num/(g2:Int)))=>Q6 x y X Y _ _ v hx hy (Jq (Um hpn) (by decide)) (Jq (Um hqn) (by decide)) (.inl (Um hpn)))
     rw[←Hm1.out]at HM;clear hpn hpd hqn hqd g1p g2p g1l g2l;go_upto_region 7 with fail
     go_cut [15] (fun s wx=>∃(p11:Nat) (x:Int) (X:Option Addr),s=Jp (Jo ⟨p11,0,Jn⟩)/\Var wx p11 x X (p*q).num/\wo.heap.size<=p11/\Below wo.heap.size wo wx)
     case first=>
      refine Till.begin 10 (fun w'=>w'.cell? ⟨w.heap.size,0,Jn⟩=Jo (Ji Jl a)/\w'.cell? ⟨w.heap.size,1,Jn⟩=Jo (Jp P)/\w'.cell? ⟨w.heap.size,2,Jn⟩=Jo (Ji Jl b)/\w'.cell? ⟨w.heap.size,3,Jn⟩=Jo (Jp Q)/\w'.cell? ⟨w.heap.size+1,0,Jn⟩=Jo (Ji Jl c)/\w'.cell? ⟨w.heap.size+1,1,Jn⟩=Jo (Jp U)/\w'.cell? ⟨w.heap.size+1,2,Jn⟩=Jo (Ji Jl d)/\w'.cell? ⟨w.heap.size+1,3,Jn⟩=Jo (Jp V)/\w'.cell? ⟨p11,0,Jn⟩=Jo (Ji Jl x1)/\w'.cell? ⟨p11,1,Jn⟩=Jo (Jp X1)/\w'.cell? ⟨p12,0,Jn⟩=Jo (Ji Jl y1)/\w'.cell? ⟨p12,1,Jn⟩=Jo (Jp Y1)/\w'.cell? ⟨p13,0,Jn⟩=Jo (Ji Jl x2)/\w'.cell? ⟨p13,1,Jn⟩=Jo (Jp X2)/\w'.cell? ⟨p14,0,Jn⟩=Jo (Ji Jl y2)/\w'.cell? ⟨p14,1,Jn⟩=Jo (Jp Y2)) (by kernel_rfl) (HS.out _ (E6 _ _).drew) (fun hH=>?_);refine Till.tk 0 1 61 (Jp (Jo ⟨w.heap.size,0,Jn⟩)) hH ?_;try simp only[E4,Pls]
      refine Till.tk 1 3 62 (Ja #[Ji Jl a,Jp P]) hH ?_;try simp only[E4,Pls]
      refine Till.tk 2 3 63 (Ja #[Ji Jl x2,Jp X2]) hH ?_;try simp only[E4,Pls]
      refine Till.tk 4 5 65 (Jp (Jo ⟨w.heap.size+1,0,Jn⟩)) hH ?_;try simp only[E4,Pls]
      refine Till.tk 5 7 66 (Ja #[Ji Jl c,Jp U]) hH ?_;try simp only[E4,Pls]
      refine Till.tk 6 7 67 (Ja #[Ji Jl y2,Jp Y2]) hH ?_;try simp only[E4,Pls]
      clear hH;have B0:=Lh (E6 wo.heap.size wo).drew;generalize wo.drew=v0 at B0 ⊢;refine Till.phase [3,7,8,9] #[true,true,true,true,true,true,true,true,true,true,false] 1 (fun a0 d a v=>∃t3 t7 t8 t9:Value,a=puts a0 [(64,t3),(68,t7),(69,t8),(15,t9)]/\Below wo.heap.size wo v/\(d 3=true->Qh v t3 (p.num/(g1:Int)))/\(d 7=true->Qh v t7 (q.num/(g2:Int)))/\(d 8=true->Qh v t8 ((p*q).num))/\(d 9=true->PtrI wo.heap.size v t9)) rfl (by kernel_rfl) (by rintro d a v ⟨_,_,_,_,rfl,hB,_⟩;exact HS.out _ hB) ⟨_,_,_,_,rfl,B0.out,(fun h=>absurd h (by decide)),(fun h=>absurd h (by decide)),(fun h=>absurd h (by decide)),(fun h=>absurd h (by decide))⟩ ⟨⟨_,rfl,?_⟩,⟨_,rfl,?_⟩,⟨_,rfl,?_⟩,⟨_,rfl,?_⟩,trivial⟩ ?_
      ·rintro d a v⟨t3,t7,t8,t9,rfl,hB,F3,F7,F8,F9⟩ _ ha K hK;replace hB:=Lh hB;replace F3:=Lh F3;replace F7:=Lh F7;replace F8:=Lh F8;replace F9:=Lh F9;clear ha;try simp only[puts,E4,Pls]
       go_simp;refine(HQ1.out _ hB.out).mono ?_;rintro e v1⟨x3,X3,rfl,hx,g⟩;replace hx:=Lh hx;replace g:=Lh g;go_wp2_with fail
       exact hK.out _ _ ⟨Ja #[Ji Jl x3,Jp X3],t7,t8,t9,rfl,Jd hB.out g.out,fun _=>⟨x3,X3,rfl,hx.out⟩,fun h=>(F7.out h).keep g.out,fun h=>(F8.out h).keep g.out,fun h=>(F9.out h).keep g.out⟩
      ·rintro d a v⟨t3,t7,t8,t9,rfl,hB,F3,F7,F8,F9⟩ _ ha K hK;obtain⟨x3,X3,rfl,I3⟩:=F3 (ha 3 (by kernel_rfl));replace hB:=Lh hB;replace F3:=Lh F3;replace F7:=Lh F7;replace F8:=Lh F8;replace F9:=Lh F9;replace I3:=Lh I3;clear ha;try simp only[puts,E4,Pls]
       go_simp;refine(HQ2.out _ hB.out).mono ?_;rintro e v1⟨x7,X7,rfl,hx,g⟩;replace hx:=Lh hx;replace g:=Lh g;go_wp2_with fail
       exact hK.out _ _ ⟨Ja #[Ji Jl x3,Jp X3],Ja #[Ji Jl x7,Jp X7],t8,t9,rfl,Jd hB.out g.out,fun h=>(F3.out h).keep g.out,fun _=>⟨x7,X7,rfl,hx.out⟩,fun h=>(F8.out h).keep g.out,fun h=>(F9.out h).keep g.out⟩
      ·rintro d a v⟨t3,t7,t8,t9,rfl,hB,F3,F7,F8,F9⟩ _ ha K hK;obtain⟨x3,X3,rfl,I3⟩:=F3 (ha 3 (by kernel_rfl));obtain⟨x7,X7,rfl,I7⟩:=F7 (ha 7 (by kernel_rfl));replace hB:=Lh hB;replace F3:=Lh F3;replace F7:=Lh F7;replace F8:=Lh F8;replace F9:=Lh F9;replace I3:=Lh I3;replace I7:=Lh I7;clear ha;try simp only[puts,E4,Pls]
       go_simp;refine(HM.out _ _ _ _ _ I3.out I7.out).mono ?_;rintro e v1⟨x8,X8,rfl,hx,g⟩;replace hx:=Lh hx;replace g:=Lh g;go_wp2_with fail
       exact hK.out _ _ ⟨Ja #[Ji Jl x3,Jp X3],Ja #[Ji Jl x7,Jp X7],Ja #[Ji Jl x8,Jp X8],t9,rfl,Jd hB.out g.out,fun h=>(F3.out h).keep g.out,fun h=>(F7.out h).keep g.out,fun _=>⟨x8,X8,rfl,hx.out⟩,fun h=>(F9.out h).keep g.out⟩
      ·rintro d a v⟨t3,t7,t8,t9,rfl,hB,F3,F7,F8,F9⟩ _ ha K hK;replace hB:=Lh hB;replace F3:=Lh F3;replace F7:=Lh F7;replace F8:=Lh F8;replace F9:=Lh F9;clear ha;try simp only[puts,E4,Pls]
       have g:=Lh ((E6 v.heap.size v).alloc (E9 _) (Jc #[Ji Jl 0,Jp Jn] 29));go_simp;exact hK.out _ _ ⟨t3,t7,t8,Jp (Jo ⟨v.heap.size,0,Jn⟩),rfl,Jd hB.out g.out,fun h=>(F3.out h).keep g.out,fun h=>(F7.out h).keep g.out,fun h=>(F8.out h).keep g.out,fun _=>⟨v.heap.size,rfl,hB.out.size,Hold.new v 0 Jn⟩⟩
      ·rintro d a v⟨t3,t7,t8,t9,rfl,hB,F3,F7,F8,F9⟩ hE;obtain⟨x3,X3,rfl,I3⟩:=F3 (hE 3 (by decide));obtain⟨x7,X7,rfl,I7⟩:=F7 (hE 7 (by decide));obtain⟨x8,X8,rfl,I8⟩:=F8 (hE 8 (by decide));obtain⟨p9,rfl,le9,N9⟩:=F9 (hE 9 (by decide));clear hE F3 F7 F8 F9;replace hB:=Lh hB;replace I3:=Lh I3;replace I7:=Lh I7;replace I8:=Lh I8;replace N9:=Lh N9;try simp only[puts,E4,Pls]
       have k90:=N9.out.c0;have k91:=N9.out.c1;have f90:=N9.out.f0;have f91:=N9.out.f1;refine Till.one (i:=10) (by kernel_rfl) rfl (fun K hK=>?_);go_simp;refine hK.out _ _ (fun h=>absurd h (by simp)) ?_;clear hK K;try simp only[Pls]
       refine Till.done (by kernel_rfl) ?_ _;go_wp2_with fail
       go_meet;exact⟨p9,x8,X8,rfl,JP N9.out I8.out,le9,Jg hB.out le9 (Ji Jl x8) (Jp X8)⟩
     case rest=>
      obtain⟨p15,x3,X3,rfl,hv1,le11,hb⟩:=hcut;have R:=Lh (R.out.keep hb);have A1:=Lh (A1.out.keep hb);have A2:=Lh (A2.out.keep hb);have A3:=Lh (A3.out.keep hb);have A4:=Lh (A4.out.keep hb);have K5:=Lh (Jd K4.out hb);have A5:=Lh hv1;clear hv1 hb HS HQ1 HQ2 HM le11 V0 V1;generalize wc=ws at *
      have HS:=Lh (fun w' (hb:Below ws.heap.size ws w')=>(⟨(A1.out.keep hb).c0,(A1.out.keep hb).c1,(A2.out.keep hb).c0,(A2.out.keep hb).c1,(A3.out.keep hb).c0,(A3.out.keep hb).c1,(A4.out.keep hb).c0,(A4.out.keep hb).c1,(A5.out.keep hb).c0,(A5.out.keep hb).c1⟩:w'.cell? ⟨p11,0,Jn⟩=Jo (Ji Jl x1)/\w'.cell? ⟨p11,1,Jn⟩=Jo (Jp X1)/\w'.cell? ⟨p12,0,Jn⟩=Jo (Ji Jl y1)/\w'.cell? ⟨p12,1,Jn⟩=Jo (Jp Y1)/\w'.cell? ⟨p13,0,Jn⟩=Jo (Ji Jl x2)/\w'.cell? ⟨p13,1,Jn⟩=Jo (Jp X2)/\w'.cell? ⟨p14,0,Jn⟩=Jo (Ji Jl y2)/\w'.cell? ⟨p14,1,Jn⟩=Jo (Jp Y2)/\w'.cell? ⟨p15,0,Jn⟩=Jo (Ji Jl x3)/\w'.cell? ⟨p15,1,Jn⟩=Jo (Jp X3)));obtain⟨hpn,hpd,hqn,hqd⟩:=Bd.out;obtain⟨g1p,g2p,g1l,g2l⟩:=G.out;have HQ1:=Lh (fun v (hb:Below ws.heap.size ws v)=>JM x1 X1 y2 Y2 (p.den:Int) (g2:Int) v (A1.out.keep hb).int (A4.out.keep hb).int g2p (by rw[E5];exact Jq hpd (by decide)) g2l);have HQ2:=Lh (fun v (hb:Below ws.heap.size ws v)=>JM y1 Y1 x2 X2 (q.den:Int) (g1:Int) v (A2.out.keep hb).int (A3.out.keep hb).int g1p (by rw[E5];exact Jq hqd (by decide)) g1l);have HM:=Lh (fun x X y Y v (hx:Jj 0 v (Ja #[Ji Jl x,Jp X]) ((p.den:Int)/(g2:Int))) (hy:Jj 0 v (Ja #[Ji Jl y,Jp Y]) ((q.den:Int)/(g1:Int)))=>Q6 x y X Y _ _ v hx hy (Jq (Um (by rw[E5];exact hpd)) (by decide)) (Jq (Um (by rw[E5];exact hqd)) (by decide)) (.inl (Um (by rw[E5];exact hpd))));rw[←Hm2.out]at HM;clear hpn hpd hqn hqd g1p g2p g1l g2l;generalize p*q=pq at *
      go_wp2_with fail
      refine Till.begin 9 (fun w'=>w'.cell? ⟨p11,0,Jn⟩=Jo (Ji Jl x1)/\w'.cell? ⟨p11,1,Jn⟩=Jo (Jp X1)/\w'.cell? ⟨p12,0,Jn⟩=Jo (Ji Jl y1)/\w'.cell? ⟨p12,1,Jn⟩=Jo (Jp Y1)/\w'.cell? ⟨p13,0,Jn⟩=Jo (Ji Jl x2)/\w'.cell? ⟨p13,1,Jn⟩=Jo (Jp X2)/\w'.cell? ⟨p14,0,Jn⟩=Jo (Ji Jl y2)/\w'.cell? ⟨p14,1,Jn⟩=Jo (Jp Y2)/\w'.cell? ⟨p15,0,Jn⟩=Jo (Ji Jl x3)/\w'.cell? ⟨p15,1,Jn⟩=Jo (Jp X3)) (by kernel_rfl) (HS.out _ (E6 _ _).drew) (fun hH=>?_);refine Till.tk 0 8 70 (Ja #[Ji Jl x3,Jp X3]) hH ?_;try simp only[E4,Pls]
      refine Till.tk 1 3 71 (Ja #[Ji Jl x1,Jp X1]) hH ?_;try simp only[E4,Pls]
      refine Till.tk 2 3 72 (Ja #[Ji Jl y2,Jp Y2]) hH ?_;try simp only[E4,Pls]
      refine Till.tk 4 6 74 (Ja #[Ji Jl y1,Jp Y1]) hH ?_;try simp only[E4,Pls]
      refine Till.tk 5 6 75 (Ja #[Ji Jl x2,Jp X2]) hH ?_;try simp only[E4,Pls]
      clear hH;refine Till.one (i:=3) (by kernel_rfl) rfl (fun K hK=>?_);go_simp;refine(HQ1.out _ (E6 _ _).drew).mono ?_;rintro e v1⟨xa,xX,rfl,hx,g1⟩;have B1:=Lh (Jd (E6 ws.heap.size ws).drew g1);have I1:=Lh hx;clear g1 hx;go_wp2_with fail
      refine hK.out _ _ (fun _=>HS.out _ B1.out) ?_;clear hK K;try simp only[E4,Pls]
      refine Till.one (i:=6) (by kernel_rfl) rfl (fun K hK=>?_);go_simp;refine(HQ2.out _ B1.out).mono ?_;rintro e v2⟨ya,yY,rfl,hx,g1⟩;have B2:=Lh (Jd B1.out g1);have I1:=Lh (I1.out.keep g1);have I2:=Lh hx;clear g1 hx;go_wp2_with fail
      refine hK.out _ _ (fun _=>HS.out _ B2.out) ?_;clear hK K;try simp only[E4,Pls]
      refine Till.one (i:=7) (by kernel_rfl) rfl (fun K hK=>?_);go_simp;refine(HM.out _ _ _ _ _ I1.out I2.out).mono ?_;rintro e v3⟨za,zZ,rfl,hx,g1⟩;have B3:=Lh (Jd B2.out g1);have I3:=Lh hx;clear g1 hx I1 I2;have HO:=Lh (U8 x3 X3 za zZ pq v3 (A5.out.keep B3.out).int I3.out);go_wp2_with fail
      refine hK.out _ _ (fun _=>HS.out _ B3.out) ?_;clear hK K;try simp only[E4,Pls]
      refine Till.one (i:=8) (by kernel_rfl) rfl (fun K hK=>?_);go_simp;refine(HO.out).mono ?_;rintro e v4⟨oa,oP,ob,oQ,rfl,hv,g1⟩;have B4:=Lh (Jd B3.out g1);have Ho:=Lh hv;clear g1 hv;go_wp2_with fail
      refine hK.out _ _ (fun _=>HS.out _ B4.out) ?_;clear hK K;try simp only[E4,Pls]
      have R:=Lh (R.out.keep B4.out);have k0:=R.out.c0;have k1:=R.out.c1;have k2:=R.out.c2;have k3:=R.out.c3;have f0:=R.out.fz 0;have f1:=R.out.fz 1;have f2:=R.out.fz 2;have f3:=R.out.fz 3;refine Till.one (i:=9) (by kernel_rfl) rfl (fun K hK=>?_);go_simp;refine hK.out _ _ (fun h=>absurd h (by simp)) ?_;clear hK K;try simp only[E4,Pls]
      refine Till.done (by kernel_rfl) ?_ _;have Hv:=Lh (Ho.out.wrote R.out (by rfl) (Jk v4 (w.heap.size+1+1) (Ji Jl oa) (Jp oP) (Ji Jl ob) (Jp oQ)).1 (Jk _ _ _ _ _ _).2);have Kf:=Lh (JC (Jd K5.out B4.out) (show w.heap.size<=w.heap.size+1+1 by omega) (Ji Jl oa) (Jp oP) (Ji Jl ob) (Jp oQ));go_wp2;exact bodyPost_ret (v:=Ja #[Ji Jl oa,Jp oP,Ji Jl ob,Jp oQ]) (by simp[results,Tryz.results38,go_sem,k0,k1,k2,k3]) rfl ⟨oa,oP,ob,oQ,rfl,Hv.out,Kf.out⟩
theorem QS{z k:Int}{m n:Nat}(hz:z.natAbs<m)(hk:k.natAbs<n)(hk0:k≠0):(EY z k).num.natAbs<m/\(EY z k).den<n:=by
 rcases Int.lt_or_gt_of_ne hk0 with hn|hp
 ·have e2:EY z k=EY (-z) (k.natAbs:Nat):=by rw[←Zf];congr 1;omega
  obtain⟨h1,h2⟩:=Yb (n:=-z) (k:=k.natAbs) (by omega);rw[e2,h1,h2];refine⟨?_,E7 (Fi _ _) hk⟩;have h3:=F0 (-z) ((Fb (-z).natAbs k.natAbs:Nat):Int);rw[Fe]at h3;exact E7 (by rw[Fe];exact h3) hz
 ·have e2:EY z k=EY z (k.natAbs:Nat):=by congr 1;omega
  obtain⟨h1,h2⟩:=Yb (n:=z) (k:=k.natAbs) (by omega);rw[e2,h1,h2];exact⟨E7 (F0 _ _) hz,E7 (Fi _ _) hk⟩
theorem WG(p q:Rat):p/q=EY (p.num*(q.den:Int)) ((p.den:Int)*q.num):=by
 have e0:=Rat.divInt_mul_divInt p.num (q.den:Int) (d₁:=p.den) (d₂:=q.num);have e1:EY (q.den:Int) q.num=q⁻¹:=by
  have h:=Rat.inv_divInt q.num (q.den:Int);rw[Ya]at h;exact h.symm
 rw[e1,Ya]at e0;rw[Rat.div_def,e0]
theorem Zc(a b:Nat):ten (a+b)=ten a*ten b:=Nat.pow_add 10 a b
theorem QG{x y:Int}{k m:Nat}(hx:x.natAbs<ten k)(hy:y.natAbs<ten m):(x*y).natAbs<ten (k+m):=by
 rw[Fj,Zc];exact Nat.mul_lt_mul'' hx hy
theorem KJ{x y:Int}{k:Nat}(hx:x.natAbs<ten k)(hy:y.natAbs<ten k):(x+y).natAbs<ten (k+1):=by
 rw[GN];omega
theorem YZ:ten 900<=base 47:=by decide +kernel
structure Few (q:Rat) (k:Nat):Prop where
 n:q.num.natAbs<ten k
 d:q.den<ten k
theorem Few.di{q:Rat}{k:Nat}(h:Few q k):((q.den:Nat):Int).natAbs<ten k:=by rw[E5];exact h.d
theorem Few.up{q:Rat}{k m:Nat}(h:Few q k)(hk:k<=m):Few q m:=⟨E8 h.n (QB hk),E8 h.d (QB hk)⟩
theorem RS.few{s:ByteArray}{q:Rat}(h:RS s q):Few q 40:=⟨h.nlt,h.dlt⟩
theorem Few.neg{q:Rat}{k:Nat}(h:Few q k):Few (-q) k:=⟨by rw[Rat.neg_num,Fe];exact h.n,by rw[Rat.neg_den];exact h.d⟩
theorem Few.n47{q:Rat}{k:Nat}(h:Few q k)(hk:k<=900):q.num.natAbs<base 47:=E8 h.n (Fg (QB hk) YZ)
theorem Few.d47{q:Rat}{k:Nat}(h:Few q k)(hk:k<=900):q.den<base 47:=E8 h.d (Fg (QB hk) YZ)
theorem Few.ds{q:Rat}{k:Nat}(h:Few q k)(hk:k<=900):(txt (q.den:Int)).size<=901:=by
 have:=XA (q.den:Int) (k:=900) (E8 h.di (QB hk)) (by decide);omega
theorem Few.mul{p q:Rat}{k m:Nat}(hp:Few p k)(hq:Few q m):Few (p*q) (k+m):=by
 have h:=QS (QG hp.n hq.n) (k:=((p.den*q.den:Nat):Int)) (n:=ten (k+m)) (by rw[Fa];exact QG hp.di hq.di) (by have:=Nat.mul_pos p.den_pos q.den_pos;omega);rw[GX];exact⟨h.1,h.2⟩
theorem Few.add{p q:Rat}{k m:Nat}(hp:Few p k)(hq:Few q m):Few (p+q) (k+m+1):=by
 have h:=QS (KJ (QG hp.n hq.di) (by have:=QG hq.n hp.di;rwa [Nat.add_comm m k]at this)) (k:=((p.den*q.den:Nat):Int)) (n:=ten (k+m)) (by rw[Fa];exact QG hp.di hq.di) (by have:=Nat.mul_pos p.den_pos q.den_pos;omega);rw[Gb];exact⟨h.1,E8 h.2 (QB (by omega))⟩
theorem Few.sub{p q:Rat}{k m:Nat}(hp:Few p k)(hq:Few q m):Few (p-q) (k+m+1):=by
 rw[Rat.sub_eq_add_neg];exact hp.add hq.neg
theorem Few.div{p q:Rat}{k m:Nat}(hp:Few p k)(hq:Few q m)(hq0:q.num≠0):Few (p/q) (k+m):=by
 have h:=QS (QG hp.n hq.di) (k:=(p.den:Int)*q.num) (n:=ten (k+m)) (QG hp.di hq.n) (Int.mul_ne_zero (by have:=p.den_pos;omega) hq0);rw[WG];exact⟨h.1,h.2⟩
theorem Ul(w:JW):RatV w 0 Jn 0 Jn 0:=⟨QH ⟨by decide,by decide⟩,QH ⟨by decide,by decide⟩⟩
def digs(s:ByteArray):Bool:=Yu s.data.toList && decide (0<s.size)
def errP(num den:ByteArray)(f:Bool):Int:=
 if digs (QD num)=false\/digs den=false then 14
 else if El den.data.toList=true then 19
 else if UM num≠0\/XT den=true\/(f=true/\(zOf den=1\/Fb (zOf num).natAbs (zOf den).natAbs≠1)) then 3 else 0
def numR(s:ByteArray):ByteArray:=s.extract 0 (Xq s)
def denR(s:ByteArray):ByteArray:=if Xq s<s.size then s.extract (Xq s+1) s.size else⟨#[49]⟩
def EV(s:ByteArray):Bool:=decide (Xq s<s.size)
def errR(s:ByteArray):Int:=errP (numR s) (denR s) (EV s)
def KE(s:ByteArray)(w:JW)(e:Ending)(w':JW):Prop:=e= .returned (Ji Jl (errR s))/\Below w.heap.size w w'
theorem KE.of{s num den:ByteArray}{f:Bool}{E:Int}{e:Ending}{w w':JW}(hR:errR s=errP num den f)(he:e= .returned (Ji Jl E))(hE:E=errP num den f)(h:Below w.heap.size w w'):KE s w e w':=⟨by rw[hR,←hE];exact he,h⟩
def RetE(F:Int->Option Addr->Int->Option Addr->Int->JW->Prop)(w:JW)(e:Ending)(w':JW):Prop:=
 ∃a P b Q E,e= .returned (.tuple #[Ja #[Ji Jl a,Jp P,Ji Jl b,Jp Q],Ji Jl E])/\F a P b Q E w'/\Below w.heap.size w w'
def FE(s:ByteArray)(a:Int)(P:Option Addr)(b:Int)(Q:Option Addr)(E:Int)(w:JW):Prop:=
 E=errR s/\(E=0->∃q,RatV w a P b Q q/\Qs q=s/\q.num.natAbs<ten 1250/\q.den<ten 1250)/\(E≠0->a=0/\P=Jn/\b=0/\Q=Jn)
theorem FE.put{s:ByteArray}{a b E:Int}{P Q:Option Addr}{w:JW}{p:Nat}(h:FE s a P b Q E w)(R:Jh w p [Ji Jl 0,Jp Jn,Ji Jl 0,Jp Jn]):FE s a P b Q E (put4 w p (Ji Jl a) (Jp P) (Ji Jl b) (Jp Q)):=
 ⟨h.1,fun h0=>let ⟨q,h2,h3⟩:=h.2.1 h0;⟨q,h2.wrote R (by rfl) (Jk _ p (Ji Jl a) (Jp P) (Ji Jl b) (Jp Q)).1 (Jk _ _ _ _ _ _).2,h3⟩,h.2.2⟩
theorem FE.keep{s:ByteArray}{a b E:Int}{P Q:Option Addr}{w w':JW}(h:FE s a P b Q E w)(hb:Below w.heap.size w w'):FE s a P b Q E w':=
 ⟨h.1,fun h0=>let ⟨q,h2,h3⟩:=h.2.1 h0;⟨q,h2.keep hb,h3⟩,h.2.2⟩
