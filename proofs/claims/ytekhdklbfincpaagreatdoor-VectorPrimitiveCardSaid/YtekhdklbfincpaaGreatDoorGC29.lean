/- GC29: Few ChkA -/
import Derived.Test.YtekhdklbfincpaaGreatDoorGC28
import Derived.Test.YtekhdklbfincpaaGreatDoorGC26
set_option maxRecDepth 100000
set_option maxHeartbeats 16000000
namespace Go.Proofs.YtekhdklbfincpaaGreatDoor
open Go.Value renaming string→Js
open Go renaming World→JW
open _root_.Nat renaming lt_of_lt_of_le→M0,lt_of_le_of_lt→M2,div_le_self→M6,gcd→M7,le_trans→M8,add_comm→M9
open _root_.Rat renaming divInt→M1
open _root_.Int renaming natCast_mul→M3,natAbs_neg→M4,natAbs_ediv_le_natAbs→M5
open Go.RowKit
theorem Yy{z k:Int}{m n:Nat}(hz:z.natAbs<m)(hk:k.natAbs<n)(hk0:k≠0):(M1 z k).num.natAbs<m/\(M1 z k).den<n:=by
 rcases Int.lt_or_gt_of_ne hk0 with hn|hp
 ·have e2:M1 z k=M1 (-z) (k.natAbs:Nat):=by rw[←ZG];congr 1;omega
  obtain⟨h1,h2⟩:=Q9 (n:=-z) (k:=k.natAbs) (by omega);rw[e2,h1,h2];refine⟨?_,M2 (M6 _ _) hk⟩;have h3:=M5 (-z) ((M7 (-z).natAbs k.natAbs:Nat):Int);rw[M4]at h3;exact M2 (by rw[M4];exact h3) hz
 ·have e2:M1 z k=M1 z (k.natAbs:Nat):=by congr 1;omega
  obtain⟨h1,h2⟩:=Q9 (n:=z) (k:=k.natAbs) (by omega);rw[e2,h1,h2];exact⟨M2 (M5 _ _) hz,M2 (M6 _ _) hk⟩
theorem WB(p q:Rat):p/q=M1 (p.num*(q.den:Int)) ((p.den:Int)*q.num):=by
 have e0:=Rat.divInt_mul_divInt p.num (q.den:Int) (d₁:=p.den) (d₂:=q.num);have e1:M1 (q.den:Int) q.num=q⁻¹:=by
  have h:=Rat.inv_divInt q.num (q.den:Int);rw[Yx]at h;exact h.symm
 rw[e1,Yx]at e0;rw[Rat.div_def,e0]
theorem EO(a b:Nat):ten (a+b)=ten a*ten b:=Nat.pow_add 10 a b
theorem JS{x y:Int}{k m:Nat}(hx:x.natAbs<ten k)(hy:y.natAbs<ten m):(x*y).natAbs<ten (k+m):=by
 rw[Int.natAbs_mul,EO];exact Nat.mul_lt_mul'' hx hy
theorem EN{x y:Int}{k:Nat}(hx:x.natAbs<ten k)(hy:y.natAbs<ten k):(x+y).natAbs<ten (k+1):=by
 rw[Yi];omega
theorem Xk:ten 900<=base 47:=by decide +kernel
structure Few (q:Rat) (k:Nat):Prop where
 n:q.num.natAbs<ten k
 d:q.den<ten k
theorem Few.di{q:Rat}{k:Nat}(h:Few q k):((q.den:Nat):Int).natAbs<ten k:=by rw[Int.natAbs_natCast];exact h.d
theorem Few.up{q:Rat}{k m:Nat}(h:Few q k)(hk:k<=m):Few q m:=⟨M0 h.n (JK hk),M0 h.d (JK hk)⟩
theorem RS.few{s:ByteArray}{q:Rat}(h:RS s q):Few q 40:=⟨h.nlt,h.dlt⟩
theorem Few.neg{q:Rat}{k:Nat}(h:Few q k):Few (-q) k:=⟨by rw[Rat.neg_num,M4];exact h.n,by rw[Rat.neg_den];exact h.d⟩
theorem Few.n47{q:Rat}{k:Nat}(h:Few q k)(hk:k<=900):q.num.natAbs<base 47:=M0 h.n (M8 (JK hk) Xk)
theorem Few.d47{q:Rat}{k:Nat}(h:Few q k)(hk:k<=900):q.den<base 47:=M0 h.d (M8 (JK hk) Xk)
theorem Few.ns{q:Rat}{k:Nat}(h:Few q k)(hk:k<=900):(txt q.num).size<=901:=by
 have:=QY q.num (k:=900) (M0 h.n (JK hk)) (by decide);omega
theorem Few.ds{q:Rat}{k:Nat}(h:Few q k)(hk:k<=900):(txt (q.den:Int)).size<=901:=by
 have:=QY (q.den:Int) (k:=900) (M0 h.di (JK hk)) (by decide);omega
theorem Few.mul{p q:Rat}{k m:Nat}(hp:Few p k)(hq:Few q m):Few (p*q) (k+m):=by
 have h:=Yy (JS hp.n hq.n) (k:=((p.den*q.den:Nat):Int)) (n:=ten (k+m)) (by rw[M3];exact JS hp.di hq.di) (by have:=Nat.mul_pos p.den_pos q.den_pos;omega);rw[GU];exact⟨h.1,h.2⟩
theorem Few.add{p q:Rat}{k m:Nat}(hp:Few p k)(hq:Few q m):Few (p+q) (k+m+1):=by
 have h:=Yy (EN (JS hp.n hq.di) (by have:=JS hq.n hp.di;rwa [M9 m k]at this)) (k:=((p.den*q.den:Nat):Int)) (n:=ten (k+m)) (by rw[M3];exact JS hp.di hq.di) (by have:=Nat.mul_pos p.den_pos q.den_pos;omega);rw[Gs];exact⟨h.1,M0 h.2 (JK (by omega))⟩
theorem Few.sub{p q:Rat}{k m:Nat}(hp:Few p k)(hq:Few q m):Few (p-q) (k+m+1):=by
 rw[Rat.sub_eq_add_neg];exact hp.add hq.neg
theorem Few.div{p q:Rat}{k m:Nat}(hp:Few p k)(hq:Few q m)(hq0:q.num≠0):Few (p/q) (k+m):=by
 have h:=Yy (JS hp.n hq.di) (k:=(p.den:Int)*q.num) (n:=ten (k+m)) (JS hp.di hq.n) (Int.mul_ne_zero (by have:=p.den_pos;omega) hq0);rw[WB];exact⟨h.1,h.2⟩
theorem EM{z:Int}{k:Nat}(h:z.natAbs<ten k)(hk:k<=2000):(txt z).size<=3000:=by
 have:=QY z (k:=2000) (M0 h (JK hk)) (by decide);omega
theorem VW(w:JW):RatV w 0 none 0 none 0:=⟨Q3 ⟨by decide,by decide⟩,Q3 ⟨by decide,by decide⟩⟩
theorem Qk{p q:Rat}{k m:Nat}(hp:Few p k)(hq:Few q m)(hk:k<=900)(hm:m<=900)(w:JW):Calls Tryz.prog 75 #[Js (Jj p),Js (Jj q)] w fun e w'=>e= .returned (Js (Jj (p*q)))/\Below w.heap.size w w':=by
 have n1:=hp.ns hk;have n2:=hp.ds hk;have m1:=hq.ns hm;have m2:=hq.ds hm;have pp:=p.den_pos;have qp:=q.den_pos;have pn:=hp.n;have pd:=hp.di;have qn:=hq.n;have qd:=hq.di;have HP:=Lh (fun w=>Qw p w (by omega) (by omega));have HQ:=Lh (fun w=>Qw q w (by omega) (by omega));have HA:=Lh (fun w=>QL p.num q.num w (by omega) (by omega));have HB:=Lh (fun w=>QL (p.den:Int) (q.den:Int) w (by omega) (by omega));have HC:=Lh (fun w=>U4 (p.num*q.num) ((p.den:Int)*(q.den:Int)) w (M0 (JS (by assumption) (by assumption)) (JK (by omega))) (M0 (JS (by assumption) (by assumption)) (JK (by omega))) (Int.mul_ne_zero (by omega) (by omega)));rw[show M1 (p.num*q.num) ((p.den:Int)*(q.den:Int))=p*q from by rw[GU,M3]]at HC;clear n1 n2 m1 m2 hp hq pn pd qn qd pp qp hk hm;generalize Jj (p*q)=X at HC ⊢;generalize txt (p.num*q.num)=A at HA HC;generalize txt ((p.den:Int)*(q.den:Int))=B at HB HC;generalize txt p.num=A1 at HP HA HB;generalize txt (p.den:Int)=A2 at HP HA HB;generalize txt q.num=B1 at HQ HA HB;generalize txt (q.den:Int)=B2 at HQ HA HB;generalize Jj p=T1 at HP ⊢;generalize Jj q=T2 at HQ ⊢;go_enter Tryz.func75,Tryz.ntmps75;go_wp2_with fail
 refine(HP.out _).mono ?_;rintro e w1⟨rfl,h1⟩;have K:=Lh h1;clear h1;go_wp2_with fail
 refine(HQ.out _).mono ?_;rintro e w2⟨rfl,h1⟩;replace K:=Lh (Jd K.out h1);clear h1;go_wp2_with fail
 refine(HA.out _).mono ?_;rintro e w3⟨rfl,h1⟩;replace K:=Lh (Jd K.out h1);clear h1;go_wp2_with fail
 refine(HB.out _).mono ?_;rintro e w4⟨rfl,h1⟩;replace K:=Lh (Jd K.out h1);clear h1;go_wp2_with fail
 refine(HC.out _).mono ?_;rintro e w5⟨rfl,h1⟩;replace K:=Lh (Jd K.out h1);clear h1;go_wp2;go_ret;exact⟨rfl,K.out⟩
theorem UB{p q:Rat}{k m:Nat}(hp:Few p k)(hq:Few q m)(hk:k<=900)(hm:m<=900)(hq0:q.num≠0)(w:JW):Calls Tryz.prog 33 #[Js (Jj p),Js (Jj q)] w fun e w'=>e= .returned (Js (Jj (p/q)))/\Below w.heap.size w w':=by
 have n1:=hp.ns hk;have n2:=hp.ds hk;have m1:=hq.ns hm;have m2:=hq.ds hm;have pp:=p.den_pos;have qp:=q.den_pos;have pn:=hp.n;have pd:=hp.di;have qn:=hq.n;have qd:=hq.di;have HP:=Lh (fun w=>Qw p w (by omega) (by omega));have HQ:=Lh (fun w=>Qw q w (by omega) (by omega));have HA:=Lh (fun w=>QL p.num (q.den:Int) w (by omega) (by omega));have HB:=Lh (fun w=>QL (p.den:Int) q.num w (by omega) (by omega));have HC:=Lh (fun w=>U4 (p.num*(q.den:Int)) ((p.den:Int)*q.num) w (M0 (JS (by assumption) (by assumption)) (JK (by omega))) (M0 (JS (by assumption) (by assumption)) (JK (by omega))) (Int.mul_ne_zero (by omega) (by omega)));rw[show M1 (p.num*(q.den:Int)) ((p.den:Int)*q.num)=p/q from(WB p q).symm]at HC;clear n1 n2 m1 m2 hp hq pn pd qn qd pp qp hk hm;generalize Jj (p/q)=X at HC ⊢;generalize txt (p.num*(q.den:Int))=A at HA HC;generalize txt ((p.den:Int)*q.num)=B at HB HC;generalize txt p.num=A1 at HP HA HB;generalize txt (p.den:Int)=A2 at HP HA HB;generalize txt q.num=B1 at HQ HA HB;generalize txt (q.den:Int)=B2 at HQ HA HB;generalize Jj p=T1 at HP ⊢;generalize Jj q=T2 at HQ ⊢;go_enter Tryz.func33,Tryz.ntmps33;go_wp2_with fail
 refine(HP.out _).mono ?_;rintro e w1⟨rfl,h1⟩;have K:=Lh h1;clear h1;go_wp2_with fail
 refine(HQ.out _).mono ?_;rintro e w2⟨rfl,h1⟩;replace K:=Lh (Jd K.out h1);clear h1;go_wp2_with fail
 refine(HA.out _).mono ?_;rintro e w3⟨rfl,h1⟩;replace K:=Lh (Jd K.out h1);clear h1;go_wp2_with fail
 refine(HB.out _).mono ?_;rintro e w4⟨rfl,h1⟩;replace K:=Lh (Jd K.out h1);clear h1;go_wp2_with fail
 refine(HC.out _).mono ?_;rintro e w5⟨rfl,h1⟩;replace K:=Lh (Jd K.out h1);clear h1;go_wp2;go_ret;exact⟨rfl,K.out⟩
theorem WA{p q:Rat}{k m:Nat}(hp:Few p k)(hq:Few q m)(hk:k<=900)(hm:m<=900)(w:JW):Calls Tryz.prog 71 #[Js (Jj p),Js (Jj q)] w fun e w'=>e= .returned (Js (Jj (p+q)))/\Below w.heap.size w w':=by
 have n1:=hp.ns hk;have n2:=hp.ds hk;have m1:=hq.ns hm;have m2:=hq.ds hm;have pp:=p.den_pos;have qp:=q.den_pos;have t1:=JS hp.n hq.di;have t2:=JS hq.n hp.di;rw[M9 m k]at t2;have t3:=JS hp.di hq.di;have HP:=Lh (fun w=>Qw p w (by omega) (by omega));have HQ:=Lh (fun w=>Qw q w (by omega) (by omega));have HA:=Lh (fun w=>QL p.num (q.den:Int) w (by omega) (by omega));have HB:=Lh (fun w=>QL q.num (p.den:Int) w (by omega) (by omega));have z1:=EM t1 (by omega);have z2:=EM t2 (by omega);have HS:=Lh (fun w=>U7 (p.num*(q.den:Int)) (q.num*(p.den:Int)) w (by omega) (by omega));have HD:=Lh (fun w=>QL (p.den:Int) (q.den:Int) w (by omega) (by omega));have HC:=Lh (fun w=>U4 (p.num*(q.den:Int)+q.num*(p.den:Int)) ((p.den:Int)*(q.den:Int)) w (M0 (EN t1 t2) (JK (by omega))) (M0 t3 (JK (by omega))) (Int.mul_ne_zero (by omega) (by omega)));rw[show M1 (p.num*(q.den:Int)+q.num*(p.den:Int)) ((p.den:Int)*(q.den:Int))=p+q from by rw[Gs,M3]]at HC;clear n1 n2 m1 m2 hp hq pp qp t1 t2 t3 z1 z2 hk hm;generalize Jj (p+q)=X at HC ⊢;generalize txt (p.num*(q.den:Int)+q.num*(p.den:Int))=S at HS HC;generalize txt (p.num*(q.den:Int))=A at HA HS;generalize txt (q.num*(p.den:Int))=B at HB HS;generalize txt ((p.den:Int)*(q.den:Int))=D at HD HC;generalize txt p.num=A1 at HP HA;generalize txt (p.den:Int)=A2 at HP HB HD;generalize txt q.num=B1 at HQ HB;generalize txt (q.den:Int)=B2 at HQ HA HD;generalize Jj p=T1 at HP ⊢;generalize Jj q=T2 at HQ ⊢;go_enter Tryz.func71,Tryz.ntmps71;go_wp2_with fail
 refine(HP.out _).mono ?_;rintro e w1⟨rfl,h1⟩;have K:=Lh h1;clear h1;go_wp2_with fail
 refine(HQ.out _).mono ?_;rintro e w2⟨rfl,h1⟩;replace K:=Lh (Jd K.out h1);clear h1;go_wp2_with fail
 refine(HA.out _).mono ?_;rintro e w3⟨rfl,h1⟩;replace K:=Lh (Jd K.out h1);clear h1;go_wp2_with fail
 refine(HB.out _).mono ?_;rintro e w4⟨rfl,h1⟩;replace K:=Lh (Jd K.out h1);clear h1;go_wp2_with fail
 refine(HS.out _).mono ?_;rintro e w5⟨rfl,h1⟩;replace K:=Lh (Jd K.out h1);clear h1;go_wp2_with fail
 refine(HD.out _).mono ?_;rintro e w6⟨rfl,h1⟩;replace K:=Lh (Jd K.out h1);clear h1;go_wp2_with fail
 refine(HC.out _).mono ?_;rintro e w7⟨rfl,h1⟩;replace K:=Lh (Jd K.out h1);clear h1;go_wp2;go_ret;exact⟨rfl,K.out⟩
theorem Ld(p:Rat):M1 (-p.num) (p.den:Int)=-p:=by
 have h:=Yx (-p);rw[Rat.neg_num,Rat.neg_den]at h;exact h
theorem Wz{p:Rat}{k:Nat}(hp:Few p k)(hk:k<=900)(w:JW):Calls Tryz.prog 73 #[Js (Jj p)] w fun e w'=>e= .returned (Js (Jj (-p)))/\Below w.heap.size w w':=by
 have n1:=hp.ns hk;have n2:=hp.ds hk;have pp:=p.den_pos;have HP:=Lh (fun w=>Qw p w (by omega) (by omega));have HA:=Lh (fun w=>U5 p.num w (by omega));have HC:=Lh (fun w=>U4 (-p.num) (p.den:Int) w (by rw[M4];exact M0 hp.n (JK (by omega))) (M0 hp.di (JK (by omega))) (by omega));rw[Ld]at HC;clear n1 n2 hp pp hk;generalize Jj (-p)=X at HC ⊢;generalize txt (-p.num)=A at HA HC;generalize txt p.num=A1 at HP HA;generalize txt (p.den:Int)=A2 at HP HC;generalize Jj p=T1 at HP ⊢;go_enter Tryz.func73,Tryz.ntmps73;go_wp2_with fail
 refine(HP.out _).mono ?_;rintro e w1⟨rfl,h1⟩;have K:=Lh h1;clear h1;go_wp2_with fail
 refine(HA.out _).mono ?_;rintro e w2⟨rfl,h1⟩;replace K:=Lh (Jd K.out h1);clear h1;go_wp2_with fail
 refine(HC.out _).mono ?_;rintro e w3⟨rfl,h1⟩;replace K:=Lh (Jd K.out h1);clear h1;go_wp2;go_ret;exact⟨rfl,K.out⟩
theorem Xm{p q:Rat}{k m:Nat}(hp:Few p k)(hq:Few q m)(hk:k<=900)(hm:m<=900)(w:JW):Calls Tryz.prog 80 #[Js (Jj p),Js (Jj q)] w fun e w'=>e= .returned (Js (Jj (p-q)))/\Below w.heap.size w w':=by
 have HN:=Lh (fun w=>Wz hq hm w);have HA:=Lh (fun w=>WA hp hq.neg hk hm w);rw[←Rat.sub_eq_add_neg]at HA;clear hp hq hk hm;generalize Jj (p-q)=X at HA ⊢;generalize Jj (-q)=N at HN HA;generalize Jj p=T1 at HA ⊢;generalize Jj q=T2 at HN ⊢;go_enter Tryz.func80,Tryz.ntmps80;go_wp2_with fail
 refine(HN.out _).mono ?_;rintro e w1⟨rfl,h1⟩;have K:=Lh h1;clear h1;go_wp2_with fail
 refine(HA.out _).mono ?_;rintro e w2⟨rfl,h1⟩;replace K:=Lh (Jd K.out h1);clear h1;go_wp2;go_ret;exact⟨rfl,K.out⟩
def digs(s:ByteArray):Bool:=JG s.data.toList && decide (0<s.size)
def errP(num den:ByteArray)(f:Bool):Int:=
 if digs (JE num)=false\/digs den=false then 14
 else if Yp den.data.toList=true then 19
 else if Qu num≠0\/Yh den=true\/(f=true/\(zOf den=1\/M7 (zOf num).natAbs (zOf den).natAbs≠1)) then 3 else 0
def numR(s:ByteArray):ByteArray:=s.extract 0 (Qm s)
def denR(s:ByteArray):ByteArray:=if Qm s<s.size then s.extract (Qm s+1) s.size else⟨#[49]⟩
def Og(s:ByteArray):Bool:=decide (Qm s<s.size)
def errR(s:ByteArray):Int:=errP (numR s) (denR s) (Og s)
theorem OJ(s:ByteArray):s.extract 0 s.size=s:=by
 apply ByteArray.ext;simp
def Mq(s num den:ByteArray)(f:Bool):Prop:=(f=false/\Qm s=s.size/\num=s/\den=⟨#[49]⟩)\/(f=true/\Qm s<s.size/\s=num ++ ⟨#[47]⟩ ++ den)
theorem NN(s:ByteArray):Mq s (numR s) (denR s) (Og s)/\∀c∈(numR s).data.toList,c≠47:=by
 refine⟨?_,fun c hc=>?_⟩
 ·unfold numR denR Og;have hle:=KY s;by_cases h:Qm s<s.size
  ·rw[if_pos h,decide_eq_true h];exact .inr ⟨rfl,h,Wq h⟩
  ·have e:Qm s=s.size:=by omega
   rw[if_neg h,decide_eq_false h,e,OJ];exact .inl ⟨rfl,e,rfl,rfl⟩
 ·have e2:(numR s).data.toList=s.data.toList.take (Qm s):=by unfold numR;simp[ByteArray.data_extract]
  rw[e2]at hc;obtain⟨i,hi,rfl⟩:=List.getElem_of_mem hc;rw[List.length_take]at hi;have:=List.not_of_lt_findIdx (p:=(· ==47)) (xs:=s.data.toList) (i:=i) (by unfold Qm at hi;omega);rw[List.getElem_take];simpa using this
theorem ZQ{num den:ByteArray}{f:Bool}(h:digs (JE num)=false\/digs den=false):(14:Int)=errP num den f:=by
 unfold errP;rw[if_pos h]
theorem Nu{num den:ByteArray}{f:Bool}(h1:digs (JE num)=true)(h2:digs den=true)(h3:Yp den.data.toList=true):(19:Int)=errP num den f:=by
 unfold errP;rw[if_neg (by rw[h1,h2];simp),if_pos h3]
theorem Oh{num den:ByteArray}{f:Bool}(h1:digs (JE num)=true)(h2:digs den=true)(h3:Yp den.data.toList=false)(h:Qu num≠0\/Yh den=true\/(f=true/\(zOf den=1\/M7 (zOf num).natAbs (zOf den).natAbs≠1))):(3:Int)=errP num den f:=by
 unfold errP;rw[if_neg (by rw[h1,h2];simp),if_neg (by rw[h3];simp),if_pos h]
theorem LE{num den:ByteArray}{f:Bool}(h1:digs (JE num)=true)(h2:digs den=true)(h3:Yp den.data.toList=false)(h4:Qu num=0)(h5:Yh den=false)(h:f=false\/(zOf den≠1/\M7 (zOf num).natAbs (zOf den).natAbs=1)):(0:Int)=errP num den f:=by
 unfold errP;rw[if_neg (by rw[h1,h2];simp),if_neg (by rw[h3];simp),if_neg];rintro(h6|h6|⟨h6,h7⟩)
 ·exact h6 h4
 ·rw[h5]at h6;cases h6
 ·rcases h with h|⟨h8,h9⟩
  ·rw[h]at h6;cases h6
  ·exact h7.elim h8 (fun h=>h h9)
theorem Et{num d:ByteArray}(hb:JE num=d)(hd:digs d=true)(hl:Yh d=true)(h:1<d.size\/1<num.size):Qu num≠0:=by
 obtain⟨h1,h2⟩:=Ut hd;rw[(QM hb).2.2.1 h1 h2 hl h]
 decide
def L0(s:ByteArray)(w:JW)(e:Ending)(w':JW):Prop:=e= .returned (.int .i64 (errR s))/\Below w.heap.size w w'
theorem L0.of{s num den:ByteArray}{f:Bool}{E:Int}{e:Ending}{w w':JW}(hR:errR s=errP num den f)(he:e= .returned (.int .i64 E))(hE:E=errP num den f)(h:Below w.heap.size w w'):L0 s w e w':=⟨by rw[hR,←hE];exact he,h⟩
