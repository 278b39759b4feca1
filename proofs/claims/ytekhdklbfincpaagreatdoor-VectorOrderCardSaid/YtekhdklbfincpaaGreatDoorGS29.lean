/- GS29: Few ChkA -/
import Derived.Test.YtekhdklbfincpaaGreatDoorGS28
import Derived.Test.YtekhdklbfincpaaGreatDoorGS26
set_option maxRecDepth 100000
set_option maxHeartbeats 16000000
namespace Go.Proofs.YtekhdklbfincpaaGreatDoor
open Go.Value renaming string→Js
open _root_.Nat renaming lt_of_lt_of_le→M0,lt_of_le_of_lt→M2,div_le_self→M6,gcd→M7,le_trans→M8,add_comm→M9
open _root_.Rat renaming divInt→M1
open _root_.Int renaming natCast_mul→M3,natAbs_neg→M4,natAbs_ediv_le_natAbs→M5
open Go.RowKit
theorem rat_bounds_any{z k:Int}{m n:Nat}(hz:z.natAbs<m)(hk:k.natAbs<n)(hk0:k≠0):(M1 z k).num.natAbs<m/\(M1 z k).den<n:=by
 rcases Int.lt_or_gt_of_ne hk0 with hn|hp
 ·have e2:M1 z k=M1 (-z) (k.natAbs:Nat):=by rw[←rat_neg];congr 1;omega
  obtain⟨h1,h2⟩:=rat_make (n:=-z) (k:=k.natAbs) (by omega);rw[e2,h1,h2];refine⟨?_,M2 (M6 _ _) hk⟩;have h3:=M5 (-z) ((M7 (-z).natAbs k.natAbs:Nat):Int);rw[M4]at h3;exact M2 (by rw[M4];exact h3) hz
 ·have e2:M1 z k=M1 z (k.natAbs:Nat):=by congr 1;omega
  obtain⟨h1,h2⟩:=rat_make (n:=z) (k:=k.natAbs) (by omega);rw[e2,h1,h2];exact⟨M2 (M5 _ _) hz,M2 (M6 _ _) hk⟩
theorem rat_quot(p q:Rat):p/q=M1 (p.num*(q.den:Int)) ((p.den:Int)*q.num):=by
 have e0:=Rat.divInt_mul_divInt p.num (q.den:Int) (d₁:=p.den) (d₂:=q.num);have e1:M1 (q.den:Int) q.num=q⁻¹:=by
  have h:=Rat.inv_divInt q.num (q.den:Int);rw[rat_self]at h;exact h.symm
 rw[e1,rat_self]at e0;rw[Rat.div_def,e0]
theorem ten_add(a b:Nat):ten (a+b)=ten a*ten b:=Nat.pow_add 10 a b
theorem ten_mul{x y:Int}{k m:Nat}(hx:x.natAbs<ten k)(hy:y.natAbs<ten m):(x*y).natAbs<ten (k+m):=by
 rw[Int.natAbs_mul,ten_add];exact Nat.mul_lt_mul'' hx hy
theorem ten_sum{x y:Int}{k:Nat}(hx:x.natAbs<ten k)(hy:y.natAbs<ten k):(x+y).natAbs<ten (k+1):=by
 rw[ten_succ];omega
theorem ten900:ten 900<=base 47:=by decide +kernel
structure Few (q:Rat) (k:Nat):Prop where
 n:q.num.natAbs<ten k
 d:q.den<ten k
theorem Few.di{q:Rat}{k:Nat}(h:Few q k):((q.den:Nat):Int).natAbs<ten k:=by rw[Int.natAbs_natCast];exact h.d
theorem Few.up{q:Rat}{k m:Nat}(h:Few q k)(hk:k<=m):Few q m:=⟨M0 h.n (ten_le hk),M0 h.d (ten_le hk)⟩
theorem RS.few{s:ByteArray}{q:Rat}(h:RS s q):Few q 40:=⟨h.nlt,h.dlt⟩
theorem Few.neg{q:Rat}{k:Nat}(h:Few q k):Few (-q) k:=⟨by rw[Rat.neg_num,M4];exact h.n,by rw[Rat.neg_den];exact h.d⟩
theorem Few.n47{q:Rat}{k:Nat}(h:Few q k)(hk:k<=900):q.num.natAbs<base 47:=M0 h.n (M8 (ten_le hk) ten900)
theorem Few.d47{q:Rat}{k:Nat}(h:Few q k)(hk:k<=900):q.den<base 47:=M0 h.d (M8 (ten_le hk) ten900)
theorem Few.ns{q:Rat}{k:Nat}(h:Few q k)(hk:k<=900):(txt q.num).size<=901:=by
 have:=txt_size q.num (k:=900) (M0 h.n (ten_le hk)) (by decide);omega
theorem Few.ds{q:Rat}{k:Nat}(h:Few q k)(hk:k<=900):(txt (q.den:Int)).size<=901:=by
 have:=txt_size (q.den:Int) (k:=900) (M0 h.di (ten_le hk)) (by decide);omega
theorem Few.mul{p q:Rat}{k m:Nat}(hp:Few p k)(hq:Few q m):Few (p*q) (k+m):=by
 have h:=rat_bounds_any (ten_mul hp.n hq.n) (k:=((p.den*q.den:Nat):Int)) (n:=ten (k+m)) (by rw[M3];exact ten_mul hp.di hq.di) (by have:=Nat.mul_pos p.den_pos q.den_pos;omega);rw[rat_prod];exact⟨h.1,h.2⟩
theorem Few.add{p q:Rat}{k m:Nat}(hp:Few p k)(hq:Few q m):Few (p+q) (k+m+1):=by
 have h:=rat_bounds_any (ten_sum (ten_mul hp.n hq.di) (by have:=ten_mul hq.n hp.di;rwa [M9 m k]at this)) (k:=((p.den*q.den:Nat):Int)) (n:=ten (k+m)) (by rw[M3];exact ten_mul hp.di hq.di) (by have:=Nat.mul_pos p.den_pos q.den_pos;omega);rw[rat_sum];exact⟨h.1,M0 h.2 (ten_le (by omega))⟩
theorem Few.sub{p q:Rat}{k m:Nat}(hp:Few p k)(hq:Few q m):Few (p-q) (k+m+1):=by
 rw[Rat.sub_eq_add_neg];exact hp.add hq.neg
theorem Few.div{p q:Rat}{k m:Nat}(hp:Few p k)(hq:Few q m)(hq0:q.num≠0):Few (p/q) (k+m):=by
 have h:=rat_bounds_any (ten_mul hp.n hq.di) (k:=(p.den:Int)*q.num) (n:=ten (k+m)) (ten_mul hp.di hq.n) (Int.mul_ne_zero (by have:=p.den_pos;omega) hq0);rw[rat_quot];exact⟨h.1,h.2⟩
theorem ten_txt{z:Int}{k:Nat}(h:z.natAbs<ten k)(hk:k<=2000):(txt z).size<=3000:=by
 have:=txt_size z (k:=2000) (M0 h (ten_le hk)) (by decide);omega
theorem rat_zero0(w:World):RatV w 0 none 0 none 0:=⟨small_int ⟨by decide,by decide⟩,small_int ⟨by decide,by decide⟩⟩
theorem refMulF_any{p q:Rat}{k m:Nat}(hp:Few p k)(hq:Few q m)(hk:k<=900)(hm:m<=900)(w:World):Calls Tryz.prog 75 #[Js (ratTxt p),Js (ratTxt q)] w fun e w'=>e= .returned (Js (ratTxt (p*q)))/\Below w.heap.size w w':=by
 have n1:=hp.ns hk;have n2:=hp.ds hk;have m1:=hq.ns hm;have m2:=hq.ds hm;have pp:=p.den_pos;have qp:=q.den_pos;have pn:=hp.n;have pd:=hp.di;have qn:=hq.n;have qd:=hq.di;have HP:=Lh (fun w=>refParts_any p w (by omega) (by omega));have HQ:=Lh (fun w=>refParts_any q w (by omega) (by omega));have HA:=Lh (fun w=>refMul_any p.num q.num w (by omega) (by omega));have HB:=Lh (fun w=>refMul_any (p.den:Int) (q.den:Int) w (by omega) (by omega));have HC:=Lh (fun w=>refRat_any (p.num*q.num) ((p.den:Int)*(q.den:Int)) w (M0 (ten_mul (by assumption) (by assumption)) (ten_le (by omega))) (M0 (ten_mul (by assumption) (by assumption)) (ten_le (by omega))) (Int.mul_ne_zero (by omega) (by omega)));rw[show M1 (p.num*q.num) ((p.den:Int)*(q.den:Int))=p*q from by rw[rat_prod,M3]]at HC;clear n1 n2 m1 m2 hp hq pn pd qn qd pp qp hk hm;generalize ratTxt (p*q)=X at HC ⊢;generalize txt (p.num*q.num)=A at HA HC;generalize txt ((p.den:Int)*(q.den:Int))=B at HB HC;generalize txt p.num=A1 at HP HA HB;generalize txt (p.den:Int)=A2 at HP HA HB;generalize txt q.num=B1 at HQ HA HB;generalize txt (q.den:Int)=B2 at HQ HA HB;generalize ratTxt p=T1 at HP ⊢;generalize ratTxt q=T2 at HQ ⊢;go_enter Tryz.func75,Tryz.ntmps75;go_wp2_with fail
 refine(HP.out _).mono ?_;rintro e w1⟨rfl,h1⟩;have K:=Lh h1;clear h1;go_wp2_with fail
 refine(HQ.out _).mono ?_;rintro e w2⟨rfl,h1⟩;replace K:=Lh (below_on K.out h1);clear h1;go_wp2_with fail
 refine(HA.out _).mono ?_;rintro e w3⟨rfl,h1⟩;replace K:=Lh (below_on K.out h1);clear h1;go_wp2_with fail
 refine(HB.out _).mono ?_;rintro e w4⟨rfl,h1⟩;replace K:=Lh (below_on K.out h1);clear h1;go_wp2_with fail
 refine(HC.out _).mono ?_;rintro e w5⟨rfl,h1⟩;replace K:=Lh (below_on K.out h1);clear h1;go_wp2;go_ret;exact⟨rfl,K.out⟩
theorem refDivF_any{p q:Rat}{k m:Nat}(hp:Few p k)(hq:Few q m)(hk:k<=900)(hm:m<=900)(hq0:q.num≠0)(w:World):Calls Tryz.prog 33 #[Js (ratTxt p),Js (ratTxt q)] w fun e w'=>e= .returned (Js (ratTxt (p/q)))/\Below w.heap.size w w':=by
 have n1:=hp.ns hk;have n2:=hp.ds hk;have m1:=hq.ns hm;have m2:=hq.ds hm;have pp:=p.den_pos;have qp:=q.den_pos;have pn:=hp.n;have pd:=hp.di;have qn:=hq.n;have qd:=hq.di;have HP:=Lh (fun w=>refParts_any p w (by omega) (by omega));have HQ:=Lh (fun w=>refParts_any q w (by omega) (by omega));have HA:=Lh (fun w=>refMul_any p.num (q.den:Int) w (by omega) (by omega));have HB:=Lh (fun w=>refMul_any (p.den:Int) q.num w (by omega) (by omega));have HC:=Lh (fun w=>refRat_any (p.num*(q.den:Int)) ((p.den:Int)*q.num) w (M0 (ten_mul (by assumption) (by assumption)) (ten_le (by omega))) (M0 (ten_mul (by assumption) (by assumption)) (ten_le (by omega))) (Int.mul_ne_zero (by omega) (by omega)));rw[show M1 (p.num*(q.den:Int)) ((p.den:Int)*q.num)=p/q from(rat_quot p q).symm]at HC;clear n1 n2 m1 m2 hp hq pn pd qn qd pp qp hk hm;generalize ratTxt (p/q)=X at HC ⊢;generalize txt (p.num*(q.den:Int))=A at HA HC;generalize txt ((p.den:Int)*q.num)=B at HB HC;generalize txt p.num=A1 at HP HA HB;generalize txt (p.den:Int)=A2 at HP HA HB;generalize txt q.num=B1 at HQ HA HB;generalize txt (q.den:Int)=B2 at HQ HA HB;generalize ratTxt p=T1 at HP ⊢;generalize ratTxt q=T2 at HQ ⊢;go_enter Tryz.func33,Tryz.ntmps33;go_wp2_with fail
 refine(HP.out _).mono ?_;rintro e w1⟨rfl,h1⟩;have K:=Lh h1;clear h1;go_wp2_with fail
 refine(HQ.out _).mono ?_;rintro e w2⟨rfl,h1⟩;replace K:=Lh (below_on K.out h1);clear h1;go_wp2_with fail
 refine(HA.out _).mono ?_;rintro e w3⟨rfl,h1⟩;replace K:=Lh (below_on K.out h1);clear h1;go_wp2_with fail
 refine(HB.out _).mono ?_;rintro e w4⟨rfl,h1⟩;replace K:=Lh (below_on K.out h1);clear h1;go_wp2_with fail
 refine(HC.out _).mono ?_;rintro e w5⟨rfl,h1⟩;replace K:=Lh (below_on K.out h1);clear h1;go_wp2;go_ret;exact⟨rfl,K.out⟩
theorem refAddR_any{p q:Rat}{k m:Nat}(hp:Few p k)(hq:Few q m)(hk:k<=900)(hm:m<=900)(w:World):Calls Tryz.prog 71 #[Js (ratTxt p),Js (ratTxt q)] w fun e w'=>e= .returned (Js (ratTxt (p+q)))/\Below w.heap.size w w':=by
 have n1:=hp.ns hk;have n2:=hp.ds hk;have m1:=hq.ns hm;have m2:=hq.ds hm;have pp:=p.den_pos;have qp:=q.den_pos;have t1:=ten_mul hp.n hq.di;have t2:=ten_mul hq.n hp.di;rw[M9 m k]at t2;have t3:=ten_mul hp.di hq.di;have HP:=Lh (fun w=>refParts_any p w (by omega) (by omega));have HQ:=Lh (fun w=>refParts_any q w (by omega) (by omega));have HA:=Lh (fun w=>refMul_any p.num (q.den:Int) w (by omega) (by omega));have HB:=Lh (fun w=>refMul_any q.num (p.den:Int) w (by omega) (by omega));have z1:=ten_txt t1 (by omega);have z2:=ten_txt t2 (by omega);have HS:=Lh (fun w=>refAdd_any (p.num*(q.den:Int)) (q.num*(p.den:Int)) w (by omega) (by omega));have HD:=Lh (fun w=>refMul_any (p.den:Int) (q.den:Int) w (by omega) (by omega));have HC:=Lh (fun w=>refRat_any (p.num*(q.den:Int)+q.num*(p.den:Int)) ((p.den:Int)*(q.den:Int)) w (M0 (ten_sum t1 t2) (ten_le (by omega))) (M0 t3 (ten_le (by omega))) (Int.mul_ne_zero (by omega) (by omega)));rw[show M1 (p.num*(q.den:Int)+q.num*(p.den:Int)) ((p.den:Int)*(q.den:Int))=p+q from by rw[rat_sum,M3]]at HC;clear n1 n2 m1 m2 hp hq pp qp t1 t2 t3 z1 z2 hk hm;generalize ratTxt (p+q)=X at HC ⊢;generalize txt (p.num*(q.den:Int)+q.num*(p.den:Int))=S at HS HC;generalize txt (p.num*(q.den:Int))=A at HA HS;generalize txt (q.num*(p.den:Int))=B at HB HS;generalize txt ((p.den:Int)*(q.den:Int))=D at HD HC;generalize txt p.num=A1 at HP HA;generalize txt (p.den:Int)=A2 at HP HB HD;generalize txt q.num=B1 at HQ HB;generalize txt (q.den:Int)=B2 at HQ HA HD;generalize ratTxt p=T1 at HP ⊢
 generalize ratTxt q=T2 at HQ ⊢;go_enter Tryz.func71,Tryz.ntmps71;go_wp2_with fail
 refine(HP.out _).mono ?_;rintro e w1⟨rfl,h1⟩;have K:=Lh h1;clear h1;go_wp2_with fail
 refine(HQ.out _).mono ?_;rintro e w2⟨rfl,h1⟩;replace K:=Lh (below_on K.out h1);clear h1;go_wp2_with fail
 refine(HA.out _).mono ?_;rintro e w3⟨rfl,h1⟩;replace K:=Lh (below_on K.out h1);clear h1;go_wp2_with fail
 refine(HB.out _).mono ?_;rintro e w4⟨rfl,h1⟩;replace K:=Lh (below_on K.out h1);clear h1;go_wp2_with fail
 refine(HS.out _).mono ?_;rintro e w5⟨rfl,h1⟩;replace K:=Lh (below_on K.out h1);clear h1;go_wp2_with fail
 refine(HD.out _).mono ?_;rintro e w6⟨rfl,h1⟩;replace K:=Lh (below_on K.out h1);clear h1;go_wp2_with fail
 refine(HC.out _).mono ?_;rintro e w7⟨rfl,h1⟩;replace K:=Lh (below_on K.out h1);clear h1;go_wp2;go_ret;exact⟨rfl,K.out⟩
theorem rat_negs(p:Rat):M1 (-p.num) (p.den:Int)=-p:=by
 have h:=rat_self (-p);rw[Rat.neg_num,Rat.neg_den]at h;exact h
theorem refNegR_any{p:Rat}{k:Nat}(hp:Few p k)(hk:k<=900)(w:World):Calls Tryz.prog 73 #[Js (ratTxt p)] w fun e w'=>e= .returned (Js (ratTxt (-p)))/\Below w.heap.size w w':=by
 have n1:=hp.ns hk;have n2:=hp.ds hk;have pp:=p.den_pos;have HP:=Lh (fun w=>refParts_any p w (by omega) (by omega));have HA:=Lh (fun w=>refNeg_any p.num w (by omega));have HC:=Lh (fun w=>refRat_any (-p.num) (p.den:Int) w (by rw[M4];exact M0 hp.n (ten_le (by omega))) (M0 hp.di (ten_le (by omega))) (by omega));rw[rat_negs]at HC;clear n1 n2 hp pp hk;generalize ratTxt (-p)=X at HC ⊢;generalize txt (-p.num)=A at HA HC;generalize txt p.num=A1 at HP HA;generalize txt (p.den:Int)=A2 at HP HC;generalize ratTxt p=T1 at HP ⊢;go_enter Tryz.func73,Tryz.ntmps73;go_wp2_with fail
 refine(HP.out _).mono ?_;rintro e w1⟨rfl,h1⟩;have K:=Lh h1;clear h1;go_wp2_with fail
 refine(HA.out _).mono ?_;rintro e w2⟨rfl,h1⟩;replace K:=Lh (below_on K.out h1);clear h1;go_wp2_with fail
 refine(HC.out _).mono ?_;rintro e w3⟨rfl,h1⟩;replace K:=Lh (below_on K.out h1);clear h1;go_wp2;go_ret;exact⟨rfl,K.out⟩
def digs(s:ByteArray):Bool:=allDig s.data.toList && decide (0<s.size)
def errP(num den:ByteArray)(f:Bool):Int:=
 if digs (bodyOf num)=false\/digs den=false then 14
 else if allZero den.data.toList=true then 19
 else if errOf num≠0\/lead0 den=true\/(f=true/\(zOf den=1\/M7 (zOf num).natAbs (zOf den).natAbs≠1)) then 3 else 0
def numR(s:ByteArray):ByteArray:=s.extract 0 (slashAt s)
def denR(s:ByteArray):ByteArray:=if slashAt s<s.size then s.extract (slashAt s+1) s.size else⟨#[49]⟩
def fracR(s:ByteArray):Bool:=decide (slashAt s<s.size)
def errR(s:ByteArray):Int:=errP (numR s) (denR s) (fracR s)
theorem whole_extract(s:ByteArray):s.extract 0 s.size=s:=by
 apply ByteArray.ext;simp
def PartR(s num den:ByteArray)(f:Bool):Prop:=(f=false/\slashAt s=s.size/\num=s/\den=⟨#[49]⟩)\/(f=true/\slashAt s<s.size/\s=num ++ ⟨#[47]⟩ ++ den)
theorem partR(s:ByteArray):PartR s (numR s) (denR s) (fracR s)/\∀c∈(numR s).data.toList,c≠47:=by
 refine⟨?_,fun c hc=>?_⟩
 ·unfold numR denR fracR;have hle:=slashAt_le s;by_cases h:slashAt s<s.size
  ·rw[if_pos h,decide_eq_true h];exact .inr ⟨rfl,h,slash_whole h⟩
  ·have e:slashAt s=s.size:=by omega
   rw[if_neg h,decide_eq_false h,e,whole_extract];exact .inl ⟨rfl,e,rfl,rfl⟩
 ·have e2:(numR s).data.toList=s.data.toList.take (slashAt s):=by unfold numR;simp[ByteArray.data_extract]
  rw[e2]at hc;obtain⟨i,hi,rfl⟩:=List.getElem_of_mem hc;rw[List.length_take]at hi;have:=List.not_of_lt_findIdx (p:=(· ==47)) (xs:=s.data.toList) (i:=i) (by unfold slashAt at hi;omega);rw[List.getElem_take];simpa using this
theorem errP_14{num den:ByteArray}{f:Bool}(h:digs (bodyOf num)=false\/digs den=false):(14:Int)=errP num den f:=by
 unfold errP;rw[if_pos h]
theorem errP_19{num den:ByteArray}{f:Bool}(h1:digs (bodyOf num)=true)(h2:digs den=true)(h3:allZero den.data.toList=true):(19:Int)=errP num den f:=by
 unfold errP;rw[if_neg (by rw[h1,h2];simp),if_pos h3]
theorem errP_3{num den:ByteArray}{f:Bool}(h1:digs (bodyOf num)=true)(h2:digs den=true)(h3:allZero den.data.toList=false)(h:errOf num≠0\/lead0 den=true\/(f=true/\(zOf den=1\/M7 (zOf num).natAbs (zOf den).natAbs≠1))):(3:Int)=errP num den f:=by
 unfold errP;rw[if_neg (by rw[h1,h2];simp),if_neg (by rw[h3];simp),if_pos h]
theorem errP_0{num den:ByteArray}{f:Bool}(h1:digs (bodyOf num)=true)(h2:digs den=true)(h3:allZero den.data.toList=false)(h4:errOf num=0)(h5:lead0 den=false)(h:f=false\/(zOf den≠1/\M7 (zOf num).natAbs (zOf den).natAbs=1)):(0:Int)=errP num den f:=by
 unfold errP;rw[if_neg (by rw[h1,h2];simp),if_neg (by rw[h3];simp),if_neg];rintro(h6|h6|⟨h6,h7⟩)
 ·exact h6 h4
 ·rw[h5]at h6;cases h6
 ·rcases h with h|⟨h8,h9⟩
  ·rw[h]at h6;cases h6
  ·exact h7.elim h8 (fun h=>h h9)
theorem errOf_lead{num d:ByteArray}(hb:bodyOf num=d)(hd:digs d=true)(hl:lead0 d=true)(h:1<d.size\/1<num.size):errOf num≠0:=by
 obtain⟨h1,h2⟩:=dig_true hd;rw[(errOf_ways hb).2.2.1 h1 h2 hl h]
 decide
def CheckE(s:ByteArray)(w:World)(e:Ending)(w':World):Prop:=e= .returned (.int .i64 (errR s))/\Below w.heap.size w w'
theorem CheckE.of{s num den:ByteArray}{f:Bool}{E:Int}{e:Ending}{w w':World}(hR:errR s=errP num den f)(he:e= .returned (.int .i64 E))(hE:E=errP num den f)(h:Below w.heap.size w w'):CheckE s w e w':=⟨by rw[hR,←hE];exact he,h⟩
