/- The law TwistParses. -/
import Derived.Test.YthhobhjcnmmipaaGreatDoorPTwu
namespace Go.Proofs.YthhobhjcnmmipaaGreatDoor
open Go.Value renaming pointer→Jp,int→Ji,string→Js
open Go.IntKind renaming i64→Jl
open _root_.Option renaming none→Jn,some→Jo
open _root_.Nat renaming lt_or_ge→T3
open Go.RowKit
theorem cf14(args : Array Value)(w : World) : (callFunc 14 args).run Tryz.prog w = .ok (.enter 14 args) w :=by go_simp
theorem cf15(args : Array Value)(w : World) : (callFunc 15 args).run Tryz.prog w = .ok (.enter 15 args) w :=by go_simp
theorem cf16(args : Array Value)(w : World) : (callFunc 16 args).run Tryz.prog w = .ok (.enter 16 args) w :=by go_simp
theorem cf20(args : Array Value)(w : World) : (callFunc 20 args).run Tryz.prog w = .ok (.enter 20 args) w :=by go_simp
def y6(s0 s1 s2 s3 s4 s5 : ByteArray) : Nat -> ByteArray
 | 0 => s0
 | 1 => s1
 | 2 => s2
 | 3 => s3
 | 4 => s4
 | _ => s5
theorem N3{ρ : Operand -> Value}{w : World}{p k : Nat}{s s' : Tmp}(hk : k < 6)(h : ρ (.tmp s) =Jp (Jo ⟨p, 0, Jn⟩))(h' : ρ (.tmp s') =Ji Jl (k : Int)) : (execOp ρ (bare (.indexAddr 24 (.tmp s) (.tmp s')))).run Tryz.prog w = .ok (.value (Jp (Jo ⟨p, k, Jn⟩))) w :=by
 unfold execOp bare;dsimp only;rw[h, h']
 match k, hk with
 | 0, _ => go_simp <;> rfl
 | 1, _ => go_simp <;> rfl
 | 2, _ => go_simp <;> rfl
 | 3, _ => go_simp <;> rfl
 | 4, _ => go_simp <;> rfl
 | 5, _ => go_simp <;> rfl
section
variable {P : Program} {ops : Array Oper} {Q : Exit -> Act -> World -> Prop} {w0 : World} {a0 : Act} {L : Lay} {als : List Nat} {Fs : List Fct}
theorem Nz{i : Nat}{o : Oper}{F : Fct}{c s : Tmp}{x : Operand}(jc j : Nat)(ho : ops[i]? =Jo o)(hop : o.op = .pick (.tmp c) x (.tmp s))(hc : Fs[jc]? =Jo (Fct.val (.bool false)))(hj : Fs[j]? =Jo F)(hg : Fg ops Fs L o i true)(hx : (!(L.own i || als.contains i) && L.slot jc ==c && L.slot j ==s && Qp .any ops i jc && Qp .any ops i j) =true) : Has P ops Q w0 a0 L als Fs F i :=by
 simp only[Bool.and_eq_true, Bool.not_eq_true', beq_iff_eq]at hx;obtain⟨⟨⟨⟨h0, h1⟩, h2⟩, h3⟩, h4⟩ :=hx;refine Fp ho hg h0 fun a w hB hE hD => ⟨Act.at_ a s, ?_, by rw[←h2];exact hD j _ h4 hj⟩;have e : a.eval (.tmp c) = .bool false :=by have :=hD jc _ h3 hc;rw[h1]at this;exact this
 unfold execOp;rw[hop];show(do pure (Next.value (if ←asBool (a.eval (.tmp c)) then a.eval x else Act.at_ a s))).run P w =_;rw[e];rfl
end
def feK(e : Nat -> Int) : Nat -> Int
 | 0 => 0
 | k + 1 => if feK e k =0 then e k else feK e k
theorem Tn(e : Nat -> Int)(A B E : Int)(hA : er3 (e 0) (e 1) (e 2) =A)(hB : er3 (e 3) (e 4) (e 5) =B)(hE : (if A ≠ 0 then A else B) =E) : feK e 6 =E :=by
 subst hA hB hE;simp only[feK, er3];by_cases z0 : e 0 =0 <;> by_cases z1 : e 1 =0 <;> by_cases z2 : e 2 =0 <;> by_cases z3 : e 3 =0 <;> by_cases z4 : e 4 =0 <;> simp[z0, z1, z2, z3, z4]
theorem Tc(s0 s1 s2 s3 s4 s5 : ByteArray)(k : Nat)(hk : k < 6) : ([Js s0, Js s1, Js s2, Js s3, Js s4, Js s5] : List Value)[k]? =Jo (Js (y6 s0 s1 s2 s3 s4 s5 k)) :=by
 match k, hk with
 | 0, _ => rfl
 | 1, _ => rfl
 | 2, _ => rfl
 | 3, _ => rfl
 | 4, _ => rfl
 | 5, _ => rfl
theorem HE{E : Int}(h : ¬E =0)(q : Rat) : nz E q =0 :=if_neg h
theorem RW{E : Int}(h : E =0)(q : Rat) : nz E q =q :=if_pos h
theorem Tb{e0 e1 e2 e3 e4 e5 A B E : Int}(hA : er3 e0 e1 e2 =A)(hB : er3 e3 e4 e5 =B)(hE : (if A ≠ 0 then A else B) =E)(h : E =0) : e0 =0 /\ e1 =0 /\ e2 =0 /\ e3 =0 /\ e4 =0 /\ e5 =0 :=by
 by_cases hA0 : A =0
 ·rw[if_neg (by simpa using hA0)]at hE;obtain⟨a, b, c⟩ :=RU (hA.trans hA0);obtain⟨d, e, f⟩ :=RU (hB.trans (hE.trans h));exact⟨a, b, c, d, e, f⟩
 ·rw[if_pos hA0]at hE;exact absurd (hE.trans h) hA0
set_option maxRecDepth 100000 in
set_option maxHeartbeats 16000000 in
theorem RZ{s0 s1 s2 s3 s4 s5 : ByteArray}{w : World}(z0 : s0.size <= 1152921504606846976)(z1 : s1.size <= 1152921504606846976)(z2 : s2.size <= 1152921504606846976)(z3 : s3.size <= 1152921504606846976)(z4 : s4.size <= 1152921504606846976)(z5 : s5.size <= 1152921504606846976)(hg : Good w) :
  Calls Tryz.prog 3 #[.agg #[Js s0, Js s1, Js s2, Js s3, Js s4, Js s5]] w (Ret w (Fct.val (.bool true))) :=by
 have HG :=Lh hg;have hzk : ∀k, k < 6 -> (y6 s0 s1 s2 s3 s4 s5 k).size <= 1152921504606846976 :=fun k hk => by
  match k, hk with
  | 0, _ => exact z0
  | 1, _ => exact z1
  | 2, _ => exact z2
  | 3, _ => exact z3
  | 4, _ => exact z4
  | 5, _ => exact z5
 have HZ :=Lh hzk;clear hzk z0 z1 z2 z3 z4 z5;have k0 :=(Below.refl w.heap.size w).alloc (Nat.le_refl _) (.cells #[Js s0, Js s1, Js s2, Js s3, Js s4, Js s5] 24);have V0 :=Jh.new w #[Js s0, Js s1, Js s2, Js s3, Js s4, Js s5] 24;obtain⟨W, hW⟩ : ∃W, w.alloc (.cells #[Js s0, Js s1, Js s2, Js s3, Js s4, Js s5] 24) =W :=⟨_, rfl⟩;rw[hW]at k0 V0;replace V0 :=Lh (fun w' (hb : Below W.heap.size W w') => (V0.keep hb));have K :=Lh k0;have G :=Lh (fun w' (hb : Below W.heap.size W w') => hg.below (k0.trans (hb.mono k0.size)));clear hg k0;go_enter Tryz.func3, Tryz.ntmps3;go_upto_region 1 with fail
 try simp only[hW]
 clear hW;refine E8 74 [(11, false, 0), (12, false, 0)] []
  [Fct.val (.bool true),
  Fct.val (.bool false)]
  0 rfl (by kernel_rfl) rfl ⟨?_, ?_, trivial⟩
  (fun val0 => ⟨#[.agg #[Js s0, Js s1, Js s2, Js s3, Js s4, Js s5], Jp (Jo ⟨w.heap.size, 0, Jn⟩), .bool false, undef, undef, undef, undef, undef, undef, undef, undef, val0 11, val0 12, undef, undef, undef, undef, undef, undef, undef, undef, undef, undef, undef, undef, undef, undef, undef, undef, undef, undef, undef, undef, undef, undef, undef, undef, undef, undef, undef, undef, undef, undef, undef, undef, undef, undef, undef, undef, undef, undef, undef, undef, undef, undef, undef, undef, undef, undef, undef, undef, undef, undef, undef, undef, undef, undef, undef, undef, undef, undef, undef, undef, undef], []⟩) (fun val0 => by kernel_rfl) (fun val0 W0 hB hF => ⟨?_⟩)
 ·exact EZ cf13 rfl rfl rfl rfl rfl (by kernel_rfl) (fun a v hB hE hD => FG (G.out v hB))
 ·exact Fm (op := .unOp .not 4 (.tmp 11)) rfl rfl (fun _ => rfl) (.dep 0 rfl (by kernel_rfl)) rfl (by kernel_rfl) (fun a w e => by unfold execOp bare;dsimp only;rw[e];go_simp <;> rfl)
 have e11 : val0 11 = .bool true :=hF 0 _ rfl;have e12 : val0 12 = .bool false :=hF 1 _ rfl;clear hF;generalize val0 11 =t11 at *
 generalize val0 12 =t12 at *
 subst e11 e12;replace V0 :=Lh (fun w' (hb : Below W0.heap.size W0 w') => V0.out w' (Jd hB hb));replace K :=Lh (Jd K.out hB);replace G :=Lh (fun w' (hb : Below W0.heap.size W0 w') => G.out w' (Jd hB hb));clear hB;refine Last.nil (by kernel_rfl) ?_;have K1 :=Lh K.out;go_wp2_with fail
 go_loopw [3, 4] (fun ve vk wr => ∃(kk : Nat) (z e : Int), kk <= 6 /\ z =(kk : Int) /\ vk =Ji Jl z /\ ve =Ji Jl e /\ (e =feK (fun j => errR (y6 s0 s1 s2 s3 s4 s5 j)) kk /\ (∀j, j < kk -> (y6 s0 s1 s2 s3 s4 s5 j).size <= 30) /\ Below W0.heap.size W0 wr)) (fun _ vk _ => 6-(intOf vk).toNat)
 case atStart => exact⟨0, 0, 0, by decide, rfl, rfl, rfl, rfl, fun j hj => absurd hj (Nat.not_lt_zero _), Below.refl _ _⟩
 case round =>
  obtain⟨kk, z, e, hk, rfl, rfl, rfl, he, hsz, hb⟩ :=hrel;have Hb :=Lh hb;have K :=Lh (Jd K1.out hb);rcases T3 kk 6 with h6|h6
  ·have hcell : wr.cell? ⟨w.heap.size, kk, Jn⟩ =Jo (Js (y6 s0 s1 s2 s3 s4 s5 kk)) :=by
    rw[(V0.out wr hb).at_ kk];exact Tc s0 s1 s2 s3 s4 s5 kk h6
   have hat :=Tc s0 s1 s2 s3 s4 s5 kk h6;obtain⟨x, hx⟩ : ∃x, y6 s0 s1 s2 s3 s4 s5 kk =x :=⟨_, rfl⟩;have hxs :=HZ.out kk h6;rw[hx]at hcell hat hxs;have hz6 : (kk : Int) < 6 :=by omega
   by_cases hbig : 30 < x.size
   ·have tb : (30 < (x.size : Int)) =True :=by simp;omega
    clear hb;go_wp2_with fail
    exact bodyPost_ret (v := .bool true) (by simp[results, Tryz.results3, go_sem]) rfl ⟨_, rfl, K.out, rfl⟩
   ·have tb : (30 < (x.size : Int)) =False :=by simp;omega
    obtain⟨e6, q6, hT⟩ :=Tq.any (s :=x) (by omega);have hse : errR (y6 s0 s1 s2 s3 s4 s5 kk) =e6 :=by rw[hx];exact hT.er
    have hxz : (y6 s0 s1 s2 s3 s4 s5 kk).size <= 30 :=by rw[hx];exact hT.sz
    have V0 :=Lh (fun w' (hb' : Below wr.heap.size wr w') => V0.out w' (Jd hb hb'));have G :=Lh (fun w' (hb' : Below wr.heap.size wr w') => HG.out.below (K.out.trans (hb'.mono K.out.size)));clear hb;go_upto_region 9 with fail
    refine E8 74 [(23, false, 0), (24, false, 0), (25, false, 0), (26, false, 0), (22, false, 0), (27, false, 0), (28, false, 0), (5, false, 0), (5, true, 7), (6, false, 0)] [7]
     [Fct.val (Ji Jl (kk : Int)),
     Fct.val (Jp (Jo ⟨w.heap.size, kk, Jn⟩)),
     Fct.val (Js x),
     Fct.made e6 40 [nz e6 q6],
     Fct.made e6 40 [nz e6 q6],
     Fct.num [] 40 [nz e6 q6],
     Fct.val (Ji Jl e6),
     Fct.ptr 4,
     Fct.var [] 40 [nz e6 q6],
     Fct.val (Ji Jl e6)]
     0 rfl (by kernel_rfl) rfl ⟨?_, ?_, ?_, ?_, ?_, ?_, ?_, ?_, ?_, ?_, trivial⟩
     (fun val1 => ⟨#[.agg #[Js s0, Js s1, Js s2, Js s3, Js s4, Js s5], Jp (Jo ⟨w.heap.size, 0, Jn⟩), u2, Ji Jl e, Ji Jl (kk : Int), val1 5, val1 6, undef, undef, undef, undef, .bool true, .bool false, Ji Jl (kk : Int), .bool true, u15, u16, Ji Jl (kk : Int), Jp (Jo ⟨w.heap.size, kk, Jn⟩), Js x, Ji Jl (x.size : Int), .bool false, val1 22, val1 23, val1 24, val1 25, val1 26, val1 27, val1 28, u29, u30, u31, undef, undef, undef, undef, undef, undef, undef, undef, undef, undef, undef, undef, undef, undef, undef, undef, undef, undef, undef, undef, undef, undef, undef, undef, undef, undef, undef, undef, undef, undef, undef, undef, undef, undef, undef, undef, undef, undef, undef, undef, undef, undef], []⟩) (fun val1 => by kernel_rfl) (fun val1 W1 hB hF => ⟨?_⟩)
    ·exact Fh rfl rfl (.env rfl (by kernel_rfl)) rfl (by kernel_rfl)
    ·exact Dl (op := .indexAddr 24 (.tmp 1) (.tmp 23)) rfl rfl (fun _ => rfl) (.env rfl (by kernel_rfl)) (.dep 0 rfl (by kernel_rfl)) rfl (by kernel_rfl) (fun a w e e2 => N3 h6 e e2)
    ·exact Dy V0.out hat (.dep 1 rfl (by kernel_rfl)) rfl rfl rfl (by kernel_rfl) (by kernel_rfl)
    ·exact EZ cf14 rfl rfl rfl rfl rfl (by kernel_rfl) (fun a v hB hE hD => (show Calls _ _ #[Act.at_ a 25] v _ from by rw[show Act.at_ a 25 =_ from hD 2 _ (by kernel_rfl) rfl];exact Tk hT (G.out v hB)))
    ·exact E5 3 rfl rfl rfl rfl (by kernel_rfl)
    ·exact Fx 4 rfl rfl rfl rfl (by kernel_rfl)
    ·exact Fw 4 rfl rfl rfl rfl (by kernel_rfl)
    ·exact Fb [Ji Jl 0, Jp Jn, Ji Jl 0, Jp Jn] 31 rfl rfl rfl (by kernel_rfl) (by kernel_rfl) (fun a w => by go_simp)
    ·exact E9 7 5 rfl rfl rfl rfl rfl (by kernel_rfl) (by kernel_rfl)
    ·exact E5 6 rfl rfl rfl rfl (by kernel_rfl)
    obtain⟨p5, e5, V5⟩ : (Fct.var [] 40 [nz e6 q6]).P W1 (val1 5) :=hF 8 _ rfl;have e6 : val1 6 =Ji Jl e6 :=hF 9 _ rfl;clear hF;have HBX :=Jd Hb.out hB;generalize val1 5 =t5 at *
    generalize val1 6 =t6 at *
    subst e5 e6;replace V0 :=Lh (fun w' (hb : Below W1.heap.size W1 w') => V0.out w' (Jd hB hb));replace V5 :=Lh (fun w' (hb : Below W1.heap.size W1 w') => V5.keep hb);replace K :=Lh (Jd K.out hB);replace G :=Lh (fun w' (hb : Below W1.heap.size W1 w') => G.out w' (Jd hB hb));clear hB;refine Last.nil (by kernel_rfl) ?_;have hBx :=(show Below W0.heap.size W0 W1 from HBX);clear V5;by_cases he0 : e =0
    ·subst he0;go_wp2_with fail
     exact⟨⟨kk + 1, (kk : Int) + 1, e6, by omega, by omega, by go_num, rfl, by show e6 =if _ =0 then _ else _;rw[if_pos he.symm];exact hse.symm, fun j hj => ((T3 j kk).elim (fun h => hsz j h) (fun h => (show j =kk by omega) ▸ hxz)), hBx⟩, by simp[intOf];omega⟩
    ·have t0 : (e ==0) =false :=by rw[beq_eq_false_iff_ne];exact he0
     go_wp2_with fail
     exact⟨⟨kk + 1, (kk : Int) + 1, e, by omega, by omega, by go_num, rfl, by show e =if _ =0 then _ else _;rw[if_neg (by rw[←he];exact he0)];exact he, fun j hj => ((T3 j kk).elim (fun h => hsz j h) (fun h => (show j =kk by omega) ▸ hxz)), hBx⟩, by simp[intOf];omega⟩
  ·obtain rfl : kk =6 :=by omega
   have V0 :=Lh (fun w' (hb' : Below wr.heap.size wr w') => V0.out w' (Jd hb hb'));have G :=Lh (fun w' (hb' : Below wr.heap.size wr w') => HG.out.below (K.out.trans (hb'.mono K.out.size)));clear hb;obtain⟨e0, q0, h0⟩ :=Tq.any (s :=s0) (hsz 0 (by decide));obtain⟨e1, q1, h1⟩ :=Tq.any (s :=s1) (hsz 1 (by decide));obtain⟨e2, q2, h2⟩ :=Tq.any (s :=s2) (hsz 2 (by decide));obtain⟨e3, q3, h3⟩ :=Tq.any (s :=s3) (hsz 3 (by decide));obtain⟨e4, q4, h4⟩ :=Tq.any (s :=s4) (hsz 4 (by decide));obtain⟨e5, q5, h5⟩ :=Tq.any (s :=s5) (hsz 5 (by decide));obtain⟨A, hA⟩ : ∃A, er3 e0 e1 e2 =A :=⟨_, rfl⟩;obtain⟨B, hB_⟩ : ∃B, er3 e3 e4 e5 =B :=⟨_, rfl⟩;obtain⟨E, hE_⟩ : ∃E, (if A ≠ 0 then A else B) =E :=⟨_, rfl⟩;have hfe :=Tn (fun j => errR (y6 s0 s1 s2 s3 s4 s5 j)) A B E (by show er3 (errR s0) (errR s1) (errR s2) =A;rw[h0.er, h1.er, h2.er];exact hA) (by show er3 (errR s3) (errR s4) (errR s5) =B;rw[h3.er, h4.er, h5.er];exact hB_) hE_;have heE : e =E :=he.trans hfe;subst heE;clear he hfe hsz;go_upto_region 12 with fail
   refine E8 74 [(33, false, 0), (34, false, 0), (32, false, 0), (35, false, 0), (36, false, 0), (7, false, 0), (7, true, 5), (8, false, 0)] [5]
    [Fct.val (.agg #[Js s0, Js s1, Js s2, Js s3, Js s4, Js s5]),
    Fct.made e 40 [nz e q0, nz e q1, nz e q2, nz e q3, nz e q4, nz e q5],
    Fct.made e 40 [nz e q0, nz e q1, nz e q2, nz e q3, nz e q4, nz e q5],
    Fct.num [] 40 [nz e q0, nz e q1, nz e q2, nz e q3, nz e q4, nz e q5],
    Fct.val (Ji Jl e),
    Fct.ptr 24,
    Fct.var [] 40 [nz e q0, nz e q1, nz e q2, nz e q3, nz e q4, nz e q5],
    Fct.val (Ji Jl e)]
    0 rfl (by kernel_rfl) rfl ⟨?_, ?_, ?_, ?_, ?_, ?_, ?_, ?_, trivial⟩
    (fun val2 => ⟨#[.agg #[Js s0, Js s1, Js s2, Js s3, Js s4, Js s5], Jp (Jo ⟨w.heap.size, 0, Jn⟩), u2, Ji Jl e, Ji Jl 6, u5, u6, val2 7, val2 8, undef, undef, .bool true, .bool false, Ji Jl 6, .bool false, u15, u16, u17, u18, u19, u20, u21, u22, u23, u24, u25, u26, u27, u28, u29, u30, u31, val2 32, val2 33, val2 34, val2 35, val2 36, undef, undef, undef, undef, undef, undef, undef, undef, undef, undef, undef, undef, undef, undef, undef, undef, undef, undef, undef, undef, undef, undef, undef, undef, undef, undef, undef, undef, undef, undef, undef, undef, undef, undef, undef, undef, undef], []⟩) (fun val2 => by kernel_rfl) (fun val2 W2 hB hF => ⟨?_⟩)
   ·exact Fk 6 V0.out (.env rfl (by kernel_rfl)) rfl rfl rfl (by kernel_rfl) (by kernel_rfl) rfl (by kernel_rfl)
   ·exact EZ cf15 rfl rfl rfl rfl rfl (by kernel_rfl) (fun a v hB hE hD => (show Calls _ _ #[Act.at_ a 33] v _ from by rw[show Act.at_ a 33 =_ from hD 0 _ (by kernel_rfl) rfl];exact Tl h0 h1 h2 h3 h4 h5 hA hB_ hE_ (G.out v hB)))
   ·exact E5 1 rfl rfl rfl rfl (by kernel_rfl)
   ·exact Fx 2 rfl rfl rfl rfl (by kernel_rfl)
   ·exact Fw 2 rfl rfl rfl rfl (by kernel_rfl)
   ·exact Fb [Ji Jl 0, Jp Jn, Ji Jl 0, Jp Jn, Ji Jl 0, Jp Jn, Ji Jl 0, Jp Jn, Ji Jl 0, Jp Jn, Ji Jl 0, Jp Jn, Ji Jl 0, Jp Jn, Ji Jl 0, Jp Jn, Ji Jl 0, Jp Jn, Ji Jl 0, Jp Jn, Ji Jl 0, Jp Jn, Ji Jl 0, Jp Jn] 37 rfl rfl rfl (by kernel_rfl) (by kernel_rfl) (fun a w => by go_simp)
   ·exact E9 5 3 rfl rfl rfl rfl rfl (by kernel_rfl) (by kernel_rfl)
   ·exact E5 4 rfl rfl rfl rfl (by kernel_rfl)
   obtain⟨p7, e7, V7⟩ : (Fct.var [] 40 [nz e q0, nz e q1, nz e q2, nz e q3, nz e q4, nz e q5]).P W2 (val2 7) :=hF 6 _ rfl;have e8 : val2 8 =Ji Jl e :=hF 7 _ rfl;clear hF;generalize val2 7 =t7 at *
   generalize val2 8 =t8 at *
   subst e7 e8;replace V0 :=Lh (fun w' (hb : Below W2.heap.size W2 w') => V0.out w' (Jd hB hb));replace V7 :=Lh (fun w' (hb : Below W2.heap.size W2 w') => V7.keep hb);replace K :=Lh (Jd K.out hB);replace G :=Lh (fun w' (hb : Below W2.heap.size W2 w') => G.out w' (Jd hB hb));clear hB;refine Last.nil (by kernel_rfl) ?_;go_upto_region 13 with fail
   refine E8 74 [(38, false, 0), (39, false, 0), (37, false, 0), (40, false, 0), (41, false, 0), (9, false, 0), (9, true, 5), (10, false, 0)] [5]
    [Fct.val (.agg #[Js s0, Js s1, Js s2, Js s3, Js s4, Js s5]),
    Fct.made e 40 [nz e q0, nz e q1, nz e q2, nz e q3, nz e q4, nz e q5],
    Fct.made e 40 [nz e q0, nz e q1, nz e q2, nz e q3, nz e q4, nz e q5],
    Fct.num [] 40 [nz e q0, nz e q1, nz e q2, nz e q3, nz e q4, nz e q5],
    Fct.val (Ji Jl e),
    Fct.ptr 24,
    Fct.var [] 40 [nz e q0, nz e q1, nz e q2, nz e q3, nz e q4, nz e q5],
    Fct.val (Ji Jl e)]
    0 rfl (by kernel_rfl) rfl ⟨?_, ?_, ?_, ?_, ?_, ?_, ?_, ?_, trivial⟩
    (fun val3 => ⟨#[.agg #[Js s0, Js s1, Js s2, Js s3, Js s4, Js s5], Jp (Jo ⟨w.heap.size, 0, Jn⟩), u2, Ji Jl e, Ji Jl 6, u5, u6, Jp (Jo ⟨p7, 0, Jn⟩), Ji Jl e, val3 9, val3 10, .bool true, .bool false, Ji Jl 6, .bool false, u15, u16, u17, u18, u19, u20, u21, u22, u23, u24, u25, u26, u27, u28, u29, u30, u31, val2 32, val2 33, val2 34, val2 35, val2 36, val3 37, val3 38, val3 39, val3 40, val3 41, undef, undef, undef, undef, undef, undef, undef, undef, undef, undef, undef, undef, undef, undef, undef, undef, undef, undef, undef, undef, undef, undef, undef, undef, undef, undef, undef, undef, undef, undef, undef, undef], []⟩) (fun val3 => by kernel_rfl) (fun val3 W3 hB hF => ⟨?_⟩)
   ·exact Fk 6 V0.out (.env rfl (by kernel_rfl)) rfl rfl rfl (by kernel_rfl) (by kernel_rfl) rfl (by kernel_rfl)
   ·exact EZ cf16 rfl rfl rfl rfl rfl (by kernel_rfl) (fun a v hB hE hD => (show Calls _ _ #[Act.at_ a 38] v _ from by rw[show Act.at_ a 38 =_ from hD 0 _ (by kernel_rfl) rfl];exact Th h0 h1 h2 h3 h4 h5 hA hB_ hE_ (G.out v hB)))
   ·exact E5 1 rfl rfl rfl rfl (by kernel_rfl)
   ·exact Fx 2 rfl rfl rfl rfl (by kernel_rfl)
   ·exact Fw 2 rfl rfl rfl rfl (by kernel_rfl)
   ·exact Fb [Ji Jl 0, Jp Jn, Ji Jl 0, Jp Jn, Ji Jl 0, Jp Jn, Ji Jl 0, Jp Jn, Ji Jl 0, Jp Jn, Ji Jl 0, Jp Jn, Ji Jl 0, Jp Jn, Ji Jl 0, Jp Jn, Ji Jl 0, Jp Jn, Ji Jl 0, Jp Jn, Ji Jl 0, Jp Jn, Ji Jl 0, Jp Jn] 41 rfl rfl rfl (by kernel_rfl) (by kernel_rfl) (fun a w => by go_simp)
   ·exact E9 5 3 rfl rfl rfl rfl rfl (by kernel_rfl) (by kernel_rfl)
   ·exact E5 4 rfl rfl rfl rfl (by kernel_rfl)
   obtain⟨p9, e9, V9⟩ : (Fct.var [] 40 [nz e q0, nz e q1, nz e q2, nz e q3, nz e q4, nz e q5]).P W3 (val3 9) :=hF 6 _ rfl;have e10 : val3 10 =Ji Jl e :=hF 7 _ rfl;clear hF;generalize val3 9 =t9 at *
   generalize val3 10 =t10 at *
   subst e9 e10;replace V0 :=Lh (fun w' (hb : Below W3.heap.size W3 w') => V0.out w' (Jd hB hb));replace V7 :=Lh (fun w' (hb : Below W3.heap.size W3 w') => V7.out w' (Jd hB hb));replace V9 :=Lh (fun w' (hb : Below W3.heap.size W3 w') => V9.keep hb);replace K :=Lh (Jd K.out hB);replace G :=Lh (fun w' (hb : Below W3.heap.size W3 w') => G.out w' (Jd hB hb));clear hB;refine Last.nil (by kernel_rfl) ?_;go_upto_region 14 with fail
   refine E8 74 [(42, false, 0), (43, false, 0), (44, false, 0), (45, false, 0), (46, false, 0), (47, false, 0), (48, false, 0), (49, false, 0)] []
    [Fct.val (Ji Jl e),
    Fct.val (Ji Jl e),
    Fct.val (.bool false),
    Fct.val (.bool false),
    Fct.val (Ji Jl e),
    Fct.val (Ji Jl e),
    Fct.val (.bool false),
    Fct.val (.bool false)]
    0 rfl (by kernel_rfl) rfl ⟨?_, ?_, ?_, ?_, ?_, ?_, ?_, ?_, trivial⟩
    (fun val4 => ⟨#[.agg #[Js s0, Js s1, Js s2, Js s3, Js s4, Js s5], Jp (Jo ⟨w.heap.size, 0, Jn⟩), u2, Ji Jl e, Ji Jl 6, u5, u6, Jp (Jo ⟨p7, 0, Jn⟩), Ji Jl e, Jp (Jo ⟨p9, 0, Jn⟩), Ji Jl e, .bool true, .bool false, Ji Jl 6, .bool false, u15, u16, u17, u18, u19, u20, u21, u22, u23, u24, u25, u26, u27, u28, u29, u30, u31, val2 32, val2 33, val2 34, val2 35, val2 36, val3 37, val3 38, val3 39, val3 40, val3 41, val4 42, val4 43, val4 44, val4 45, val4 46, val4 47, val4 48, val4 49, undef, undef, undef, undef, undef, undef, undef, undef, undef, undef, undef, undef, undef, undef, undef, undef, undef, undef, undef, undef, undef, undef, undef, undef], []⟩) (fun val4 => by kernel_rfl) (fun val4 W4 hB hF => ⟨?_⟩)
   ·exact Fh rfl rfl (.env rfl (by kernel_rfl)) rfl (by kernel_rfl)
   ·exact Fh rfl rfl (.env rfl (by kernel_rfl)) rfl (by kernel_rfl)
   ·exact Dl (op := .binOp .neq 26 (.tmp 42) (.tmp 43) 26) rfl rfl (fun _ => rfl) (.dep 0 rfl (by kernel_rfl)) (.dep 1 rfl (by kernel_rfl)) rfl (by kernel_rfl) (fun a w e e2 => by unfold execOp bare;dsimp only;rw[e, e2];go_simp <;> simp)
   ·exact E5 2 rfl rfl rfl rfl (by kernel_rfl)
   ·exact Fh rfl rfl (.env rfl (by kernel_rfl)) ⟨false, rfl, rfl, by kernel_rfl, rfl⟩ (by kernel_rfl)
   ·exact Fh rfl rfl (.env rfl (by kernel_rfl)) ⟨false, rfl, rfl, by kernel_rfl, rfl⟩ (by kernel_rfl)
   ·exact Dl (op := .binOp .neq 26 (.tmp 46) (.tmp 47) 26) rfl rfl (fun _ => rfl) (.dep 4 rfl (by kernel_rfl)) (.dep 5 rfl (by kernel_rfl)) ⟨false, rfl, rfl, by kernel_rfl, rfl⟩ (by kernel_rfl) (fun a w e e2 => by unfold execOp bare;dsimp only;rw[e, e2];go_simp <;> simp)
   ·exact Nz 3 6 rfl rfl rfl rfl rfl (by kernel_rfl)
   have e49 : val4 49 = .bool false :=hF 7 _ rfl;clear hF;generalize val4 49 =t49 at *
   subst e49;replace V0 :=Lh (fun w' (hb : Below W4.heap.size W4 w') => V0.out w' (Jd hB hb));replace V7 :=Lh (fun w' (hb : Below W4.heap.size W4 w') => V7.out w' (Jd hB hb));replace V9 :=Lh (fun w' (hb : Below W4.heap.size W4 w') => V9.out w' (Jd hB hb));replace K :=Lh (Jd K.out hB);replace G :=Lh (fun w' (hb : Below W4.heap.size W4 w') => G.out w' (Jd hB hb));clear hB;refine Last.nil (by kernel_rfl) ?_;by_cases hE0 : e =0
   ·obtain⟨f0, f1, f2, f3, f4, f5⟩ :=Tb hA hB_ hE_ hE0;subst hE0;have w0 : Qs (nz 0 q0) =s0 :=(congrArg Qs (RW rfl q0)).trans (h0.tx f0);have w1 : Qs (nz 0 q1) =s1 :=(congrArg Qs (RW rfl q1)).trans (h1.tx f1);have w2 : Qs (nz 0 q2) =s2 :=(congrArg Qs (RW rfl q2)).trans (h2.tx f2);have w3 : Qs (nz 0 q3) =s3 :=(congrArg Qs (RW rfl q3)).trans (h3.tx f3);have w4 : Qs (nz 0 q4) =s4 :=(congrArg Qs (RW rfl q4)).trans (h4.tx f4);have w5 : Qs (nz 0 q5) =s5 :=(congrArg Qs (RW rfl q5)).trans (h5.tx f5);go_upto_region 18 with fail
    refine Fy 74 [(64, false, 0), (65, false, 0), (66, false, 0), (67, false, 0), (68, false, 0), (69, false, 0), (70, false, 0), (71, false, 0), (72, false, 0), (73, false, 0), (2, false, 0)] []
     [Fct.num [] 40 [nz 0 q0, nz 0 q1, nz 0 q2, nz 0 q3, nz 0 q4, nz 0 q5],
     Fct.val (.agg #[Js s0, Js s1, Js s2, Js s3, Js s4, Js s5]),
     Fct.val (.agg #[Js s0, Js s1, Js s2, Js s3, Js s4, Js s5]),
     Fct.val (.bool true),
     Fct.val (.bool true),
     Fct.num [] 40 [nz 0 q0, nz 0 q1, nz 0 q2, nz 0 q3, nz 0 q4, nz 0 q5],
     Fct.val (.agg #[Js s0, Js s1, Js s2, Js s3, Js s4, Js s5]),
     Fct.val (.agg #[Js s0, Js s1, Js s2, Js s3, Js s4, Js s5]),
     Fct.val (.bool true),
     Fct.val (.bool true),
     Fct.val (.bool true)]
     #[true, true, true, true, true, true, true, true, true, true, true] 0 rfl (by kernel_rfl) rfl (by kernel_rfl) ⟨?_, ?_, ?_, ?_, ?_, ?_, ?_, ?_, ?_, ?_, ?_, trivial⟩
     (fun val5 => ⟨#[.agg #[Js s0, Js s1, Js s2, Js s3, Js s4, Js s5], Jp (Jo ⟨w.heap.size, 0, Jn⟩), val5 2, Ji Jl 0, Ji Jl 6, u5, u6, Jp (Jo ⟨p7, 0, Jn⟩), Ji Jl 0, Jp (Jo ⟨p9, 0, Jn⟩), Ji Jl 0, .bool true, .bool false, Ji Jl 6, .bool false, u15, u16, u17, u18, u19, u20, u21, u22, u23, u24, u25, u26, u27, u28, u29, u30, u31, val2 32, val2 33, val2 34, val2 35, val2 36, val3 37, val3 38, val3 39, val3 40, val3 41, val4 42, val4 43, val4 44, val4 45, val4 46, val4 47, val4 48, .bool false, Ji Jl 0, .bool false, undef, undef, undef, undef, undef, undef, undef, undef, undef, undef, undef, undef, val5 64, val5 65, val5 66, val5 67, val5 68, val5 69, val5 70, val5 71, val5 72, val5 73], []⟩) (fun val5 => by kernel_rfl) (fun val5 W5 hB hF => ⟨?_⟩)
    ·exact E7 V7.out (.env rfl (by kernel_rfl)) rfl rfl rfl (by kernel_rfl) (by kernel_rfl)
    ·exact EZ cf19 rfl rfl rfl rfl rfl (by kernel_rfl) (fun a v hB hE hD => D7 (hD 0 _ (by kernel_rfl) rfl) (by decide) (G.out v hB) w0 w1 w2 w3 w4 w5)
    ·exact Fk 6 V0.out (.env rfl (by kernel_rfl)) rfl rfl rfl (by kernel_rfl) (by kernel_rfl) rfl (by kernel_rfl)
    ·exact Dl (op := .binOp .eql 24 (.tmp 65) (.tmp 66) 24) rfl rfl (fun _ => rfl) (.dep 1 rfl (by kernel_rfl)) (.dep 2 rfl (by kernel_rfl)) rfl (by kernel_rfl) (fun a w e e2 => by unfold execOp bare;dsimp only;rw[e, e2];have :=Ld s0 s1 s2 s3 s4 s5 w;go_simp)
    ·exact E5 3 rfl rfl rfl rfl (by kernel_rfl)
    ·exact E7 V9.out (.env rfl (by kernel_rfl)) rfl rfl ⟨true, rfl, rfl, by kernel_rfl, rfl⟩ (by kernel_rfl) (by kernel_rfl)
    ·exact EZ cf20 rfl rfl rfl rfl ⟨true, rfl, rfl, by kernel_rfl, rfl⟩ (by kernel_rfl) (fun a v hB hE hD => R0 (hD 5 _ (by kernel_rfl) rfl) (by decide) (G.out v hB) w0 w1 w2 w3 w4 w5)
    ·exact Fk 6 V0.out (.env rfl (by kernel_rfl)) rfl rfl ⟨true, rfl, rfl, by kernel_rfl, rfl⟩ (by kernel_rfl) (by kernel_rfl) rfl (by kernel_rfl)
    ·exact Dl (op := .binOp .eql 44 (.tmp 70) (.tmp 71) 44) rfl rfl (fun _ => rfl) (.dep 6 rfl (by kernel_rfl)) (.dep 7 rfl (by kernel_rfl)) ⟨true, rfl, rfl, by kernel_rfl, rfl⟩ (by kernel_rfl) (fun a w e e2 => by unfold execOp bare;dsimp only;rw[e, e2];have :=R8 s0 s1 s2 s3 s4 s5 w;go_simp)
    ·exact Fe 4 8 rfl rfl rfl rfl rfl (by kernel_rfl)
    ·exact E5 9 rfl rfl rfl rfl (by kernel_rfl)
    have e2 : val5 2 = .bool true :=hF 10 _ rfl;clear hF;generalize val5 2 =t2 at *
    subst e2;replace V0 :=Lh (fun w' (hb : Below W5.heap.size W5 w') => V0.out w' (Jd hB hb));replace V7 :=Lh (fun w' (hb : Below W5.heap.size W5 w') => V7.out w' (Jd hB hb));replace V9 :=Lh (fun w' (hb : Below W5.heap.size W5 w') => V9.out w' (Jd hB hb));replace K :=Lh (Jd K.out hB);replace G :=Lh (fun w' (hb : Below W5.heap.size W5 w') => G.out w' (Jd hB hb));clear hB;refine Last.nil (by kernel_rfl) ?_;clear G V0 V7 V9;go_wp2_with fail
    exact bodyPost_ret (v := .bool true) (by simp[results, Tryz.results3, go_sem]) rfl ⟨_, rfl, K.out, rfl⟩
   ·have t0 : (e ==0) =false :=by rw[beq_eq_false_iff_ne];exact hE0
    have t1 : (e !=0) =true :=by rw[bne, t0];rfl
    go_upto_region 17 with fail
    refine E8 74 [(52, false, 0), (53, false, 0), (54, false, 0), (55, false, 0), (56, false, 0), (57, false, 0), (58, false, 0), (59, false, 0), (60, false, 0), (61, false, 0), (62, false, 0), (63, false, 0), (2, false, 0)] []
     [Fct.num [] 40 [nz e q0, nz e q1, nz e q2, nz e q3, nz e q4, nz e q5],
     Fct.val (.bool true),
     Fct.val (.bool true),
     Fct.val (Jp (Jo ⟨p9, 0, Jn⟩)),
     Fct.num [] 40 [nz e q0, nz e q1, nz e q2],
     Fct.val (.bool true),
     Fct.val (.bool true),
     Fct.val (.bool true),
     Fct.val (Jp (Jo ⟨p9, 12, Jn⟩)),
     Fct.num [] 40 [nz e q3, nz e q4, nz e q5],
     Fct.val (.bool true),
     Fct.val (.bool true),
     Fct.val (.bool true)]
     0 rfl (by kernel_rfl) rfl ⟨?_, ?_, ?_, ?_, ?_, ?_, ?_, ?_, ?_, ?_, ?_, ?_, ?_, trivial⟩
     (fun val5 => ⟨#[.agg #[Js s0, Js s1, Js s2, Js s3, Js s4, Js s5], Jp (Jo ⟨w.heap.size, 0, Jn⟩), val5 2, Ji Jl e, Ji Jl 6, u5, u6, Jp (Jo ⟨p7, 0, Jn⟩), Ji Jl e, Jp (Jo ⟨p9, 0, Jn⟩), Ji Jl e, .bool true, .bool false, Ji Jl 6, .bool false, u15, u16, u17, u18, u19, u20, u21, u22, u23, u24, u25, u26, u27, u28, u29, u30, u31, val2 32, val2 33, val2 34, val2 35, val2 36, val3 37, val3 38, val3 39, val3 40, val3 41, val4 42, val4 43, val4 44, val4 45, val4 46, val4 47, val4 48, .bool false, Ji Jl e, .bool true, val5 52, val5 53, val5 54, val5 55, val5 56, val5 57, val5 58, val5 59, val5 60, val5 61, val5 62, val5 63, undef, undef, undef, undef, undef, undef, undef, undef, undef, undef], []⟩) (fun val5 => by kernel_rfl) (fun val5 W5 hB hF => ⟨?_⟩)
    ·exact E7 V7.out (.env rfl (by kernel_rfl)) rfl rfl rfl (by kernel_rfl) (by kernel_rfl)
    ·exact EZ cf17 rfl rfl rfl rfl rfl (by kernel_rfl) (fun a v hB hE hD => Lu (hD 0 _ (by kernel_rfl) rfl) (HE hE0 q0) (HE hE0 q1) (HE hE0 q2) (HE hE0 q3) (HE hE0 q4) (HE hE0 q5) (by kernel_rfl) (G.out v hB))
    ·exact E5 1 rfl rfl rfl rfl (by kernel_rfl)
    ·exact E4 rfl rfl (.env rfl (by kernel_rfl)) ⟨true, rfl, rfl, by kernel_rfl, rfl⟩ (by kernel_rfl) (fun w => by go_simp)
    ·exact E6 0 3 V9.out (.dep 3 rfl (by kernel_rfl)) rfl rfl ⟨true, rfl, rfl, by kernel_rfl, rfl⟩ (by kernel_rfl) (by kernel_rfl) (by kernel_rfl)
    ·exact EZ cf18 rfl rfl rfl rfl ⟨true, rfl, rfl, by kernel_rfl, rfl⟩ (by kernel_rfl) (fun a v hB hE hD => Ft (hD 4 _ (by kernel_rfl) rfl) (Zw.2 ⟨HE hE0 q0, HE hE0 q1, HE hE0 q2⟩) (by kernel_rfl))
    ·exact Fe 2 5 rfl rfl rfl rfl rfl (by kernel_rfl)
    ·exact E5 6 rfl rfl rfl rfl (by kernel_rfl)
    ·exact E4 rfl rfl (.env rfl (by kernel_rfl)) ⟨true, rfl, rfl, by kernel_rfl, rfl⟩ (by kernel_rfl) (fun w => by go_simp)
    ·exact E6 3 3 V9.out (.dep 8 rfl (by kernel_rfl)) rfl rfl ⟨true, rfl, rfl, by kernel_rfl, rfl⟩ (by kernel_rfl) (by kernel_rfl) (by kernel_rfl)
    ·exact EZ cf18 rfl rfl rfl rfl ⟨true, rfl, rfl, by kernel_rfl, rfl⟩ (by kernel_rfl) (fun a v hB hE hD => Ft (hD 9 _ (by kernel_rfl) rfl) (Zw.2 ⟨HE hE0 q3, HE hE0 q4, HE hE0 q5⟩) (by kernel_rfl))
    ·exact Fe 7 10 rfl rfl rfl rfl rfl (by kernel_rfl)
    ·exact E5 11 rfl rfl rfl rfl (by kernel_rfl)
    have e2 : val5 2 = .bool true :=hF 12 _ rfl;clear hF;generalize val5 2 =t2 at *
    subst e2;replace V0 :=Lh (fun w' (hb : Below W5.heap.size W5 w') => V0.out w' (Jd hB hb));replace V7 :=Lh (fun w' (hb : Below W5.heap.size W5 w') => V7.out w' (Jd hB hb));replace V9 :=Lh (fun w' (hb : Below W5.heap.size W5 w') => V9.out w' (Jd hB hb));replace K :=Lh (Jd K.out hB);replace G :=Lh (fun w' (hb : Below W5.heap.size W5 w') => G.out w' (Jd hB hb));clear hB;refine Last.nil (by kernel_rfl) ?_;clear G V0 V7 V9;go_wp2_with fail
    exact bodyPost_ret (v := .bool true) (by simp[results, Tryz.results3, go_sem]) rfl ⟨_, rfl, K.out, rfl⟩
