/- Twists: axes. -/
import Derived.Test.YthhobhjcnmmipaaGreatDoorPTwe
namespace Go.Proofs.YthhobhjcnmmipaaGreatDoor
open Go.Value renaming pointer→Jp,int→Ji,int→T3
open Go.IntKind renaming i64→Jl
open Go.Obj renaming cells→Jc
open _root_.Option renaming none→Jn,some→Jo
open Go.RowKit
theorem cf49(args : Array Value)(w : World) : (callFunc 49 args).run Tryz.prog w = .ok (.enter 49 args) w :=by go_simp
theorem cf47(args : Array Value)(w : World) : (callFunc 47 args).run Tryz.prog w = .ok (.enter 47 args) w :=by go_simp
def pF(q0 q1 q2 : Rat) : Rat :=Rat.divInt (unK (qK q0 q1 q2) 3) (ovK (qK q0 q1 q2) 3)
theorem Num.up{hd : List Value}{k n : Nat}{qs : List Rat}{w : World}{t : Value}(h : (Fct.num hd k qs).P w t)(hk : k <= n) : (Fct.num hd n qs).P w t :=by
 obtain⟨rs, e, hr, f⟩ :=h;exact⟨rs, e, hr, fun q hq => (f q hq).up hk⟩
theorem Dp{x : Value}{a0 a1 a2 : Rat}{k n : Nat}{w : World}(h : (Fct.num [] k [a0, a1, a2]).P w x)(hz : Xv a0 a1 a2 =false)(hn : (decide (3 * k + 1 <= 300) && decide (3 * k + 1 <= n)) =true)(hg : Good w) : Calls Tryz.prog 49 #[x] w (Ret w (Fct.made 0 n [pF a0 a1 a2 * a0, pF a0 a1 a2 * a1, pF a0 a1 a2 * a2])) :=by
 simp only[Bool.and_eq_true, decide_eq_true_eq]at hn;obtain⟨x0, x1, x2, rfl, hx, f⟩ :=V3 h;refine(EL _ _ _ _ _ _ k w hx f hn.1 hz hg).mono ?_;rintro e v⟨r0, r1, r2, rfl, hv, hb⟩;have ff :=EU f (KT hz);refine⟨_, rfl, hb, [r0, r1, r2], rfl, ⟨hv.x, hv.y, hv.z, trivial⟩, fun q hq => ?_⟩;simp only[List.mem_cons, List.not_mem_nil, or_false]at hq;rcases hq with rfl|rfl|rfl
 ·exact ff.x.up (by omega)
 ·exact ff.y.up (by omega)
 ·exact ff.z.up (by omega)
theorem Dm{q : Rat}(h : q ≠ 0) : q.num ≠ 0 :=fun e => h (by rw[←Rat.num_divInt_den q, e];simp)
theorem Lf(q : Rat) : 0 <= q * q :=by
 rcases Rat.le_total (a :=0) (b :=q)with h|h
 ·exact Rat.mul_nonneg h h
 ·have :=Rat.mul_nonneg (show(0 : Rat) <= -q by grind) (show(0 : Rat) <= -q by grind)
  grind
theorem DH{q : Rat}(h : q * q =0) : q =0 :=by
 rcases Rat.mul_eq_zero.1 h with h|h <;> exact h
theorem DQ{a0 a1 a2 : Rat}(hz : Xv a0 a1 a2 =false) : a0 * a0 + a1 * a1 + a2 * a2 ≠ 0 :=fun e => by
 have h0 :=Lf a0;have h1 :=Lf a1;have h2 :=Lf a2;have z : Xv a0 a1 a2 =true :=Zw.2 ⟨DH (by grind), DH (by grind), DH (by grind)⟩;rw[hz]at z;cases z
set_option maxRecDepth 100000 in
set_option maxHeartbeats 16000000 in
theorem DY{x : Value}{a0 a1 a2 b0 b1 b2 : Rat}{w : World}(h : (Fct.num [] 13 [a0, a1, a2, b0, b1, b2]).P w x){σ : Int}(hz : Xv a0 a1 a2 =false)(hal : sgn (a0 * b0 + a1 * b1 + a2 * b2).num =σ)(hne : (σ !=0) =true)(_hne2 : (σ ==0) =false)(hg : Good w) :
  Calls Tryz.prog 47 #[x] w (Ret w (Fct.num [Ji Jl 3] 161 [pF a0 a1 a2 * a0, pF a0 a1 a2 * a1, pF a0 a1 a2 * a2, (((1 : Int) : Rat)/(a0 * a0 + a1 * a1 + a2 * a2)) * (a1 * b2-a2 * b1), (((1 : Int) : Rat)/(a0 * a0 + a1 * a1 + a2 * a2)) * (a2 * b0-a0 * b2), (((1 : Int) : Rat)/(a0 * a0 + a1 * a1 + a2 * a2)) * (a0 * b1-a1 * b0), (a0 * b0 + a1 * b1 + a2 * b2) * (((1 : Int) : Rat)/(a0 * a0 + a1 * a1 + a2 * a2))])) :=by
 have hd :=Dm (DQ hz);obtain⟨rs0, rfl, hr0, f0⟩ :=h;obtain⟨A0, hA0⟩ : ∃A, ([] ++ flat rs0).toArray =A :=⟨_, rfl⟩;have k0 :=(Below.refl w.heap.size w).alloc (Nat.le_refl _) (Jc A0 37);have k1 :=k0.alloc (by simp) (Jc #[T3 Jl 0, Ji Jl 0, Jp Jn, Ji Jl 0, Jp Jn, Ji Jl 0, Jp Jn, Ji Jl 0, Jp Jn, Ji Jl 0, Jp Jn, Ji Jl 0, Jp Jn, Ji Jl 0, Jp Jn, Ji Jl 0, Jp Jn, Ji Jl 0, Jp Jn, Ji Jl 0, Jp Jn, Ji Jl 0, Jp Jn, Ji Jl 0, Jp Jn, Ji Jl 0, Jp Jn, Ji Jl 0, Jp Jn] 90);have V0 :=Fi.box hA0.symm hr0 f0 37;have V1 :=Jh.new (w.alloc (Jc A0 37)) #[T3 Jl 0, Ji Jl 0, Jp Jn, Ji Jl 0, Jp Jn, Ji Jl 0, Jp Jn, Ji Jl 0, Jp Jn, Ji Jl 0, Jp Jn, Ji Jl 0, Jp Jn, Ji Jl 0, Jp Jn, Ji Jl 0, Jp Jn, Ji Jl 0, Jp Jn, Ji Jl 0, Jp Jn, Ji Jl 0, Jp Jn, Ji Jl 0, Jp Jn, Ji Jl 0, Jp Jn, Ji Jl 0, Jp Jn] 90;have j1 :=(Below.refl (w.alloc (Jc A0 37)).heap.size (w.alloc (Jc A0 37))).alloc (Nat.le_refl _) (Jc #[T3 Jl 0, Ji Jl 0, Jp Jn, Ji Jl 0, Jp Jn, Ji Jl 0, Jp Jn, Ji Jl 0, Jp Jn, Ji Jl 0, Jp Jn, Ji Jl 0, Jp Jn, Ji Jl 0, Jp Jn, Ji Jl 0, Jp Jn, Ji Jl 0, Jp Jn, Ji Jl 0, Jp Jn, Ji Jl 0, Jp Jn, Ji Jl 0, Jp Jn, Ji Jl 0, Jp Jn, Ji Jl 0, Jp Jn] 90);replace V0 :=(V0.keep j1);simp only[World.size_alloc]at V0 V1;rw[hA0];obtain⟨W, hW⟩ : ∃W, (w.alloc (Jc A0 37)).alloc (Jc #[T3 Jl 0, Ji Jl 0, Jp Jn, Ji Jl 0, Jp Jn, Ji Jl 0, Jp Jn, Ji Jl 0, Jp Jn, Ji Jl 0, Jp Jn, Ji Jl 0, Jp Jn, Ji Jl 0, Jp Jn, Ji Jl 0, Jp Jn, Ji Jl 0, Jp Jn, Ji Jl 0, Jp Jn, Ji Jl 0, Jp Jn, Ji Jl 0, Jp Jn, Ji Jl 0, Jp Jn, Ji Jl 0, Jp Jn] 90) =W :=⟨_, rfl⟩;rw[hW]at k1 V0 V1;replace V0 :=Lh (fun w' (hb : Below W.heap.size W w') => V0.keep hb)
 replace V1 :=Lh V1;have Hg :=Lh hg;have K :=Lh k1;have G :=Lh (fun w' (hb : Below W.heap.size W w') => hg.below (k1.trans (hb.mono k1.size)));clear hg hr0 f0 hA0 k0 k1 j1;go_enter Tryz.func47, Tryz.ntmps47;go_upto_region 1 with fail
 try simp only[hW]
 clear hW;refine E8 64 [(11, false, 0), (12, false, 0), (13, false, 0)] []
  [Fct.val (Jp (Jo ⟨w.heap.size, 0, Jn⟩)),
  Fct.num [] 13 [a0, a1, a2],
  Fct.val (.bool false)]
  0 rfl (by kernel_rfl) rfl ⟨?_, ?_, ?_, trivial⟩
  (fun val0 => ⟨#[.agg A0, Jp (Jo ⟨w.heap.size, 0, Jn⟩), Jp (Jo ⟨w.heap.size + 1, 0, Jn⟩), undef, undef, undef, undef, undef, undef, undef, undef, val0 11, val0 12, val0 13, undef, undef, undef, undef, undef, undef, undef, undef, undef, undef, undef, undef, undef, undef, undef, undef, undef, undef, undef, undef, undef, undef, undef, undef, undef, undef, undef, undef, undef, undef, undef, undef, undef, undef, undef, undef, undef, undef, undef, undef, undef, undef, undef, undef, undef, undef, undef, undef, undef, undef], []⟩) (fun val0 => by kernel_rfl) (fun val0 W0 hB hF => ⟨?_⟩)
 ·exact E4 rfl rfl (.env rfl (by kernel_rfl)) rfl (by kernel_rfl) (fun w => by go_simp)
 ·exact E6 0 3 V0.out (.dep 0 rfl (by kernel_rfl)) rfl rfl rfl (by kernel_rfl) (by kernel_rfl) (by kernel_rfl)
 ·exact EZ cf18 rfl rfl rfl rfl rfl (by kernel_rfl) (fun a v hB hE hD => Ft (hD 1 _ (by kernel_rfl) rfl) hz (by kernel_rfl))
 have e13 : val0 13 = .bool false :=hF 2 _ rfl;clear hF;generalize val0 13 =t13 at *
 subst e13;replace V0 :=Lh (fun w' (hb : Below W0.heap.size W0 w') => V0.out w' (Jd hB hb));replace V1 :=Lh (V1.out.keep hB);replace K :=Lh (Jd K.out hB);replace G :=Lh (fun w' (hb : Below W0.heap.size W0 w') => G.out w' (Jd hB hb));clear hB;refine Last.nil (by kernel_rfl) ?_;go_upto_region 6 with fail
 refine E8 64 [(26, false, 0), (27, false, 0), (28, false, 0), (25, false, 0), (29, false, 0), (30, false, 0), (5, false, 0), (5, true, 6), (6, false, 0)] [6]
  [Fct.val (Jp (Jo ⟨w.heap.size, 0, Jn⟩)),
  Fct.num [] 13 [a0, a1, a2],
  Fct.made 0 40 [pF a0 a1 a2 * a0, pF a0 a1 a2 * a1, pF a0 a1 a2 * a2],
  Fct.made 0 40 [pF a0 a1 a2 * a0, pF a0 a1 a2 * a1, pF a0 a1 a2 * a2],
  Fct.num [] 40 [pF a0 a1 a2 * a0, pF a0 a1 a2 * a1, pF a0 a1 a2 * a2],
  Fct.val (Ji Jl 0),
  Fct.ptr 12,
  Fct.var [] 40 [pF a0 a1 a2 * a0, pF a0 a1 a2 * a1, pF a0 a1 a2 * a2],
  Fct.val (Ji Jl 0)]
  0 rfl (by kernel_rfl) rfl ⟨?_, ?_, ?_, ?_, ?_, ?_, ?_, ?_, ?_, trivial⟩
  (fun val1 => ⟨#[.agg A0, Jp (Jo ⟨w.heap.size, 0, Jn⟩), Jp (Jo ⟨w.heap.size + 1, 0, Jn⟩), undef, undef, val1 5, val1 6, undef, undef, undef, undef, val0 11, val0 12, .bool false, undef, undef, undef, undef, undef, undef, undef, undef, undef, undef, undef, val1 25, val1 26, val1 27, val1 28, val1 29, val1 30, undef, undef, undef, undef, undef, undef, undef, undef, undef, undef, undef, undef, undef, undef, undef, undef, undef, undef, undef, undef, undef, undef, undef, undef, undef, undef, undef, undef, undef, undef, undef, undef, undef], []⟩) (fun val1 => by kernel_rfl) (fun val1 W1 hB hF => ⟨?_⟩)
 ·exact E4 rfl rfl (.env rfl (by kernel_rfl)) rfl (by kernel_rfl) (fun w => by go_simp)
 ·exact E6 0 3 V0.out (.dep 0 rfl (by kernel_rfl)) rfl rfl rfl (by kernel_rfl) (by kernel_rfl) (by kernel_rfl)
 ·exact EZ cf49 rfl rfl rfl rfl rfl (by kernel_rfl) (fun a v hB hE hD => Dp (hD 1 _ (by kernel_rfl) rfl) hz (by kernel_rfl) (G.out v hB))
 ·exact E5 2 rfl rfl rfl rfl (by kernel_rfl)
 ·exact Fx 3 rfl rfl rfl rfl (by kernel_rfl)
 ·exact Fw 3 rfl rfl rfl rfl (by kernel_rfl)
 ·exact Fb [Ji Jl 0, Jp Jn, Ji Jl 0, Jp Jn, Ji Jl 0, Jp Jn, Ji Jl 0, Jp Jn, Ji Jl 0, Jp Jn, Ji Jl 0, Jp Jn] 35 rfl rfl rfl (by kernel_rfl) (by kernel_rfl) (fun a w => by go_simp)
 ·exact E9 6 4 rfl rfl rfl rfl rfl (by kernel_rfl) (by kernel_rfl)
 ·exact E5 5 rfl rfl rfl rfl (by kernel_rfl)
 obtain⟨p5, e5, V5⟩ : (Fct.var [] 40 [pF a0 a1 a2 * a0, pF a0 a1 a2 * a1, pF a0 a1 a2 * a2]).P W1 (val1 5) :=hF 7 _ rfl;have e6 : val1 6 =Ji Jl 0 :=hF 8 _ rfl;clear hF;generalize val1 5 =t5 at *
 generalize val1 6 =t6 at *
 subst e5 e6;replace V0 :=Lh (fun w' (hb : Below W1.heap.size W1 w') => V0.out w' (Jd hB hb));replace V1 :=Lh (V1.out.keep hB);replace V5 :=Lh (fun w' (hb : Below W1.heap.size W1 w') => V5.keep hb);replace K :=Lh (Jd K.out hB);replace G :=Lh (fun w' (hb : Below W1.heap.size W1 w') => G.out w' (Jd hB hb));clear hB;refine Last.nil (by kernel_rfl) ?_;go_upto_region 7 with fail
 refine Fy 64 [(32, false, 0), (33, false, 0), (34, false, 0), (35, false, 0), (36, false, 0), (37, false, 0), (38, false, 0), (31, false, 0), (39, false, 0), (40, false, 0), (7, false, 0), (7, true, 10), (8, false, 0)] [10]
  [Fct.num [] 1 [((1 : Int) : Rat)],
  Fct.val (Jp (Jo ⟨w.heap.size, 0, Jn⟩)),
  Fct.num [] 13 [a0, a1, a2],
  Fct.val (Jp (Jo ⟨w.heap.size, 0, Jn⟩)),
  Fct.num [] 13 [a0, a1, a2],
  Fct.num [] 80 [a0 * a0 + a1 * a1 + a2 * a2],
  Fct.made 0 81 [((1 : Int) : Rat)/(a0 * a0 + a1 * a1 + a2 * a2)],
  Fct.made 0 81 [((1 : Int) : Rat)/(a0 * a0 + a1 * a1 + a2 * a2)],
  Fct.num [] 81 [((1 : Int) : Rat)/(a0 * a0 + a1 * a1 + a2 * a2)],
  Fct.val (Ji Jl 0),
  Fct.ptr 4,
  Fct.var [] 81 [((1 : Int) : Rat)/(a0 * a0 + a1 * a1 + a2 * a2)],
  Fct.val (Ji Jl 0)]
  #[true, true, true, true, true, true, true, true, true, true, true, true, true] 0 rfl (by kernel_rfl) rfl (by kernel_rfl) ⟨?_, ?_, ?_, ?_, ?_, ?_, ?_, ?_, ?_, ?_, ?_, ?_, ?_, trivial⟩
  (fun val2 => ⟨#[.agg A0, Jp (Jo ⟨w.heap.size, 0, Jn⟩), Jp (Jo ⟨w.heap.size + 1, 0, Jn⟩), undef, undef, Jp (Jo ⟨p5, 0, Jn⟩), Ji Jl 0, val2 7, val2 8, undef, undef, val0 11, val0 12, .bool false, undef, undef, undef, undef, undef, undef, undef, undef, undef, undef, undef, val1 25, val1 26, val1 27, val1 28, val1 29, val1 30, val2 31, val2 32, val2 33, val2 34, val2 35, val2 36, val2 37, val2 38, val2 39, val2 40, undef, undef, undef, undef, undef, undef, undef, undef, undef, undef, undef, undef, undef, undef, undef, undef, undef, undef, undef, undef, undef, undef, undef], []⟩) (fun val2 => by kernel_rfl) (fun val2 W2 hB hF => ⟨?_⟩)
 ·exact EZ cf51 rfl rfl rfl rfl rfl (by kernel_rfl) (fun a v hB hE hD => (show Calls _ _ #[Ji Jl 1] v _ from Fv ⟨by decide, by decide⟩ (Fq (by decide) (by decide))))
 ·exact E4 rfl rfl (.env rfl (by kernel_rfl)) rfl (by kernel_rfl) (fun w => by go_simp)
 ·exact E6 0 3 V0.out (.dep 1 rfl (by kernel_rfl)) rfl rfl rfl (by kernel_rfl) (by kernel_rfl) (by kernel_rfl)
 ·exact E4 rfl rfl (.env rfl (by kernel_rfl)) rfl (by kernel_rfl) (fun w => by go_simp)
 ·exact E6 0 3 V0.out (.dep 3 rfl (by kernel_rfl)) rfl rfl rfl (by kernel_rfl) (by kernel_rfl) (by kernel_rfl)
 ·exact EZ cf31 rfl rfl rfl rfl rfl (by kernel_rfl) (fun a v hB hE hD => FZ (hD 2 _ (by kernel_rfl) rfl) (hD 4 _ (by kernel_rfl) rfl) (by kernel_rfl) (G.out v hB))
 ·exact EZ cf50 rfl rfl rfl rfl rfl (by kernel_rfl) (fun a v hB hE hD => FI (hD 0 _ (by kernel_rfl) rfl) (hD 5 _ (by kernel_rfl) rfl) hd (by kernel_rfl) (G.out v hB))
 ·exact E5 6 rfl rfl rfl rfl (by kernel_rfl)
 ·exact Fx 7 rfl rfl rfl rfl (by kernel_rfl)
 ·exact Fw 7 rfl rfl rfl rfl (by kernel_rfl)
 ·exact Fb [Ji Jl 0, Jp Jn, Ji Jl 0, Jp Jn] 31 rfl rfl rfl (by kernel_rfl) (by kernel_rfl) (fun a w => by go_simp)
 ·exact E9 10 8 rfl rfl rfl rfl rfl (by kernel_rfl) (by kernel_rfl)
 ·exact E5 9 rfl rfl rfl rfl (by kernel_rfl)
 obtain⟨p7, e7, V7⟩ : (Fct.var [] 81 [((1 : Int) : Rat)/(a0 * a0 + a1 * a1 + a2 * a2)]).P W2 (val2 7) :=hF 11 _ rfl;have e8 : val2 8 =Ji Jl 0 :=hF 12 _ rfl;clear hF;generalize val2 7 =t7 at *
 generalize val2 8 =t8 at *
 subst e7 e8;replace V0 :=Lh (fun w' (hb : Below W2.heap.size W2 w') => V0.out w' (Jd hB hb));replace V5 :=Lh (fun w' (hb : Below W2.heap.size W2 w') => V5.out w' (Jd hB hb));replace V1 :=Lh (V1.out.keep hB);replace V7 :=Lh (fun w' (hb : Below W2.heap.size W2 w') => V7.keep hb);replace K :=Lh (Jd K.out hB);replace G :=Lh (fun w' (hb : Below W2.heap.size W2 w') => G.out w' (Jd hB hb));clear hB;refine Last.nil (by kernel_rfl) ?_;go_upto_region 8 with fail
 refine Fy 64 [(41, false, 0), (42, false, 0), (43, false, 0), (44, false, 0), (45, false, 0), (46, false, 0), (47, false, 0), (48, false, 0), (49, false, 0), (9, false, 0), (9, true, 9)] [9]
  [Fct.num [] 40 [pF a0 a1 a2 * a0, pF a0 a1 a2 * a1, pF a0 a1 a2 * a2],
  Fct.val (Jp (Jo ⟨w.heap.size, 0, Jn⟩)),
  Fct.num [] 13 [a0, a1, a2],
  Fct.val (Jp (Jo ⟨w.heap.size, 12, Jn⟩)),
  Fct.num [] 13 [b0, b1, b2],
  Fct.num [] 53 [a1 * b2-a2 * b1, a2 * b0-a0 * b2, a0 * b1-a1 * b0],
  Fct.num [] 81 [((1 : Int) : Rat)/(a0 * a0 + a1 * a1 + a2 * a2)],
  Fct.num [] 134 [(((1 : Int) : Rat)/(a0 * a0 + a1 * a1 + a2 * a2)) * (a1 * b2-a2 * b1), (((1 : Int) : Rat)/(a0 * a0 + a1 * a1 + a2 * a2)) * (a2 * b0-a0 * b2), (((1 : Int) : Rat)/(a0 * a0 + a1 * a1 + a2 * a2)) * (a0 * b1-a1 * b0)],
  Fct.num [Ji Jl 2] 134 [pF a0 a1 a2 * a0, pF a0 a1 a2 * a1, pF a0 a1 a2 * a2, (((1 : Int) : Rat)/(a0 * a0 + a1 * a1 + a2 * a2)) * (a1 * b2-a2 * b1), (((1 : Int) : Rat)/(a0 * a0 + a1 * a1 + a2 * a2)) * (a2 * b0-a0 * b2), (((1 : Int) : Rat)/(a0 * a0 + a1 * a1 + a2 * a2)) * (a0 * b1-a1 * b0), 0],
  Fct.ptrB (w.heap.size) 29,
  Fct.varB (w.heap.size) [Ji Jl 2] 134 [pF a0 a1 a2 * a0, pF a0 a1 a2 * a1, pF a0 a1 a2 * a2, (((1 : Int) : Rat) / (a0 * a0 + a1 * a1 + a2 * a2)) * (a1 * b2 - a2 * b1), (((1 : Int) : Rat) / (a0 * a0 + a1 * a1 + a2 * a2)) * (a2 * b0 - a0 * b2), (((1 : Int) : Rat) / (a0 * a0 + a1 * a1 + a2 * a2)) * (a0 * b1 - a1 * b0), 0]]
  #[true, true, true, true, true, true, true, true, true, true, true] 0 rfl (by kernel_rfl) rfl (by kernel_rfl) ⟨?_, ?_, ?_, ?_, ?_, ?_, ?_, ?_, ?_, ?_, ?_, trivial⟩
  (fun val3 => ⟨#[.agg A0, Jp (Jo ⟨w.heap.size, 0, Jn⟩), Jp (Jo ⟨w.heap.size + 1, 0, Jn⟩), undef, undef, Jp (Jo ⟨p5, 0, Jn⟩), Ji Jl 0, Jp (Jo ⟨p7, 0, Jn⟩), Ji Jl 0, val3 9, undef, val0 11, val0 12, .bool false, undef, undef, undef, undef, undef, undef, undef, undef, undef, undef, undef, val1 25, val1 26, val1 27, val1 28, val1 29, val1 30, val2 31, val2 32, val2 33, val2 34, val2 35, val2 36, val2 37, val2 38, val2 39, val2 40, val3 41, val3 42, val3 43, val3 44, val3 45, val3 46, val3 47, val3 48, val3 49, undef, undef, undef, undef, undef, undef, undef, undef, undef, undef, undef, undef, undef, undef], []⟩) (fun val3 => by kernel_rfl) (fun val3 W3 hB hF => ⟨?_⟩)
 ·exact E7 V5.out (.env rfl (by kernel_rfl)) rfl rfl rfl (by kernel_rfl) (by kernel_rfl)
 ·exact E4 rfl rfl (.env rfl (by kernel_rfl)) rfl (by kernel_rfl) (fun w => by go_simp)
 ·exact E6 0 3 V0.out (.dep 1 rfl (by kernel_rfl)) rfl rfl rfl (by kernel_rfl) (by kernel_rfl) (by kernel_rfl)
 ·exact E4 rfl rfl (.env rfl (by kernel_rfl)) rfl (by kernel_rfl) (fun w => by go_simp)
 ·exact E6 3 3 V0.out (.dep 3 rfl (by kernel_rfl)) rfl rfl rfl (by kernel_rfl) (by kernel_rfl) (by kernel_rfl)
 ·exact EZ cf32 rfl rfl rfl rfl rfl (by kernel_rfl) (fun a v hB hE hD => FO (hD 2 _ (by kernel_rfl) rfl) (hD 4 _ (by kernel_rfl) rfl) (by kernel_rfl) (G.out v hB))
 ·exact E7 V7.out (.env rfl (by kernel_rfl)) rfl rfl rfl (by kernel_rfl) (by kernel_rfl)
 ·exact EZ cf52 rfl rfl rfl rfl rfl (by kernel_rfl) (fun a v hB hE hD => Da (hD 5 _ (by kernel_rfl) rfl) (hD 6 _ (by kernel_rfl) rfl) (by kernel_rfl) (G.out v hB))
 ·exact Fl (parts := [(0, .const (Ji Jl 2)), (1, .tmp 41), (2, .tmp 48)]) rfl rfl rfl (by kernel_rfl) (fun a w hB hE hD => by
   obtain⟨rs0, e0, h0, f0⟩ :=hD 0 _ (by kernel_rfl) rfl;obtain⟨x0, y0, z0, rfl⟩ :=VJ h0.len;obtain⟨rs1, e1, h1, f1⟩ :=hD 7 _ (by kernel_rfl) rfl;obtain⟨x1, y1, z1, rfl⟩ :=VJ h1.len;refine⟨([T3 Jl 2] ++ flat [x0, y0, z0, x1, y1, z1, Jm]).toArray, ?_, [x0, y0, z0, x1, y1, z1, Jm], rfl, ⟨h0.1, h0.2.1, h0.2.2.1, h1.1, h1.2.1, h1.2.2.1, vat0 w, trivial⟩, fun q hq => ?_⟩
   ·show Tryz.prog.built 90 [(0, Ji Jl 2), (1, Act.at_ a 41), (2, Act.at_ a 48)] =_;rw[show Act.at_ a 41 =_ from e0];rw[show Act.at_ a 48 =_ from e1]
    kernel_rfl
   ·have hq : q ∈ [pF a0 a1 a2 * a0, pF a0 a1 a2 * a1, pF a0 a1 a2 * a2] ++ [(((1 : Int) : Rat)/(a0 * a0 + a1 * a1 + a2 * a2)) * (a1 * b2-a2 * b1), (((1 : Int) : Rat)/(a0 * a0 + a1 * a1 + a2 * a2)) * (a2 * b0-a0 * b2), (((1 : Int) : Rat)/(a0 * a0 + a1 * a1 + a2 * a2)) * (a0 * b1-a1 * b0)] ++ [0] :=hq;rcases List.mem_append.1 hq with h|h
    ·rcases List.mem_append.1 h with h|h
     ·exact(f0 q h).up (by decide)
     ·exact(f1 q h).up (by decide)
    ·rw [show q = 0 by simpa using h]; exact few0.up (by decide))
 ·exact D6 [Ji Jl 0, Ji Jl 0, Jp Jn, Ji Jl 0, Jp Jn, Ji Jl 0, Jp Jn, Ji Jl 0, Jp Jn, Ji Jl 0, Jp Jn, Ji Jl 0, Jp Jn, Ji Jl 0, Jp Jn, Ji Jl 0, Jp Jn, Ji Jl 0, Jp Jn, Ji Jl 0, Jp Jn, Ji Jl 0, Jp Jn, Ji Jl 0, Jp Jn, Ji Jl 0, Jp Jn, Ji Jl 0, Jp Jn] 90 rfl rfl rfl (by kernel_rfl) (by kernel_rfl) K.out.size (fun a w => by go_simp)
 ·exact D5 9 8 rfl rfl rfl rfl rfl (by kernel_rfl) (by kernel_rfl)
 obtain⟨p9, e9, B9, V9⟩ : (Fct.varB (w.heap.size) [Ji Jl 2] 134 [pF a0 a1 a2 * a0, pF a0 a1 a2 * a1, pF a0 a1 a2 * a2, (((1 : Int) : Rat)/(a0 * a0 + a1 * a1 + a2 * a2)) * (a1 * b2-a2 * b1), (((1 : Int) : Rat)/(a0 * a0 + a1 * a1 + a2 * a2)) * (a2 * b0-a0 * b2), (((1 : Int) : Rat)/(a0 * a0 + a1 * a1 + a2 * a2)) * (a0 * b1-a1 * b0), 0]).P W3 (val3 9) :=hF 10 _ rfl;clear hF;generalize val3 9 =t9 at *
 subst e9;replace V0 :=Lh (fun w' (hb : Below W3.heap.size W3 w') => V0.out w' (Jd hB hb));replace V5 :=Lh (fun w' (hb : Below W3.heap.size W3 w') => V5.out w' (Jd hB hb));replace V7 :=Lh (fun w' (hb : Below W3.heap.size W3 w') => V7.out w' (Jd hB hb));replace V1 :=Lh (V1.out.keep hB);replace V9 :=Lh (fun w' (hb : Below W3.heap.size W3 w') => V9.keep hb);replace K :=Lh (Jd K.out hB);replace G :=Lh (fun w' (hb : Below W3.heap.size W3 w') => G.out w' (Jd hB hb));clear hB;refine Last.nil (by kernel_rfl) ?_;go_upto_region 9 with fail
 refine E8 64 [(50, false, 0), (51, false, 0), (52, false, 0), (53, false, 0), (54, false, 0), (10, false, 0), (10, true, 5)] [5]
  [Fct.val (Jp (Jo ⟨w.heap.size, 0, Jn⟩)),
  Fct.num [] 13 [a0, a1, a2],
  Fct.val (Jp (Jo ⟨w.heap.size, 12, Jn⟩)),
  Fct.num [] 13 [b0, b1, b2],
  Fct.num [] 80 [a0 * b0 + a1 * b1 + a2 * b2],
  Fct.ptr 4,
  Fct.var [] 80 [a0 * b0 + a1 * b1 + a2 * b2]]
  0 rfl (by kernel_rfl) rfl ⟨?_, ?_, ?_, ?_, ?_, ?_, ?_, trivial⟩
  (fun val4 => ⟨#[.agg A0, Jp (Jo ⟨w.heap.size, 0, Jn⟩), Jp (Jo ⟨w.heap.size + 1, 0, Jn⟩), undef, undef, Jp (Jo ⟨p5, 0, Jn⟩), Ji Jl 0, Jp (Jo ⟨p7, 0, Jn⟩), Ji Jl 0, Jp (Jo ⟨p9, 0, Jn⟩), val4 10, val0 11, val0 12, .bool false, undef, undef, undef, undef, undef, undef, undef, undef, undef, undef, undef, val1 25, val1 26, val1 27, val1 28, val1 29, val1 30, val2 31, val2 32, val2 33, val2 34, val2 35, val2 36, val2 37, val2 38, val2 39, val2 40, val3 41, val3 42, val3 43, val3 44, val3 45, val3 46, val3 47, val3 48, val3 49, val4 50, val4 51, val4 52, val4 53, val4 54, undef, undef, undef, undef, undef, undef, undef, undef, undef], []⟩) (fun val4 => by kernel_rfl) (fun val4 W4 hB hF => ⟨?_⟩)
 ·exact E4 rfl rfl (.env rfl (by kernel_rfl)) rfl (by kernel_rfl) (fun w => by go_simp)
 ·exact E6 0 3 V0.out (.dep 0 rfl (by kernel_rfl)) rfl rfl rfl (by kernel_rfl) (by kernel_rfl) (by kernel_rfl)
 ·exact E4 rfl rfl (.env rfl (by kernel_rfl)) rfl (by kernel_rfl) (fun w => by go_simp)
 ·exact E6 3 3 V0.out (.dep 2 rfl (by kernel_rfl)) rfl rfl rfl (by kernel_rfl) (by kernel_rfl) (by kernel_rfl)
 ·exact EZ cf31 rfl rfl rfl rfl rfl (by kernel_rfl) (fun a v hB hE hD => FZ (hD 1 _ (by kernel_rfl) rfl) (hD 3 _ (by kernel_rfl) rfl) (by kernel_rfl) (G.out v hB))
 ·exact Fb [Ji Jl 0, Jp Jn, Ji Jl 0, Jp Jn] 31 rfl rfl rfl (by kernel_rfl) (by kernel_rfl) (fun a w => by go_simp)
 ·exact E9 5 4 rfl rfl rfl rfl rfl (by kernel_rfl) (by kernel_rfl)
 obtain⟨p10, e10, V10⟩ : (Fct.var [] 80 [a0 * b0 + a1 * b1 + a2 * b2]).P W4 (val4 10) :=hF 6 _ rfl;clear hF;generalize val4 10 =t10 at *
 subst e10;replace V0 :=Lh (fun w' (hb : Below W4.heap.size W4 w') => V0.out w' (Jd hB hb));replace V5 :=Lh (fun w' (hb : Below W4.heap.size W4 w') => V5.out w' (Jd hB hb));replace V7 :=Lh (fun w' (hb : Below W4.heap.size W4 w') => V7.out w' (Jd hB hb));replace V9 :=Lh (fun w' (hb : Below W4.heap.size W4 w') => V9.out w' (Jd hB hb));replace V1 :=Lh (V1.out.keep hB);replace V10 :=Lh (fun w' (hb : Below W4.heap.size W4 w') => V10.keep hb);replace K :=Lh (Jd K.out hB);replace G :=Lh (fun w' (hb : Below W4.heap.size W4 w') => G.out w' (Jd hB hb));clear hB;refine Last.nil (by kernel_rfl) ?_;go_upto_region 10 with fail
 refine E8 64 [(55, false, 0), (56, false, 0), (57, false, 0)] []
  [Fct.num [] 80 [a0 * b0 + a1 * b1 + a2 * b2],
  Fct.val (Ji Jl σ),
  Fct.val (.bool true)]
  0 rfl (by kernel_rfl) rfl ⟨?_, ?_, ?_, trivial⟩
  (fun val5 => ⟨#[.agg A0, Jp (Jo ⟨w.heap.size, 0, Jn⟩), Jp (Jo ⟨w.heap.size + 1, 0, Jn⟩), undef, undef, Jp (Jo ⟨p5, 0, Jn⟩), Ji Jl 0, Jp (Jo ⟨p7, 0, Jn⟩), Ji Jl 0, Jp (Jo ⟨p9, 0, Jn⟩), Jp (Jo ⟨p10, 0, Jn⟩), val0 11, val0 12, .bool false, undef, undef, undef, undef, undef, undef, undef, undef, undef, undef, undef, val1 25, val1 26, val1 27, val1 28, val1 29, val1 30, val2 31, val2 32, val2 33, val2 34, val2 35, val2 36, val2 37, val2 38, val2 39, val2 40, val3 41, val3 42, val3 43, val3 44, val3 45, val3 46, val3 47, val3 48, val3 49, val4 50, val4 51, val4 52, val4 53, val4 54, val5 55, val5 56, val5 57, undef, undef, undef, undef, undef, undef], []⟩) (fun val5 => by kernel_rfl) (fun val5 W5 hB hF => ⟨?_⟩)
 ·exact E7 V10.out (.env rfl (by kernel_rfl)) rfl rfl rfl (by kernel_rfl) (by kernel_rfl)
 ·exact EZ cf48 rfl rfl rfl rfl rfl (by kernel_rfl) (fun a v hB hE hD => (hal ▸ DK (hD 0 _ (by kernel_rfl) rfl)))
 ·exact Fm (op := .binOp .neq 3 (.tmp 56) (.const (Ji Jl 0)) 3) rfl rfl (fun _ => rfl) (.dep 1 rfl (by kernel_rfl)) rfl (by kernel_rfl) (fun a w e => by unfold execOp bare;dsimp only;rw[e];go_simp <;> rfl)
 have e57 : val5 57 = .bool true :=hF 2 _ rfl;clear hF;generalize val5 57 =t57 at *
 subst e57;replace V0 :=Lh (fun w' (hb : Below W5.heap.size W5 w') => V0.out w' (Jd hB hb));replace V5 :=Lh (fun w' (hb : Below W5.heap.size W5 w') => V5.out w' (Jd hB hb));replace V7 :=Lh (fun w' (hb : Below W5.heap.size W5 w') => V7.out w' (Jd hB hb));replace V9 :=Lh (fun w' (hb : Below W5.heap.size W5 w') => V9.out w' (Jd hB hb));replace V10 :=Lh (fun w' (hb : Below W5.heap.size W5 w') => V10.out w' (Jd hB hb));replace V1 :=Lh (V1.out.keep hB);replace K :=Lh (Jd K.out hB);replace G :=Lh (fun w' (hb : Below W5.heap.size W5 w') => G.out w' (Jd hB hb));clear hB;refine Last.nil (by kernel_rfl) ?_;go_upto_region 11 with fail
 refine LK 64 [(58, false, 0), (59, false, 0), (60, false, 0)] []
  [Fct.num [] 80 [a0 * b0 + a1 * b1 + a2 * b2],
  Fct.num [] 81 [((1 : Int) : Rat)/(a0 * a0 + a1 * a1 + a2 * a2)],
  Fct.num [] 161 [(a0 * b0 + a1 * b1 + a2 * b2) * (((1 : Int) : Rat) / (a0 * a0 + a1 * a1 + a2 * a2))]]
  4 rfl (by kernel_rfl) rfl ⟨?_, ?_, ?_, trivial⟩
  (fun val6 => ⟨#[.agg A0, Jp (Jo ⟨w.heap.size, 0, Jn⟩), Jp (Jo ⟨w.heap.size + 1, 0, Jn⟩), undef, undef, Jp (Jo ⟨p5, 0, Jn⟩), Ji Jl 0, Jp (Jo ⟨p7, 0, Jn⟩), Ji Jl 0, Jp (Jo ⟨p9, 0, Jn⟩), Jp (Jo ⟨p10, 0, Jn⟩), val0 11, val0 12, .bool false, undef, undef, undef, undef, undef, undef, undef, undef, undef, undef, undef, val1 25, val1 26, val1 27, val1 28, val1 29, val1 30, val2 31, val2 32, val2 33, val2 34, val2 35, val2 36, val2 37, val2 38, val2 39, val2 40, val3 41, val3 42, val3 43, val3 44, val3 45, val3 46, val3 47, val3 48, val3 49, val4 50, val4 51, val4 52, val4 53, val4 54, val5 55, val5 56, .bool true, val6 58, val6 59, val6 60, undef, undef, undef], []⟩) (fun val6 => by kernel_rfl) (fun val6 W6 hB hF => ⟨?_⟩)
 ·exact E7 V10.out (.env rfl (by kernel_rfl)) rfl rfl rfl (by kernel_rfl) (by kernel_rfl)
 ·exact E7 V7.out (.env rfl (by kernel_rfl)) rfl rfl rfl (by kernel_rfl) (by kernel_rfl)
 ·exact EZ cf38 rfl rfl rfl rfl rfl (by kernel_rfl) (fun a v hB hE hD => L5 (hD 0 _ (by kernel_rfl) rfl) (hD 1 _ (by kernel_rfl) rfl) (by kernel_rfl) (G.out v hB))
 have F60 : (Fct.num [] 161 [(a0 * b0 + a1 * b1 + a2 * b2) * (((1 : Int) : Rat)/(a0 * a0 + a1 * a1 + a2 * a2))]).P W6 (val6 60) :=hF 2 _ rfl;clear hF;replace V0 :=Lh (fun w' (hb : Below W6.heap.size W6 w') => V0.out w' (Jd hB hb));replace V5 :=Lh (fun w' (hb : Below W6.heap.size W6 w') => V5.out w' (Jd hB hb));replace V7 :=Lh (fun w' (hb : Below W6.heap.size W6 w') => V7.out w' (Jd hB hb));replace V9 :=Lh (fun w' (hb : Below W6.heap.size W6 w') => V9.out w' (Jd hB hb));replace V10 :=Lh (fun w' (hb : Below W6.heap.size W6 w') => V10.out w' (Jd hB hb));replace V1 :=Lh (V1.out.keep hB);replace K :=Lh (Jd K.out hB);replace G :=Lh (fun w' (hb : Below W6.heap.size W6 w') => G.out w' (Jd hB hb));clear hB;obtain⟨rs9, hc9, hr9, f9⟩ :=V9.out W6 (Below.refl _ _);obtain⟨r1, rs9, rfl, h91, hr9⟩ :=hr9.cons;obtain⟨r2, rs9, rfl, h92, hr9⟩ :=hr9.cons;obtain⟨r3, rs9, rfl, h93, hr9⟩ :=hr9.cons;obtain⟨r4, rs9, rfl, h94, hr9⟩ :=hr9.cons;obtain⟨r5, rs9, rfl, h95, hr9⟩ :=hr9.cons;obtain⟨r6, rs9, rfl, h96, hr9⟩ :=hr9.cons;obtain⟨r7, rs9, rfl, h97, hr9⟩ :=hr9.cons;obtain rfl :=hr9.nil_;obtain⟨rsm, em, hrm, fm⟩ :=F60;obtain⟨rm, rsm, rfl, hm, hrm⟩ :=hrm.cons;obtain rfl :=hrm.nil_;have hC1 :=hc9.set 0 (Ji Jl 3) (by show 0 < 29;decide);have hC2 :=hC1.part (o :=25) (vs :=flat [rm]) (by show 25 + 4 <= 29;decide);have hp1 : (W6.setCell ⟨p9, 0, Jn⟩ (Ji Jl 3)).heap.size =W6.heap.size :=by simp[World.setCell]
 have hW1 : Wr p9 W6 (W6.setCell ⟨p9, 0, Jn⟩ (Ji Jl 3)) :=⟨rfl, rfl, rfl, hp1, fun k hk => Below.heap_setCell W6 ⟨p9, 0, Jn⟩ _ k hk, _, _, hc9, hC1, rfl, rfl, rfl⟩;have hW2 :=FR hC1 (o :=25) (vs :=flat [rm]) (by show 25 + 4 <= 29;decide) rfl (Fa [rm]);generalize val6 60 =t60 at *
 subst em;refine DE (u :=Jp (Jo ⟨p9, 0, Jn⟩)) rfl rfl (by go_simp <;> rfl) ?_;refine Dt rfl rfl rfl (Li (u :=Ji Jl 3) (f :=0) rfl rfl rfl rfl rfl hc9 (by show 0 < 29;decide) (by kernel_rfl)) ?_;refine DE (u :=Jp (Jo ⟨p9, 25, Jn⟩)) rfl rfl (by go_simp <;> rfl) ?_;refine Dt rfl rfl rfl (Ly (n :=4) (f :=25) (cs :=flat [rm]) rfl rfl rfl rfl (hC1.there_part 25 4 (by show 25 + 4 <= 29;decide)) (by kernel_rfl) rfl) ?_;refine DW ?_;have V9n : Fi _ p9 [Ji Jl 3] 161 [pF a0 a1 a2 * a0, pF a0 a1 a2 * a1, pF a0 a1 a2 * a2, (((1 : Int) : Rat) / (a0 * a0 + a1 * a1 + a2 * a2)) * (a1 * b2 - a2 * b1), (((1 : Int) : Rat) / (a0 * a0 + a1 * a1 + a2 * a2)) * (a2 * b0 - a0 * b2), (((1 : Int) : Rat) / (a0 * a0 + a1 * a1 + a2 * a2)) * (a0 * b1 - a1 * b0), (a0 * b0 + a1 * b1 + a2 * b2) * (((1 : Int) : Rat) / (a0 * a0 + a1 * a1 + a2 * a2))] := ⟨[r1, r2, r3, r4, r5, r6, rm], hC2, ⟨(h91.wr hW1).wr hW2, (h92.wr hW1).wr hW2, (h93.wr hW1).wr hW2, (h94.wr hW1).wr hW2, (h95.wr hW1).wr hW2, (h96.wr hW1).wr hW2, (hm.wr hW1).wr hW2, trivial⟩, fun q hq => by
  rcases List.mem_append.1 (show q ∈ [pF a0 a1 a2 * a0, pF a0 a1 a2 * a1, pF a0 a1 a2 * a2, (((1 : Int) : Rat)/(a0 * a0 + a1 * a1 + a2 * a2)) * (a1 * b2-a2 * b1), (((1 : Int) : Rat)/(a0 * a0 + a1 * a1 + a2 * a2)) * (a2 * b0-a0 * b2), (((1 : Int) : Rat)/(a0 * a0 + a1 * a1 + a2 * a2)) * (a0 * b1-a1 * b0)] ++ [(a0 * b0 + a1 * b1 + a2 * b2) * (((1 : Int) : Rat)/(a0 * a0 + a1 * a1 + a2 * a2))]from hq)with h|h
  ·exact(f9 q (List.mem_append.2 (Or.inl h))).up (by decide)
  ·exact fm q h⟩
 have hp9 : w.heap.size + 1 ≠ p9 :=fun e => by
  have h0 :=hc9.at_ 0;rw[←e, V1.out.at_ 0]at h0;cases h0
 have Kn :=Lh (hW2.below B9 (hW1.below B9 K.out));have Rn :=Lh ((V1.out.wr hW1 hp9).wr hW2 hp9);clear K G hW1 hW2 hC1 hC2 hc9 hp1 h91 h92 h93 h94 h95 h96 h97 f9 fm hm V0 V1 V10 V5 V7 V9;generalize World.setCells _ _ _ _ =W9 at *
 have K :=Kn;replace V9n :=Lh (fun w' (hb : Below W9.heap.size W9 w') => V9n.keep hb);have G :=Lh (fun w' (hb : Below W9.heap.size W9 w') => Hg.out.below (K.out.trans (hb.mono K.out.size)));try simp only[Act.put, Pls]
 go_upto_region 12 with fail
 refine E8 64 [(63, false, 0)] []
  [Fct.num [Ji Jl 3] 161 [pF a0 a1 a2 * a0, pF a0 a1 a2 * a1, pF a0 a1 a2 * a2, (((1 : Int) : Rat)/(a0 * a0 + a1 * a1 + a2 * a2)) * (a1 * b2-a2 * b1), (((1 : Int) : Rat)/(a0 * a0 + a1 * a1 + a2 * a2)) * (a2 * b0-a0 * b2), (((1 : Int) : Rat)/(a0 * a0 + a1 * a1 + a2 * a2)) * (a0 * b1-a1 * b0), (a0 * b0 + a1 * b1 + a2 * b2) * (((1 : Int) : Rat)/(a0 * a0 + a1 * a1 + a2 * a2))]]
  1 rfl (by kernel_rfl) rfl ⟨?_, trivial⟩
  (fun val7 => ⟨#[.agg A0, Jp (Jo ⟨w.heap.size, 0, Jn⟩), Jp (Jo ⟨w.heap.size + 1, 0, Jn⟩), undef, undef, Jp (Jo ⟨p5, 0, Jn⟩), Ji Jl 0, Jp (Jo ⟨p7, 0, Jn⟩), Ji Jl 0, Jp (Jo ⟨p9, 0, Jn⟩), Jp (Jo ⟨p10, 0, Jn⟩), val0 11, val0 12, .bool false, undef, undef, undef, undef, undef, undef, undef, undef, undef, undef, undef, val1 25, val1 26, val1 27, val1 28, val1 29, val1 30, val2 31, val2 32, val2 33, val2 34, val2 35, val2 36, val2 37, val2 38, val2 39, val2 40, val3 41, val3 42, val3 43, val3 44, val3 45, val3 46, val3 47, val3 48, val3 49, val4 50, val4 51, val4 52, val4 53, val4 54, val5 55, val5 56, .bool true, val6 58, val6 59, .agg (flat [rm]).toArray, Jp (Jo ⟨p9, 0, Jn⟩), Jp (Jo ⟨p9, 25, Jn⟩), val7 63], []⟩) (fun val7 => by kernel_rfl) (fun val7 W7 hB hF => ⟨?_⟩)
 ·exact E7 V9n.out (.env rfl (by kernel_rfl)) rfl rfl rfl (by kernel_rfl) (by kernel_rfl)
 have F63 : (Fct.num [Ji Jl 3] 161 [pF a0 a1 a2 * a0, pF a0 a1 a2 * a1, pF a0 a1 a2 * a2, (((1 : Int) : Rat)/(a0 * a0 + a1 * a1 + a2 * a2)) * (a1 * b2-a2 * b1), (((1 : Int) : Rat)/(a0 * a0 + a1 * a1 + a2 * a2)) * (a2 * b0-a0 * b2), (((1 : Int) : Rat)/(a0 * a0 + a1 * a1 + a2 * a2)) * (a0 * b1-a1 * b0), (a0 * b0 + a1 * b1 + a2 * b2) * (((1 : Int) : Rat)/(a0 * a0 + a1 * a1 + a2 * a2))]).P W7 (val7 63) :=hF 0 _ rfl;clear hF;replace V9n :=Lh (fun w' (hb : Below W7.heap.size W7 w') => V9n.out w' (Jd hB hb));replace Rn :=Lh (Rn.out.keep hB);replace K :=Lh (Jd K.out hB);replace G :=Lh (fun w' (hb : Below W7.heap.size W7 w') => G.out w' (Jd hB hb));clear hB;refine Fr (n :=29) Rn.out F63 rfl rfl rfl rfl rfl (by kernel_rfl) (by kernel_rfl) (fun v2 hW hV => ?_);have Kf :=hW.below (show w.heap.size <= w.heap.size + 1 by omega) K.out;clear K G hW Rn V9n;go_wp2_with fail
 exact Fu (n :=29) hV Kf rfl rfl (by kernel_rfl) (by kernel_rfl) rfl
