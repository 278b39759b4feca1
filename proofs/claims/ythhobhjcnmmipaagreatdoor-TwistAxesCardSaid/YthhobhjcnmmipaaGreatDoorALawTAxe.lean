/- The law TwistAxes. -/
import Derived.Test.YthhobhjcnmmipaaGreatDoorATwi
namespace Go.Proofs.YthhobhjcnmmipaaGreatDoor
open Go.Value renaming pointer→Jp,int→Ji,agg→Ja
open Go.IntKind renaming i64→Jl
open Go.Obj renaming cells→Jc
open _root_.Option renaming none→Jn,some→Jo
open Go renaming World→JW
open _root_.Nat renaming le_refl→N0
open Go.RowKit
theorem DT(x y : Rat) : x * (((1 : Int) : Rat)/y) =x/y :=by
 rw[Rat.div_def, Rat.div_def, show(((1 : Int) : Rat)) =1 from rfl, Rat.one_mul]
theorem DD{x : Rat}(h : x =0)(y : Rat) : 0 =x/y :=by
 rw[h, Rat.div_def, Rat.zero_mul]
theorem DZ{x : Rat}(h : x =0)(y : Rat) : x/y =0 :=(DD h y).symm
theorem Lg{n : Int}(h : n ≠ 0) : ((sgn n ==0) =false) /\ ((sgn n !=0) =true) :=by
 unfold sgn;rcases Int.lt_trichotomy n 0 with h1|h1|h1
 ·rw[if_pos h1];exact⟨by decide, by decide⟩
 ·exact absurd h1 h
 ·rw[if_neg (by omega), if_pos h1];exact⟨by decide, by decide⟩
theorem LU{x y : Rat}(hx : x ≠ 0)(hy : y ≠ 0) : x/y ≠ 0 :=fun h => by
 rw[Rat.div_def]at h;rcases Rat.mul_eq_zero.1 h with h|h
 ·exact hx h
 ·have : y * y⁻¹ =1 :=Rat.mul_inv_cancel y hy;rw[h, Rat.mul_zero]at this;exact absurd this (by decide)
set_option maxRecDepth 100000 in
set_option maxHeartbeats 16000000 in
theorem Lb{n0 n1 n2 n3 n4 n5 d r : Int}{w : JW}(s1 : S6 n0 n1 n2 n3 n4 n5 d r)(hz : Xv (tq n0 r) (tq n1 r) (tq n2 r) =true)(hl : Xv (tq n3 r) (tq n4 r) (tq n5 r) =true)(hg : Good w) :
  Calls Tryz.prog 9 #[Ja #[Ji .i8 n0, Ji .i8 n1, Ji .i8 n2, Ji .i8 n3, Ji .i8 n4, Ji .i8 n5, Ji .u8 d]] w (Ret w (Fct.val (.bool true))) :=by
 obtain⟨a0, ha0⟩ : ∃q, tq n0 r =q :=⟨_, rfl⟩;obtain⟨a1, ha1⟩ : ∃q, tq n1 r =q :=⟨_, rfl⟩;obtain⟨a2, ha2⟩ : ∃q, tq n2 r =q :=⟨_, rfl⟩;obtain⟨a3, ha3⟩ : ∃q, tq n3 r =q :=⟨_, rfl⟩;obtain⟨a4, ha4⟩ : ∃q, tq n4 r =q :=⟨_, rfl⟩;obtain⟨a5, ha5⟩ : ∃q, tq n5 r =q :=⟨_, rfl⟩;have Ha :=fun(v : JW) (hg : Good v) => c_of (w :=v) s1 hg;rw[ha0, ha1, ha2, ha3, ha4, ha5]at Ha;replace Ha :=Lh Ha;simp only[ha0, ha1, ha2, ha3, ha4, ha5]at hz hl;clear s1 ha0 ha1 ha2 ha3 ha4 ha5;have k0 :=(Below.refl w.heap.size w).alloc (N0 _) (Jc #[Ji .i8 n0, Ji .i8 n1, Ji .i8 n2, Ji .i8 n3, Ji .i8 n4, Ji .i8 n5, Ji .u8 d] 53);have V0 :=Jh.new w #[Ji .i8 n0, Ji .i8 n1, Ji .i8 n2, Ji .i8 n3, Ji .i8 n4, Ji .i8 n5, Ji .u8 d] 53;obtain⟨W, hW⟩ : ∃W, w.alloc (Jc #[Ji .i8 n0, Ji .i8 n1, Ji .i8 n2, Ji .i8 n3, Ji .i8 n4, Ji .i8 n5, Ji .u8 d] 53) =W :=⟨_, rfl⟩;rw[hW]at k0 V0;replace V0 :=Lh (fun w' (hb : Below W.heap.size W w') => (V0.keep hb));have K :=Lh k0;have G :=Lh (fun w' (hb : Below W.heap.size W w') => hg.below (k0.trans (hb.mono k0.size)));clear hg k0;go_enter Tryz.func9, Tryz.ntmps9;go_upto_region 1 with fail
 try simp only[hW]
 clear hW;refine E8 153 [(15, false, 0), (16, false, 0)] []
  [Fct.val (.bool true),
  Fct.val (.bool false)]
  0 rfl (by kernel_rfl) rfl ⟨?_, ?_, trivial⟩
  (fun val0 => ⟨#[Ja #[Ji .i8 n0, Ji .i8 n1, Ji .i8 n2, Ji .i8 n3, Ji .i8 n4, Ji .i8 n5, Ji .u8 d], Jp (Jo ⟨w.heap.size, 0, Jn⟩), .bool false, undef, undef, undef, undef, undef, undef, undef, undef, undef, undef, undef, undef, val0 15, val0 16, undef, undef, undef, undef, undef, undef, undef, undef, undef, undef, undef, undef, undef, undef, undef, undef, undef, undef, undef, undef, undef, undef, undef, undef, undef, undef, undef, undef, undef, undef, undef, undef, undef, undef, undef, undef, undef, undef, undef, undef, undef, undef, undef, undef, undef, undef, undef, undef, undef, undef, undef, undef, undef, undef, undef, undef, undef, undef, undef, undef, undef, undef, undef, undef, undef, undef, undef, undef, undef, undef, undef, undef, undef, undef, undef, undef, undef, undef, undef, undef, undef, undef, undef, undef, undef, undef, undef, undef, undef, undef, undef, undef, undef, undef, undef, undef, undef, undef, undef, undef, undef, undef, undef, undef, undef, undef, undef, undef, undef, undef, undef, undef, undef, undef, undef, undef, undef, undef, undef, undef, undef, undef, undef, undef, undef, undef, undef, undef, undef, undef, undef, undef, undef, undef, undef, undef], []⟩) (fun val0 => by kernel_rfl) (fun val0 W0 hB hF => ⟨?_⟩)
 ·exact EZ cf13 rfl rfl rfl rfl rfl (by kernel_rfl) (fun a v hB hE hD => FG (G.out v hB))
 ·exact Fm (op := .unOp .not 4 (.tmp 15)) rfl rfl (fun _ => rfl) (.dep 0 rfl (by kernel_rfl)) rfl (by kernel_rfl) (fun a w e => by unfold execOp bare;dsimp only;rw[e];go_simp <;> rfl)
 have e15 : val0 15 = .bool true :=hF 0 _ rfl;have e16 : val0 16 = .bool false :=hF 1 _ rfl;clear hF;generalize val0 15 =t15 at *
 generalize val0 16 =t16 at *
 subst e15 e16;replace V0 :=Lh (fun w' (hb : Below W0.heap.size W0 w') => V0.out w' (Jd hB hb));replace K :=Lh (Jd K.out hB);replace G :=Lh (fun w' (hb : Below W0.heap.size W0 w') => G.out w' (Jd hB hb));clear hB;refine Last.nil (by kernel_rfl) ?_;go_upto_region 3 with fail
 refine E8 153 [(17, false, 0), (18, false, 0), (3, false, 0), (3, true, 2)] [2]
  [Fct.val (Ja #[Ji .i8 n0, Ji .i8 n1, Ji .i8 n2, Ji .i8 n3, Ji .i8 n4, Ji .i8 n5, Ji .u8 d]),
  Fct.num [] 4 [a0, a1, a2, a3, a4, a5],
  Fct.ptr 24,
  Fct.var [] 4 [a0, a1, a2, a3, a4, a5]]
  0 rfl (by kernel_rfl) rfl ⟨?_, ?_, ?_, ?_, trivial⟩
  (fun val1 => ⟨#[Ja #[Ji .i8 n0, Ji .i8 n1, Ji .i8 n2, Ji .i8 n3, Ji .i8 n4, Ji .i8 n5, Ji .u8 d], Jp (Jo ⟨w.heap.size, 0, Jn⟩), .bool false, val1 3, undef, undef, undef, undef, undef, undef, undef, undef, undef, undef, undef, .bool true, .bool false, val1 17, val1 18, undef, undef, undef, undef, undef, undef, undef, undef, undef, undef, undef, undef, undef, undef, undef, undef, undef, undef, undef, undef, undef, undef, undef, undef, undef, undef, undef, undef, undef, undef, undef, undef, undef, undef, undef, undef, undef, undef, undef, undef, undef, undef, undef, undef, undef, undef, undef, undef, undef, undef, undef, undef, undef, undef, undef, undef, undef, undef, undef, undef, undef, undef, undef, undef, undef, undef, undef, undef, undef, undef, undef, undef, undef, undef, undef, undef, undef, undef, undef, undef, undef, undef, undef, undef, undef, undef, undef, undef, undef, undef, undef, undef, undef, undef, undef, undef, undef, undef, undef, undef, undef, undef, undef, undef, undef, undef, undef, undef, undef, undef, undef, undef, undef, undef, undef, undef, undef, undef, undef, undef, undef, undef, undef, undef, undef, undef, undef, undef, undef, undef, undef, undef, undef, undef], []⟩) (fun val1 => by kernel_rfl) (fun val1 W1 hB hF => ⟨?_⟩)
 ·exact Fk 7 V0.out (.env rfl (by kernel_rfl)) rfl rfl rfl (by kernel_rfl) (by kernel_rfl) rfl (by kernel_rfl)
 ·exact EZ cf21 rfl rfl rfl rfl rfl (by kernel_rfl) (fun a v hB hE hD => (show Calls _ _ #[Act.at_ a 17] v _ from by rw[show Act.at_ a 17 =_ from hD 0 _ (by kernel_rfl) rfl];exact Ha.out v (G.out v hB)))
 ·exact Fb [Ji Jl 0, Jp Jn, Ji Jl 0, Jp Jn, Ji Jl 0, Jp Jn, Ji Jl 0, Jp Jn, Ji Jl 0, Jp Jn, Ji Jl 0, Jp Jn, Ji Jl 0, Jp Jn, Ji Jl 0, Jp Jn, Ji Jl 0, Jp Jn, Ji Jl 0, Jp Jn, Ji Jl 0, Jp Jn, Ji Jl 0, Jp Jn] 37 rfl rfl rfl (by kernel_rfl) (by kernel_rfl) (fun a w => by go_simp)
 ·exact E9 2 1 rfl rfl rfl rfl rfl (by kernel_rfl) (by kernel_rfl)
 obtain⟨p3, e3, V3⟩ : (Fct.var [] 4 [a0, a1, a2, a3, a4, a5]).P W1 (val1 3) :=hF 3 _ rfl;clear hF;generalize val1 3 =t3 at *
 subst e3;replace V0 :=Lh (fun w' (hb : Below W1.heap.size W1 w') => V0.out w' (Jd hB hb));replace V3 :=Lh (fun w' (hb : Below W1.heap.size W1 w') => V3.keep hb);replace K :=Lh (Jd K.out hB);replace G :=Lh (fun w' (hb : Below W1.heap.size W1 w') => G.out w' (Jd hB hb));clear hB;refine Last.nil (by kernel_rfl) ?_;go_upto_region 4 with fail
 refine E8 153 [(19, false, 0), (20, false, 0), (4, false, 0), (4, true, 2)] [2]
  [Fct.num [] 4 [a0, a1, a2, a3, a4, a5],
  Fct.num [Ji Jl 0] 1 [0, 0, 0, 0, 0, 0, 0],
  Fct.ptr 29,
  Fct.var [Ji Jl 0] 1 [0, 0, 0, 0, 0, 0, 0]]
  0 rfl (by kernel_rfl) rfl ⟨?_, ?_, ?_, ?_, trivial⟩
  (fun val2 => ⟨#[Ja #[Ji .i8 n0, Ji .i8 n1, Ji .i8 n2, Ji .i8 n3, Ji .i8 n4, Ji .i8 n5, Ji .u8 d], Jp (Jo ⟨w.heap.size, 0, Jn⟩), .bool false, Jp (Jo ⟨p3, 0, Jn⟩), val2 4, undef, undef, undef, undef, undef, undef, undef, undef, undef, undef, .bool true, .bool false, val1 17, val1 18, val2 19, val2 20, undef, undef, undef, undef, undef, undef, undef, undef, undef, undef, undef, undef, undef, undef, undef, undef, undef, undef, undef, undef, undef, undef, undef, undef, undef, undef, undef, undef, undef, undef, undef, undef, undef, undef, undef, undef, undef, undef, undef, undef, undef, undef, undef, undef, undef, undef, undef, undef, undef, undef, undef, undef, undef, undef, undef, undef, undef, undef, undef, undef, undef, undef, undef, undef, undef, undef, undef, undef, undef, undef, undef, undef, undef, undef, undef, undef, undef, undef, undef, undef, undef, undef, undef, undef, undef, undef, undef, undef, undef, undef, undef, undef, undef, undef, undef, undef, undef, undef, undef, undef, undef, undef, undef, undef, undef, undef, undef, undef, undef, undef, undef, undef, undef, undef, undef, undef, undef, undef, undef, undef, undef, undef, undef, undef, undef, undef, undef, undef, undef, undef, undef, undef], []⟩) (fun val2 => by kernel_rfl) (fun val2 W2 hB hF => ⟨?_⟩)
 ·exact E7 V3.out (.env rfl (by kernel_rfl)) rfl rfl rfl (by kernel_rfl) (by kernel_rfl)
 ·exact EZ cf47 rfl rfl rfl rfl rfl (by kernel_rfl) (fun a v hB hE hD => LH (Num.up (hD 0 _ (by kernel_rfl) rfl) (by decide)) hz hl (G.out v hB))
 ·exact Fb [Ji Jl 0, Ji Jl 0, Jp Jn, Ji Jl 0, Jp Jn, Ji Jl 0, Jp Jn, Ji Jl 0, Jp Jn, Ji Jl 0, Jp Jn, Ji Jl 0, Jp Jn, Ji Jl 0, Jp Jn, Ji Jl 0, Jp Jn, Ji Jl 0, Jp Jn, Ji Jl 0, Jp Jn, Ji Jl 0, Jp Jn, Ji Jl 0, Jp Jn, Ji Jl 0, Jp Jn, Ji Jl 0, Jp Jn] 90 rfl rfl rfl (by kernel_rfl) (by kernel_rfl) (fun a w => by go_simp)
 ·exact E9 2 1 rfl rfl rfl rfl rfl (by kernel_rfl) (by kernel_rfl)
 obtain⟨p4, e4, V4⟩ : (Fct.var [Ji Jl 0] 1 [0, 0, 0, 0, 0, 0, 0]).P W2 (val2 4) :=hF 3 _ rfl;clear hF;generalize val2 4 =t4 at *
 subst e4;replace V0 :=Lh (fun w' (hb : Below W2.heap.size W2 w') => V0.out w' (Jd hB hb));replace V3 :=Lh (fun w' (hb : Below W2.heap.size W2 w') => V3.out w' (Jd hB hb));replace V4 :=Lh (fun w' (hb : Below W2.heap.size W2 w') => V4.keep hb);replace K :=Lh (Jd K.out hB);replace G :=Lh (fun w' (hb : Below W2.heap.size W2 w') => G.out w' (Jd hB hb));clear hB;refine Last.nil (by kernel_rfl) ?_;go_upto_region 5 with fail
 refine E8 153 [(22, false, 0), (23, false, 0), (24, false, 0), (25, false, 0), (26, false, 0), (27, false, 0), (28, false, 0), (29, false, 0), (21, false, 0)] []
  [Fct.val (Jp (Jo ⟨p3, 0, Jn⟩)),
  Fct.num [] 4 [a0, a1, a2],
  Fct.val (.bool true),
  Fct.val (.bool true),
  Fct.val (Jp (Jo ⟨p3, 12, Jn⟩)),
  Fct.num [] 4 [a3, a4, a5],
  Fct.val (.bool true),
  Fct.val (.bool true),
  Fct.val (.bool true)]
  0 rfl (by kernel_rfl) rfl ⟨?_, ?_, ?_, ?_, ?_, ?_, ?_, ?_, ?_, trivial⟩
  (fun val3 => ⟨#[Ja #[Ji .i8 n0, Ji .i8 n1, Ji .i8 n2, Ji .i8 n3, Ji .i8 n4, Ji .i8 n5, Ji .u8 d], Jp (Jo ⟨w.heap.size, 0, Jn⟩), .bool false, Jp (Jo ⟨p3, 0, Jn⟩), Jp (Jo ⟨p4, 0, Jn⟩), undef, undef, undef, undef, undef, undef, undef, undef, undef, undef, .bool true, .bool false, val1 17, val1 18, val2 19, val2 20, val3 21, val3 22, val3 23, val3 24, val3 25, val3 26, val3 27, val3 28, val3 29, undef, undef, undef, undef, undef, undef, undef, undef, undef, undef, undef, undef, undef, undef, undef, undef, undef, undef, undef, undef, undef, undef, undef, undef, undef, undef, undef, undef, undef, undef, undef, undef, undef, undef, undef, undef, undef, undef, undef, undef, undef, undef, undef, undef, undef, undef, undef, undef, undef, undef, undef, undef, undef, undef, undef, undef, undef, undef, undef, undef, undef, undef, undef, undef, undef, undef, undef, undef, undef, undef, undef, undef, undef, undef, undef, undef, undef, undef, undef, undef, undef, undef, undef, undef, undef, undef, undef, undef, undef, undef, undef, undef, undef, undef, undef, undef, undef, undef, undef, undef, undef, undef, undef, undef, undef, undef, undef, undef, undef, undef, undef, undef, undef, undef, undef, undef, undef, undef, undef, undef, undef, undef, undef], []⟩) (fun val3 => by kernel_rfl) (fun val3 W3 hB hF => ⟨?_⟩)
 ·exact E4 rfl rfl (.env rfl (by kernel_rfl)) rfl (by kernel_rfl) (fun w => by go_simp)
 ·exact E6 0 3 V3.out (.dep 0 rfl (by kernel_rfl)) rfl rfl rfl (by kernel_rfl) (by kernel_rfl) (by kernel_rfl)
 ·exact EZ cf18 rfl rfl rfl rfl rfl (by kernel_rfl) (fun a v hB hE hD => Ft (hD 1 _ (by kernel_rfl) rfl) hz (by kernel_rfl))
 ·exact E5 2 rfl rfl rfl rfl (by kernel_rfl)
 ·exact E4 rfl rfl (.env rfl (by kernel_rfl)) ⟨true, rfl, rfl, by kernel_rfl, rfl⟩ (by kernel_rfl) (fun w => by go_simp)
 ·exact E6 3 3 V3.out (.dep 4 rfl (by kernel_rfl)) rfl rfl ⟨true, rfl, rfl, by kernel_rfl, rfl⟩ (by kernel_rfl) (by kernel_rfl) (by kernel_rfl)
 ·exact EZ cf18 rfl rfl rfl rfl ⟨true, rfl, rfl, by kernel_rfl, rfl⟩ (by kernel_rfl) (fun a v hB hE hD => Ft (hD 5 _ (by kernel_rfl) rfl) hl (by kernel_rfl))
 ·exact Fe 3 6 rfl rfl rfl rfl rfl (by kernel_rfl)
 ·exact E5 7 rfl rfl rfl rfl (by kernel_rfl)
 have e21 : val3 21 = .bool true :=hF 8 _ rfl;clear hF;generalize val3 21 =t21 at *
 subst e21;replace V0 :=Lh (fun w' (hb : Below W3.heap.size W3 w') => V0.out w' (Jd hB hb));replace V3 :=Lh (fun w' (hb : Below W3.heap.size W3 w') => V3.out w' (Jd hB hb));replace V4 :=Lh (fun w' (hb : Below W3.heap.size W3 w') => V4.out w' (Jd hB hb));replace K :=Lh (Jd K.out hB);replace G :=Lh (fun w' (hb : Below W3.heap.size W3 w') => G.out w' (Jd hB hb));clear hB;refine Last.nil (by kernel_rfl) ?_;go_upto_region 6 with fail
 refine E8 153 [(30, false, 0), (31, false, 0), (32, false, 0), (33, false, 0), (34, false, 0), (35, false, 0), (36, false, 0), (37, false, 0), (38, false, 0), (39, false, 0), (40, false, 0), (41, false, 0), (42, false, 0), (43, false, 0), (44, false, 0), (45, false, 0), (46, false, 0), (47, false, 0), (48, false, 0), (2, false, 0)] []
  [Fct.val (Jp (Jo ⟨p4, 0, Jn⟩)),
  Fct.val (Ji Jl 0),
  Fct.val (.bool true),
  Fct.val (.bool true),
  Fct.val (Jp (Jo ⟨p4, 1, Jn⟩)),
  Fct.num [] 1 [0, 0, 0],
  Fct.val (.bool true),
  Fct.val (.bool true),
  Fct.val (.bool true),
  Fct.val (Jp (Jo ⟨p4, 13, Jn⟩)),
  Fct.num [] 1 [0, 0, 0],
  Fct.val (.bool true),
  Fct.val (.bool true),
  Fct.val (.bool true),
  Fct.val (Jp (Jo ⟨p4, 25, Jn⟩)),
  Fct.num [] 1 [0],
  Fct.val (Ji Jl 0),
  Fct.val (.bool true),
  Fct.val (.bool true),
  Fct.val (.bool true)]
  0 rfl (by kernel_rfl) rfl ⟨?_, ?_, ?_, ?_, ?_, ?_, ?_, ?_, ?_, ?_, ?_, ?_, ?_, ?_, ?_, ?_, ?_, ?_, ?_, ?_, trivial⟩
  (fun val4 => ⟨#[Ja #[Ji .i8 n0, Ji .i8 n1, Ji .i8 n2, Ji .i8 n3, Ji .i8 n4, Ji .i8 n5, Ji .u8 d], Jp (Jo ⟨w.heap.size, 0, Jn⟩), val4 2, Jp (Jo ⟨p3, 0, Jn⟩), Jp (Jo ⟨p4, 0, Jn⟩), undef, undef, undef, undef, undef, undef, undef, undef, undef, undef, .bool true, .bool false, val1 17, val1 18, val2 19, val2 20, .bool true, val3 22, val3 23, val3 24, val3 25, val3 26, val3 27, val3 28, val3 29, val4 30, val4 31, val4 32, val4 33, val4 34, val4 35, val4 36, val4 37, val4 38, val4 39, val4 40, val4 41, val4 42, val4 43, val4 44, val4 45, val4 46, val4 47, val4 48, undef, undef, undef, undef, undef, undef, undef, undef, undef, undef, undef, undef, undef, undef, undef, undef, undef, undef, undef, undef, undef, undef, undef, undef, undef, undef, undef, undef, undef, undef, undef, undef, undef, undef, undef, undef, undef, undef, undef, undef, undef, undef, undef, undef, undef, undef, undef, undef, undef, undef, undef, undef, undef, undef, undef, undef, undef, undef, undef, undef, undef, undef, undef, undef, undef, undef, undef, undef, undef, undef, undef, undef, undef, undef, undef, undef, undef, undef, undef, undef, undef, undef, undef, undef, undef, undef, undef, undef, undef, undef, undef, undef, undef, undef, undef, undef, undef, undef, undef, undef, undef, undef, undef, undef], []⟩) (fun val4 => by kernel_rfl) (fun val4 W4 hB hF => ⟨?_⟩)
 ·exact E4 rfl rfl (.env rfl (by kernel_rfl)) rfl (by kernel_rfl) (fun w => by go_simp)
 ·exact FW V4.out rfl (.dep 0 rfl (by kernel_rfl)) rfl rfl rfl (by kernel_rfl) (by kernel_rfl)
 ·exact Fm (op := .binOp .eql 3 (.tmp 31) (.const (Ji Jl 0)) 3) rfl rfl (fun _ => rfl) (.dep 1 rfl (by kernel_rfl)) rfl (by kernel_rfl) (fun a w e => by unfold execOp bare;dsimp only;rw[e];go_simp <;> rfl)
 ·exact E5 2 rfl rfl rfl rfl (by kernel_rfl)
 ·exact E4 rfl rfl (.env rfl (by kernel_rfl)) ⟨true, rfl, rfl, by kernel_rfl, rfl⟩ (by kernel_rfl) (fun w => by go_simp)
 ·exact E6 0 3 V4.out (.dep 4 rfl (by kernel_rfl)) rfl rfl ⟨true, rfl, rfl, by kernel_rfl, rfl⟩ (by kernel_rfl) (by kernel_rfl) (by kernel_rfl)
 ·exact EZ cf18 rfl rfl rfl rfl ⟨true, rfl, rfl, by kernel_rfl, rfl⟩ (by kernel_rfl) (fun a v hB hE hD => Ft (hD 5 _ (by kernel_rfl) rfl) (Zw.2 ⟨rfl, rfl, rfl⟩) (by kernel_rfl))
 ·exact Fe 3 6 rfl rfl rfl rfl rfl (by kernel_rfl)
 ·exact E5 7 rfl rfl rfl rfl (by kernel_rfl)
 ·exact E4 rfl rfl (.env rfl (by kernel_rfl)) ⟨true, rfl, rfl, by kernel_rfl, rfl⟩ (by kernel_rfl) (fun w => by go_simp)
 ·exact E6 3 3 V4.out (.dep 9 rfl (by kernel_rfl)) rfl rfl ⟨true, rfl, rfl, by kernel_rfl, rfl⟩ (by kernel_rfl) (by kernel_rfl) (by kernel_rfl)
 ·exact EZ cf18 rfl rfl rfl rfl ⟨true, rfl, rfl, by kernel_rfl, rfl⟩ (by kernel_rfl) (fun a v hB hE hD => Ft (hD 10 _ (by kernel_rfl) rfl) (Zw.2 ⟨rfl, rfl, rfl⟩) (by kernel_rfl))
 ·exact Fe 8 11 rfl rfl rfl rfl rfl (by kernel_rfl)
 ·exact E5 12 rfl rfl rfl rfl (by kernel_rfl)
 ·exact E4 rfl rfl (.env rfl (by kernel_rfl)) ⟨true, rfl, rfl, by kernel_rfl, rfl⟩ (by kernel_rfl) (fun w => by go_simp)
 ·exact E6 6 1 V4.out (.dep 14 rfl (by kernel_rfl)) rfl rfl ⟨true, rfl, rfl, by kernel_rfl, rfl⟩ (by kernel_rfl) (by kernel_rfl) (by kernel_rfl)
 ·exact EZ cf48 rfl rfl rfl rfl ⟨true, rfl, rfl, by kernel_rfl, rfl⟩ (by kernel_rfl) (fun a v hB hE hD => FY (hD 15 _ (by kernel_rfl) rfl) rfl)
 ·exact Fm (op := .binOp .eql 3 (.tmp 46) (.const (Ji Jl 0)) 3) rfl rfl (fun _ => rfl) (.dep 16 rfl (by kernel_rfl)) ⟨true, rfl, rfl, by kernel_rfl, rfl⟩ (by kernel_rfl) (fun a w e => by unfold execOp bare;dsimp only;rw[e];go_simp <;> rfl)
 ·exact Fe 13 17 rfl rfl rfl rfl rfl (by kernel_rfl)
 ·exact E5 18 rfl rfl rfl rfl (by kernel_rfl)
 have e2 : val4 2 = .bool true :=hF 19 _ rfl;clear hF;generalize val4 2 =t2 at *
 subst e2;replace V0 :=Lh (fun w' (hb : Below W4.heap.size W4 w') => V0.out w' (Jd hB hb));replace V3 :=Lh (fun w' (hb : Below W4.heap.size W4 w') => V3.out w' (Jd hB hb));replace V4 :=Lh (fun w' (hb : Below W4.heap.size W4 w') => V4.out w' (Jd hB hb));replace K :=Lh (Jd K.out hB);replace G :=Lh (fun w' (hb : Below W4.heap.size W4 w') => G.out w' (Jd hB hb));clear hB;refine Last.nil (by kernel_rfl) ?_;clear G V0 V3 V4;go_wp2_with fail
 exact bodyPost_ret (v := .bool true) (by simp[results, Tryz.results9, go_sem]) rfl ⟨_, rfl, K.out, rfl⟩
set_option maxRecDepth 100000 in
set_option maxHeartbeats 16000000 in
theorem D8{n0 n1 n2 n3 n4 n5 d r : Int}{w : JW}(s1 : S6 n0 n1 n2 n3 n4 n5 d r)(hz : Xv (tq n0 r) (tq n1 r) (tq n2 r) =true)(hl : Xv (tq n3 r) (tq n4 r) (tq n5 r) =false)(hg : Good w) :
  Calls Tryz.prog 9 #[Ja #[Ji .i8 n0, Ji .i8 n1, Ji .i8 n2, Ji .i8 n3, Ji .i8 n4, Ji .i8 n5, Ji .u8 d]] w (Ret w (Fct.val (.bool true))) :=by
 obtain⟨a0, ha0⟩ : ∃q, tq n0 r =q :=⟨_, rfl⟩;obtain⟨a1, ha1⟩ : ∃q, tq n1 r =q :=⟨_, rfl⟩;obtain⟨a2, ha2⟩ : ∃q, tq n2 r =q :=⟨_, rfl⟩;obtain⟨a3, ha3⟩ : ∃q, tq n3 r =q :=⟨_, rfl⟩;obtain⟨a4, ha4⟩ : ∃q, tq n4 r =q :=⟨_, rfl⟩;obtain⟨a5, ha5⟩ : ∃q, tq n5 r =q :=⟨_, rfl⟩;have Ha :=fun(v : JW) (hg : Good v) => c_of (w :=v) s1 hg;rw[ha0, ha1, ha2, ha3, ha4, ha5]at Ha;replace Ha :=Lh Ha;simp only[ha0, ha1, ha2, ha3, ha4, ha5]at hz hl;clear s1 ha0 ha1 ha2 ha3 ha4 ha5;have k0 :=(Below.refl w.heap.size w).alloc (N0 _) (Jc #[Ji .i8 n0, Ji .i8 n1, Ji .i8 n2, Ji .i8 n3, Ji .i8 n4, Ji .i8 n5, Ji .u8 d] 53);have V0 :=Jh.new w #[Ji .i8 n0, Ji .i8 n1, Ji .i8 n2, Ji .i8 n3, Ji .i8 n4, Ji .i8 n5, Ji .u8 d] 53;obtain⟨W, hW⟩ : ∃W, w.alloc (Jc #[Ji .i8 n0, Ji .i8 n1, Ji .i8 n2, Ji .i8 n3, Ji .i8 n4, Ji .i8 n5, Ji .u8 d] 53) =W :=⟨_, rfl⟩;rw[hW]at k0 V0;replace V0 :=Lh (fun w' (hb : Below W.heap.size W w') => (V0.keep hb));have K :=Lh k0;have G :=Lh (fun w' (hb : Below W.heap.size W w') => hg.below (k0.trans (hb.mono k0.size)));clear hg k0;go_enter Tryz.func9, Tryz.ntmps9;go_upto_region 1 with fail
 try simp only[hW]
 clear hW;refine E8 153 [(15, false, 0), (16, false, 0)] []
  [Fct.val (.bool true),
  Fct.val (.bool false)]
  0 rfl (by kernel_rfl) rfl ⟨?_, ?_, trivial⟩
  (fun val0 => ⟨#[Ja #[Ji .i8 n0, Ji .i8 n1, Ji .i8 n2, Ji .i8 n3, Ji .i8 n4, Ji .i8 n5, Ji .u8 d], Jp (Jo ⟨w.heap.size, 0, Jn⟩), .bool false, undef, undef, undef, undef, undef, undef, undef, undef, undef, undef, undef, undef, val0 15, val0 16, undef, undef, undef, undef, undef, undef, undef, undef, undef, undef, undef, undef, undef, undef, undef, undef, undef, undef, undef, undef, undef, undef, undef, undef, undef, undef, undef, undef, undef, undef, undef, undef, undef, undef, undef, undef, undef, undef, undef, undef, undef, undef, undef, undef, undef, undef, undef, undef, undef, undef, undef, undef, undef, undef, undef, undef, undef, undef, undef, undef, undef, undef, undef, undef, undef, undef, undef, undef, undef, undef, undef, undef, undef, undef, undef, undef, undef, undef, undef, undef, undef, undef, undef, undef, undef, undef, undef, undef, undef, undef, undef, undef, undef, undef, undef, undef, undef, undef, undef, undef, undef, undef, undef, undef, undef, undef, undef, undef, undef, undef, undef, undef, undef, undef, undef, undef, undef, undef, undef, undef, undef, undef, undef, undef, undef, undef, undef, undef, undef, undef, undef, undef, undef, undef, undef, undef], []⟩) (fun val0 => by kernel_rfl) (fun val0 W0 hB hF => ⟨?_⟩)
 ·exact EZ cf13 rfl rfl rfl rfl rfl (by kernel_rfl) (fun a v hB hE hD => FG (G.out v hB))
 ·exact Fm (op := .unOp .not 4 (.tmp 15)) rfl rfl (fun _ => rfl) (.dep 0 rfl (by kernel_rfl)) rfl (by kernel_rfl) (fun a w e => by unfold execOp bare;dsimp only;rw[e];go_simp <;> rfl)
 have e15 : val0 15 = .bool true :=hF 0 _ rfl;have e16 : val0 16 = .bool false :=hF 1 _ rfl;clear hF;generalize val0 15 =t15 at *
 generalize val0 16 =t16 at *
 subst e15 e16;replace V0 :=Lh (fun w' (hb : Below W0.heap.size W0 w') => V0.out w' (Jd hB hb));replace K :=Lh (Jd K.out hB);replace G :=Lh (fun w' (hb : Below W0.heap.size W0 w') => G.out w' (Jd hB hb));clear hB;refine Last.nil (by kernel_rfl) ?_;go_upto_region 3 with fail
 refine E8 153 [(17, false, 0), (18, false, 0), (3, false, 0), (3, true, 2)] [2]
  [Fct.val (Ja #[Ji .i8 n0, Ji .i8 n1, Ji .i8 n2, Ji .i8 n3, Ji .i8 n4, Ji .i8 n5, Ji .u8 d]),
  Fct.num [] 4 [a0, a1, a2, a3, a4, a5],
  Fct.ptr 24,
  Fct.var [] 4 [a0, a1, a2, a3, a4, a5]]
  0 rfl (by kernel_rfl) rfl ⟨?_, ?_, ?_, ?_, trivial⟩
  (fun val1 => ⟨#[Ja #[Ji .i8 n0, Ji .i8 n1, Ji .i8 n2, Ji .i8 n3, Ji .i8 n4, Ji .i8 n5, Ji .u8 d], Jp (Jo ⟨w.heap.size, 0, Jn⟩), .bool false, val1 3, undef, undef, undef, undef, undef, undef, undef, undef, undef, undef, undef, .bool true, .bool false, val1 17, val1 18, undef, undef, undef, undef, undef, undef, undef, undef, undef, undef, undef, undef, undef, undef, undef, undef, undef, undef, undef, undef, undef, undef, undef, undef, undef, undef, undef, undef, undef, undef, undef, undef, undef, undef, undef, undef, undef, undef, undef, undef, undef, undef, undef, undef, undef, undef, undef, undef, undef, undef, undef, undef, undef, undef, undef, undef, undef, undef, undef, undef, undef, undef, undef, undef, undef, undef, undef, undef, undef, undef, undef, undef, undef, undef, undef, undef, undef, undef, undef, undef, undef, undef, undef, undef, undef, undef, undef, undef, undef, undef, undef, undef, undef, undef, undef, undef, undef, undef, undef, undef, undef, undef, undef, undef, undef, undef, undef, undef, undef, undef, undef, undef, undef, undef, undef, undef, undef, undef, undef, undef, undef, undef, undef, undef, undef, undef, undef, undef, undef, undef, undef, undef, undef, undef], []⟩) (fun val1 => by kernel_rfl) (fun val1 W1 hB hF => ⟨?_⟩)
 ·exact Fk 7 V0.out (.env rfl (by kernel_rfl)) rfl rfl rfl (by kernel_rfl) (by kernel_rfl) rfl (by kernel_rfl)
 ·exact EZ cf21 rfl rfl rfl rfl rfl (by kernel_rfl) (fun a v hB hE hD => (show Calls _ _ #[Act.at_ a 17] v _ from by rw[show Act.at_ a 17 =_ from hD 0 _ (by kernel_rfl) rfl];exact Ha.out v (G.out v hB)))
 ·exact Fb [Ji Jl 0, Jp Jn, Ji Jl 0, Jp Jn, Ji Jl 0, Jp Jn, Ji Jl 0, Jp Jn, Ji Jl 0, Jp Jn, Ji Jl 0, Jp Jn, Ji Jl 0, Jp Jn, Ji Jl 0, Jp Jn, Ji Jl 0, Jp Jn, Ji Jl 0, Jp Jn, Ji Jl 0, Jp Jn, Ji Jl 0, Jp Jn] 37 rfl rfl rfl (by kernel_rfl) (by kernel_rfl) (fun a w => by go_simp)
 ·exact E9 2 1 rfl rfl rfl rfl rfl (by kernel_rfl) (by kernel_rfl)
 obtain⟨p3, e3, V3⟩ : (Fct.var [] 4 [a0, a1, a2, a3, a4, a5]).P W1 (val1 3) :=hF 3 _ rfl;clear hF;generalize val1 3 =t3 at *
 subst e3;replace V0 :=Lh (fun w' (hb : Below W1.heap.size W1 w') => V0.out w' (Jd hB hb));replace V3 :=Lh (fun w' (hb : Below W1.heap.size W1 w') => V3.keep hb);replace K :=Lh (Jd K.out hB);replace G :=Lh (fun w' (hb : Below W1.heap.size W1 w') => G.out w' (Jd hB hb));clear hB;refine Last.nil (by kernel_rfl) ?_;go_upto_region 4 with fail
 refine E8 153 [(19, false, 0), (20, false, 0), (4, false, 0), (4, true, 2)] [2]
  [Fct.num [] 4 [a0, a1, a2, a3, a4, a5],
  Fct.num [Ji Jl 1] 40 [pF a3 a4 a5 * a3, pF a3 a4 a5 * a4, pF a3 a4 a5 * a5, 0, 0, 0, 0],
  Fct.ptr 29,
  Fct.var [Ji Jl 1] 40 [pF a3 a4 a5 * a3, pF a3 a4 a5 * a4, pF a3 a4 a5 * a5, 0, 0, 0, 0]]
  0 rfl (by kernel_rfl) rfl ⟨?_, ?_, ?_, ?_, trivial⟩
  (fun val2 => ⟨#[Ja #[Ji .i8 n0, Ji .i8 n1, Ji .i8 n2, Ji .i8 n3, Ji .i8 n4, Ji .i8 n5, Ji .u8 d], Jp (Jo ⟨w.heap.size, 0, Jn⟩), .bool false, Jp (Jo ⟨p3, 0, Jn⟩), val2 4, undef, undef, undef, undef, undef, undef, undef, undef, undef, undef, .bool true, .bool false, val1 17, val1 18, val2 19, val2 20, undef, undef, undef, undef, undef, undef, undef, undef, undef, undef, undef, undef, undef, undef, undef, undef, undef, undef, undef, undef, undef, undef, undef, undef, undef, undef, undef, undef, undef, undef, undef, undef, undef, undef, undef, undef, undef, undef, undef, undef, undef, undef, undef, undef, undef, undef, undef, undef, undef, undef, undef, undef, undef, undef, undef, undef, undef, undef, undef, undef, undef, undef, undef, undef, undef, undef, undef, undef, undef, undef, undef, undef, undef, undef, undef, undef, undef, undef, undef, undef, undef, undef, undef, undef, undef, undef, undef, undef, undef, undef, undef, undef, undef, undef, undef, undef, undef, undef, undef, undef, undef, undef, undef, undef, undef, undef, undef, undef, undef, undef, undef, undef, undef, undef, undef, undef, undef, undef, undef, undef, undef, undef, undef, undef, undef, undef, undef, undef, undef, undef, undef, undef], []⟩) (fun val2 => by kernel_rfl) (fun val2 W2 hB hF => ⟨?_⟩)
 ·exact E7 V3.out (.env rfl (by kernel_rfl)) rfl rfl rfl (by kernel_rfl) (by kernel_rfl)
 ·exact EZ cf47 rfl rfl rfl rfl rfl (by kernel_rfl) (fun a v hB hE hD => LF (Num.up (hD 0 _ (by kernel_rfl) rfl) (by decide)) hz hl (G.out v hB))
 ·exact Fb [Ji Jl 0, Ji Jl 0, Jp Jn, Ji Jl 0, Jp Jn, Ji Jl 0, Jp Jn, Ji Jl 0, Jp Jn, Ji Jl 0, Jp Jn, Ji Jl 0, Jp Jn, Ji Jl 0, Jp Jn, Ji Jl 0, Jp Jn, Ji Jl 0, Jp Jn, Ji Jl 0, Jp Jn, Ji Jl 0, Jp Jn, Ji Jl 0, Jp Jn, Ji Jl 0, Jp Jn, Ji Jl 0, Jp Jn] 90 rfl rfl rfl (by kernel_rfl) (by kernel_rfl) (fun a w => by go_simp)
 ·exact E9 2 1 rfl rfl rfl rfl rfl (by kernel_rfl) (by kernel_rfl)
 obtain⟨p4, e4, V4⟩ : (Fct.var [Ji Jl 1] 40 [pF a3 a4 a5 * a3, pF a3 a4 a5 * a4, pF a3 a4 a5 * a5, 0, 0, 0, 0]).P W2 (val2 4) :=hF 3 _ rfl;clear hF;generalize val2 4 =t4 at *
 subst e4;replace V0 :=Lh (fun w' (hb : Below W2.heap.size W2 w') => V0.out w' (Jd hB hb));replace V3 :=Lh (fun w' (hb : Below W2.heap.size W2 w') => V3.out w' (Jd hB hb));replace V4 :=Lh (fun w' (hb : Below W2.heap.size W2 w') => V4.keep hb);replace K :=Lh (Jd K.out hB);replace G :=Lh (fun w' (hb : Below W2.heap.size W2 w') => G.out w' (Jd hB hb));clear hB;refine Last.nil (by kernel_rfl) ?_;go_upto_region 5 with fail
 refine E8 153 [(22, false, 0), (23, false, 0), (24, false, 0), (25, false, 0), (26, false, 0), (27, false, 0), (28, false, 0), (29, false, 0), (21, false, 0)] []
  [Fct.val (Jp (Jo ⟨p3, 0, Jn⟩)),
  Fct.num [] 4 [a0, a1, a2],
  Fct.val (.bool true),
  Fct.val (.bool true),
  Fct.val (Jp (Jo ⟨p3, 12, Jn⟩)),
  Fct.num [] 4 [a3, a4, a5],
  Fct.val (.bool false),
  Fct.val (.bool false),
  Fct.val (.bool false)]
  0 rfl (by kernel_rfl) rfl ⟨?_, ?_, ?_, ?_, ?_, ?_, ?_, ?_, ?_, trivial⟩
  (fun val3 => ⟨#[Ja #[Ji .i8 n0, Ji .i8 n1, Ji .i8 n2, Ji .i8 n3, Ji .i8 n4, Ji .i8 n5, Ji .u8 d], Jp (Jo ⟨w.heap.size, 0, Jn⟩), .bool false, Jp (Jo ⟨p3, 0, Jn⟩), Jp (Jo ⟨p4, 0, Jn⟩), undef, undef, undef, undef, undef, undef, undef, undef, undef, undef, .bool true, .bool false, val1 17, val1 18, val2 19, val2 20, val3 21, val3 22, val3 23, val3 24, val3 25, val3 26, val3 27, val3 28, val3 29, undef, undef, undef, undef, undef, undef, undef, undef, undef, undef, undef, undef, undef, undef, undef, undef, undef, undef, undef, undef, undef, undef, undef, undef, undef, undef, undef, undef, undef, undef, undef, undef, undef, undef, undef, undef, undef, undef, undef, undef, undef, undef, undef, undef, undef, undef, undef, undef, undef, undef, undef, undef, undef, undef, undef, undef, undef, undef, undef, undef, undef, undef, undef, undef, undef, undef, undef, undef, undef, undef, undef, undef, undef, undef, undef, undef, undef, undef, undef, undef, undef, undef, undef, undef, undef, undef, undef, undef, undef, undef, undef, undef, undef, undef, undef, undef, undef, undef, undef, undef, undef, undef, undef, undef, undef, undef, undef, undef, undef, undef, undef, undef, undef, undef, undef, undef, undef, undef, undef, undef, undef, undef, undef], []⟩) (fun val3 => by kernel_rfl) (fun val3 W3 hB hF => ⟨?_⟩)
 ·exact E4 rfl rfl (.env rfl (by kernel_rfl)) rfl (by kernel_rfl) (fun w => by go_simp)
 ·exact E6 0 3 V3.out (.dep 0 rfl (by kernel_rfl)) rfl rfl rfl (by kernel_rfl) (by kernel_rfl) (by kernel_rfl)
 ·exact EZ cf18 rfl rfl rfl rfl rfl (by kernel_rfl) (fun a v hB hE hD => Ft (hD 1 _ (by kernel_rfl) rfl) hz (by kernel_rfl))
 ·exact E5 2 rfl rfl rfl rfl (by kernel_rfl)
 ·exact E4 rfl rfl (.env rfl (by kernel_rfl)) ⟨true, rfl, rfl, by kernel_rfl, rfl⟩ (by kernel_rfl) (fun w => by go_simp)
 ·exact E6 3 3 V3.out (.dep 4 rfl (by kernel_rfl)) rfl rfl ⟨true, rfl, rfl, by kernel_rfl, rfl⟩ (by kernel_rfl) (by kernel_rfl) (by kernel_rfl)
 ·exact EZ cf18 rfl rfl rfl rfl ⟨true, rfl, rfl, by kernel_rfl, rfl⟩ (by kernel_rfl) (fun a v hB hE hD => Ft (hD 5 _ (by kernel_rfl) rfl) hl (by kernel_rfl))
 ·exact Fe 3 6 rfl rfl rfl rfl rfl (by kernel_rfl)
 ·exact E5 7 rfl rfl rfl rfl (by kernel_rfl)
 have e21 : val3 21 = .bool false :=hF 8 _ rfl;clear hF;generalize val3 21 =t21 at *
 subst e21;replace V0 :=Lh (fun w' (hb : Below W3.heap.size W3 w') => V0.out w' (Jd hB hb));replace V3 :=Lh (fun w' (hb : Below W3.heap.size W3 w') => V3.out w' (Jd hB hb));replace V4 :=Lh (fun w' (hb : Below W3.heap.size W3 w') => V4.out w' (Jd hB hb));replace K :=Lh (Jd K.out hB);replace G :=Lh (fun w' (hb : Below W3.heap.size W3 w') => G.out w' (Jd hB hb));clear hB;refine Last.nil (by kernel_rfl) ?_;go_upto_region 7 with fail
 refine E8 153 [(50, false, 0), (51, false, 0), (52, false, 0), (49, false, 0)] []
  [Fct.val (Jp (Jo ⟨p3, 0, Jn⟩)),
  Fct.num [] 4 [a0, a1, a2],
  Fct.val (.bool true),
  Fct.val (.bool true)]
  0 rfl (by kernel_rfl) rfl ⟨?_, ?_, ?_, ?_, trivial⟩
  (fun val4 => ⟨#[Ja #[Ji .i8 n0, Ji .i8 n1, Ji .i8 n2, Ji .i8 n3, Ji .i8 n4, Ji .i8 n5, Ji .u8 d], Jp (Jo ⟨w.heap.size, 0, Jn⟩), .bool false, Jp (Jo ⟨p3, 0, Jn⟩), Jp (Jo ⟨p4, 0, Jn⟩), undef, undef, undef, undef, undef, undef, undef, undef, undef, undef, .bool true, .bool false, val1 17, val1 18, val2 19, val2 20, .bool false, val3 22, val3 23, val3 24, val3 25, val3 26, val3 27, val3 28, val3 29, undef, undef, undef, undef, undef, undef, undef, undef, undef, undef, undef, undef, undef, undef, undef, undef, undef, undef, undef, val4 49, val4 50, val4 51, val4 52, undef, undef, undef, undef, undef, undef, undef, undef, undef, undef, undef, undef, undef, undef, undef, undef, undef, undef, undef, undef, undef, undef, undef, undef, undef, undef, undef, undef, undef, undef, undef, undef, undef, undef, undef, undef, undef, undef, undef, undef, undef, undef, undef, undef, undef, undef, undef, undef, undef, undef, undef, undef, undef, undef, undef, undef, undef, undef, undef, undef, undef, undef, undef, undef, undef, undef, undef, undef, undef, undef, undef, undef, undef, undef, undef, undef, undef, undef, undef, undef, undef, undef, undef, undef, undef, undef, undef, undef, undef, undef, undef, undef, undef, undef, undef, undef, undef, undef, undef, undef], []⟩) (fun val4 => by kernel_rfl) (fun val4 W4 hB hF => ⟨?_⟩)
 ·exact E4 rfl rfl (.env rfl (by kernel_rfl)) rfl (by kernel_rfl) (fun w => by go_simp)
 ·exact E6 0 3 V3.out (.dep 0 rfl (by kernel_rfl)) rfl rfl rfl (by kernel_rfl) (by kernel_rfl) (by kernel_rfl)
 ·exact EZ cf18 rfl rfl rfl rfl rfl (by kernel_rfl) (fun a v hB hE hD => Ft (hD 1 _ (by kernel_rfl) rfl) hz (by kernel_rfl))
 ·exact E5 2 rfl rfl rfl rfl (by kernel_rfl)
 have e49 : val4 49 = .bool true :=hF 3 _ rfl;clear hF;generalize val4 49 =t49 at *
 subst e49;replace V0 :=Lh (fun w' (hb : Below W4.heap.size W4 w') => V0.out w' (Jd hB hb));replace V3 :=Lh (fun w' (hb : Below W4.heap.size W4 w') => V3.out w' (Jd hB hb));replace V4 :=Lh (fun w' (hb : Below W4.heap.size W4 w') => V4.out w' (Jd hB hb));replace K :=Lh (Jd K.out hB);replace G :=Lh (fun w' (hb : Below W4.heap.size W4 w') => G.out w' (Jd hB hb));clear hB;refine Last.nil (by kernel_rfl) ?_;go_upto_region 8 with fail
 refine E8 153 [(54, false, 0), (55, false, 0), (56, false, 0), (53, false, 0), (57, false, 0), (58, false, 0), (5, false, 0), (5, true, 6), (6, false, 0)] [6]
  [Fct.val (Jp (Jo ⟨p3, 12, Jn⟩)),
  Fct.num [] 4 [a3, a4, a5],
  Fct.made 0 13 [pF a3 a4 a5 * a3, pF a3 a4 a5 * a4, pF a3 a4 a5 * a5],
  Fct.made 0 13 [pF a3 a4 a5 * a3, pF a3 a4 a5 * a4, pF a3 a4 a5 * a5],
  Fct.num [] 13 [pF a3 a4 a5 * a3, pF a3 a4 a5 * a4, pF a3 a4 a5 * a5],
  Fct.val (Ji Jl 0),
  Fct.ptr 12,
  Fct.var [] 13 [pF a3 a4 a5 * a3, pF a3 a4 a5 * a4, pF a3 a4 a5 * a5],
  Fct.val (Ji Jl 0)]
  0 rfl (by kernel_rfl) rfl ⟨?_, ?_, ?_, ?_, ?_, ?_, ?_, ?_, ?_, trivial⟩
  (fun val5 => ⟨#[Ja #[Ji .i8 n0, Ji .i8 n1, Ji .i8 n2, Ji .i8 n3, Ji .i8 n4, Ji .i8 n5, Ji .u8 d], Jp (Jo ⟨w.heap.size, 0, Jn⟩), .bool false, Jp (Jo ⟨p3, 0, Jn⟩), Jp (Jo ⟨p4, 0, Jn⟩), val5 5, val5 6, undef, undef, undef, undef, undef, undef, undef, undef, .bool true, .bool false, val1 17, val1 18, val2 19, val2 20, .bool false, val3 22, val3 23, val3 24, val3 25, val3 26, val3 27, val3 28, val3 29, undef, undef, undef, undef, undef, undef, undef, undef, undef, undef, undef, undef, undef, undef, undef, undef, undef, undef, undef, .bool true, val4 50, val4 51, val4 52, val5 53, val5 54, val5 55, val5 56, val5 57, val5 58, undef, undef, undef, undef, undef, undef, undef, undef, undef, undef, undef, undef, undef, undef, undef, undef, undef, undef, undef, undef, undef, undef, undef, undef, undef, undef, undef, undef, undef, undef, undef, undef, undef, undef, undef, undef, undef, undef, undef, undef, undef, undef, undef, undef, undef, undef, undef, undef, undef, undef, undef, undef, undef, undef, undef, undef, undef, undef, undef, undef, undef, undef, undef, undef, undef, undef, undef, undef, undef, undef, undef, undef, undef, undef, undef, undef, undef, undef, undef, undef, undef, undef, undef, undef, undef, undef, undef, undef, undef, undef, undef, undef, undef, undef], []⟩) (fun val5 => by kernel_rfl) (fun val5 W5 hB hF => ⟨?_⟩)
 ·exact E4 rfl rfl (.env rfl (by kernel_rfl)) rfl (by kernel_rfl) (fun w => by go_simp)
 ·exact E6 3 3 V3.out (.dep 0 rfl (by kernel_rfl)) rfl rfl rfl (by kernel_rfl) (by kernel_rfl) (by kernel_rfl)
 ·exact EZ cf49 rfl rfl rfl rfl rfl (by kernel_rfl) (fun a v hB hE hD => Dp (hD 1 _ (by kernel_rfl) rfl) hl (by kernel_rfl) (G.out v hB))
 ·exact E5 2 rfl rfl rfl rfl (by kernel_rfl)
 ·exact Fx 3 rfl rfl rfl rfl (by kernel_rfl)
 ·exact Fw 3 rfl rfl rfl rfl (by kernel_rfl)
 ·exact Fb [Ji Jl 0, Jp Jn, Ji Jl 0, Jp Jn, Ji Jl 0, Jp Jn, Ji Jl 0, Jp Jn, Ji Jl 0, Jp Jn, Ji Jl 0, Jp Jn] 35 rfl rfl rfl (by kernel_rfl) (by kernel_rfl) (fun a w => by go_simp)
 ·exact E9 6 4 rfl rfl rfl rfl rfl (by kernel_rfl) (by kernel_rfl)
 ·exact E5 5 rfl rfl rfl rfl (by kernel_rfl)
 obtain⟨p5, e5, V5⟩ : (Fct.var [] 13 [pF a3 a4 a5 * a3, pF a3 a4 a5 * a4, pF a3 a4 a5 * a5]).P W5 (val5 5) :=hF 7 _ rfl;have e6 : val5 6 =Ji Jl 0 :=hF 8 _ rfl;clear hF;generalize val5 5 =t5 at *
 generalize val5 6 =t6 at *
 subst e5 e6;replace V0 :=Lh (fun w' (hb : Below W5.heap.size W5 w') => V0.out w' (Jd hB hb));replace V3 :=Lh (fun w' (hb : Below W5.heap.size W5 w') => V3.out w' (Jd hB hb));replace V4 :=Lh (fun w' (hb : Below W5.heap.size W5 w') => V4.out w' (Jd hB hb));replace V5 :=Lh (fun w' (hb : Below W5.heap.size W5 w') => V5.keep hb);replace K :=Lh (Jd K.out hB);replace G :=Lh (fun w' (hb : Below W5.heap.size W5 w') => G.out w' (Jd hB hb));clear hB;refine Last.nil (by kernel_rfl) ?_;go_upto_region 9 with fail
 refine E8 153 [(59, false, 0), (60, false, 0), (61, false, 0), (62, false, 0), (63, false, 0), (64, false, 0), (65, false, 0), (66, false, 0), (67, false, 0), (68, false, 0), (69, false, 0), (70, false, 0), (71, false, 0), (72, false, 0), (73, false, 0), (74, false, 0), (75, false, 0), (76, false, 0), (77, false, 0), (78, false, 0), (79, false, 0), (80, false, 0), (81, false, 0), (82, false, 0), (2, false, 0)] []
  [Fct.val (Ji Jl 0),
  Fct.val (.bool true),
  Fct.val (.bool true),
  Fct.val (Jp (Jo ⟨p4, 0, Jn⟩)),
  Fct.val (Ji Jl 1),
  Fct.val (.bool true),
  Fct.val (.bool true),
  Fct.val (.bool true),
  Fct.val (Jp (Jo ⟨p4, 1, Jn⟩)),
  Fct.num [] 40 [pF a3 a4 a5 * a3, pF a3 a4 a5 * a4, pF a3 a4 a5 * a5],
  Fct.num [] 13 [pF a3 a4 a5 * a3, pF a3 a4 a5 * a4, pF a3 a4 a5 * a5],
  Fct.val (.bool true),
  Fct.val (.bool true),
  Fct.val (.bool true),
  Fct.val (Jp (Jo ⟨p4, 13, Jn⟩)),
  Fct.num [] 40 [0, 0, 0],
  Fct.val (.bool true),
  Fct.val (.bool true),
  Fct.val (.bool true),
  Fct.val (Jp (Jo ⟨p4, 25, Jn⟩)),
  Fct.num [] 40 [0],
  Fct.val (Ji Jl 0),
  Fct.val (.bool true),
  Fct.val (.bool true),
  Fct.val (.bool true)]
  0 rfl (by kernel_rfl) rfl ⟨?_, ?_, ?_, ?_, ?_, ?_, ?_, ?_, ?_, ?_, ?_, ?_, ?_, ?_, ?_, ?_, ?_, ?_, ?_, ?_, ?_, ?_, ?_, ?_, ?_, trivial⟩
  (fun val6 => ⟨#[Ja #[Ji .i8 n0, Ji .i8 n1, Ji .i8 n2, Ji .i8 n3, Ji .i8 n4, Ji .i8 n5, Ji .u8 d], Jp (Jo ⟨w.heap.size, 0, Jn⟩), val6 2, Jp (Jo ⟨p3, 0, Jn⟩), Jp (Jo ⟨p4, 0, Jn⟩), Jp (Jo ⟨p5, 0, Jn⟩), Ji Jl 0, undef, undef, undef, undef, undef, undef, undef, undef, .bool true, .bool false, val1 17, val1 18, val2 19, val2 20, .bool false, val3 22, val3 23, val3 24, val3 25, val3 26, val3 27, val3 28, val3 29, undef, undef, undef, undef, undef, undef, undef, undef, undef, undef, undef, undef, undef, undef, undef, undef, undef, undef, undef, .bool true, val4 50, val4 51, val4 52, val5 53, val5 54, val5 55, val5 56, val5 57, val5 58, val6 59, val6 60, val6 61, val6 62, val6 63, val6 64, val6 65, val6 66, val6 67, val6 68, val6 69, val6 70, val6 71, val6 72, val6 73, val6 74, val6 75, val6 76, val6 77, val6 78, val6 79, val6 80, val6 81, val6 82, undef, undef, undef, undef, undef, undef, undef, undef, undef, undef, undef, undef, undef, undef, undef, undef, undef, undef, undef, undef, undef, undef, undef, undef, undef, undef, undef, undef, undef, undef, undef, undef, undef, undef, undef, undef, undef, undef, undef, undef, undef, undef, undef, undef, undef, undef, undef, undef, undef, undef, undef, undef, undef, undef, undef, undef, undef, undef, undef, undef, undef, undef, undef, undef, undef, undef, undef, undef, undef, undef], []⟩) (fun val6 => by kernel_rfl) (fun val6 W6 hB hF => ⟨?_⟩)
 ·exact Fh rfl rfl (.env rfl (by kernel_rfl)) rfl (by kernel_rfl)
 ·exact Fm (op := .binOp .eql 26 (.tmp 59) (.const (Ji Jl 0)) 26) rfl rfl (fun _ => rfl) (.dep 0 rfl (by kernel_rfl)) rfl (by kernel_rfl) (fun a w e => by unfold execOp bare;dsimp only;rw[e];go_simp <;> rfl)
 ·exact E5 1 rfl rfl rfl rfl (by kernel_rfl)
 ·exact E4 rfl rfl (.env rfl (by kernel_rfl)) ⟨true, rfl, rfl, by kernel_rfl, rfl⟩ (by kernel_rfl) (fun w => by go_simp)
 ·exact FW V4.out rfl (.dep 3 rfl (by kernel_rfl)) rfl rfl ⟨true, rfl, rfl, by kernel_rfl, rfl⟩ (by kernel_rfl) (by kernel_rfl)
 ·exact Fm (op := .binOp .eql 3 (.tmp 63) (.const (Ji Jl 1)) 3) rfl rfl (fun _ => rfl) (.dep 4 rfl (by kernel_rfl)) ⟨true, rfl, rfl, by kernel_rfl, rfl⟩ (by kernel_rfl) (fun a w e => by unfold execOp bare;dsimp only;rw[e];go_simp <;> rfl)
 ·exact Fe 2 5 rfl rfl rfl rfl rfl (by kernel_rfl)
 ·exact E5 6 rfl rfl rfl rfl (by kernel_rfl)
 ·exact E4 rfl rfl (.env rfl (by kernel_rfl)) ⟨true, rfl, rfl, by kernel_rfl, rfl⟩ (by kernel_rfl) (fun w => by go_simp)
 ·exact E6 0 3 V4.out (.dep 8 rfl (by kernel_rfl)) rfl rfl ⟨true, rfl, rfl, by kernel_rfl, rfl⟩ (by kernel_rfl) (by kernel_rfl) (by kernel_rfl)
 ·exact E7 V5.out (.env rfl (by kernel_rfl)) rfl rfl ⟨true, rfl, rfl, by kernel_rfl, rfl⟩ (by kernel_rfl) (by kernel_rfl)
 ·exact EZ cf23 rfl rfl rfl rfl ⟨true, rfl, rfl, by kernel_rfl, rfl⟩ (by kernel_rfl) (fun a v hB hE hD => FX (hD 9 _ (by kernel_rfl) rfl) (hD 10 _ (by kernel_rfl) rfl) rfl rfl rfl (by kernel_rfl))
 ·exact Fe 7 11 rfl rfl rfl rfl rfl (by kernel_rfl)
 ·exact E5 12 rfl rfl rfl rfl (by kernel_rfl)
 ·exact E4 rfl rfl (.env rfl (by kernel_rfl)) ⟨true, rfl, rfl, by kernel_rfl, rfl⟩ (by kernel_rfl) (fun w => by go_simp)
 ·exact E6 3 3 V4.out (.dep 14 rfl (by kernel_rfl)) rfl rfl ⟨true, rfl, rfl, by kernel_rfl, rfl⟩ (by kernel_rfl) (by kernel_rfl) (by kernel_rfl)
 ·exact EZ cf18 rfl rfl rfl rfl ⟨true, rfl, rfl, by kernel_rfl, rfl⟩ (by kernel_rfl) (fun a v hB hE hD => Ft (hD 15 _ (by kernel_rfl) rfl) (Zw.2 ⟨rfl, rfl, rfl⟩) (by kernel_rfl))
 ·exact Fe 13 16 rfl rfl rfl rfl rfl (by kernel_rfl)
 ·exact E5 17 rfl rfl rfl rfl (by kernel_rfl)
 ·exact E4 rfl rfl (.env rfl (by kernel_rfl)) ⟨true, rfl, rfl, by kernel_rfl, rfl⟩ (by kernel_rfl) (fun w => by go_simp)
 ·exact E6 6 1 V4.out (.dep 19 rfl (by kernel_rfl)) rfl rfl ⟨true, rfl, rfl, by kernel_rfl, rfl⟩ (by kernel_rfl) (by kernel_rfl) (by kernel_rfl)
 ·exact EZ cf48 rfl rfl rfl rfl ⟨true, rfl, rfl, by kernel_rfl, rfl⟩ (by kernel_rfl) (fun a v hB hE hD => FY (hD 20 _ (by kernel_rfl) rfl) rfl)
 ·exact Fm (op := .binOp .eql 3 (.tmp 80) (.const (Ji Jl 0)) 3) rfl rfl (fun _ => rfl) (.dep 21 rfl (by kernel_rfl)) ⟨true, rfl, rfl, by kernel_rfl, rfl⟩ (by kernel_rfl) (fun a w e => by unfold execOp bare;dsimp only;rw[e];go_simp <;> rfl)
 ·exact Fe 18 22 rfl rfl rfl rfl rfl (by kernel_rfl)
 ·exact E5 23 rfl rfl rfl rfl (by kernel_rfl)
 have e2 : val6 2 = .bool true :=hF 24 _ rfl;clear hF;generalize val6 2 =t2 at *
 subst e2;replace V0 :=Lh (fun w' (hb : Below W6.heap.size W6 w') => V0.out w' (Jd hB hb));replace V3 :=Lh (fun w' (hb : Below W6.heap.size W6 w') => V3.out w' (Jd hB hb));replace V4 :=Lh (fun w' (hb : Below W6.heap.size W6 w') => V4.out w' (Jd hB hb));replace V5 :=Lh (fun w' (hb : Below W6.heap.size W6 w') => V5.out w' (Jd hB hb));replace K :=Lh (Jd K.out hB);replace G :=Lh (fun w' (hb : Below W6.heap.size W6 w') => G.out w' (Jd hB hb));clear hB;refine Last.nil (by kernel_rfl) ?_;clear G V0 V3 V4 V5;go_wp2_with fail
 exact bodyPost_ret (v := .bool true) (by simp[results, Tryz.results9, go_sem]) rfl ⟨_, rfl, K.out, rfl⟩
set_option maxRecDepth 100000 in
set_option maxHeartbeats 16000000 in
theorem La{n0 n1 n2 n3 n4 n5 d r : Int}{w : JW}(s1 : S6 n0 n1 n2 n3 n4 n5 d r)(hz : Xv (tq n0 r) (tq n1 r) (tq n2 r) =false)(hal : (tq n0 r) * (tq n3 r) + (tq n1 r) * (tq n4 r) + (tq n2 r) * (tq n5 r) =0)(hg : Good w) :
  Calls Tryz.prog 9 #[Ja #[Ji .i8 n0, Ji .i8 n1, Ji .i8 n2, Ji .i8 n3, Ji .i8 n4, Ji .i8 n5, Ji .u8 d]] w (Ret w (Fct.val (.bool true))) :=by
 obtain⟨a0, ha0⟩ : ∃q, tq n0 r =q :=⟨_, rfl⟩;obtain⟨a1, ha1⟩ : ∃q, tq n1 r =q :=⟨_, rfl⟩;obtain⟨a2, ha2⟩ : ∃q, tq n2 r =q :=⟨_, rfl⟩;obtain⟨a3, ha3⟩ : ∃q, tq n3 r =q :=⟨_, rfl⟩;obtain⟨a4, ha4⟩ : ∃q, tq n4 r =q :=⟨_, rfl⟩;obtain⟨a5, ha5⟩ : ∃q, tq n5 r =q :=⟨_, rfl⟩;have Ha :=fun(v : JW) (hg : Good v) => c_of (w :=v) s1 hg;rw[ha0, ha1, ha2, ha3, ha4, ha5]at Ha;replace Ha :=Lh Ha;simp only[ha0, ha1, ha2, ha3, ha4, ha5]at hz hal;have hd :=Dm (DQ hz);clear s1 ha0 ha1 ha2 ha3 ha4 ha5;have k0 :=(Below.refl w.heap.size w).alloc (N0 _) (Jc #[Ji .i8 n0, Ji .i8 n1, Ji .i8 n2, Ji .i8 n3, Ji .i8 n4, Ji .i8 n5, Ji .u8 d] 53);have V0 :=Jh.new w #[Ji .i8 n0, Ji .i8 n1, Ji .i8 n2, Ji .i8 n3, Ji .i8 n4, Ji .i8 n5, Ji .u8 d] 53;obtain⟨W, hW⟩ : ∃W, w.alloc (Jc #[Ji .i8 n0, Ji .i8 n1, Ji .i8 n2, Ji .i8 n3, Ji .i8 n4, Ji .i8 n5, Ji .u8 d] 53) =W :=⟨_, rfl⟩;rw[hW]at k0 V0;replace V0 :=Lh (fun w' (hb : Below W.heap.size W w') => (V0.keep hb));have K :=Lh k0;have G :=Lh (fun w' (hb : Below W.heap.size W w') => hg.below (k0.trans (hb.mono k0.size)));clear hg k0;go_enter Tryz.func9, Tryz.ntmps9;go_upto_region 1 with fail
 try simp only[hW]
 clear hW;refine E8 153 [(15, false, 0), (16, false, 0)] []
  [Fct.val (.bool true),
  Fct.val (.bool false)]
  0 rfl (by kernel_rfl) rfl ⟨?_, ?_, trivial⟩
  (fun val0 => ⟨#[Ja #[Ji .i8 n0, Ji .i8 n1, Ji .i8 n2, Ji .i8 n3, Ji .i8 n4, Ji .i8 n5, Ji .u8 d], Jp (Jo ⟨w.heap.size, 0, Jn⟩), .bool false, undef, undef, undef, undef, undef, undef, undef, undef, undef, undef, undef, undef, val0 15, val0 16, undef, undef, undef, undef, undef, undef, undef, undef, undef, undef, undef, undef, undef, undef, undef, undef, undef, undef, undef, undef, undef, undef, undef, undef, undef, undef, undef, undef, undef, undef, undef, undef, undef, undef, undef, undef, undef, undef, undef, undef, undef, undef, undef, undef, undef, undef, undef, undef, undef, undef, undef, undef, undef, undef, undef, undef, undef, undef, undef, undef, undef, undef, undef, undef, undef, undef, undef, undef, undef, undef, undef, undef, undef, undef, undef, undef, undef, undef, undef, undef, undef, undef, undef, undef, undef, undef, undef, undef, undef, undef, undef, undef, undef, undef, undef, undef, undef, undef, undef, undef, undef, undef, undef, undef, undef, undef, undef, undef, undef, undef, undef, undef, undef, undef, undef, undef, undef, undef, undef, undef, undef, undef, undef, undef, undef, undef, undef, undef, undef, undef, undef, undef, undef, undef, undef, undef], []⟩) (fun val0 => by kernel_rfl) (fun val0 W0 hB hF => ⟨?_⟩)
 ·exact EZ cf13 rfl rfl rfl rfl rfl (by kernel_rfl) (fun a v hB hE hD => FG (G.out v hB))
 ·exact Fm (op := .unOp .not 4 (.tmp 15)) rfl rfl (fun _ => rfl) (.dep 0 rfl (by kernel_rfl)) rfl (by kernel_rfl) (fun a w e => by unfold execOp bare;dsimp only;rw[e];go_simp <;> rfl)
 have e15 : val0 15 = .bool true :=hF 0 _ rfl;have e16 : val0 16 = .bool false :=hF 1 _ rfl;clear hF;generalize val0 15 =t15 at *
 generalize val0 16 =t16 at *
 subst e15 e16;replace V0 :=Lh (fun w' (hb : Below W0.heap.size W0 w') => V0.out w' (Jd hB hb));replace K :=Lh (Jd K.out hB);replace G :=Lh (fun w' (hb : Below W0.heap.size W0 w') => G.out w' (Jd hB hb));clear hB;refine Last.nil (by kernel_rfl) ?_;go_upto_region 3 with fail
 refine E8 153 [(17, false, 0), (18, false, 0), (3, false, 0), (3, true, 2)] [2]
  [Fct.val (Ja #[Ji .i8 n0, Ji .i8 n1, Ji .i8 n2, Ji .i8 n3, Ji .i8 n4, Ji .i8 n5, Ji .u8 d]),
  Fct.num [] 4 [a0, a1, a2, a3, a4, a5],
  Fct.ptr 24,
  Fct.var [] 4 [a0, a1, a2, a3, a4, a5]]
  0 rfl (by kernel_rfl) rfl ⟨?_, ?_, ?_, ?_, trivial⟩
  (fun val1 => ⟨#[Ja #[Ji .i8 n0, Ji .i8 n1, Ji .i8 n2, Ji .i8 n3, Ji .i8 n4, Ji .i8 n5, Ji .u8 d], Jp (Jo ⟨w.heap.size, 0, Jn⟩), .bool false, val1 3, undef, undef, undef, undef, undef, undef, undef, undef, undef, undef, undef, .bool true, .bool false, val1 17, val1 18, undef, undef, undef, undef, undef, undef, undef, undef, undef, undef, undef, undef, undef, undef, undef, undef, undef, undef, undef, undef, undef, undef, undef, undef, undef, undef, undef, undef, undef, undef, undef, undef, undef, undef, undef, undef, undef, undef, undef, undef, undef, undef, undef, undef, undef, undef, undef, undef, undef, undef, undef, undef, undef, undef, undef, undef, undef, undef, undef, undef, undef, undef, undef, undef, undef, undef, undef, undef, undef, undef, undef, undef, undef, undef, undef, undef, undef, undef, undef, undef, undef, undef, undef, undef, undef, undef, undef, undef, undef, undef, undef, undef, undef, undef, undef, undef, undef, undef, undef, undef, undef, undef, undef, undef, undef, undef, undef, undef, undef, undef, undef, undef, undef, undef, undef, undef, undef, undef, undef, undef, undef, undef, undef, undef, undef, undef, undef, undef, undef, undef, undef, undef, undef, undef], []⟩) (fun val1 => by kernel_rfl) (fun val1 W1 hB hF => ⟨?_⟩)
 ·exact Fk 7 V0.out (.env rfl (by kernel_rfl)) rfl rfl rfl (by kernel_rfl) (by kernel_rfl) rfl (by kernel_rfl)
 ·exact EZ cf21 rfl rfl rfl rfl rfl (by kernel_rfl) (fun a v hB hE hD => (show Calls _ _ #[Act.at_ a 17] v _ from by rw[show Act.at_ a 17 =_ from hD 0 _ (by kernel_rfl) rfl];exact Ha.out v (G.out v hB)))
 ·exact Fb [Ji Jl 0, Jp Jn, Ji Jl 0, Jp Jn, Ji Jl 0, Jp Jn, Ji Jl 0, Jp Jn, Ji Jl 0, Jp Jn, Ji Jl 0, Jp Jn, Ji Jl 0, Jp Jn, Ji Jl 0, Jp Jn, Ji Jl 0, Jp Jn, Ji Jl 0, Jp Jn, Ji Jl 0, Jp Jn, Ji Jl 0, Jp Jn] 37 rfl rfl rfl (by kernel_rfl) (by kernel_rfl) (fun a w => by go_simp)
 ·exact E9 2 1 rfl rfl rfl rfl rfl (by kernel_rfl) (by kernel_rfl)
 obtain⟨p3, e3, V3⟩ : (Fct.var [] 4 [a0, a1, a2, a3, a4, a5]).P W1 (val1 3) :=hF 3 _ rfl;clear hF;generalize val1 3 =t3 at *
 subst e3;replace V0 :=Lh (fun w' (hb : Below W1.heap.size W1 w') => V0.out w' (Jd hB hb));replace V3 :=Lh (fun w' (hb : Below W1.heap.size W1 w') => V3.keep hb);replace K :=Lh (Jd K.out hB);replace G :=Lh (fun w' (hb : Below W1.heap.size W1 w') => G.out w' (Jd hB hb));clear hB;refine Last.nil (by kernel_rfl) ?_;go_upto_region 4 with fail
 refine E8 153 [(19, false, 0), (20, false, 0), (4, false, 0), (4, true, 2)] [2]
  [Fct.num [] 4 [a0, a1, a2, a3, a4, a5],
  Fct.num [Ji Jl 2] 134 [pF a0 a1 a2 * a0, pF a0 a1 a2 * a1, pF a0 a1 a2 * a2, (((1 : Int) : Rat)/(a0 * a0 + a1 * a1 + a2 * a2)) * (a1 * a5-a2 * a4), (((1 : Int) : Rat)/(a0 * a0 + a1 * a1 + a2 * a2)) * (a2 * a3-a0 * a5), (((1 : Int) : Rat)/(a0 * a0 + a1 * a1 + a2 * a2)) * (a0 * a4-a1 * a3), 0],
  Fct.ptr 29,
  Fct.var [Ji Jl 2] 134 [pF a0 a1 a2 * a0, pF a0 a1 a2 * a1, pF a0 a1 a2 * a2, (((1 : Int) : Rat) / (a0 * a0 + a1 * a1 + a2 * a2)) * (a1 * a5 - a2 * a4), (((1 : Int) : Rat) / (a0 * a0 + a1 * a1 + a2 * a2)) * (a2 * a3 - a0 * a5), (((1 : Int) : Rat) / (a0 * a0 + a1 * a1 + a2 * a2)) * (a0 * a4 - a1 * a3), 0]]
  0 rfl (by kernel_rfl) rfl ⟨?_, ?_, ?_, ?_, trivial⟩
  (fun val2 => ⟨#[Ja #[Ji .i8 n0, Ji .i8 n1, Ji .i8 n2, Ji .i8 n3, Ji .i8 n4, Ji .i8 n5, Ji .u8 d], Jp (Jo ⟨w.heap.size, 0, Jn⟩), .bool false, Jp (Jo ⟨p3, 0, Jn⟩), val2 4, undef, undef, undef, undef, undef, undef, undef, undef, undef, undef, .bool true, .bool false, val1 17, val1 18, val2 19, val2 20, undef, undef, undef, undef, undef, undef, undef, undef, undef, undef, undef, undef, undef, undef, undef, undef, undef, undef, undef, undef, undef, undef, undef, undef, undef, undef, undef, undef, undef, undef, undef, undef, undef, undef, undef, undef, undef, undef, undef, undef, undef, undef, undef, undef, undef, undef, undef, undef, undef, undef, undef, undef, undef, undef, undef, undef, undef, undef, undef, undef, undef, undef, undef, undef, undef, undef, undef, undef, undef, undef, undef, undef, undef, undef, undef, undef, undef, undef, undef, undef, undef, undef, undef, undef, undef, undef, undef, undef, undef, undef, undef, undef, undef, undef, undef, undef, undef, undef, undef, undef, undef, undef, undef, undef, undef, undef, undef, undef, undef, undef, undef, undef, undef, undef, undef, undef, undef, undef, undef, undef, undef, undef, undef, undef, undef, undef, undef, undef, undef, undef, undef, undef], []⟩) (fun val2 => by kernel_rfl) (fun val2 W2 hB hF => ⟨?_⟩)
 ·exact E7 V3.out (.env rfl (by kernel_rfl)) rfl rfl rfl (by kernel_rfl) (by kernel_rfl)
 ·exact EZ cf47 rfl rfl rfl rfl rfl (by kernel_rfl) (fun a v hB hE hD => LG (Num.up (hD 0 _ (by kernel_rfl) rfl) (by decide)) hz hal (G.out v hB))
 ·exact Fb [Ji Jl 0, Ji Jl 0, Jp Jn, Ji Jl 0, Jp Jn, Ji Jl 0, Jp Jn, Ji Jl 0, Jp Jn, Ji Jl 0, Jp Jn, Ji Jl 0, Jp Jn, Ji Jl 0, Jp Jn, Ji Jl 0, Jp Jn, Ji Jl 0, Jp Jn, Ji Jl 0, Jp Jn, Ji Jl 0, Jp Jn, Ji Jl 0, Jp Jn, Ji Jl 0, Jp Jn, Ji Jl 0, Jp Jn] 90 rfl rfl rfl (by kernel_rfl) (by kernel_rfl) (fun a w => by go_simp)
 ·exact E9 2 1 rfl rfl rfl rfl rfl (by kernel_rfl) (by kernel_rfl)
 obtain⟨p4, e4, V4⟩ : (Fct.var [Ji Jl 2] 134 [pF a0 a1 a2 * a0, pF a0 a1 a2 * a1, pF a0 a1 a2 * a2, (((1 : Int) : Rat)/(a0 * a0 + a1 * a1 + a2 * a2)) * (a1 * a5-a2 * a4), (((1 : Int) : Rat)/(a0 * a0 + a1 * a1 + a2 * a2)) * (a2 * a3-a0 * a5), (((1 : Int) : Rat)/(a0 * a0 + a1 * a1 + a2 * a2)) * (a0 * a4-a1 * a3), 0]).P W2 (val2 4) :=hF 3 _ rfl;clear hF;generalize val2 4 =t4 at *
 subst e4;replace V0 :=Lh (fun w' (hb : Below W2.heap.size W2 w') => V0.out w' (Jd hB hb));replace V3 :=Lh (fun w' (hb : Below W2.heap.size W2 w') => V3.out w' (Jd hB hb));replace V4 :=Lh (fun w' (hb : Below W2.heap.size W2 w') => V4.keep hb);replace K :=Lh (Jd K.out hB);replace G :=Lh (fun w' (hb : Below W2.heap.size W2 w') => G.out w' (Jd hB hb));clear hB;refine Last.nil (by kernel_rfl) ?_;go_upto_region 5 with fail
 refine E8 153 [(22, false, 0), (23, false, 0), (24, false, 0), (25, false, 0), (26, false, 0), (27, false, 0), (28, false, 0), (29, false, 0), (21, false, 0)] []
  [Fct.val (Jp (Jo ⟨p3, 0, Jn⟩)),
  Fct.num [] 4 [a0, a1, a2],
  Fct.val (.bool false),
  Fct.val (.bool false),
  Fct.val (undef),
  Fct.val (undef),
  Fct.val (undef),
  Fct.val (.bool false),
  Fct.val (.bool false)]
  0 rfl (by kernel_rfl) rfl ⟨?_, ?_, ?_, ?_, ?_, ?_, ?_, ?_, ?_, trivial⟩
  (fun val3 => ⟨#[Ja #[Ji .i8 n0, Ji .i8 n1, Ji .i8 n2, Ji .i8 n3, Ji .i8 n4, Ji .i8 n5, Ji .u8 d], Jp (Jo ⟨w.heap.size, 0, Jn⟩), .bool false, Jp (Jo ⟨p3, 0, Jn⟩), Jp (Jo ⟨p4, 0, Jn⟩), undef, undef, undef, undef, undef, undef, undef, undef, undef, undef, .bool true, .bool false, val1 17, val1 18, val2 19, val2 20, val3 21, val3 22, val3 23, val3 24, val3 25, val3 26, val3 27, val3 28, val3 29, undef, undef, undef, undef, undef, undef, undef, undef, undef, undef, undef, undef, undef, undef, undef, undef, undef, undef, undef, undef, undef, undef, undef, undef, undef, undef, undef, undef, undef, undef, undef, undef, undef, undef, undef, undef, undef, undef, undef, undef, undef, undef, undef, undef, undef, undef, undef, undef, undef, undef, undef, undef, undef, undef, undef, undef, undef, undef, undef, undef, undef, undef, undef, undef, undef, undef, undef, undef, undef, undef, undef, undef, undef, undef, undef, undef, undef, undef, undef, undef, undef, undef, undef, undef, undef, undef, undef, undef, undef, undef, undef, undef, undef, undef, undef, undef, undef, undef, undef, undef, undef, undef, undef, undef, undef, undef, undef, undef, undef, undef, undef, undef, undef, undef, undef, undef, undef, undef, undef, undef, undef, undef, undef], []⟩) (fun val3 => by kernel_rfl) (fun val3 W3 hB hF => ⟨?_⟩)
 ·exact E4 rfl rfl (.env rfl (by kernel_rfl)) rfl (by kernel_rfl) (fun w => by go_simp)
 ·exact E6 0 3 V3.out (.dep 0 rfl (by kernel_rfl)) rfl rfl rfl (by kernel_rfl) (by kernel_rfl) (by kernel_rfl)
 ·exact EZ cf18 rfl rfl rfl rfl rfl (by kernel_rfl) (fun a v hB hE hD => Ft (hD 1 _ (by kernel_rfl) rfl) hz (by kernel_rfl))
 ·exact E5 2 rfl rfl rfl rfl (by kernel_rfl)
 ·exact FC rfl ⟨false, rfl, rfl, by kernel_rfl, rfl⟩ (by kernel_rfl)
 ·exact FC rfl ⟨false, rfl, rfl, by kernel_rfl, rfl⟩ (by kernel_rfl)
 ·exact FC rfl ⟨false, rfl, rfl, by kernel_rfl, rfl⟩ (by kernel_rfl)
 ·exact Dx 3 rfl rfl rfl rfl (by kernel_rfl)
 ·exact E5 7 rfl rfl rfl rfl (by kernel_rfl)
 have e21 : val3 21 = .bool false :=hF 8 _ rfl;clear hF;generalize val3 21 =t21 at *
 subst e21;replace V0 :=Lh (fun w' (hb : Below W3.heap.size W3 w') => V0.out w' (Jd hB hb));replace V3 :=Lh (fun w' (hb : Below W3.heap.size W3 w') => V3.out w' (Jd hB hb));replace V4 :=Lh (fun w' (hb : Below W3.heap.size W3 w') => V4.out w' (Jd hB hb));replace K :=Lh (Jd K.out hB);replace G :=Lh (fun w' (hb : Below W3.heap.size W3 w') => G.out w' (Jd hB hb));clear hB;refine Last.nil (by kernel_rfl) ?_;go_upto_region 7 with fail
 refine E8 153 [(50, false, 0), (51, false, 0), (52, false, 0), (49, false, 0)] []
  [Fct.val (Jp (Jo ⟨p3, 0, Jn⟩)),
  Fct.num [] 4 [a0, a1, a2],
  Fct.val (.bool false),
  Fct.val (.bool false)]
  0 rfl (by kernel_rfl) rfl ⟨?_, ?_, ?_, ?_, trivial⟩
  (fun val4 => ⟨#[Ja #[Ji .i8 n0, Ji .i8 n1, Ji .i8 n2, Ji .i8 n3, Ji .i8 n4, Ji .i8 n5, Ji .u8 d], Jp (Jo ⟨w.heap.size, 0, Jn⟩), .bool false, Jp (Jo ⟨p3, 0, Jn⟩), Jp (Jo ⟨p4, 0, Jn⟩), undef, undef, undef, undef, undef, undef, undef, undef, undef, undef, .bool true, .bool false, val1 17, val1 18, val2 19, val2 20, .bool false, val3 22, val3 23, val3 24, val3 25, val3 26, val3 27, val3 28, val3 29, undef, undef, undef, undef, undef, undef, undef, undef, undef, undef, undef, undef, undef, undef, undef, undef, undef, undef, undef, val4 49, val4 50, val4 51, val4 52, undef, undef, undef, undef, undef, undef, undef, undef, undef, undef, undef, undef, undef, undef, undef, undef, undef, undef, undef, undef, undef, undef, undef, undef, undef, undef, undef, undef, undef, undef, undef, undef, undef, undef, undef, undef, undef, undef, undef, undef, undef, undef, undef, undef, undef, undef, undef, undef, undef, undef, undef, undef, undef, undef, undef, undef, undef, undef, undef, undef, undef, undef, undef, undef, undef, undef, undef, undef, undef, undef, undef, undef, undef, undef, undef, undef, undef, undef, undef, undef, undef, undef, undef, undef, undef, undef, undef, undef, undef, undef, undef, undef, undef, undef, undef, undef, undef, undef, undef, undef], []⟩) (fun val4 => by kernel_rfl) (fun val4 W4 hB hF => ⟨?_⟩)
 ·exact E4 rfl rfl (.env rfl (by kernel_rfl)) rfl (by kernel_rfl) (fun w => by go_simp)
 ·exact E6 0 3 V3.out (.dep 0 rfl (by kernel_rfl)) rfl rfl rfl (by kernel_rfl) (by kernel_rfl) (by kernel_rfl)
 ·exact EZ cf18 rfl rfl rfl rfl rfl (by kernel_rfl) (fun a v hB hE hD => Ft (hD 1 _ (by kernel_rfl) rfl) hz (by kernel_rfl))
 ·exact E5 2 rfl rfl rfl rfl (by kernel_rfl)
 have e49 : val4 49 = .bool false :=hF 3 _ rfl;clear hF;generalize val4 49 =t49 at *
 subst e49;replace V0 :=Lh (fun w' (hb : Below W4.heap.size W4 w') => V0.out w' (Jd hB hb));replace V3 :=Lh (fun w' (hb : Below W4.heap.size W4 w') => V3.out w' (Jd hB hb));replace V4 :=Lh (fun w' (hb : Below W4.heap.size W4 w') => V4.out w' (Jd hB hb));replace K :=Lh (Jd K.out hB);replace G :=Lh (fun w' (hb : Below W4.heap.size W4 w') => G.out w' (Jd hB hb));clear hB;refine Last.nil (by kernel_rfl) ?_;go_upto_region 10 with fail
 refine E8 153 [(84, false, 0), (85, false, 0), (86, false, 0), (83, false, 0), (87, false, 0), (88, false, 0), (7, false, 0), (7, true, 6), (8, false, 0)] [6]
  [Fct.val (Jp (Jo ⟨p3, 0, Jn⟩)),
  Fct.num [] 4 [a0, a1, a2],
  Fct.made 0 13 [pF a0 a1 a2 * a0, pF a0 a1 a2 * a1, pF a0 a1 a2 * a2],
  Fct.made 0 13 [pF a0 a1 a2 * a0, pF a0 a1 a2 * a1, pF a0 a1 a2 * a2],
  Fct.num [] 13 [pF a0 a1 a2 * a0, pF a0 a1 a2 * a1, pF a0 a1 a2 * a2],
  Fct.val (Ji Jl 0),
  Fct.ptr 12,
  Fct.var [] 13 [pF a0 a1 a2 * a0, pF a0 a1 a2 * a1, pF a0 a1 a2 * a2],
  Fct.val (Ji Jl 0)]
  0 rfl (by kernel_rfl) rfl ⟨?_, ?_, ?_, ?_, ?_, ?_, ?_, ?_, ?_, trivial⟩
  (fun val5 => ⟨#[Ja #[Ji .i8 n0, Ji .i8 n1, Ji .i8 n2, Ji .i8 n3, Ji .i8 n4, Ji .i8 n5, Ji .u8 d], Jp (Jo ⟨w.heap.size, 0, Jn⟩), .bool false, Jp (Jo ⟨p3, 0, Jn⟩), Jp (Jo ⟨p4, 0, Jn⟩), undef, undef, val5 7, val5 8, undef, undef, undef, undef, undef, undef, .bool true, .bool false, val1 17, val1 18, val2 19, val2 20, .bool false, val3 22, val3 23, val3 24, val3 25, val3 26, val3 27, val3 28, val3 29, undef, undef, undef, undef, undef, undef, undef, undef, undef, undef, undef, undef, undef, undef, undef, undef, undef, undef, undef, .bool false, val4 50, val4 51, val4 52, undef, undef, undef, undef, undef, undef, undef, undef, undef, undef, undef, undef, undef, undef, undef, undef, undef, undef, undef, undef, undef, undef, undef, undef, undef, undef, undef, undef, undef, undef, val5 83, val5 84, val5 85, val5 86, val5 87, val5 88, undef, undef, undef, undef, undef, undef, undef, undef, undef, undef, undef, undef, undef, undef, undef, undef, undef, undef, undef, undef, undef, undef, undef, undef, undef, undef, undef, undef, undef, undef, undef, undef, undef, undef, undef, undef, undef, undef, undef, undef, undef, undef, undef, undef, undef, undef, undef, undef, undef, undef, undef, undef, undef, undef, undef, undef, undef, undef, undef, undef, undef, undef, undef, undef], []⟩) (fun val5 => by kernel_rfl) (fun val5 W5 hB hF => ⟨?_⟩)
 ·exact E4 rfl rfl (.env rfl (by kernel_rfl)) rfl (by kernel_rfl) (fun w => by go_simp)
 ·exact E6 0 3 V3.out (.dep 0 rfl (by kernel_rfl)) rfl rfl rfl (by kernel_rfl) (by kernel_rfl) (by kernel_rfl)
 ·exact EZ cf49 rfl rfl rfl rfl rfl (by kernel_rfl) (fun a v hB hE hD => Dp (hD 1 _ (by kernel_rfl) rfl) hz (by kernel_rfl) (G.out v hB))
 ·exact E5 2 rfl rfl rfl rfl (by kernel_rfl)
 ·exact Fx 3 rfl rfl rfl rfl (by kernel_rfl)
 ·exact Fw 3 rfl rfl rfl rfl (by kernel_rfl)
 ·exact Fb [Ji Jl 0, Jp Jn, Ji Jl 0, Jp Jn, Ji Jl 0, Jp Jn, Ji Jl 0, Jp Jn, Ji Jl 0, Jp Jn, Ji Jl 0, Jp Jn] 35 rfl rfl rfl (by kernel_rfl) (by kernel_rfl) (fun a w => by go_simp)
 ·exact E9 6 4 rfl rfl rfl rfl rfl (by kernel_rfl) (by kernel_rfl)
 ·exact E5 5 rfl rfl rfl rfl (by kernel_rfl)
 obtain⟨p7, e7, V7⟩ : (Fct.var [] 13 [pF a0 a1 a2 * a0, pF a0 a1 a2 * a1, pF a0 a1 a2 * a2]).P W5 (val5 7) :=hF 7 _ rfl;have e8 : val5 8 =Ji Jl 0 :=hF 8 _ rfl;clear hF;generalize val5 7 =t7 at *
 generalize val5 8 =t8 at *
 subst e7 e8;replace V0 :=Lh (fun w' (hb : Below W5.heap.size W5 w') => V0.out w' (Jd hB hb));replace V3 :=Lh (fun w' (hb : Below W5.heap.size W5 w') => V3.out w' (Jd hB hb));replace V4 :=Lh (fun w' (hb : Below W5.heap.size W5 w') => V4.out w' (Jd hB hb));replace V7 :=Lh (fun w' (hb : Below W5.heap.size W5 w') => V7.keep hb);replace K :=Lh (Jd K.out hB);replace G :=Lh (fun w' (hb : Below W5.heap.size W5 w') => G.out w' (Jd hB hb));clear hB;refine Last.nil (by kernel_rfl) ?_;go_upto_region 11 with fail
 refine E8 153 [(89, false, 0), (90, false, 0), (91, false, 0), (92, false, 0), (93, false, 0), (9, false, 0), (9, true, 5)] [5]
  [Fct.val (Jp (Jo ⟨p3, 0, Jn⟩)),
  Fct.num [] 4 [a0, a1, a2],
  Fct.val (Jp (Jo ⟨p3, 0, Jn⟩)),
  Fct.num [] 4 [a0, a1, a2],
  Fct.num [] 26 [a0 * a0 + a1 * a1 + a2 * a2],
  Fct.ptr 4,
  Fct.var [] 26 [a0 * a0 + a1 * a1 + a2 * a2]]
  0 rfl (by kernel_rfl) rfl ⟨?_, ?_, ?_, ?_, ?_, ?_, ?_, trivial⟩
  (fun val6 => ⟨#[Ja #[Ji .i8 n0, Ji .i8 n1, Ji .i8 n2, Ji .i8 n3, Ji .i8 n4, Ji .i8 n5, Ji .u8 d], Jp (Jo ⟨w.heap.size, 0, Jn⟩), .bool false, Jp (Jo ⟨p3, 0, Jn⟩), Jp (Jo ⟨p4, 0, Jn⟩), undef, undef, Jp (Jo ⟨p7, 0, Jn⟩), Ji Jl 0, val6 9, undef, undef, undef, undef, undef, .bool true, .bool false, val1 17, val1 18, val2 19, val2 20, .bool false, val3 22, val3 23, val3 24, val3 25, val3 26, val3 27, val3 28, val3 29, undef, undef, undef, undef, undef, undef, undef, undef, undef, undef, undef, undef, undef, undef, undef, undef, undef, undef, undef, .bool false, val4 50, val4 51, val4 52, undef, undef, undef, undef, undef, undef, undef, undef, undef, undef, undef, undef, undef, undef, undef, undef, undef, undef, undef, undef, undef, undef, undef, undef, undef, undef, undef, undef, undef, undef, val5 83, val5 84, val5 85, val5 86, val5 87, val5 88, val6 89, val6 90, val6 91, val6 92, val6 93, undef, undef, undef, undef, undef, undef, undef, undef, undef, undef, undef, undef, undef, undef, undef, undef, undef, undef, undef, undef, undef, undef, undef, undef, undef, undef, undef, undef, undef, undef, undef, undef, undef, undef, undef, undef, undef, undef, undef, undef, undef, undef, undef, undef, undef, undef, undef, undef, undef, undef, undef, undef, undef, undef, undef, undef, undef, undef, undef], []⟩) (fun val6 => by kernel_rfl) (fun val6 W6 hB hF => ⟨?_⟩)
 ·exact E4 rfl rfl (.env rfl (by kernel_rfl)) rfl (by kernel_rfl) (fun w => by go_simp)
 ·exact E6 0 3 V3.out (.dep 0 rfl (by kernel_rfl)) rfl rfl rfl (by kernel_rfl) (by kernel_rfl) (by kernel_rfl)
 ·exact E4 rfl rfl (.env rfl (by kernel_rfl)) rfl (by kernel_rfl) (fun w => by go_simp)
 ·exact E6 0 3 V3.out (.dep 2 rfl (by kernel_rfl)) rfl rfl rfl (by kernel_rfl) (by kernel_rfl) (by kernel_rfl)
 ·exact EZ cf31 rfl rfl rfl rfl rfl (by kernel_rfl) (fun a v hB hE hD => FZ (hD 1 _ (by kernel_rfl) rfl) (hD 3 _ (by kernel_rfl) rfl) (by kernel_rfl) (G.out v hB))
 ·exact Fb [Ji Jl 0, Jp Jn, Ji Jl 0, Jp Jn] 31 rfl rfl rfl (by kernel_rfl) (by kernel_rfl) (fun a w => by go_simp)
 ·exact E9 5 4 rfl rfl rfl rfl rfl (by kernel_rfl) (by kernel_rfl)
 obtain⟨p9, e9, V9⟩ : (Fct.var [] 26 [a0 * a0 + a1 * a1 + a2 * a2]).P W6 (val6 9) :=hF 6 _ rfl;clear hF;generalize val6 9 =t9 at *
 subst e9;replace V0 :=Lh (fun w' (hb : Below W6.heap.size W6 w') => V0.out w' (Jd hB hb));replace V3 :=Lh (fun w' (hb : Below W6.heap.size W6 w') => V3.out w' (Jd hB hb));replace V4 :=Lh (fun w' (hb : Below W6.heap.size W6 w') => V4.out w' (Jd hB hb));replace V7 :=Lh (fun w' (hb : Below W6.heap.size W6 w') => V7.out w' (Jd hB hb));replace V9 :=Lh (fun w' (hb : Below W6.heap.size W6 w') => V9.keep hb);replace K :=Lh (Jd K.out hB);replace G :=Lh (fun w' (hb : Below W6.heap.size W6 w') => G.out w' (Jd hB hb));clear hB;refine Last.nil (by kernel_rfl) ?_;go_upto_region 12 with fail
 refine Fy 153 [(95, false, 0), (96, false, 0), (97, false, 0), (98, false, 0), (99, false, 0), (100, false, 0), (101, false, 0), (94, false, 0), (102, false, 0), (103, false, 0), (10, false, 0), (10, true, 10), (11, false, 0)] [10]
  [Fct.val (Jp (Jo ⟨p3, 0, Jn⟩)),
  Fct.num [] 4 [a0, a1, a2],
  Fct.val (Jp (Jo ⟨p3, 12, Jn⟩)),
  Fct.num [] 4 [a3, a4, a5],
  Fct.num [] 26 [a0 * a3 + a1 * a4 + a2 * a5],
  Fct.num [] 26 [a0 * a0 + a1 * a1 + a2 * a2],
  Fct.made 0 52 [(a0 * a3 + a1 * a4 + a2 * a5)/(a0 * a0 + a1 * a1 + a2 * a2)],
  Fct.made 0 52 [(a0 * a3 + a1 * a4 + a2 * a5)/(a0 * a0 + a1 * a1 + a2 * a2)],
  Fct.num [] 52 [(a0 * a3 + a1 * a4 + a2 * a5)/(a0 * a0 + a1 * a1 + a2 * a2)],
  Fct.val (Ji Jl 0),
  Fct.ptr 4,
  Fct.var [] 52 [(a0 * a3 + a1 * a4 + a2 * a5)/(a0 * a0 + a1 * a1 + a2 * a2)],
  Fct.val (Ji Jl 0)]
  #[true, true, true, true, true, true, true, true, true, true, true, true, true] 0 rfl (by kernel_rfl) rfl (by kernel_rfl) ⟨?_, ?_, ?_, ?_, ?_, ?_, ?_, ?_, ?_, ?_, ?_, ?_, ?_, trivial⟩
  (fun val7 => ⟨#[Ja #[Ji .i8 n0, Ji .i8 n1, Ji .i8 n2, Ji .i8 n3, Ji .i8 n4, Ji .i8 n5, Ji .u8 d], Jp (Jo ⟨w.heap.size, 0, Jn⟩), .bool false, Jp (Jo ⟨p3, 0, Jn⟩), Jp (Jo ⟨p4, 0, Jn⟩), undef, undef, Jp (Jo ⟨p7, 0, Jn⟩), Ji Jl 0, Jp (Jo ⟨p9, 0, Jn⟩), val7 10, val7 11, undef, undef, undef, .bool true, .bool false, val1 17, val1 18, val2 19, val2 20, .bool false, val3 22, val3 23, val3 24, val3 25, val3 26, val3 27, val3 28, val3 29, undef, undef, undef, undef, undef, undef, undef, undef, undef, undef, undef, undef, undef, undef, undef, undef, undef, undef, undef, .bool false, val4 50, val4 51, val4 52, undef, undef, undef, undef, undef, undef, undef, undef, undef, undef, undef, undef, undef, undef, undef, undef, undef, undef, undef, undef, undef, undef, undef, undef, undef, undef, undef, undef, undef, undef, val5 83, val5 84, val5 85, val5 86, val5 87, val5 88, val6 89, val6 90, val6 91, val6 92, val6 93, val7 94, val7 95, val7 96, val7 97, val7 98, val7 99, val7 100, val7 101, val7 102, val7 103, undef, undef, undef, undef, undef, undef, undef, undef, undef, undef, undef, undef, undef, undef, undef, undef, undef, undef, undef, undef, undef, undef, undef, undef, undef, undef, undef, undef, undef, undef, undef, undef, undef, undef, undef, undef, undef, undef, undef, undef, undef, undef, undef, undef, undef, undef, undef, undef, undef], []⟩) (fun val7 => by kernel_rfl) (fun val7 W7 hB hF => ⟨?_⟩)
 ·exact E4 rfl rfl (.env rfl (by kernel_rfl)) rfl (by kernel_rfl) (fun w => by go_simp)
 ·exact E6 0 3 V3.out (.dep 0 rfl (by kernel_rfl)) rfl rfl rfl (by kernel_rfl) (by kernel_rfl) (by kernel_rfl)
 ·exact E4 rfl rfl (.env rfl (by kernel_rfl)) rfl (by kernel_rfl) (fun w => by go_simp)
 ·exact E6 3 3 V3.out (.dep 2 rfl (by kernel_rfl)) rfl rfl rfl (by kernel_rfl) (by kernel_rfl) (by kernel_rfl)
 ·exact EZ cf31 rfl rfl rfl rfl rfl (by kernel_rfl) (fun a v hB hE hD => FZ (hD 1 _ (by kernel_rfl) rfl) (hD 3 _ (by kernel_rfl) rfl) (by kernel_rfl) (G.out v hB))
 ·exact E7 V9.out (.env rfl (by kernel_rfl)) rfl rfl rfl (by kernel_rfl) (by kernel_rfl)
 ·exact EZ cf50 rfl rfl rfl rfl rfl (by kernel_rfl) (fun a v hB hE hD => FI (hD 4 _ (by kernel_rfl) rfl) (hD 5 _ (by kernel_rfl) rfl) hd (by kernel_rfl) (G.out v hB))
 ·exact E5 6 rfl rfl rfl rfl (by kernel_rfl)
 ·exact Fx 7 rfl rfl rfl rfl (by kernel_rfl)
 ·exact Fw 7 rfl rfl rfl rfl (by kernel_rfl)
 ·exact Fb [Ji Jl 0, Jp Jn, Ji Jl 0, Jp Jn] 31 rfl rfl rfl (by kernel_rfl) (by kernel_rfl) (fun a w => by go_simp)
 ·exact E9 10 8 rfl rfl rfl rfl rfl (by kernel_rfl) (by kernel_rfl)
 ·exact E5 9 rfl rfl rfl rfl (by kernel_rfl)
 obtain⟨p10, e10, V10⟩ : (Fct.var [] 52 [(a0 * a3 + a1 * a4 + a2 * a5)/(a0 * a0 + a1 * a1 + a2 * a2)]).P W7 (val7 10) :=hF 11 _ rfl;have e11 : val7 11 =Ji Jl 0 :=hF 12 _ rfl;clear hF;generalize val7 10 =t10 at *
 generalize val7 11 =t11 at *
 subst e10 e11;replace V0 :=Lh (fun w' (hb : Below W7.heap.size W7 w') => V0.out w' (Jd hB hb));replace V3 :=Lh (fun w' (hb : Below W7.heap.size W7 w') => V3.out w' (Jd hB hb));replace V4 :=Lh (fun w' (hb : Below W7.heap.size W7 w') => V4.out w' (Jd hB hb));replace V7 :=Lh (fun w' (hb : Below W7.heap.size W7 w') => V7.out w' (Jd hB hb));replace V9 :=Lh (fun w' (hb : Below W7.heap.size W7 w') => V9.out w' (Jd hB hb));replace V10 :=Lh (fun w' (hb : Below W7.heap.size W7 w') => V10.keep hb);replace K :=Lh (Jd K.out hB);replace G :=Lh (fun w' (hb : Below W7.heap.size W7 w') => G.out w' (Jd hB hb));clear hB;refine Last.nil (by kernel_rfl) ?_;go_upto_region 13 with fail
 refine Fy 153 [(105, false, 0), (106, false, 0), (107, false, 0), (104, false, 0), (108, false, 0), (109, false, 0), (12, false, 0), (12, true, 6), (13, false, 0)] [6]
  [Fct.num [] 1 [((1 : Int) : Rat)],
  Fct.num [] 26 [a0 * a0 + a1 * a1 + a2 * a2],
  Fct.made 0 27 [((1 : Int) : Rat)/(a0 * a0 + a1 * a1 + a2 * a2)],
  Fct.made 0 27 [((1 : Int) : Rat)/(a0 * a0 + a1 * a1 + a2 * a2)],
  Fct.num [] 27 [((1 : Int) : Rat)/(a0 * a0 + a1 * a1 + a2 * a2)],
  Fct.val (Ji Jl 0),
  Fct.ptr 4,
  Fct.var [] 27 [((1 : Int) : Rat)/(a0 * a0 + a1 * a1 + a2 * a2)],
  Fct.val (Ji Jl 0)]
  #[true, true, true, true, true, true, true, true, true] 0 rfl (by kernel_rfl) rfl (by kernel_rfl) ⟨?_, ?_, ?_, ?_, ?_, ?_, ?_, ?_, ?_, trivial⟩
  (fun val8 => ⟨#[Ja #[Ji .i8 n0, Ji .i8 n1, Ji .i8 n2, Ji .i8 n3, Ji .i8 n4, Ji .i8 n5, Ji .u8 d], Jp (Jo ⟨w.heap.size, 0, Jn⟩), .bool false, Jp (Jo ⟨p3, 0, Jn⟩), Jp (Jo ⟨p4, 0, Jn⟩), undef, undef, Jp (Jo ⟨p7, 0, Jn⟩), Ji Jl 0, Jp (Jo ⟨p9, 0, Jn⟩), Jp (Jo ⟨p10, 0, Jn⟩), Ji Jl 0, val8 12, val8 13, undef, .bool true, .bool false, val1 17, val1 18, val2 19, val2 20, .bool false, val3 22, val3 23, val3 24, val3 25, val3 26, val3 27, val3 28, val3 29, undef, undef, undef, undef, undef, undef, undef, undef, undef, undef, undef, undef, undef, undef, undef, undef, undef, undef, undef, .bool false, val4 50, val4 51, val4 52, undef, undef, undef, undef, undef, undef, undef, undef, undef, undef, undef, undef, undef, undef, undef, undef, undef, undef, undef, undef, undef, undef, undef, undef, undef, undef, undef, undef, undef, undef, val5 83, val5 84, val5 85, val5 86, val5 87, val5 88, val6 89, val6 90, val6 91, val6 92, val6 93, val7 94, val7 95, val7 96, val7 97, val7 98, val7 99, val7 100, val7 101, val7 102, val7 103, val8 104, val8 105, val8 106, val8 107, val8 108, val8 109, undef, undef, undef, undef, undef, undef, undef, undef, undef, undef, undef, undef, undef, undef, undef, undef, undef, undef, undef, undef, undef, undef, undef, undef, undef, undef, undef, undef, undef, undef, undef, undef, undef, undef, undef, undef, undef, undef, undef, undef, undef, undef, undef], []⟩) (fun val8 => by kernel_rfl) (fun val8 W8 hB hF => ⟨?_⟩)
 ·exact EZ cf51 rfl rfl rfl rfl rfl (by kernel_rfl) (fun a v hB hE hD => (show Calls _ _ #[Ji Jl 1] v _ from Fv ⟨by decide, by decide⟩ (Fq (by decide) (by decide))))
 ·exact E7 V9.out (.env rfl (by kernel_rfl)) rfl rfl rfl (by kernel_rfl) (by kernel_rfl)
 ·exact EZ cf50 rfl rfl rfl rfl rfl (by kernel_rfl) (fun a v hB hE hD => FI (hD 0 _ (by kernel_rfl) rfl) (hD 1 _ (by kernel_rfl) rfl) hd (by kernel_rfl) (G.out v hB))
 ·exact E5 2 rfl rfl rfl rfl (by kernel_rfl)
 ·exact Fx 3 rfl rfl rfl rfl (by kernel_rfl)
 ·exact Fw 3 rfl rfl rfl rfl (by kernel_rfl)
 ·exact Fb [Ji Jl 0, Jp Jn, Ji Jl 0, Jp Jn] 31 rfl rfl rfl (by kernel_rfl) (by kernel_rfl) (fun a w => by go_simp)
 ·exact E9 6 4 rfl rfl rfl rfl rfl (by kernel_rfl) (by kernel_rfl)
 ·exact E5 5 rfl rfl rfl rfl (by kernel_rfl)
 obtain⟨p12, e12, V12⟩ : (Fct.var [] 27 [((1 : Int) : Rat)/(a0 * a0 + a1 * a1 + a2 * a2)]).P W8 (val8 12) :=hF 7 _ rfl;have e13 : val8 13 =Ji Jl 0 :=hF 8 _ rfl;clear hF;generalize val8 12 =t12 at *
 generalize val8 13 =t13 at *
 subst e12 e13;replace V0 :=Lh (fun w' (hb : Below W8.heap.size W8 w') => V0.out w' (Jd hB hb));replace V3 :=Lh (fun w' (hb : Below W8.heap.size W8 w') => V3.out w' (Jd hB hb));replace V4 :=Lh (fun w' (hb : Below W8.heap.size W8 w') => V4.out w' (Jd hB hb));replace V7 :=Lh (fun w' (hb : Below W8.heap.size W8 w') => V7.out w' (Jd hB hb));replace V9 :=Lh (fun w' (hb : Below W8.heap.size W8 w') => V9.out w' (Jd hB hb));replace V10 :=Lh (fun w' (hb : Below W8.heap.size W8 w') => V10.out w' (Jd hB hb));replace V12 :=Lh (fun w' (hb : Below W8.heap.size W8 w') => V12.keep hb);replace K :=Lh (Jd K.out hB);replace G :=Lh (fun w' (hb : Below W8.heap.size W8 w') => G.out w' (Jd hB hb));clear hB;refine Last.nil (by kernel_rfl) ?_;go_upto_region 14 with fail
 refine E8 153 [(14, false, 0)] []
  [Fct.val (Ji Jl 3)]
  0 rfl (by kernel_rfl) rfl ⟨?_, trivial⟩
  (fun val9 => ⟨#[Ja #[Ji .i8 n0, Ji .i8 n1, Ji .i8 n2, Ji .i8 n3, Ji .i8 n4, Ji .i8 n5, Ji .u8 d], Jp (Jo ⟨w.heap.size, 0, Jn⟩), .bool false, Jp (Jo ⟨p3, 0, Jn⟩), Jp (Jo ⟨p4, 0, Jn⟩), undef, undef, Jp (Jo ⟨p7, 0, Jn⟩), Ji Jl 0, Jp (Jo ⟨p9, 0, Jn⟩), Jp (Jo ⟨p10, 0, Jn⟩), Ji Jl 0, Jp (Jo ⟨p12, 0, Jn⟩), Ji Jl 0, val9 14, .bool true, .bool false, val1 17, val1 18, val2 19, val2 20, .bool false, val3 22, val3 23, val3 24, val3 25, val3 26, val3 27, val3 28, val3 29, undef, undef, undef, undef, undef, undef, undef, undef, undef, undef, undef, undef, undef, undef, undef, undef, undef, undef, undef, .bool false, val4 50, val4 51, val4 52, undef, undef, undef, undef, undef, undef, undef, undef, undef, undef, undef, undef, undef, undef, undef, undef, undef, undef, undef, undef, undef, undef, undef, undef, undef, undef, undef, undef, undef, undef, val5 83, val5 84, val5 85, val5 86, val5 87, val5 88, val6 89, val6 90, val6 91, val6 92, val6 93, val7 94, val7 95, val7 96, val7 97, val7 98, val7 99, val7 100, val7 101, val7 102, val7 103, val8 104, val8 105, val8 106, val8 107, val8 108, val8 109, undef, undef, undef, undef, undef, undef, undef, undef, undef, undef, undef, undef, undef, undef, undef, undef, undef, undef, undef, undef, undef, undef, undef, undef, undef, undef, undef, undef, undef, undef, undef, undef, undef, undef, undef, undef, undef, undef, undef, undef, undef, undef, undef], []⟩) (fun val9 => by kernel_rfl) (fun val9 W9 hB hF => ⟨?_⟩)
 ·exact Dh rfl (fun _ => rfl) rfl (by kernel_rfl)
 have e14 : val9 14 =Ji Jl 3 :=hF 0 _ rfl;clear hF;generalize val9 14 =t14 at *
 subst e14;replace V0 :=Lh (fun w' (hb : Below W9.heap.size W9 w') => V0.out w' (Jd hB hb));replace V3 :=Lh (fun w' (hb : Below W9.heap.size W9 w') => V3.out w' (Jd hB hb));replace V4 :=Lh (fun w' (hb : Below W9.heap.size W9 w') => V4.out w' (Jd hB hb));replace V7 :=Lh (fun w' (hb : Below W9.heap.size W9 w') => V7.out w' (Jd hB hb));replace V9 :=Lh (fun w' (hb : Below W9.heap.size W9 w') => V9.out w' (Jd hB hb));replace V10 :=Lh (fun w' (hb : Below W9.heap.size W9 w') => V10.out w' (Jd hB hb));replace V12 :=Lh (fun w' (hb : Below W9.heap.size W9 w') => V12.out w' (Jd hB hb));replace K :=Lh (Jd K.out hB);replace G :=Lh (fun w' (hb : Below W9.heap.size W9 w') => G.out w' (Jd hB hb));clear hB;refine Last.nil (by kernel_rfl) ?_;go_upto_region 15 with fail
 refine E8 153 [(110, false, 0), (111, false, 0), (112, false, 0)] []
  [Fct.num [] 52 [(a0 * a3 + a1 * a4 + a2 * a5) / (a0 * a0 + a1 * a1 + a2 * a2)],
  Fct.val (Ji Jl 0),
  Fct.val (.bool true)]
  0 rfl (by kernel_rfl) rfl ⟨?_, ?_, ?_, trivial⟩
  (fun val10 => ⟨#[Ja #[Ji .i8 n0, Ji .i8 n1, Ji .i8 n2, Ji .i8 n3, Ji .i8 n4, Ji .i8 n5, Ji .u8 d], Jp (Jo ⟨w.heap.size, 0, Jn⟩), .bool false, Jp (Jo ⟨p3, 0, Jn⟩), Jp (Jo ⟨p4, 0, Jn⟩), undef, undef, Jp (Jo ⟨p7, 0, Jn⟩), Ji Jl 0, Jp (Jo ⟨p9, 0, Jn⟩), Jp (Jo ⟨p10, 0, Jn⟩), Ji Jl 0, Jp (Jo ⟨p12, 0, Jn⟩), Ji Jl 0, Ji Jl 3, .bool true, .bool false, val1 17, val1 18, val2 19, val2 20, .bool false, val3 22, val3 23, val3 24, val3 25, val3 26, val3 27, val3 28, val3 29, undef, undef, undef, undef, undef, undef, undef, undef, undef, undef, undef, undef, undef, undef, undef, undef, undef, undef, undef, .bool false, val4 50, val4 51, val4 52, undef, undef, undef, undef, undef, undef, undef, undef, undef, undef, undef, undef, undef, undef, undef, undef, undef, undef, undef, undef, undef, undef, undef, undef, undef, undef, undef, undef, undef, undef, val5 83, val5 84, val5 85, val5 86, val5 87, val5 88, val6 89, val6 90, val6 91, val6 92, val6 93, val7 94, val7 95, val7 96, val7 97, val7 98, val7 99, val7 100, val7 101, val7 102, val7 103, val8 104, val8 105, val8 106, val8 107, val8 108, val8 109, val10 110, val10 111, val10 112, undef, undef, undef, undef, undef, undef, undef, undef, undef, undef, undef, undef, undef, undef, undef, undef, undef, undef, undef, undef, undef, undef, undef, undef, undef, undef, undef, undef, undef, undef, undef, undef, undef, undef, undef, undef, undef, undef, undef, undef], []⟩) (fun val10 => by kernel_rfl) (fun val10 W10 hB hF => ⟨?_⟩)
 ·exact E7 V10.out (.env rfl (by kernel_rfl)) rfl rfl rfl (by kernel_rfl) (by kernel_rfl)
 ·exact EZ cf48 rfl rfl rfl rfl rfl (by kernel_rfl) (fun a v hB hE hD => FY (hD 0 _ (by kernel_rfl) rfl) (DZ hal _))
 ·exact Fm (op := .binOp .eql 3 (.tmp 111) (.const (Ji Jl 0)) 3) rfl rfl (fun _ => rfl) (.dep 1 rfl (by kernel_rfl)) rfl (by kernel_rfl) (fun a w e => by unfold execOp bare;dsimp only;rw[e];go_simp <;> rfl)
 have e112 : val10 112 = .bool true :=hF 2 _ rfl;clear hF;generalize val10 112 =t112 at *
 subst e112;replace V0 :=Lh (fun w' (hb : Below W10.heap.size W10 w') => V0.out w' (Jd hB hb));replace V3 :=Lh (fun w' (hb : Below W10.heap.size W10 w') => V3.out w' (Jd hB hb));replace V4 :=Lh (fun w' (hb : Below W10.heap.size W10 w') => V4.out w' (Jd hB hb));replace V7 :=Lh (fun w' (hb : Below W10.heap.size W10 w') => V7.out w' (Jd hB hb));replace V9 :=Lh (fun w' (hb : Below W10.heap.size W10 w') => V9.out w' (Jd hB hb));replace V10 :=Lh (fun w' (hb : Below W10.heap.size W10 w') => V10.out w' (Jd hB hb));replace V12 :=Lh (fun w' (hb : Below W10.heap.size W10 w') => V12.out w' (Jd hB hb));replace K :=Lh (Jd K.out hB);replace G :=Lh (fun w' (hb : Below W10.heap.size W10 w') => G.out w' (Jd hB hb));clear hB;refine Last.nil (by kernel_rfl) ?_;go_upto_region 16 with fail
 refine E8 153 [(14, false, 0)] []
  [Fct.val (Ji Jl 2)]
  0 rfl (by kernel_rfl) rfl ⟨?_, trivial⟩
  (fun val11 => ⟨#[Ja #[Ji .i8 n0, Ji .i8 n1, Ji .i8 n2, Ji .i8 n3, Ji .i8 n4, Ji .i8 n5, Ji .u8 d], Jp (Jo ⟨w.heap.size, 0, Jn⟩), .bool false, Jp (Jo ⟨p3, 0, Jn⟩), Jp (Jo ⟨p4, 0, Jn⟩), undef, undef, Jp (Jo ⟨p7, 0, Jn⟩), Ji Jl 0, Jp (Jo ⟨p9, 0, Jn⟩), Jp (Jo ⟨p10, 0, Jn⟩), Ji Jl 0, Jp (Jo ⟨p12, 0, Jn⟩), Ji Jl 0, val11 14, .bool true, .bool false, val1 17, val1 18, val2 19, val2 20, .bool false, val3 22, val3 23, val3 24, val3 25, val3 26, val3 27, val3 28, val3 29, undef, undef, undef, undef, undef, undef, undef, undef, undef, undef, undef, undef, undef, undef, undef, undef, undef, undef, undef, .bool false, val4 50, val4 51, val4 52, undef, undef, undef, undef, undef, undef, undef, undef, undef, undef, undef, undef, undef, undef, undef, undef, undef, undef, undef, undef, undef, undef, undef, undef, undef, undef, undef, undef, undef, undef, val5 83, val5 84, val5 85, val5 86, val5 87, val5 88, val6 89, val6 90, val6 91, val6 92, val6 93, val7 94, val7 95, val7 96, val7 97, val7 98, val7 99, val7 100, val7 101, val7 102, val7 103, val8 104, val8 105, val8 106, val8 107, val8 108, val8 109, val10 110, val10 111, .bool true, undef, undef, undef, undef, undef, undef, undef, undef, undef, undef, undef, undef, undef, undef, undef, undef, undef, undef, undef, undef, undef, undef, undef, undef, undef, undef, undef, undef, undef, undef, undef, undef, undef, undef, undef, undef, undef, undef, undef, undef], []⟩) (fun val11 => by kernel_rfl) (fun val11 W11 hB hF => ⟨?_⟩)
 ·exact Dh rfl (fun _ => rfl) rfl (by kernel_rfl)
 have e14 : val11 14 =Ji Jl 2 :=hF 0 _ rfl;clear hF;generalize val11 14 =t14 at *
 subst e14;replace V0 :=Lh (fun w' (hb : Below W11.heap.size W11 w') => V0.out w' (Jd hB hb));replace V3 :=Lh (fun w' (hb : Below W11.heap.size W11 w') => V3.out w' (Jd hB hb));replace V4 :=Lh (fun w' (hb : Below W11.heap.size W11 w') => V4.out w' (Jd hB hb));replace V7 :=Lh (fun w' (hb : Below W11.heap.size W11 w') => V7.out w' (Jd hB hb));replace V9 :=Lh (fun w' (hb : Below W11.heap.size W11 w') => V9.out w' (Jd hB hb));replace V10 :=Lh (fun w' (hb : Below W11.heap.size W11 w') => V10.out w' (Jd hB hb));replace V12 :=Lh (fun w' (hb : Below W11.heap.size W11 w') => V12.out w' (Jd hB hb));replace K :=Lh (Jd K.out hB);replace G :=Lh (fun w' (hb : Below W11.heap.size W11 w') => G.out w' (Jd hB hb));clear hB;refine Last.nil (by kernel_rfl) ?_;go_upto_region 17 with fail
 refine Fy 153 [(113, false, 0), (114, false, 0), (115, false, 0), (116, false, 0), (117, false, 0), (118, false, 0), (119, false, 0), (120, false, 0), (121, false, 0), (122, false, 0), (123, false, 0), (124, false, 0), (125, false, 0), (126, false, 0), (127, false, 0), (128, false, 0), (129, false, 0), (130, false, 0), (131, false, 0), (132, false, 0), (133, false, 0), (134, false, 0), (135, false, 0), (136, false, 0), (137, false, 0), (138, false, 0), (139, false, 0), (140, false, 0), (141, false, 0), (142, false, 0), (143, false, 0), (144, false, 0), (145, false, 0), (146, false, 0), (147, false, 0), (148, false, 0), (149, false, 0), (150, false, 0), (151, false, 0), (152, false, 0), (2, false, 0)] []
  [Fct.val (Ji Jl 0),
  Fct.val (.bool true),
  Fct.val (.bool true),
  Fct.val (Ji Jl 0),
  Fct.val (.bool true),
  Fct.val (.bool true),
  Fct.val (.bool true),
  Fct.val (Ji Jl 0),
  Fct.val (.bool true),
  Fct.val (.bool true),
  Fct.val (.bool true),
  Fct.val (Jp (Jo ⟨p4, 0, Jn⟩)),
  Fct.val (Ji Jl 2),
  Fct.val (Ji Jl 2),
  Fct.val (.bool true),
  Fct.val (.bool true),
  Fct.val (.bool true),
  Fct.val (Jp (Jo ⟨p4, 1, Jn⟩)),
  Fct.num [] 134 [pF a0 a1 a2 * a0, pF a0 a1 a2 * a1, pF a0 a1 a2 * a2],
  Fct.num [] 13 [pF a0 a1 a2 * a0, pF a0 a1 a2 * a1, pF a0 a1 a2 * a2],
  Fct.val (.bool true),
  Fct.val (.bool true),
  Fct.val (.bool true),
  Fct.val (Jp (Jo ⟨p4, 25, Jn⟩)),
  Fct.num [] 134 [0],
  Fct.num [] 52 [(a0 * a3 + a1 * a4 + a2 * a5)/(a0 * a0 + a1 * a1 + a2 * a2)],
  Fct.val (.bool true),
  Fct.val (.bool true),
  Fct.val (.bool true),
  Fct.val (Jp (Jo ⟨p4, 13, Jn⟩)),
  Fct.num [] 134 [(((1 : Int) : Rat)/(a0 * a0 + a1 * a1 + a2 * a2)) * (a1 * a5-a2 * a4), (((1 : Int) : Rat)/(a0 * a0 + a1 * a1 + a2 * a2)) * (a2 * a3-a0 * a5), (((1 : Int) : Rat)/(a0 * a0 + a1 * a1 + a2 * a2)) * (a0 * a4-a1 * a3)],
  Fct.val (Jp (Jo ⟨p3, 0, Jn⟩)),
  Fct.num [] 4 [a0, a1, a2],
  Fct.val (Jp (Jo ⟨p3, 12, Jn⟩)),
  Fct.num [] 4 [a3, a4, a5],
  Fct.num [] 17 [a1 * a5-a2 * a4, a2 * a3-a0 * a5, a0 * a4-a1 * a3],
  Fct.num [] 27 [((1 : Int) : Rat)/(a0 * a0 + a1 * a1 + a2 * a2)],
  Fct.num [] 44 [(((1 : Int) : Rat)/(a0 * a0 + a1 * a1 + a2 * a2)) * (a1 * a5-a2 * a4), (((1 : Int) : Rat)/(a0 * a0 + a1 * a1 + a2 * a2)) * (a2 * a3-a0 * a5), (((1 : Int) : Rat)/(a0 * a0 + a1 * a1 + a2 * a2)) * (a0 * a4-a1 * a3)],
  Fct.val (.bool true),
  Fct.val (.bool true),
  Fct.val (.bool true)]
  #[true, true, true, true, true, true, true, true, true, true, true, true, true, true, true, true, true, true, true, true, true, true, true, true, true, true, true, true, true, true, true, true, true, true, true, true, true, true, true, true, true] 0 rfl (by kernel_rfl) rfl (by kernel_rfl) ⟨?_, ?_, ?_, ?_, ?_, ?_, ?_, ?_, ?_, ?_, ?_, ?_, ?_, ?_, ?_, ?_, ?_, ?_, ?_, ?_, ?_, ?_, ?_, ?_, ?_, ?_, ?_, ?_, ?_, ?_, ?_, ?_, ?_, ?_, ?_, ?_, ?_, ?_, ?_, ?_, ?_, trivial⟩
  (fun val12 => ⟨#[Ja #[Ji .i8 n0, Ji .i8 n1, Ji .i8 n2, Ji .i8 n3, Ji .i8 n4, Ji .i8 n5, Ji .u8 d], Jp (Jo ⟨w.heap.size, 0, Jn⟩), val12 2, Jp (Jo ⟨p3, 0, Jn⟩), Jp (Jo ⟨p4, 0, Jn⟩), undef, undef, Jp (Jo ⟨p7, 0, Jn⟩), Ji Jl 0, Jp (Jo ⟨p9, 0, Jn⟩), Jp (Jo ⟨p10, 0, Jn⟩), Ji Jl 0, Jp (Jo ⟨p12, 0, Jn⟩), Ji Jl 0, Ji Jl 2, .bool true, .bool false, val1 17, val1 18, val2 19, val2 20, .bool false, val3 22, val3 23, val3 24, val3 25, val3 26, val3 27, val3 28, val3 29, undef, undef, undef, undef, undef, undef, undef, undef, undef, undef, undef, undef, undef, undef, undef, undef, undef, undef, undef, .bool false, val4 50, val4 51, val4 52, undef, undef, undef, undef, undef, undef, undef, undef, undef, undef, undef, undef, undef, undef, undef, undef, undef, undef, undef, undef, undef, undef, undef, undef, undef, undef, undef, undef, undef, undef, val5 83, val5 84, val5 85, val5 86, val5 87, val5 88, val6 89, val6 90, val6 91, val6 92, val6 93, val7 94, val7 95, val7 96, val7 97, val7 98, val7 99, val7 100, val7 101, val7 102, val7 103, val8 104, val8 105, val8 106, val8 107, val8 108, val8 109, val10 110, val10 111, .bool true, val12 113, val12 114, val12 115, val12 116, val12 117, val12 118, val12 119, val12 120, val12 121, val12 122, val12 123, val12 124, val12 125, val12 126, val12 127, val12 128, val12 129, val12 130, val12 131, val12 132, val12 133, val12 134, val12 135, val12 136, val12 137, val12 138, val12 139, val12 140, val12 141, val12 142, val12 143, val12 144, val12 145, val12 146, val12 147, val12 148, val12 149, val12 150, val12 151, val12 152], []⟩) (fun val12 => by kernel_rfl) (fun val12 W12 hB hF => ⟨?_⟩)
 ·exact Fh rfl rfl (.env rfl (by kernel_rfl)) rfl (by kernel_rfl)
 ·exact Fm (op := .binOp .eql 26 (.tmp 113) (.const (Ji Jl 0)) 26) rfl rfl (fun _ => rfl) (.dep 0 rfl (by kernel_rfl)) rfl (by kernel_rfl) (fun a w e => by unfold execOp bare;dsimp only;rw[e];go_simp <;> rfl)
 ·exact E5 1 rfl rfl rfl rfl (by kernel_rfl)
 ·exact Fh rfl rfl (.env rfl (by kernel_rfl)) ⟨true, rfl, rfl, by kernel_rfl, rfl⟩ (by kernel_rfl)
 ·exact Fm (op := .binOp .eql 26 (.tmp 116) (.const (Ji Jl 0)) 26) rfl rfl (fun _ => rfl) (.dep 3 rfl (by kernel_rfl)) ⟨true, rfl, rfl, by kernel_rfl, rfl⟩ (by kernel_rfl) (fun a w e => by unfold execOp bare;dsimp only;rw[e];go_simp <;> rfl)
 ·exact Fe 2 4 rfl rfl rfl rfl rfl (by kernel_rfl)
 ·exact E5 5 rfl rfl rfl rfl (by kernel_rfl)
 ·exact Fh rfl rfl (.env rfl (by kernel_rfl)) ⟨true, rfl, rfl, by kernel_rfl, rfl⟩ (by kernel_rfl)
 ·exact Fm (op := .binOp .eql 26 (.tmp 120) (.const (Ji Jl 0)) 26) rfl rfl (fun _ => rfl) (.dep 7 rfl (by kernel_rfl)) ⟨true, rfl, rfl, by kernel_rfl, rfl⟩ (by kernel_rfl) (fun a w e => by unfold execOp bare;dsimp only;rw[e];go_simp <;> rfl)
 ·exact Fe 6 8 rfl rfl rfl rfl rfl (by kernel_rfl)
 ·exact E5 9 rfl rfl rfl rfl (by kernel_rfl)
 ·exact E4 rfl rfl (.env rfl (by kernel_rfl)) ⟨true, rfl, rfl, by kernel_rfl, rfl⟩ (by kernel_rfl) (fun w => by go_simp)
 ·exact FW V4.out rfl (.dep 11 rfl (by kernel_rfl)) rfl rfl ⟨true, rfl, rfl, by kernel_rfl, rfl⟩ (by kernel_rfl) (by kernel_rfl)
 ·exact Fh rfl rfl (.env rfl (by kernel_rfl)) ⟨true, rfl, rfl, by kernel_rfl, rfl⟩ (by kernel_rfl)
 ·exact Dl (op := .binOp .eql 3 (.tmp 125) (.tmp 126) 3) rfl rfl (fun _ => rfl) (.dep 12 rfl (by kernel_rfl)) (.dep 13 rfl (by kernel_rfl)) ⟨true, rfl, rfl, by kernel_rfl, rfl⟩ (by kernel_rfl) (fun a w e e2 => by unfold execOp bare;dsimp only;rw[e, e2];go_simp <;> rfl)
 ·exact Fe 10 14 rfl rfl rfl rfl rfl (by kernel_rfl)
 ·exact E5 15 rfl rfl rfl rfl (by kernel_rfl)
 ·exact E4 rfl rfl (.env rfl (by kernel_rfl)) ⟨true, rfl, rfl, by kernel_rfl, rfl⟩ (by kernel_rfl) (fun w => by go_simp)
 ·exact E6 0 3 V4.out (.dep 17 rfl (by kernel_rfl)) rfl rfl ⟨true, rfl, rfl, by kernel_rfl, rfl⟩ (by kernel_rfl) (by kernel_rfl) (by kernel_rfl)
 ·exact E7 V7.out (.env rfl (by kernel_rfl)) rfl rfl ⟨true, rfl, rfl, by kernel_rfl, rfl⟩ (by kernel_rfl) (by kernel_rfl)
 ·exact EZ cf23 rfl rfl rfl rfl ⟨true, rfl, rfl, by kernel_rfl, rfl⟩ (by kernel_rfl) (fun a v hB hE hD => FX (hD 18 _ (by kernel_rfl) rfl) (hD 19 _ (by kernel_rfl) rfl) rfl rfl rfl (by kernel_rfl))
 ·exact Fe 16 20 rfl rfl rfl rfl rfl (by kernel_rfl)
 ·exact E5 21 rfl rfl rfl rfl (by kernel_rfl)
 ·exact E4 rfl rfl (.env rfl (by kernel_rfl)) ⟨true, rfl, rfl, by kernel_rfl, rfl⟩ (by kernel_rfl) (fun w => by go_simp)
 ·exact E6 6 1 V4.out (.dep 23 rfl (by kernel_rfl)) rfl rfl ⟨true, rfl, rfl, by kernel_rfl, rfl⟩ (by kernel_rfl) (by kernel_rfl) (by kernel_rfl)
 ·exact E7 V10.out (.env rfl (by kernel_rfl)) rfl rfl ⟨true, rfl, rfl, by kernel_rfl, rfl⟩ (by kernel_rfl) (by kernel_rfl)
 ·exact EZ cf34 rfl rfl rfl rfl ⟨true, rfl, rfl, by kernel_rfl, rfl⟩ (by kernel_rfl) (fun a v hB hE hD => DV (hD 24 _ (by kernel_rfl) rfl) (hD 25 _ (by kernel_rfl) rfl) (DD hal _) (by kernel_rfl) (G.out v hB))
 ·exact Fe 22 26 rfl rfl rfl rfl rfl (by kernel_rfl)
 ·exact E5 27 rfl rfl rfl rfl (by kernel_rfl)
 ·exact E4 rfl rfl (.env rfl (by kernel_rfl)) ⟨true, rfl, rfl, by kernel_rfl, rfl⟩ (by kernel_rfl) (fun w => by go_simp)
 ·exact E6 3 3 V4.out (.dep 29 rfl (by kernel_rfl)) rfl rfl ⟨true, rfl, rfl, by kernel_rfl, rfl⟩ (by kernel_rfl) (by kernel_rfl) (by kernel_rfl)
 ·exact E4 rfl rfl (.env rfl (by kernel_rfl)) ⟨true, rfl, rfl, by kernel_rfl, rfl⟩ (by kernel_rfl) (fun w => by go_simp)
 ·exact E6 0 3 V3.out (.dep 31 rfl (by kernel_rfl)) rfl rfl ⟨true, rfl, rfl, by kernel_rfl, rfl⟩ (by kernel_rfl) (by kernel_rfl) (by kernel_rfl)
 ·exact E4 rfl rfl (.env rfl (by kernel_rfl)) ⟨true, rfl, rfl, by kernel_rfl, rfl⟩ (by kernel_rfl) (fun w => by go_simp)
 ·exact E6 3 3 V3.out (.dep 33 rfl (by kernel_rfl)) rfl rfl ⟨true, rfl, rfl, by kernel_rfl, rfl⟩ (by kernel_rfl) (by kernel_rfl) (by kernel_rfl)
 ·exact EZ cf32 rfl rfl rfl rfl ⟨true, rfl, rfl, by kernel_rfl, rfl⟩ (by kernel_rfl) (fun a v hB hE hD => FO (hD 32 _ (by kernel_rfl) rfl) (hD 34 _ (by kernel_rfl) rfl) (by kernel_rfl) (G.out v hB))
 ·exact E7 V12.out (.env rfl (by kernel_rfl)) rfl rfl ⟨true, rfl, rfl, by kernel_rfl, rfl⟩ (by kernel_rfl) (by kernel_rfl)
 ·exact EZ cf52 rfl rfl rfl rfl ⟨true, rfl, rfl, by kernel_rfl, rfl⟩ (by kernel_rfl) (fun a v hB hE hD => Da (hD 35 _ (by kernel_rfl) rfl) (hD 36 _ (by kernel_rfl) rfl) (by kernel_rfl) (G.out v hB))
 ·exact EZ cf23 rfl rfl rfl rfl ⟨true, rfl, rfl, by kernel_rfl, rfl⟩ (by kernel_rfl) (fun a v hB hE hD => FX (hD 30 _ (by kernel_rfl) rfl) (hD 37 _ (by kernel_rfl) rfl) rfl rfl rfl (by kernel_rfl))
 ·exact Fe 28 38 rfl rfl rfl rfl rfl (by kernel_rfl)
 ·exact E5 39 rfl rfl rfl rfl (by kernel_rfl)
 have e2 : val12 2 = .bool true :=hF 40 _ rfl;clear hF;generalize val12 2 =t2 at *
 subst e2;replace V0 :=Lh (fun w' (hb : Below W12.heap.size W12 w') => V0.out w' (Jd hB hb));replace V3 :=Lh (fun w' (hb : Below W12.heap.size W12 w') => V3.out w' (Jd hB hb));replace V4 :=Lh (fun w' (hb : Below W12.heap.size W12 w') => V4.out w' (Jd hB hb));replace V7 :=Lh (fun w' (hb : Below W12.heap.size W12 w') => V7.out w' (Jd hB hb));replace V9 :=Lh (fun w' (hb : Below W12.heap.size W12 w') => V9.out w' (Jd hB hb));replace V10 :=Lh (fun w' (hb : Below W12.heap.size W12 w') => V10.out w' (Jd hB hb));replace V12 :=Lh (fun w' (hb : Below W12.heap.size W12 w') => V12.out w' (Jd hB hb));replace K :=Lh (Jd K.out hB);replace G :=Lh (fun w' (hb : Below W12.heap.size W12 w') => G.out w' (Jd hB hb));clear hB;refine Last.nil (by kernel_rfl) ?_;clear G V0 V3 V4 V7 V9 V10 V12;go_wp2_with fail
 exact bodyPost_ret (v := .bool true) (by simp[results, Tryz.results9, go_sem]) rfl ⟨_, rfl, K.out, rfl⟩
set_option maxRecDepth 100000 in
set_option maxHeartbeats 16000000 in
theorem D9{n0 n1 n2 n3 n4 n5 d r σ τ : Int}{w : JW}(s1 : S6 n0 n1 n2 n3 n4 n5 d r)(hz : Xv (tq n0 r) (tq n1 r) (tq n2 r) =false)(hal : sgn ((tq n0 r) * (tq n3 r) + (tq n1 r) * (tq n4 r) + (tq n2 r) * (tq n5 r)).num =σ)(hne : (σ !=0) =true)(hne2 : (σ ==0) =false)(ht : sgn (((tq n0 r) * (tq n3 r) + (tq n1 r) * (tq n4 r) + (tq n2 r) * (tq n5 r))/((tq n0 r) * (tq n0 r) + (tq n1 r) * (tq n1 r) + (tq n2 r) * (tq n2 r))).num =τ)(hte : (τ ==0) =false)(hg : Good w) :
  Calls Tryz.prog 9 #[Ja #[Ji .i8 n0, Ji .i8 n1, Ji .i8 n2, Ji .i8 n3, Ji .i8 n4, Ji .i8 n5, Ji .u8 d]] w (Ret w (Fct.val (.bool true))) :=by
 obtain⟨a0, ha0⟩ : ∃q, tq n0 r =q :=⟨_, rfl⟩;obtain⟨a1, ha1⟩ : ∃q, tq n1 r =q :=⟨_, rfl⟩;obtain⟨a2, ha2⟩ : ∃q, tq n2 r =q :=⟨_, rfl⟩;obtain⟨a3, ha3⟩ : ∃q, tq n3 r =q :=⟨_, rfl⟩;obtain⟨a4, ha4⟩ : ∃q, tq n4 r =q :=⟨_, rfl⟩;obtain⟨a5, ha5⟩ : ∃q, tq n5 r =q :=⟨_, rfl⟩;have Ha :=fun(v : JW) (hg : Good v) => c_of (w :=v) s1 hg;rw[ha0, ha1, ha2, ha3, ha4, ha5]at Ha;replace Ha :=Lh Ha;simp only[ha0, ha1, ha2, ha3, ha4, ha5]at hz hal ht;have hd :=Dm (DQ hz);clear s1 ha0 ha1 ha2 ha3 ha4 ha5;have k0 :=(Below.refl w.heap.size w).alloc (N0 _) (Jc #[Ji .i8 n0, Ji .i8 n1, Ji .i8 n2, Ji .i8 n3, Ji .i8 n4, Ji .i8 n5, Ji .u8 d] 53);have V0 :=Jh.new w #[Ji .i8 n0, Ji .i8 n1, Ji .i8 n2, Ji .i8 n3, Ji .i8 n4, Ji .i8 n5, Ji .u8 d] 53;obtain⟨W, hW⟩ : ∃W, w.alloc (Jc #[Ji .i8 n0, Ji .i8 n1, Ji .i8 n2, Ji .i8 n3, Ji .i8 n4, Ji .i8 n5, Ji .u8 d] 53) =W :=⟨_, rfl⟩;rw[hW]at k0 V0;replace V0 :=Lh (fun w' (hb : Below W.heap.size W w') => (V0.keep hb));have K :=Lh k0;have G :=Lh (fun w' (hb : Below W.heap.size W w') => hg.below (k0.trans (hb.mono k0.size)));clear hg k0;go_enter Tryz.func9, Tryz.ntmps9;go_upto_region 1 with fail
 try simp only[hW]
 clear hW;refine E8 153 [(15, false, 0), (16, false, 0)] []
  [Fct.val (.bool true),
  Fct.val (.bool false)]
  0 rfl (by kernel_rfl) rfl ⟨?_, ?_, trivial⟩
  (fun val0 => ⟨#[Ja #[Ji .i8 n0, Ji .i8 n1, Ji .i8 n2, Ji .i8 n3, Ji .i8 n4, Ji .i8 n5, Ji .u8 d], Jp (Jo ⟨w.heap.size, 0, Jn⟩), .bool false, undef, undef, undef, undef, undef, undef, undef, undef, undef, undef, undef, undef, val0 15, val0 16, undef, undef, undef, undef, undef, undef, undef, undef, undef, undef, undef, undef, undef, undef, undef, undef, undef, undef, undef, undef, undef, undef, undef, undef, undef, undef, undef, undef, undef, undef, undef, undef, undef, undef, undef, undef, undef, undef, undef, undef, undef, undef, undef, undef, undef, undef, undef, undef, undef, undef, undef, undef, undef, undef, undef, undef, undef, undef, undef, undef, undef, undef, undef, undef, undef, undef, undef, undef, undef, undef, undef, undef, undef, undef, undef, undef, undef, undef, undef, undef, undef, undef, undef, undef, undef, undef, undef, undef, undef, undef, undef, undef, undef, undef, undef, undef, undef, undef, undef, undef, undef, undef, undef, undef, undef, undef, undef, undef, undef, undef, undef, undef, undef, undef, undef, undef, undef, undef, undef, undef, undef, undef, undef, undef, undef, undef, undef, undef, undef, undef, undef, undef, undef, undef, undef, undef], []⟩) (fun val0 => by kernel_rfl) (fun val0 W0 hB hF => ⟨?_⟩)
 ·exact EZ cf13 rfl rfl rfl rfl rfl (by kernel_rfl) (fun a v hB hE hD => FG (G.out v hB))
 ·exact Fm (op := .unOp .not 4 (.tmp 15)) rfl rfl (fun _ => rfl) (.dep 0 rfl (by kernel_rfl)) rfl (by kernel_rfl) (fun a w e => by unfold execOp bare;dsimp only;rw[e];go_simp <;> rfl)
 have e15 : val0 15 = .bool true :=hF 0 _ rfl;have e16 : val0 16 = .bool false :=hF 1 _ rfl;clear hF;generalize val0 15 =t15 at *
 generalize val0 16 =t16 at *
 subst e15 e16;replace V0 :=Lh (fun w' (hb : Below W0.heap.size W0 w') => V0.out w' (Jd hB hb));replace K :=Lh (Jd K.out hB);replace G :=Lh (fun w' (hb : Below W0.heap.size W0 w') => G.out w' (Jd hB hb));clear hB;refine Last.nil (by kernel_rfl) ?_;go_upto_region 3 with fail
 refine E8 153 [(17, false, 0), (18, false, 0), (3, false, 0), (3, true, 2)] [2]
  [Fct.val (Ja #[Ji .i8 n0, Ji .i8 n1, Ji .i8 n2, Ji .i8 n3, Ji .i8 n4, Ji .i8 n5, Ji .u8 d]),
  Fct.num [] 4 [a0, a1, a2, a3, a4, a5],
  Fct.ptr 24,
  Fct.var [] 4 [a0, a1, a2, a3, a4, a5]]
  0 rfl (by kernel_rfl) rfl ⟨?_, ?_, ?_, ?_, trivial⟩
  (fun val1 => ⟨#[Ja #[Ji .i8 n0, Ji .i8 n1, Ji .i8 n2, Ji .i8 n3, Ji .i8 n4, Ji .i8 n5, Ji .u8 d], Jp (Jo ⟨w.heap.size, 0, Jn⟩), .bool false, val1 3, undef, undef, undef, undef, undef, undef, undef, undef, undef, undef, undef, .bool true, .bool false, val1 17, val1 18, undef, undef, undef, undef, undef, undef, undef, undef, undef, undef, undef, undef, undef, undef, undef, undef, undef, undef, undef, undef, undef, undef, undef, undef, undef, undef, undef, undef, undef, undef, undef, undef, undef, undef, undef, undef, undef, undef, undef, undef, undef, undef, undef, undef, undef, undef, undef, undef, undef, undef, undef, undef, undef, undef, undef, undef, undef, undef, undef, undef, undef, undef, undef, undef, undef, undef, undef, undef, undef, undef, undef, undef, undef, undef, undef, undef, undef, undef, undef, undef, undef, undef, undef, undef, undef, undef, undef, undef, undef, undef, undef, undef, undef, undef, undef, undef, undef, undef, undef, undef, undef, undef, undef, undef, undef, undef, undef, undef, undef, undef, undef, undef, undef, undef, undef, undef, undef, undef, undef, undef, undef, undef, undef, undef, undef, undef, undef, undef, undef, undef, undef, undef, undef, undef], []⟩) (fun val1 => by kernel_rfl) (fun val1 W1 hB hF => ⟨?_⟩)
 ·exact Fk 7 V0.out (.env rfl (by kernel_rfl)) rfl rfl rfl (by kernel_rfl) (by kernel_rfl) rfl (by kernel_rfl)
 ·exact EZ cf21 rfl rfl rfl rfl rfl (by kernel_rfl) (fun a v hB hE hD => (show Calls _ _ #[Act.at_ a 17] v _ from by rw[show Act.at_ a 17 =_ from hD 0 _ (by kernel_rfl) rfl];exact Ha.out v (G.out v hB)))
 ·exact Fb [Ji Jl 0, Jp Jn, Ji Jl 0, Jp Jn, Ji Jl 0, Jp Jn, Ji Jl 0, Jp Jn, Ji Jl 0, Jp Jn, Ji Jl 0, Jp Jn, Ji Jl 0, Jp Jn, Ji Jl 0, Jp Jn, Ji Jl 0, Jp Jn, Ji Jl 0, Jp Jn, Ji Jl 0, Jp Jn, Ji Jl 0, Jp Jn] 37 rfl rfl rfl (by kernel_rfl) (by kernel_rfl) (fun a w => by go_simp)
 ·exact E9 2 1 rfl rfl rfl rfl rfl (by kernel_rfl) (by kernel_rfl)
 obtain⟨p3, e3, V3⟩ : (Fct.var [] 4 [a0, a1, a2, a3, a4, a5]).P W1 (val1 3) :=hF 3 _ rfl;clear hF;generalize val1 3 =t3 at *
 subst e3;replace V0 :=Lh (fun w' (hb : Below W1.heap.size W1 w') => V0.out w' (Jd hB hb));replace V3 :=Lh (fun w' (hb : Below W1.heap.size W1 w') => V3.keep hb);replace K :=Lh (Jd K.out hB);replace G :=Lh (fun w' (hb : Below W1.heap.size W1 w') => G.out w' (Jd hB hb));clear hB;refine Last.nil (by kernel_rfl) ?_;go_upto_region 4 with fail
 refine E8 153 [(19, false, 0), (20, false, 0), (4, false, 0), (4, true, 2)] [2]
  [Fct.num [] 4 [a0, a1, a2, a3, a4, a5],
  Fct.num [Ji Jl 3] 161 [pF a0 a1 a2 * a0, pF a0 a1 a2 * a1, pF a0 a1 a2 * a2, (((1 : Int) : Rat)/(a0 * a0 + a1 * a1 + a2 * a2)) * (a1 * a5-a2 * a4), (((1 : Int) : Rat)/(a0 * a0 + a1 * a1 + a2 * a2)) * (a2 * a3-a0 * a5), (((1 : Int) : Rat)/(a0 * a0 + a1 * a1 + a2 * a2)) * (a0 * a4-a1 * a3), (a0 * a3 + a1 * a4 + a2 * a5) * (((1 : Int) : Rat)/(a0 * a0 + a1 * a1 + a2 * a2))],
  Fct.ptr 29,
  Fct.var [Ji Jl 3] 161 [pF a0 a1 a2 * a0, pF a0 a1 a2 * a1, pF a0 a1 a2 * a2, (((1 : Int) : Rat) / (a0 * a0 + a1 * a1 + a2 * a2)) * (a1 * a5 - a2 * a4), (((1 : Int) : Rat) / (a0 * a0 + a1 * a1 + a2 * a2)) * (a2 * a3 - a0 * a5), (((1 : Int) : Rat) / (a0 * a0 + a1 * a1 + a2 * a2)) * (a0 * a4 - a1 * a3), (a0 * a3 + a1 * a4 + a2 * a5) * (((1 : Int) : Rat) / (a0 * a0 + a1 * a1 + a2 * a2))]]
  0 rfl (by kernel_rfl) rfl ⟨?_, ?_, ?_, ?_, trivial⟩
  (fun val2 => ⟨#[Ja #[Ji .i8 n0, Ji .i8 n1, Ji .i8 n2, Ji .i8 n3, Ji .i8 n4, Ji .i8 n5, Ji .u8 d], Jp (Jo ⟨w.heap.size, 0, Jn⟩), .bool false, Jp (Jo ⟨p3, 0, Jn⟩), val2 4, undef, undef, undef, undef, undef, undef, undef, undef, undef, undef, .bool true, .bool false, val1 17, val1 18, val2 19, val2 20, undef, undef, undef, undef, undef, undef, undef, undef, undef, undef, undef, undef, undef, undef, undef, undef, undef, undef, undef, undef, undef, undef, undef, undef, undef, undef, undef, undef, undef, undef, undef, undef, undef, undef, undef, undef, undef, undef, undef, undef, undef, undef, undef, undef, undef, undef, undef, undef, undef, undef, undef, undef, undef, undef, undef, undef, undef, undef, undef, undef, undef, undef, undef, undef, undef, undef, undef, undef, undef, undef, undef, undef, undef, undef, undef, undef, undef, undef, undef, undef, undef, undef, undef, undef, undef, undef, undef, undef, undef, undef, undef, undef, undef, undef, undef, undef, undef, undef, undef, undef, undef, undef, undef, undef, undef, undef, undef, undef, undef, undef, undef, undef, undef, undef, undef, undef, undef, undef, undef, undef, undef, undef, undef, undef, undef, undef, undef, undef, undef, undef, undef, undef], []⟩) (fun val2 => by kernel_rfl) (fun val2 W2 hB hF => ⟨?_⟩)
 ·exact E7 V3.out (.env rfl (by kernel_rfl)) rfl rfl rfl (by kernel_rfl) (by kernel_rfl)
 ·exact EZ cf47 rfl rfl rfl rfl rfl (by kernel_rfl) (fun a v hB hE hD => DY (σ :=σ) (Num.up (hD 0 _ (by kernel_rfl) rfl) (by decide)) hz hal hne hne2 (G.out v hB))
 ·exact Fb [Ji Jl 0, Ji Jl 0, Jp Jn, Ji Jl 0, Jp Jn, Ji Jl 0, Jp Jn, Ji Jl 0, Jp Jn, Ji Jl 0, Jp Jn, Ji Jl 0, Jp Jn, Ji Jl 0, Jp Jn, Ji Jl 0, Jp Jn, Ji Jl 0, Jp Jn, Ji Jl 0, Jp Jn, Ji Jl 0, Jp Jn, Ji Jl 0, Jp Jn, Ji Jl 0, Jp Jn, Ji Jl 0, Jp Jn] 90 rfl rfl rfl (by kernel_rfl) (by kernel_rfl) (fun a w => by go_simp)
 ·exact E9 2 1 rfl rfl rfl rfl rfl (by kernel_rfl) (by kernel_rfl)
 obtain⟨p4, e4, V4⟩ : (Fct.var [Ji Jl 3] 161 [pF a0 a1 a2 * a0, pF a0 a1 a2 * a1, pF a0 a1 a2 * a2, (((1 : Int) : Rat)/(a0 * a0 + a1 * a1 + a2 * a2)) * (a1 * a5-a2 * a4), (((1 : Int) : Rat)/(a0 * a0 + a1 * a1 + a2 * a2)) * (a2 * a3-a0 * a5), (((1 : Int) : Rat)/(a0 * a0 + a1 * a1 + a2 * a2)) * (a0 * a4-a1 * a3), (a0 * a3 + a1 * a4 + a2 * a5) * (((1 : Int) : Rat)/(a0 * a0 + a1 * a1 + a2 * a2))]).P W2 (val2 4) :=hF 3 _ rfl;clear hF;generalize val2 4 =t4 at *
 subst e4;replace V0 :=Lh (fun w' (hb : Below W2.heap.size W2 w') => V0.out w' (Jd hB hb));replace V3 :=Lh (fun w' (hb : Below W2.heap.size W2 w') => V3.out w' (Jd hB hb));replace V4 :=Lh (fun w' (hb : Below W2.heap.size W2 w') => V4.keep hb);replace K :=Lh (Jd K.out hB);replace G :=Lh (fun w' (hb : Below W2.heap.size W2 w') => G.out w' (Jd hB hb));clear hB;refine Last.nil (by kernel_rfl) ?_;go_upto_region 5 with fail
 refine E8 153 [(22, false, 0), (23, false, 0), (24, false, 0), (25, false, 0), (26, false, 0), (27, false, 0), (28, false, 0), (29, false, 0), (21, false, 0)] []
  [Fct.val (Jp (Jo ⟨p3, 0, Jn⟩)),
  Fct.num [] 4 [a0, a1, a2],
  Fct.val (.bool false),
  Fct.val (.bool false),
  Fct.val (undef),
  Fct.val (undef),
  Fct.val (undef),
  Fct.val (.bool false),
  Fct.val (.bool false)]
  0 rfl (by kernel_rfl) rfl ⟨?_, ?_, ?_, ?_, ?_, ?_, ?_, ?_, ?_, trivial⟩
  (fun val3 => ⟨#[Ja #[Ji .i8 n0, Ji .i8 n1, Ji .i8 n2, Ji .i8 n3, Ji .i8 n4, Ji .i8 n5, Ji .u8 d], Jp (Jo ⟨w.heap.size, 0, Jn⟩), .bool false, Jp (Jo ⟨p3, 0, Jn⟩), Jp (Jo ⟨p4, 0, Jn⟩), undef, undef, undef, undef, undef, undef, undef, undef, undef, undef, .bool true, .bool false, val1 17, val1 18, val2 19, val2 20, val3 21, val3 22, val3 23, val3 24, val3 25, val3 26, val3 27, val3 28, val3 29, undef, undef, undef, undef, undef, undef, undef, undef, undef, undef, undef, undef, undef, undef, undef, undef, undef, undef, undef, undef, undef, undef, undef, undef, undef, undef, undef, undef, undef, undef, undef, undef, undef, undef, undef, undef, undef, undef, undef, undef, undef, undef, undef, undef, undef, undef, undef, undef, undef, undef, undef, undef, undef, undef, undef, undef, undef, undef, undef, undef, undef, undef, undef, undef, undef, undef, undef, undef, undef, undef, undef, undef, undef, undef, undef, undef, undef, undef, undef, undef, undef, undef, undef, undef, undef, undef, undef, undef, undef, undef, undef, undef, undef, undef, undef, undef, undef, undef, undef, undef, undef, undef, undef, undef, undef, undef, undef, undef, undef, undef, undef, undef, undef, undef, undef, undef, undef, undef, undef, undef, undef, undef, undef], []⟩) (fun val3 => by kernel_rfl) (fun val3 W3 hB hF => ⟨?_⟩)
 ·exact E4 rfl rfl (.env rfl (by kernel_rfl)) rfl (by kernel_rfl) (fun w => by go_simp)
 ·exact E6 0 3 V3.out (.dep 0 rfl (by kernel_rfl)) rfl rfl rfl (by kernel_rfl) (by kernel_rfl) (by kernel_rfl)
 ·exact EZ cf18 rfl rfl rfl rfl rfl (by kernel_rfl) (fun a v hB hE hD => Ft (hD 1 _ (by kernel_rfl) rfl) hz (by kernel_rfl))
 ·exact E5 2 rfl rfl rfl rfl (by kernel_rfl)
 ·exact FC rfl ⟨false, rfl, rfl, by kernel_rfl, rfl⟩ (by kernel_rfl)
 ·exact FC rfl ⟨false, rfl, rfl, by kernel_rfl, rfl⟩ (by kernel_rfl)
 ·exact FC rfl ⟨false, rfl, rfl, by kernel_rfl, rfl⟩ (by kernel_rfl)
 ·exact Dx 3 rfl rfl rfl rfl (by kernel_rfl)
 ·exact E5 7 rfl rfl rfl rfl (by kernel_rfl)
 have e21 : val3 21 = .bool false :=hF 8 _ rfl;clear hF;generalize val3 21 =t21 at *
 subst e21;replace V0 :=Lh (fun w' (hb : Below W3.heap.size W3 w') => V0.out w' (Jd hB hb));replace V3 :=Lh (fun w' (hb : Below W3.heap.size W3 w') => V3.out w' (Jd hB hb));replace V4 :=Lh (fun w' (hb : Below W3.heap.size W3 w') => V4.out w' (Jd hB hb));replace K :=Lh (Jd K.out hB);replace G :=Lh (fun w' (hb : Below W3.heap.size W3 w') => G.out w' (Jd hB hb));clear hB;refine Last.nil (by kernel_rfl) ?_;go_upto_region 7 with fail
 refine E8 153 [(50, false, 0), (51, false, 0), (52, false, 0), (49, false, 0)] []
  [Fct.val (Jp (Jo ⟨p3, 0, Jn⟩)),
  Fct.num [] 4 [a0, a1, a2],
  Fct.val (.bool false),
  Fct.val (.bool false)]
  0 rfl (by kernel_rfl) rfl ⟨?_, ?_, ?_, ?_, trivial⟩
  (fun val4 => ⟨#[Ja #[Ji .i8 n0, Ji .i8 n1, Ji .i8 n2, Ji .i8 n3, Ji .i8 n4, Ji .i8 n5, Ji .u8 d], Jp (Jo ⟨w.heap.size, 0, Jn⟩), .bool false, Jp (Jo ⟨p3, 0, Jn⟩), Jp (Jo ⟨p4, 0, Jn⟩), undef, undef, undef, undef, undef, undef, undef, undef, undef, undef, .bool true, .bool false, val1 17, val1 18, val2 19, val2 20, .bool false, val3 22, val3 23, val3 24, val3 25, val3 26, val3 27, val3 28, val3 29, undef, undef, undef, undef, undef, undef, undef, undef, undef, undef, undef, undef, undef, undef, undef, undef, undef, undef, undef, val4 49, val4 50, val4 51, val4 52, undef, undef, undef, undef, undef, undef, undef, undef, undef, undef, undef, undef, undef, undef, undef, undef, undef, undef, undef, undef, undef, undef, undef, undef, undef, undef, undef, undef, undef, undef, undef, undef, undef, undef, undef, undef, undef, undef, undef, undef, undef, undef, undef, undef, undef, undef, undef, undef, undef, undef, undef, undef, undef, undef, undef, undef, undef, undef, undef, undef, undef, undef, undef, undef, undef, undef, undef, undef, undef, undef, undef, undef, undef, undef, undef, undef, undef, undef, undef, undef, undef, undef, undef, undef, undef, undef, undef, undef, undef, undef, undef, undef, undef, undef, undef, undef, undef, undef, undef, undef], []⟩) (fun val4 => by kernel_rfl) (fun val4 W4 hB hF => ⟨?_⟩)
 ·exact E4 rfl rfl (.env rfl (by kernel_rfl)) rfl (by kernel_rfl) (fun w => by go_simp)
 ·exact E6 0 3 V3.out (.dep 0 rfl (by kernel_rfl)) rfl rfl rfl (by kernel_rfl) (by kernel_rfl) (by kernel_rfl)
 ·exact EZ cf18 rfl rfl rfl rfl rfl (by kernel_rfl) (fun a v hB hE hD => Ft (hD 1 _ (by kernel_rfl) rfl) hz (by kernel_rfl))
 ·exact E5 2 rfl rfl rfl rfl (by kernel_rfl)
 have e49 : val4 49 = .bool false :=hF 3 _ rfl;clear hF;generalize val4 49 =t49 at *
 subst e49;replace V0 :=Lh (fun w' (hb : Below W4.heap.size W4 w') => V0.out w' (Jd hB hb));replace V3 :=Lh (fun w' (hb : Below W4.heap.size W4 w') => V3.out w' (Jd hB hb));replace V4 :=Lh (fun w' (hb : Below W4.heap.size W4 w') => V4.out w' (Jd hB hb));replace K :=Lh (Jd K.out hB);replace G :=Lh (fun w' (hb : Below W4.heap.size W4 w') => G.out w' (Jd hB hb));clear hB;refine Last.nil (by kernel_rfl) ?_;go_upto_region 10 with fail
 refine E8 153 [(84, false, 0), (85, false, 0), (86, false, 0), (83, false, 0), (87, false, 0), (88, false, 0), (7, false, 0), (7, true, 6), (8, false, 0)] [6]
  [Fct.val (Jp (Jo ⟨p3, 0, Jn⟩)),
  Fct.num [] 4 [a0, a1, a2],
  Fct.made 0 13 [pF a0 a1 a2 * a0, pF a0 a1 a2 * a1, pF a0 a1 a2 * a2],
  Fct.made 0 13 [pF a0 a1 a2 * a0, pF a0 a1 a2 * a1, pF a0 a1 a2 * a2],
  Fct.num [] 13 [pF a0 a1 a2 * a0, pF a0 a1 a2 * a1, pF a0 a1 a2 * a2],
  Fct.val (Ji Jl 0),
  Fct.ptr 12,
  Fct.var [] 13 [pF a0 a1 a2 * a0, pF a0 a1 a2 * a1, pF a0 a1 a2 * a2],
  Fct.val (Ji Jl 0)]
  0 rfl (by kernel_rfl) rfl ⟨?_, ?_, ?_, ?_, ?_, ?_, ?_, ?_, ?_, trivial⟩
  (fun val5 => ⟨#[Ja #[Ji .i8 n0, Ji .i8 n1, Ji .i8 n2, Ji .i8 n3, Ji .i8 n4, Ji .i8 n5, Ji .u8 d], Jp (Jo ⟨w.heap.size, 0, Jn⟩), .bool false, Jp (Jo ⟨p3, 0, Jn⟩), Jp (Jo ⟨p4, 0, Jn⟩), undef, undef, val5 7, val5 8, undef, undef, undef, undef, undef, undef, .bool true, .bool false, val1 17, val1 18, val2 19, val2 20, .bool false, val3 22, val3 23, val3 24, val3 25, val3 26, val3 27, val3 28, val3 29, undef, undef, undef, undef, undef, undef, undef, undef, undef, undef, undef, undef, undef, undef, undef, undef, undef, undef, undef, .bool false, val4 50, val4 51, val4 52, undef, undef, undef, undef, undef, undef, undef, undef, undef, undef, undef, undef, undef, undef, undef, undef, undef, undef, undef, undef, undef, undef, undef, undef, undef, undef, undef, undef, undef, undef, val5 83, val5 84, val5 85, val5 86, val5 87, val5 88, undef, undef, undef, undef, undef, undef, undef, undef, undef, undef, undef, undef, undef, undef, undef, undef, undef, undef, undef, undef, undef, undef, undef, undef, undef, undef, undef, undef, undef, undef, undef, undef, undef, undef, undef, undef, undef, undef, undef, undef, undef, undef, undef, undef, undef, undef, undef, undef, undef, undef, undef, undef, undef, undef, undef, undef, undef, undef, undef, undef, undef, undef, undef, undef], []⟩) (fun val5 => by kernel_rfl) (fun val5 W5 hB hF => ⟨?_⟩)
 ·exact E4 rfl rfl (.env rfl (by kernel_rfl)) rfl (by kernel_rfl) (fun w => by go_simp)
 ·exact E6 0 3 V3.out (.dep 0 rfl (by kernel_rfl)) rfl rfl rfl (by kernel_rfl) (by kernel_rfl) (by kernel_rfl)
 ·exact EZ cf49 rfl rfl rfl rfl rfl (by kernel_rfl) (fun a v hB hE hD => Dp (hD 1 _ (by kernel_rfl) rfl) hz (by kernel_rfl) (G.out v hB))
 ·exact E5 2 rfl rfl rfl rfl (by kernel_rfl)
 ·exact Fx 3 rfl rfl rfl rfl (by kernel_rfl)
 ·exact Fw 3 rfl rfl rfl rfl (by kernel_rfl)
 ·exact Fb [Ji Jl 0, Jp Jn, Ji Jl 0, Jp Jn, Ji Jl 0, Jp Jn, Ji Jl 0, Jp Jn, Ji Jl 0, Jp Jn, Ji Jl 0, Jp Jn] 35 rfl rfl rfl (by kernel_rfl) (by kernel_rfl) (fun a w => by go_simp)
 ·exact E9 6 4 rfl rfl rfl rfl rfl (by kernel_rfl) (by kernel_rfl)
 ·exact E5 5 rfl rfl rfl rfl (by kernel_rfl)
 obtain⟨p7, e7, V7⟩ : (Fct.var [] 13 [pF a0 a1 a2 * a0, pF a0 a1 a2 * a1, pF a0 a1 a2 * a2]).P W5 (val5 7) :=hF 7 _ rfl;have e8 : val5 8 =Ji Jl 0 :=hF 8 _ rfl;clear hF;generalize val5 7 =t7 at *
 generalize val5 8 =t8 at *
 subst e7 e8;replace V0 :=Lh (fun w' (hb : Below W5.heap.size W5 w') => V0.out w' (Jd hB hb));replace V3 :=Lh (fun w' (hb : Below W5.heap.size W5 w') => V3.out w' (Jd hB hb));replace V4 :=Lh (fun w' (hb : Below W5.heap.size W5 w') => V4.out w' (Jd hB hb));replace V7 :=Lh (fun w' (hb : Below W5.heap.size W5 w') => V7.keep hb);replace K :=Lh (Jd K.out hB);replace G :=Lh (fun w' (hb : Below W5.heap.size W5 w') => G.out w' (Jd hB hb));clear hB;refine Last.nil (by kernel_rfl) ?_;go_upto_region 11 with fail
 refine E8 153 [(89, false, 0), (90, false, 0), (91, false, 0), (92, false, 0), (93, false, 0), (9, false, 0), (9, true, 5)] [5]
  [Fct.val (Jp (Jo ⟨p3, 0, Jn⟩)),
  Fct.num [] 4 [a0, a1, a2],
  Fct.val (Jp (Jo ⟨p3, 0, Jn⟩)),
  Fct.num [] 4 [a0, a1, a2],
  Fct.num [] 26 [a0 * a0 + a1 * a1 + a2 * a2],
  Fct.ptr 4,
  Fct.var [] 26 [a0 * a0 + a1 * a1 + a2 * a2]]
  0 rfl (by kernel_rfl) rfl ⟨?_, ?_, ?_, ?_, ?_, ?_, ?_, trivial⟩
  (fun val6 => ⟨#[Ja #[Ji .i8 n0, Ji .i8 n1, Ji .i8 n2, Ji .i8 n3, Ji .i8 n4, Ji .i8 n5, Ji .u8 d], Jp (Jo ⟨w.heap.size, 0, Jn⟩), .bool false, Jp (Jo ⟨p3, 0, Jn⟩), Jp (Jo ⟨p4, 0, Jn⟩), undef, undef, Jp (Jo ⟨p7, 0, Jn⟩), Ji Jl 0, val6 9, undef, undef, undef, undef, undef, .bool true, .bool false, val1 17, val1 18, val2 19, val2 20, .bool false, val3 22, val3 23, val3 24, val3 25, val3 26, val3 27, val3 28, val3 29, undef, undef, undef, undef, undef, undef, undef, undef, undef, undef, undef, undef, undef, undef, undef, undef, undef, undef, undef, .bool false, val4 50, val4 51, val4 52, undef, undef, undef, undef, undef, undef, undef, undef, undef, undef, undef, undef, undef, undef, undef, undef, undef, undef, undef, undef, undef, undef, undef, undef, undef, undef, undef, undef, undef, undef, val5 83, val5 84, val5 85, val5 86, val5 87, val5 88, val6 89, val6 90, val6 91, val6 92, val6 93, undef, undef, undef, undef, undef, undef, undef, undef, undef, undef, undef, undef, undef, undef, undef, undef, undef, undef, undef, undef, undef, undef, undef, undef, undef, undef, undef, undef, undef, undef, undef, undef, undef, undef, undef, undef, undef, undef, undef, undef, undef, undef, undef, undef, undef, undef, undef, undef, undef, undef, undef, undef, undef, undef, undef, undef, undef, undef, undef], []⟩) (fun val6 => by kernel_rfl) (fun val6 W6 hB hF => ⟨?_⟩)
 ·exact E4 rfl rfl (.env rfl (by kernel_rfl)) rfl (by kernel_rfl) (fun w => by go_simp)
 ·exact E6 0 3 V3.out (.dep 0 rfl (by kernel_rfl)) rfl rfl rfl (by kernel_rfl) (by kernel_rfl) (by kernel_rfl)
 ·exact E4 rfl rfl (.env rfl (by kernel_rfl)) rfl (by kernel_rfl) (fun w => by go_simp)
 ·exact E6 0 3 V3.out (.dep 2 rfl (by kernel_rfl)) rfl rfl rfl (by kernel_rfl) (by kernel_rfl) (by kernel_rfl)
 ·exact EZ cf31 rfl rfl rfl rfl rfl (by kernel_rfl) (fun a v hB hE hD => FZ (hD 1 _ (by kernel_rfl) rfl) (hD 3 _ (by kernel_rfl) rfl) (by kernel_rfl) (G.out v hB))
 ·exact Fb [Ji Jl 0, Jp Jn, Ji Jl 0, Jp Jn] 31 rfl rfl rfl (by kernel_rfl) (by kernel_rfl) (fun a w => by go_simp)
 ·exact E9 5 4 rfl rfl rfl rfl rfl (by kernel_rfl) (by kernel_rfl)
 obtain⟨p9, e9, V9⟩ : (Fct.var [] 26 [a0 * a0 + a1 * a1 + a2 * a2]).P W6 (val6 9) :=hF 6 _ rfl;clear hF;generalize val6 9 =t9 at *
 subst e9;replace V0 :=Lh (fun w' (hb : Below W6.heap.size W6 w') => V0.out w' (Jd hB hb));replace V3 :=Lh (fun w' (hb : Below W6.heap.size W6 w') => V3.out w' (Jd hB hb));replace V4 :=Lh (fun w' (hb : Below W6.heap.size W6 w') => V4.out w' (Jd hB hb));replace V7 :=Lh (fun w' (hb : Below W6.heap.size W6 w') => V7.out w' (Jd hB hb));replace V9 :=Lh (fun w' (hb : Below W6.heap.size W6 w') => V9.keep hb);replace K :=Lh (Jd K.out hB);replace G :=Lh (fun w' (hb : Below W6.heap.size W6 w') => G.out w' (Jd hB hb));clear hB;refine Last.nil (by kernel_rfl) ?_;go_upto_region 12 with fail
 refine Fy 153 [(95, false, 0), (96, false, 0), (97, false, 0), (98, false, 0), (99, false, 0), (100, false, 0), (101, false, 0), (94, false, 0), (102, false, 0), (103, false, 0), (10, false, 0), (10, true, 10), (11, false, 0)] [10]
  [Fct.val (Jp (Jo ⟨p3, 0, Jn⟩)),
  Fct.num [] 4 [a0, a1, a2],
  Fct.val (Jp (Jo ⟨p3, 12, Jn⟩)),
  Fct.num [] 4 [a3, a4, a5],
  Fct.num [] 26 [a0 * a3 + a1 * a4 + a2 * a5],
  Fct.num [] 26 [a0 * a0 + a1 * a1 + a2 * a2],
  Fct.made 0 52 [(a0 * a3 + a1 * a4 + a2 * a5)/(a0 * a0 + a1 * a1 + a2 * a2)],
  Fct.made 0 52 [(a0 * a3 + a1 * a4 + a2 * a5)/(a0 * a0 + a1 * a1 + a2 * a2)],
  Fct.num [] 52 [(a0 * a3 + a1 * a4 + a2 * a5)/(a0 * a0 + a1 * a1 + a2 * a2)],
  Fct.val (Ji Jl 0),
  Fct.ptr 4,
  Fct.var [] 52 [(a0 * a3 + a1 * a4 + a2 * a5)/(a0 * a0 + a1 * a1 + a2 * a2)],
  Fct.val (Ji Jl 0)]
  #[true, true, true, true, true, true, true, true, true, true, true, true, true] 0 rfl (by kernel_rfl) rfl (by kernel_rfl) ⟨?_, ?_, ?_, ?_, ?_, ?_, ?_, ?_, ?_, ?_, ?_, ?_, ?_, trivial⟩
  (fun val7 => ⟨#[Ja #[Ji .i8 n0, Ji .i8 n1, Ji .i8 n2, Ji .i8 n3, Ji .i8 n4, Ji .i8 n5, Ji .u8 d], Jp (Jo ⟨w.heap.size, 0, Jn⟩), .bool false, Jp (Jo ⟨p3, 0, Jn⟩), Jp (Jo ⟨p4, 0, Jn⟩), undef, undef, Jp (Jo ⟨p7, 0, Jn⟩), Ji Jl 0, Jp (Jo ⟨p9, 0, Jn⟩), val7 10, val7 11, undef, undef, undef, .bool true, .bool false, val1 17, val1 18, val2 19, val2 20, .bool false, val3 22, val3 23, val3 24, val3 25, val3 26, val3 27, val3 28, val3 29, undef, undef, undef, undef, undef, undef, undef, undef, undef, undef, undef, undef, undef, undef, undef, undef, undef, undef, undef, .bool false, val4 50, val4 51, val4 52, undef, undef, undef, undef, undef, undef, undef, undef, undef, undef, undef, undef, undef, undef, undef, undef, undef, undef, undef, undef, undef, undef, undef, undef, undef, undef, undef, undef, undef, undef, val5 83, val5 84, val5 85, val5 86, val5 87, val5 88, val6 89, val6 90, val6 91, val6 92, val6 93, val7 94, val7 95, val7 96, val7 97, val7 98, val7 99, val7 100, val7 101, val7 102, val7 103, undef, undef, undef, undef, undef, undef, undef, undef, undef, undef, undef, undef, undef, undef, undef, undef, undef, undef, undef, undef, undef, undef, undef, undef, undef, undef, undef, undef, undef, undef, undef, undef, undef, undef, undef, undef, undef, undef, undef, undef, undef, undef, undef, undef, undef, undef, undef, undef, undef], []⟩) (fun val7 => by kernel_rfl) (fun val7 W7 hB hF => ⟨?_⟩)
 ·exact E4 rfl rfl (.env rfl (by kernel_rfl)) rfl (by kernel_rfl) (fun w => by go_simp)
 ·exact E6 0 3 V3.out (.dep 0 rfl (by kernel_rfl)) rfl rfl rfl (by kernel_rfl) (by kernel_rfl) (by kernel_rfl)
 ·exact E4 rfl rfl (.env rfl (by kernel_rfl)) rfl (by kernel_rfl) (fun w => by go_simp)
 ·exact E6 3 3 V3.out (.dep 2 rfl (by kernel_rfl)) rfl rfl rfl (by kernel_rfl) (by kernel_rfl) (by kernel_rfl)
 ·exact EZ cf31 rfl rfl rfl rfl rfl (by kernel_rfl) (fun a v hB hE hD => FZ (hD 1 _ (by kernel_rfl) rfl) (hD 3 _ (by kernel_rfl) rfl) (by kernel_rfl) (G.out v hB))
 ·exact E7 V9.out (.env rfl (by kernel_rfl)) rfl rfl rfl (by kernel_rfl) (by kernel_rfl)
 ·exact EZ cf50 rfl rfl rfl rfl rfl (by kernel_rfl) (fun a v hB hE hD => FI (hD 4 _ (by kernel_rfl) rfl) (hD 5 _ (by kernel_rfl) rfl) hd (by kernel_rfl) (G.out v hB))
 ·exact E5 6 rfl rfl rfl rfl (by kernel_rfl)
 ·exact Fx 7 rfl rfl rfl rfl (by kernel_rfl)
 ·exact Fw 7 rfl rfl rfl rfl (by kernel_rfl)
 ·exact Fb [Ji Jl 0, Jp Jn, Ji Jl 0, Jp Jn] 31 rfl rfl rfl (by kernel_rfl) (by kernel_rfl) (fun a w => by go_simp)
 ·exact E9 10 8 rfl rfl rfl rfl rfl (by kernel_rfl) (by kernel_rfl)
 ·exact E5 9 rfl rfl rfl rfl (by kernel_rfl)
 obtain⟨p10, e10, V10⟩ : (Fct.var [] 52 [(a0 * a3 + a1 * a4 + a2 * a5)/(a0 * a0 + a1 * a1 + a2 * a2)]).P W7 (val7 10) :=hF 11 _ rfl;have e11 : val7 11 =Ji Jl 0 :=hF 12 _ rfl;clear hF;generalize val7 10 =t10 at *
 generalize val7 11 =t11 at *
 subst e10 e11;replace V0 :=Lh (fun w' (hb : Below W7.heap.size W7 w') => V0.out w' (Jd hB hb));replace V3 :=Lh (fun w' (hb : Below W7.heap.size W7 w') => V3.out w' (Jd hB hb));replace V4 :=Lh (fun w' (hb : Below W7.heap.size W7 w') => V4.out w' (Jd hB hb));replace V7 :=Lh (fun w' (hb : Below W7.heap.size W7 w') => V7.out w' (Jd hB hb));replace V9 :=Lh (fun w' (hb : Below W7.heap.size W7 w') => V9.out w' (Jd hB hb));replace V10 :=Lh (fun w' (hb : Below W7.heap.size W7 w') => V10.keep hb);replace K :=Lh (Jd K.out hB);replace G :=Lh (fun w' (hb : Below W7.heap.size W7 w') => G.out w' (Jd hB hb));clear hB;refine Last.nil (by kernel_rfl) ?_;go_upto_region 13 with fail
 refine Fy 153 [(105, false, 0), (106, false, 0), (107, false, 0), (104, false, 0), (108, false, 0), (109, false, 0), (12, false, 0), (12, true, 6), (13, false, 0)] [6]
  [Fct.num [] 1 [((1 : Int) : Rat)],
  Fct.num [] 26 [a0 * a0 + a1 * a1 + a2 * a2],
  Fct.made 0 27 [((1 : Int) : Rat)/(a0 * a0 + a1 * a1 + a2 * a2)],
  Fct.made 0 27 [((1 : Int) : Rat)/(a0 * a0 + a1 * a1 + a2 * a2)],
  Fct.num [] 27 [((1 : Int) : Rat)/(a0 * a0 + a1 * a1 + a2 * a2)],
  Fct.val (Ji Jl 0),
  Fct.ptr 4,
  Fct.var [] 27 [((1 : Int) : Rat)/(a0 * a0 + a1 * a1 + a2 * a2)],
  Fct.val (Ji Jl 0)]
  #[true, true, true, true, true, true, true, true, true] 0 rfl (by kernel_rfl) rfl (by kernel_rfl) ⟨?_, ?_, ?_, ?_, ?_, ?_, ?_, ?_, ?_, trivial⟩
  (fun val8 => ⟨#[Ja #[Ji .i8 n0, Ji .i8 n1, Ji .i8 n2, Ji .i8 n3, Ji .i8 n4, Ji .i8 n5, Ji .u8 d], Jp (Jo ⟨w.heap.size, 0, Jn⟩), .bool false, Jp (Jo ⟨p3, 0, Jn⟩), Jp (Jo ⟨p4, 0, Jn⟩), undef, undef, Jp (Jo ⟨p7, 0, Jn⟩), Ji Jl 0, Jp (Jo ⟨p9, 0, Jn⟩), Jp (Jo ⟨p10, 0, Jn⟩), Ji Jl 0, val8 12, val8 13, undef, .bool true, .bool false, val1 17, val1 18, val2 19, val2 20, .bool false, val3 22, val3 23, val3 24, val3 25, val3 26, val3 27, val3 28, val3 29, undef, undef, undef, undef, undef, undef, undef, undef, undef, undef, undef, undef, undef, undef, undef, undef, undef, undef, undef, .bool false, val4 50, val4 51, val4 52, undef, undef, undef, undef, undef, undef, undef, undef, undef, undef, undef, undef, undef, undef, undef, undef, undef, undef, undef, undef, undef, undef, undef, undef, undef, undef, undef, undef, undef, undef, val5 83, val5 84, val5 85, val5 86, val5 87, val5 88, val6 89, val6 90, val6 91, val6 92, val6 93, val7 94, val7 95, val7 96, val7 97, val7 98, val7 99, val7 100, val7 101, val7 102, val7 103, val8 104, val8 105, val8 106, val8 107, val8 108, val8 109, undef, undef, undef, undef, undef, undef, undef, undef, undef, undef, undef, undef, undef, undef, undef, undef, undef, undef, undef, undef, undef, undef, undef, undef, undef, undef, undef, undef, undef, undef, undef, undef, undef, undef, undef, undef, undef, undef, undef, undef, undef, undef, undef], []⟩) (fun val8 => by kernel_rfl) (fun val8 W8 hB hF => ⟨?_⟩)
 ·exact EZ cf51 rfl rfl rfl rfl rfl (by kernel_rfl) (fun a v hB hE hD => (show Calls _ _ #[Ji Jl 1] v _ from Fv ⟨by decide, by decide⟩ (Fq (by decide) (by decide))))
 ·exact E7 V9.out (.env rfl (by kernel_rfl)) rfl rfl rfl (by kernel_rfl) (by kernel_rfl)
 ·exact EZ cf50 rfl rfl rfl rfl rfl (by kernel_rfl) (fun a v hB hE hD => FI (hD 0 _ (by kernel_rfl) rfl) (hD 1 _ (by kernel_rfl) rfl) hd (by kernel_rfl) (G.out v hB))
 ·exact E5 2 rfl rfl rfl rfl (by kernel_rfl)
 ·exact Fx 3 rfl rfl rfl rfl (by kernel_rfl)
 ·exact Fw 3 rfl rfl rfl rfl (by kernel_rfl)
 ·exact Fb [Ji Jl 0, Jp Jn, Ji Jl 0, Jp Jn] 31 rfl rfl rfl (by kernel_rfl) (by kernel_rfl) (fun a w => by go_simp)
 ·exact E9 6 4 rfl rfl rfl rfl rfl (by kernel_rfl) (by kernel_rfl)
 ·exact E5 5 rfl rfl rfl rfl (by kernel_rfl)
 obtain⟨p12, e12, V12⟩ : (Fct.var [] 27 [((1 : Int) : Rat)/(a0 * a0 + a1 * a1 + a2 * a2)]).P W8 (val8 12) :=hF 7 _ rfl;have e13 : val8 13 =Ji Jl 0 :=hF 8 _ rfl;clear hF;generalize val8 12 =t12 at *
 generalize val8 13 =t13 at *
 subst e12 e13;replace V0 :=Lh (fun w' (hb : Below W8.heap.size W8 w') => V0.out w' (Jd hB hb));replace V3 :=Lh (fun w' (hb : Below W8.heap.size W8 w') => V3.out w' (Jd hB hb));replace V4 :=Lh (fun w' (hb : Below W8.heap.size W8 w') => V4.out w' (Jd hB hb));replace V7 :=Lh (fun w' (hb : Below W8.heap.size W8 w') => V7.out w' (Jd hB hb));replace V9 :=Lh (fun w' (hb : Below W8.heap.size W8 w') => V9.out w' (Jd hB hb));replace V10 :=Lh (fun w' (hb : Below W8.heap.size W8 w') => V10.out w' (Jd hB hb));replace V12 :=Lh (fun w' (hb : Below W8.heap.size W8 w') => V12.keep hb);replace K :=Lh (Jd K.out hB);replace G :=Lh (fun w' (hb : Below W8.heap.size W8 w') => G.out w' (Jd hB hb));clear hB;refine Last.nil (by kernel_rfl) ?_;go_upto_region 14 with fail
 refine E8 153 [(14, false, 0)] []
  [Fct.val (Ji Jl 3)]
  0 rfl (by kernel_rfl) rfl ⟨?_, trivial⟩
  (fun val9 => ⟨#[Ja #[Ji .i8 n0, Ji .i8 n1, Ji .i8 n2, Ji .i8 n3, Ji .i8 n4, Ji .i8 n5, Ji .u8 d], Jp (Jo ⟨w.heap.size, 0, Jn⟩), .bool false, Jp (Jo ⟨p3, 0, Jn⟩), Jp (Jo ⟨p4, 0, Jn⟩), undef, undef, Jp (Jo ⟨p7, 0, Jn⟩), Ji Jl 0, Jp (Jo ⟨p9, 0, Jn⟩), Jp (Jo ⟨p10, 0, Jn⟩), Ji Jl 0, Jp (Jo ⟨p12, 0, Jn⟩), Ji Jl 0, val9 14, .bool true, .bool false, val1 17, val1 18, val2 19, val2 20, .bool false, val3 22, val3 23, val3 24, val3 25, val3 26, val3 27, val3 28, val3 29, undef, undef, undef, undef, undef, undef, undef, undef, undef, undef, undef, undef, undef, undef, undef, undef, undef, undef, undef, .bool false, val4 50, val4 51, val4 52, undef, undef, undef, undef, undef, undef, undef, undef, undef, undef, undef, undef, undef, undef, undef, undef, undef, undef, undef, undef, undef, undef, undef, undef, undef, undef, undef, undef, undef, undef, val5 83, val5 84, val5 85, val5 86, val5 87, val5 88, val6 89, val6 90, val6 91, val6 92, val6 93, val7 94, val7 95, val7 96, val7 97, val7 98, val7 99, val7 100, val7 101, val7 102, val7 103, val8 104, val8 105, val8 106, val8 107, val8 108, val8 109, undef, undef, undef, undef, undef, undef, undef, undef, undef, undef, undef, undef, undef, undef, undef, undef, undef, undef, undef, undef, undef, undef, undef, undef, undef, undef, undef, undef, undef, undef, undef, undef, undef, undef, undef, undef, undef, undef, undef, undef, undef, undef, undef], []⟩) (fun val9 => by kernel_rfl) (fun val9 W9 hB hF => ⟨?_⟩)
 ·exact Dh rfl (fun _ => rfl) rfl (by kernel_rfl)
 have e14 : val9 14 =Ji Jl 3 :=hF 0 _ rfl;clear hF;generalize val9 14 =t14 at *
 subst e14;replace V0 :=Lh (fun w' (hb : Below W9.heap.size W9 w') => V0.out w' (Jd hB hb));replace V3 :=Lh (fun w' (hb : Below W9.heap.size W9 w') => V3.out w' (Jd hB hb));replace V4 :=Lh (fun w' (hb : Below W9.heap.size W9 w') => V4.out w' (Jd hB hb));replace V7 :=Lh (fun w' (hb : Below W9.heap.size W9 w') => V7.out w' (Jd hB hb));replace V9 :=Lh (fun w' (hb : Below W9.heap.size W9 w') => V9.out w' (Jd hB hb));replace V10 :=Lh (fun w' (hb : Below W9.heap.size W9 w') => V10.out w' (Jd hB hb));replace V12 :=Lh (fun w' (hb : Below W9.heap.size W9 w') => V12.out w' (Jd hB hb));replace K :=Lh (Jd K.out hB);replace G :=Lh (fun w' (hb : Below W9.heap.size W9 w') => G.out w' (Jd hB hb));clear hB;refine Last.nil (by kernel_rfl) ?_;go_upto_region 15 with fail
 refine E8 153 [(110, false, 0), (111, false, 0), (112, false, 0)] []
  [Fct.num [] 52 [(a0 * a3 + a1 * a4 + a2 * a5) / (a0 * a0 + a1 * a1 + a2 * a2)],
  Fct.val (Ji Jl τ),
  Fct.val (.bool false)]
  0 rfl (by kernel_rfl) rfl ⟨?_, ?_, ?_, trivial⟩
  (fun val10 => ⟨#[Ja #[Ji .i8 n0, Ji .i8 n1, Ji .i8 n2, Ji .i8 n3, Ji .i8 n4, Ji .i8 n5, Ji .u8 d], Jp (Jo ⟨w.heap.size, 0, Jn⟩), .bool false, Jp (Jo ⟨p3, 0, Jn⟩), Jp (Jo ⟨p4, 0, Jn⟩), undef, undef, Jp (Jo ⟨p7, 0, Jn⟩), Ji Jl 0, Jp (Jo ⟨p9, 0, Jn⟩), Jp (Jo ⟨p10, 0, Jn⟩), Ji Jl 0, Jp (Jo ⟨p12, 0, Jn⟩), Ji Jl 0, Ji Jl 3, .bool true, .bool false, val1 17, val1 18, val2 19, val2 20, .bool false, val3 22, val3 23, val3 24, val3 25, val3 26, val3 27, val3 28, val3 29, undef, undef, undef, undef, undef, undef, undef, undef, undef, undef, undef, undef, undef, undef, undef, undef, undef, undef, undef, .bool false, val4 50, val4 51, val4 52, undef, undef, undef, undef, undef, undef, undef, undef, undef, undef, undef, undef, undef, undef, undef, undef, undef, undef, undef, undef, undef, undef, undef, undef, undef, undef, undef, undef, undef, undef, val5 83, val5 84, val5 85, val5 86, val5 87, val5 88, val6 89, val6 90, val6 91, val6 92, val6 93, val7 94, val7 95, val7 96, val7 97, val7 98, val7 99, val7 100, val7 101, val7 102, val7 103, val8 104, val8 105, val8 106, val8 107, val8 108, val8 109, val10 110, val10 111, val10 112, undef, undef, undef, undef, undef, undef, undef, undef, undef, undef, undef, undef, undef, undef, undef, undef, undef, undef, undef, undef, undef, undef, undef, undef, undef, undef, undef, undef, undef, undef, undef, undef, undef, undef, undef, undef, undef, undef, undef, undef], []⟩) (fun val10 => by kernel_rfl) (fun val10 W10 hB hF => ⟨?_⟩)
 ·exact E7 V10.out (.env rfl (by kernel_rfl)) rfl rfl rfl (by kernel_rfl) (by kernel_rfl)
 ·exact EZ cf48 rfl rfl rfl rfl rfl (by kernel_rfl) (fun a v hB hE hD => (ht ▸ DK (hD 0 _ (by kernel_rfl) rfl)))
 ·exact Fm (op := .binOp .eql 3 (.tmp 111) (.const (Ji Jl 0)) 3) rfl rfl (fun _ => rfl) (.dep 1 rfl (by kernel_rfl)) rfl (by kernel_rfl) (fun a w e => by unfold execOp bare;dsimp only;rw[e];go_simp <;> rfl)
 have e112 : val10 112 = .bool false :=hF 2 _ rfl;clear hF;generalize val10 112 =t112 at *
 subst e112;replace V0 :=Lh (fun w' (hb : Below W10.heap.size W10 w') => V0.out w' (Jd hB hb));replace V3 :=Lh (fun w' (hb : Below W10.heap.size W10 w') => V3.out w' (Jd hB hb));replace V4 :=Lh (fun w' (hb : Below W10.heap.size W10 w') => V4.out w' (Jd hB hb));replace V7 :=Lh (fun w' (hb : Below W10.heap.size W10 w') => V7.out w' (Jd hB hb));replace V9 :=Lh (fun w' (hb : Below W10.heap.size W10 w') => V9.out w' (Jd hB hb));replace V10 :=Lh (fun w' (hb : Below W10.heap.size W10 w') => V10.out w' (Jd hB hb));replace V12 :=Lh (fun w' (hb : Below W10.heap.size W10 w') => V12.out w' (Jd hB hb));replace K :=Lh (Jd K.out hB);replace G :=Lh (fun w' (hb : Below W10.heap.size W10 w') => G.out w' (Jd hB hb));clear hB;refine Last.nil (by kernel_rfl) ?_;go_upto_region 17 with fail
 refine Fy 153 [(113, false, 0), (114, false, 0), (115, false, 0), (116, false, 0), (117, false, 0), (118, false, 0), (119, false, 0), (120, false, 0), (121, false, 0), (122, false, 0), (123, false, 0), (124, false, 0), (125, false, 0), (126, false, 0), (127, false, 0), (128, false, 0), (129, false, 0), (130, false, 0), (131, false, 0), (132, false, 0), (133, false, 0), (134, false, 0), (135, false, 0), (136, false, 0), (137, false, 0), (138, false, 0), (139, false, 0), (140, false, 0), (141, false, 0), (142, false, 0), (143, false, 0), (144, false, 0), (145, false, 0), (146, false, 0), (147, false, 0), (148, false, 0), (149, false, 0), (150, false, 0), (151, false, 0), (152, false, 0), (2, false, 0)] []
  [Fct.val (Ji Jl 0),
  Fct.val (.bool true),
  Fct.val (.bool true),
  Fct.val (Ji Jl 0),
  Fct.val (.bool true),
  Fct.val (.bool true),
  Fct.val (.bool true),
  Fct.val (Ji Jl 0),
  Fct.val (.bool true),
  Fct.val (.bool true),
  Fct.val (.bool true),
  Fct.val (Jp (Jo ⟨p4, 0, Jn⟩)),
  Fct.val (Ji Jl 3),
  Fct.val (Ji Jl 3),
  Fct.val (.bool true),
  Fct.val (.bool true),
  Fct.val (.bool true),
  Fct.val (Jp (Jo ⟨p4, 1, Jn⟩)),
  Fct.num [] 161 [pF a0 a1 a2 * a0, pF a0 a1 a2 * a1, pF a0 a1 a2 * a2],
  Fct.num [] 13 [pF a0 a1 a2 * a0, pF a0 a1 a2 * a1, pF a0 a1 a2 * a2],
  Fct.val (.bool true),
  Fct.val (.bool true),
  Fct.val (.bool true),
  Fct.val (Jp (Jo ⟨p4, 25, Jn⟩)),
  Fct.num [] 161 [(a0 * a3 + a1 * a4 + a2 * a5) * (((1 : Int) : Rat)/(a0 * a0 + a1 * a1 + a2 * a2))],
  Fct.num [] 52 [(a0 * a3 + a1 * a4 + a2 * a5)/(a0 * a0 + a1 * a1 + a2 * a2)],
  Fct.val (.bool true),
  Fct.val (.bool true),
  Fct.val (.bool true),
  Fct.val (Jp (Jo ⟨p4, 13, Jn⟩)),
  Fct.num [] 161 [(((1 : Int) : Rat)/(a0 * a0 + a1 * a1 + a2 * a2)) * (a1 * a5-a2 * a4), (((1 : Int) : Rat)/(a0 * a0 + a1 * a1 + a2 * a2)) * (a2 * a3-a0 * a5), (((1 : Int) : Rat)/(a0 * a0 + a1 * a1 + a2 * a2)) * (a0 * a4-a1 * a3)],
  Fct.val (Jp (Jo ⟨p3, 0, Jn⟩)),
  Fct.num [] 4 [a0, a1, a2],
  Fct.val (Jp (Jo ⟨p3, 12, Jn⟩)),
  Fct.num [] 4 [a3, a4, a5],
  Fct.num [] 17 [a1 * a5-a2 * a4, a2 * a3-a0 * a5, a0 * a4-a1 * a3],
  Fct.num [] 27 [((1 : Int) : Rat)/(a0 * a0 + a1 * a1 + a2 * a2)],
  Fct.num [] 44 [(((1 : Int) : Rat)/(a0 * a0 + a1 * a1 + a2 * a2)) * (a1 * a5-a2 * a4), (((1 : Int) : Rat)/(a0 * a0 + a1 * a1 + a2 * a2)) * (a2 * a3-a0 * a5), (((1 : Int) : Rat)/(a0 * a0 + a1 * a1 + a2 * a2)) * (a0 * a4-a1 * a3)],
  Fct.val (.bool true),
  Fct.val (.bool true),
  Fct.val (.bool true)]
  #[true, true, true, true, true, true, true, true, true, true, true, true, true, true, true, true, true, true, true, true, true, true, true, true, true, true, true, true, true, true, true, true, true, true, true, true, true, true, true, true, true] 0 rfl (by kernel_rfl) rfl (by kernel_rfl) ⟨?_, ?_, ?_, ?_, ?_, ?_, ?_, ?_, ?_, ?_, ?_, ?_, ?_, ?_, ?_, ?_, ?_, ?_, ?_, ?_, ?_, ?_, ?_, ?_, ?_, ?_, ?_, ?_, ?_, ?_, ?_, ?_, ?_, ?_, ?_, ?_, ?_, ?_, ?_, ?_, ?_, trivial⟩
  (fun val11 => ⟨#[Ja #[Ji .i8 n0, Ji .i8 n1, Ji .i8 n2, Ji .i8 n3, Ji .i8 n4, Ji .i8 n5, Ji .u8 d], Jp (Jo ⟨w.heap.size, 0, Jn⟩), val11 2, Jp (Jo ⟨p3, 0, Jn⟩), Jp (Jo ⟨p4, 0, Jn⟩), undef, undef, Jp (Jo ⟨p7, 0, Jn⟩), Ji Jl 0, Jp (Jo ⟨p9, 0, Jn⟩), Jp (Jo ⟨p10, 0, Jn⟩), Ji Jl 0, Jp (Jo ⟨p12, 0, Jn⟩), Ji Jl 0, Ji Jl 3, .bool true, .bool false, val1 17, val1 18, val2 19, val2 20, .bool false, val3 22, val3 23, val3 24, val3 25, val3 26, val3 27, val3 28, val3 29, undef, undef, undef, undef, undef, undef, undef, undef, undef, undef, undef, undef, undef, undef, undef, undef, undef, undef, undef, .bool false, val4 50, val4 51, val4 52, undef, undef, undef, undef, undef, undef, undef, undef, undef, undef, undef, undef, undef, undef, undef, undef, undef, undef, undef, undef, undef, undef, undef, undef, undef, undef, undef, undef, undef, undef, val5 83, val5 84, val5 85, val5 86, val5 87, val5 88, val6 89, val6 90, val6 91, val6 92, val6 93, val7 94, val7 95, val7 96, val7 97, val7 98, val7 99, val7 100, val7 101, val7 102, val7 103, val8 104, val8 105, val8 106, val8 107, val8 108, val8 109, val10 110, val10 111, .bool false, val11 113, val11 114, val11 115, val11 116, val11 117, val11 118, val11 119, val11 120, val11 121, val11 122, val11 123, val11 124, val11 125, val11 126, val11 127, val11 128, val11 129, val11 130, val11 131, val11 132, val11 133, val11 134, val11 135, val11 136, val11 137, val11 138, val11 139, val11 140, val11 141, val11 142, val11 143, val11 144, val11 145, val11 146, val11 147, val11 148, val11 149, val11 150, val11 151, val11 152], []⟩) (fun val11 => by kernel_rfl) (fun val11 W11 hB hF => ⟨?_⟩)
 ·exact Fh rfl rfl (.env rfl (by kernel_rfl)) rfl (by kernel_rfl)
 ·exact Fm (op := .binOp .eql 26 (.tmp 113) (.const (Ji Jl 0)) 26) rfl rfl (fun _ => rfl) (.dep 0 rfl (by kernel_rfl)) rfl (by kernel_rfl) (fun a w e => by unfold execOp bare;dsimp only;rw[e];go_simp <;> rfl)
 ·exact E5 1 rfl rfl rfl rfl (by kernel_rfl)
 ·exact Fh rfl rfl (.env rfl (by kernel_rfl)) ⟨true, rfl, rfl, by kernel_rfl, rfl⟩ (by kernel_rfl)
 ·exact Fm (op := .binOp .eql 26 (.tmp 116) (.const (Ji Jl 0)) 26) rfl rfl (fun _ => rfl) (.dep 3 rfl (by kernel_rfl)) ⟨true, rfl, rfl, by kernel_rfl, rfl⟩ (by kernel_rfl) (fun a w e => by unfold execOp bare;dsimp only;rw[e];go_simp <;> rfl)
 ·exact Fe 2 4 rfl rfl rfl rfl rfl (by kernel_rfl)
 ·exact E5 5 rfl rfl rfl rfl (by kernel_rfl)
 ·exact Fh rfl rfl (.env rfl (by kernel_rfl)) ⟨true, rfl, rfl, by kernel_rfl, rfl⟩ (by kernel_rfl)
 ·exact Fm (op := .binOp .eql 26 (.tmp 120) (.const (Ji Jl 0)) 26) rfl rfl (fun _ => rfl) (.dep 7 rfl (by kernel_rfl)) ⟨true, rfl, rfl, by kernel_rfl, rfl⟩ (by kernel_rfl) (fun a w e => by unfold execOp bare;dsimp only;rw[e];go_simp <;> rfl)
 ·exact Fe 6 8 rfl rfl rfl rfl rfl (by kernel_rfl)
 ·exact E5 9 rfl rfl rfl rfl (by kernel_rfl)
 ·exact E4 rfl rfl (.env rfl (by kernel_rfl)) ⟨true, rfl, rfl, by kernel_rfl, rfl⟩ (by kernel_rfl) (fun w => by go_simp)
 ·exact FW V4.out rfl (.dep 11 rfl (by kernel_rfl)) rfl rfl ⟨true, rfl, rfl, by kernel_rfl, rfl⟩ (by kernel_rfl) (by kernel_rfl)
 ·exact Fh rfl rfl (.env rfl (by kernel_rfl)) ⟨true, rfl, rfl, by kernel_rfl, rfl⟩ (by kernel_rfl)
 ·exact Dl (op := .binOp .eql 3 (.tmp 125) (.tmp 126) 3) rfl rfl (fun _ => rfl) (.dep 12 rfl (by kernel_rfl)) (.dep 13 rfl (by kernel_rfl)) ⟨true, rfl, rfl, by kernel_rfl, rfl⟩ (by kernel_rfl) (fun a w e e2 => by unfold execOp bare;dsimp only;rw[e, e2];go_simp <;> rfl)
 ·exact Fe 10 14 rfl rfl rfl rfl rfl (by kernel_rfl)
 ·exact E5 15 rfl rfl rfl rfl (by kernel_rfl)
 ·exact E4 rfl rfl (.env rfl (by kernel_rfl)) ⟨true, rfl, rfl, by kernel_rfl, rfl⟩ (by kernel_rfl) (fun w => by go_simp)
 ·exact E6 0 3 V4.out (.dep 17 rfl (by kernel_rfl)) rfl rfl ⟨true, rfl, rfl, by kernel_rfl, rfl⟩ (by kernel_rfl) (by kernel_rfl) (by kernel_rfl)
 ·exact E7 V7.out (.env rfl (by kernel_rfl)) rfl rfl ⟨true, rfl, rfl, by kernel_rfl, rfl⟩ (by kernel_rfl) (by kernel_rfl)
 ·exact EZ cf23 rfl rfl rfl rfl ⟨true, rfl, rfl, by kernel_rfl, rfl⟩ (by kernel_rfl) (fun a v hB hE hD => FX (hD 18 _ (by kernel_rfl) rfl) (hD 19 _ (by kernel_rfl) rfl) rfl rfl rfl (by kernel_rfl))
 ·exact Fe 16 20 rfl rfl rfl rfl rfl (by kernel_rfl)
 ·exact E5 21 rfl rfl rfl rfl (by kernel_rfl)
 ·exact E4 rfl rfl (.env rfl (by kernel_rfl)) ⟨true, rfl, rfl, by kernel_rfl, rfl⟩ (by kernel_rfl) (fun w => by go_simp)
 ·exact E6 6 1 V4.out (.dep 23 rfl (by kernel_rfl)) rfl rfl ⟨true, rfl, rfl, by kernel_rfl, rfl⟩ (by kernel_rfl) (by kernel_rfl) (by kernel_rfl)
 ·exact E7 V10.out (.env rfl (by kernel_rfl)) rfl rfl ⟨true, rfl, rfl, by kernel_rfl, rfl⟩ (by kernel_rfl) (by kernel_rfl)
 ·exact EZ cf34 rfl rfl rfl rfl ⟨true, rfl, rfl, by kernel_rfl, rfl⟩ (by kernel_rfl) (fun a v hB hE hD => DV (hD 24 _ (by kernel_rfl) rfl) (hD 25 _ (by kernel_rfl) rfl) (DT _ _) (by kernel_rfl) (G.out v hB))
 ·exact Fe 22 26 rfl rfl rfl rfl rfl (by kernel_rfl)
 ·exact E5 27 rfl rfl rfl rfl (by kernel_rfl)
 ·exact E4 rfl rfl (.env rfl (by kernel_rfl)) ⟨true, rfl, rfl, by kernel_rfl, rfl⟩ (by kernel_rfl) (fun w => by go_simp)
 ·exact E6 3 3 V4.out (.dep 29 rfl (by kernel_rfl)) rfl rfl ⟨true, rfl, rfl, by kernel_rfl, rfl⟩ (by kernel_rfl) (by kernel_rfl) (by kernel_rfl)
 ·exact E4 rfl rfl (.env rfl (by kernel_rfl)) ⟨true, rfl, rfl, by kernel_rfl, rfl⟩ (by kernel_rfl) (fun w => by go_simp)
 ·exact E6 0 3 V3.out (.dep 31 rfl (by kernel_rfl)) rfl rfl ⟨true, rfl, rfl, by kernel_rfl, rfl⟩ (by kernel_rfl) (by kernel_rfl) (by kernel_rfl)
 ·exact E4 rfl rfl (.env rfl (by kernel_rfl)) ⟨true, rfl, rfl, by kernel_rfl, rfl⟩ (by kernel_rfl) (fun w => by go_simp)
 ·exact E6 3 3 V3.out (.dep 33 rfl (by kernel_rfl)) rfl rfl ⟨true, rfl, rfl, by kernel_rfl, rfl⟩ (by kernel_rfl) (by kernel_rfl) (by kernel_rfl)
 ·exact EZ cf32 rfl rfl rfl rfl ⟨true, rfl, rfl, by kernel_rfl, rfl⟩ (by kernel_rfl) (fun a v hB hE hD => FO (hD 32 _ (by kernel_rfl) rfl) (hD 34 _ (by kernel_rfl) rfl) (by kernel_rfl) (G.out v hB))
 ·exact E7 V12.out (.env rfl (by kernel_rfl)) rfl rfl ⟨true, rfl, rfl, by kernel_rfl, rfl⟩ (by kernel_rfl) (by kernel_rfl)
 ·exact EZ cf52 rfl rfl rfl rfl ⟨true, rfl, rfl, by kernel_rfl, rfl⟩ (by kernel_rfl) (fun a v hB hE hD => Da (hD 35 _ (by kernel_rfl) rfl) (hD 36 _ (by kernel_rfl) rfl) (by kernel_rfl) (G.out v hB))
 ·exact EZ cf23 rfl rfl rfl rfl ⟨true, rfl, rfl, by kernel_rfl, rfl⟩ (by kernel_rfl) (fun a v hB hE hD => FX (hD 30 _ (by kernel_rfl) rfl) (hD 37 _ (by kernel_rfl) rfl) rfl rfl rfl (by kernel_rfl))
 ·exact Fe 28 38 rfl rfl rfl rfl rfl (by kernel_rfl)
 ·exact E5 39 rfl rfl rfl rfl (by kernel_rfl)
 have e2 : val11 2 = .bool true :=hF 40 _ rfl;clear hF;generalize val11 2 =t2 at *
 subst e2;replace V0 :=Lh (fun w' (hb : Below W11.heap.size W11 w') => V0.out w' (Jd hB hb));replace V3 :=Lh (fun w' (hb : Below W11.heap.size W11 w') => V3.out w' (Jd hB hb));replace V4 :=Lh (fun w' (hb : Below W11.heap.size W11 w') => V4.out w' (Jd hB hb));replace V7 :=Lh (fun w' (hb : Below W11.heap.size W11 w') => V7.out w' (Jd hB hb));replace V9 :=Lh (fun w' (hb : Below W11.heap.size W11 w') => V9.out w' (Jd hB hb));replace V10 :=Lh (fun w' (hb : Below W11.heap.size W11 w') => V10.out w' (Jd hB hb));replace V12 :=Lh (fun w' (hb : Below W11.heap.size W11 w') => V12.out w' (Jd hB hb));replace K :=Lh (Jd K.out hB);replace G :=Lh (fun w' (hb : Below W11.heap.size W11 w') => G.out w' (Jd hB hb));clear hB;refine Last.nil (by kernel_rfl) ?_;clear G V0 V3 V4 V7 V9 V10 V12;go_wp2_with fail
 exact bodyPost_ret (v := .bool true) (by simp[results, Tryz.results9, go_sem]) rfl ⟨_, rfl, K.out, rfl⟩
set_option maxRecDepth 100000 in
set_option maxHeartbeats 16000000 in
theorem Lw{n0 n1 n2 n3 n4 n5 d r : Int}{w : JW}(s1 : S6 n0 n1 n2 n3 n4 n5 d r)(hg : Good w) :
  Calls Tryz.prog 9 #[Ja #[Ji .i8 n0, Ji .i8 n1, Ji .i8 n2, Ji .i8 n3, Ji .i8 n4, Ji .i8 n5, Ji .u8 d]] w (Ret w (Fct.val (.bool true))) :=by
 cases hz : Xv (tq n0 r) (tq n1 r) (tq n2 r)with
 | true =>
  cases hl : Xv (tq n3 r) (tq n4 r) (tq n5 r)with
  | true => exact Lb s1 hz hl hg
  | false => exact D8 s1 hz hl hg
 | false =>
  by_cases hal : (tq n0 r) * (tq n3 r) + (tq n1 r) * (tq n4 r) + (tq n2 r) * (tq n5 r) =0
  ·exact La s1 hz hal hg
  ·have h1 :=Lg (Dm hal);have h2 :=Lg (Dm (LU hal (DQ hz)));exact D9 s1 hz rfl h1.2 h1.1 rfl h2.1 hg
