/- The law TwistPowers. -/
import Derived.Test.YthhobhjcnmmipaaGreatDoorKTwj
namespace Go.Proofs.YthhobhjcnmmipaaGreatDoor
open Go.Value renaming pointer→Jp,int→Ji,agg→Ja
open Go.IntKind renaming i64→Jl
open Go.Obj renaming cells→Jc
open _root_.Option renaming none→Jn,some→Jo
open _root_.Nat renaming le_refl→N0
open Go.RowKit

theorem cf29(args : Array Value)(w : World) : (callFunc 29 args).run Tryz.prog w = .ok (.enter 29 args) w :=by go_simp
theorem Nj{ρ : Operand -> Value}{o : Oper}{s s' : Tmp}{A B : Value}(X0 X1 X2 X3 X4 X5 Y0 Y1 Y2 Y3 Y4 Y5 : R4)(w : World)(hop : o.op = .buildSlice 118 2 #[(0, .tmp s), (1, .tmp s')])(h1 : ρ (.tmp s) =A)(h2 : ρ (.tmp s') =B)(hA : A =Ja ([] ++ flat [X0, X1, X2, X3, X4, X5]).toArray)(hB : B =Ja ([] ++ flat [Y0, Y1, Y2, Y3, Y4, Y5]).toArray) :
    (execOp ρ o).run Tryz.prog w = .ok (.value (.slice (Jo ⟨w.heap.size, 0, Jn⟩) 2 2)) (w.alloc (Jc (flat ([X0, X1, X2, X3, X4, X5] ++ [Y0, Y1, Y2, Y3, Y4, Y5])).toArray 41)) :=by
  unfold execOp;rw[hop];simp only[List.map_toArray, List.map];rw[h1, h2, hA, hB]
  kernel_rfl
set_option maxRecDepth 100000 in
set_option maxHeartbeats 16000000 in
theorem Ni{n0 n1 n2 n3 n4 n5 d r x0 x1 x2 y0 y1 y2 f0 f1 f2 g0 g1 g2 : Int}{w : World}(s1 : S6 n0 n1 n2 n3 n4 n5 d r)(q0 : I8 x0)(q1 : I8 x1)(q2 : I8 x2)(p0 : I8 y0)(p1 : I8 y1)(p2 : I8 y2)(fi0 : I8 f0)(fi1 : I8 f1)(fi2 : I8 f2)(gi0 : I8 g0)(gi1 : I8 g1)(gi2 : I8 g2)(hg : Good w) :
    Calls Tryz.prog 5 #[Ja #[Ji .i8 n0, Ji .i8 n1, Ji .i8 n2, Ji .i8 n3, Ji .i8 n4, Ji .i8 n5, Ji .u8 d], Ja #[Ji .i8 x0, Ji .i8 x1, Ji .i8 x2, Ji .i8 y0, Ji .i8 y1, Ji .i8 y2], Ja #[Ji .i8 f0, Ji .i8 f1, Ji .i8 f2, Ji .i8 g0, Ji .i8 g1, Ji .i8 g2]] w (Ret w (Fct.val (.bool true))) :=by
  obtain⟨a0, ha0⟩ : ∃q, tq n0 r =q :=⟨_, rfl⟩;obtain⟨a1, ha1⟩ : ∃q, tq n1 r =q :=⟨_, rfl⟩;obtain⟨a2, ha2⟩ : ∃q, tq n2 r =q :=⟨_, rfl⟩;obtain⟨a3, ha3⟩ : ∃q, tq n3 r =q :=⟨_, rfl⟩;obtain⟨a4, ha4⟩ : ∃q, tq n4 r =q :=⟨_, rfl⟩;obtain⟨a5, ha5⟩ : ∃q, tq n5 r =q :=⟨_, rfl⟩;have Ha :=fun(v : World) (hg : Good v) => c_of (w :=v) s1 hg;rw[ha0, ha1, ha2, ha3, ha4, ha5]at Ha;replace Ha :=Lib.hid Ha;obtain⟨xq0, hxq0⟩ : ∃q, ((x0 : Int) : Rat) =q :=⟨_, rfl⟩;obtain⟨xq1, hxq1⟩ : ∃q, ((x1 : Int) : Rat) =q :=⟨_, rfl⟩;obtain⟨xq2, hxq2⟩ : ∃q, ((x2 : Int) : Rat) =q :=⟨_, rfl⟩;have Hx :=fun(v : World) (hg : Good v) => DL (w :=v) q0 q1 q2 hg;rw[hxq0, hxq1, hxq2]at Hx;replace Hx :=Lib.hid Hx;obtain⟨yq0, hyq0⟩ : ∃q, ((y0 : Int) : Rat) =q :=⟨_, rfl⟩;obtain⟨yq1, hyq1⟩ : ∃q, ((y1 : Int) : Rat) =q :=⟨_, rfl⟩;obtain⟨yq2, hyq2⟩ : ∃q, ((y2 : Int) : Rat) =q :=⟨_, rfl⟩;have Hy :=fun(v : World) (hg : Good v) => DL (w :=v) p0 p1 p2 hg;rw[hyq0, hyq1, hyq2]at Hy;replace Hy :=Lib.hid Hy;obtain⟨fq0, hfq0⟩ : ∃q, ((f0 : Int) : Rat) =q :=⟨_, rfl⟩;obtain⟨fq1, hfq1⟩ : ∃q, ((f1 : Int) : Rat) =q :=⟨_, rfl⟩;obtain⟨fq2, hfq2⟩ : ∃q, ((f2 : Int) : Rat) =q :=⟨_, rfl⟩;have Hf :=fun(v : World) (hg : Good v) => DL (w :=v) fi0 fi1 fi2 hg;rw[hfq0, hfq1, hfq2]at Hf;replace Hf :=Lib.hid Hf;obtain⟨gq0, hgq0⟩ : ∃q, ((g0 : Int) : Rat) =q :=⟨_, rfl⟩;obtain⟨gq1, hgq1⟩ : ∃q, ((g1 : Int) : Rat) =q :=⟨_, rfl⟩;obtain⟨gq2, hgq2⟩ : ∃q, ((g2 : Int) : Rat) =q :=⟨_, rfl⟩;have Hg :=fun(v : World) (hg : Good v) => DL (w :=v) gi0 gi1 gi2 hg;rw[hgq0, hgq1, hgq2]at Hg
  replace Hg :=Lib.hid Hg;have eqn0 : (0 + fq0) + gq0 =fq0 + gq0 :=by grind
  have eqn1 : (0 + fq1) + gq1 =fq1 + gq1 :=by grind
  have eqn2 : (0 + fq2) + gq2 =fq2 + gq2 :=by grind
  have eqn3 : (((0 + (xq1 * fq2-xq2 * fq1)) + (yq1 * gq2-yq2 * gq1)) * a0 + ((0 + (xq2 * fq0-xq0 * fq2)) + (yq2 * gq0-yq0 * gq2)) * a1 + ((0 + (xq0 * fq1-xq1 * fq0)) + (yq0 * gq1-yq1 * gq0)) * a2) + (((0 + fq0) + gq0) * a3 + ((0 + fq1) + gq1) * a4 + ((0 + fq2) + gq2) * a5) =(fq0 * (a3 + (a1 * xq2-a2 * xq1)) + fq1 * (a4 + (a2 * xq0-a0 * xq2)) + fq2 * (a5 + (a0 * xq1-a1 * xq0))) + (gq0 * (a3 + (a1 * yq2-a2 * yq1)) + gq1 * (a4 + (a2 * yq0-a0 * yq2)) + gq2 * (a5 + (a0 * yq1-a1 * yq0))) :=by grind
  have eqn4 : ((xq1 * fq2-xq2 * fq1) * a0 + (xq2 * fq0-xq0 * fq2) * a1 + (xq0 * fq1-xq1 * fq0) * a2) + (fq0 * a3 + fq1 * a4 + fq2 * a5) =fq0 * (a3 + (a1 * xq2-a2 * xq1)) + fq1 * (a4 + (a2 * xq0-a0 * xq2)) + fq2 * (a5 + (a0 * xq1-a1 * xq0)) :=by grind
  clear s1 ha0 ha1 ha2 ha3 ha4 ha5 hxq0 hxq1 hxq2 hyq0 hyq1 hyq2 hfq0 hfq1 hfq2 hgq0 hgq1 hgq2;have k0 :=(Below.refl w.heap.size w).alloc (N0 _) (Jc #[Ji .i8 n0, Ji .i8 n1, Ji .i8 n2, Ji .i8 n3, Ji .i8 n4, Ji .i8 n5, Ji .u8 d] 53);have k1 :=k0.alloc (by simp) (Jc #[Ji .i8 x0, Ji .i8 x1, Ji .i8 x2, Ji .i8 y0, Ji .i8 y1, Ji .i8 y2] 62);have k2 :=k1.alloc (by simp;omega) (Jc #[Ji .i8 f0, Ji .i8 f1, Ji .i8 f2, Ji .i8 g0, Ji .i8 g1, Ji .i8 g2] 62);have V0 :=Jh.new w #[Ji .i8 n0, Ji .i8 n1, Ji .i8 n2, Ji .i8 n3, Ji .i8 n4, Ji .i8 n5, Ji .u8 d] 53;have V1 :=Jh.new (w.alloc (Jc #[Ji .i8 n0, Ji .i8 n1, Ji .i8 n2, Ji .i8 n3, Ji .i8 n4, Ji .i8 n5, Ji .u8 d] 53)) #[Ji .i8 x0, Ji .i8 x1, Ji .i8 x2, Ji .i8 y0, Ji .i8 y1, Ji .i8 y2] 62;have V2 :=Jh.new ((w.alloc (Jc #[Ji .i8 n0, Ji .i8 n1, Ji .i8 n2, Ji .i8 n3, Ji .i8 n4, Ji .i8 n5, Ji .u8 d] 53)).alloc (Jc #[Ji .i8 x0, Ji .i8 x1, Ji .i8 x2, Ji .i8 y0, Ji .i8 y1, Ji .i8 y2] 62)) #[Ji .i8 f0, Ji .i8 f1, Ji .i8 f2, Ji .i8 g0, Ji .i8 g1, Ji .i8 g2] 62;have j1 :=(Below.refl (w.alloc (Jc #[Ji .i8 n0, Ji .i8 n1, Ji .i8 n2, Ji .i8 n3, Ji .i8 n4, Ji .i8 n5, Ji .u8 d] 53)).heap.size (w.alloc (Jc #[Ji .i8 n0, Ji .i8 n1, Ji .i8 n2, Ji .i8 n3, Ji .i8 n4, Ji .i8 n5, Ji .u8 d] 53))).alloc (N0 _) (Jc #[Ji .i8 x0, Ji .i8 x1, Ji .i8 x2, Ji .i8 y0, Ji .i8 y1, Ji .i8 y2] 62);have j2 :=(Below.refl ((w.alloc (Jc #[Ji .i8 n0, Ji .i8 n1, Ji .i8 n2, Ji .i8 n3, Ji .i8 n4, Ji .i8 n5, Ji .u8 d] 53)).alloc (Jc #[Ji .i8 x0, Ji .i8 x1, Ji .i8 x2, Ji .i8 y0, Ji .i8 y1, Ji .i8 y2] 62)).heap.size ((w.alloc (Jc #[Ji .i8 n0, Ji .i8 n1, Ji .i8 n2, Ji .i8 n3, Ji .i8 n4, Ji .i8 n5, Ji .u8 d] 53)).alloc (Jc #[Ji .i8 x0, Ji .i8 x1, Ji .i8 x2, Ji .i8 y0, Ji .i8 y1, Ji .i8 y2] 62))).alloc (N0 _) (Jc #[Ji .i8 f0, Ji .i8 f1, Ji .i8 f2, Ji .i8 g0, Ji .i8 g1, Ji .i8 g2] 62)
  replace V0 :=((V0.keep j1).keep j2);replace V1 :=(V1.keep j2);simp only[World.size_alloc]at V0 V1 V2;obtain⟨W, hW⟩ : ∃W, ((w.alloc (Jc #[Ji .i8 n0, Ji .i8 n1, Ji .i8 n2, Ji .i8 n3, Ji .i8 n4, Ji .i8 n5, Ji .u8 d] 53)).alloc (Jc #[Ji .i8 x0, Ji .i8 x1, Ji .i8 x2, Ji .i8 y0, Ji .i8 y1, Ji .i8 y2] 62)).alloc (Jc #[Ji .i8 f0, Ji .i8 f1, Ji .i8 f2, Ji .i8 g0, Ji .i8 g1, Ji .i8 g2] 62) =W :=⟨_, rfl⟩;rw[hW]at k2 V0 V1 V2;replace V0 :=Lib.hid (fun w' (hb : Below W.heap.size W w') => (V0.keep hb));replace V1 :=Lib.hid (fun w' (hb : Below W.heap.size W w') => (V1.keep hb));replace V2 :=Lib.hid (fun w' (hb : Below W.heap.size W w') => (V2.keep hb));have K :=Lib.hid k2;have G :=Lib.hid (fun w' (hb : Below W.heap.size W w') => hg.below (k2.trans (hb.mono k2.size)));clear hg k0 k1 k2 j1 j2;go_enter Tryz.func5, Tryz.ntmps5;go_upto_region 1 with fail
  try simp only[hW]
  clear hW;refine E8 117 [(13, false, 0), (14, false, 0)] []
    [Fct.val (.bool true),
    Fct.val (.bool false)]
    0 rfl (by kernel_rfl) rfl ⟨?_, ?_, trivial⟩
    (fun val0 => ⟨#[Ja #[Ji .i8 n0, Ji .i8 n1, Ji .i8 n2, Ji .i8 n3, Ji .i8 n4, Ji .i8 n5, Ji .u8 d], Ja #[Ji .i8 x0, Ji .i8 x1, Ji .i8 x2, Ji .i8 y0, Ji .i8 y1, Ji .i8 y2], Ja #[Ji .i8 f0, Ji .i8 f1, Ji .i8 f2, Ji .i8 g0, Ji .i8 g1, Ji .i8 g2], Jp (Jo ⟨w.heap.size, 0, Jn⟩), Jp (Jo ⟨w.heap.size + 1, 0, Jn⟩), Jp (Jo ⟨w.heap.size + 1 + 1, 0, Jn⟩), .bool false, undef, undef, undef, undef, undef, undef, val0 13, val0 14, undef, undef, undef, undef, undef, undef, undef, undef, undef, undef, undef, undef, undef, undef, undef, undef, undef, undef, undef, undef, undef, undef, undef, undef, undef, undef, undef, undef, undef, undef, undef, undef, undef, undef, undef, undef, undef, undef, undef, undef, undef, undef, undef, undef, undef, undef, undef, undef, undef, undef, undef, undef, undef, undef, undef, undef, undef, undef, undef, undef, undef, undef, undef, undef, undef, undef, undef, undef, undef, undef, undef, undef, undef, undef, undef, undef, undef, undef, undef, undef, undef, undef, undef, undef, undef, undef, undef, undef, undef, undef, undef, undef, undef, undef, undef, undef, undef, undef, undef, undef, undef, undef], []⟩) (fun val0 => by kernel_rfl) (fun val0 W0 hB hF => ⟨?_⟩)
  · exact EZ cf13 rfl rfl rfl rfl rfl (by kernel_rfl) (fun a v hB hE hD => FG (G.out v hB))
  · exact Fm (op := .unOp .not 4 (.tmp 13)) rfl rfl (fun _ => rfl) (.dep 0 rfl (by kernel_rfl)) rfl (by kernel_rfl) (fun a w e => by unfold execOp bare;dsimp only;rw[e];go_simp <;> rfl)
  have e13 : val0 13 = .bool true :=hF 0 _ rfl;have e14 : val0 14 = .bool false :=hF 1 _ rfl;clear hF;generalize val0 13 =t13 at *
  generalize val0 14 =t14 at *
  subst e13 e14;replace V0 :=Lib.hid (fun w' (hb : Below W0.heap.size W0 w') => V0.out w' (Jd hB hb));replace V1 :=Lib.hid (fun w' (hb : Below W0.heap.size W0 w') => V1.out w' (Jd hB hb));replace V2 :=Lib.hid (fun w' (hb : Below W0.heap.size W0 w') => V2.out w' (Jd hB hb));replace K :=Lib.hid (Jd K.out hB);replace G :=Lib.hid (fun w' (hb : Below W0.heap.size W0 w') => G.out w' (Jd hB hb));clear hB;refine Last.nil (by kernel_rfl) ?_;go_upto_region 3 with fail
  refine E8 117 [(15, false, 0), (16, false, 0), (7, false, 0), (7, true, 2)] [2]
    [Fct.val (Ja #[Ji .i8 n0, Ji .i8 n1, Ji .i8 n2, Ji .i8 n3, Ji .i8 n4, Ji .i8 n5, Ji .u8 d]),
    Fct.num [] 4 [a0, a1, a2, a3, a4, a5],
    Fct.ptr 24,
    Fct.var [] 4 [a0, a1, a2, a3, a4, a5]]
    0 rfl (by kernel_rfl) rfl ⟨?_, ?_, ?_, ?_, trivial⟩
    (fun val1 => ⟨#[Ja #[Ji .i8 n0, Ji .i8 n1, Ji .i8 n2, Ji .i8 n3, Ji .i8 n4, Ji .i8 n5, Ji .u8 d], Ja #[Ji .i8 x0, Ji .i8 x1, Ji .i8 x2, Ji .i8 y0, Ji .i8 y1, Ji .i8 y2], Ja #[Ji .i8 f0, Ji .i8 f1, Ji .i8 f2, Ji .i8 g0, Ji .i8 g1, Ji .i8 g2], Jp (Jo ⟨w.heap.size, 0, Jn⟩), Jp (Jo ⟨w.heap.size + 1, 0, Jn⟩), Jp (Jo ⟨w.heap.size + 1 + 1, 0, Jn⟩), .bool false, val1 7, undef, undef, undef, undef, undef, .bool true, .bool false, val1 15, val1 16, undef, undef, undef, undef, undef, undef, undef, undef, undef, undef, undef, undef, undef, undef, undef, undef, undef, undef, undef, undef, undef, undef, undef, undef, undef, undef, undef, undef, undef, undef, undef, undef, undef, undef, undef, undef, undef, undef, undef, undef, undef, undef, undef, undef, undef, undef, undef, undef, undef, undef, undef, undef, undef, undef, undef, undef, undef, undef, undef, undef, undef, undef, undef, undef, undef, undef, undef, undef, undef, undef, undef, undef, undef, undef, undef, undef, undef, undef, undef, undef, undef, undef, undef, undef, undef, undef, undef, undef, undef, undef, undef, undef, undef, undef, undef, undef, undef, undef, undef, undef], []⟩) (fun val1 => by kernel_rfl) (fun val1 W1 hB hF => ⟨?_⟩)
  · exact Fk 7 V0.out (.env rfl (by kernel_rfl)) rfl rfl rfl (by kernel_rfl) (by kernel_rfl) rfl (by kernel_rfl)
  · exact EZ cf21 rfl rfl rfl rfl rfl (by kernel_rfl) (fun a v hB hE hD => (show Calls _ _ #[Act.at_ a 15] v _ from by rw[show Act.at_ a 15 =_ from hD 0 _ (by kernel_rfl) rfl];exact Ha.out v (G.out v hB)))
  · exact Fb [Ji Jl 0, Jp Jn, Ji Jl 0, Jp Jn, Ji Jl 0, Jp Jn, Ji Jl 0, Jp Jn, Ji Jl 0, Jp Jn, Ji Jl 0, Jp Jn, Ji Jl 0, Jp Jn, Ji Jl 0, Jp Jn, Ji Jl 0, Jp Jn, Ji Jl 0, Jp Jn, Ji Jl 0, Jp Jn, Ji Jl 0, Jp Jn] 37 rfl rfl rfl (by kernel_rfl) (by kernel_rfl) (fun a w => by go_simp)
  · exact E9 2 1 rfl rfl rfl rfl rfl (by kernel_rfl) (by kernel_rfl)
  obtain⟨p7, e7, V7⟩ : (Fct.var [] 4 [a0, a1, a2, a3, a4, a5]).P W1 (val1 7) :=hF 3 _ rfl;clear hF;generalize val1 7 =t7 at *
  subst e7;replace V0 :=Lib.hid (fun w' (hb : Below W1.heap.size W1 w') => V0.out w' (Jd hB hb));replace V1 :=Lib.hid (fun w' (hb : Below W1.heap.size W1 w') => V1.out w' (Jd hB hb));replace V2 :=Lib.hid (fun w' (hb : Below W1.heap.size W1 w') => V2.out w' (Jd hB hb));replace V7 :=Lib.hid (fun w' (hb : Below W1.heap.size W1 w') => V7.keep hb);replace K :=Lib.hid (Jd K.out hB);replace G :=Lib.hid (fun w' (hb : Below W1.heap.size W1 w') => G.out w' (Jd hB hb));clear hB;refine Last.nil (by kernel_rfl) ?_;go_upto_region 4 with fail
  refine Fy 117 [(17, false, 0), (18, false, 0), (19, false, 0), (20, false, 0), (21, false, 0), (22, false, 0), (23, false, 0), (24, false, 0), (25, false, 0), (26, false, 0), (27, false, 0), (28, false, 0), (29, false, 0), (30, false, 0), (8, false, 0), (9, false, 0), (8, true, 14), (9, true, 15)] [14, 15]
    [Fct.val (Jp (Jo ⟨w.heap.size + 1, 0, Jn⟩)),
    Fct.val (Ja #[Ji .i8 x0, Ji .i8 x1, Ji .i8 x2]),
    Fct.num [] 3 [xq0, xq1, xq2],
    Fct.val (Jp (Jo ⟨w.heap.size + 1 + 1, 0, Jn⟩)),
    Fct.val (Ja #[Ji .i8 f0, Ji .i8 f1, Ji .i8 f2]),
    Fct.num [] 3 [fq0, fq1, fq2],
    Fct.num [] 13 [xq1 * fq2-xq2 * fq1, xq2 * fq0-xq0 * fq2, xq0 * fq1-xq1 * fq0, fq0, fq1, fq2],
    Fct.val (Jp (Jo ⟨w.heap.size + 1, 3, Jn⟩)),
    Fct.val (Ja #[Ji .i8 y0, Ji .i8 y1, Ji .i8 y2]),
    Fct.num [] 3 [yq0, yq1, yq2],
    Fct.val (Jp (Jo ⟨w.heap.size + 1 + 1, 3, Jn⟩)),
    Fct.val (Ja #[Ji .i8 g0, Ji .i8 g1, Ji .i8 g2]),
    Fct.num [] 3 [gq0, gq1, gq2],
    Fct.num [] 13 [yq1 * gq2-yq2 * gq1, yq2 * gq0-yq0 * gq2, yq0 * gq1-yq1 * gq0, gq0, gq1, gq2],
    Fct.ptr 24,
    Fct.ptr 24,
    Fct.var [] 13 [xq1 * fq2-xq2 * fq1, xq2 * fq0-xq0 * fq2, xq0 * fq1-xq1 * fq0, fq0, fq1, fq2],
    Fct.var [] 13 [yq1 * gq2 - yq2 * gq1, yq2 * gq0 - yq0 * gq2, yq0 * gq1 - yq1 * gq0, gq0, gq1, gq2]]
    #[true, true, true, true, true, true, true, true, true, true, true, true, true, true, true, true, true, true] 0 rfl (by kernel_rfl) rfl (by kernel_rfl) ⟨?_, ?_, ?_, ?_, ?_, ?_, ?_, ?_, ?_, ?_, ?_, ?_, ?_, ?_, ?_, ?_, ?_, ?_, trivial⟩
    (fun val2 => ⟨#[Ja #[Ji .i8 n0, Ji .i8 n1, Ji .i8 n2, Ji .i8 n3, Ji .i8 n4, Ji .i8 n5, Ji .u8 d], Ja #[Ji .i8 x0, Ji .i8 x1, Ji .i8 x2, Ji .i8 y0, Ji .i8 y1, Ji .i8 y2], Ja #[Ji .i8 f0, Ji .i8 f1, Ji .i8 f2, Ji .i8 g0, Ji .i8 g1, Ji .i8 g2], Jp (Jo ⟨w.heap.size, 0, Jn⟩), Jp (Jo ⟨w.heap.size + 1, 0, Jn⟩), Jp (Jo ⟨w.heap.size + 1 + 1, 0, Jn⟩), .bool false, Jp (Jo ⟨p7, 0, Jn⟩), val2 8, val2 9, undef, undef, undef, .bool true, .bool false, val1 15, val1 16, val2 17, val2 18, val2 19, val2 20, val2 21, val2 22, val2 23, val2 24, val2 25, val2 26, val2 27, val2 28, val2 29, val2 30, undef, undef, undef, undef, undef, undef, undef, undef, undef, undef, undef, undef, undef, undef, undef, undef, undef, undef, undef, undef, undef, undef, undef, undef, undef, undef, undef, undef, undef, undef, undef, undef, undef, undef, undef, undef, undef, undef, undef, undef, undef, undef, undef, undef, undef, undef, undef, undef, undef, undef, undef, undef, undef, undef, undef, undef, undef, undef, undef, undef, undef, undef, undef, undef, undef, undef, undef, undef, undef, undef, undef, undef, undef, undef, undef, undef, undef, undef, undef, undef, undef, undef, undef, undef, undef, undef], []⟩) (fun val2 => by kernel_rfl) (fun val2 W2 hB hF => ⟨?_⟩)
  · exact FA rfl rfl (.env rfl (by kernel_rfl)) rfl (by kernel_rfl) (fun _ _ _ _ => rfl) (fun w => by go_simp)
  · exact Fk 3 V1.out (.dep 0 rfl (by kernel_rfl)) rfl rfl rfl (by kernel_rfl) (by kernel_rfl) rfl (by kernel_rfl)
  · exact EZ cf22 rfl rfl rfl rfl rfl (by kernel_rfl) (fun a v hB hE hD => (show Calls _ _ #[Act.at_ a 18] v _ from by rw[show Act.at_ a 18 =_ from hD 1 _ (by kernel_rfl) rfl];exact Hx.out v (G.out v hB)))
  · exact FA rfl rfl (.env rfl (by kernel_rfl)) rfl (by kernel_rfl) (fun _ _ _ _ => rfl) (fun w => by go_simp)
  · exact Fk 3 V2.out (.dep 3 rfl (by kernel_rfl)) rfl rfl rfl (by kernel_rfl) (by kernel_rfl) rfl (by kernel_rfl)
  · exact EZ cf22 rfl rfl rfl rfl rfl (by kernel_rfl) (fun a v hB hE hD => (show Calls _ _ #[Act.at_ a 21] v _ from by rw[show Act.at_ a 21 =_ from hD 4 _ (by kernel_rfl) rfl];exact Hf.out v (G.out v hB)))
  · exact EZ cf28 rfl rfl rfl rfl rfl (by kernel_rfl) (fun a v hB hE hD => c_force (hD 2 _ (by kernel_rfl) rfl) (hD 5 _ (by kernel_rfl) rfl) (by kernel_rfl) (G.out v hB))
  · exact FA rfl rfl (.env rfl (by kernel_rfl)) rfl (by kernel_rfl) (fun _ _ _ _ => rfl) (fun w => by go_simp)
  · exact Fk 3 V1.out (.dep 7 rfl (by kernel_rfl)) rfl rfl rfl (by kernel_rfl) (by kernel_rfl) rfl (by kernel_rfl)
  · exact EZ cf22 rfl rfl rfl rfl rfl (by kernel_rfl) (fun a v hB hE hD => (show Calls _ _ #[Act.at_ a 25] v _ from by rw[show Act.at_ a 25 =_ from hD 8 _ (by kernel_rfl) rfl];exact Hy.out v (G.out v hB)))
  · exact FA rfl rfl (.env rfl (by kernel_rfl)) rfl (by kernel_rfl) (fun _ _ _ _ => rfl) (fun w => by go_simp)
  · exact Fk 3 V2.out (.dep 10 rfl (by kernel_rfl)) rfl rfl rfl (by kernel_rfl) (by kernel_rfl) rfl (by kernel_rfl)
  · exact EZ cf22 rfl rfl rfl rfl rfl (by kernel_rfl) (fun a v hB hE hD => (show Calls _ _ #[Act.at_ a 28] v _ from by rw[show Act.at_ a 28 =_ from hD 11 _ (by kernel_rfl) rfl];exact Hg.out v (G.out v hB)))
  · exact EZ cf28 rfl rfl rfl rfl rfl (by kernel_rfl) (fun a v hB hE hD => c_force (hD 9 _ (by kernel_rfl) rfl) (hD 12 _ (by kernel_rfl) rfl) (by kernel_rfl) (G.out v hB))
  · exact Fb [Ji Jl 0, Jp Jn, Ji Jl 0, Jp Jn, Ji Jl 0, Jp Jn, Ji Jl 0, Jp Jn, Ji Jl 0, Jp Jn, Ji Jl 0, Jp Jn, Ji Jl 0, Jp Jn, Ji Jl 0, Jp Jn, Ji Jl 0, Jp Jn, Ji Jl 0, Jp Jn, Ji Jl 0, Jp Jn, Ji Jl 0, Jp Jn] 41 rfl rfl rfl (by kernel_rfl) (by kernel_rfl) (fun a w => by go_simp)
  · exact Fb [Ji Jl 0, Jp Jn, Ji Jl 0, Jp Jn, Ji Jl 0, Jp Jn, Ji Jl 0, Jp Jn, Ji Jl 0, Jp Jn, Ji Jl 0, Jp Jn, Ji Jl 0, Jp Jn, Ji Jl 0, Jp Jn, Ji Jl 0, Jp Jn, Ji Jl 0, Jp Jn, Ji Jl 0, Jp Jn, Ji Jl 0, Jp Jn] 41 rfl rfl rfl (by kernel_rfl) (by kernel_rfl) (fun a w => by go_simp)
  · exact E9 14 6 rfl rfl rfl rfl rfl (by kernel_rfl) (by kernel_rfl)
  · exact E9 15 13 rfl rfl rfl rfl rfl (by kernel_rfl) (by kernel_rfl)
  obtain⟨p8, e8, V8⟩ : (Fct.var [] 13 [xq1 * fq2-xq2 * fq1, xq2 * fq0-xq0 * fq2, xq0 * fq1-xq1 * fq0, fq0, fq1, fq2]).P W2 (val2 8) :=hF 16 _ rfl;obtain⟨p9, e9, V9⟩ : (Fct.var [] 13 [yq1 * gq2-yq2 * gq1, yq2 * gq0-yq0 * gq2, yq0 * gq1-yq1 * gq0, gq0, gq1, gq2]).P W2 (val2 9) :=hF 17 _ rfl;clear hF;generalize val2 8 =t8 at *
  generalize val2 9 =t9 at *
  subst e8 e9;replace V0 :=Lib.hid (fun w' (hb : Below W2.heap.size W2 w') => V0.out w' (Jd hB hb));replace V1 :=Lib.hid (fun w' (hb : Below W2.heap.size W2 w') => V1.out w' (Jd hB hb));replace V2 :=Lib.hid (fun w' (hb : Below W2.heap.size W2 w') => V2.out w' (Jd hB hb));replace V7 :=Lib.hid (fun w' (hb : Below W2.heap.size W2 w') => V7.out w' (Jd hB hb));replace V8 :=Lib.hid (fun w' (hb : Below W2.heap.size W2 w') => V8.keep hb);replace V9 :=Lib.hid (fun w' (hb : Below W2.heap.size W2 w') => V9.keep hb);replace K :=Lib.hid (Jd K.out hB);replace G :=Lib.hid (fun w' (hb : Below W2.heap.size W2 w') => G.out w' (Jd hB hb));clear hB;refine Last.nil (by kernel_rfl) ?_;go_upto_region 5 with fail
  refine LK 117 [(31, false, 0), (32, false, 0)] [] [Fct.num [] 13 [xq1 * fq2-xq2 * fq1, xq2 * fq0-xq0 * fq2, xq0 * fq1-xq1 * fq0, fq0, fq1, fq2], Fct.num [] 13 [yq1 * gq2-yq2 * gq1, yq2 * gq0-yq0 * gq2, yq0 * gq1-yq1 * gq0, gq0, gq1, gq2]] 4 rfl (by kernel_rfl) rfl ⟨?_, ?_, trivial⟩
    (fun valS => ⟨#[Ja #[Ji .i8 n0, Ji .i8 n1, Ji .i8 n2, Ji .i8 n3, Ji .i8 n4, Ji .i8 n5, Ji .u8 d], Ja #[Ji .i8 x0, Ji .i8 x1, Ji .i8 x2, Ji .i8 y0, Ji .i8 y1, Ji .i8 y2], Ja #[Ji .i8 f0, Ji .i8 f1, Ji .i8 f2, Ji .i8 g0, Ji .i8 g1, Ji .i8 g2], Jp (Jo ⟨w.heap.size, 0, Jn⟩), Jp (Jo ⟨w.heap.size + 1, 0, Jn⟩), Jp (Jo ⟨w.heap.size + 1 + 1, 0, Jn⟩), .bool false, Jp (Jo ⟨p7, 0, Jn⟩), Jp (Jo ⟨p8, 0, Jn⟩), Jp (Jo ⟨p9, 0, Jn⟩), undef, undef, undef, .bool true, .bool false, val1 15, val1 16, val2 17, val2 18, val2 19, val2 20, val2 21, val2 22, val2 23, val2 24, val2 25, val2 26, val2 27, val2 28, val2 29, val2 30, valS 31, valS 32, undef, undef, undef, undef, undef, undef, undef, undef, undef, undef, undef, undef, undef, undef, undef, undef, undef, undef, undef, undef, undef, undef, undef, undef, undef, undef, undef, undef, undef, undef, undef, undef, undef, undef, undef, undef, undef, undef, undef, undef, undef, undef, undef, undef, undef, undef, undef, undef, undef, undef, undef, undef, undef, undef, undef, undef, undef, undef, undef, undef, undef, undef, undef, undef, undef, undef, undef, undef, undef, undef, undef, undef, undef, undef, undef, undef, undef, undef, undef, undef, undef, undef, undef, undef], []⟩) (fun valS => by kernel_rfl) (fun valS WS hB hF => ⟨?_⟩)
  · exact E7 V8.out (.env rfl (by kernel_rfl)) rfl rfl rfl (by kernel_rfl) (by kernel_rfl)
  · exact E7 V9.out (.env rfl (by kernel_rfl)) rfl rfl rfl (by kernel_rfl) (by kernel_rfl)
  obtain⟨rs, e31, hr, fr⟩ : (Fct.num [] 13 [xq1 * fq2-xq2 * fq1, xq2 * fq0-xq0 * fq2, xq0 * fq1-xq1 * fq0, fq0, fq1, fq2]).P WS (valS 31) :=hF 0 _ rfl;obtain⟨rs', e32, hr', fr'⟩ : (Fct.num [] 13 [yq1 * gq2-yq2 * gq1, yq2 * gq0-yq0 * gq2, yq0 * gq1-yq1 * gq0, gq0, gq1, gq2]).P WS (valS 32) :=hF 1 _ rfl;clear hF;obtain⟨X0, X1, X2, X3, X4, X5, rfl⟩ :=Nn hr.len;obtain⟨Y0, Y1, Y2, Y3, Y4, Y5, rfl⟩ :=Nn hr'.len;generalize valS 31 =t31 at *
  generalize valS 32 =t32 at *
  have hV :=Fi.box (w :=WS) (hd := []) rfl (hr.app hr') (fun q hq => (List.mem_append.1 (show q ∈ [xq1 * fq2-xq2 * fq1, xq2 * fq0-xq0 * fq2, xq0 * fq1-xq1 * fq0, fq0, fq1, fq2] ++ [yq1 * gq2-yq2 * gq1, yq2 * gq0-yq0 * gq2, yq0 * gq1-yq1 * gq0, gq0, gq1, gq2]from hq)).elim (fr q) (fr' q)) 41;have b1 :=(Below.refl WS.heap.size WS).alloc (N0 _) (Jc (flat ([X0, X1, X2, X3, X4, X5] ++ [Y0, Y1, Y2, Y3, Y4, Y5])).toArray 41);refine Nd (u := .slice (Jo ⟨WS.heap.size, 0, Jn⟩) 2 2) (w' :=WS.alloc (Jc (flat ([X0, X1, X2, X3, X4, X5] ++ [Y0, Y1, Y2, Y3, Y4, Y5])).toArray 41)) rfl rfl (Nj X0 X1 X2 X3 X4 X5 Y0 Y1 Y2 Y3 Y4 Y5 WS rfl rfl rfl e31 e32) ?_;refine Nh cf29 rfl rfl rfl rfl rfl (Nl hV (G.out _ (Jd hB b1))) (fun u34 v hb hP => ?_);obtain⟨cs, e34, hl, hpl, ht, hVn, hbn⟩ :=Nk hP [Ji Jl 0, Jp Jn, Ji Jl 0, Jp Jn, Ji Jl 0, Jp Jn, Ji Jl 0, Jp Jn, Ji Jl 0, Jp Jn, Ji Jl 0, Jp Jn, Ji Jl 0, Jp Jn, Ji Jl 0, Jp Jn, Ji Jl 0, Jp Jn, Ji Jl 0, Jp Jn, Ji Jl 0, Jp Jn, Ji Jl 0, Jp Jn] 41 rfl rfl;refine Nd (u :=Jp (Jo ⟨v.heap.size, 0, Jn⟩)) (w' :=v.alloc (Jc #[Value.int Jl 0, Jp Jn, Ji Jl 0, Jp Jn, Ji Jl 0, Jp Jn, Ji Jl 0, Jp Jn, Ji Jl 0, Jp Jn, Ji Jl 0, Jp Jn, Ji Jl 0, Jp Jn, Ji Jl 0, Jp Jn, Ji Jl 0, Jp Jn, Ji Jl 0, Jp Jn, Ji Jl 0, Jp Jn, Ji Jl 0, Jp Jn] 41)) rfl rfl (by go_simp) ?_;refine Ng (m :=24) v.heap.size 0 cs rfl rfl rfl rfl rfl e34 hl ht (by kernel_rfl) hpl (DW ?_);generalize World.setCells _ _ _ _ =WF at *
  have hB :=Jd (Jd (Jd hB b1) hb) hbn;obtain⟨p10, e10, V10⟩ : ∃p, v.heap.size =p /\ Fi WF p [] 29 [(0 + (xq1 * fq2-xq2 * fq1)) + (yq1 * gq2-yq2 * gq1), (0 + (xq2 * fq0-xq0 * fq2)) + (yq2 * gq0-yq0 * gq2), (0 + (xq0 * fq1-xq1 * fq0)) + (yq0 * gq1-yq1 * gq0), (0 + fq0) + gq0, (0 + fq1) + gq1, (0 + fq2) + gq2] :=⟨_, rfl, hVn⟩;obtain⟨p33, e33⟩ : ∃p, WS.heap.size =p :=⟨_, rfl⟩;rw[e10, e33];clear hV b1 hb hP ht hVn hbn e31 e32 e34 hl hpl hr hr' fr fr' e10 e33;replace V0 :=Lib.hid (fun w' (hb : Below WF.heap.size WF w') => V0.out w' (Jd hB hb));replace V1 :=Lib.hid (fun w' (hb : Below WF.heap.size WF w') => V1.out w' (Jd hB hb));replace V2 :=Lib.hid (fun w' (hb : Below WF.heap.size WF w') => V2.out w' (Jd hB hb));replace V7 :=Lib.hid (fun w' (hb : Below WF.heap.size WF w') => V7.out w' (Jd hB hb));replace V8 :=Lib.hid (fun w' (hb : Below WF.heap.size WF w') => V8.out w' (Jd hB hb));replace V9 :=Lib.hid (fun w' (hb : Below WF.heap.size WF w') => V9.out w' (Jd hB hb));replace V10 :=Lib.hid (fun w' (hb : Below WF.heap.size WF w') => V10.keep hb);replace K :=Lib.hid (Jd K.out hB);replace G :=Lib.hid (fun w' (hb : Below WF.heap.size WF w') => G.out w' (Jd hB hb));clear hB;go_upto_region 6 with fail
  refine Fy 117 [(35, false, 0), (36, false, 0), (37, false, 0), (38, false, 0), (39, false, 0), (40, false, 0), (41, false, 0), (42, false, 0), (43, false, 0), (44, false, 0), (45, false, 0), (46, false, 0), (47, false, 0), (48, false, 0), (49, false, 0), (50, false, 0), (51, false, 0), (52, false, 0), (53, false, 0), (11, false, 0), (11, true, 19)] [19]
    [Fct.val (Jp (Jo ⟨w.heap.size + 1 + 1, 0, Jn⟩)),
    Fct.val (Ja #[Ji .i8 f0, Ji .i8 f1, Ji .i8 f2]),
    Fct.num [] 3 [fq0, fq1, fq2],
    Fct.num [] 4 [a0, a1, a2, a3, a4, a5],
    Fct.val (Jp (Jo ⟨w.heap.size + 1, 0, Jn⟩)),
    Fct.val (Ja #[Ji .i8 x0, Ji .i8 x1, Ji .i8 x2]),
    Fct.num [] 3 [xq0, xq1, xq2],
    Fct.num [] 20 [a3 + (a1 * xq2-a2 * xq1), a4 + (a2 * xq0-a0 * xq2), a5 + (a0 * xq1-a1 * xq0)],
    Fct.num [] 71 [fq0 * (a3 + (a1 * xq2-a2 * xq1)) + fq1 * (a4 + (a2 * xq0-a0 * xq2)) + fq2 * (a5 + (a0 * xq1-a1 * xq0))],
    Fct.val (Jp (Jo ⟨w.heap.size + 1 + 1, 3, Jn⟩)),
    Fct.val (Ja #[Ji .i8 g0, Ji .i8 g1, Ji .i8 g2]),
    Fct.num [] 3 [gq0, gq1, gq2],
    Fct.num [] 4 [a0, a1, a2, a3, a4, a5],
    Fct.val (Jp (Jo ⟨w.heap.size + 1, 3, Jn⟩)),
    Fct.val (Ja #[Ji .i8 y0, Ji .i8 y1, Ji .i8 y2]),
    Fct.num [] 3 [yq0, yq1, yq2],
    Fct.num [] 20 [a3 + (a1 * yq2-a2 * yq1), a4 + (a2 * yq0-a0 * yq2), a5 + (a0 * yq1-a1 * yq0)],
    Fct.num [] 71 [gq0 * (a3 + (a1 * yq2-a2 * yq1)) + gq1 * (a4 + (a2 * yq0-a0 * yq2)) + gq2 * (a5 + (a0 * yq1-a1 * yq0))],
    Fct.num [] 143 [(fq0 * (a3 + (a1 * xq2-a2 * xq1)) + fq1 * (a4 + (a2 * xq0-a0 * xq2)) + fq2 * (a5 + (a0 * xq1-a1 * xq0))) + (gq0 * (a3 + (a1 * yq2-a2 * yq1)) + gq1 * (a4 + (a2 * yq0-a0 * yq2)) + gq2 * (a5 + (a0 * yq1-a1 * yq0)))],
    Fct.ptr 4,
    Fct.var [] 143 [(fq0 * (a3 + (a1 * xq2 - a2 * xq1)) + fq1 * (a4 + (a2 * xq0 - a0 * xq2)) + fq2 * (a5 + (a0 * xq1 - a1 * xq0))) + (gq0 * (a3 + (a1 * yq2 - a2 * yq1)) + gq1 * (a4 + (a2 * yq0 - a0 * yq2)) + gq2 * (a5 + (a0 * yq1 - a1 * yq0)))]]
    #[true, true, true, true, true, true, true, true, true, true, true, true, true, true, true, true, true, true, true, true, true] 0 rfl (by kernel_rfl) rfl (by kernel_rfl) ⟨?_, ?_, ?_, ?_, ?_, ?_, ?_, ?_, ?_, ?_, ?_, ?_, ?_, ?_, ?_, ?_, ?_, ?_, ?_, ?_, ?_, trivial⟩
    (fun val3 => ⟨#[Ja #[Ji .i8 n0, Ji .i8 n1, Ji .i8 n2, Ji .i8 n3, Ji .i8 n4, Ji .i8 n5, Ji .u8 d], Ja #[Ji .i8 x0, Ji .i8 x1, Ji .i8 x2, Ji .i8 y0, Ji .i8 y1, Ji .i8 y2], Ja #[Ji .i8 f0, Ji .i8 f1, Ji .i8 f2, Ji .i8 g0, Ji .i8 g1, Ji .i8 g2], Jp (Jo ⟨w.heap.size, 0, Jn⟩), Jp (Jo ⟨w.heap.size + 1, 0, Jn⟩), Jp (Jo ⟨w.heap.size + 1 + 1, 0, Jn⟩), .bool false, Jp (Jo ⟨p7, 0, Jn⟩), Jp (Jo ⟨p8, 0, Jn⟩), Jp (Jo ⟨p9, 0, Jn⟩), Jp (Jo ⟨p10, 0, Jn⟩), val3 11, undef, .bool true, .bool false, val1 15, val1 16, val2 17, val2 18, val2 19, val2 20, val2 21, val2 22, val2 23, val2 24, val2 25, val2 26, val2 27, val2 28, val2 29, val2 30, t31, t32, .slice (Jo ⟨p33, 0, Jn⟩) 2 2, u34, val3 35, val3 36, val3 37, val3 38, val3 39, val3 40, val3 41, val3 42, val3 43, val3 44, val3 45, val3 46, val3 47, val3 48, val3 49, val3 50, val3 51, val3 52, val3 53, undef, undef, undef, undef, undef, undef, undef, undef, undef, undef, undef, undef, undef, undef, undef, undef, undef, undef, undef, undef, undef, undef, undef, undef, undef, undef, undef, undef, undef, undef, undef, undef, undef, undef, undef, undef, undef, undef, undef, undef, undef, undef, undef, undef, undef, undef, undef, undef, undef, undef, undef, undef, undef, undef, undef, undef, undef, undef, undef, undef, undef, undef, undef], []⟩) (fun val3 => by kernel_rfl) (fun val3 W3 hB hF => ⟨?_⟩)
  · exact FA rfl rfl (.env rfl (by kernel_rfl)) rfl (by kernel_rfl) (fun _ _ _ _ => rfl) (fun w => by go_simp)
  · exact Fk 3 V2.out (.dep 0 rfl (by kernel_rfl)) rfl rfl rfl (by kernel_rfl) (by kernel_rfl) rfl (by kernel_rfl)
  · exact EZ cf22 rfl rfl rfl rfl rfl (by kernel_rfl) (fun a v hB hE hD => (show Calls _ _ #[Act.at_ a 36] v _ from by rw[show Act.at_ a 36 =_ from hD 1 _ (by kernel_rfl) rfl];exact Hf.out v (G.out v hB)))
  · exact E7 V7.out (.env rfl (by kernel_rfl)) rfl rfl rfl (by kernel_rfl) (by kernel_rfl)
  · exact FA rfl rfl (.env rfl (by kernel_rfl)) rfl (by kernel_rfl) (fun _ _ _ _ => rfl) (fun w => by go_simp)
  · exact Fk 3 V1.out (.dep 4 rfl (by kernel_rfl)) rfl rfl rfl (by kernel_rfl) (by kernel_rfl) rfl (by kernel_rfl)
  · exact EZ cf22 rfl rfl rfl rfl rfl (by kernel_rfl) (fun a v hB hE hD => (show Calls _ _ #[Act.at_ a 40] v _ from by rw[show Act.at_ a 40 =_ from hD 5 _ (by kernel_rfl) rfl];exact Hx.out v (G.out v hB)))
  · exact EZ cf25 rfl rfl rfl rfl rfl (by kernel_rfl) (fun a v hB hE hD => L8 (hD 3 _ (by kernel_rfl) rfl) (hD 6 _ (by kernel_rfl) rfl) (by kernel_rfl) (G.out v hB))
  · exact EZ cf31 rfl rfl rfl rfl rfl (by kernel_rfl) (fun a v hB hE hD => FZ (hD 2 _ (by kernel_rfl) rfl) (hD 7 _ (by kernel_rfl) rfl) (by kernel_rfl) (G.out v hB))
  · exact FA rfl rfl (.env rfl (by kernel_rfl)) rfl (by kernel_rfl) (fun _ _ _ _ => rfl) (fun w => by go_simp)
  · exact Fk 3 V2.out (.dep 9 rfl (by kernel_rfl)) rfl rfl rfl (by kernel_rfl) (by kernel_rfl) rfl (by kernel_rfl)
  · exact EZ cf22 rfl rfl rfl rfl rfl (by kernel_rfl) (fun a v hB hE hD => (show Calls _ _ #[Act.at_ a 45] v _ from by rw[show Act.at_ a 45 =_ from hD 10 _ (by kernel_rfl) rfl];exact Hg.out v (G.out v hB)))
  · exact E7 V7.out (.env rfl (by kernel_rfl)) rfl rfl rfl (by kernel_rfl) (by kernel_rfl)
  · exact FA rfl rfl (.env rfl (by kernel_rfl)) rfl (by kernel_rfl) (fun _ _ _ _ => rfl) (fun w => by go_simp)
  · exact Fk 3 V1.out (.dep 13 rfl (by kernel_rfl)) rfl rfl rfl (by kernel_rfl) (by kernel_rfl) rfl (by kernel_rfl)
  · exact EZ cf22 rfl rfl rfl rfl rfl (by kernel_rfl) (fun a v hB hE hD => (show Calls _ _ #[Act.at_ a 49] v _ from by rw[show Act.at_ a 49 =_ from hD 14 _ (by kernel_rfl) rfl];exact Hy.out v (G.out v hB)))
  · exact EZ cf25 rfl rfl rfl rfl rfl (by kernel_rfl) (fun a v hB hE hD => L8 (hD 12 _ (by kernel_rfl) rfl) (hD 15 _ (by kernel_rfl) rfl) (by kernel_rfl) (G.out v hB))
  · exact EZ cf31 rfl rfl rfl rfl rfl (by kernel_rfl) (fun a v hB hE hD => FZ (hD 11 _ (by kernel_rfl) rfl) (hD 16 _ (by kernel_rfl) rfl) (by kernel_rfl) (G.out v hB))
  · exact EZ cf30 rfl rfl rfl rfl rfl (by kernel_rfl) (fun a v hB hE hD => L7 (hD 8 _ (by kernel_rfl) rfl) (hD 17 _ (by kernel_rfl) rfl) (by kernel_rfl) (G.out v hB))
  · exact Fb [Ji Jl 0, Jp Jn, Ji Jl 0, Jp Jn] 31 rfl rfl rfl (by kernel_rfl) (by kernel_rfl) (fun a w => by go_simp)
  · exact E9 19 18 rfl rfl rfl rfl rfl (by kernel_rfl) (by kernel_rfl)
  obtain⟨p11, e11, V11⟩ : (Fct.var [] 143 [(fq0 * (a3 + (a1 * xq2-a2 * xq1)) + fq1 * (a4 + (a2 * xq0-a0 * xq2)) + fq2 * (a5 + (a0 * xq1-a1 * xq0))) + (gq0 * (a3 + (a1 * yq2-a2 * yq1)) + gq1 * (a4 + (a2 * yq0-a0 * yq2)) + gq2 * (a5 + (a0 * yq1-a1 * yq0)))]).P W3 (val3 11) :=hF 20 _ rfl;clear hF;generalize val3 11 =t11 at *
  subst e11;replace V0 :=Lib.hid (fun w' (hb : Below W3.heap.size W3 w') => V0.out w' (Jd hB hb));replace V1 :=Lib.hid (fun w' (hb : Below W3.heap.size W3 w') => V1.out w' (Jd hB hb));replace V2 :=Lib.hid (fun w' (hb : Below W3.heap.size W3 w') => V2.out w' (Jd hB hb));replace V7 :=Lib.hid (fun w' (hb : Below W3.heap.size W3 w') => V7.out w' (Jd hB hb));replace V8 :=Lib.hid (fun w' (hb : Below W3.heap.size W3 w') => V8.out w' (Jd hB hb));replace V9 :=Lib.hid (fun w' (hb : Below W3.heap.size W3 w') => V9.out w' (Jd hB hb));replace V10 :=Lib.hid (fun w' (hb : Below W3.heap.size W3 w') => V10.out w' (Jd hB hb));replace V11 :=Lib.hid (fun w' (hb : Below W3.heap.size W3 w') => V11.keep hb);replace K :=Lib.hid (Jd K.out hB);replace G :=Lib.hid (fun w' (hb : Below W3.heap.size W3 w') => G.out w' (Jd hB hb));clear hB;refine Last.nil (by kernel_rfl) ?_;go_upto_region 7 with fail
  refine E8 117 [(54, false, 0), (12, false, 0), (12, true, 1)] [1]
    [Fct.num [] 1 [0, 0, 0, 0, 0, 0],
    Fct.ptr 24,
    Fct.var [] 1 [0, 0, 0, 0, 0, 0]]
    0 rfl (by kernel_rfl) rfl ⟨?_, ?_, ?_, trivial⟩
    (fun val4 => ⟨#[Ja #[Ji .i8 n0, Ji .i8 n1, Ji .i8 n2, Ji .i8 n3, Ji .i8 n4, Ji .i8 n5, Ji .u8 d], Ja #[Ji .i8 x0, Ji .i8 x1, Ji .i8 x2, Ji .i8 y0, Ji .i8 y1, Ji .i8 y2], Ja #[Ji .i8 f0, Ji .i8 f1, Ji .i8 f2, Ji .i8 g0, Ji .i8 g1, Ji .i8 g2], Jp (Jo ⟨w.heap.size, 0, Jn⟩), Jp (Jo ⟨w.heap.size + 1, 0, Jn⟩), Jp (Jo ⟨w.heap.size + 1 + 1, 0, Jn⟩), .bool false, Jp (Jo ⟨p7, 0, Jn⟩), Jp (Jo ⟨p8, 0, Jn⟩), Jp (Jo ⟨p9, 0, Jn⟩), Jp (Jo ⟨p10, 0, Jn⟩), Jp (Jo ⟨p11, 0, Jn⟩), val4 12, .bool true, .bool false, val1 15, val1 16, val2 17, val2 18, val2 19, val2 20, val2 21, val2 22, val2 23, val2 24, val2 25, val2 26, val2 27, val2 28, val2 29, val2 30, t31, t32, .slice (Jo ⟨p33, 0, Jn⟩) 2 2, u34, val3 35, val3 36, val3 37, val3 38, val3 39, val3 40, val3 41, val3 42, val3 43, val3 44, val3 45, val3 46, val3 47, val3 48, val3 49, val3 50, val3 51, val3 52, val3 53, val4 54, undef, undef, undef, undef, undef, undef, undef, undef, undef, undef, undef, undef, undef, undef, undef, undef, undef, undef, undef, undef, undef, undef, undef, undef, undef, undef, undef, undef, undef, undef, undef, undef, undef, undef, undef, undef, undef, undef, undef, undef, undef, undef, undef, undef, undef, undef, undef, undef, undef, undef, undef, undef, undef, undef, undef, undef, undef, undef, undef, undef, undef, undef], []⟩) (fun val4 => by kernel_rfl) (fun val4 W4 hB hF => ⟨?_⟩)
  · exact EZ cf29 rfl rfl rfl rfl rfl (by kernel_rfl) (fun a v hB hE hD => Nm (G.out v hB))
  · exact Fb [Ji Jl 0, Jp Jn, Ji Jl 0, Jp Jn, Ji Jl 0, Jp Jn, Ji Jl 0, Jp Jn, Ji Jl 0, Jp Jn, Ji Jl 0, Jp Jn, Ji Jl 0, Jp Jn, Ji Jl 0, Jp Jn, Ji Jl 0, Jp Jn, Ji Jl 0, Jp Jn, Ji Jl 0, Jp Jn, Ji Jl 0, Jp Jn] 41 rfl rfl rfl (by kernel_rfl) (by kernel_rfl) (fun a w => by go_simp)
  · exact E9 1 0 rfl rfl rfl rfl rfl (by kernel_rfl) (by kernel_rfl)
  obtain⟨p12, e12, V12⟩ : (Fct.var [] 1 [0, 0, 0, 0, 0, 0]).P W4 (val4 12) :=hF 2 _ rfl;clear hF;generalize val4 12 =t12 at *
  subst e12;replace V0 :=Lib.hid (fun w' (hb : Below W4.heap.size W4 w') => V0.out w' (Jd hB hb));replace V1 :=Lib.hid (fun w' (hb : Below W4.heap.size W4 w') => V1.out w' (Jd hB hb));replace V2 :=Lib.hid (fun w' (hb : Below W4.heap.size W4 w') => V2.out w' (Jd hB hb));replace V7 :=Lib.hid (fun w' (hb : Below W4.heap.size W4 w') => V7.out w' (Jd hB hb));replace V8 :=Lib.hid (fun w' (hb : Below W4.heap.size W4 w') => V8.out w' (Jd hB hb));replace V9 :=Lib.hid (fun w' (hb : Below W4.heap.size W4 w') => V9.out w' (Jd hB hb));replace V10 :=Lib.hid (fun w' (hb : Below W4.heap.size W4 w') => V10.out w' (Jd hB hb));replace V11 :=Lib.hid (fun w' (hb : Below W4.heap.size W4 w') => V11.out w' (Jd hB hb));replace V12 :=Lib.hid (fun w' (hb : Below W4.heap.size W4 w') => V12.keep hb);replace K :=Lib.hid (Jd K.out hB);replace G :=Lib.hid (fun w' (hb : Below W4.heap.size W4 w') => G.out w' (Jd hB hb));clear hB;refine Last.nil (by kernel_rfl) ?_;go_upto_region 8 with fail
  refine Fy 117 [(55, false, 0), (56, false, 0), (57, false, 0), (58, false, 0), (59, false, 0), (60, false, 0), (61, false, 0), (62, false, 0), (63, false, 0), (64, false, 0), (65, false, 0), (66, false, 0), (67, false, 0), (68, false, 0), (69, false, 0), (70, false, 0), (71, false, 0), (72, false, 0), (73, false, 0), (74, false, 0), (75, false, 0), (76, false, 0), (77, false, 0), (78, false, 0), (79, false, 0), (80, false, 0), (81, false, 0), (82, false, 0), (83, false, 0), (84, false, 0), (85, false, 0), (86, false, 0), (87, false, 0), (88, false, 0), (89, false, 0), (90, false, 0), (91, false, 0), (92, false, 0), (93, false, 0), (94, false, 0), (95, false, 0), (96, false, 0), (97, false, 0), (98, false, 0), (99, false, 0), (100, false, 0), (101, false, 0), (102, false, 0), (103, false, 0), (104, false, 0), (105, false, 0), (106, false, 0), (107, false, 0), (108, false, 0), (109, false, 0), (110, false, 0), (111, false, 0), (112, false, 0), (113, false, 0), (114, false, 0), (115, false, 0), (116, false, 0), (6, false, 0)] []
    [Fct.val (Jp (Jo ⟨p8, 0, Jn⟩)),
    Fct.num [] 13 [xq1 * fq2-xq2 * fq1, xq2 * fq0-xq0 * fq2, xq0 * fq1-xq1 * fq0],
    Fct.val (Jp (Jo ⟨w.heap.size + 1, 0, Jn⟩)),
    Fct.val (Ja #[Ji .i8 x0, Ji .i8 x1, Ji .i8 x2]),
    Fct.num [] 3 [xq0, xq1, xq2],
    Fct.val (Jp (Jo ⟨w.heap.size + 1 + 1, 0, Jn⟩)),
    Fct.val (Ja #[Ji .i8 f0, Ji .i8 f1, Ji .i8 f2]),
    Fct.num [] 3 [fq0, fq1, fq2],
    Fct.num [] 13 [xq1 * fq2-xq2 * fq1, xq2 * fq0-xq0 * fq2, xq0 * fq1-xq1 * fq0],
    Fct.val (.bool true),
    Fct.val (.bool true),
    Fct.val (Jp (Jo ⟨p8, 12, Jn⟩)),
    Fct.num [] 13 [fq0, fq1, fq2],
    Fct.val (Jp (Jo ⟨w.heap.size + 1 + 1, 0, Jn⟩)),
    Fct.val (Ja #[Ji .i8 f0, Ji .i8 f1, Ji .i8 f2]),
    Fct.num [] 3 [fq0, fq1, fq2],
    Fct.val (.bool true),
    Fct.val (.bool true),
    Fct.val (.bool true),
    Fct.val (Jp (Jo ⟨p10, 12, Jn⟩)),
    Fct.num [] 29 [(0 + fq0) + gq0, (0 + fq1) + gq1, (0 + fq2) + gq2],
    Fct.val (Jp (Jo ⟨w.heap.size + 1 + 1, 0, Jn⟩)),
    Fct.val (Ja #[Ji .i8 f0, Ji .i8 f1, Ji .i8 f2]),
    Fct.num [] 3 [fq0, fq1, fq2],
    Fct.val (Jp (Jo ⟨w.heap.size + 1 + 1, 3, Jn⟩)),
    Fct.val (Ja #[Ji .i8 g0, Ji .i8 g1, Ji .i8 g2]),
    Fct.num [] 3 [gq0, gq1, gq2],
    Fct.num [] 7 [fq0 + gq0, fq1 + gq1, fq2 + gq2],
    Fct.val (.bool true),
    Fct.val (.bool true),
    Fct.val (.bool true),
    Fct.num [] 4 [a0, a1, a2, a3, a4, a5],
    Fct.num [] 29 [(0 + (xq1 * fq2-xq2 * fq1)) + (yq1 * gq2-yq2 * gq1), (0 + (xq2 * fq0-xq0 * fq2)) + (yq2 * gq0-yq0 * gq2), (0 + (xq0 * fq1-xq1 * fq0)) + (yq0 * gq1-yq1 * gq0), (0 + fq0) + gq0, (0 + fq1) + gq1, (0 + fq2) + gq2],
    Fct.num [] 203 [(((0 + (xq1 * fq2-xq2 * fq1)) + (yq1 * gq2-yq2 * gq1)) * a0 + ((0 + (xq2 * fq0-xq0 * fq2)) + (yq2 * gq0-yq0 * gq2)) * a1 + ((0 + (xq0 * fq1-xq1 * fq0)) + (yq0 * gq1-yq1 * gq0)) * a2) + (((0 + fq0) + gq0) * a3 + ((0 + fq1) + gq1) * a4 + ((0 + fq2) + gq2) * a5)],
    Fct.num [] 143 [(fq0 * (a3 + (a1 * xq2-a2 * xq1)) + fq1 * (a4 + (a2 * xq0-a0 * xq2)) + fq2 * (a5 + (a0 * xq1-a1 * xq0))) + (gq0 * (a3 + (a1 * yq2-a2 * yq1)) + gq1 * (a4 + (a2 * yq0-a0 * yq2)) + gq2 * (a5 + (a0 * yq1-a1 * yq0)))],
    Fct.val (.bool true),
    Fct.val (.bool true),
    Fct.val (.bool true),
    Fct.num [] 4 [a0, a1, a2, a3, a4, a5],
    Fct.num [] 13 [xq1 * fq2-xq2 * fq1, xq2 * fq0-xq0 * fq2, xq0 * fq1-xq1 * fq0, fq0, fq1, fq2],
    Fct.num [] 107 [((xq1 * fq2-xq2 * fq1) * a0 + (xq2 * fq0-xq0 * fq2) * a1 + (xq0 * fq1-xq1 * fq0) * a2) + (fq0 * a3 + fq1 * a4 + fq2 * a5)],
    Fct.val (Jp (Jo ⟨w.heap.size + 1 + 1, 0, Jn⟩)),
    Fct.val (Ja #[Ji .i8 f0, Ji .i8 f1, Ji .i8 f2]),
    Fct.num [] 3 [fq0, fq1, fq2],
    Fct.num [] 4 [a0, a1, a2, a3, a4, a5],
    Fct.val (Jp (Jo ⟨w.heap.size + 1, 0, Jn⟩)),
    Fct.val (Ja #[Ji .i8 x0, Ji .i8 x1, Ji .i8 x2]),
    Fct.num [] 3 [xq0, xq1, xq2],
    Fct.num [] 20 [a3 + (a1 * xq2-a2 * xq1), a4 + (a2 * xq0-a0 * xq2), a5 + (a0 * xq1-a1 * xq0)],
    Fct.num [] 71 [fq0 * (a3 + (a1 * xq2-a2 * xq1)) + fq1 * (a4 + (a2 * xq0-a0 * xq2)) + fq2 * (a5 + (a0 * xq1-a1 * xq0))],
    Fct.val (.bool true),
    Fct.val (.bool true),
    Fct.val (.bool true),
    Fct.val (Jp (Jo ⟨p12, 12, Jn⟩)),
    Fct.num [] 1 [0, 0, 0],
    Fct.val (.bool true),
    Fct.val (.bool true),
    Fct.val (.bool true),
    Fct.val (Jp (Jo ⟨p12, 0, Jn⟩)),
    Fct.num [] 1 [0, 0, 0],
    Fct.val (.bool true),
    Fct.val (.bool true),
    Fct.val (.bool true)]
    #[true, true, true, true, true, true, true, true, true, true, true, true, true, true, true, true, true, true, true, true, true, true, true, true, true, true, true, true, true, true, true, true, true, true, true, true, true, true, true, true, true, true, true, true, true, true, true, true, true, true, true, true, true, true, true, true, true, true, true, true, true, true, true] 0 rfl (by kernel_rfl) rfl (by kernel_rfl) ⟨?_, ?_, ?_, ?_, ?_, ?_, ?_, ?_, ?_, ?_, ?_, ?_, ?_, ?_, ?_, ?_, ?_, ?_, ?_, ?_, ?_, ?_, ?_, ?_, ?_, ?_, ?_, ?_, ?_, ?_, ?_, ?_, ?_, ?_, ?_, ?_, ?_, ?_, ?_, ?_, ?_, ?_, ?_, ?_, ?_, ?_, ?_, ?_, ?_, ?_, ?_, ?_, ?_, ?_, ?_, ?_, ?_, ?_, ?_, ?_, ?_, ?_, ?_, trivial⟩
    (fun val5 => ⟨#[Ja #[Ji .i8 n0, Ji .i8 n1, Ji .i8 n2, Ji .i8 n3, Ji .i8 n4, Ji .i8 n5, Ji .u8 d], Ja #[Ji .i8 x0, Ji .i8 x1, Ji .i8 x2, Ji .i8 y0, Ji .i8 y1, Ji .i8 y2], Ja #[Ji .i8 f0, Ji .i8 f1, Ji .i8 f2, Ji .i8 g0, Ji .i8 g1, Ji .i8 g2], Jp (Jo ⟨w.heap.size, 0, Jn⟩), Jp (Jo ⟨w.heap.size + 1, 0, Jn⟩), Jp (Jo ⟨w.heap.size + 1 + 1, 0, Jn⟩), val5 6, Jp (Jo ⟨p7, 0, Jn⟩), Jp (Jo ⟨p8, 0, Jn⟩), Jp (Jo ⟨p9, 0, Jn⟩), Jp (Jo ⟨p10, 0, Jn⟩), Jp (Jo ⟨p11, 0, Jn⟩), Jp (Jo ⟨p12, 0, Jn⟩), .bool true, .bool false, val1 15, val1 16, val2 17, val2 18, val2 19, val2 20, val2 21, val2 22, val2 23, val2 24, val2 25, val2 26, val2 27, val2 28, val2 29, val2 30, t31, t32, .slice (Jo ⟨p33, 0, Jn⟩) 2 2, u34, val3 35, val3 36, val3 37, val3 38, val3 39, val3 40, val3 41, val3 42, val3 43, val3 44, val3 45, val3 46, val3 47, val3 48, val3 49, val3 50, val3 51, val3 52, val3 53, val4 54, val5 55, val5 56, val5 57, val5 58, val5 59, val5 60, val5 61, val5 62, val5 63, val5 64, val5 65, val5 66, val5 67, val5 68, val5 69, val5 70, val5 71, val5 72, val5 73, val5 74, val5 75, val5 76, val5 77, val5 78, val5 79, val5 80, val5 81, val5 82, val5 83, val5 84, val5 85, val5 86, val5 87, val5 88, val5 89, val5 90, val5 91, val5 92, val5 93, val5 94, val5 95, val5 96, val5 97, val5 98, val5 99, val5 100, val5 101, val5 102, val5 103, val5 104, val5 105, val5 106, val5 107, val5 108, val5 109, val5 110, val5 111, val5 112, val5 113, val5 114, val5 115, val5 116], []⟩) (fun val5 => by kernel_rfl) (fun val5 W5 hB hF => ⟨?_⟩)
  · exact E4 rfl rfl (.env rfl (by kernel_rfl)) rfl (by kernel_rfl) (fun w => by go_simp)
  · exact E6 0 3 V8.out (.dep 0 rfl (by kernel_rfl)) rfl rfl rfl (by kernel_rfl) (by kernel_rfl) (by kernel_rfl)
  · exact FA rfl rfl (.env rfl (by kernel_rfl)) rfl (by kernel_rfl) (fun _ _ _ _ => rfl) (fun w => by go_simp)
  · exact Fk 3 V1.out (.dep 2 rfl (by kernel_rfl)) rfl rfl rfl (by kernel_rfl) (by kernel_rfl) rfl (by kernel_rfl)
  · exact EZ cf22 rfl rfl rfl rfl rfl (by kernel_rfl) (fun a v hB hE hD => (show Calls _ _ #[Act.at_ a 58] v _ from by rw[show Act.at_ a 58 =_ from hD 3 _ (by kernel_rfl) rfl];exact Hx.out v (G.out v hB)))
  · exact FA rfl rfl (.env rfl (by kernel_rfl)) rfl (by kernel_rfl) (fun _ _ _ _ => rfl) (fun w => by go_simp)
  · exact Fk 3 V2.out (.dep 5 rfl (by kernel_rfl)) rfl rfl rfl (by kernel_rfl) (by kernel_rfl) rfl (by kernel_rfl)
  · exact EZ cf22 rfl rfl rfl rfl rfl (by kernel_rfl) (fun a v hB hE hD => (show Calls _ _ #[Act.at_ a 61] v _ from by rw[show Act.at_ a 61 =_ from hD 6 _ (by kernel_rfl) rfl];exact Hf.out v (G.out v hB)))
  · exact EZ cf32 rfl rfl rfl rfl rfl (by kernel_rfl) (fun a v hB hE hD => FO (hD 4 _ (by kernel_rfl) rfl) (hD 7 _ (by kernel_rfl) rfl) (by kernel_rfl) (G.out v hB))
  · exact EZ cf23 rfl rfl rfl rfl rfl (by kernel_rfl) (fun a v hB hE hD => FX (hD 1 _ (by kernel_rfl) rfl) (hD 8 _ (by kernel_rfl) rfl) rfl rfl rfl (by kernel_rfl))
  · exact E5 9 rfl rfl rfl rfl (by kernel_rfl)
  · exact E4 rfl rfl (.env rfl (by kernel_rfl)) ⟨true, rfl, rfl, by kernel_rfl, rfl⟩ (by kernel_rfl) (fun w => by go_simp)
  · exact E6 3 3 V8.out (.dep 11 rfl (by kernel_rfl)) rfl rfl ⟨true, rfl, rfl, by kernel_rfl, rfl⟩ (by kernel_rfl) (by kernel_rfl) (by kernel_rfl)
  · exact FA rfl rfl (.env rfl (by kernel_rfl)) ⟨true, rfl, rfl, by kernel_rfl, rfl⟩ (by kernel_rfl) (fun _ _ _ _ => rfl) (fun w => by go_simp)
  · exact Fk 3 V2.out (.dep 13 rfl (by kernel_rfl)) rfl rfl ⟨true, rfl, rfl, by kernel_rfl, rfl⟩ (by kernel_rfl) (by kernel_rfl) rfl (by kernel_rfl)
  · exact EZ cf22 rfl rfl rfl rfl ⟨true, rfl, rfl, by kernel_rfl, rfl⟩ (by kernel_rfl) (fun a v hB hE hD => (show Calls _ _ #[Act.at_ a 69] v _ from by rw[show Act.at_ a 69 =_ from hD 14 _ (by kernel_rfl) rfl];exact Hf.out v (G.out v hB)))
  · exact EZ cf23 rfl rfl rfl rfl ⟨true, rfl, rfl, by kernel_rfl, rfl⟩ (by kernel_rfl) (fun a v hB hE hD => FX (hD 12 _ (by kernel_rfl) rfl) (hD 15 _ (by kernel_rfl) rfl) rfl rfl rfl (by kernel_rfl))
  · exact Fe 10 16 rfl rfl rfl rfl rfl (by kernel_rfl)
  · exact E5 17 rfl rfl rfl rfl (by kernel_rfl)
  · exact E4 rfl rfl (.env rfl (by kernel_rfl)) ⟨true, rfl, rfl, by kernel_rfl, rfl⟩ (by kernel_rfl) (fun w => by go_simp)
  · exact E6 3 3 V10.out (.dep 19 rfl (by kernel_rfl)) rfl rfl ⟨true, rfl, rfl, by kernel_rfl, rfl⟩ (by kernel_rfl) (by kernel_rfl) (by kernel_rfl)
  · exact FA rfl rfl (.env rfl (by kernel_rfl)) ⟨true, rfl, rfl, by kernel_rfl, rfl⟩ (by kernel_rfl) (fun _ _ _ _ => rfl) (fun w => by go_simp)
  · exact Fk 3 V2.out (.dep 21 rfl (by kernel_rfl)) rfl rfl ⟨true, rfl, rfl, by kernel_rfl, rfl⟩ (by kernel_rfl) (by kernel_rfl) rfl (by kernel_rfl)
  · exact EZ cf22 rfl rfl rfl rfl ⟨true, rfl, rfl, by kernel_rfl, rfl⟩ (by kernel_rfl) (fun a v hB hE hD => (show Calls _ _ #[Act.at_ a 77] v _ from by rw[show Act.at_ a 77 =_ from hD 22 _ (by kernel_rfl) rfl];exact Hf.out v (G.out v hB)))
  · exact FA rfl rfl (.env rfl (by kernel_rfl)) ⟨true, rfl, rfl, by kernel_rfl, rfl⟩ (by kernel_rfl) (fun _ _ _ _ => rfl) (fun w => by go_simp)
  · exact Fk 3 V2.out (.dep 24 rfl (by kernel_rfl)) rfl rfl ⟨true, rfl, rfl, by kernel_rfl, rfl⟩ (by kernel_rfl) (by kernel_rfl) rfl (by kernel_rfl)
  · exact EZ cf22 rfl rfl rfl rfl ⟨true, rfl, rfl, by kernel_rfl, rfl⟩ (by kernel_rfl) (fun a v hB hE hD => (show Calls _ _ #[Act.at_ a 80] v _ from by rw[show Act.at_ a 80 =_ from hD 25 _ (by kernel_rfl) rfl];exact Hg.out v (G.out v hB)))
  · exact EZ cf33 rfl rfl rfl rfl ⟨true, rfl, rfl, by kernel_rfl, rfl⟩ (by kernel_rfl) (fun a v hB hE hD => DC (hD 23 _ (by kernel_rfl) rfl) (hD 26 _ (by kernel_rfl) rfl) (by kernel_rfl) (G.out v hB))
  · exact EZ cf23 rfl rfl rfl rfl ⟨true, rfl, rfl, by kernel_rfl, rfl⟩ (by kernel_rfl) (fun a v hB hE hD => FX (hD 20 _ (by kernel_rfl) rfl) (hD 27 _ (by kernel_rfl) rfl) eqn0 eqn1 eqn2 (by kernel_rfl))
  · exact Fe 18 28 rfl rfl rfl rfl rfl (by kernel_rfl)
  · exact E5 29 rfl rfl rfl rfl (by kernel_rfl)
  · exact E7 V7.out (.env rfl (by kernel_rfl)) rfl rfl ⟨true, rfl, rfl, by kernel_rfl, rfl⟩ (by kernel_rfl) (by kernel_rfl)
  · exact E7 V10.out (.env rfl (by kernel_rfl)) rfl rfl ⟨true, rfl, rfl, by kernel_rfl, rfl⟩ (by kernel_rfl) (by kernel_rfl)
  · exact EZ cf35 rfl rfl rfl rfl ⟨true, rfl, rfl, by kernel_rfl, rfl⟩ (by kernel_rfl) (fun a v hB hE hD => c_power (hD 31 _ (by kernel_rfl) rfl) (hD 32 _ (by kernel_rfl) rfl) (by kernel_rfl) (G.out v hB))
  · exact E7 V11.out (.env rfl (by kernel_rfl)) rfl rfl ⟨true, rfl, rfl, by kernel_rfl, rfl⟩ (by kernel_rfl) (by kernel_rfl)
  · exact EZ cf34 rfl rfl rfl rfl ⟨true, rfl, rfl, by kernel_rfl, rfl⟩ (by kernel_rfl) (fun a v hB hE hD => DV (hD 33 _ (by kernel_rfl) rfl) (hD 34 _ (by kernel_rfl) rfl) eqn3 (by kernel_rfl) (G.out v hB))
  · exact Fe 30 35 rfl rfl rfl rfl rfl (by kernel_rfl)
  · exact E5 36 rfl rfl rfl rfl (by kernel_rfl)
  · exact E7 V7.out (.env rfl (by kernel_rfl)) rfl rfl ⟨true, rfl, rfl, by kernel_rfl, rfl⟩ (by kernel_rfl) (by kernel_rfl)
  · exact E7 V8.out (.env rfl (by kernel_rfl)) rfl rfl ⟨true, rfl, rfl, by kernel_rfl, rfl⟩ (by kernel_rfl) (by kernel_rfl)
  · exact EZ cf35 rfl rfl rfl rfl ⟨true, rfl, rfl, by kernel_rfl, rfl⟩ (by kernel_rfl) (fun a v hB hE hD => c_power (hD 38 _ (by kernel_rfl) rfl) (hD 39 _ (by kernel_rfl) rfl) (by kernel_rfl) (G.out v hB))
  · exact FA rfl rfl (.env rfl (by kernel_rfl)) ⟨true, rfl, rfl, by kernel_rfl, rfl⟩ (by kernel_rfl) (fun _ _ _ _ => rfl) (fun w => by go_simp)
  · exact Fk 3 V2.out (.dep 41 rfl (by kernel_rfl)) rfl rfl ⟨true, rfl, rfl, by kernel_rfl, rfl⟩ (by kernel_rfl) (by kernel_rfl) rfl (by kernel_rfl)
  · exact EZ cf22 rfl rfl rfl rfl ⟨true, rfl, rfl, by kernel_rfl, rfl⟩ (by kernel_rfl) (fun a v hB hE hD => (show Calls _ _ #[Act.at_ a 97] v _ from by rw[show Act.at_ a 97 =_ from hD 42 _ (by kernel_rfl) rfl];exact Hf.out v (G.out v hB)))
  · exact E7 V7.out (.env rfl (by kernel_rfl)) rfl rfl ⟨true, rfl, rfl, by kernel_rfl, rfl⟩ (by kernel_rfl) (by kernel_rfl)
  · exact FA rfl rfl (.env rfl (by kernel_rfl)) ⟨true, rfl, rfl, by kernel_rfl, rfl⟩ (by kernel_rfl) (fun _ _ _ _ => rfl) (fun w => by go_simp)
  · exact Fk 3 V1.out (.dep 45 rfl (by kernel_rfl)) rfl rfl ⟨true, rfl, rfl, by kernel_rfl, rfl⟩ (by kernel_rfl) (by kernel_rfl) rfl (by kernel_rfl)
  · exact EZ cf22 rfl rfl rfl rfl ⟨true, rfl, rfl, by kernel_rfl, rfl⟩ (by kernel_rfl) (fun a v hB hE hD => (show Calls _ _ #[Act.at_ a 101] v _ from by rw[show Act.at_ a 101 =_ from hD 46 _ (by kernel_rfl) rfl];exact Hx.out v (G.out v hB)))
  · exact EZ cf25 rfl rfl rfl rfl ⟨true, rfl, rfl, by kernel_rfl, rfl⟩ (by kernel_rfl) (fun a v hB hE hD => L8 (hD 44 _ (by kernel_rfl) rfl) (hD 47 _ (by kernel_rfl) rfl) (by kernel_rfl) (G.out v hB))
  · exact EZ cf31 rfl rfl rfl rfl ⟨true, rfl, rfl, by kernel_rfl, rfl⟩ (by kernel_rfl) (fun a v hB hE hD => FZ (hD 43 _ (by kernel_rfl) rfl) (hD 48 _ (by kernel_rfl) rfl) (by kernel_rfl) (G.out v hB))
  · exact EZ cf34 rfl rfl rfl rfl ⟨true, rfl, rfl, by kernel_rfl, rfl⟩ (by kernel_rfl) (fun a v hB hE hD => DV (hD 40 _ (by kernel_rfl) rfl) (hD 49 _ (by kernel_rfl) rfl) eqn4 (by kernel_rfl) (G.out v hB))
  · exact Fe 37 50 rfl rfl rfl rfl rfl (by kernel_rfl)
  · exact E5 51 rfl rfl rfl rfl (by kernel_rfl)
  · exact E4 rfl rfl (.env rfl (by kernel_rfl)) ⟨true, rfl, rfl, by kernel_rfl, rfl⟩ (by kernel_rfl) (fun w => by go_simp)
  · exact E6 3 3 V12.out (.dep 53 rfl (by kernel_rfl)) rfl rfl ⟨true, rfl, rfl, by kernel_rfl, rfl⟩ (by kernel_rfl) (by kernel_rfl) (by kernel_rfl)
  · exact EZ cf18 rfl rfl rfl rfl ⟨true, rfl, rfl, by kernel_rfl, rfl⟩ (by kernel_rfl) (fun a v hB hE hD => Ft (hD 54 _ (by kernel_rfl) rfl) (Zw.2 ⟨rfl, rfl, rfl⟩) (by kernel_rfl))
  · exact Fe 52 55 rfl rfl rfl rfl rfl (by kernel_rfl)
  · exact E5 56 rfl rfl rfl rfl (by kernel_rfl)
  · exact E4 rfl rfl (.env rfl (by kernel_rfl)) ⟨true, rfl, rfl, by kernel_rfl, rfl⟩ (by kernel_rfl) (fun w => by go_simp)
  · exact E6 0 3 V12.out (.dep 58 rfl (by kernel_rfl)) rfl rfl ⟨true, rfl, rfl, by kernel_rfl, rfl⟩ (by kernel_rfl) (by kernel_rfl) (by kernel_rfl)
  · exact EZ cf18 rfl rfl rfl rfl ⟨true, rfl, rfl, by kernel_rfl, rfl⟩ (by kernel_rfl) (fun a v hB hE hD => Ft (hD 59 _ (by kernel_rfl) rfl) (Zw.2 ⟨rfl, rfl, rfl⟩) (by kernel_rfl))
  · exact Fe 57 60 rfl rfl rfl rfl rfl (by kernel_rfl)
  · exact E5 61 rfl rfl rfl rfl (by kernel_rfl)
  have e6 : val5 6 = .bool true :=hF 62 _ rfl;clear hF;generalize val5 6 =t6 at *
  subst e6;replace V0 :=Lib.hid (fun w' (hb : Below W5.heap.size W5 w') => V0.out w' (Jd hB hb));replace V1 :=Lib.hid (fun w' (hb : Below W5.heap.size W5 w') => V1.out w' (Jd hB hb));replace V2 :=Lib.hid (fun w' (hb : Below W5.heap.size W5 w') => V2.out w' (Jd hB hb));replace V7 :=Lib.hid (fun w' (hb : Below W5.heap.size W5 w') => V7.out w' (Jd hB hb));replace V8 :=Lib.hid (fun w' (hb : Below W5.heap.size W5 w') => V8.out w' (Jd hB hb));replace V9 :=Lib.hid (fun w' (hb : Below W5.heap.size W5 w') => V9.out w' (Jd hB hb));replace V10 :=Lib.hid (fun w' (hb : Below W5.heap.size W5 w') => V10.out w' (Jd hB hb));replace V11 :=Lib.hid (fun w' (hb : Below W5.heap.size W5 w') => V11.out w' (Jd hB hb));replace V12 :=Lib.hid (fun w' (hb : Below W5.heap.size W5 w') => V12.out w' (Jd hB hb));replace K :=Lib.hid (Jd K.out hB);replace G :=Lib.hid (fun w' (hb : Below W5.heap.size W5 w') => G.out w' (Jd hB hb));clear hB;refine Last.nil (by kernel_rfl) ?_;clear G V0 V1 V2 V7 V8 V9 V10 V11 V12;go_wp2_with fail
  exact bodyPost_ret (v := .bool true) (by simp[results, Tryz.results5, go_sem]) rfl ⟨_, rfl, K.out, rfl⟩
