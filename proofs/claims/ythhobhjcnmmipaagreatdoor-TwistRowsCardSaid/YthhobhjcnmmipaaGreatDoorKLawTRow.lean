/- The law TwistRows. -/
import Derived.Test.YthhobhjcnmmipaaGreatDoorKTwk
namespace Go.Proofs.YthhobhjcnmmipaaGreatDoor
open Go.Value renaming pointer→Jp,int→Ji,agg→Ja
open Go.IntKind renaming i64→Jl
open Go.Obj renaming cells→Jc
open _root_.Option renaming none→Jn,some→Jo
open Go renaming World→JW
open Go.RowKit.Below renaming refl→N0
open _root_.Nat renaming le_refl→N1
open Go.Region renaming wanted→N2,ready→Nw
open Go.Act renaming put→N3
open Go.RowKit

theorem cf36(args : Array Value)(w : JW) : (callFunc 36 args).run Tryz.prog w = .ok (.enter 36 args) w :=by go_simp
theorem cf37(args : Array Value)(w : JW) : (callFunc 37 args).run Tryz.prog w = .ok (.enter 37 args) w :=by go_simp
set_option maxRecDepth 100000 in
set_option maxHeartbeats 4000000 in
theorem Np(a : Int)(P : Option Addr)(b : Int)(Q : Option Addr)(c : Int)(U : Option Addr)(d : Int)(V : Option Addr)(f : Int)(M : Option Addr)(g : Int)(N : Option Addr){p q r : Rat}(w : JW)(h : RatV (w.alloc (Jc #[Ji Jl a, Jp P, Ji Jl b, Jp Q, Ji Jl c, Jp U, Ji Jl d, Jp V, Ji Jl f, Jp M, Ji Jl g, Jp N] 31)) a P b Q p)(h' : RatV (w.alloc (Jc #[Ji Jl a, Jp P, Ji Jl b, Jp Q, Ji Jl c, Jp U, Ji Jl d, Jp V, Ji Jl f, Jp M, Ji Jl g, Jp N] 31)) c U d V q)(h2 : RatV (w.alloc (Jc #[Ji Jl a, Jp P, Ji Jl b, Jp Q, Ji Jl c, Jp U, Ji Jl d, Jp V, Ji Jl f, Jp M, Ji Jl g, Jp N] 31)) f M g N r)(hp : Few p 250)(hq : Few q 250)(hr : Few r 250)(hg : Good (w.alloc (Jc #[Ji Jl a, Jp P, Ji Jl b, Jp Q, Ji Jl c, Jp U, Ji Jl d, Jp V, Ji Jl f, Jp M, Ji Jl g, Jp N] 31))) :
    Calls Tryz.prog 37 #[.slice (Jo ⟨w.heap.size, 0, Jn⟩) 3 3] (w.alloc (Jc #[Ji Jl a, Jp P, Ji Jl b, Jp Q, Ji Jl c, Jp U, Ji Jl d, Jp V, Ji Jl f, Jp M, Ji Jl g, Jp N] 31)) (Qo (p + q + r) (w.alloc (Jc #[Ji Jl a, Jp P, Ji Jl b, Jp Q, Ji Jl c, Jp U, Ji Jl d, Jp V, Ji Jl f, Jp M, Ji Jl g, Jp N] 31))) :=by
  have h0 := GV w.heap.size 3 3 (Yg a c f) (Yg b d g) (Yh P U M) (Yh Q V N) (three p q r) (w.alloc (Jc #[Ji Jl a, Jp P, Ji Jl b, Jp Q, Ji Jl c, Jp U, Ji Jl d, Jp V, Ji Jl f, Jp M, Ji Jl g, Jp N] 31)) (by decide) (by decide) (by simp) (fun i hi => by
    match i, hi with
    | 0, _ => exact⟨by simp[go_sem, Yg], by simp[go_sem, Yh], by simp[go_sem, Yg], by simp[go_sem, Yh], h⟩
    | 1, _ => exact⟨by simp[go_sem, Yg], by simp[go_sem, Yh], by simp[go_sem, Yg], by simp[go_sem, Yh], h'⟩
    | 2, _ => exact⟨by simp[go_sem, Yg], by simp[go_sem, Yh], by simp[go_sem, Yg], by simp[go_sem, Yh], h2⟩) (fun i hi => by
    match i, hi with
    | 0, _ => exact⟨by show 0 < ten 900;exact Zb _, by show 1 < ten 900;decide +kernel⟩
    | 1, _ => rw[XK];exact hp.up (by decide)
    | 2, _ => show Few (0 + p + q) 900;rw[Rat.zero_add];exact(hp.add hq).up (by decide)
    | 3, _ => rw[XJ];exact((hp.add hq).add hr).up (by decide)) (fun i hi => by
    match i, hi with
    | 0, _ => exact hp.up (by decide)
    | 1, _ => exact hq.up (by decide)
    | 2, _ => exact hr.up (by decide)) hg
  rw[XJ]at h0;exact h0
section
variable {P : Program} {ops : Array Oper} {Q : Exit -> Act -> JW -> Prop}
theorem Nq{S : JW -> Prop}{k : Nat}(i : Nat){d : Tmp}{u : Value}{o : Oper}{n : Nat}{l : Array Bool}{a : Act}{w w' : JW}(hS : S w')(hr : Nw .any ops l = [i])(ho : ops[i]? =Jo o)(hg : o.guard =Jn)(hd : o.dst =Jo d)(hy : (execOp a.eval o).run P w = .ok (.value u) w')(h : Till P .any ops Q S k n (l.setIfInBounds i true) (a.put (Jo d) u) w') : Till P .any ops Q S k (n + 1) l a w :=by
  refine Till.one hr ho fun K hK => ?_;have hw : N2 o (yielded ops a.tmps) =true :=by unfold N2;rw[hg]
  rw[if_pos hw];unfold Oper.wp;rw[hy, Oper.upon_value, hd];exact hK _ _ (fun _ => hS) h
/-- A call that comes up alone, whatever it returns. -/
theorem Nt{S : JW -> Prop}{k : Nat}(i : Nat){d : Tmp}{R : Value -> JW -> Prop}{o : Oper}{c : Call}{f : FuncId}{args : List Operand}{n : Nat}{l : Array Bool}{a : Act}{w : JW}(hcf : ∀args w, (callFunc f args).run P w = .ok (.enter f args) w)(hr : Nw .any ops l = [i])(ho : ops[i]? =Jo o)(hop : o.op = .call c)(hf : c.callee = .value (.func f))(hl : c.args =args.toArray)(hg : o.guard =Jn)(hd : o.dst =Jo d)
    (hc : Calls P f (args.map a.eval).toArray w (fun e v => ∃u, e = .returned u /\ R u v)) (hS : ∀v, S v) (h : ∀u v, R u v -> Till P .any ops Q S k n (l.setIfInBounds i true) (a.put (Jo d) u) v) : Till P .any ops Q S k (n + 1) l a w :=by
  refine Till.one hr ho fun K hK => ?_;have hw : N2 o (yielded ops a.tmps) =true :=by unfold N2;rw[hg]
  rw[if_pos hw];have hrun : (execOp a.eval o).run P w = .ok (.enter f (args.map a.eval).toArray) w :=by
    unfold execOp;rw[hop];simp[go_sem, resolve, hf, hl, Act.eval, hcf]
  unfold Oper.wp;rw[hrun, Oper.upon_enter, hd];refine hc.mono ?_;rintro e v⟨u, rfl, hP⟩;exact hK _ _ (fun _ => hS v) (h u v hP)
end
theorem Ns{ρ : Operand -> Value}{o : Oper}{s s' s'' : Tmp}{A B C : Value}(xa : Int)(xP : Option Addr)(xb : Int)(xQ : Option Addr)(ya : Int)(yP : Option Addr)(yb : Int)(yQ : Option Addr)(za : Int)(zP : Option Addr)(zb : Int)(zQ : Option Addr)(w : JW)(hop : o.op = .buildSlice 71 3 #[(0, .tmp s), (1, .tmp s'), (2, .tmp s'')])(h1 : ρ (.tmp s) =A)(h2 : ρ (.tmp s') =B)(h3 : ρ (.tmp s'') =C)(hA : A =Ja #[Ji Jl xa, Jp xP, Ji Jl xb, Jp xQ])(hB : B =Ja #[Ji Jl ya, Jp yP, Ji Jl yb, Jp yQ])(hC : C =Ja #[Ji Jl za, Jp zP, Ji Jl zb, Jp zQ]) :
    (execOp ρ o).run Tryz.prog w = .ok (.value (.slice (Jo ⟨w.heap.size, 0, Jn⟩) 3 3)) (w.alloc (Jc #[Ji Jl xa, Jp xP, Ji Jl xb, Jp xQ, Ji Jl ya, Jp yP, Ji Jl yb, Jp yQ, Ji Jl za, Jp zP, Ji Jl zb, Jp zQ] 31)) :=by
  unfold execOp;rw[hop];simp only[List.map_toArray, List.map];rw[h1, h2, h3, hA, hB, hC]
  kernel_rfl
set_option maxRecDepth 100000 in
set_option maxHeartbeats 16000000 in
theorem Nv{x y : Value}{a0 a1 a2 b0 b1 b2 : Rat}{k m n : Nat}{w : JW}(h : (Fct.num [] k [a0, a1, a2]).P w x)(h' : (Fct.num [] m [b0, b1, b2]).P w y)(hn : (decide (k + m + (k + m) + 1 <= n) && decide (m <= n) && decide (n <= 900)) =true)(hg : Good w) :
    Calls Tryz.prog 36 #[x, y] w (fun e v => ∃u, e = .returned u /\ ∃q, u = .slice (Jo ⟨q, 0, Jn⟩) 6 6 /\ Below w.heap.size w v /\ Fi v q [] n [a1 * b2-a2 * b1, a2 * b0-a0 * b2, a0 * b1-a1 * b0, b0, b1, b2]) :=by
  simp only[Bool.and_eq_true, decide_eq_true_eq]at hn;obtain⟨rs0, rfl, hr0, f0⟩ :=h;obtain⟨A0, hA0⟩ : ∃A, ([] ++ flat rs0).toArray =A :=⟨_, rfl⟩;obtain⟨rs1, rfl, hr1, f1⟩ :=h';obtain⟨A1, hA1⟩ : ∃A, ([] ++ flat rs1).toArray =A :=⟨_, rfl⟩;have k0 :=(N0 w.heap.size w).alloc (N1 _) (Jc A0 35);have k1 :=k0.alloc (by simp) (Jc A1 35);have V0 :=Fi.box hA0.symm hr0 f0 35;have V1 :=Fi.box hA1.symm (hr1.keep k0) f1 35;have j1 :=(N0 (w.alloc (Jc A0 35)).heap.size (w.alloc (Jc A0 35))).alloc (N1 _) (Jc A1 35);replace V0 :=(V0.keep j1);simp only[World.size_alloc]at V0 V1;rw[hA0];rw[hA1];obtain⟨W, hW⟩ : ∃W, (w.alloc (Jc A0 35)).alloc (Jc A1 35) =W :=⟨_, rfl⟩;rw[hW]at k1 V0 V1;replace V0 :=Lib.hid (fun w' (hb : Below W.heap.size W w') => V0.keep hb);replace V1 :=Lib.hid (fun w' (hb : Below W.heap.size W w') => V1.keep hb);have K :=Lib.hid k1;have G :=Lib.hid (fun w' (hb : Below W.heap.size W w') => hg.below (k1.trans (hb.mono k1.size)));clear hg hr0 f0 hA0 hr1 f1 hA1 k0 k1 j1;go_enter Tryz.func36, Tryz.ntmps36;go_upto_region 1 with fail
  try simp only[hW]
  clear hW;refine Fy 12 [(6, false, 0), (7, false, 0), (8, false, 0), (9, false, 0), (10, false, 0), (5, false, 0), (5, true, 5)] [5]
    [Fct.num [] k [a0, a1, a2],
    Fct.num [] m [b0, b1, b2],
    Fct.num [] (k + m + (k + m) + 1) [a1 * b2-a2 * b1, a2 * b0-a0 * b2, a0 * b1-a1 * b0],
    Fct.num [] m [b0, b1, b2],
    Fct.num [] n [a1 * b2-a2 * b1, a2 * b0-a0 * b2, a0 * b1-a1 * b0, b0, b1, b2],
    Fct.ptr 24,
    Fct.var [] n [a1 * b2 - a2 * b1, a2 * b0 - a0 * b2, a0 * b1 - a1 * b0, b0, b1, b2]]
    #[true, true, true, true, true, true, true] 0 rfl (by kernel_rfl) rfl (by kernel_rfl) ⟨?_, ?_, ?_, ?_, ?_, ?_, ?_, trivial⟩
    (fun val0 => ⟨#[Ja A0, Ja A1, Jp (Jo ⟨w.heap.size, 0, Jn⟩), Jp (Jo ⟨w.heap.size + 1, 0, Jn⟩), .slice Jn 0 0, val0 5, val0 6, val0 7, val0 8, val0 9, val0 10, undef], []⟩) (fun val0 => by kernel_rfl) (fun val0 W0 hB hF => ⟨?_⟩)
  · exact E7 V0.out (.env rfl (by kernel_rfl)) rfl rfl rfl (by kernel_rfl) (by kernel_rfl)
  · exact E7 V1.out (.env rfl (by kernel_rfl)) rfl rfl rfl (by kernel_rfl) (by kernel_rfl)
  · exact EZ cf32 rfl rfl rfl rfl rfl (by kernel_rfl) (fun a v hB hE hD => FO (hD 0 _ (by kernel_rfl) rfl) (hD 1 _ (by kernel_rfl) rfl) (by simp;omega) (G.out v hB))
  · exact E7 V1.out (.env rfl (by kernel_rfl)) rfl rfl rfl (by kernel_rfl) (by kernel_rfl)
  · exact EZ cf72 rfl rfl rfl rfl rfl (by kernel_rfl) (fun a v hB hE hD => c_join (hD 2 _ (by kernel_rfl) rfl) (hD 3 _ (by kernel_rfl) rfl) (by simp;omega))
  · exact Fb [Ji Jl 0, Jp Jn, Ji Jl 0, Jp Jn, Ji Jl 0, Jp Jn, Ji Jl 0, Jp Jn, Ji Jl 0, Jp Jn, Ji Jl 0, Jp Jn, Ji Jl 0, Jp Jn, Ji Jl 0, Jp Jn, Ji Jl 0, Jp Jn, Ji Jl 0, Jp Jn, Ji Jl 0, Jp Jn, Ji Jl 0, Jp Jn] 125 rfl rfl rfl (by kernel_rfl) (by kernel_rfl) (fun a w => by go_simp)
  · exact E9 5 4 rfl rfl rfl rfl rfl (by kernel_rfl) (by kernel_rfl)
  obtain⟨p5, e5, V5⟩ : (Fct.var [] n [a1 * b2-a2 * b1, a2 * b0-a0 * b2, a0 * b1-a1 * b0, b0, b1, b2]).P W0 (val0 5) :=hF 6 _ rfl;clear hF;generalize val0 5 =t5 at *
  subst e5;replace V0 :=Lib.hid (fun w' (hb : Below W0.heap.size W0 w') => V0.out w' (Jd hB hb));replace V1 :=Lib.hid (fun w' (hb : Below W0.heap.size W0 w') => V1.out w' (Jd hB hb));replace V5 :=Lib.hid (fun w' (hb : Below W0.heap.size W0 w') => V5.keep hb);replace K :=Lib.hid (Jd K.out hB);replace G :=Lib.hid (fun w' (hb : Below W0.heap.size W0 w') => G.out w' (Jd hB hb));clear hB;refine Last.nil (by kernel_rfl) ?_;clear G V0 V1;go_wp2_with fail
  exact bodyPost_ret (v := .slice (Jo ⟨p5, 0, Jn⟩) 6 6) (by simp[results, Tryz.results36, go_sem]) rfl ⟨_, rfl, p5, rfl, K.out, V5.out _ (N0 _ _)⟩
def Nr(xq0 xq1 xq2 yq0 yq1 yq2 a0 a1 a2 a3 a4 a5 : Rat) : Nat -> Rat
  | 0 => 0
  | 1 => 0 + ((xq1 * yq2-xq2 * yq1) * a0) + ((yq0) * a3)
  | 2 => (0 + ((xq1 * yq2-xq2 * yq1) * a0) + ((yq0) * a3)) + ((xq2 * yq0-xq0 * yq2) * a1) + ((yq1) * a4)
  | _ => ((0 + ((xq1 * yq2-xq2 * yq1) * a0) + ((yq0) * a3)) + ((xq2 * yq0-xq0 * yq2) * a1) + ((yq1) * a4)) + ((xq0 * yq1-xq1 * yq0) * a2) + ((yq2) * a5)
def rowk : Nat -> Nat
  | 0 => 1
  | 1 => 37
  | 2 => 73
  | _ => 109
set_option maxRecDepth 100000 in
set_option maxHeartbeats 16000000 in
theorem Nu{n0 n1 n2 n3 n4 n5 d r x0 x1 x2 y0 y1 y2 : Int}{w : JW}(s1 : S6 n0 n1 n2 n3 n4 n5 d r)(q0 : I8 x0)(q1 : I8 x1)(q2 : I8 x2)(p0 : I8 y0)(p1 : I8 y1)(p2 : I8 y2)(hg : Good w) :
    Calls Tryz.prog 6 #[Ja #[Ji .i8 n0, Ji .i8 n1, Ji .i8 n2, Ji .i8 n3, Ji .i8 n4, Ji .i8 n5, Ji .u8 d], Ja #[Ji .i8 x0, Ji .i8 x1, Ji .i8 x2], Ja #[Ji .i8 y0, Ji .i8 y1, Ji .i8 y2]] w (Ret w (Fct.val (.bool true))) :=by
  obtain⟨a0, ha0⟩ : ∃q, tq n0 r =q :=⟨_, rfl⟩;obtain⟨a1, ha1⟩ : ∃q, tq n1 r =q :=⟨_, rfl⟩;obtain⟨a2, ha2⟩ : ∃q, tq n2 r =q :=⟨_, rfl⟩;obtain⟨a3, ha3⟩ : ∃q, tq n3 r =q :=⟨_, rfl⟩;obtain⟨a4, ha4⟩ : ∃q, tq n4 r =q :=⟨_, rfl⟩;obtain⟨a5, ha5⟩ : ∃q, tq n5 r =q :=⟨_, rfl⟩;have Ha :=fun(v : JW) (hg : Good v) => c_of (w :=v) s1 hg;rw[ha0, ha1, ha2, ha3, ha4, ha5]at Ha;replace Ha :=Lib.hid Ha;obtain⟨xq0, hxq0⟩ : ∃q, ((x0 : Int) : Rat) =q :=⟨_, rfl⟩;obtain⟨xq1, hxq1⟩ : ∃q, ((x1 : Int) : Rat) =q :=⟨_, rfl⟩;obtain⟨xq2, hxq2⟩ : ∃q, ((x2 : Int) : Rat) =q :=⟨_, rfl⟩;have Hx :=fun(v : JW) (hg : Good v) => DL (w :=v) q0 q1 q2 hg;rw[hxq0, hxq1, hxq2]at Hx;replace Hx :=Lib.hid Hx;obtain⟨yq0, hyq0⟩ : ∃q, ((y0 : Int) : Rat) =q :=⟨_, rfl⟩;obtain⟨yq1, hyq1⟩ : ∃q, ((y1 : Int) : Rat) =q :=⟨_, rfl⟩;obtain⟨yq2, hyq2⟩ : ∃q, ((y2 : Int) : Rat) =q :=⟨_, rfl⟩;have Hy :=fun(v : JW) (hg : Good v) => DL (w :=v) p0 p1 p2 hg;rw[hyq0, hyq1, hyq2]at Hy;replace Hy :=Lib.hid Hy;have HG :=Lib.hid hg;have eqn0 : ((0 + ((xq1 * yq2-xq2 * yq1) * a0) + ((yq0) * a3)) + ((xq2 * yq0-xq0 * yq2) * a1) + ((yq1) * a4)) + ((xq0 * yq1-xq1 * yq0) * a2) + ((yq2) * a5) =yq0 * (a3 + (a1 * xq2-a2 * xq1)) + yq1 * (a4 + (a2 * xq0-a0 * xq2)) + yq2 * (a5 + (a0 * xq1-a1 * xq0)) :=by grind
  clear s1 ha0 ha1 ha2 ha3 ha4 ha5 hxq0 hxq1 hxq2 hyq0 hyq1 hyq2;have k0 :=(N0 w.heap.size w).alloc (N1 _) (Jc #[Ji .i8 n0, Ji .i8 n1, Ji .i8 n2, Ji .i8 n3, Ji .i8 n4, Ji .i8 n5, Ji .u8 d] 53);have k1 :=k0.alloc (by simp) (Jc #[Ji .i8 x0, Ji .i8 x1, Ji .i8 x2] 54);have k2 :=k1.alloc (by simp;omega) (Jc #[Ji .i8 y0, Ji .i8 y1, Ji .i8 y2] 54);have V0 :=Jh.new w #[Ji .i8 n0, Ji .i8 n1, Ji .i8 n2, Ji .i8 n3, Ji .i8 n4, Ji .i8 n5, Ji .u8 d] 53;have V1 :=Jh.new (w.alloc (Jc #[Ji .i8 n0, Ji .i8 n1, Ji .i8 n2, Ji .i8 n3, Ji .i8 n4, Ji .i8 n5, Ji .u8 d] 53)) #[Ji .i8 x0, Ji .i8 x1, Ji .i8 x2] 54;have V2 :=Jh.new ((w.alloc (Jc #[Ji .i8 n0, Ji .i8 n1, Ji .i8 n2, Ji .i8 n3, Ji .i8 n4, Ji .i8 n5, Ji .u8 d] 53)).alloc (Jc #[Ji .i8 x0, Ji .i8 x1, Ji .i8 x2] 54)) #[Ji .i8 y0, Ji .i8 y1, Ji .i8 y2] 54;have j1 :=(N0 (w.alloc (Jc #[Ji .i8 n0, Ji .i8 n1, Ji .i8 n2, Ji .i8 n3, Ji .i8 n4, Ji .i8 n5, Ji .u8 d] 53)).heap.size (w.alloc (Jc #[Ji .i8 n0, Ji .i8 n1, Ji .i8 n2, Ji .i8 n3, Ji .i8 n4, Ji .i8 n5, Ji .u8 d] 53))).alloc (N1 _) (Jc #[Ji .i8 x0, Ji .i8 x1, Ji .i8 x2] 54);have j2 :=(N0 ((w.alloc (Jc #[Ji .i8 n0, Ji .i8 n1, Ji .i8 n2, Ji .i8 n3, Ji .i8 n4, Ji .i8 n5, Ji .u8 d] 53)).alloc (Jc #[Ji .i8 x0, Ji .i8 x1, Ji .i8 x2] 54)).heap.size ((w.alloc (Jc #[Ji .i8 n0, Ji .i8 n1, Ji .i8 n2, Ji .i8 n3, Ji .i8 n4, Ji .i8 n5, Ji .u8 d] 53)).alloc (Jc #[Ji .i8 x0, Ji .i8 x1, Ji .i8 x2] 54))).alloc (N1 _) (Jc #[Ji .i8 y0, Ji .i8 y1, Ji .i8 y2] 54);replace V0 :=((V0.keep j1).keep j2);replace V1 :=(V1.keep j2)
  simp only[World.size_alloc]at V0 V1 V2;obtain⟨W, hW⟩ : ∃W, ((w.alloc (Jc #[Ji .i8 n0, Ji .i8 n1, Ji .i8 n2, Ji .i8 n3, Ji .i8 n4, Ji .i8 n5, Ji .u8 d] 53)).alloc (Jc #[Ji .i8 x0, Ji .i8 x1, Ji .i8 x2] 54)).alloc (Jc #[Ji .i8 y0, Ji .i8 y1, Ji .i8 y2] 54) =W :=⟨_, rfl⟩;rw[hW]at k2 V0 V1 V2;replace V0 :=Lib.hid (fun w' (hb : Below W.heap.size W w') => (V0.keep hb));replace V1 :=Lib.hid (fun w' (hb : Below W.heap.size W w') => (V1.keep hb));replace V2 :=Lib.hid (fun w' (hb : Below W.heap.size W w') => (V2.keep hb));have K :=Lib.hid k2;have G :=Lib.hid (fun w' (hb : Below W.heap.size W w') => hg.below (k2.trans (hb.mono k2.size)));clear hg k0 k1 k2 j1 j2;go_enter Tryz.func6, Tryz.ntmps6;go_upto_region 1 with fail
  try simp only[hW]
  clear hW;refine E8 59 [(11, false, 0), (12, false, 0)] []
    [Fct.val (.bool true),
    Fct.val (.bool false)]
    0 rfl (by kernel_rfl) rfl ⟨?_, ?_, trivial⟩
    (fun val0 => ⟨#[Ja #[Ji .i8 n0, Ji .i8 n1, Ji .i8 n2, Ji .i8 n3, Ji .i8 n4, Ji .i8 n5, Ji .u8 d], Ja #[Ji .i8 x0, Ji .i8 x1, Ji .i8 x2], Ja #[Ji .i8 y0, Ji .i8 y1, Ji .i8 y2], Jp (Jo ⟨w.heap.size, 0, Jn⟩), Jp (Jo ⟨w.heap.size + 1, 0, Jn⟩), Jp (Jo ⟨w.heap.size + 1 + 1, 0, Jn⟩), .bool false, undef, undef, undef, undef, val0 11, val0 12, undef, undef, undef, undef, undef, undef, undef, undef, undef, undef, undef, undef, undef, undef, undef, undef, undef, undef, undef, undef, undef, undef, undef, undef, undef, undef, undef, undef, undef, undef, undef, undef, undef, undef, undef, undef, undef, undef, undef, undef, undef, undef, undef, undef, undef, undef], []⟩) (fun val0 => by kernel_rfl) (fun val0 W0 hB hF => ⟨?_⟩)
  · exact EZ cf13 rfl rfl rfl rfl rfl (by kernel_rfl) (fun a v hB hE hD => FG (G.out v hB))
  · exact Fm (op := .unOp .not 4 (.tmp 11)) rfl rfl (fun _ => rfl) (.dep 0 rfl (by kernel_rfl)) rfl (by kernel_rfl) (fun a w e => by unfold execOp bare;dsimp only;rw[e];go_simp <;> rfl)
  have e11 : val0 11 = .bool true :=hF 0 _ rfl;have e12 : val0 12 = .bool false :=hF 1 _ rfl;clear hF;generalize val0 11 =t11 at *
  generalize val0 12 =t12 at *
  subst e11 e12;replace V0 :=Lib.hid (fun w' (hb : Below W0.heap.size W0 w') => V0.out w' (Jd hB hb));replace V1 :=Lib.hid (fun w' (hb : Below W0.heap.size W0 w') => V1.out w' (Jd hB hb));replace V2 :=Lib.hid (fun w' (hb : Below W0.heap.size W0 w') => V2.out w' (Jd hB hb));replace K :=Lib.hid (Jd K.out hB);replace G :=Lib.hid (fun w' (hb : Below W0.heap.size W0 w') => G.out w' (Jd hB hb));clear hB;refine Last.nil (by kernel_rfl) ?_;go_upto_region 3 with fail
  refine E8 59 [(13, false, 0), (14, false, 0), (7, false, 0), (7, true, 2)] [2]
    [Fct.val (Ja #[Ji .i8 n0, Ji .i8 n1, Ji .i8 n2, Ji .i8 n3, Ji .i8 n4, Ji .i8 n5, Ji .u8 d]),
    Fct.num [] 4 [a0, a1, a2, a3, a4, a5],
    Fct.ptr 24,
    Fct.var [] 4 [a0, a1, a2, a3, a4, a5]]
    0 rfl (by kernel_rfl) rfl ⟨?_, ?_, ?_, ?_, trivial⟩
    (fun val1 => ⟨#[Ja #[Ji .i8 n0, Ji .i8 n1, Ji .i8 n2, Ji .i8 n3, Ji .i8 n4, Ji .i8 n5, Ji .u8 d], Ja #[Ji .i8 x0, Ji .i8 x1, Ji .i8 x2], Ja #[Ji .i8 y0, Ji .i8 y1, Ji .i8 y2], Jp (Jo ⟨w.heap.size, 0, Jn⟩), Jp (Jo ⟨w.heap.size + 1, 0, Jn⟩), Jp (Jo ⟨w.heap.size + 1 + 1, 0, Jn⟩), .bool false, val1 7, undef, undef, undef, .bool true, .bool false, val1 13, val1 14, undef, undef, undef, undef, undef, undef, undef, undef, undef, undef, undef, undef, undef, undef, undef, undef, undef, undef, undef, undef, undef, undef, undef, undef, undef, undef, undef, undef, undef, undef, undef, undef, undef, undef, undef, undef, undef, undef, undef, undef, undef, undef, undef, undef], []⟩) (fun val1 => by kernel_rfl) (fun val1 W1 hB hF => ⟨?_⟩)
  · exact Fk 7 V0.out (.env rfl (by kernel_rfl)) rfl rfl rfl (by kernel_rfl) (by kernel_rfl) rfl (by kernel_rfl)
  · exact EZ cf21 rfl rfl rfl rfl rfl (by kernel_rfl) (fun a v hB hE hD => (show Calls _ _ #[Act.at_ a 13] v _ from by rw[show Act.at_ a 13 =_ from hD 0 _ (by kernel_rfl) rfl];exact Ha.out v (G.out v hB)))
  · exact Fb [Ji Jl 0, Jp Jn, Ji Jl 0, Jp Jn, Ji Jl 0, Jp Jn, Ji Jl 0, Jp Jn, Ji Jl 0, Jp Jn, Ji Jl 0, Jp Jn, Ji Jl 0, Jp Jn, Ji Jl 0, Jp Jn, Ji Jl 0, Jp Jn, Ji Jl 0, Jp Jn, Ji Jl 0, Jp Jn, Ji Jl 0, Jp Jn] 37 rfl rfl rfl (by kernel_rfl) (by kernel_rfl) (fun a w => by go_simp)
  · exact E9 2 1 rfl rfl rfl rfl rfl (by kernel_rfl) (by kernel_rfl)
  obtain⟨p7, e7, V7⟩ : (Fct.var [] 4 [a0, a1, a2, a3, a4, a5]).P W1 (val1 7) :=hF 3 _ rfl;clear hF;generalize val1 7 =t7 at *
  subst e7;replace V0 :=Lib.hid (fun w' (hb : Below W1.heap.size W1 w') => V0.out w' (Jd hB hb));replace V1 :=Lib.hid (fun w' (hb : Below W1.heap.size W1 w') => V1.out w' (Jd hB hb));replace V2 :=Lib.hid (fun w' (hb : Below W1.heap.size W1 w') => V2.out w' (Jd hB hb));replace V7 :=Lib.hid (fun w' (hb : Below W1.heap.size W1 w') => V7.keep hb);replace K :=Lib.hid (Jd K.out hB);replace G :=Lib.hid (fun w' (hb : Below W1.heap.size W1 w') => G.out w' (Jd hB hb));clear hB;refine Last.nil (by kernel_rfl) ?_;go_upto_region 4 with fail
  refine sheetT 59 [(15, false, 0), (16, false, 0), (17, false, 0), (18, false, 0)] []
    [Fct.val (Ja #[Ji .i8 x0, Ji .i8 x1, Ji .i8 x2]), Fct.num [] 3 [xq0, xq1, xq2], Fct.val (Ja #[Ji .i8 y0, Ji .i8 y1, Ji .i8 y2]), Fct.num [] 3 [yq0, yq1, yq2]]
    #[true, true, true, true, false, false] 2 rfl (by kernel_rfl) rfl (by kernel_rfl) ⟨?_, ?_, ?_, ?_, trivial⟩
    (fun valR => ⟨#[Ja #[Ji .i8 n0, Ji .i8 n1, Ji .i8 n2, Ji .i8 n3, Ji .i8 n4, Ji .i8 n5, Ji .u8 d], Ja #[Ji .i8 x0, Ji .i8 x1, Ji .i8 x2], Ja #[Ji .i8 y0, Ji .i8 y1, Ji .i8 y2], Jp (Jo ⟨w.heap.size, 0, Jn⟩), Jp (Jo ⟨w.heap.size + 1, 0, Jn⟩), Jp (Jo ⟨w.heap.size + 1 + 1, 0, Jn⟩), .bool false, Jp (Jo ⟨p7, 0, Jn⟩), undef, undef, undef, .bool true, .bool false, val1 13, val1 14, valR 15, valR 16, valR 17, valR 18, undef, undef, undef, undef, undef, undef, undef, undef, undef, undef, undef, undef, undef, undef, undef, undef, undef, undef, undef, undef, undef, undef, undef, undef, undef, undef, undef, undef, undef, undef, undef, undef, undef, undef, undef, undef, undef, undef, undef, undef], []⟩) (fun valR => by kernel_rfl) (fun valR WR hB hF => ⟨?_⟩)
  · exact Fk 3 V1.out (.env rfl (by kernel_rfl)) rfl rfl rfl (by kernel_rfl) (by kernel_rfl) rfl (by kernel_rfl)
  · exact EZ cf22 rfl rfl rfl rfl rfl (by kernel_rfl) (fun a v hB hE hD => (show Calls _ _ #[Act.at_ a 15] v _ from by rw[show Act.at_ a 15 =_ from hD 0 _ (by kernel_rfl) rfl];exact Hx.out v (G.out v hB)))
  · exact Fk 3 V2.out (.env rfl (by kernel_rfl)) rfl rfl rfl (by kernel_rfl) (by kernel_rfl) rfl (by kernel_rfl)
  · exact EZ cf22 rfl rfl rfl rfl rfl (by kernel_rfl) (fun a v hB hE hD => (show Calls _ _ #[Act.at_ a 17] v _ from by rw[show Act.at_ a 17 =_ from hD 2 _ (by kernel_rfl) rfl];exact Hy.out v (G.out v hB)))
  have F16 : (Fct.num [] 3 [xq0, xq1, xq2]).P WR (valR 16) :=hF 1 _ rfl;have F18 : (Fct.num [] 3 [yq0, yq1, yq2]).P WR (valR 18) :=hF 3 _ rfl;clear hF;generalize valR 15 =t15 at *
  generalize valR 16 =t16 at *
  generalize valR 17 =t17 at *
  generalize valR 18 =t18 at *
  refine Nt 4 cf36 (by kernel_rfl) rfl rfl rfl rfl rfl rfl (Nv (n :=13) F16 F18 (by kernel_rfl) (G.out _ hB)) (fun _ => trivial) (fun u19 v hR => ?_);obtain⟨q8, rfl, hb, hV8⟩ :=hR;try simp only[N3, List.setIfInBounds_toArray, List.set_cons_zero, List.set_cons_succ]
  refine FB 5 (d :=8) (u := .slice (Jo ⟨q8, 0, Jn⟩) 6 6) trivial (by kernel_rfl) rfl rfl rfl rfl ?_;refine Dv (by kernel_rfl) ?_;clear F16 F18;have hB :=Jd hB hb;clear hb;have V8 :=hV8;clear hV8;replace V0 :=Lib.hid (fun w' (hb : Below v.heap.size v w') => V0.out w' (Jd hB hb));replace V1 :=Lib.hid (fun w' (hb : Below v.heap.size v w') => V1.out w' (Jd hB hb));replace V2 :=Lib.hid (fun w' (hb : Below v.heap.size v w') => V2.out w' (Jd hB hb));replace V7 :=Lib.hid (fun w' (hb : Below v.heap.size v w') => V7.out w' (Jd hB hb));replace V8 :=Lib.hid (fun w' (hb : Below v.heap.size v w') => V8.keep hb);replace K :=Lib.hid (Jd K.out hB);replace G :=Lib.hid (fun w' (hb : Below v.heap.size v w') => G.out w' (Jd hB hb));clear hB;have l0 :=(V0.out _ (N0 _ _)).lt;have l1 :=(V1.out _ (N0 _ _)).lt;have l2 :=(V2.out _ (N0 _ _)).lt;have l7 :=(V7.out _ (N0 _ _)).lt;have l8 :=(V8.out _ (N0 _ _)).lt;have lw :=K.out.size;go_upto_region 7 with fail
  refine E8 59 [(23, false, 0), (9, false, 0), (9, true, 1)] [1]
    [Fct.num [] 1 [0],
    Fct.ptrB (v.heap.size) 4,
    Fct.varB (v.heap.size) [] 1 [0]]
    0 rfl (by kernel_rfl) rfl ⟨?_, ?_, ?_, trivial⟩
    (fun val2 => ⟨#[Ja #[Ji .i8 n0, Ji .i8 n1, Ji .i8 n2, Ji .i8 n3, Ji .i8 n4, Ji .i8 n5, Ji .u8 d], Ja #[Ji .i8 x0, Ji .i8 x1, Ji .i8 x2], Ja #[Ji .i8 y0, Ji .i8 y1, Ji .i8 y2], Jp (Jo ⟨w.heap.size, 0, Jn⟩), Jp (Jo ⟨w.heap.size + 1, 0, Jn⟩), Jp (Jo ⟨w.heap.size + 1 + 1, 0, Jn⟩), .bool false, Jp (Jo ⟨p7, 0, Jn⟩), .slice (Jo ⟨q8, 0, Jn⟩) 6 6, val2 9, undef, .bool true, .bool false, val1 13, val1 14, t15, t16, t17, t18, .slice (Jo ⟨q8, 0, Jn⟩) 6 6, .slice (Jo ⟨q8, 0, Jn⟩) 6 6, Ji Jl 6, .bool false, val2 23, undef, undef, undef, undef, undef, undef, undef, undef, undef, undef, undef, undef, undef, undef, undef, undef, undef, undef, undef, undef, undef, undef, undef, undef, undef, undef, undef, undef, undef, undef, undef, undef, undef, undef, undef], []⟩) (fun val2 => by kernel_rfl) (fun val2 W2 hB hF => ⟨?_⟩)
  · exact Fl (parts := []) rfl rfl rfl (by kernel_rfl) (fun a w hB hE hD => ⟨(flat [Jm]).toArray, by kernel_rfl, [Jm], rfl, ⟨vat0 w, trivial⟩, fun q hq => by
      rw [show q = 0 by simpa using hq]; exact few0⟩)
  · exact D6 [Ji Jl 0, Jp Jn, Ji Jl 0, Jp Jn] 31 rfl rfl rfl (by kernel_rfl) (by kernel_rfl) (N1 _) (fun a w => by go_simp)
  · exact D5 1 0 rfl rfl rfl rfl rfl (by kernel_rfl) (by kernel_rfl)
  obtain⟨p9, e9, B9, V9⟩ : (Fct.varB (v.heap.size) [] 1 [0]).P W2 (val2 9) :=hF 2 _ rfl;clear hF;generalize val2 9 =t9 at *
  subst e9;replace V0 :=Lib.hid (fun w' (hb : Below W2.heap.size W2 w') => V0.out w' (Jd hB hb));replace V1 :=Lib.hid (fun w' (hb : Below W2.heap.size W2 w') => V1.out w' (Jd hB hb));replace V2 :=Lib.hid (fun w' (hb : Below W2.heap.size W2 w') => V2.out w' (Jd hB hb));replace V7 :=Lib.hid (fun w' (hb : Below W2.heap.size W2 w') => V7.out w' (Jd hB hb));replace V8 :=Lib.hid (fun w' (hb : Below W2.heap.size W2 w') => V8.out w' (Jd hB hb));replace V9 :=Lib.hid (fun w' (hb : Below W2.heap.size W2 w') => V9.keep hb);replace K :=Lib.hid (Jd K.out hB);replace G :=Lib.hid (fun w' (hb : Below W2.heap.size W2 w') => G.out w' (Jd hB hb));clear hB;refine Last.nil (by kernel_rfl) ?_;have Hne :=Lib.hid (show w.heap.size ≠ p9 /\ w.heap.size + 1 ≠ p9 /\ w.heap.size + 1 + 1 ≠ p9 /\ p7 ≠ p9 /\ q8 ≠ p9 /\ w.heap.size <= p9 from by omega);have Hst :=Lib.hid (show Fi W2 p9 [] (rowk 0) [Nr xq0 xq1 xq2 yq0 yq1 yq2 a0 a1 a2 a3 a4 a5 0] /\ Jh W2 (w.heap.size) [Ji .i8 n0, Ji .i8 n1, Ji .i8 n2, Ji .i8 n3, Ji .i8 n4, Ji .i8 n5, Ji .u8 d] /\ Jh W2 (w.heap.size + 1) [Ji .i8 x0, Ji .i8 x1, Ji .i8 x2] /\ Jh W2 (w.heap.size + 1 + 1) [Ji .i8 y0, Ji .i8 y1, Ji .i8 y2] /\ Fi W2 p7 [] 4 [a0, a1, a2, a3, a4, a5] /\ Fi W2 q8 [] 13 [xq1 * yq2-xq2 * yq1, xq2 * yq0-xq0 * yq2, xq0 * yq1-xq1 * yq0, yq0, yq1, yq2] /\ Below w.heap.size w W2 from⟨V9.out _ (N0 _ _), V0.out _ (N0 _ _), V1.out _ (N0 _ _), V2.out _ (N0 _ _), V7.out _ (N0 _ _), V8.out _ (N0 _ _), K.out⟩);clear l0 l1 l2 l7 l8 lw B9 V0 V1 V2 V7 V8 V9 K G;go_wp2_with fail
  go_loopw [10] (fun v wr => ∃(k : Nat) (z : Int), k <= 3 /\ z =(k : Int) /\ v =Ji Jl z /\ (Fi wr p9 [] (rowk k) [Nr xq0 xq1 xq2 yq0 yq1 yq2 a0 a1 a2 a3 a4 a5 k] /\ Jh wr (w.heap.size) [Ji .i8 n0, Ji .i8 n1, Ji .i8 n2, Ji .i8 n3, Ji .i8 n4, Ji .i8 n5, Ji .u8 d] /\ Jh wr (w.heap.size + 1) [Ji .i8 x0, Ji .i8 x1, Ji .i8 x2] /\ Jh wr (w.heap.size + 1 + 1) [Ji .i8 y0, Ji .i8 y1, Ji .i8 y2] /\ Fi wr p7 [] 4 [a0, a1, a2, a3, a4, a5] /\ Fi wr q8 [] 13 [xq1 * yq2-xq2 * yq1, xq2 * yq0-xq0 * yq2, xq0 * yq1-xq1 * yq0, yq0, yq1, yq2] /\ Below w.heap.size w wr)) (fun v _ => 3-(intOf v).toNat)
  case atStart => exact⟨0, 0, by decide, rfl, rfl, Hst.out⟩
  case round =>
    obtain⟨k, z, hk, hzk, rfl, h9, h0, h1, h2, h7, h8, hb⟩ :=hrel;have G :=Lib.hid (fun w' (hb' : Below wr.heap.size wr w') => HG.out.below (hb.trans (hb'.mono hb.size)));have K :=Lib.hid hb;have V9 :=Lib.hid h9;have V0 :=Lib.hid (fun w' (hb' : Below wr.heap.size wr w') => h0.keep hb');have V1 :=Lib.hid (fun w' (hb' : Below wr.heap.size wr w') => h1.keep hb');have V2 :=Lib.hid (fun w' (hb' : Below wr.heap.size wr w') => h2.keep hb');have V7 :=Lib.hid (fun w' (hb' : Below wr.heap.size wr w') => h7.keep hb');have V8 :=Lib.hid (fun w' (hb' : Below wr.heap.size wr w') => h8.keep hb');clear h9 h0 h1 h2 h7 h8 hb Hst;obtain rfl|rfl|rfl|rfl : k =0 \/ k =1 \/ k =2 \/ k =3 :=by omega
    · obtain rfl : z =0 :=hzk
      have V9x :=Lib.hid (fun w' (hb : Below wr.heap.size wr w') => show Fi w' p9 [] 1 [0]from V9.out.keep hb);clear V9;go_upto_region 11 with fail
      refine sheetT 59 [(28, false, 0), (29, false, 0), (30, false, 0), (31, false, 0), (32, false, 0), (33, false, 0), (34, false, 0), (35, false, 0), (36, false, 0), (37, false, 0), (38, false, 0), (39, false, 0), (40, false, 0), (41, false, 0), (42, false, 0), (43, false, 0), (44, false, 0), (45, false, 0), (46, false, 0), (47, false, 0)] []
        [Fct.num [] 1 [0],
        Fct.val (.slice (Jo ⟨q8, 0, Jn⟩) 6 6),
        Fct.val (Ji Jl 0),
        Fct.val (Jp (Jo ⟨q8, 0, Jn⟩)),
        Fct.num [] 13 [xq1 * yq2-xq2 * yq1],
        Fct.val (Ji Jl 0),
        Fct.val (Jp (Jo ⟨p7, 0, Jn⟩)),
        Fct.val (Jp (Jo ⟨p7, 0, Jn⟩)),
        Fct.num [] 4 [a0],
        Fct.num [] 17 [(xq1 * yq2-xq2 * yq1) * a0],
        Fct.val (.slice (Jo ⟨q8, 0, Jn⟩) 6 6),
        Fct.val (Ji Jl 0),
        Fct.val (Ji Jl 3),
        Fct.val (Jp (Jo ⟨q8, 12, Jn⟩)),
        Fct.num [] 13 [yq0],
        Fct.val (Ji Jl 0),
        Fct.val (Jp (Jo ⟨p7, 12, Jn⟩)),
        Fct.val (Jp (Jo ⟨p7, 12, Jn⟩)),
        Fct.num [] 4 [a3],
        Fct.num [] 17 [yq0 * a3]]
        #[true, true, true, true, true, true, true, true, true, true, true, true, true, true, true, true, true, true, true, true, false, false, false] 3 rfl (by kernel_rfl) rfl (by kernel_rfl) ⟨?_, ?_, ?_, ?_, ?_, ?_, ?_, ?_, ?_, ?_, ?_, ?_, ?_, ?_, ?_, ?_, ?_, ?_, ?_, ?_, trivial⟩
        (fun valB => ⟨#[Ja #[Ji .i8 n0, Ji .i8 n1, Ji .i8 n2, Ji .i8 n3, Ji .i8 n4, Ji .i8 n5, Ji .u8 d], Ja #[Ji .i8 x0, Ji .i8 x1, Ji .i8 x2], Ja #[Ji .i8 y0, Ji .i8 y1, Ji .i8 y2], Jp (Jo ⟨w.heap.size, 0, Jn⟩), Jp (Jo ⟨w.heap.size + 1, 0, Jn⟩), Jp (Jo ⟨w.heap.size + 1 + 1, 0, Jn⟩), .bool false, Jp (Jo ⟨p7, 0, Jn⟩), .slice (Jo ⟨q8, 0, Jn⟩) 6 6, Jp (Jo ⟨p9, 0, Jn⟩), Ji Jl 0, .bool true, .bool false, val1 13, val1 14, t15, t16, t17, t18, .slice (Jo ⟨q8, 0, Jn⟩) 6 6, .slice (Jo ⟨q8, 0, Jn⟩) 6 6, Ji Jl 6, .bool false, val2 23, Ji Jl 0, .bool true, u26, u27, valB 28, valB 29, valB 30, valB 31, valB 32, valB 33, valB 34, valB 35, valB 36, valB 37, valB 38, valB 39, valB 40, valB 41, valB 42, valB 43, valB 44, valB 45, valB 46, valB 47, u48, u49, undef, undef, undef, undef, undef, undef, undef, undef, undef], []⟩) (fun valB => by kernel_rfl) (fun valB WB hB hF => ⟨?_⟩)
      · exact E7 V9x.out (.env rfl (by kernel_rfl)) rfl rfl rfl (by kernel_rfl) (by kernel_rfl)
      · exact Fh rfl rfl (.env rfl (by kernel_rfl)) rfl (by kernel_rfl)
      · exact Fh rfl rfl (.env rfl (by kernel_rfl)) rfl (by kernel_rfl)
      · exact Dl (op := .indexAddr 71 (.tmp 29) (.tmp 30)) rfl rfl (fun _ => rfl) (.dep 1 rfl (by kernel_rfl)) (.dep 2 rfl (by kernel_rfl)) rfl (by kernel_rfl) (fun a w e e2 => by unfold execOp bare;dsimp only;rw[e, e2];go_simp <;> rfl)
      · exact E6 0 1 V8.out (.dep 3 rfl (by kernel_rfl)) rfl rfl rfl (by kernel_rfl) (by kernel_rfl) (by kernel_rfl)
      · exact Fh rfl rfl (.env rfl (by kernel_rfl)) rfl (by kernel_rfl)
      · exact E4 rfl rfl (.env rfl (by kernel_rfl)) rfl (by kernel_rfl) (fun w => by go_simp)
      · exact FA rfl rfl (.dep 6 rfl (by kernel_rfl)) rfl (by kernel_rfl) (fun _ _ hE hD => Src.at_ (.dep 5 rfl (by kernel_rfl)) hE hD) (fun w => by go_simp)
      · exact E6 0 1 V7.out (.dep 7 rfl (by kernel_rfl)) rfl rfl rfl (by kernel_rfl) (by kernel_rfl) (by kernel_rfl)
      · exact EZ cf38 rfl rfl rfl rfl rfl (by kernel_rfl) (fun a v hB hE hD => L5 (hD 4 _ (by kernel_rfl) rfl) (hD 8 _ (by kernel_rfl) rfl) (by kernel_rfl) (G.out v hB))
      · exact Fh rfl rfl (.env rfl (by kernel_rfl)) rfl (by kernel_rfl)
      · exact Fh rfl rfl (.env rfl (by kernel_rfl)) rfl (by kernel_rfl)
      · exact Fm (op := .binOp .add 3 (.tmp 39) (.const (Ji Jl 3)) 3) rfl rfl (fun _ => rfl) (.dep 11 rfl (by kernel_rfl)) rfl (by kernel_rfl) (fun a w e => by unfold execOp bare;dsimp only;rw[e];go_simp <;> rfl)
      · exact Dl (op := .indexAddr 71 (.tmp 38) (.tmp 40)) rfl rfl (fun _ => rfl) (.dep 10 rfl (by kernel_rfl)) (.dep 12 rfl (by kernel_rfl)) rfl (by kernel_rfl) (fun a w e e2 => by unfold execOp bare;dsimp only;rw[e, e2];go_simp <;> rfl)
      · exact E6 3 1 V8.out (.dep 13 rfl (by kernel_rfl)) rfl rfl rfl (by kernel_rfl) (by kernel_rfl) (by kernel_rfl)
      · exact Fh rfl rfl (.env rfl (by kernel_rfl)) rfl (by kernel_rfl)
      · exact E4 rfl rfl (.env rfl (by kernel_rfl)) rfl (by kernel_rfl) (fun w => by go_simp)
      · exact FA rfl rfl (.dep 16 rfl (by kernel_rfl)) rfl (by kernel_rfl) (fun _ _ hE hD => Src.at_ (.dep 15 rfl (by kernel_rfl)) hE hD) (fun w => by go_simp)
      · exact E6 3 1 V7.out (.dep 17 rfl (by kernel_rfl)) rfl rfl rfl (by kernel_rfl) (by kernel_rfl) (by kernel_rfl)
      · exact EZ cf38 rfl rfl rfl rfl rfl (by kernel_rfl) (fun a v hB hE hD => L5 (hD 14 _ (by kernel_rfl) rfl) (hD 18 _ (by kernel_rfl) rfl) (by kernel_rfl) (G.out v hB))
      obtain⟨xa, xP, xb, xQ, e28, hx, fx⟩ :=R1 (show(Fct.num [] 1 [0]).P WB (valB 28)from hF 0 _ rfl);obtain⟨ya, yP, yb, yQ, e37, hy, fy⟩ :=R1 (show(Fct.num [] 17 [(xq1 * yq2-xq2 * yq1) * a0]).P WB (valB 37)from hF 9 _ rfl);obtain⟨za, zP, zb, zQ, e47, hz, fz⟩ :=R1 (show(Fct.num [] 17 [yq0 * a3]).P WB (valB 47)from hF 19 _ rfl);clear hF;generalize valB 28 =t28 at *
      generalize valB 29 =t29 at *
      generalize valB 30 =t30 at *
      generalize valB 31 =t31 at *
      generalize valB 32 =t32 at *
      generalize valB 33 =t33 at *
      generalize valB 34 =t34 at *
      generalize valB 35 =t35 at *
      generalize valB 36 =t36 at *
      generalize valB 37 =t37 at *
      generalize valB 38 =t38 at *
      generalize valB 39 =t39 at *
      generalize valB 40 =t40 at *
      generalize valB 41 =t41 at *
      generalize valB 42 =t42 at *
      generalize valB 43 =t43 at *
      generalize valB 44 =t44 at *
      generalize valB 45 =t45 at *
      generalize valB 46 =t46 at *
      generalize valB 47 =t47 at *
      have b1 :=(N0 WB.heap.size WB).alloc (N1 _) (Jc #[Ji Jl xa, Jp xP, Ji Jl xb, Jp xQ, Ji Jl ya, Jp yP, Ji Jl yb, Jp yQ, Ji Jl za, Jp zP, Ji Jl zb, Jp zQ] 31);refine Nq 20 (d :=48) (u := .slice (Jo ⟨WB.heap.size, 0, Jn⟩) 3 3) (w' :=WB.alloc (Jc #[Ji Jl xa, Jp xP, Ji Jl xb, Jp xQ, Ji Jl ya, Jp yP, Ji Jl yb, Jp yQ, Ji Jl za, Jp zP, Ji Jl zb, Jp zQ] 31)) trivial (by kernel_rfl) rfl rfl rfl (Ns xa xP xb xQ ya yP yb yQ za zP zb zQ WB rfl rfl rfl rfl e28 e37 e47) ?_;try simp only[N3, List.setIfInBounds_toArray, List.set_cons_zero, List.set_cons_succ]
      refine Fj 21 (d :=49) (F :=Fct.num [] 37 [0 + ((xq1 * yq2-xq2 * yq1) * a0) + ((yq0) * a3)]) cf37 (by kernel_rfl) rfl rfl rfl rfl rfl rfl ((Np xa xP xb xQ ya yP yb yQ za zP zb zQ WB (hx.keep b1) (hy.keep b1) (hz.keep b1) (fx.up (by decide)) (fy.up (by decide)) (fz.up (by decide)) (G.out _ (Jd hB b1))).mono (Ds (((fx.add fy).add fz).up (by decide)))) (fun _ _ => trivial) (fun u49 v hb hP => ?_);obtain⟨rs, rfl, hr, f⟩ :=hP;obtain⟨rs9, hc9, hr9, f9⟩ :=V9x.out v (Jd (Jd hB b1) hb);have hl9 :=hr9.len;have hl :=hr.len;have hls : ([] ++ flat rs).length =4 :=by simp[Fc, hl]
      have hls9 : ([] ++ flat rs9).length =4 :=by simp[Fc, hl9]
      have W1 :=hc9.wrote_ (vs := [] ++ flat rs) (by omega) (Fa _) (Fa _);have C1 :=hc9.stored (vs := [] ++ flat rs) (by omega);try simp only[N3, List.setIfInBounds_toArray, List.set_cons_zero, List.set_cons_succ]
      refine FP (m :=4) 22 p9 0 ([] ++ flat rs) (by kernel_rfl) rfl rfl rfl rfl rfl rfl hls (hc9.there 4 (by omega)) (by kernel_rfl) (Fa _) (fun _ => trivial) ?_;refine Dv (by kernel_rfl) ?_;have hN :=Hne.out;have HB :=Jd (Jd hB b1) hb;have X9 :=Lib.hid (show Fi _ p9 [] (rowk 1) [Nr xq0 xq1 xq2 yq0 yq1 yq2 a0 a1 a2 a3 a4 a5 1]from⟨rs, C1, hr.wr W1, f⟩);have X0 :=Lib.hid ((V0.out v HB).wr W1 hN.1);have X1 :=Lib.hid ((V1.out v HB).wr W1 hN.2.1);have X2 :=Lib.hid ((V2.out v HB).wr W1 hN.2.2.1);have X7 :=Lib.hid ((V7.out v HB).wr W1 hN.2.2.2.1);have X8 :=Lib.hid ((V8.out v HB).wr W1 hN.2.2.2.2.1);have XB :=Lib.hid (W1.below hN.2.2.2.2.2 (K.out.trans (HB.mono K.out.size)));generalize World.setCells _ _ _ _ =WF at *
      clear W1 C1 hc9 hr9 f9 hr f hb b1 HB hB hx hy hz fx fy fz e28 e37 e47 V0 V1 V2 V7 V8 V9x K G hN hls hls9 hl hl9;go_wp2_with fail
      go_roundw;case rel => exact⟨1, 1, by decide, rfl, by go_num, X9.out, X0.out, X1.out, X2.out, X7.out, X8.out, XB.out⟩
      case measure => simp[intOf]
    · obtain rfl : z =1 :=hzk
      have V9x :=Lib.hid (fun w' (hb : Below wr.heap.size wr w') => show Fi w' p9 [] 37 [0 + ((xq1 * yq2-xq2 * yq1) * a0) + ((yq0) * a3)]from V9.out.keep hb);clear V9;go_upto_region 11 with fail
      refine sheetT 59 [(28, false, 0), (29, false, 0), (30, false, 0), (31, false, 0), (32, false, 0), (33, false, 0), (34, false, 0), (35, false, 0), (36, false, 0), (37, false, 0), (38, false, 0), (39, false, 0), (40, false, 0), (41, false, 0), (42, false, 0), (43, false, 0), (44, false, 0), (45, false, 0), (46, false, 0), (47, false, 0)] []
        [Fct.num [] 37 [0 + ((xq1 * yq2 - xq2 * yq1) * a0) + ((yq0) * a3)],
        Fct.val (.slice (Jo ⟨q8, 0, Jn⟩) 6 6),
        Fct.val (Ji Jl 1),
        Fct.val (Jp (Jo ⟨q8, 4, Jn⟩)),
        Fct.num [] 13 [xq2 * yq0-xq0 * yq2],
        Fct.val (Ji Jl 1),
        Fct.val (Jp (Jo ⟨p7, 0, Jn⟩)),
        Fct.val (Jp (Jo ⟨p7, 4, Jn⟩)),
        Fct.num [] 4 [a1],
        Fct.num [] 17 [(xq2 * yq0-xq0 * yq2) * a1],
        Fct.val (.slice (Jo ⟨q8, 0, Jn⟩) 6 6),
        Fct.val (Ji Jl 1),
        Fct.val (Ji Jl 4),
        Fct.val (Jp (Jo ⟨q8, 16, Jn⟩)),
        Fct.num [] 13 [yq1],
        Fct.val (Ji Jl 1),
        Fct.val (Jp (Jo ⟨p7, 12, Jn⟩)),
        Fct.val (Jp (Jo ⟨p7, 16, Jn⟩)),
        Fct.num [] 4 [a4],
        Fct.num [] 17 [yq1 * a4]]
        #[true, true, true, true, true, true, true, true, true, true, true, true, true, true, true, true, true, true, true, true, false, false, false] 3 rfl (by kernel_rfl) rfl (by kernel_rfl) ⟨?_, ?_, ?_, ?_, ?_, ?_, ?_, ?_, ?_, ?_, ?_, ?_, ?_, ?_, ?_, ?_, ?_, ?_, ?_, ?_, trivial⟩
        (fun valB => ⟨#[Ja #[Ji .i8 n0, Ji .i8 n1, Ji .i8 n2, Ji .i8 n3, Ji .i8 n4, Ji .i8 n5, Ji .u8 d], Ja #[Ji .i8 x0, Ji .i8 x1, Ji .i8 x2], Ja #[Ji .i8 y0, Ji .i8 y1, Ji .i8 y2], Jp (Jo ⟨w.heap.size, 0, Jn⟩), Jp (Jo ⟨w.heap.size + 1, 0, Jn⟩), Jp (Jo ⟨w.heap.size + 1 + 1, 0, Jn⟩), .bool false, Jp (Jo ⟨p7, 0, Jn⟩), .slice (Jo ⟨q8, 0, Jn⟩) 6 6, Jp (Jo ⟨p9, 0, Jn⟩), Ji Jl 1, .bool true, .bool false, val1 13, val1 14, t15, t16, t17, t18, .slice (Jo ⟨q8, 0, Jn⟩) 6 6, .slice (Jo ⟨q8, 0, Jn⟩) 6 6, Ji Jl 6, .bool false, val2 23, Ji Jl 1, .bool true, u26, u27, valB 28, valB 29, valB 30, valB 31, valB 32, valB 33, valB 34, valB 35, valB 36, valB 37, valB 38, valB 39, valB 40, valB 41, valB 42, valB 43, valB 44, valB 45, valB 46, valB 47, u48, u49, undef, undef, undef, undef, undef, undef, undef, undef, undef], []⟩) (fun valB => by kernel_rfl) (fun valB WB hB hF => ⟨?_⟩)
      · exact E7 V9x.out (.env rfl (by kernel_rfl)) rfl rfl rfl (by kernel_rfl) (by kernel_rfl)
      · exact Fh rfl rfl (.env rfl (by kernel_rfl)) rfl (by kernel_rfl)
      · exact Fh rfl rfl (.env rfl (by kernel_rfl)) rfl (by kernel_rfl)
      · exact Dl (op := .indexAddr 71 (.tmp 29) (.tmp 30)) rfl rfl (fun _ => rfl) (.dep 1 rfl (by kernel_rfl)) (.dep 2 rfl (by kernel_rfl)) rfl (by kernel_rfl) (fun a w e e2 => by unfold execOp bare;dsimp only;rw[e, e2];go_simp <;> rfl)
      · exact E6 1 1 V8.out (.dep 3 rfl (by kernel_rfl)) rfl rfl rfl (by kernel_rfl) (by kernel_rfl) (by kernel_rfl)
      · exact Fh rfl rfl (.env rfl (by kernel_rfl)) rfl (by kernel_rfl)
      · exact E4 rfl rfl (.env rfl (by kernel_rfl)) rfl (by kernel_rfl) (fun w => by go_simp)
      · exact FA rfl rfl (.dep 6 rfl (by kernel_rfl)) rfl (by kernel_rfl) (fun _ _ hE hD => Src.at_ (.dep 5 rfl (by kernel_rfl)) hE hD) (fun w => by go_simp)
      · exact E6 1 1 V7.out (.dep 7 rfl (by kernel_rfl)) rfl rfl rfl (by kernel_rfl) (by kernel_rfl) (by kernel_rfl)
      · exact EZ cf38 rfl rfl rfl rfl rfl (by kernel_rfl) (fun a v hB hE hD => L5 (hD 4 _ (by kernel_rfl) rfl) (hD 8 _ (by kernel_rfl) rfl) (by kernel_rfl) (G.out v hB))
      · exact Fh rfl rfl (.env rfl (by kernel_rfl)) rfl (by kernel_rfl)
      · exact Fh rfl rfl (.env rfl (by kernel_rfl)) rfl (by kernel_rfl)
      · exact Fm (op := .binOp .add 3 (.tmp 39) (.const (Ji Jl 3)) 3) rfl rfl (fun _ => rfl) (.dep 11 rfl (by kernel_rfl)) rfl (by kernel_rfl) (fun a w e => by unfold execOp bare;dsimp only;rw[e];go_simp <;> rfl)
      · exact Dl (op := .indexAddr 71 (.tmp 38) (.tmp 40)) rfl rfl (fun _ => rfl) (.dep 10 rfl (by kernel_rfl)) (.dep 12 rfl (by kernel_rfl)) rfl (by kernel_rfl) (fun a w e e2 => by unfold execOp bare;dsimp only;rw[e, e2];go_simp <;> rfl)
      · exact E6 4 1 V8.out (.dep 13 rfl (by kernel_rfl)) rfl rfl rfl (by kernel_rfl) (by kernel_rfl) (by kernel_rfl)
      · exact Fh rfl rfl (.env rfl (by kernel_rfl)) rfl (by kernel_rfl)
      · exact E4 rfl rfl (.env rfl (by kernel_rfl)) rfl (by kernel_rfl) (fun w => by go_simp)
      · exact FA rfl rfl (.dep 16 rfl (by kernel_rfl)) rfl (by kernel_rfl) (fun _ _ hE hD => Src.at_ (.dep 15 rfl (by kernel_rfl)) hE hD) (fun w => by go_simp)
      · exact E6 4 1 V7.out (.dep 17 rfl (by kernel_rfl)) rfl rfl rfl (by kernel_rfl) (by kernel_rfl) (by kernel_rfl)
      · exact EZ cf38 rfl rfl rfl rfl rfl (by kernel_rfl) (fun a v hB hE hD => L5 (hD 14 _ (by kernel_rfl) rfl) (hD 18 _ (by kernel_rfl) rfl) (by kernel_rfl) (G.out v hB))
      obtain⟨xa, xP, xb, xQ, e28, hx, fx⟩ :=R1 (show(Fct.num [] 37 [0 + ((xq1 * yq2-xq2 * yq1) * a0) + ((yq0) * a3)]).P WB (valB 28)from hF 0 _ rfl);obtain⟨ya, yP, yb, yQ, e37, hy, fy⟩ :=R1 (show(Fct.num [] 17 [(xq2 * yq0-xq0 * yq2) * a1]).P WB (valB 37)from hF 9 _ rfl);obtain⟨za, zP, zb, zQ, e47, hz, fz⟩ :=R1 (show(Fct.num [] 17 [yq1 * a4]).P WB (valB 47)from hF 19 _ rfl);clear hF;generalize valB 28 =t28 at *
      generalize valB 29 =t29 at *
      generalize valB 30 =t30 at *
      generalize valB 31 =t31 at *
      generalize valB 32 =t32 at *
      generalize valB 33 =t33 at *
      generalize valB 34 =t34 at *
      generalize valB 35 =t35 at *
      generalize valB 36 =t36 at *
      generalize valB 37 =t37 at *
      generalize valB 38 =t38 at *
      generalize valB 39 =t39 at *
      generalize valB 40 =t40 at *
      generalize valB 41 =t41 at *
      generalize valB 42 =t42 at *
      generalize valB 43 =t43 at *
      generalize valB 44 =t44 at *
      generalize valB 45 =t45 at *
      generalize valB 46 =t46 at *
      generalize valB 47 =t47 at *
      have b1 :=(N0 WB.heap.size WB).alloc (N1 _) (Jc #[Ji Jl xa, Jp xP, Ji Jl xb, Jp xQ, Ji Jl ya, Jp yP, Ji Jl yb, Jp yQ, Ji Jl za, Jp zP, Ji Jl zb, Jp zQ] 31);refine Nq 20 (d :=48) (u := .slice (Jo ⟨WB.heap.size, 0, Jn⟩) 3 3) (w' :=WB.alloc (Jc #[Ji Jl xa, Jp xP, Ji Jl xb, Jp xQ, Ji Jl ya, Jp yP, Ji Jl yb, Jp yQ, Ji Jl za, Jp zP, Ji Jl zb, Jp zQ] 31)) trivial (by kernel_rfl) rfl rfl rfl (Ns xa xP xb xQ ya yP yb yQ za zP zb zQ WB rfl rfl rfl rfl e28 e37 e47) ?_;try simp only[N3, List.setIfInBounds_toArray, List.set_cons_zero, List.set_cons_succ]
      refine Fj 21 (d :=49) (F :=Fct.num [] 73 [(0 + ((xq1 * yq2-xq2 * yq1) * a0) + ((yq0) * a3)) + ((xq2 * yq0-xq0 * yq2) * a1) + ((yq1) * a4)]) cf37 (by kernel_rfl) rfl rfl rfl rfl rfl rfl ((Np xa xP xb xQ ya yP yb yQ za zP zb zQ WB (hx.keep b1) (hy.keep b1) (hz.keep b1) (fx.up (by decide)) (fy.up (by decide)) (fz.up (by decide)) (G.out _ (Jd hB b1))).mono (Ds (((fx.add fy).add fz).up (by decide)))) (fun _ _ => trivial) (fun u49 v hb hP => ?_);obtain⟨rs, rfl, hr, f⟩ :=hP;obtain⟨rs9, hc9, hr9, f9⟩ :=V9x.out v (Jd (Jd hB b1) hb);have hl9 :=hr9.len;have hl :=hr.len;have hls : ([] ++ flat rs).length =4 :=by simp[Fc, hl]
      have hls9 : ([] ++ flat rs9).length =4 :=by simp[Fc, hl9]
      have W1 :=hc9.wrote_ (vs := [] ++ flat rs) (by omega) (Fa _) (Fa _);have C1 :=hc9.stored (vs := [] ++ flat rs) (by omega);try simp only[N3, List.setIfInBounds_toArray, List.set_cons_zero, List.set_cons_succ]
      refine FP (m :=4) 22 p9 0 ([] ++ flat rs) (by kernel_rfl) rfl rfl rfl rfl rfl rfl hls (hc9.there 4 (by omega)) (by kernel_rfl) (Fa _) (fun _ => trivial) ?_;refine Dv (by kernel_rfl) ?_;have hN :=Hne.out;have HB :=Jd (Jd hB b1) hb;have X9 :=Lib.hid (show Fi _ p9 [] (rowk 2) [Nr xq0 xq1 xq2 yq0 yq1 yq2 a0 a1 a2 a3 a4 a5 2]from⟨rs, C1, hr.wr W1, f⟩);have X0 :=Lib.hid ((V0.out v HB).wr W1 hN.1);have X1 :=Lib.hid ((V1.out v HB).wr W1 hN.2.1);have X2 :=Lib.hid ((V2.out v HB).wr W1 hN.2.2.1);have X7 :=Lib.hid ((V7.out v HB).wr W1 hN.2.2.2.1);have X8 :=Lib.hid ((V8.out v HB).wr W1 hN.2.2.2.2.1);have XB :=Lib.hid (W1.below hN.2.2.2.2.2 (K.out.trans (HB.mono K.out.size)));generalize World.setCells _ _ _ _ =WF at *
      clear W1 C1 hc9 hr9 f9 hr f hb b1 HB hB hx hy hz fx fy fz e28 e37 e47 V0 V1 V2 V7 V8 V9x K G hN hls hls9 hl hl9;go_wp2_with fail
      go_roundw;case rel => exact⟨2, 2, by decide, rfl, by go_num, X9.out, X0.out, X1.out, X2.out, X7.out, X8.out, XB.out⟩
      case measure => simp[intOf]
    · obtain rfl : z =2 :=hzk
      have V9x :=Lib.hid (fun w' (hb : Below wr.heap.size wr w') => show Fi w' p9 [] 73 [(0 + ((xq1 * yq2-xq2 * yq1) * a0) + ((yq0) * a3)) + ((xq2 * yq0-xq0 * yq2) * a1) + ((yq1) * a4)]from V9.out.keep hb);clear V9;go_upto_region 11 with fail
      refine sheetT 59 [(28, false, 0), (29, false, 0), (30, false, 0), (31, false, 0), (32, false, 0), (33, false, 0), (34, false, 0), (35, false, 0), (36, false, 0), (37, false, 0), (38, false, 0), (39, false, 0), (40, false, 0), (41, false, 0), (42, false, 0), (43, false, 0), (44, false, 0), (45, false, 0), (46, false, 0), (47, false, 0)] []
        [Fct.num [] 73 [(0 + ((xq1 * yq2 - xq2 * yq1) * a0) + ((yq0) * a3)) + ((xq2 * yq0 - xq0 * yq2) * a1) + ((yq1) * a4)],
        Fct.val (.slice (Jo ⟨q8, 0, Jn⟩) 6 6),
        Fct.val (Ji Jl 2),
        Fct.val (Jp (Jo ⟨q8, 8, Jn⟩)),
        Fct.num [] 13 [xq0 * yq1-xq1 * yq0],
        Fct.val (Ji Jl 2),
        Fct.val (Jp (Jo ⟨p7, 0, Jn⟩)),
        Fct.val (Jp (Jo ⟨p7, 8, Jn⟩)),
        Fct.num [] 4 [a2],
        Fct.num [] 17 [(xq0 * yq1-xq1 * yq0) * a2],
        Fct.val (.slice (Jo ⟨q8, 0, Jn⟩) 6 6),
        Fct.val (Ji Jl 2),
        Fct.val (Ji Jl 5),
        Fct.val (Jp (Jo ⟨q8, 20, Jn⟩)),
        Fct.num [] 13 [yq2],
        Fct.val (Ji Jl 2),
        Fct.val (Jp (Jo ⟨p7, 12, Jn⟩)),
        Fct.val (Jp (Jo ⟨p7, 20, Jn⟩)),
        Fct.num [] 4 [a5],
        Fct.num [] 17 [yq2 * a5]]
        #[true, true, true, true, true, true, true, true, true, true, true, true, true, true, true, true, true, true, true, true, false, false, false] 3 rfl (by kernel_rfl) rfl (by kernel_rfl) ⟨?_, ?_, ?_, ?_, ?_, ?_, ?_, ?_, ?_, ?_, ?_, ?_, ?_, ?_, ?_, ?_, ?_, ?_, ?_, ?_, trivial⟩
        (fun valB => ⟨#[Ja #[Ji .i8 n0, Ji .i8 n1, Ji .i8 n2, Ji .i8 n3, Ji .i8 n4, Ji .i8 n5, Ji .u8 d], Ja #[Ji .i8 x0, Ji .i8 x1, Ji .i8 x2], Ja #[Ji .i8 y0, Ji .i8 y1, Ji .i8 y2], Jp (Jo ⟨w.heap.size, 0, Jn⟩), Jp (Jo ⟨w.heap.size + 1, 0, Jn⟩), Jp (Jo ⟨w.heap.size + 1 + 1, 0, Jn⟩), .bool false, Jp (Jo ⟨p7, 0, Jn⟩), .slice (Jo ⟨q8, 0, Jn⟩) 6 6, Jp (Jo ⟨p9, 0, Jn⟩), Ji Jl 2, .bool true, .bool false, val1 13, val1 14, t15, t16, t17, t18, .slice (Jo ⟨q8, 0, Jn⟩) 6 6, .slice (Jo ⟨q8, 0, Jn⟩) 6 6, Ji Jl 6, .bool false, val2 23, Ji Jl 2, .bool true, u26, u27, valB 28, valB 29, valB 30, valB 31, valB 32, valB 33, valB 34, valB 35, valB 36, valB 37, valB 38, valB 39, valB 40, valB 41, valB 42, valB 43, valB 44, valB 45, valB 46, valB 47, u48, u49, undef, undef, undef, undef, undef, undef, undef, undef, undef], []⟩) (fun valB => by kernel_rfl) (fun valB WB hB hF => ⟨?_⟩)
      · exact E7 V9x.out (.env rfl (by kernel_rfl)) rfl rfl rfl (by kernel_rfl) (by kernel_rfl)
      · exact Fh rfl rfl (.env rfl (by kernel_rfl)) rfl (by kernel_rfl)
      · exact Fh rfl rfl (.env rfl (by kernel_rfl)) rfl (by kernel_rfl)
      · exact Dl (op := .indexAddr 71 (.tmp 29) (.tmp 30)) rfl rfl (fun _ => rfl) (.dep 1 rfl (by kernel_rfl)) (.dep 2 rfl (by kernel_rfl)) rfl (by kernel_rfl) (fun a w e e2 => by unfold execOp bare;dsimp only;rw[e, e2];go_simp <;> rfl)
      · exact E6 2 1 V8.out (.dep 3 rfl (by kernel_rfl)) rfl rfl rfl (by kernel_rfl) (by kernel_rfl) (by kernel_rfl)
      · exact Fh rfl rfl (.env rfl (by kernel_rfl)) rfl (by kernel_rfl)
      · exact E4 rfl rfl (.env rfl (by kernel_rfl)) rfl (by kernel_rfl) (fun w => by go_simp)
      · exact FA rfl rfl (.dep 6 rfl (by kernel_rfl)) rfl (by kernel_rfl) (fun _ _ hE hD => Src.at_ (.dep 5 rfl (by kernel_rfl)) hE hD) (fun w => by go_simp)
      · exact E6 2 1 V7.out (.dep 7 rfl (by kernel_rfl)) rfl rfl rfl (by kernel_rfl) (by kernel_rfl) (by kernel_rfl)
      · exact EZ cf38 rfl rfl rfl rfl rfl (by kernel_rfl) (fun a v hB hE hD => L5 (hD 4 _ (by kernel_rfl) rfl) (hD 8 _ (by kernel_rfl) rfl) (by kernel_rfl) (G.out v hB))
      · exact Fh rfl rfl (.env rfl (by kernel_rfl)) rfl (by kernel_rfl)
      · exact Fh rfl rfl (.env rfl (by kernel_rfl)) rfl (by kernel_rfl)
      · exact Fm (op := .binOp .add 3 (.tmp 39) (.const (Ji Jl 3)) 3) rfl rfl (fun _ => rfl) (.dep 11 rfl (by kernel_rfl)) rfl (by kernel_rfl) (fun a w e => by unfold execOp bare;dsimp only;rw[e];go_simp <;> rfl)
      · exact Dl (op := .indexAddr 71 (.tmp 38) (.tmp 40)) rfl rfl (fun _ => rfl) (.dep 10 rfl (by kernel_rfl)) (.dep 12 rfl (by kernel_rfl)) rfl (by kernel_rfl) (fun a w e e2 => by unfold execOp bare;dsimp only;rw[e, e2];go_simp <;> rfl)
      · exact E6 5 1 V8.out (.dep 13 rfl (by kernel_rfl)) rfl rfl rfl (by kernel_rfl) (by kernel_rfl) (by kernel_rfl)
      · exact Fh rfl rfl (.env rfl (by kernel_rfl)) rfl (by kernel_rfl)
      · exact E4 rfl rfl (.env rfl (by kernel_rfl)) rfl (by kernel_rfl) (fun w => by go_simp)
      · exact FA rfl rfl (.dep 16 rfl (by kernel_rfl)) rfl (by kernel_rfl) (fun _ _ hE hD => Src.at_ (.dep 15 rfl (by kernel_rfl)) hE hD) (fun w => by go_simp)
      · exact E6 5 1 V7.out (.dep 17 rfl (by kernel_rfl)) rfl rfl rfl (by kernel_rfl) (by kernel_rfl) (by kernel_rfl)
      · exact EZ cf38 rfl rfl rfl rfl rfl (by kernel_rfl) (fun a v hB hE hD => L5 (hD 14 _ (by kernel_rfl) rfl) (hD 18 _ (by kernel_rfl) rfl) (by kernel_rfl) (G.out v hB))
      obtain⟨xa, xP, xb, xQ, e28, hx, fx⟩ :=R1 (show(Fct.num [] 73 [(0 + ((xq1 * yq2-xq2 * yq1) * a0) + ((yq0) * a3)) + ((xq2 * yq0-xq0 * yq2) * a1) + ((yq1) * a4)]).P WB (valB 28)from hF 0 _ rfl);obtain⟨ya, yP, yb, yQ, e37, hy, fy⟩ :=R1 (show(Fct.num [] 17 [(xq0 * yq1-xq1 * yq0) * a2]).P WB (valB 37)from hF 9 _ rfl);obtain⟨za, zP, zb, zQ, e47, hz, fz⟩ :=R1 (show(Fct.num [] 17 [yq2 * a5]).P WB (valB 47)from hF 19 _ rfl);clear hF;generalize valB 28 =t28 at *
      generalize valB 29 =t29 at *
      generalize valB 30 =t30 at *
      generalize valB 31 =t31 at *
      generalize valB 32 =t32 at *
      generalize valB 33 =t33 at *
      generalize valB 34 =t34 at *
      generalize valB 35 =t35 at *
      generalize valB 36 =t36 at *
      generalize valB 37 =t37 at *
      generalize valB 38 =t38 at *
      generalize valB 39 =t39 at *
      generalize valB 40 =t40 at *
      generalize valB 41 =t41 at *
      generalize valB 42 =t42 at *
      generalize valB 43 =t43 at *
      generalize valB 44 =t44 at *
      generalize valB 45 =t45 at *
      generalize valB 46 =t46 at *
      generalize valB 47 =t47 at *
      have b1 :=(N0 WB.heap.size WB).alloc (N1 _) (Jc #[Ji Jl xa, Jp xP, Ji Jl xb, Jp xQ, Ji Jl ya, Jp yP, Ji Jl yb, Jp yQ, Ji Jl za, Jp zP, Ji Jl zb, Jp zQ] 31);refine Nq 20 (d :=48) (u := .slice (Jo ⟨WB.heap.size, 0, Jn⟩) 3 3) (w' :=WB.alloc (Jc #[Ji Jl xa, Jp xP, Ji Jl xb, Jp xQ, Ji Jl ya, Jp yP, Ji Jl yb, Jp yQ, Ji Jl za, Jp zP, Ji Jl zb, Jp zQ] 31)) trivial (by kernel_rfl) rfl rfl rfl (Ns xa xP xb xQ ya yP yb yQ za zP zb zQ WB rfl rfl rfl rfl e28 e37 e47) ?_;try simp only[N3, List.setIfInBounds_toArray, List.set_cons_zero, List.set_cons_succ]
      refine Fj 21 (d :=49) (F :=Fct.num [] 109 [((0 + ((xq1 * yq2-xq2 * yq1) * a0) + ((yq0) * a3)) + ((xq2 * yq0-xq0 * yq2) * a1) + ((yq1) * a4)) + ((xq0 * yq1-xq1 * yq0) * a2) + ((yq2) * a5)]) cf37 (by kernel_rfl) rfl rfl rfl rfl rfl rfl ((Np xa xP xb xQ ya yP yb yQ za zP zb zQ WB (hx.keep b1) (hy.keep b1) (hz.keep b1) (fx.up (by decide)) (fy.up (by decide)) (fz.up (by decide)) (G.out _ (Jd hB b1))).mono (Ds (((fx.add fy).add fz).up (by decide)))) (fun _ _ => trivial) (fun u49 v hb hP => ?_);obtain⟨rs, rfl, hr, f⟩ :=hP;obtain⟨rs9, hc9, hr9, f9⟩ :=V9x.out v (Jd (Jd hB b1) hb);have hl9 :=hr9.len;have hl :=hr.len;have hls : ([] ++ flat rs).length =4 :=by simp[Fc, hl]
      have hls9 : ([] ++ flat rs9).length =4 :=by simp[Fc, hl9]
      have W1 :=hc9.wrote_ (vs := [] ++ flat rs) (by omega) (Fa _) (Fa _);have C1 :=hc9.stored (vs := [] ++ flat rs) (by omega);try simp only[N3, List.setIfInBounds_toArray, List.set_cons_zero, List.set_cons_succ]
      refine FP (m :=4) 22 p9 0 ([] ++ flat rs) (by kernel_rfl) rfl rfl rfl rfl rfl rfl hls (hc9.there 4 (by omega)) (by kernel_rfl) (Fa _) (fun _ => trivial) ?_;refine Dv (by kernel_rfl) ?_;have hN :=Hne.out;have HB :=Jd (Jd hB b1) hb;have X9 :=Lib.hid (show Fi _ p9 [] (rowk 3) [Nr xq0 xq1 xq2 yq0 yq1 yq2 a0 a1 a2 a3 a4 a5 3]from⟨rs, C1, hr.wr W1, f⟩);have X0 :=Lib.hid ((V0.out v HB).wr W1 hN.1);have X1 :=Lib.hid ((V1.out v HB).wr W1 hN.2.1);have X2 :=Lib.hid ((V2.out v HB).wr W1 hN.2.2.1);have X7 :=Lib.hid ((V7.out v HB).wr W1 hN.2.2.2.1);have X8 :=Lib.hid ((V8.out v HB).wr W1 hN.2.2.2.2.1);have XB :=Lib.hid (W1.below hN.2.2.2.2.2 (K.out.trans (HB.mono K.out.size)));generalize World.setCells _ _ _ _ =WF at *
      clear W1 C1 hc9 hr9 f9 hr f hb b1 HB hB hx hy hz fx fy fz e28 e37 e47 V0 V1 V2 V7 V8 V9x K G hN hls hls9 hl hl9;go_wp2_with fail
      go_roundw;case rel => exact⟨3, 3, by decide, rfl, by go_num, X9.out, X0.out, X1.out, X2.out, X7.out, X8.out, XB.out⟩
      case measure => simp[intOf]
    · obtain rfl : z =3 :=hzk
      replace V9 :=Lib.hid (fun w' (hb : Below wr.heap.size wr w') => show Fi w' p9 [] 109 [((0 + ((xq1 * yq2-xq2 * yq1) * a0) + ((yq0) * a3)) + ((xq2 * yq0-xq0 * yq2) * a1) + ((yq1) * a4)) + ((xq0 * yq1-xq1 * yq0) * a2) + ((yq2) * a5)]from V9.out.keep hb);go_upto_region 12 with fail
      refine Fy 59 [(50, false, 0), (51, false, 0), (52, false, 0), (53, false, 0), (54, false, 0), (55, false, 0), (56, false, 0), (57, false, 0), (58, false, 0), (6, false, 0)] []
        [Fct.num [] 109 [((0 + ((xq1 * yq2 - xq2 * yq1) * a0) + ((yq0) * a3)) + ((xq2 * yq0 - xq0 * yq2) * a1) + ((yq1) * a4)) + ((xq0 * yq1 - xq1 * yq0) * a2) + ((yq2) * a5)],
        Fct.val (Ja #[Ji .i8 y0, Ji .i8 y1, Ji .i8 y2]),
        Fct.num [] 3 [yq0, yq1, yq2],
        Fct.num [] 4 [a0, a1, a2, a3, a4, a5],
        Fct.val (Ja #[Ji .i8 x0, Ji .i8 x1, Ji .i8 x2]),
        Fct.num [] 3 [xq0, xq1, xq2],
        Fct.num [] 20 [a3 + (a1 * xq2-a2 * xq1), a4 + (a2 * xq0-a0 * xq2), a5 + (a0 * xq1-a1 * xq0)],
        Fct.num [] 71 [yq0 * (a3 + (a1 * xq2-a2 * xq1)) + yq1 * (a4 + (a2 * xq0-a0 * xq2)) + yq2 * (a5 + (a0 * xq1-a1 * xq0))],
        Fct.val (.bool true),
        Fct.val (.bool true)]
        #[true, true, true, true, true, true, true, true, true, true] 0 rfl (by kernel_rfl) rfl (by kernel_rfl) ⟨?_, ?_, ?_, ?_, ?_, ?_, ?_, ?_, ?_, ?_, trivial⟩
        (fun val3 => ⟨#[Ja #[Ji .i8 n0, Ji .i8 n1, Ji .i8 n2, Ji .i8 n3, Ji .i8 n4, Ji .i8 n5, Ji .u8 d], Ja #[Ji .i8 x0, Ji .i8 x1, Ji .i8 x2], Ja #[Ji .i8 y0, Ji .i8 y1, Ji .i8 y2], Jp (Jo ⟨w.heap.size, 0, Jn⟩), Jp (Jo ⟨w.heap.size + 1, 0, Jn⟩), Jp (Jo ⟨w.heap.size + 1 + 1, 0, Jn⟩), val3 6, Jp (Jo ⟨p7, 0, Jn⟩), .slice (Jo ⟨q8, 0, Jn⟩) 6 6, Jp (Jo ⟨p9, 0, Jn⟩), Ji Jl 3, .bool true, .bool false, val1 13, val1 14, t15, t16, t17, t18, .slice (Jo ⟨q8, 0, Jn⟩) 6 6, .slice (Jo ⟨q8, 0, Jn⟩) 6 6, Ji Jl 6, .bool false, val2 23, Ji Jl 3, .bool false, u26, u27, u28, u29, u30, u31, u32, u33, u34, u35, u36, u37, u38, u39, u40, u41, u42, u43, u44, u45, u46, u47, u48, u49, val3 50, val3 51, val3 52, val3 53, val3 54, val3 55, val3 56, val3 57, val3 58], []⟩) (fun val3 => by kernel_rfl) (fun val3 W3 hB hF => ⟨?_⟩)
      · exact E7 V9.out (.env rfl (by kernel_rfl)) rfl rfl rfl (by kernel_rfl) (by kernel_rfl)
      · exact Fk 3 V2.out (.env rfl (by kernel_rfl)) rfl rfl rfl (by kernel_rfl) (by kernel_rfl) rfl (by kernel_rfl)
      · exact EZ cf22 rfl rfl rfl rfl rfl (by kernel_rfl) (fun a v hB hE hD => (show Calls _ _ #[Act.at_ a 51] v _ from by rw[show Act.at_ a 51 =_ from hD 1 _ (by kernel_rfl) rfl];exact Hy.out v (G.out v hB)))
      · exact E7 V7.out (.env rfl (by kernel_rfl)) rfl rfl rfl (by kernel_rfl) (by kernel_rfl)
      · exact Fk 3 V1.out (.env rfl (by kernel_rfl)) rfl rfl rfl (by kernel_rfl) (by kernel_rfl) rfl (by kernel_rfl)
      · exact EZ cf22 rfl rfl rfl rfl rfl (by kernel_rfl) (fun a v hB hE hD => (show Calls _ _ #[Act.at_ a 54] v _ from by rw[show Act.at_ a 54 =_ from hD 4 _ (by kernel_rfl) rfl];exact Hx.out v (G.out v hB)))
      · exact EZ cf25 rfl rfl rfl rfl rfl (by kernel_rfl) (fun a v hB hE hD => L8 (hD 3 _ (by kernel_rfl) rfl) (hD 5 _ (by kernel_rfl) rfl) (by kernel_rfl) (G.out v hB))
      · exact EZ cf31 rfl rfl rfl rfl rfl (by kernel_rfl) (fun a v hB hE hD => FZ (hD 2 _ (by kernel_rfl) rfl) (hD 6 _ (by kernel_rfl) rfl) (by kernel_rfl) (G.out v hB))
      · exact EZ cf34 rfl rfl rfl rfl rfl (by kernel_rfl) (fun a v hB hE hD => DV (hD 0 _ (by kernel_rfl) rfl) (hD 7 _ (by kernel_rfl) rfl) eqn0 (by kernel_rfl) (G.out v hB))
      · exact E5 8 rfl rfl rfl rfl (by kernel_rfl)
      have e6 : val3 6 = .bool true :=hF 9 _ rfl;clear hF;generalize val3 6 =t6 at *
      subst e6;replace V0 :=Lib.hid (fun w' (hb : Below W3.heap.size W3 w') => V0.out w' (Jd hB hb));replace V1 :=Lib.hid (fun w' (hb : Below W3.heap.size W3 w') => V1.out w' (Jd hB hb));replace V2 :=Lib.hid (fun w' (hb : Below W3.heap.size W3 w') => V2.out w' (Jd hB hb));replace V7 :=Lib.hid (fun w' (hb : Below W3.heap.size W3 w') => V7.out w' (Jd hB hb));replace V8 :=Lib.hid (fun w' (hb : Below W3.heap.size W3 w') => V8.out w' (Jd hB hb));replace V9 :=Lib.hid (fun w' (hb : Below W3.heap.size W3 w') => V9.out w' (Jd hB hb));replace K :=Lib.hid (Jd K.out hB);replace G :=Lib.hid (fun w' (hb : Below W3.heap.size W3 w') => G.out w' (Jd hB hb));clear hB;refine Last.nil (by kernel_rfl) ?_;clear G V0 V1 V2 V7 V8 V9;go_wp2_with fail
      exact bodyPost_ret (v := .bool true) (by simp[results, Tryz.results6, go_sem]) rfl ⟨_, rfl, K.out, rfl⟩
