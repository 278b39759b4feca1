/- Twists. -/
import Derived.Test.YthhobhjcnmmipaaGreatDoorPShr
namespace Go.Proofs.YthhobhjcnmmipaaGreatDoor
open Go.Value renaming pointer→Jp,int→Ji,int→T6
open Go.IntKind renaming i64→Jl
open Go.Obj renaming cells→Jc
open _root_.Option renaming none→Jn,some→Jo
open Go renaming World→JW
open _root_.Bool renaming and_eq_true→T3
open _root_.List renaming getElem?_append_right→T4,mem_cons_self→T5,getElem?_eq_getElem→T7,mem_cons_of_mem→T9,append_assoc→Ts,getElem?_append_left→Tt
open _root_.Nat renaming le_refl→T8
open Go.RowKit.Below renaming refl→Tr
open Go.RowKit
theorem Rats.cons{w : JW}{rs : List R4}{q : Rat}{qs : List Rat}(h : Rats w rs (q :: qs)) : ∃r rs', rs =r :: rs' /\ VAt w r q /\ Rats w rs' qs :=by
 cases rs with
 | nil => exact h.elim
 | cons r rs' => exact⟨r, rs', rfl, h.1, h.2⟩
theorem Rats.nil_{w : JW}{rs : List R4}(h : Rats w rs []) : rs = [] :=by
 cases rs with
 | nil => rfl
 | cons r rs' => exact h.elim
theorem V3{w : JW}{t : Value}{k : Nat}{q0 q1 q2 : Rat}(h : (Fct.num [] k [q0, q1, q2]).P w t) : ∃r0 r1 r2, t =Jw r0 r1 r2 /\ VecV w r0 r1 r2 q0 q1 q2 /\ Few3 k q0 q1 q2 :=by
 obtain⟨rs, rfl, hr, f⟩ :=h;obtain⟨r0, rs, rfl, h0, hr⟩ :=hr.cons;obtain⟨r1, rs, rfl, h1, hr⟩ :=hr.cons;obtain⟨r2, rs, rfl, h2, hr⟩ :=hr.cons;obtain rfl :=hr.nil_;exact⟨r0, r1, r2, rfl, ⟨h0, h1, h2⟩, f q0 (T5 ..), f q1 (T9 _ (T5 ..)), f q2 (T9 _ (T9 _ (T5 ..)))⟩
theorem V3.mk{w : JW}{k : Nat}{q0 q1 q2 : Rat}{r0 r1 r2 : R4}(h : VecV w r0 r1 r2 q0 q1 q2)(f : Few3 k q0 q1 q2) : (Fct.num [] k [q0, q1, q2]).P w (Jw r0 r1 r2) :=
 ⟨[r0, r1, r2], rfl, ⟨h.x, h.y, h.z, trivial⟩, fun q hq => by
  simp only[List.mem_cons, List.not_mem_nil, or_false]at hq;rcases hq with rfl|rfl|rfl
  ·exact f.x
  ·exact f.y
  ·exact f.z⟩
theorem Few3.up{k n : Nat}{q0 q1 q2 : Rat}(f : Few3 k q0 q1 q2)(h : k <= n) : Few3 n q0 q1 q2 :=⟨f.x.up h, f.y.up h, f.z.up h⟩
theorem Dg{w : JW}{q0 q1 q2 : Rat}{n : Nat}(f : Few3 n q0 q1 q2)(e : Ending)(v : JW)(h : YX q0 q1 q2 w e v) : Ret w (Fct.num [] n [q0, q1, q2]) e v :=by
 obtain⟨r0, r1, r2, e, hv, hb⟩ :=h;exact⟨_, e, hb, V3.mk hv f⟩
theorem R1{w : JW}{t : Value}{k : Nat}{q : Rat}(h : (Fct.num [] k [q]).P w t) : ∃a P b Q, t = .agg #[Ji Jl a, Jp P, Ji Jl b, Jp Q] /\ RatV w a P b Q q /\ Few q k :=by
 obtain⟨rs, rfl, hr, f⟩ :=h;obtain⟨r, rs, rfl, h0, hr⟩ :=hr.cons;obtain rfl :=hr.nil_;exact⟨r.1, r.2.1, r.2.2.1, r.2.2.2, rfl, h0, f q (T5 ..)⟩
theorem R1.mk{w : JW}{k : Nat}{q : Rat}{a b : Int}{P Q : Option Addr}(h : RatV w a P b Q q)(f : Few q k) : (Fct.num [] k [q]).P w (.agg #[Ji Jl a, Jp P, Ji Jl b, Jp Q]) :=
 ⟨[(a, P, b, Q)], rfl, ⟨h, trivial⟩, fun x hx => by
  simp only[List.mem_cons, List.not_mem_nil, or_false]at hx;subst hx;exact f⟩
theorem Ds{w : JW}{q : Rat}{n : Nat}(f : Few q n)(e : Ending)(v : JW)(h : Qo q w e v) : Ret w (Fct.num [] n [q]) e v :=by
 obtain⟨a, P, b, Q, e, hv, hb⟩ :=h;exact⟨_, e, hb, R1.mk hv f⟩
theorem Lj{w : JW}{q : Rat}{n : Nat}(f : Few q n)(e : Ending)(v : JW)(h : Made q w e v) : Ret w (Fct.made 0 n [q]) e v :=by
 obtain⟨a, P, b, Q, e, hv, hb⟩ :=h;exact ⟨_, e, hb, [(a, P, b, Q)], rfl, ⟨hv, trivial⟩, fun x hx => by
  simp only[List.mem_cons, List.not_mem_nil, or_false]at hx;subst hx;exact f⟩
def Lim(b : Bool) : Prop :=b =true
theorem Lim.out{b : Bool}(h : Lim b) : b =true :=h
theorem FO{x y : Value}{a0 a1 a2 b0 b1 b2 : Rat}{k m n : Nat}{w : JW}(h : (Fct.num [] k [a0, a1, a2]).P w x)(h' : (Fct.num [] m [b0, b1, b2]).P w y)(hn : (decide (k + m + (k + m) + 1 <= n) && decide (k + m <= 900)) =true)(hg : Good w) : Calls Tryz.prog 32 #[x, y] w (Ret w (Fct.num [] n [a1 * b2-a2 * b1, a2 * b0-a0 * b2, a0 * b1-a1 * b0])) :=by
 simp only[T3, decide_eq_true_eq]at hn;obtain⟨c0, c1⟩ :=hn;obtain⟨x0, x1, x2, rfl, hx, f⟩ :=V3 h;obtain⟨y0, y1, y2, rfl, hy, f'⟩ :=V3 h';exact(Eu _ _ _ _ _ _ _ _ _ _ _ _ k m w hx hy f f' c1 hg).mono (Dg ((f.cross f').up c0))
theorem DC{x y : Value}{a0 a1 a2 b0 b1 b2 : Rat}{k m n : Nat}{w : JW}(h : (Fct.num [] k [a0, a1, a2]).P w x)(h' : (Fct.num [] m [b0, b1, b2]).P w y)(hn : (decide (k + m + 1 <= n) && decide (k <= 900) && decide (m <= 900)) =true)(hg : Good w) : Calls Tryz.prog 33 #[x, y] w (Ret w (Fct.num [] n [a0 + b0, a1 + b1, a2 + b2])) :=by
 simp only[T3, decide_eq_true_eq]at hn;obtain⟨⟨c0, c1⟩, c2⟩ :=hn;obtain⟨x0, x1, x2, rfl, hx, f⟩ :=V3 h;obtain⟨y0, y1, y2, rfl, hy, f'⟩ :=V3 h';exact(EP _ _ _ _ _ _ _ _ _ _ _ _ w hx hy (f.mid c1) (f'.mid c2) hg).mono (Dg ⟨(f.x.add f'.x).up c0, (f.y.add f'.y).up c0, (f.z.add f'.z).up c0⟩)
theorem FZ{x y : Value}{a0 a1 a2 b0 b1 b2 : Rat}{k m n : Nat}{w : JW}(h : (Fct.num [] k [a0, a1, a2]).P w x)(h' : (Fct.num [] m [b0, b1, b2]).P w y)(hn : (decide (k + m + (k + m) + 1 + (k + m) + 1 <= n) && decide (k + m + (k + m) + 1 <= 900)) =true)(hg : Good w) : Calls Tryz.prog 31 #[x, y] w (Ret w (Fct.num [] n [a0 * b0 + a1 * b1 + a2 * b2])) :=by
 simp only[T3, decide_eq_true_eq]at hn;obtain⟨c0, c1⟩ :=hn;obtain⟨x0, x1, x2, rfl, hx, f⟩ :=V3 h;obtain⟨y0, y1, y2, rfl, hy, f'⟩ :=V3 h';exact(EO _ _ _ _ _ _ _ _ _ _ _ _ k m w hx hy f f' c1 hg).mono (Ds ((((f.x.mul f'.x).add (f.y.mul f'.y)).add (f.z.mul f'.z)).up c0))
theorem LJ{x y : Value}{a0 a1 a2 b0 b1 b2 : Rat}{k m : Nat}{w : JW}(h : (Fct.num [] k [a0, a1, a2]).P w x)(h' : (Fct.num [] m [b0, b1, b2]).P w y)(hn : (decide (k <= 900) && decide (m <= 900)) =true) : Calls Tryz.prog 23 #[x, y] w (Ret w (Fct.val (.bool (cmpV a0 a1 a2 b0 b1 b2 ==0)))) :=by
 simp only[T3, decide_eq_true_eq]at hn;obtain⟨c0, c1⟩ :=hn;obtain⟨x0, x1, x2, rfl, hx, f⟩ :=V3 h;obtain⟨y0, y1, y2, rfl, hy, f'⟩ :=V3 h';exact(KF _ _ _ _ _ _ _ _ _ _ _ _ w hx hy (f.mid c0) (f'.mid c1)).mono (fun e v h => ⟨_, h.1, h.2, rfl⟩)
theorem DB{x y : Value}{a0 a1 a2 b0 b1 b2 : Rat}{k m : Nat}{w : JW}{b : Bool}(h : (Fct.num [] k [a0, a1, a2]).P w x)(h' : (Fct.num [] m [b0, b1, b2]).P w y)(e : (cmpV a0 a1 a2 b0 b1 b2 ==0) =b)(hn : (decide (k <= 900) && decide (m <= 900)) =true) : Calls Tryz.prog 23 #[x, y] w (Ret w (Fct.val (.bool b))) :=e ▸ LJ h h' hn
theorem Ft{x : Value}{a0 a1 a2 : Rat}{k : Nat}{w : JW}{b : Bool}(h : (Fct.num [] k [a0, a1, a2]).P w x)(e : Xv a0 a1 a2 =b)(hn : decide (k <= 900) =true) : Calls Tryz.prog 18 #[x] w (Ret w (Fct.val (.bool b))) :=by
 rw[decide_eq_true_eq]at hn;obtain⟨x0, x1, x2, rfl, hx, f⟩ :=V3 h;have :=(U0 _ _ _ _ _ _ w hx (f.mid hn)).mono (fun e v h => (⟨_, h.1, h.2, rfl⟩ : Ret w (Fct.val (.bool (Xv a0 a1 a2))) e v));exact e ▸ this
theorem vat0(w : JW) : VAt w Jm 0 :=(Wj w).x
theorem Da{x y : Value}{a0 a1 a2 b : Rat}{k m n : Nat}{w : JW}(h : (Fct.num [] k [a0, a1, a2]).P w x)(h' : (Fct.num [] m [b]).P w y)(hn : (decide (m + k <= n) && decide (k <= 900) && decide (m <= 900)) =true)(hg : Good w) : Calls Tryz.prog 52 #[x, y] w (Ret w (Fct.num [] n [b * a0, b * a1, b * a2])) :=by
 simp only[T3, decide_eq_true_eq]at hn;obtain⟨⟨c0, c1⟩, c2⟩ :=hn;obtain⟨x0, x1, x2, rfl, hx, f⟩ :=V3 h;obtain⟨a, P, b', Q, rfl, hy, f'⟩ :=R1 h';exact(OB x0 x1 x2 (a, P, b', Q) _ _ _ _ w hx hy (f.mid c1) (f'.mid c2) hg).mono (Dg ⟨(f'.mul f.x).up c0, (f'.mul f.y).up c0, (f'.mul f.z).up c0⟩)
theorem L5{x y : Value}{a b : Rat}{k m n : Nat}{w : JW}(h : (Fct.num [] k [a]).P w x)(h' : (Fct.num [] m [b]).P w y)(hn : (decide (k + m <= n) && decide (k <= 900) && decide (m <= 900)) =true)(hg : Good w) : Calls Tryz.prog 38 #[x, y] w (Ret w (Fct.num [] n [a * b])) :=by
 simp only[T3, decide_eq_true_eq]at hn;obtain⟨⟨c0, c1⟩, c2⟩ :=hn;obtain⟨_, _, _, _, rfl, hx, f⟩ :=R1 h;obtain⟨_, _, _, _, rfl, hy, f'⟩ :=R1 h';exact(Qz _ _ _ _ _ _ _ _ _ _ w hx hy (f.n47 c1) (f.d47 c1) (f'.n47 c2) (f'.d47 c2) hg).mono (Ds ((f.mul f').up c0))
theorem FI{x y : Value}{a b : Rat}{k m n : Nat}{w : JW}(h : (Fct.num [] k [a]).P w x)(h' : (Fct.num [] m [b]).P w y)(hb : b.num ≠ 0)(hn : (decide (k + m <= n) && decide (k <= 900) && decide (m <= 900)) =true)(hg : Good w) : Calls Tryz.prog 50 #[x, y] w (Ret w (Fct.made 0 n [a/b])) :=by
 simp only[T3, decide_eq_true_eq]at hn;obtain⟨⟨c0, c1⟩, c2⟩ :=hn;obtain⟨_, _, _, _, rfl, hx, f⟩ :=R1 h;obtain⟨_, _, _, _, rfl, hy, f'⟩ :=R1 h';exact(ET _ _ _ _ _ _ _ _ _ _ w hx hy (f.n47 c1) (f.d47 c1) (f'.n47 c2) (f'.d47 c2) hg).mono (fun e v h => Lj ((f.div f' hb).up c0) e v (h.1 hb))
theorem DK{x : Value}{a : Rat}{k : Nat}{w : JW}(h : (Fct.num [] k [a]).P w x) : Calls Tryz.prog 48 #[x] w (Ret w (Fct.val (Ji Jl (sgn a.num)))) :=by
 obtain⟨_, _, _, _, rfl, hx, _⟩ :=R1 h;exact(VD _ _ _ _ _ w hx).mono (fun e v h => ⟨_, h.1, h.2, rfl⟩)
theorem Fv{z : Int}{n : Nat}{w : JW}(hz : I64 z)(f : Few ((z : Int) : Rat) n) : Calls Tryz.prog 51 #[Ji Jl z] w (Ret w (Fct.num [] n [((z : Int) : Rat)])) :=
 (YL z w hz).mono (Ds f)
theorem DF{z0 z1 z2 : Int}{n : Nat}{w : JW}(h0 : I64 z0)(h1 : I64 z1)(h2 : I64 z2)(f : Few3 n ((z0 : Int) : Rat) ((z1 : Int) : Rat) ((z2 : Int) : Rat)) : Calls Tryz.prog 59 #[.agg #[Ji Jl z0, Ji Jl z1, Ji Jl z2]] w (Ret w (Fct.num [] n [((z0 : Int) : Rat), ((z1 : Int) : Rat), ((z2 : Int) : Rat)])) :=
 (Zz z0 z1 z2 w h0 h1 h2).mono (Dg f)
theorem cf32(args : Array Value)(w : JW) : (callFunc 32 args).run Tryz.prog w = .ok (.enter 32 args) w :=by go_simp
theorem cf33(args : Array Value)(w : JW) : (callFunc 33 args).run Tryz.prog w = .ok (.enter 33 args) w :=by go_simp
theorem cf54(args : Array Value)(w : JW) : (callFunc 54 args).run Tryz.prog w = .ok (.enter 54 args) w :=by go_simp
theorem cf31(args : Array Value)(w : JW) : (callFunc 31 args).run Tryz.prog w = .ok (.enter 31 args) w :=by go_simp
theorem cf52(args : Array Value)(w : JW) : (callFunc 52 args).run Tryz.prog w = .ok (.enter 52 args) w :=by go_simp
theorem cf23(args : Array Value)(w : JW) : (callFunc 23 args).run Tryz.prog w = .ok (.enter 23 args) w :=by go_simp
theorem cf18(args : Array Value)(w : JW) : (callFunc 18 args).run Tryz.prog w = .ok (.enter 18 args) w :=by go_simp
theorem cf30(args : Array Value)(w : JW) : (callFunc 30 args).run Tryz.prog w = .ok (.enter 30 args) w :=by go_simp
theorem cf38(args : Array Value)(w : JW) : (callFunc 38 args).run Tryz.prog w = .ok (.enter 38 args) w :=by go_simp
theorem cf50(args : Array Value)(w : JW) : (callFunc 50 args).run Tryz.prog w = .ok (.enter 50 args) w :=by go_simp
theorem cf51(args : Array Value)(w : JW) : (callFunc 51 args).run Tryz.prog w = .ok (.enter 51 args) w :=by go_simp
theorem cf48(args : Array Value)(w : JW) : (callFunc 48 args).run Tryz.prog w = .ok (.enter 48 args) w :=by go_simp
theorem cf71(args : Array Value)(w : JW) : (callFunc 71 args).run Tryz.prog w = .ok (.enter 71 args) w :=by go_simp
theorem cf59(args : Array Value)(w : JW) : (callFunc 59 args).run Tryz.prog w = .ok (.enter 59 args) w :=by go_simp
theorem cf24(args : Array Value)(w : JW) : (callFunc 24 args).run Tryz.prog w = .ok (.enter 24 args) w :=by go_simp
theorem cf25(args : Array Value)(w : JW) : (callFunc 25 args).run Tryz.prog w = .ok (.enter 25 args) w :=by go_simp
theorem FH(rs rs' : List R4)(h : rs.length =3)(h' : rs'.length =3) : Tryz.prog.built 37 [(0, .agg (flat rs).toArray), (1, .agg (flat rs').toArray)] =Jo (flat rs ++ flat rs').toArray :=by
 obtain⟨x, y, z, rfl⟩ :=VJ h;obtain⟨x', y', z', rfl⟩ :=VJ h'
 kernel_rfl
theorem Di(rs rs' : List R4)(h : rs.length =3)(h' : rs'.length =3) : Tryz.prog.built 41 [(0, .agg (flat rs).toArray), (1, .agg (flat rs').toArray)] =Jo (flat rs ++ flat rs').toArray :=by
 obtain⟨x, y, z, rfl⟩ :=VJ h;obtain⟨x', y', z', rfl⟩ :=VJ h'
 kernel_rfl
set_option maxRecDepth 100000 in
set_option maxHeartbeats 16000000 in
theorem Dq{x y : Value}{a0 a1 a2 b0 b1 b2 p0 p1 p2 : Rat}{k m n : Nat}{w : JW}(h : (Fct.num [] k [a0, a1, a2, b0, b1, b2]).P w x)(h' : (Fct.num [] m [p0, p1, p2]).P w y)(hn : (decide (k + (k + m + (k + m) + 1) + 1 <= n) && decide (n <= 900)) =true)(hg : Good w) :
  Calls Tryz.prog 24 #[x, y] w (Ret w (Fct.num [] n [b0 + (a1 * p2-a2 * p1), b1 + (a2 * p0-a0 * p2), b2 + (a0 * p1-a1 * p0)])) :=by
 simp only[T3, decide_eq_true_eq]at hn;obtain⟨rs0, rfl, hr0, f0⟩ :=h;obtain⟨A0, hA0⟩ : ∃A, ([] ++ flat rs0).toArray =A :=⟨_, rfl⟩;obtain⟨rs1, rfl, hr1, f1⟩ :=h';obtain⟨A1, hA1⟩ : ∃A, ([] ++ flat rs1).toArray =A :=⟨_, rfl⟩;have k0 :=(Tr w.heap.size w).alloc (T8 _) (Jc A0 37);have k1 :=k0.alloc (by simp) (Jc A1 35);have k2 :=k1.alloc (by simp;omega) (Jc #[T6 Jl 0, Jp Jn, Ji Jl 0, Jp Jn, Ji Jl 0, Jp Jn, Ji Jl 0, Jp Jn, Ji Jl 0, Jp Jn, Ji Jl 0, Jp Jn] 35);have V0 :=Fi.box hA0.symm hr0 f0 37;have V1 :=Fi.box hA1.symm (hr1.keep k0) f1 35;have V2 :=Jh.new ((w.alloc (Jc A0 37)).alloc (Jc A1 35)) #[T6 Jl 0, Jp Jn, Ji Jl 0, Jp Jn, Ji Jl 0, Jp Jn, Ji Jl 0, Jp Jn, Ji Jl 0, Jp Jn, Ji Jl 0, Jp Jn] 35;have j1 :=(Tr (w.alloc (Jc A0 37)).heap.size (w.alloc (Jc A0 37))).alloc (T8 _) (Jc A1 35);have j2 :=(Tr ((w.alloc (Jc A0 37)).alloc (Jc A1 35)).heap.size ((w.alloc (Jc A0 37)).alloc (Jc A1 35))).alloc (T8 _) (Jc #[T6 Jl 0, Jp Jn, Ji Jl 0, Jp Jn, Ji Jl 0, Jp Jn, Ji Jl 0, Jp Jn, Ji Jl 0, Jp Jn, Ji Jl 0, Jp Jn] 35);replace V0 :=((V0.keep j1).keep j2);replace V1 :=(V1.keep j2);simp only[World.size_alloc]at V0 V1 V2;rw[hA0];rw[hA1];obtain⟨W, hW⟩ : ∃W, ((w.alloc (Jc A0 37)).alloc (Jc A1 35)).alloc (Jc #[T6 Jl 0, Jp Jn, Ji Jl 0, Jp Jn, Ji Jl 0, Jp Jn, Ji Jl 0, Jp Jn, Ji Jl 0, Jp Jn, Ji Jl 0, Jp Jn] 35) =W :=⟨_, rfl⟩;rw[hW]at k2 V0 V1 V2;replace V0 :=Lh (fun w' (hb : Below W.heap.size W w') => V0.keep hb);replace V1 :=Lh (fun w' (hb : Below W.heap.size W w') => V1.keep hb);replace V2 :=Lh V2;have K :=Lh k2
 have G :=Lh (fun w' (hb : Below W.heap.size W w') => hg.below (k2.trans (hb.mono k2.size)));clear hg hr0 f0 hA0 hr1 f1 hA1 k0 k1 k2 j1 j2;go_enter Tryz.func24, Tryz.ntmps24;go_upto_region 1 with fail
 try simp only[hW]
 clear hW;refine Fy 12 [(5, false, 0), (6, false, 0), (7, false, 0), (8, false, 0), (9, false, 0), (10, false, 0), (11, false, 0)] []
  [Fct.val (Jp (Jo ⟨w.heap.size, 12, Jn⟩)), Fct.num [] k [b0, b1, b2], Fct.val (Jp (Jo ⟨w.heap.size, 0, Jn⟩)), Fct.num [] k [a0, a1, a2], Fct.num [] m [p0, p1, p2], Fct.num [] (k + m + (k + m) + 1) [a1 * p2-a2 * p1, a2 * p0-a0 * p2, a0 * p1-a1 * p0], Fct.num [] n [b0 + (a1 * p2-a2 * p1), b1 + (a2 * p0-a0 * p2), b2 + (a0 * p1-a1 * p0)]]
  #[true, true, true, true, true, true, true, false] 1 rfl (by kernel_rfl) rfl (by kernel_rfl) ⟨?_, ?_, ?_, ?_, ?_, ?_, ?_, trivial⟩
  (fun val => ⟨#[.agg A0, .agg A1, Jp (Jo ⟨w.heap.size, 0, Jn⟩), Jp (Jo ⟨w.heap.size + 1, 0, Jn⟩), Jp (Jo ⟨w.heap.size + 1 + 1, 0, Jn⟩), val 5, val 6, val 7, val 8, val 9, val 10, val 11], []⟩) (fun val => by kernel_rfl) (fun val v hB hF => ⟨?_⟩)
 ·exact E4 rfl rfl (.env rfl (by kernel_rfl)) rfl (by kernel_rfl) (fun w => by go_simp)
 ·exact E6 3 3 V0.out (.dep 0 rfl (by kernel_rfl)) rfl rfl rfl (by kernel_rfl) (by kernel_rfl) (by kernel_rfl)
 ·exact E4 rfl rfl (.env rfl (by kernel_rfl)) rfl (by kernel_rfl) (fun w => by go_simp)
 ·exact E6 0 3 V0.out (.dep 2 rfl (by kernel_rfl)) rfl rfl rfl (by kernel_rfl) (by kernel_rfl) (by kernel_rfl)
 ·exact E7 V1.out (.env rfl (by kernel_rfl)) rfl rfl rfl (by kernel_rfl) (by kernel_rfl)
 ·exact EZ cf32 rfl rfl rfl rfl rfl (by kernel_rfl) (fun a v hB hE hD => FO (hD 3 _ (by kernel_rfl) rfl) (hD 4 _ (by kernel_rfl) rfl) (by simp;omega) (G.out v hB))
 ·exact EZ cf33 rfl rfl rfl rfl rfl (by kernel_rfl) (fun a v hB hE hD => DC (hD 1 _ (by kernel_rfl) rfl) (hD 5 _ (by kernel_rfl) rfl) (by simp;omega) (G.out v hB))
 ·have hx :=hF 6 _ rfl;clear hF;refine Fr (n :=12) (V2.out.keep hB) hx rfl rfl rfl rfl rfl (by kernel_rfl) (by kernel_rfl) (fun v2 hW hV => ?_);have Kf :=hW.below (show w.heap.size <= w.heap.size + 1 + 1 by omega) (K.out.trans (hB.mono K.out.size));clear K hB V0 V1 V2 G hx hW;go_wp2_with fail
  exact Fu (n :=12) hV Kf rfl rfl (by kernel_rfl) (by kernel_rfl) rfl
set_option maxRecDepth 100000 in
set_option maxHeartbeats 16000000 in
theorem Lv{x y : Value}{a0 a1 a2 b0 b1 b2 : Rat}{k m n : Nat}{w : JW}(h : (Fct.num [] k [a0, a1, a2]).P w x)(h' : (Fct.num [] m [b0, b1, b2]).P w y)(hn : (decide (m + k + (m + k) + 1 <= n) && decide (k <= n) && decide (n <= 900)) =true)(hg : Good w) :
  Calls Tryz.prog 53 #[x, y] w (Ret w (Fct.num [] n [a0, a1, a2, b1 * a2-b2 * a1, b2 * a0-b0 * a2, b0 * a1-b1 * a0])) :=by
 simp only[T3, decide_eq_true_eq]at hn;obtain⟨rs0, rfl, hr0, f0⟩ :=h;obtain⟨A0, hA0⟩ : ∃A, ([] ++ flat rs0).toArray =A :=⟨_, rfl⟩;obtain⟨rs1, rfl, hr1, f1⟩ :=h';obtain⟨A1, hA1⟩ : ∃A, ([] ++ flat rs1).toArray =A :=⟨_, rfl⟩;have k0 :=(Tr w.heap.size w).alloc (T8 _) (Jc A0 35);have k1 :=k0.alloc (by simp) (Jc A1 35);have k2 :=k1.alloc (by simp;omega) (Jc #[T6 Jl 0, Jp Jn, Ji Jl 0, Jp Jn, Ji Jl 0, Jp Jn, Ji Jl 0, Jp Jn, Ji Jl 0, Jp Jn, Ji Jl 0, Jp Jn, Ji Jl 0, Jp Jn, Ji Jl 0, Jp Jn, Ji Jl 0, Jp Jn, Ji Jl 0, Jp Jn, Ji Jl 0, Jp Jn, Ji Jl 0, Jp Jn] 37);have V0 :=Fi.box hA0.symm hr0 f0 35;have V1 :=Fi.box hA1.symm (hr1.keep k0) f1 35;have V2 :=Jh.new ((w.alloc (Jc A0 35)).alloc (Jc A1 35)) #[T6 Jl 0, Jp Jn, Ji Jl 0, Jp Jn, Ji Jl 0, Jp Jn, Ji Jl 0, Jp Jn, Ji Jl 0, Jp Jn, Ji Jl 0, Jp Jn, Ji Jl 0, Jp Jn, Ji Jl 0, Jp Jn, Ji Jl 0, Jp Jn, Ji Jl 0, Jp Jn, Ji Jl 0, Jp Jn, Ji Jl 0, Jp Jn] 37;have j1 :=(Tr (w.alloc (Jc A0 35)).heap.size (w.alloc (Jc A0 35))).alloc (T8 _) (Jc A1 35);have j2 :=(Tr ((w.alloc (Jc A0 35)).alloc (Jc A1 35)).heap.size ((w.alloc (Jc A0 35)).alloc (Jc A1 35))).alloc (T8 _) (Jc #[T6 Jl 0, Jp Jn, Ji Jl 0, Jp Jn, Ji Jl 0, Jp Jn, Ji Jl 0, Jp Jn, Ji Jl 0, Jp Jn, Ji Jl 0, Jp Jn, Ji Jl 0, Jp Jn, Ji Jl 0, Jp Jn, Ji Jl 0, Jp Jn, Ji Jl 0, Jp Jn, Ji Jl 0, Jp Jn, Ji Jl 0, Jp Jn] 37);replace V0 :=((V0.keep j1).keep j2);replace V1 :=(V1.keep j2);simp only[World.size_alloc]at V0 V1 V2;rw[hA0];rw[hA1];obtain⟨W, hW⟩ : ∃W, ((w.alloc (Jc A0 35)).alloc (Jc A1 35)).alloc (Jc #[T6 Jl 0, Jp Jn, Ji Jl 0, Jp Jn, Ji Jl 0, Jp Jn, Ji Jl 0, Jp Jn, Ji Jl 0, Jp Jn, Ji Jl 0, Jp Jn, Ji Jl 0, Jp Jn, Ji Jl 0, Jp Jn, Ji Jl 0, Jp Jn, Ji Jl 0, Jp Jn, Ji Jl 0, Jp Jn, Ji Jl 0, Jp Jn] 37) =W :=⟨_, rfl⟩
 rw[hW]at k2 V0 V1 V2;replace V0 :=Lh (fun w' (hb : Below W.heap.size W w') => V0.keep hb);replace V1 :=Lh (fun w' (hb : Below W.heap.size W w') => V1.keep hb);replace V2 :=Lh V2;have K :=Lh k2;have G :=Lh (fun w' (hb : Below W.heap.size W w') => hg.below (k2.trans (hb.mono k2.size)));clear hg hr0 f0 hA0 hr1 f1 hA1 k0 k1 k2 j1 j2;go_enter Tryz.func53, Tryz.ntmps53;go_upto_region 1 with fail
 try simp only[hW]
 clear hW;refine Fy 10 [(5, false, 0), (6, false, 0), (7, false, 0), (8, false, 0), (9, false, 0)] []
  [Fct.num [] k [a0, a1, a2], Fct.num [] m [b0, b1, b2], Fct.num [] k [a0, a1, a2], Fct.num [] (m + k + (m + k) + 1) [b1 * a2-b2 * a1, b2 * a0-b0 * a2, b0 * a1-b1 * a0], Fct.num [] n [a0, a1, a2, b1 * a2-b2 * a1, b2 * a0-b0 * a2, b0 * a1-b1 * a0]]
  #[true, true, true, true, true, false] 1 rfl (by kernel_rfl) rfl (by kernel_rfl) ⟨?_, ?_, ?_, ?_, ?_, trivial⟩
  (fun val => ⟨#[.agg A0, .agg A1, Jp (Jo ⟨w.heap.size, 0, Jn⟩), Jp (Jo ⟨w.heap.size + 1, 0, Jn⟩), Jp (Jo ⟨w.heap.size + 1 + 1, 0, Jn⟩), val 5, val 6, val 7, val 8, val 9], []⟩) (fun val => by kernel_rfl) (fun val v hB hF => ⟨?_⟩)
 ·exact E7 V0.out (.env rfl (by kernel_rfl)) rfl rfl rfl (by kernel_rfl) (by kernel_rfl)
 ·exact E7 V1.out (.env rfl (by kernel_rfl)) rfl rfl rfl (by kernel_rfl) (by kernel_rfl)
 ·exact E7 V0.out (.env rfl (by kernel_rfl)) rfl rfl rfl (by kernel_rfl) (by kernel_rfl)
 ·exact EZ cf32 rfl rfl rfl rfl rfl (by kernel_rfl) (fun a v hB hE hD => FO (hD 1 _ (by kernel_rfl) rfl) (hD 2 _ (by kernel_rfl) rfl) (by simp;omega) (G.out v hB))
 ·exact FD 0 3 rfl rfl rfl rfl rfl FH (by kernel_rfl) rfl (by simp;omega)
 ·have hx :=hF 4 _ rfl;clear hF;refine Fr (n :=24) (V2.out.keep hB) hx rfl rfl rfl rfl rfl (by kernel_rfl) (by kernel_rfl) (fun v2 hW hV => ?_);have Kf :=hW.below (show w.heap.size <= w.heap.size + 1 + 1 by omega) (K.out.trans (hB.mono K.out.size));clear K hB V0 V1 V2 G hx hW;go_wp2_with fail
  exact Fu (n :=24) hV Kf rfl rfl (by kernel_rfl) (by kernel_rfl) rfl
structure I8 (n : Int) : Prop where
 lo : -128 <= n
 hi : n <= 127
theorem I8.i64{n : Int}(h : I8 n) : I64 n :=⟨by have :=h.lo;omega, by have :=h.hi;omega⟩
theorem Fq{z : Int}{k : Nat}(h : z.natAbs < ten k)(hk : 0 < k) : Few ((z : Int) : Rat) k :=⟨by rw[Rat.num_intCast];exact h, by rw[Rat.den_intCast];exact Nat.lt_of_lt_of_le (by decide : 1 < ten 1) (QB hk)⟩
theorem I8.few{n : Int}(h : I8 n) : Few ((n : Int) : Rat) 3 :=Fq (by have :=h.lo;have :=h.hi;show n.natAbs < 1000;omega) (by decide)
def tq(n r : Int) : Rat :=((n : Int) : Rat)/(((1 + r : Int)) : Rat)
theorem Jh.part{w : JW}{p o : Nat}{l vs : List Value}(h : Jh w p l)(hl : o + vs.length <= l.length) : Jh (w.setCells p o vs) p (l.take o ++ vs ++ l.drop (o + vs.length)) :=by
 refine⟨fun i => ?_, fun i => by rw[World.frozen?_setCells];exact h.fz i, by rw[(Ff p vs o w).2.2.2.1];exact h.lt⟩;have ht : (l.take o).length =o :=by rw[List.length_take];omega
 by_cases h1 : i < o
 ·rw[World.cell?_setCells_out p vs o w ⟨p, i, Jn⟩ (fun _ _ => .inl h1), h.at_ i, Ts, Tt (by omega), List.getElem?_take, if_pos h1]
 ·by_cases h2 : i < o + vs.length
  ·have :=World.rangeAt_setCells_same w p o vs (fun j hj => ⟨by rw[h.at_ (o + j), T7 (by omega)];rfl, h.fz _⟩) (i-o) vs[i-o] (T7 (by omega));rw[show o + (i-o) =i by omega]at this;rw[this, Ts, T4 (by omega), ht, Tt (by omega), T7 (by omega)]
  ·rw[World.cell?_setCells_out p vs o w ⟨p, i, Jn⟩ (fun _ _ => .inr (by show o + vs.length <= i;omega)), h.at_ i, Ts, T4 (by omega), ht, T4 (by omega), List.getElem?_drop]
   congr 1
   omega
def Row3(w : JW)(p : Nat)(qs : List Rat)(k : Nat) : Prop := ∃rs : List R4, rs.length =3 /\ Jh w p (flat rs) /\ ∀(i : Nat) (r : R4) (q : Rat), i < k -> rs[i]? =Jo r -> qs[i]? =Jo q -> VAt w r q
theorem Row3.up{w w' : JW}{p : Nat}{qs : List Rat}{k : Nat}{q0 : Rat}{rs : List R4}{r : R4}(hl : rs.length =3)(h : ∀(i : Nat) (r : R4) (q : Rat), i < k -> rs[i]? =Jo r -> qs[i]? =Jo q -> VAt w r q)(hk : k < 3)(hq : qs[k]? =Jo q0)(hW : Wr p w w')(hC : Jh w' p (flat (rs.set k r)))(hv : VAt w' r q0) : Row3 w' p qs (k + 1) :=by
 refine⟨rs.set k r, by rw[List.length_set];exact hl, hC, fun i r' q hi h1 h2 => ?_⟩;by_cases e : i =k
 ·subst e;rw[List.getElem?_set_self (by omega)]at h1
  injection h1 with h1
  rw[hq]at h2
  injection h2 with h2
  rw[←h1, ←h2];exact hv
 ·rw[List.getElem?_set_ne (fun h => e h.symm)]at h1;exact(h i r' q (by omega) h1 h2).wr hW
theorem Row3.done{w : JW}{p : Nat}{q0 q1 q2 : Rat}{k : Nat}(h : Row3 w p [q0, q1, q2] 3)(f : Few3 k q0 q1 q2) : Fi w p [] k [q0, q1, q2] :=by
 obtain⟨rs, hl, hc, h⟩ :=h;obtain⟨x, y, z, rfl⟩ :=VJ hl;refine⟨[x, y, z], hc, ⟨h 0 x q0 (by decide) rfl rfl, h 1 y q1 (by decide) rfl rfl, h 2 z q2 (by decide) rfl rfl, trivial⟩, fun q hq => ?_⟩;simp only[List.mem_cons, List.not_mem_nil, or_false]at hq;rcases hq with rfl|rfl|rfl
 ·exact f.x
 ·exact f.y
 ·exact f.z
theorem cf27(args : Array Value)(w : JW) : (callFunc 27 args).run Tryz.prog w = .ok (.enter 27 args) w :=by go_simp
theorem cf21(args : Array Value)(w : JW) : (callFunc 21 args).run Tryz.prog w = .ok (.enter 21 args) w :=by go_simp
theorem cf43(args : Array Value)(w : JW) : (callFunc 43 args).run Tryz.prog w = .ok (.enter 43 args) w :=by go_simp
theorem cf22(args : Array Value)(w : JW) : (callFunc 22 args).run Tryz.prog w = .ok (.enter 22 args) w :=by go_simp
