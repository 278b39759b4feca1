/- The numbers' functions, as sheets want them. -/
import Derived.Test.YthhobhjcnmmipaaGreatDoorSShr
namespace Go.Proofs.YthhobhjcnmmipaaGreatDoor
open Go renaming World→JW
open _root_.Bool renaming and_eq_true→M0
open _root_.List renaming mem_cons_self→M1,mem_cons_of_mem→M2
open Go.RowKit
theorem Rats.cons{w : JW}{rs : List R4}{q : Rat}{qs : List Rat}(h : Rats w rs (q :: qs)) : ∃r rs', rs =r :: rs' /\ VAt w r q /\ Rats w rs' qs :=by
 cases rs with
 | nil => exact h.elim
 | cons r rs' => exact⟨r, rs', rfl, h.1, h.2⟩
theorem Rats.nil_{w : JW}{rs : List R4}(h : Rats w rs []) : rs = [] :=by
 cases rs with
 | nil => rfl
 | cons r rs' => exact h.elim
theorem V3{w : JW}{t : Value}{k : Nat}{q0 q1 q2 : Rat}(h : (Fct.num [] k [q0, q1, q2]).P w t) : ∃r0 r1 r2, t =Jw r0 r1 r2 /\ VecV w r0 r1 r2 q0 q1 q2 /\ Few3 k q0 q1 q2 :=by
 obtain⟨rs, rfl, hr, f⟩ :=h;obtain⟨r0, rs, rfl, h0, hr⟩ :=hr.cons;obtain⟨r1, rs, rfl, h1, hr⟩ :=hr.cons;obtain⟨r2, rs, rfl, h2, hr⟩ :=hr.cons;obtain rfl :=hr.nil_;exact⟨r0, r1, r2, rfl, ⟨h0, h1, h2⟩, f q0 (M1 ..), f q1 (M2 _ (M1 ..)), f q2 (M2 _ (M2 _ (M1 ..)))⟩
theorem V3.mk{w : JW}{k : Nat}{q0 q1 q2 : Rat}{r0 r1 r2 : R4}(h : VecV w r0 r1 r2 q0 q1 q2)(f : Few3 k q0 q1 q2) : (Fct.num [] k [q0, q1, q2]).P w (Jw r0 r1 r2) :=
 ⟨[r0, r1, r2], rfl, ⟨h.x, h.y, h.z, trivial⟩, fun q hq => by
  simp only[List.mem_cons, List.not_mem_nil, or_false]at hq;rcases hq with rfl|rfl|rfl
  ·exact f.x
  ·exact f.y
  ·exact f.z⟩
theorem Few3.up{k n : Nat}{q0 q1 q2 : Rat}(f : Few3 k q0 q1 q2)(h : k <= n) : Few3 n q0 q1 q2 :=⟨f.x.up h, f.y.up h, f.z.up h⟩
theorem Dg{w : JW}{q0 q1 q2 : Rat}{n : Nat}(f : Few3 n q0 q1 q2)(e : Ending)(v : JW)(h : YX q0 q1 q2 w e v) : Ret w (Fct.num [] n [q0, q1, q2]) e v :=by
 obtain⟨r0, r1, r2, e, hv, hb⟩ :=h;exact⟨_, e, hb, V3.mk hv f⟩
theorem R1{w : JW}{t : Value}{k : Nat}{q : Rat}(h : (Fct.num [] k [q]).P w t) : ∃a P b Q, t = .agg #[.int .i64 a, .pointer P, .int .i64 b, .pointer Q] /\ RatV w a P b Q q /\ Few q k :=by
 obtain⟨rs, rfl, hr, f⟩ :=h;obtain⟨r, rs, rfl, h0, hr⟩ :=hr.cons;obtain rfl :=hr.nil_;exact⟨r.1, r.2.1, r.2.2.1, r.2.2.2, rfl, h0, f q (M1 ..)⟩
theorem R1.mk{w : JW}{k : Nat}{q : Rat}{a b : Int}{P Q : Option Addr}(h : RatV w a P b Q q)(f : Few q k) : (Fct.num [] k [q]).P w (.agg #[.int .i64 a, .pointer P, .int .i64 b, .pointer Q]) :=
 ⟨[(a, P, b, Q)], rfl, ⟨h, trivial⟩, fun x hx => by
  simp only[List.mem_cons, List.not_mem_nil, or_false]at hx;subst hx;exact f⟩
theorem Ds{w : JW}{q : Rat}{n : Nat}(f : Few q n)(e : Ending)(v : JW)(h : Qo q w e v) : Ret w (Fct.num [] n [q]) e v :=by
 obtain⟨a, P, b, Q, e, hv, hb⟩ :=h;exact⟨_, e, hb, R1.mk hv f⟩
theorem Lj{w : JW}{q : Rat}{n : Nat}(f : Few q n)(e : Ending)(v : JW)(h : Made q w e v) : Ret w (Fct.made 0 n [q]) e v :=by
 obtain⟨a, P, b, Q, e, hv, hb⟩ :=h;exact ⟨_, e, hb, [(a, P, b, Q)], rfl, ⟨hv, trivial⟩, fun x hx => by
  simp only[List.mem_cons, List.not_mem_nil, or_false]at hx;subst hx;exact f⟩
def Lim(b : Bool) : Prop :=b =true
theorem Lim.out{b : Bool}(h : Lim b) : b =true :=h
theorem FO{x y : Value}{a0 a1 a2 b0 b1 b2 : Rat}{k m n : Nat}{w : JW}(h : (Fct.num [] k [a0, a1, a2]).P w x)(h' : (Fct.num [] m [b0, b1, b2]).P w y)(hn : (decide (k + m + (k + m) + 1 <= n) && decide (k + m <= 900)) =true)(hg : Good w) : Calls Tryz.prog 32 #[x, y] w (Ret w (Fct.num [] n [a1 * b2-a2 * b1, a2 * b0-a0 * b2, a0 * b1-a1 * b0])) :=by
 simp only[M0, decide_eq_true_eq]at hn;obtain⟨c0, c1⟩ :=hn;obtain⟨x0, x1, x2, rfl, hx, f⟩ :=V3 h;obtain⟨y0, y1, y2, rfl, hy, f'⟩ :=V3 h';exact(Eu _ _ _ _ _ _ _ _ _ _ _ _ k m w hx hy f f' c1 hg).mono (Dg ((f.cross f').up c0))
theorem DC{x y : Value}{a0 a1 a2 b0 b1 b2 : Rat}{k m n : Nat}{w : JW}(h : (Fct.num [] k [a0, a1, a2]).P w x)(h' : (Fct.num [] m [b0, b1, b2]).P w y)(hn : (decide (k + m + 1 <= n) && decide (k <= 900) && decide (m <= 900)) =true)(hg : Good w) : Calls Tryz.prog 33 #[x, y] w (Ret w (Fct.num [] n [a0 + b0, a1 + b1, a2 + b2])) :=by
 simp only[M0, decide_eq_true_eq]at hn;obtain⟨⟨c0, c1⟩, c2⟩ :=hn;obtain⟨x0, x1, x2, rfl, hx, f⟩ :=V3 h;obtain⟨y0, y1, y2, rfl, hy, f'⟩ :=V3 h';exact(EP _ _ _ _ _ _ _ _ _ _ _ _ w hx hy (f.mid c1) (f'.mid c2) hg).mono (Dg ⟨(f.x.add f'.x).up c0, (f.y.add f'.y).up c0, (f.z.add f'.z).up c0⟩)
theorem FZ{x y : Value}{a0 a1 a2 b0 b1 b2 : Rat}{k m n : Nat}{w : JW}(h : (Fct.num [] k [a0, a1, a2]).P w x)(h' : (Fct.num [] m [b0, b1, b2]).P w y)(hn : (decide (k + m + (k + m) + 1 + (k + m) + 1 <= n) && decide (k + m + (k + m) + 1 <= 900)) =true)(hg : Good w) : Calls Tryz.prog 31 #[x, y] w (Ret w (Fct.num [] n [a0 * b0 + a1 * b1 + a2 * b2])) :=by
 simp only[M0, decide_eq_true_eq]at hn;obtain⟨c0, c1⟩ :=hn;obtain⟨x0, x1, x2, rfl, hx, f⟩ :=V3 h;obtain⟨y0, y1, y2, rfl, hy, f'⟩ :=V3 h';exact(EO _ _ _ _ _ _ _ _ _ _ _ _ k m w hx hy f f' c1 hg).mono (Ds ((((f.x.mul f'.x).add (f.y.mul f'.y)).add (f.z.mul f'.z)).up c0))
theorem LJ{x y : Value}{a0 a1 a2 b0 b1 b2 : Rat}{k m : Nat}{w : JW}(h : (Fct.num [] k [a0, a1, a2]).P w x)(h' : (Fct.num [] m [b0, b1, b2]).P w y)(hn : (decide (k <= 900) && decide (m <= 900)) =true) : Calls Tryz.prog 23 #[x, y] w (Ret w (Fct.val (.bool (cmpV a0 a1 a2 b0 b1 b2 ==0)))) :=by
 simp only[M0, decide_eq_true_eq]at hn;obtain⟨c0, c1⟩ :=hn;obtain⟨x0, x1, x2, rfl, hx, f⟩ :=V3 h;obtain⟨y0, y1, y2, rfl, hy, f'⟩ :=V3 h';exact(KF _ _ _ _ _ _ _ _ _ _ _ _ w hx hy (f.mid c0) (f'.mid c1)).mono (fun e v h => ⟨_, h.1, h.2, rfl⟩)
theorem DB{x y : Value}{a0 a1 a2 b0 b1 b2 : Rat}{k m : Nat}{w : JW}{b : Bool}(h : (Fct.num [] k [a0, a1, a2]).P w x)(h' : (Fct.num [] m [b0, b1, b2]).P w y)(e : (cmpV a0 a1 a2 b0 b1 b2 ==0) =b)(hn : (decide (k <= 900) && decide (m <= 900)) =true) : Calls Tryz.prog 23 #[x, y] w (Ret w (Fct.val (.bool b))) :=e ▸ LJ h h' hn
theorem Ft{x : Value}{a0 a1 a2 : Rat}{k : Nat}{w : JW}{b : Bool}(h : (Fct.num [] k [a0, a1, a2]).P w x)(e : Xv a0 a1 a2 =b)(hn : decide (k <= 900) =true) : Calls Tryz.prog 18 #[x] w (Ret w (Fct.val (.bool b))) :=by
 rw[decide_eq_true_eq]at hn;obtain⟨x0, x1, x2, rfl, hx, f⟩ :=V3 h;have :=(U0 _ _ _ _ _ _ w hx (f.mid hn)).mono (fun e v h => (⟨_, h.1, h.2, rfl⟩ : Ret w (Fct.val (.bool (Xv a0 a1 a2))) e v));exact e ▸ this
theorem vat0(w : JW) : VAt w Jm 0 :=(Wj w).x
theorem FX{x y : Value}{a0 a1 a2 b0 b1 b2 : Rat}{k m : Nat}{w : JW}(h : (Fct.num [] k [a0, a1, a2]).P w x)(h' : (Fct.num [] m [b0, b1, b2]).P w y)(e0 : a0 =b0)(e1 : a1 =b1)(e2 : a2 =b2)(hn : (decide (k <= 900) && decide (m <= 900)) =true) : Calls Tryz.prog 23 #[x, y] w (Ret w (Fct.val (.bool true))) :=by
 have :=LJ h h' hn;rw[Z7 e0 e1 e2]at this;exact this
theorem Da{x y : Value}{a0 a1 a2 b : Rat}{k m n : Nat}{w : JW}(h : (Fct.num [] k [a0, a1, a2]).P w x)(h' : (Fct.num [] m [b]).P w y)(hn : (decide (m + k <= n) && decide (k <= 900) && decide (m <= 900)) =true)(hg : Good w) : Calls Tryz.prog 52 #[x, y] w (Ret w (Fct.num [] n [b * a0, b * a1, b * a2])) :=by
 simp only[M0, decide_eq_true_eq]at hn;obtain⟨⟨c0, c1⟩, c2⟩ :=hn;obtain⟨x0, x1, x2, rfl, hx, f⟩ :=V3 h;obtain⟨a, P, b', Q, rfl, hy, f'⟩ :=R1 h';exact(OB x0 x1 x2 (a, P, b', Q) _ _ _ _ w hx hy (f.mid c1) (f'.mid c2) hg).mono (Dg ⟨(f'.mul f.x).up c0, (f'.mul f.y).up c0, (f'.mul f.z).up c0⟩)
theorem L5{x y : Value}{a b : Rat}{k m n : Nat}{w : JW}(h : (Fct.num [] k [a]).P w x)(h' : (Fct.num [] m [b]).P w y)(hn : (decide (k + m <= n) && decide (k <= 900) && decide (m <= 900)) =true)(hg : Good w) : Calls Tryz.prog 38 #[x, y] w (Ret w (Fct.num [] n [a * b])) :=by
 simp only[M0, decide_eq_true_eq]at hn;obtain⟨⟨c0, c1⟩, c2⟩ :=hn;obtain⟨_, _, _, _, rfl, hx, f⟩ :=R1 h;obtain⟨_, _, _, _, rfl, hy, f'⟩ :=R1 h';exact(Qz _ _ _ _ _ _ _ _ _ _ w hx hy (f.n47 c1) (f.d47 c1) (f'.n47 c2) (f'.d47 c2) hg).mono (Ds ((f.mul f').up c0))
theorem FI{x y : Value}{a b : Rat}{k m n : Nat}{w : JW}(h : (Fct.num [] k [a]).P w x)(h' : (Fct.num [] m [b]).P w y)(hb : b.num ≠ 0)(hn : (decide (k + m <= n) && decide (k <= 900) && decide (m <= 900)) =true)(hg : Good w) : Calls Tryz.prog 50 #[x, y] w (Ret w (Fct.made 0 n [a/b])) :=by
 simp only[M0, decide_eq_true_eq]at hn;obtain⟨⟨c0, c1⟩, c2⟩ :=hn;obtain⟨_, _, _, _, rfl, hx, f⟩ :=R1 h;obtain⟨_, _, _, _, rfl, hy, f'⟩ :=R1 h';exact(ET _ _ _ _ _ _ _ _ _ _ w hx hy (f.n47 c1) (f.d47 c1) (f'.n47 c2) (f'.d47 c2) hg).mono (fun e v h => Lj ((f.div f' hb).up c0) e v (h.1 hb))
theorem DK{x : Value}{a : Rat}{k : Nat}{w : JW}(h : (Fct.num [] k [a]).P w x) : Calls Tryz.prog 48 #[x] w (Ret w (Fct.val (.int .i64 (sgn a.num)))) :=by
 obtain⟨_, _, _, _, rfl, hx, _⟩ :=R1 h;exact(VD _ _ _ _ _ w hx).mono (fun e v h => ⟨_, h.1, h.2, rfl⟩)
theorem Fv{z : Int}{n : Nat}{w : JW}(hz : I64 z)(f : Few ((z : Int) : Rat) n) : Calls Tryz.prog 51 #[.int .i64 z] w (Ret w (Fct.num [] n [((z : Int) : Rat)])) :=
 (YL z w hz).mono (Ds f)
theorem DF{z0 z1 z2 : Int}{n : Nat}{w : JW}(h0 : I64 z0)(h1 : I64 z1)(h2 : I64 z2)(f : Few3 n ((z0 : Int) : Rat) ((z1 : Int) : Rat) ((z2 : Int) : Rat)) : Calls Tryz.prog 59 #[.agg #[.int .i64 z0, .int .i64 z1, .int .i64 z2]] w (Ret w (Fct.num [] n [((z0 : Int) : Rat), ((z1 : Int) : Rat), ((z2 : Int) : Rat)])) :=
 (Zz z0 z1 z2 w h0 h1 h2).mono (Dg f)
