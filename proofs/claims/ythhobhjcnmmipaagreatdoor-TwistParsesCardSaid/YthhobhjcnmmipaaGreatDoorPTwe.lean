/- Twists: texts. -/
import Derived.Test.YthhobhjcnmmipaaGreatDoorPTwd
namespace Go.Proofs.YthhobhjcnmmipaaGreatDoor
open Go.Value renaming pointer→Jp,int→Ji,string→Js,agg→Ja
open Go.IntKind renaming i64→Jl
open Go.Obj renaming cells→Jc
open _root_.Option renaming none→Jn,some→Jo
open Go renaming World→JW
open Go.Instr renaming index→T3
open _root_.And renaming intro→T4
open _root_.Nat renaming le_refl→T5,lt_of_lt_of_le→T7
open Go.RowKit.Below renaming refl→T6
open Go.RowKit
theorem cf72(args : Array Value)(w : JW) : (callFunc 72 args).run Tryz.prog w = .ok (.enter 72 args) w :=by go_simp
theorem cf58(args : Array Value)(w : JW) : (callFunc 58 args).run Tryz.prog w = .ok (.enter 58 args) w :=by go_simp
theorem cf63(args : Array Value)(w : JW) : (callFunc 63 args).run Tryz.prog w = .ok (.enter 63 args) w :=by go_simp
theorem FN{x : Value}{q : Rat}{k : Nat}{w : JW}{s : ByteArray}(h : (Fct.num [] k [q]).P w x)(e : Qs q =s)(hk : k <= 900)(hg : Good w) : Calls Tryz.prog 58 #[x] w (Ret w (Fct.val (Js s))) :=by
 obtain⟨a, P, b, Q, rfl, hv, f⟩ :=R1 h;exact(Uy a P b Q q w hv (T7 f.n (QB (by omega))) (T7 f.d (QB (by omega))) hg).mono (fun _ _ h => ⟨_, h.1, h.2, by rw[e];rfl⟩)
def Dc(s0 s1 s2 s3 s4 s5 : ByteArray) : Nat -> List Value
 | 0 => [Js ⟨#[]⟩, Js ⟨#[]⟩, Js ⟨#[]⟩, Js ⟨#[]⟩, Js ⟨#[]⟩, Js ⟨#[]⟩]
 | 1 => [Js s0, Js ⟨#[]⟩, Js ⟨#[]⟩, Js ⟨#[]⟩, Js ⟨#[]⟩, Js ⟨#[]⟩]
 | 2 => [Js s0, Js s1, Js ⟨#[]⟩, Js ⟨#[]⟩, Js ⟨#[]⟩, Js ⟨#[]⟩]
 | 3 => [Js s0, Js s1, Js s2, Js ⟨#[]⟩, Js ⟨#[]⟩, Js ⟨#[]⟩]
 | 4 => [Js s0, Js s1, Js s2, Js s3, Js ⟨#[]⟩, Js ⟨#[]⟩]
 | 5 => [Js s0, Js s1, Js s2, Js s3, Js s4, Js ⟨#[]⟩]
 | _ => [Js s0, Js s1, Js s2, Js s3, Js s4, Js s5]
theorem LT(x0 x1 x2 x3 x4 x5 : R4)(v : JW) : (T3 125 (Ja (flat [x0, x1, x2, x3, x4, x5]).toArray) (Ji Jl 0)).run Tryz.prog v = .ok (Ja (flat [x0]).toArray) v :=by kernel_rfl
theorem LS(x0 x1 x2 x3 x4 x5 : R4)(v : JW) : (T3 125 (Ja (flat [x0, x1, x2, x3, x4, x5]).toArray) (Ji Jl 1)).run Tryz.prog v = .ok (Ja (flat [x1]).toArray) v :=by kernel_rfl
theorem LR(x0 x1 x2 x3 x4 x5 : R4)(v : JW) : (T3 125 (Ja (flat [x0, x1, x2, x3, x4, x5]).toArray) (Ji Jl 2)).run Tryz.prog v = .ok (Ja (flat [x2]).toArray) v :=by kernel_rfl
theorem LQ(x0 x1 x2 x3 x4 x5 : R4)(v : JW) : (T3 125 (Ja (flat [x0, x1, x2, x3, x4, x5]).toArray) (Ji Jl 3)).run Tryz.prog v = .ok (Ja (flat [x3]).toArray) v :=by kernel_rfl
theorem LP(x0 x1 x2 x3 x4 x5 : R4)(v : JW) : (T3 125 (Ja (flat [x0, x1, x2, x3, x4, x5]).toArray) (Ji Jl 4)).run Tryz.prog v = .ok (Ja (flat [x4]).toArray) v :=by kernel_rfl
theorem LO(x0 x1 x2 x3 x4 x5 : R4)(v : JW) : (T3 125 (Ja (flat [x0, x1, x2, x3, x4, x5]).toArray) (Ji Jl 5)).run Tryz.prog v = .ok (Ja (flat [x5]).toArray) v :=by kernel_rfl
set_option maxRecDepth 100000 in
set_option maxHeartbeats 16000000 in
theorem D3{x y : Value}{q0 q1 q2 q3 q4 q5 : Rat}{k m : Nat}{w : JW}{s0 s1 s2 s3 s4 s5 : ByteArray}(h : (Fct.num [] k [q0, q1, q2]).P w x)(h' : (Fct.num [] m [q3, q4, q5]).P w y)(hn : (decide (k <= 900) && decide (m <= 900)) =true)(hg : Good w)(e0 : Qs q0 =s0)(e1 : Qs q1 =s1)(e2 : Qs q2 =s2)(e3 : Qs q3 =s3)(e4 : Qs q4 =s4)(e5 : Qs q5 =s5) :
  Calls Tryz.prog 63 #[x, y] w (Ret w (Fct.val (Ja #[Js s0, Js s1, Js s2, Js s3, Js s4, Js s5]))) :=by
 simp only[Bool.and_eq_true, decide_eq_true_eq]at hn;obtain⟨rs, rfl, hr, ff⟩ :=h;obtain⟨rs', rfl, hr', ff'⟩ :=h';obtain⟨x0, x1, x2, rfl⟩ :=VJ hr.len;obtain⟨x3, x4, x5, rfl⟩ :=VJ hr'.len;have r0 :=Lh (fun(v : JW) (hb : Below w.heap.size w v) => (⟨[x0], rfl, ⟨(hr.1.keep hb), trivial⟩, fun q hq => by rw[List.mem_singleton.1 hq];exact ff q0 (by simp)⟩ : (Fct.num [] k [q0]).P v (Ja (flat [x0]).toArray)));have r1 :=Lh (fun(v : JW) (hb : Below w.heap.size w v) => (⟨[x1], rfl, ⟨(hr.2.1.keep hb), trivial⟩, fun q hq => by rw[List.mem_singleton.1 hq];exact ff q1 (by simp)⟩ : (Fct.num [] k [q1]).P v (Ja (flat [x1]).toArray)));have r2 :=Lh (fun(v : JW) (hb : Below w.heap.size w v) => (⟨[x2], rfl, ⟨(hr.2.2.1.keep hb), trivial⟩, fun q hq => by rw[List.mem_singleton.1 hq];exact ff q2 (by simp)⟩ : (Fct.num [] k [q2]).P v (Ja (flat [x2]).toArray)));have r3 :=Lh (fun(v : JW) (hb : Below w.heap.size w v) => (⟨[x3], rfl, ⟨(hr'.1.keep hb), trivial⟩, fun q hq => by rw[List.mem_singleton.1 hq];exact ff' q3 (by simp)⟩ : (Fct.num [] m [q3]).P v (Ja (flat [x3]).toArray)));have r4 :=Lh (fun(v : JW) (hb : Below w.heap.size w v) => (⟨[x4], rfl, ⟨(hr'.2.1.keep hb), trivial⟩, fun q hq => by rw[List.mem_singleton.1 hq];exact ff' q4 (by simp)⟩ : (Fct.num [] m [q4]).P v (Ja (flat [x4]).toArray)));have r5 :=Lh (fun(v : JW) (hb : Below w.heap.size w v) => (⟨[x5], rfl, ⟨(hr'.2.2.1.keep hb), trivial⟩, fun q hq => by rw[List.mem_singleton.1 hq];exact ff' q5 (by simp)⟩ : (Fct.num [] m [q5]).P v (Ja (flat [x5]).toArray)))
 have Ee :=Lh (T4 e0 (T4 e1 (T4 e2 (T4 e3 (T4 e4 e5)))));have Hn :=Lh hn;clear e0 e1 e2 e3 e4 e5 ff ff' hn hr hr';show Calls Tryz.prog 63 #[Ja (flat [x0, x1, x2]).toArray, Ja (flat [x3, x4, x5]).toArray] w _;obtain⟨A, hA⟩ : ∃A, (flat [x0, x1, x2]).toArray =A :=⟨_, rfl⟩;obtain⟨B, hB⟩ : ∃A, (flat [x3, x4, x5]).toArray =A :=⟨_, rfl⟩;have V0 :=Jh.new w (flat [x0, x1, x2]).toArray 35;have V1 :=Jh.new (w.alloc (Jc (flat [x0, x1, x2]).toArray 35)) (flat [x3, x4, x5]).toArray 35;have V2 :=Jh.new ((w.alloc (Jc (flat [x0, x1, x2]).toArray 35)).alloc (Jc (flat [x3, x4, x5]).toArray 35)) #[Value.string ⟨#[]⟩, Js ⟨#[]⟩, Js ⟨#[]⟩, Js ⟨#[]⟩, Js ⟨#[]⟩, Js ⟨#[]⟩] 23;have V3 :=Jh.new (((w.alloc (Jc (flat [x0, x1, x2]).toArray 35)).alloc (Jc (flat [x3, x4, x5]).toArray 35)).alloc (Jc #[Value.string ⟨#[]⟩, Js ⟨#[]⟩, Js ⟨#[]⟩, Js ⟨#[]⟩, Js ⟨#[]⟩, Js ⟨#[]⟩] 23)) #[Value.string ⟨#[]⟩, Js ⟨#[]⟩, Js ⟨#[]⟩, Js ⟨#[]⟩, Js ⟨#[]⟩, Js ⟨#[]⟩] 23;have k0 :=(T6 w.heap.size w).alloc (T5 _) (Jc (flat [x0, x1, x2]).toArray 35);have k1 :=k0.alloc (by simp) (Jc (flat [x3, x4, x5]).toArray 35);have k2 :=k1.alloc (by simp;omega) (Jc #[Value.string ⟨#[]⟩, Js ⟨#[]⟩, Js ⟨#[]⟩, Js ⟨#[]⟩, Js ⟨#[]⟩, Js ⟨#[]⟩] 23);have k3 :=k2.alloc (by simp;omega) (Jc #[Value.string ⟨#[]⟩, Js ⟨#[]⟩, Js ⟨#[]⟩, Js ⟨#[]⟩, Js ⟨#[]⟩, Js ⟨#[]⟩] 23);have j1 :=(T6 (w.alloc (Jc (flat [x0, x1, x2]).toArray 35)).heap.size (w.alloc (Jc (flat [x0, x1, x2]).toArray 35))).alloc (T5 _) (Jc (flat [x3, x4, x5]).toArray 35);have j2 :=(T6 ((w.alloc (Jc (flat [x0, x1, x2]).toArray 35)).alloc (Jc (flat [x3, x4, x5]).toArray 35)).heap.size ((w.alloc (Jc (flat [x0, x1, x2]).toArray 35)).alloc (Jc (flat [x3, x4, x5]).toArray 35))).alloc (T5 _) (Jc #[Value.string ⟨#[]⟩, Js ⟨#[]⟩, Js ⟨#[]⟩, Js ⟨#[]⟩, Js ⟨#[]⟩, Js ⟨#[]⟩] 23)
 have j3 :=(T6 (((w.alloc (Jc (flat [x0, x1, x2]).toArray 35)).alloc (Jc (flat [x3, x4, x5]).toArray 35)).alloc (Jc #[Value.string ⟨#[]⟩, Js ⟨#[]⟩, Js ⟨#[]⟩, Js ⟨#[]⟩, Js ⟨#[]⟩, Js ⟨#[]⟩] 23)).heap.size (((w.alloc (Jc (flat [x0, x1, x2]).toArray 35)).alloc (Jc (flat [x3, x4, x5]).toArray 35)).alloc (Jc #[Value.string ⟨#[]⟩, Js ⟨#[]⟩, Js ⟨#[]⟩, Js ⟨#[]⟩, Js ⟨#[]⟩, Js ⟨#[]⟩] 23))).alloc (T5 _) (Jc #[Value.string ⟨#[]⟩, Js ⟨#[]⟩, Js ⟨#[]⟩, Js ⟨#[]⟩, Js ⟨#[]⟩, Js ⟨#[]⟩] 23);replace V0 :=((V0.keep j1).keep j2).keep j3;replace V1 :=(V1.keep j2).keep j3;replace V2 :=V2.keep j3;simp only[World.size_alloc]at V0 V1 V2 V3;obtain⟨W, hW⟩ : ∃W, (((w.alloc (Jc (flat [x0, x1, x2]).toArray 35)).alloc (Jc (flat [x3, x4, x5]).toArray 35)).alloc (Jc #[Value.string ⟨#[]⟩, Js ⟨#[]⟩, Js ⟨#[]⟩, Js ⟨#[]⟩, Js ⟨#[]⟩, Js ⟨#[]⟩] 23)).alloc (Jc #[Value.string ⟨#[]⟩, Js ⟨#[]⟩, Js ⟨#[]⟩, Js ⟨#[]⟩, Js ⟨#[]⟩, Js ⟨#[]⟩] 23) =W :=⟨_, rfl⟩;rw[hW]at k3 V0 V1 V2 V3;have V0 :=Lh (fun w' (hb : Below W.heap.size W w') => V0.keep hb);have V1 :=Lh (fun w' (hb : Below W.heap.size W w') => V1.keep hb);have V2 :=Lh V2;have V3 :=Lh V3;have k3 :=Lh k3;have Hg :=Lh hg;obtain⟨A, hA⟩ : ∃A, (flat [x0, x1, x2]).toArray =A :=⟨_, rfl⟩;obtain⟨B, hB⟩ : ∃A, (flat [x3, x4, x5]).toArray =A :=⟨_, rfl⟩;rw[hA, hB]at hW ⊢;clear k0 k1 k2 j1 j2 j3 hg;go_enter Tryz.func63, Tryz.ntmps63;go_upto_region 2 with fail
 try simp only[hW]
 clear hW;subst hA hB;refine E8 21 [(8, false, 0), (9, false, 0), (10, false, 0), (11, false, 0)] [] [Fct.val (Ja (flat [x0, x1, x2]).toArray), Fct.val (Ja (flat [x3, x4, x5]).toArray), Fct.val (Ja (flat [x0, x1, x2, x3, x4, x5]).toArray), Fct.val (Ji Jl 0)] 0 rfl (by kernel_rfl) rfl ⟨?_, ?_, ?_, ?_, trivial⟩
  (fun val => ⟨#[Ja (flat [x0, x1, x2]).toArray, Ja (flat [x3, x4, x5]).toArray, Jp (Jo ⟨w.heap.size, 0, Jn⟩), Jp (Jo ⟨w.heap.size + 1, 0, Jn⟩), Jp (Jo ⟨w.heap.size + 1 + 1, 0, Jn⟩), Jp (Jo ⟨w.heap.size + 1 + 1 + 1, 0, Jn⟩), undef, undef, val 8, val 9, val 10, val 11, undef, undef, undef, undef, undef, undef, undef, undef, undef], []⟩) (fun val => by kernel_rfl) (fun val w1 hb1 hF => ⟨?_⟩)
 ·exact Fk 12 V0.out (.env rfl (by kernel_rfl)) rfl rfl rfl (by kernel_rfl) (by kernel_rfl) rfl (by kernel_rfl)
 ·exact Fk 12 V1.out (.env rfl (by kernel_rfl)) rfl rfl rfl (by kernel_rfl) (by kernel_rfl) rfl (by kernel_rfl)
 ·exact EZ cf72 rfl rfl rfl rfl rfl (by kernel_rfl) (fun a v hB hE hD => (show Calls _ _ #[Act.at_ a 8, Act.at_ a 9] v _ from by rw[show Act.at_ a 8 =_ from hD 0 _ (by kernel_rfl) rfl, show Act.at_ a 9 =_ from hD 1 _ (by kernel_rfl) rfl];exact(Ln x0 x1 x2 x3 x4 x5 v).mono (fun e v h => ⟨_, h.1, h.2, rfl⟩)))
 ·exact Dh rfl (fun _ => rfl) rfl (by kernel_rfl)
 have e10 : val 10 =Ja (flat [x0, x1, x2, x3, x4, x5]).toArray :=hF 2 _ rfl;have e11 : val 11 =Ji Jl 0 :=hF 3 _ rfl;clear hF;have Hst :=Lh (show Jh w1 (w.heap.size + 1 + 1 + 1) (Dc s0 s1 s2 s3 s4 s5 0) /\ Jh w1 (w.heap.size + 1 + 1) (Dc s0 s1 s2 s3 s4 s5 0) /\ Below w.heap.size w w1 from⟨V3.out.keep hb1, V2.out.keep hb1, k3.out.trans (hb1.mono k3.out.size)⟩);clear V0 V1 V2 V3 k3 hb1;obtain⟨A, hA⟩ : ∃A, (flat [x0, x1, x2]).toArray =A :=⟨_, rfl⟩;obtain⟨B, hB⟩ : ∃A, (flat [x3, x4, x5]).toArray =A :=⟨_, rfl⟩;obtain⟨D, hD⟩ : ∃D, (flat [x0, x1, x2, x3, x4, x5]).toArray =D :=⟨_, rfl⟩;have HX :=Lh (T4 (LT x0 x1 x2 x3 x4 x5) (T4 (LS x0 x1 x2 x3 x4 x5) (T4 (LR x0 x1 x2 x3 x4 x5) (T4 (LQ x0 x1 x2 x3 x4 x5) (T4 (LP x0 x1 x2 x3 x4 x5) (LO x0 x1 x2 x3 x4 x5))))));rw[hD]at e10 HX;rw[hA, hB];generalize val 10 =t10 at *
 generalize val 11 =t11 at *
 generalize val 8 =t8 at *
 generalize val 9 =t9 at *
 subst e10 e11;clear hA hB hD;refine Last.nil (by kernel_rfl) ?_;go_wp2_with fail
 go_loopw [11] (fun v wr => ∃(k : Nat) (z : Int), k <= 6 /\ z =(k : Int) /\ v =Ji Jl z /\ (Jh wr (w.heap.size + 1 + 1 + 1) (Dc s0 s1 s2 s3 s4 s5 k) /\ Jh wr (w.heap.size + 1 + 1) (Dc s0 s1 s2 s3 s4 s5 0) /\ Below w.heap.size w wr)) (fun v _ => 6-(intOf v).toNat)
 case atStart => exact⟨0, 0, by decide, rfl, rfl, Hst.out⟩
 case round =>
  obtain⟨k, z, hk, hzk, rfl, hc, hz, hb⟩ :=hrel;have Hc :=Lh hc;have Hz :=Lh hz;have Hb :=Lh hb;clear hc hz hb Hst;obtain rfl|rfl|rfl|rfl|rfl|rfl|rfl : k =0 \/ k =1 \/ k =2 \/ k =3 \/ k =4 \/ k =5 \/ k =6 :=by omega
  ·obtain rfl : z =0 :=hzk;go_upto_region 4 with fail
   refine E8 21 [(13, false, 0), (14, false, 0), (7, false, 0), (6, false, 0), (7, true, 2)] [2]
    [Fct.val (Ji Jl 0), Fct.num [] k [q0], Fct.ptr 4, Fct.val (Ji Jl 0), Fct.var [] k [q0]]
    0 rfl (by kernel_rfl) rfl ⟨?_, ?_, ?_, ?_, ?_, trivial⟩
    (fun valA => ⟨#[Ja A, Ja B, Jp (Jo ⟨w.heap.size, 0, Jn⟩), Jp (Jo ⟨w.heap.size + 1, 0, Jn⟩), Jp (Jo ⟨w.heap.size + 1 + 1, 0, Jn⟩), Jp (Jo ⟨w.heap.size + 1 + 1 + 1, 0, Jn⟩), valA 6, valA 7, t8, t9, Ja D, Ji Jl 0, .bool true, valA 13, valA 14, u15, u16, u17, u18, u19, undef], []⟩) (fun valA => by kernel_rfl) (fun valA v hB hF => ⟨?_⟩)
   ·exact Fh rfl rfl (.env rfl (by kernel_rfl)) rfl (by kernel_rfl)
   ·exact Fp rfl rfl (by kernel_rfl) (fun a v hB hE _ => ⟨Ja (flat [x0]).toArray, by
     have e : a.eval (.tmp 10) =Ja D :=hE 10 (by kernel_rfl);have e2 : a.eval (.tmp 11) =Ji Jl 0 :=hE 11 (by kernel_rfl);unfold execOp;show(do pure (Next.value (←T3 125 (a.eval (.tmp 10)) (a.eval (.tmp 11))))).run Tryz.prog v =_;rw[e, e2, Sem.run_bind, HX.out.1 v];rfl, r0.out v (Hb.out.trans (hB.mono Hb.out.size))⟩)
   ·exact Fb [Ji Jl 0, Jp Jn, Ji Jl 0, Jp Jn] 31 rfl rfl rfl (by kernel_rfl) (by kernel_rfl) (fun a w => by go_simp)
   ·exact E5 0 rfl rfl rfl rfl (by kernel_rfl)
   ·exact E9 2 1 rfl rfl rfl rfl rfl (by kernel_rfl) (by kernel_rfl)
   ·obtain⟨p7, e7, V7⟩ : (Fct.var [] k [q0]).P v (valA 7) :=hF 4 _ rfl;have e6 : valA 6 =Ji Jl 0 :=hF 3 _ rfl;clear hF;generalize valA 7 =t7 at *
    generalize valA 6 =t6 at *
    subst e7 e6;refine Last.nil (by kernel_rfl) ?_;have Hc1 :=Lh (Hc.out.keep hB);have Hz1 :=Lh (Hz.out.keep hB);have Hb1 :=Lh (Hb.out.trans (hB.mono Hb.out.size));replace V7 :=Lh (fun w' (hb : Below v.heap.size v w') => V7.keep hb);have G :=Lh (fun w' (hb : Below v.heap.size v w') => Hg.out.below (Hb1.out.trans (hb.mono Hb1.out.size)));clear hB Hc Hz Hb;go_upto_region 5 with fail
    refine E8 21 [(15, false, 0), (16, false, 0), (17, false, 0), (18, false, 0)] []
     [Fct.val (Ji Jl 0), Fct.num [] k [q0], Fct.val (Js s0), Fct.val (Jp (Jo ⟨w.heap.size + 1 + 1 + 1, 0, Jn⟩))]
     1 rfl (by kernel_rfl) rfl ⟨?_, ?_, ?_, ?_, trivial⟩
     (fun valB => ⟨#[Ja A, Ja B, Jp (Jo ⟨w.heap.size, 0, Jn⟩), Jp (Jo ⟨w.heap.size + 1, 0, Jn⟩), Jp (Jo ⟨w.heap.size + 1 + 1, 0, Jn⟩), Jp (Jo ⟨w.heap.size + 1 + 1 + 1, 0, Jn⟩), Ji Jl 0, Jp (Jo ⟨p7, 0, Jn⟩), t8, t9, Ja D, Ji Jl 0, .bool true, valA 13, valA 14, valB 15, valB 16, valB 17, valB 18, u19, undef], []⟩) (fun valB => by kernel_rfl) (fun valB v hB hF => ⟨?_⟩)
    ·exact Fh rfl rfl (.env rfl (by kernel_rfl)) rfl (by kernel_rfl)
    ·exact E7 V7.out (.env rfl (by kernel_rfl)) rfl rfl rfl (by kernel_rfl) (by kernel_rfl)
    ·exact EZ cf58 rfl rfl rfl rfl rfl (by kernel_rfl) (fun a v hB hE hD => FN (hD 1 _ (by kernel_rfl) rfl) Ee.out.1 (by have :=Hn.out;omega) (G.out v hB))
    ·exact FA rfl rfl (.env rfl (by kernel_rfl)) rfl (by kernel_rfl) (fun _ _ hE hD => Src.at_ (.dep 0 rfl (by kernel_rfl)) hE hD) (fun w => by go_simp)
    ·have hx : valB 17 =Js s0 :=hF 2 _ rfl;have hp : valB 18 =Jp (Jo ⟨w.heap.size + 1 + 1 + 1, 0, Jn⟩) :=hF 3 _ rfl;clear hF;generalize valB 17 =t17 at *
     generalize valB 18 =t18 at *
     subst hx hp;refine FQ (f :=0) (Hc1.out.keep hB) rfl rfl rfl rfl rfl rfl rfl rfl rfl (by kernel_rfl) (by kernel_rfl) (fun v2 hW hC => ?_);have HB :=Lh (hW.below (show w.heap.size <= w.heap.size + 1 + 1 + 1 by omega) (Hb1.out.trans (hB.mono Hb1.out.size)));have HZ :=Lh ((Hz1.out.keep hB).wr hW (show w.heap.size + 1 + 1 ≠ w.heap.size + 1 + 1 + 1 by omega));have HC :=Lh (show Jh v2 (w.heap.size + 1 + 1 + 1) (Dc s0 s1 s2 s3 s4 s5 1)from hC);clear hW hC hB Hc1 Hz1 Hb1 V7 G;go_wp2_with fail
     go_roundw;case rel => exact⟨1, 1, by decide, rfl, by go_num, HC.out, HZ.out, HB.out⟩
     case measure => simp[intOf]
  ·obtain rfl : z =1 :=hzk;go_upto_region 4 with fail
   refine E8 21 [(13, false, 0), (14, false, 0), (7, false, 0), (6, false, 0), (7, true, 2)] [2]
    [Fct.val (Ji Jl 1), Fct.num [] k [q1], Fct.ptr 4, Fct.val (Ji Jl 1), Fct.var [] k [q1]]
    0 rfl (by kernel_rfl) rfl ⟨?_, ?_, ?_, ?_, ?_, trivial⟩
    (fun valA => ⟨#[Ja A, Ja B, Jp (Jo ⟨w.heap.size, 0, Jn⟩), Jp (Jo ⟨w.heap.size + 1, 0, Jn⟩), Jp (Jo ⟨w.heap.size + 1 + 1, 0, Jn⟩), Jp (Jo ⟨w.heap.size + 1 + 1 + 1, 0, Jn⟩), valA 6, valA 7, t8, t9, Ja D, Ji Jl 1, .bool true, valA 13, valA 14, u15, u16, u17, u18, u19, undef], []⟩) (fun valA => by kernel_rfl) (fun valA v hB hF => ⟨?_⟩)
   ·exact Fh rfl rfl (.env rfl (by kernel_rfl)) rfl (by kernel_rfl)
   ·exact Fp rfl rfl (by kernel_rfl) (fun a v hB hE _ => ⟨Ja (flat [x1]).toArray, by
     have e : a.eval (.tmp 10) =Ja D :=hE 10 (by kernel_rfl);have e2 : a.eval (.tmp 11) =Ji Jl 1 :=hE 11 (by kernel_rfl);unfold execOp;show(do pure (Next.value (←T3 125 (a.eval (.tmp 10)) (a.eval (.tmp 11))))).run Tryz.prog v =_;rw[e, e2, Sem.run_bind, HX.out.2.1 v];rfl, r1.out v (Hb.out.trans (hB.mono Hb.out.size))⟩)
   ·exact Fb [Ji Jl 0, Jp Jn, Ji Jl 0, Jp Jn] 31 rfl rfl rfl (by kernel_rfl) (by kernel_rfl) (fun a w => by go_simp)
   ·exact E5 0 rfl rfl rfl rfl (by kernel_rfl)
   ·exact E9 2 1 rfl rfl rfl rfl rfl (by kernel_rfl) (by kernel_rfl)
   ·obtain⟨p7, e7, V7⟩ : (Fct.var [] k [q1]).P v (valA 7) :=hF 4 _ rfl;have e6 : valA 6 =Ji Jl 1 :=hF 3 _ rfl;clear hF;generalize valA 7 =t7 at *
    generalize valA 6 =t6 at *
    subst e7 e6;refine Last.nil (by kernel_rfl) ?_;have Hc1 :=Lh (Hc.out.keep hB);have Hz1 :=Lh (Hz.out.keep hB);have Hb1 :=Lh (Hb.out.trans (hB.mono Hb.out.size));replace V7 :=Lh (fun w' (hb : Below v.heap.size v w') => V7.keep hb);have G :=Lh (fun w' (hb : Below v.heap.size v w') => Hg.out.below (Hb1.out.trans (hb.mono Hb1.out.size)));clear hB Hc Hz Hb;go_upto_region 5 with fail
    refine E8 21 [(15, false, 0), (16, false, 0), (17, false, 0), (18, false, 0)] []
     [Fct.val (Ji Jl 1), Fct.num [] k [q1], Fct.val (Js s1), Fct.val (Jp (Jo ⟨w.heap.size + 1 + 1 + 1, 1, Jn⟩))]
     1 rfl (by kernel_rfl) rfl ⟨?_, ?_, ?_, ?_, trivial⟩
     (fun valB => ⟨#[Ja A, Ja B, Jp (Jo ⟨w.heap.size, 0, Jn⟩), Jp (Jo ⟨w.heap.size + 1, 0, Jn⟩), Jp (Jo ⟨w.heap.size + 1 + 1, 0, Jn⟩), Jp (Jo ⟨w.heap.size + 1 + 1 + 1, 0, Jn⟩), Ji Jl 1, Jp (Jo ⟨p7, 0, Jn⟩), t8, t9, Ja D, Ji Jl 1, .bool true, valA 13, valA 14, valB 15, valB 16, valB 17, valB 18, u19, undef], []⟩) (fun valB => by kernel_rfl) (fun valB v hB hF => ⟨?_⟩)
    ·exact Fh rfl rfl (.env rfl (by kernel_rfl)) rfl (by kernel_rfl)
    ·exact E7 V7.out (.env rfl (by kernel_rfl)) rfl rfl rfl (by kernel_rfl) (by kernel_rfl)
    ·exact EZ cf58 rfl rfl rfl rfl rfl (by kernel_rfl) (fun a v hB hE hD => FN (hD 1 _ (by kernel_rfl) rfl) Ee.out.2.1 (by have :=Hn.out;omega) (G.out v hB))
    ·exact FA rfl rfl (.env rfl (by kernel_rfl)) rfl (by kernel_rfl) (fun _ _ hE hD => Src.at_ (.dep 0 rfl (by kernel_rfl)) hE hD) (fun w => by go_simp)
    ·have hx : valB 17 =Js s1 :=hF 2 _ rfl;have hp : valB 18 =Jp (Jo ⟨w.heap.size + 1 + 1 + 1, 1, Jn⟩) :=hF 3 _ rfl;clear hF;generalize valB 17 =t17 at *
     generalize valB 18 =t18 at *
     subst hx hp;refine FQ (f :=1) (Hc1.out.keep hB) rfl rfl rfl rfl rfl rfl rfl rfl rfl (by kernel_rfl) (by kernel_rfl) (fun v2 hW hC => ?_);have HB :=Lh (hW.below (show w.heap.size <= w.heap.size + 1 + 1 + 1 by omega) (Hb1.out.trans (hB.mono Hb1.out.size)));have HZ :=Lh ((Hz1.out.keep hB).wr hW (show w.heap.size + 1 + 1 ≠ w.heap.size + 1 + 1 + 1 by omega));have HC :=Lh (show Jh v2 (w.heap.size + 1 + 1 + 1) (Dc s0 s1 s2 s3 s4 s5 2)from hC);clear hW hC hB Hc1 Hz1 Hb1 V7 G;go_wp2_with fail
     go_roundw;case rel => exact⟨2, 2, by decide, rfl, by go_num, HC.out, HZ.out, HB.out⟩
     case measure => simp[intOf]
  ·obtain rfl : z =2 :=hzk;go_upto_region 4 with fail
   refine E8 21 [(13, false, 0), (14, false, 0), (7, false, 0), (6, false, 0), (7, true, 2)] [2]
    [Fct.val (Ji Jl 2), Fct.num [] k [q2], Fct.ptr 4, Fct.val (Ji Jl 2), Fct.var [] k [q2]]
    0 rfl (by kernel_rfl) rfl ⟨?_, ?_, ?_, ?_, ?_, trivial⟩
    (fun valA => ⟨#[Ja A, Ja B, Jp (Jo ⟨w.heap.size, 0, Jn⟩), Jp (Jo ⟨w.heap.size + 1, 0, Jn⟩), Jp (Jo ⟨w.heap.size + 1 + 1, 0, Jn⟩), Jp (Jo ⟨w.heap.size + 1 + 1 + 1, 0, Jn⟩), valA 6, valA 7, t8, t9, Ja D, Ji Jl 2, .bool true, valA 13, valA 14, u15, u16, u17, u18, u19, undef], []⟩) (fun valA => by kernel_rfl) (fun valA v hB hF => ⟨?_⟩)
   ·exact Fh rfl rfl (.env rfl (by kernel_rfl)) rfl (by kernel_rfl)
   ·exact Fp rfl rfl (by kernel_rfl) (fun a v hB hE _ => ⟨Ja (flat [x2]).toArray, by
     have e : a.eval (.tmp 10) =Ja D :=hE 10 (by kernel_rfl);have e2 : a.eval (.tmp 11) =Ji Jl 2 :=hE 11 (by kernel_rfl);unfold execOp;show(do pure (Next.value (←T3 125 (a.eval (.tmp 10)) (a.eval (.tmp 11))))).run Tryz.prog v =_;rw[e, e2, Sem.run_bind, HX.out.2.2.1 v];rfl, r2.out v (Hb.out.trans (hB.mono Hb.out.size))⟩)
   ·exact Fb [Ji Jl 0, Jp Jn, Ji Jl 0, Jp Jn] 31 rfl rfl rfl (by kernel_rfl) (by kernel_rfl) (fun a w => by go_simp)
   ·exact E5 0 rfl rfl rfl rfl (by kernel_rfl)
   ·exact E9 2 1 rfl rfl rfl rfl rfl (by kernel_rfl) (by kernel_rfl)
   ·obtain⟨p7, e7, V7⟩ : (Fct.var [] k [q2]).P v (valA 7) :=hF 4 _ rfl;have e6 : valA 6 =Ji Jl 2 :=hF 3 _ rfl;clear hF;generalize valA 7 =t7 at *
    generalize valA 6 =t6 at *
    subst e7 e6;refine Last.nil (by kernel_rfl) ?_;have Hc1 :=Lh (Hc.out.keep hB);have Hz1 :=Lh (Hz.out.keep hB);have Hb1 :=Lh (Hb.out.trans (hB.mono Hb.out.size));replace V7 :=Lh (fun w' (hb : Below v.heap.size v w') => V7.keep hb);have G :=Lh (fun w' (hb : Below v.heap.size v w') => Hg.out.below (Hb1.out.trans (hb.mono Hb1.out.size)));clear hB Hc Hz Hb;go_upto_region 5 with fail
    refine E8 21 [(15, false, 0), (16, false, 0), (17, false, 0), (18, false, 0)] []
     [Fct.val (Ji Jl 2), Fct.num [] k [q2], Fct.val (Js s2), Fct.val (Jp (Jo ⟨w.heap.size + 1 + 1 + 1, 2, Jn⟩))]
     1 rfl (by kernel_rfl) rfl ⟨?_, ?_, ?_, ?_, trivial⟩
     (fun valB => ⟨#[Ja A, Ja B, Jp (Jo ⟨w.heap.size, 0, Jn⟩), Jp (Jo ⟨w.heap.size + 1, 0, Jn⟩), Jp (Jo ⟨w.heap.size + 1 + 1, 0, Jn⟩), Jp (Jo ⟨w.heap.size + 1 + 1 + 1, 0, Jn⟩), Ji Jl 2, Jp (Jo ⟨p7, 0, Jn⟩), t8, t9, Ja D, Ji Jl 2, .bool true, valA 13, valA 14, valB 15, valB 16, valB 17, valB 18, u19, undef], []⟩) (fun valB => by kernel_rfl) (fun valB v hB hF => ⟨?_⟩)
    ·exact Fh rfl rfl (.env rfl (by kernel_rfl)) rfl (by kernel_rfl)
    ·exact E7 V7.out (.env rfl (by kernel_rfl)) rfl rfl rfl (by kernel_rfl) (by kernel_rfl)
    ·exact EZ cf58 rfl rfl rfl rfl rfl (by kernel_rfl) (fun a v hB hE hD => FN (hD 1 _ (by kernel_rfl) rfl) Ee.out.2.2.1 (by have :=Hn.out;omega) (G.out v hB))
    ·exact FA rfl rfl (.env rfl (by kernel_rfl)) rfl (by kernel_rfl) (fun _ _ hE hD => Src.at_ (.dep 0 rfl (by kernel_rfl)) hE hD) (fun w => by go_simp)
    ·have hx : valB 17 =Js s2 :=hF 2 _ rfl;have hp : valB 18 =Jp (Jo ⟨w.heap.size + 1 + 1 + 1, 2, Jn⟩) :=hF 3 _ rfl;clear hF;generalize valB 17 =t17 at *
     generalize valB 18 =t18 at *
     subst hx hp;refine FQ (f :=2) (Hc1.out.keep hB) rfl rfl rfl rfl rfl rfl rfl rfl rfl (by kernel_rfl) (by kernel_rfl) (fun v2 hW hC => ?_);have HB :=Lh (hW.below (show w.heap.size <= w.heap.size + 1 + 1 + 1 by omega) (Hb1.out.trans (hB.mono Hb1.out.size)));have HZ :=Lh ((Hz1.out.keep hB).wr hW (show w.heap.size + 1 + 1 ≠ w.heap.size + 1 + 1 + 1 by omega));have HC :=Lh (show Jh v2 (w.heap.size + 1 + 1 + 1) (Dc s0 s1 s2 s3 s4 s5 3)from hC);clear hW hC hB Hc1 Hz1 Hb1 V7 G;go_wp2_with fail
     go_roundw;case rel => exact⟨3, 3, by decide, rfl, by go_num, HC.out, HZ.out, HB.out⟩
     case measure => simp[intOf]
  ·obtain rfl : z =3 :=hzk;go_upto_region 4 with fail
   refine E8 21 [(13, false, 0), (14, false, 0), (7, false, 0), (6, false, 0), (7, true, 2)] [2]
    [Fct.val (Ji Jl 3), Fct.num [] m [q3], Fct.ptr 4, Fct.val (Ji Jl 3), Fct.var [] m [q3]]
    0 rfl (by kernel_rfl) rfl ⟨?_, ?_, ?_, ?_, ?_, trivial⟩
    (fun valA => ⟨#[Ja A, Ja B, Jp (Jo ⟨w.heap.size, 0, Jn⟩), Jp (Jo ⟨w.heap.size + 1, 0, Jn⟩), Jp (Jo ⟨w.heap.size + 1 + 1, 0, Jn⟩), Jp (Jo ⟨w.heap.size + 1 + 1 + 1, 0, Jn⟩), valA 6, valA 7, t8, t9, Ja D, Ji Jl 3, .bool true, valA 13, valA 14, u15, u16, u17, u18, u19, undef], []⟩) (fun valA => by kernel_rfl) (fun valA v hB hF => ⟨?_⟩)
   ·exact Fh rfl rfl (.env rfl (by kernel_rfl)) rfl (by kernel_rfl)
   ·exact Fp rfl rfl (by kernel_rfl) (fun a v hB hE _ => ⟨Ja (flat [x3]).toArray, by
     have e : a.eval (.tmp 10) =Ja D :=hE 10 (by kernel_rfl);have e2 : a.eval (.tmp 11) =Ji Jl 3 :=hE 11 (by kernel_rfl);unfold execOp;show(do pure (Next.value (←T3 125 (a.eval (.tmp 10)) (a.eval (.tmp 11))))).run Tryz.prog v =_;rw[e, e2, Sem.run_bind, HX.out.2.2.2.1 v];rfl, r3.out v (Hb.out.trans (hB.mono Hb.out.size))⟩)
   ·exact Fb [Ji Jl 0, Jp Jn, Ji Jl 0, Jp Jn] 31 rfl rfl rfl (by kernel_rfl) (by kernel_rfl) (fun a w => by go_simp)
   ·exact E5 0 rfl rfl rfl rfl (by kernel_rfl)
   ·exact E9 2 1 rfl rfl rfl rfl rfl (by kernel_rfl) (by kernel_rfl)
   ·obtain⟨p7, e7, V7⟩ : (Fct.var [] m [q3]).P v (valA 7) :=hF 4 _ rfl;have e6 : valA 6 =Ji Jl 3 :=hF 3 _ rfl;clear hF;generalize valA 7 =t7 at *
    generalize valA 6 =t6 at *
    subst e7 e6;refine Last.nil (by kernel_rfl) ?_;have Hc1 :=Lh (Hc.out.keep hB);have Hz1 :=Lh (Hz.out.keep hB);have Hb1 :=Lh (Hb.out.trans (hB.mono Hb.out.size));replace V7 :=Lh (fun w' (hb : Below v.heap.size v w') => V7.keep hb);have G :=Lh (fun w' (hb : Below v.heap.size v w') => Hg.out.below (Hb1.out.trans (hb.mono Hb1.out.size)));clear hB Hc Hz Hb;go_upto_region 5 with fail
    refine E8 21 [(15, false, 0), (16, false, 0), (17, false, 0), (18, false, 0)] []
     [Fct.val (Ji Jl 3), Fct.num [] m [q3], Fct.val (Js s3), Fct.val (Jp (Jo ⟨w.heap.size + 1 + 1 + 1, 3, Jn⟩))]
     1 rfl (by kernel_rfl) rfl ⟨?_, ?_, ?_, ?_, trivial⟩
     (fun valB => ⟨#[Ja A, Ja B, Jp (Jo ⟨w.heap.size, 0, Jn⟩), Jp (Jo ⟨w.heap.size + 1, 0, Jn⟩), Jp (Jo ⟨w.heap.size + 1 + 1, 0, Jn⟩), Jp (Jo ⟨w.heap.size + 1 + 1 + 1, 0, Jn⟩), Ji Jl 3, Jp (Jo ⟨p7, 0, Jn⟩), t8, t9, Ja D, Ji Jl 3, .bool true, valA 13, valA 14, valB 15, valB 16, valB 17, valB 18, u19, undef], []⟩) (fun valB => by kernel_rfl) (fun valB v hB hF => ⟨?_⟩)
    ·exact Fh rfl rfl (.env rfl (by kernel_rfl)) rfl (by kernel_rfl)
    ·exact E7 V7.out (.env rfl (by kernel_rfl)) rfl rfl rfl (by kernel_rfl) (by kernel_rfl)
    ·exact EZ cf58 rfl rfl rfl rfl rfl (by kernel_rfl) (fun a v hB hE hD => FN (hD 1 _ (by kernel_rfl) rfl) Ee.out.2.2.2.1 (by have :=Hn.out;omega) (G.out v hB))
    ·exact FA rfl rfl (.env rfl (by kernel_rfl)) rfl (by kernel_rfl) (fun _ _ hE hD => Src.at_ (.dep 0 rfl (by kernel_rfl)) hE hD) (fun w => by go_simp)
    ·have hx : valB 17 =Js s3 :=hF 2 _ rfl;have hp : valB 18 =Jp (Jo ⟨w.heap.size + 1 + 1 + 1, 3, Jn⟩) :=hF 3 _ rfl;clear hF;generalize valB 17 =t17 at *
     generalize valB 18 =t18 at *
     subst hx hp;refine FQ (f :=3) (Hc1.out.keep hB) rfl rfl rfl rfl rfl rfl rfl rfl rfl (by kernel_rfl) (by kernel_rfl) (fun v2 hW hC => ?_);have HB :=Lh (hW.below (show w.heap.size <= w.heap.size + 1 + 1 + 1 by omega) (Hb1.out.trans (hB.mono Hb1.out.size)));have HZ :=Lh ((Hz1.out.keep hB).wr hW (show w.heap.size + 1 + 1 ≠ w.heap.size + 1 + 1 + 1 by omega));have HC :=Lh (show Jh v2 (w.heap.size + 1 + 1 + 1) (Dc s0 s1 s2 s3 s4 s5 4)from hC);clear hW hC hB Hc1 Hz1 Hb1 V7 G;go_wp2_with fail
     go_roundw;case rel => exact⟨4, 4, by decide, rfl, by go_num, HC.out, HZ.out, HB.out⟩
     case measure => simp[intOf]
  ·obtain rfl : z =4 :=hzk;go_upto_region 4 with fail
   refine E8 21 [(13, false, 0), (14, false, 0), (7, false, 0), (6, false, 0), (7, true, 2)] [2]
    [Fct.val (Ji Jl 4), Fct.num [] m [q4], Fct.ptr 4, Fct.val (Ji Jl 4), Fct.var [] m [q4]]
    0 rfl (by kernel_rfl) rfl ⟨?_, ?_, ?_, ?_, ?_, trivial⟩
    (fun valA => ⟨#[Ja A, Ja B, Jp (Jo ⟨w.heap.size, 0, Jn⟩), Jp (Jo ⟨w.heap.size + 1, 0, Jn⟩), Jp (Jo ⟨w.heap.size + 1 + 1, 0, Jn⟩), Jp (Jo ⟨w.heap.size + 1 + 1 + 1, 0, Jn⟩), valA 6, valA 7, t8, t9, Ja D, Ji Jl 4, .bool true, valA 13, valA 14, u15, u16, u17, u18, u19, undef], []⟩) (fun valA => by kernel_rfl) (fun valA v hB hF => ⟨?_⟩)
   ·exact Fh rfl rfl (.env rfl (by kernel_rfl)) rfl (by kernel_rfl)
   ·exact Fp rfl rfl (by kernel_rfl) (fun a v hB hE _ => ⟨Ja (flat [x4]).toArray, by
     have e : a.eval (.tmp 10) =Ja D :=hE 10 (by kernel_rfl);have e2 : a.eval (.tmp 11) =Ji Jl 4 :=hE 11 (by kernel_rfl);unfold execOp;show(do pure (Next.value (←T3 125 (a.eval (.tmp 10)) (a.eval (.tmp 11))))).run Tryz.prog v =_;rw[e, e2, Sem.run_bind, HX.out.2.2.2.2.1 v];rfl, r4.out v (Hb.out.trans (hB.mono Hb.out.size))⟩)
   ·exact Fb [Ji Jl 0, Jp Jn, Ji Jl 0, Jp Jn] 31 rfl rfl rfl (by kernel_rfl) (by kernel_rfl) (fun a w => by go_simp)
   ·exact E5 0 rfl rfl rfl rfl (by kernel_rfl)
   ·exact E9 2 1 rfl rfl rfl rfl rfl (by kernel_rfl) (by kernel_rfl)
   ·obtain⟨p7, e7, V7⟩ : (Fct.var [] m [q4]).P v (valA 7) :=hF 4 _ rfl;have e6 : valA 6 =Ji Jl 4 :=hF 3 _ rfl;clear hF;generalize valA 7 =t7 at *
    generalize valA 6 =t6 at *
    subst e7 e6;refine Last.nil (by kernel_rfl) ?_;have Hc1 :=Lh (Hc.out.keep hB);have Hz1 :=Lh (Hz.out.keep hB);have Hb1 :=Lh (Hb.out.trans (hB.mono Hb.out.size));replace V7 :=Lh (fun w' (hb : Below v.heap.size v w') => V7.keep hb);have G :=Lh (fun w' (hb : Below v.heap.size v w') => Hg.out.below (Hb1.out.trans (hb.mono Hb1.out.size)));clear hB Hc Hz Hb;go_upto_region 5 with fail
    refine E8 21 [(15, false, 0), (16, false, 0), (17, false, 0), (18, false, 0)] []
     [Fct.val (Ji Jl 4), Fct.num [] m [q4], Fct.val (Js s4), Fct.val (Jp (Jo ⟨w.heap.size + 1 + 1 + 1, 4, Jn⟩))]
     1 rfl (by kernel_rfl) rfl ⟨?_, ?_, ?_, ?_, trivial⟩
     (fun valB => ⟨#[Ja A, Ja B, Jp (Jo ⟨w.heap.size, 0, Jn⟩), Jp (Jo ⟨w.heap.size + 1, 0, Jn⟩), Jp (Jo ⟨w.heap.size + 1 + 1, 0, Jn⟩), Jp (Jo ⟨w.heap.size + 1 + 1 + 1, 0, Jn⟩), Ji Jl 4, Jp (Jo ⟨p7, 0, Jn⟩), t8, t9, Ja D, Ji Jl 4, .bool true, valA 13, valA 14, valB 15, valB 16, valB 17, valB 18, u19, undef], []⟩) (fun valB => by kernel_rfl) (fun valB v hB hF => ⟨?_⟩)
    ·exact Fh rfl rfl (.env rfl (by kernel_rfl)) rfl (by kernel_rfl)
    ·exact E7 V7.out (.env rfl (by kernel_rfl)) rfl rfl rfl (by kernel_rfl) (by kernel_rfl)
    ·exact EZ cf58 rfl rfl rfl rfl rfl (by kernel_rfl) (fun a v hB hE hD => FN (hD 1 _ (by kernel_rfl) rfl) Ee.out.2.2.2.2.1 (by have :=Hn.out;omega) (G.out v hB))
    ·exact FA rfl rfl (.env rfl (by kernel_rfl)) rfl (by kernel_rfl) (fun _ _ hE hD => Src.at_ (.dep 0 rfl (by kernel_rfl)) hE hD) (fun w => by go_simp)
    ·have hx : valB 17 =Js s4 :=hF 2 _ rfl;have hp : valB 18 =Jp (Jo ⟨w.heap.size + 1 + 1 + 1, 4, Jn⟩) :=hF 3 _ rfl;clear hF;generalize valB 17 =t17 at *
     generalize valB 18 =t18 at *
     subst hx hp;refine FQ (f :=4) (Hc1.out.keep hB) rfl rfl rfl rfl rfl rfl rfl rfl rfl (by kernel_rfl) (by kernel_rfl) (fun v2 hW hC => ?_);have HB :=Lh (hW.below (show w.heap.size <= w.heap.size + 1 + 1 + 1 by omega) (Hb1.out.trans (hB.mono Hb1.out.size)));have HZ :=Lh ((Hz1.out.keep hB).wr hW (show w.heap.size + 1 + 1 ≠ w.heap.size + 1 + 1 + 1 by omega));have HC :=Lh (show Jh v2 (w.heap.size + 1 + 1 + 1) (Dc s0 s1 s2 s3 s4 s5 5)from hC);clear hW hC hB Hc1 Hz1 Hb1 V7 G;go_wp2_with fail
     go_roundw;case rel => exact⟨5, 5, by decide, rfl, by go_num, HC.out, HZ.out, HB.out⟩
     case measure => simp[intOf]
  ·obtain rfl : z =5 :=hzk;go_upto_region 4 with fail
   refine E8 21 [(13, false, 0), (14, false, 0), (7, false, 0), (6, false, 0), (7, true, 2)] [2]
    [Fct.val (Ji Jl 5), Fct.num [] m [q5], Fct.ptr 4, Fct.val (Ji Jl 5), Fct.var [] m [q5]]
    0 rfl (by kernel_rfl) rfl ⟨?_, ?_, ?_, ?_, ?_, trivial⟩
    (fun valA => ⟨#[Ja A, Ja B, Jp (Jo ⟨w.heap.size, 0, Jn⟩), Jp (Jo ⟨w.heap.size + 1, 0, Jn⟩), Jp (Jo ⟨w.heap.size + 1 + 1, 0, Jn⟩), Jp (Jo ⟨w.heap.size + 1 + 1 + 1, 0, Jn⟩), valA 6, valA 7, t8, t9, Ja D, Ji Jl 5, .bool true, valA 13, valA 14, u15, u16, u17, u18, u19, undef], []⟩) (fun valA => by kernel_rfl) (fun valA v hB hF => ⟨?_⟩)
   ·exact Fh rfl rfl (.env rfl (by kernel_rfl)) rfl (by kernel_rfl)
   ·exact Fp rfl rfl (by kernel_rfl) (fun a v hB hE _ => ⟨Ja (flat [x5]).toArray, by
     have e : a.eval (.tmp 10) =Ja D :=hE 10 (by kernel_rfl);have e2 : a.eval (.tmp 11) =Ji Jl 5 :=hE 11 (by kernel_rfl);unfold execOp;show(do pure (Next.value (←T3 125 (a.eval (.tmp 10)) (a.eval (.tmp 11))))).run Tryz.prog v =_;rw[e, e2, Sem.run_bind, HX.out.2.2.2.2.2 v];rfl, r5.out v (Hb.out.trans (hB.mono Hb.out.size))⟩)
   ·exact Fb [Ji Jl 0, Jp Jn, Ji Jl 0, Jp Jn] 31 rfl rfl rfl (by kernel_rfl) (by kernel_rfl) (fun a w => by go_simp)
   ·exact E5 0 rfl rfl rfl rfl (by kernel_rfl)
   ·exact E9 2 1 rfl rfl rfl rfl rfl (by kernel_rfl) (by kernel_rfl)
   ·obtain⟨p7, e7, V7⟩ : (Fct.var [] m [q5]).P v (valA 7) :=hF 4 _ rfl;have e6 : valA 6 =Ji Jl 5 :=hF 3 _ rfl;clear hF;generalize valA 7 =t7 at *
    generalize valA 6 =t6 at *
    subst e7 e6;refine Last.nil (by kernel_rfl) ?_;have Hc1 :=Lh (Hc.out.keep hB);have Hz1 :=Lh (Hz.out.keep hB);have Hb1 :=Lh (Hb.out.trans (hB.mono Hb.out.size));replace V7 :=Lh (fun w' (hb : Below v.heap.size v w') => V7.keep hb);have G :=Lh (fun w' (hb : Below v.heap.size v w') => Hg.out.below (Hb1.out.trans (hb.mono Hb1.out.size)));clear hB Hc Hz Hb;go_upto_region 5 with fail
    refine E8 21 [(15, false, 0), (16, false, 0), (17, false, 0), (18, false, 0)] []
     [Fct.val (Ji Jl 5), Fct.num [] m [q5], Fct.val (Js s5), Fct.val (Jp (Jo ⟨w.heap.size + 1 + 1 + 1, 5, Jn⟩))]
     1 rfl (by kernel_rfl) rfl ⟨?_, ?_, ?_, ?_, trivial⟩
     (fun valB => ⟨#[Ja A, Ja B, Jp (Jo ⟨w.heap.size, 0, Jn⟩), Jp (Jo ⟨w.heap.size + 1, 0, Jn⟩), Jp (Jo ⟨w.heap.size + 1 + 1, 0, Jn⟩), Jp (Jo ⟨w.heap.size + 1 + 1 + 1, 0, Jn⟩), Ji Jl 5, Jp (Jo ⟨p7, 0, Jn⟩), t8, t9, Ja D, Ji Jl 5, .bool true, valA 13, valA 14, valB 15, valB 16, valB 17, valB 18, u19, undef], []⟩) (fun valB => by kernel_rfl) (fun valB v hB hF => ⟨?_⟩)
    ·exact Fh rfl rfl (.env rfl (by kernel_rfl)) rfl (by kernel_rfl)
    ·exact E7 V7.out (.env rfl (by kernel_rfl)) rfl rfl rfl (by kernel_rfl) (by kernel_rfl)
    ·exact EZ cf58 rfl rfl rfl rfl rfl (by kernel_rfl) (fun a v hB hE hD => FN (hD 1 _ (by kernel_rfl) rfl) Ee.out.2.2.2.2.2 (by have :=Hn.out;omega) (G.out v hB))
    ·exact FA rfl rfl (.env rfl (by kernel_rfl)) rfl (by kernel_rfl) (fun _ _ hE hD => Src.at_ (.dep 0 rfl (by kernel_rfl)) hE hD) (fun w => by go_simp)
    ·have hx : valB 17 =Js s5 :=hF 2 _ rfl;have hp : valB 18 =Jp (Jo ⟨w.heap.size + 1 + 1 + 1, 5, Jn⟩) :=hF 3 _ rfl;clear hF;generalize valB 17 =t17 at *
     generalize valB 18 =t18 at *
     subst hx hp;refine FQ (f :=5) (Hc1.out.keep hB) rfl rfl rfl rfl rfl rfl rfl rfl rfl (by kernel_rfl) (by kernel_rfl) (fun v2 hW hC => ?_);have HB :=Lh (hW.below (show w.heap.size <= w.heap.size + 1 + 1 + 1 by omega) (Hb1.out.trans (hB.mono Hb1.out.size)));have HZ :=Lh ((Hz1.out.keep hB).wr hW (show w.heap.size + 1 + 1 ≠ w.heap.size + 1 + 1 + 1 by omega));have HC :=Lh (show Jh v2 (w.heap.size + 1 + 1 + 1) (Dc s0 s1 s2 s3 s4 s5 6)from hC);clear hW hC hB Hc1 Hz1 Hb1 V7 G;go_wp2_with fail
     go_roundw;case rel => exact⟨6, 6, by decide, rfl, by go_num, HC.out, HZ.out, HB.out⟩
     case measure => simp[intOf]
  ·obtain rfl : z =6 :=hzk;have HV :=Lh (fun w' (hb : Below wr.heap.size wr w') => show Jh w' (w.heap.size + 1 + 1 + 1) [Js s0, Js s1, Js s2, Js s3, Js s4, Js s5]from Hc.out.keep hb);clear Hc;go_upto_region 7 with fail
   refine E8 21 [(20, false, 0)] [] [Fct.val (Ja [Js s0, Js s1, Js s2, Js s3, Js s4, Js s5].toArray)] 1 rfl (by kernel_rfl) rfl ⟨?_, trivial⟩
    (fun val => ⟨#[Ja A, Ja B, Jp (Jo ⟨w.heap.size, 0, Jn⟩), Jp (Jo ⟨w.heap.size + 1, 0, Jn⟩), Jp (Jo ⟨w.heap.size + 1 + 1, 0, Jn⟩), Jp (Jo ⟨w.heap.size + 1 + 1 + 1, 0, Jn⟩), u6, u7, t8, t9, Ja D, Ji Jl 6, .bool false, u13, u14, u15, u16, u17, u18, u19, val 20], []⟩) (fun val => by kernel_rfl) (fun val v hB hF => ⟨?_⟩)
   ·exact Fk 6 HV.out (.env rfl (by kernel_rfl)) rfl rfl rfl (by kernel_rfl) (by kernel_rfl) rfl (by kernel_rfl)
   ·have e : val 20 =Ja [Js s0, Js s1, Js s2, Js s3, Js s4, Js s5].toArray :=hF 0 _ rfl;clear hF;generalize val 20 =t20 at *
    subst e;have Hz2 :=Hz.out.keep hB;have W1 :=Hz2.wrote_ (vs := [Js s0, Js s1, Js s2, Js s3, Js s4, Js s5]) rfl rfl rfl;have C1 :=Lh (Hz2.stored (vs := [Js s0, Js s1, Js s2, Js s3, Js s4, Js s5]) rfl);have HBf :=Lh (W1.below (show w.heap.size <= w.heap.size + 1 + 1 by omega) (Hb.out.trans (hB.mono Hb.out.size)));refine FL (w.heap.size + 1 + 1) 0 6 [Js s0, Js s1, Js s2, Js s3, Js s4, Js s5] rfl (by kernel_rfl) rfl rfl rfl rfl rfl rfl (Hz2.there 6 (by show 6 <= 6;decide)) (by kernel_rfl) (fun v hv => Fo (List.all_eq_true.1 (show([Js s0, Js s1, Js s2, Js s3, Js s4, Js s5] : List Value).all plainW =true from rfl) v hv)) ?_;generalize World.setCells _ _ _ _ =v2 at *
    clear W1 Hz2 hB HV Hz Hb;go_wp2_with fail
    exact bodyPost_ret (FJ rfl rfl C1.out (by kernel_rfl)) rfl ⟨_, rfl, HBf.out, rfl⟩
set_option maxRecDepth 100000 in
set_option maxHeartbeats 16000000 in
theorem D7{x : Value}{q0 q1 q2 q3 q4 q5 : Rat}{k : Nat}{w : JW}{s0 s1 s2 s3 s4 s5 : ByteArray}(h : (Fct.num [] k [q0, q1, q2, q3, q4, q5]).P w x)(hn : decide (k <= 900) =true)(hg : Good w)(e0 : Qs q0 =s0)(e1 : Qs q1 =s1)(e2 : Qs q2 =s2)(e3 : Qs q3 =s3)(e4 : Qs q4 =s4)(e5 : Qs q5 =s5) :
  Calls Tryz.prog 19 #[x] w (Ret w (Fct.val (Ja #[Js s0, Js s1, Js s2, Js s3, Js s4, Js s5]))) :=by
 rw[decide_eq_true_eq]at hn;have hn2 : (decide (k <= 900) && decide (k <= 900)) =true :=by simp[hn]
 obtain⟨rs0, rfl, hr0, f0⟩ :=h;obtain⟨A0, hA0⟩ : ∃A, ([] ++ flat rs0).toArray =A :=⟨_, rfl⟩;have k0 :=(T6 w.heap.size w).alloc (T5 _) (Jc A0 37);have k1 :=k0.alloc (by simp) (Jc #[Value.string ⟨#[]⟩, Js ⟨#[]⟩, Js ⟨#[]⟩, Js ⟨#[]⟩, Js ⟨#[]⟩, Js ⟨#[]⟩] 24);have V0 :=Fi.box hA0.symm hr0 f0 37;have V1 :=Jh.new (w.alloc (Jc A0 37)) #[Value.string ⟨#[]⟩, Js ⟨#[]⟩, Js ⟨#[]⟩, Js ⟨#[]⟩, Js ⟨#[]⟩, Js ⟨#[]⟩] 24;have j1 :=(T6 (w.alloc (Jc A0 37)).heap.size (w.alloc (Jc A0 37))).alloc (T5 _) (Jc #[Value.string ⟨#[]⟩, Js ⟨#[]⟩, Js ⟨#[]⟩, Js ⟨#[]⟩, Js ⟨#[]⟩, Js ⟨#[]⟩] 24);replace V0 :=(V0.keep j1);simp only[World.size_alloc]at V0 V1;rw[hA0];obtain⟨W, hW⟩ : ∃W, (w.alloc (Jc A0 37)).alloc (Jc #[Value.string ⟨#[]⟩, Js ⟨#[]⟩, Js ⟨#[]⟩, Js ⟨#[]⟩, Js ⟨#[]⟩, Js ⟨#[]⟩] 24) =W :=⟨_, rfl⟩;rw[hW]at k1 V0 V1;replace V0 :=Lh (fun w' (hb : Below W.heap.size W w') => V0.keep hb);replace V1 :=Lh V1;have K :=Lh k1;have G :=Lh (fun w' (hb : Below W.heap.size W w') => hg.below (k1.trans (hb.mono k1.size)));clear hg hr0 f0 hA0 k0 k1 j1;go_enter Tryz.func19, Tryz.ntmps19;go_upto_region 1 with fail
 try simp only[hW]
 clear hW;refine E8 8 [(3, false, 0), (4, false, 0), (5, false, 0), (6, false, 0), (7, false, 0)] []
  [Fct.val (Jp (Jo ⟨w.heap.size, 0, Jn⟩)), Fct.num [] k [q0, q1, q2], Fct.val (Jp (Jo ⟨w.heap.size, 12, Jn⟩)), Fct.num [] k [q3, q4, q5], Fct.val (Ja #[Js s0, Js s1, Js s2, Js s3, Js s4, Js s5])]
  1 rfl (by kernel_rfl) rfl ⟨?_, ?_, ?_, ?_, ?_, trivial⟩
  (fun val => ⟨#[Ja A0, Jp (Jo ⟨w.heap.size, 0, Jn⟩), Jp (Jo ⟨w.heap.size + 1, 0, Jn⟩), val 3, val 4, val 5, val 6, val 7], []⟩) (fun val => by kernel_rfl) (fun val v hB hF => ⟨?_⟩)
 ·exact E4 rfl rfl (.env rfl (by kernel_rfl)) rfl (by kernel_rfl) (fun w => by go_simp)
 ·exact E6 0 3 V0.out (.dep 0 rfl (by kernel_rfl)) rfl rfl rfl (by kernel_rfl) (by kernel_rfl) (by kernel_rfl)
 ·exact E4 rfl rfl (.env rfl (by kernel_rfl)) rfl (by kernel_rfl) (fun w => by go_simp)
 ·exact E6 3 3 V0.out (.dep 2 rfl (by kernel_rfl)) rfl rfl rfl (by kernel_rfl) (by kernel_rfl) (by kernel_rfl)
 ·exact EZ cf63 rfl rfl rfl rfl rfl (by kernel_rfl) (fun a v hB hE hD => D3 (hD 1 _ (by kernel_rfl) rfl) (hD 3 _ (by kernel_rfl) rfl) hn2 (G.out v hB) e0 e1 e2 e3 e4 e5)
 ·have hx : val 7 =Ja #[Js s0, Js s1, Js s2, Js s3, Js s4, Js s5] :=hF 4 _ rfl;clear hF;generalize val 7 =t7 at *
  subst hx;have Hz2 :=V1.out.keep hB;have W1 :=Hz2.wrote_ (vs := [Js s0, Js s1, Js s2, Js s3, Js s4, Js s5]) rfl rfl rfl;have C1 :=Lh (Hz2.stored (vs := [Js s0, Js s1, Js s2, Js s3, Js s4, Js s5]) rfl);have HBf :=Lh (W1.below (show w.heap.size <= w.heap.size + 1 by omega) (K.out.trans (hB.mono K.out.size)));refine FL (w.heap.size + 1) 0 6 [Js s0, Js s1, Js s2, Js s3, Js s4, Js s5] rfl (by kernel_rfl) rfl rfl rfl rfl rfl rfl (Hz2.there 6 (by show 6 <= 6;decide)) (by kernel_rfl) (fun v hv => Fo (List.all_eq_true.1 (show([Js s0, Js s1, Js s2, Js s3, Js s4, Js s5] : List Value).all plainW =true from rfl) v hv)) ?_;generalize World.setCells _ _ _ _ =v2 at *
  clear W1 Hz2 hB V0 V1 K G;go_wp2_with fail
  exact bodyPost_ret (FJ rfl rfl C1.out (by kernel_rfl)) rfl ⟨_, rfl, HBf.out, rfl⟩
