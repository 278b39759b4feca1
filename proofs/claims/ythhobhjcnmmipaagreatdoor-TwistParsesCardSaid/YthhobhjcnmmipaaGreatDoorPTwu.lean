/- Texts of twists: parsing. -/
import Derived.Test.YthhobhjcnmmipaaGreatDoorPTwt
namespace Go.Proofs.YthhobhjcnmmipaaGreatDoor
open Go.Value renaming pointer→Jp,int→Ji,string→Js,agg→Ja,int→T3
open Go.IntKind renaming i64→Jl
open Go.Obj renaming cells→Jc
open _root_.Option renaming none→Jn,some→Jo
open _root_.Nat renaming le_refl→T4
open Go.RowKit.Below renaming refl→T5
open _root_.Bool renaming and_eq_true→T6
open Go.World renaming size_alloc→T7
open Go.RowKit
theorem cf62(args : Array Value)(w : World) : (callFunc 62 args).run Tryz.prog w = .ok (.enter 62 args) w :=by go_simp
section
variable {P : Program} {ops : Array Oper} {Q : Exit -> Act -> World -> Prop} {w0 : World} {a0 : Act} {L : Lay} {als : List Nat} {Fs : List Fct}
theorem Tg{i : Nat}{o : Oper}{s : Tmp}{n : Int}{k : Nat}{qs qs' : List Rat}(j : Nat)(ho : ops[i]? =Jo o)(hop : o.op = .extract (.tmp s) 0)(hj : Fs[j]? =Jo (Fct.sp n k qs qs'))(hg : Fg ops Fs L o i true)(hx : (!(L.own i || als.contains i) && L.slot j ==s && Qp .any ops i j) =true) : Has P ops Q w0 a0 L als Fs (Fct.num [] k qs) i :=by
 simp only[T6, Bool.not_eq_true', beq_iff_eq]at hx;refine Fp ho hg hx.1.1 fun a w hB hE hD => ?_;obtain⟨rs, rs', e, hr, hr', f, f'⟩ :=hD j _ hx.2 hj;rw[hx.1.2]at e;refine⟨Ja (flat rs).toArray, ?_, rs, rfl, hr, f⟩;have e : a.eval (.tmp s) =_ :=e;unfold execOp;rw[hop];dsimp only;rw[e];rfl
theorem Tf{i : Nat}{o : Oper}{s : Tmp}{n : Int}{k : Nat}{qs qs' : List Rat}(j : Nat)(ho : ops[i]? =Jo o)(hop : o.op = .extract (.tmp s) 1)(hj : Fs[j]? =Jo (Fct.sp n k qs qs'))(hg : Fg ops Fs L o i true)(hx : (!(L.own i || als.contains i) && L.slot j ==s && Qp .any ops i j) =true) : Has P ops Q w0 a0 L als Fs (Fct.num [] k qs') i :=by
 simp only[T6, Bool.not_eq_true', beq_iff_eq]at hx;refine Fp ho hg hx.1.1 fun a w hB hE hD => ?_;obtain⟨rs, rs', e, hr, hr', f, f'⟩ :=hD j _ hx.2 hj;rw[hx.1.2]at e;refine⟨Ja (flat rs').toArray, ?_, rs', rfl, hr', f'⟩;have e : a.eval (.tmp s) =_ :=e;unfold execOp;rw[hop];dsimp only;rw[e];rfl
theorem Te{i : Nat}{o : Oper}{s : Tmp}{n : Int}{k : Nat}{qs qs' : List Rat}(j : Nat)(ho : ops[i]? =Jo o)(hop : o.op = .extract (.tmp s) 2)(hj : Fs[j]? =Jo (Fct.sp n k qs qs'))(hg : Fg ops Fs L o i true)(hx : (!(L.own i || als.contains i) && L.slot j ==s && Qp .any ops i j) =true) : Has P ops Q w0 a0 L als Fs (Fct.val (Ji Jl n)) i :=by
 simp only[T6, Bool.not_eq_true', beq_iff_eq]at hx;refine Fp ho hg hx.1.1 fun a w hB hE hD => ?_;obtain⟨rs, rs', e, hr, hr', f, f'⟩ :=hD j _ hx.2 hj;rw[hx.1.2]at e;refine⟨Ji Jl n, ?_, rfl⟩;have e : a.eval (.tmp s) =_ :=e;unfold execOp;rw[hop];dsimp only;rw[e];rfl
end
set_option maxRecDepth 100000 in
set_option maxHeartbeats 16000000 in
theorem Tl{s0 s1 s2 s3 s4 s5 : ByteArray}{e0 e1 e2 e3 e4 e5 A B E : Int}{q0 q1 q2 q3 q4 q5 : Rat}{w : World}(h0 : Tq s0 e0 q0)(h1 : Tq s1 e1 q1)(h2 : Tq s2 e2 q2)(h3 : Tq s3 e3 q3)(h4 : Tq s4 e4 q4)(h5 : Tq s5 e5 q5)(hA : er3 e0 e1 e2 =A)(hB_ : er3 e3 e4 e5 =B)(hE_ : (if A ≠ 0 then A else B) =E)(hg : Good w) :
  Calls Tryz.prog 15 #[Ja #[Js s0, Js s1, Js s2, Js s3, Js s4, Js s5]] w (Ret w (Fct.made E 40 [nz E q0, nz E q1, nz E q2, nz E q3, nz E q4, nz E q5])) :=by
 have k0 :=(T5 w.heap.size w).alloc (T4 _) (Jc #[Js s0, Js s1, Js s2, Js s3, Js s4, Js s5] 24);have k1 :=k0.alloc (by simp) (Jc #[T3 Jl 0, Jp Jn, Ji Jl 0, Jp Jn, Ji Jl 0, Jp Jn, Ji Jl 0, Jp Jn, Ji Jl 0, Jp Jn, Ji Jl 0, Jp Jn, Ji Jl 0, Jp Jn, Ji Jl 0, Jp Jn, Ji Jl 0, Jp Jn, Ji Jl 0, Jp Jn, Ji Jl 0, Jp Jn, Ji Jl 0, Jp Jn] 37);have V0 :=Jh.new w #[Js s0, Js s1, Js s2, Js s3, Js s4, Js s5] 24;have V1 :=Jh.new (w.alloc (Jc #[Js s0, Js s1, Js s2, Js s3, Js s4, Js s5] 24)) #[T3 Jl 0, Jp Jn, Ji Jl 0, Jp Jn, Ji Jl 0, Jp Jn, Ji Jl 0, Jp Jn, Ji Jl 0, Jp Jn, Ji Jl 0, Jp Jn, Ji Jl 0, Jp Jn, Ji Jl 0, Jp Jn, Ji Jl 0, Jp Jn, Ji Jl 0, Jp Jn, Ji Jl 0, Jp Jn, Ji Jl 0, Jp Jn] 37;have j1 :=(T5 (w.alloc (Jc #[Js s0, Js s1, Js s2, Js s3, Js s4, Js s5] 24)).heap.size (w.alloc (Jc #[Js s0, Js s1, Js s2, Js s3, Js s4, Js s5] 24))).alloc (T4 _) (Jc #[T3 Jl 0, Jp Jn, Ji Jl 0, Jp Jn, Ji Jl 0, Jp Jn, Ji Jl 0, Jp Jn, Ji Jl 0, Jp Jn, Ji Jl 0, Jp Jn, Ji Jl 0, Jp Jn, Ji Jl 0, Jp Jn, Ji Jl 0, Jp Jn, Ji Jl 0, Jp Jn, Ji Jl 0, Jp Jn, Ji Jl 0, Jp Jn] 37);replace V0 :=(V0.keep j1);simp only[T7]at V0 V1;obtain⟨W, hW⟩ : ∃W, (w.alloc (Jc #[Js s0, Js s1, Js s2, Js s3, Js s4, Js s5] 24)).alloc (Jc #[T3 Jl 0, Jp Jn, Ji Jl 0, Jp Jn, Ji Jl 0, Jp Jn, Ji Jl 0, Jp Jn, Ji Jl 0, Jp Jn, Ji Jl 0, Jp Jn, Ji Jl 0, Jp Jn, Ji Jl 0, Jp Jn, Ji Jl 0, Jp Jn, Ji Jl 0, Jp Jn, Ji Jl 0, Jp Jn, Ji Jl 0, Jp Jn] 37) =W :=⟨_, rfl⟩;rw[hW]at k1 V0 V1;replace V0 :=Lh (fun w' (hb : Below W.heap.size W w') => (V0.keep hb));replace V1 :=Lh V1;have K :=Lh k1
 have G :=Lh (fun w' (hb : Below W.heap.size W w') => hg.below (k1.trans (hb.mono k1.size)));clear hg k0 k1 j1;go_enter Tryz.func15, Tryz.ntmps15;go_upto_region 1 with fail
 try simp only[hW]
 clear hW;refine E8 17 [(8, false, 0), (9, false, 0), (7, false, 0), (10, false, 0), (11, false, 0), (12, false, 0), (4, false, 0), (5, false, 0), (4, true, 6), (5, true, 7), (6, false, 0)] [6, 7]
  [Fct.val (Ja #[Js s0, Js s1, Js s2, Js s3, Js s4, Js s5]),
  Fct.sp E 40 [nz E q0, nz E q1, nz E q2] [nz E q3, nz E q4, nz E q5],
  Fct.sp E 40 [nz E q0, nz E q1, nz E q2] [nz E q3, nz E q4, nz E q5],
  Fct.num [] 40 [nz E q0, nz E q1, nz E q2],
  Fct.num [] 40 [nz E q3, nz E q4, nz E q5],
  Fct.val (Ji Jl E),
  Fct.ptr 12,
  Fct.ptr 12,
  Fct.var [] 40 [nz E q0, nz E q1, nz E q2],
  Fct.var [] 40 [nz E q3, nz E q4, nz E q5],
  Fct.val (Ji Jl E)]
  0 rfl (by kernel_rfl) rfl ⟨?_, ?_, ?_, ?_, ?_, ?_, ?_, ?_, ?_, ?_, ?_, trivial⟩
  (fun val0 => ⟨#[Ja #[Js s0, Js s1, Js s2, Js s3, Js s4, Js s5], Jp (Jo ⟨w.heap.size, 0, Jn⟩), Jp (Jo ⟨w.heap.size + 1, 0, Jn⟩), Ji Jl 0, val0 4, val0 5, val0 6, val0 7, val0 8, val0 9, val0 10, val0 11, val0 12, undef, undef, undef, undef], []⟩) (fun val0 => by kernel_rfl) (fun val0 W0 hB hF => ⟨?_⟩)
 ·exact Fk 6 V0.out (.env rfl (by kernel_rfl)) rfl rfl rfl (by kernel_rfl) (by kernel_rfl) rfl (by kernel_rfl)
 ·exact EZ cf62 rfl rfl rfl rfl rfl (by kernel_rfl) (fun a v hB hE hD => (show Calls _ _ #[Act.at_ a 8] v _ from by rw[show Act.at_ a 8 =_ from hD 0 _ (by kernel_rfl) rfl];exact R7 h0 h1 h2 h3 h4 h5 hA hB_ hE_ (G.out v hB)))
 ·exact E5 1 rfl rfl rfl rfl (by kernel_rfl)
 ·exact Tg 2 rfl rfl rfl rfl (by kernel_rfl)
 ·exact Tf 2 rfl rfl rfl rfl (by kernel_rfl)
 ·exact Te 2 rfl rfl rfl rfl (by kernel_rfl)
 ·exact Fb [Ji Jl 0, Jp Jn, Ji Jl 0, Jp Jn, Ji Jl 0, Jp Jn, Ji Jl 0, Jp Jn, Ji Jl 0, Jp Jn, Ji Jl 0, Jp Jn] 35 rfl rfl rfl (by kernel_rfl) (by kernel_rfl) (fun a w => by go_simp)
 ·exact Fb [Ji Jl 0, Jp Jn, Ji Jl 0, Jp Jn, Ji Jl 0, Jp Jn, Ji Jl 0, Jp Jn, Ji Jl 0, Jp Jn, Ji Jl 0, Jp Jn] 35 rfl rfl rfl (by kernel_rfl) (by kernel_rfl) (fun a w => by go_simp)
 ·exact E9 6 3 rfl rfl rfl rfl rfl (by kernel_rfl) (by kernel_rfl)
 ·exact E9 7 4 rfl rfl rfl rfl rfl (by kernel_rfl) (by kernel_rfl)
 ·exact E5 5 rfl rfl rfl rfl (by kernel_rfl)
 obtain⟨p4, e4, V4⟩ : (Fct.var [] 40 [nz E q0, nz E q1, nz E q2]).P W0 (val0 4) :=hF 8 _ rfl;obtain⟨p5, e5, V5⟩ : (Fct.var [] 40 [nz E q3, nz E q4, nz E q5]).P W0 (val0 5) :=hF 9 _ rfl;have e6 : val0 6 =Ji Jl E :=hF 10 _ rfl;clear hF;generalize val0 4 =t4 at *
 generalize val0 5 =t5 at *
 generalize val0 6 =t6 at *
 subst e4 e5 e6;replace V0 :=Lh (fun w' (hb : Below W0.heap.size W0 w') => V0.out w' (Jd hB hb));replace V1 :=Lh (V1.out.keep hB);replace V4 :=Lh (fun w' (hb : Below W0.heap.size W0 w') => V4.keep hb);replace V5 :=Lh (fun w' (hb : Below W0.heap.size W0 w') => V5.keep hb);replace K :=Lh (Jd K.out hB);replace G :=Lh (fun w' (hb : Below W0.heap.size W0 w') => G.out w' (Jd hB hb));clear hB;refine Last.nil (by kernel_rfl) ?_;go_upto_region 2 with fail
 refine LK 17 [(13, false, 0), (14, false, 0), (15, false, 0), (16, false, 0)] [] [Fct.num [] 40 [nz E q0, nz E q1, nz E q2], Fct.num [] 40 [nz E q3, nz E q4, nz E q5], Fct.num [] 40 [nz E q0, nz E q1, nz E q2, nz E q3, nz E q4, nz E q5], Fct.val (Ji Jl E)] 2 rfl (by kernel_rfl) rfl ⟨?_, ?_, ?_, ?_, trivial⟩
  (fun valE => ⟨#[Ja #[Js s0, Js s1, Js s2, Js s3, Js s4, Js s5], Jp (Jo ⟨w.heap.size, 0, Jn⟩), Jp (Jo ⟨w.heap.size + 1, 0, Jn⟩), Ji Jl 0, Jp (Jo ⟨p4, 0, Jn⟩), Jp (Jo ⟨p5, 0, Jn⟩), Ji Jl E, val0 7, val0 8, val0 9, val0 10, val0 11, val0 12, valE 13, valE 14, valE 15, valE 16], []⟩) (fun valE => by kernel_rfl) (fun valE WE hB hF => ⟨?_⟩)
 ·exact E7 V4.out (.env rfl (by kernel_rfl)) rfl rfl rfl (by kernel_rfl) (by kernel_rfl)
 ·exact E7 V5.out (.env rfl (by kernel_rfl)) rfl rfl rfl (by kernel_rfl) (by kernel_rfl)
 ·exact FD 0 1 rfl rfl rfl rfl rfl FH (by kernel_rfl) rfl (by kernel_rfl)
 ·exact Fh rfl rfl (.env rfl (by kernel_rfl)) rfl (by kernel_rfl)
 have hx : (Fct.num [] 40 [nz E q0, nz E q1, nz E q2, nz E q3, nz E q4, nz E q5]).P WE (valE 15) :=hF 2 _ rfl;have he : valE 16 =Ji Jl E :=hF 3 _ rfl;clear hF;generalize valE 13 =t13 at *
 generalize valE 14 =t14 at *
 generalize valE 15 =t15 at *
 generalize valE 16 =t16 at *
 subst he;obtain⟨cs, eu, hl, hp, ht, hW, hV⟩ :=RR (Room.of (V1.out.keep hB) rfl rfl) (n :=24) hx rfl;have Kf :=hW.below (show w.heap.size <= w.heap.size + 1 by omega) (K.out.trans (hB.mono K.out.size));refine Ng (m :=24) (w.heap.size + 1) 0 cs rfl rfl rfl rfl rfl eu hl ht (by kernel_rfl) hp ?_;refine Nd (u :=Ji Jl E) rfl rfl rfl (DW ?_);generalize World.setCells _ _ _ _ =WF at *
 clear hx eu ht hW hB V0 V1 V4 V5 K G;go_wp2_with fail
 exact NK (m :=24) hV Kf rfl rfl rfl (by kernel_rfl) (by kernel_rfl) rfl
set_option maxRecDepth 100000 in
set_option maxHeartbeats 16000000 in
theorem Th{s0 s1 s2 s3 s4 s5 : ByteArray}{e0 e1 e2 e3 e4 e5 A B E : Int}{q0 q1 q2 q3 q4 q5 : Rat}{w : World}(h0 : Tq s0 e0 q0)(h1 : Tq s1 e1 q1)(h2 : Tq s2 e2 q2)(h3 : Tq s3 e3 q3)(h4 : Tq s4 e4 q4)(h5 : Tq s5 e5 q5)(hA : er3 e0 e1 e2 =A)(hB_ : er3 e3 e4 e5 =B)(hE_ : (if A ≠ 0 then A else B) =E)(hg : Good w) :
  Calls Tryz.prog 16 #[Ja #[Js s0, Js s1, Js s2, Js s3, Js s4, Js s5]] w (Ret w (Fct.made E 40 [nz E q0, nz E q1, nz E q2, nz E q3, nz E q4, nz E q5])) :=by
 have k0 :=(T5 w.heap.size w).alloc (T4 _) (Jc #[Js s0, Js s1, Js s2, Js s3, Js s4, Js s5] 44);have k1 :=k0.alloc (by simp) (Jc #[T3 Jl 0, Jp Jn, Ji Jl 0, Jp Jn, Ji Jl 0, Jp Jn, Ji Jl 0, Jp Jn, Ji Jl 0, Jp Jn, Ji Jl 0, Jp Jn, Ji Jl 0, Jp Jn, Ji Jl 0, Jp Jn, Ji Jl 0, Jp Jn, Ji Jl 0, Jp Jn, Ji Jl 0, Jp Jn, Ji Jl 0, Jp Jn] 41);have V0 :=Jh.new w #[Js s0, Js s1, Js s2, Js s3, Js s4, Js s5] 44;have V1 :=Jh.new (w.alloc (Jc #[Js s0, Js s1, Js s2, Js s3, Js s4, Js s5] 44)) #[T3 Jl 0, Jp Jn, Ji Jl 0, Jp Jn, Ji Jl 0, Jp Jn, Ji Jl 0, Jp Jn, Ji Jl 0, Jp Jn, Ji Jl 0, Jp Jn, Ji Jl 0, Jp Jn, Ji Jl 0, Jp Jn, Ji Jl 0, Jp Jn, Ji Jl 0, Jp Jn, Ji Jl 0, Jp Jn, Ji Jl 0, Jp Jn] 41;have j1 :=(T5 (w.alloc (Jc #[Js s0, Js s1, Js s2, Js s3, Js s4, Js s5] 44)).heap.size (w.alloc (Jc #[Js s0, Js s1, Js s2, Js s3, Js s4, Js s5] 44))).alloc (T4 _) (Jc #[T3 Jl 0, Jp Jn, Ji Jl 0, Jp Jn, Ji Jl 0, Jp Jn, Ji Jl 0, Jp Jn, Ji Jl 0, Jp Jn, Ji Jl 0, Jp Jn, Ji Jl 0, Jp Jn, Ji Jl 0, Jp Jn, Ji Jl 0, Jp Jn, Ji Jl 0, Jp Jn, Ji Jl 0, Jp Jn, Ji Jl 0, Jp Jn] 41);replace V0 :=(V0.keep j1);simp only[T7]at V0 V1;obtain⟨W, hW⟩ : ∃W, (w.alloc (Jc #[Js s0, Js s1, Js s2, Js s3, Js s4, Js s5] 44)).alloc (Jc #[T3 Jl 0, Jp Jn, Ji Jl 0, Jp Jn, Ji Jl 0, Jp Jn, Ji Jl 0, Jp Jn, Ji Jl 0, Jp Jn, Ji Jl 0, Jp Jn, Ji Jl 0, Jp Jn, Ji Jl 0, Jp Jn, Ji Jl 0, Jp Jn, Ji Jl 0, Jp Jn, Ji Jl 0, Jp Jn, Ji Jl 0, Jp Jn] 41) =W :=⟨_, rfl⟩;rw[hW]at k1 V0 V1;replace V0 :=Lh (fun w' (hb : Below W.heap.size W w') => (V0.keep hb));replace V1 :=Lh V1;have K :=Lh k1
 have G :=Lh (fun w' (hb : Below W.heap.size W w') => hg.below (k1.trans (hb.mono k1.size)));clear hg k0 k1 j1;go_enter Tryz.func16, Tryz.ntmps16;go_upto_region 1 with fail
 try simp only[hW]
 clear hW;refine E8 17 [(8, false, 0), (9, false, 0), (7, false, 0), (10, false, 0), (11, false, 0), (12, false, 0), (4, false, 0), (5, false, 0), (4, true, 6), (5, true, 7), (6, false, 0)] [6, 7]
  [Fct.val (Ja #[Js s0, Js s1, Js s2, Js s3, Js s4, Js s5]),
  Fct.sp E 40 [nz E q0, nz E q1, nz E q2] [nz E q3, nz E q4, nz E q5],
  Fct.sp E 40 [nz E q0, nz E q1, nz E q2] [nz E q3, nz E q4, nz E q5],
  Fct.num [] 40 [nz E q0, nz E q1, nz E q2],
  Fct.num [] 40 [nz E q3, nz E q4, nz E q5],
  Fct.val (Ji Jl E),
  Fct.ptr 12,
  Fct.ptr 12,
  Fct.var [] 40 [nz E q0, nz E q1, nz E q2],
  Fct.var [] 40 [nz E q3, nz E q4, nz E q5],
  Fct.val (Ji Jl E)]
  0 rfl (by kernel_rfl) rfl ⟨?_, ?_, ?_, ?_, ?_, ?_, ?_, ?_, ?_, ?_, ?_, trivial⟩
  (fun val0 => ⟨#[Ja #[Js s0, Js s1, Js s2, Js s3, Js s4, Js s5], Jp (Jo ⟨w.heap.size, 0, Jn⟩), Jp (Jo ⟨w.heap.size + 1, 0, Jn⟩), Ji Jl 0, val0 4, val0 5, val0 6, val0 7, val0 8, val0 9, val0 10, val0 11, val0 12, undef, undef, undef, undef], []⟩) (fun val0 => by kernel_rfl) (fun val0 W0 hB hF => ⟨?_⟩)
 ·exact Fk 6 V0.out (.env rfl (by kernel_rfl)) rfl rfl rfl (by kernel_rfl) (by kernel_rfl) rfl (by kernel_rfl)
 ·exact EZ cf62 rfl rfl rfl rfl rfl (by kernel_rfl) (fun a v hB hE hD => (show Calls _ _ #[Act.at_ a 8] v _ from by rw[show Act.at_ a 8 =_ from hD 0 _ (by kernel_rfl) rfl];exact R7 h0 h1 h2 h3 h4 h5 hA hB_ hE_ (G.out v hB)))
 ·exact E5 1 rfl rfl rfl rfl (by kernel_rfl)
 ·exact Tg 2 rfl rfl rfl rfl (by kernel_rfl)
 ·exact Tf 2 rfl rfl rfl rfl (by kernel_rfl)
 ·exact Te 2 rfl rfl rfl rfl (by kernel_rfl)
 ·exact Fb [Ji Jl 0, Jp Jn, Ji Jl 0, Jp Jn, Ji Jl 0, Jp Jn, Ji Jl 0, Jp Jn, Ji Jl 0, Jp Jn, Ji Jl 0, Jp Jn] 35 rfl rfl rfl (by kernel_rfl) (by kernel_rfl) (fun a w => by go_simp)
 ·exact Fb [Ji Jl 0, Jp Jn, Ji Jl 0, Jp Jn, Ji Jl 0, Jp Jn, Ji Jl 0, Jp Jn, Ji Jl 0, Jp Jn, Ji Jl 0, Jp Jn] 35 rfl rfl rfl (by kernel_rfl) (by kernel_rfl) (fun a w => by go_simp)
 ·exact E9 6 3 rfl rfl rfl rfl rfl (by kernel_rfl) (by kernel_rfl)
 ·exact E9 7 4 rfl rfl rfl rfl rfl (by kernel_rfl) (by kernel_rfl)
 ·exact E5 5 rfl rfl rfl rfl (by kernel_rfl)
 obtain⟨p4, e4, V4⟩ : (Fct.var [] 40 [nz E q0, nz E q1, nz E q2]).P W0 (val0 4) :=hF 8 _ rfl;obtain⟨p5, e5, V5⟩ : (Fct.var [] 40 [nz E q3, nz E q4, nz E q5]).P W0 (val0 5) :=hF 9 _ rfl;have e6 : val0 6 =Ji Jl E :=hF 10 _ rfl;clear hF;generalize val0 4 =t4 at *
 generalize val0 5 =t5 at *
 generalize val0 6 =t6 at *
 subst e4 e5 e6;replace V0 :=Lh (fun w' (hb : Below W0.heap.size W0 w') => V0.out w' (Jd hB hb));replace V1 :=Lh (V1.out.keep hB);replace V4 :=Lh (fun w' (hb : Below W0.heap.size W0 w') => V4.keep hb);replace V5 :=Lh (fun w' (hb : Below W0.heap.size W0 w') => V5.keep hb);replace K :=Lh (Jd K.out hB);replace G :=Lh (fun w' (hb : Below W0.heap.size W0 w') => G.out w' (Jd hB hb));clear hB;refine Last.nil (by kernel_rfl) ?_;go_upto_region 2 with fail
 refine LK 17 [(13, false, 0), (14, false, 0), (15, false, 0), (16, false, 0)] [] [Fct.num [] 40 [nz E q0, nz E q1, nz E q2], Fct.num [] 40 [nz E q3, nz E q4, nz E q5], Fct.num [] 40 [nz E q0, nz E q1, nz E q2, nz E q3, nz E q4, nz E q5], Fct.val (Ji Jl E)] 2 rfl (by kernel_rfl) rfl ⟨?_, ?_, ?_, ?_, trivial⟩
  (fun valE => ⟨#[Ja #[Js s0, Js s1, Js s2, Js s3, Js s4, Js s5], Jp (Jo ⟨w.heap.size, 0, Jn⟩), Jp (Jo ⟨w.heap.size + 1, 0, Jn⟩), Ji Jl 0, Jp (Jo ⟨p4, 0, Jn⟩), Jp (Jo ⟨p5, 0, Jn⟩), Ji Jl E, val0 7, val0 8, val0 9, val0 10, val0 11, val0 12, valE 13, valE 14, valE 15, valE 16], []⟩) (fun valE => by kernel_rfl) (fun valE WE hB hF => ⟨?_⟩)
 ·exact E7 V4.out (.env rfl (by kernel_rfl)) rfl rfl rfl (by kernel_rfl) (by kernel_rfl)
 ·exact E7 V5.out (.env rfl (by kernel_rfl)) rfl rfl rfl (by kernel_rfl) (by kernel_rfl)
 ·exact FD 0 1 rfl rfl rfl rfl rfl Di (by kernel_rfl) rfl (by kernel_rfl)
 ·exact Fh rfl rfl (.env rfl (by kernel_rfl)) rfl (by kernel_rfl)
 have hx : (Fct.num [] 40 [nz E q0, nz E q1, nz E q2, nz E q3, nz E q4, nz E q5]).P WE (valE 15) :=hF 2 _ rfl;have he : valE 16 =Ji Jl E :=hF 3 _ rfl;clear hF;generalize valE 13 =t13 at *
 generalize valE 14 =t14 at *
 generalize valE 15 =t15 at *
 generalize valE 16 =t16 at *
 subst he;obtain⟨cs, eu, hl, hp, ht, hW, hV⟩ :=RR (Room.of (V1.out.keep hB) rfl rfl) (n :=24) hx rfl;have Kf :=hW.below (show w.heap.size <= w.heap.size + 1 by omega) (K.out.trans (hB.mono K.out.size));refine Ng (m :=24) (w.heap.size + 1) 0 cs rfl rfl rfl rfl rfl eu hl ht (by kernel_rfl) hp ?_;refine Nd (u :=Ji Jl E) rfl rfl rfl (DW ?_);generalize World.setCells _ _ _ _ =WF at *
 clear hx eu ht hW hB V0 V1 V4 V5 K G;go_wp2_with fail
 exact NK (m :=24) hV Kf rfl rfl rfl (by kernel_rfl) (by kernel_rfl) rfl
set_option maxRecDepth 100000 in
set_option maxHeartbeats 16000000 in
theorem R0{x : Value}{q0 q1 q2 q3 q4 q5 : Rat}{k : Nat}{w : World}{s0 s1 s2 s3 s4 s5 : ByteArray}(h : (Fct.num [] k [q0, q1, q2, q3, q4, q5]).P w x)(hn : decide (k <= 900) =true)(hg : Good w)(e0 : Qs q0 =s0)(e1 : Qs q1 =s1)(e2 : Qs q2 =s2)(e3 : Qs q3 =s3)(e4 : Qs q4 =s4)(e5 : Qs q5 =s5) :
  Calls Tryz.prog 20 #[x] w (Ret w (Fct.val (Ja #[Js s0, Js s1, Js s2, Js s3, Js s4, Js s5]))) :=by
 rw[decide_eq_true_eq]at hn;have hn2 : (decide (k <= 900) && decide (k <= 900)) =true :=by simp[hn]
 obtain⟨rs0, rfl, hr0, f0⟩ :=h;obtain⟨A0, hA0⟩ : ∃A, ([] ++ flat rs0).toArray =A :=⟨_, rfl⟩;have k0 :=(T5 w.heap.size w).alloc (T4 _) (Jc A0 41);have k1 :=k0.alloc (by simp) (Jc #[Value.string ⟨#[]⟩, Js ⟨#[]⟩, Js ⟨#[]⟩, Js ⟨#[]⟩, Js ⟨#[]⟩, Js ⟨#[]⟩] 44);have V0 :=Fi.box hA0.symm hr0 f0 41;have V1 :=Jh.new (w.alloc (Jc A0 41)) #[Value.string ⟨#[]⟩, Js ⟨#[]⟩, Js ⟨#[]⟩, Js ⟨#[]⟩, Js ⟨#[]⟩, Js ⟨#[]⟩] 44;have j1 :=(T5 (w.alloc (Jc A0 41)).heap.size (w.alloc (Jc A0 41))).alloc (T4 _) (Jc #[Value.string ⟨#[]⟩, Js ⟨#[]⟩, Js ⟨#[]⟩, Js ⟨#[]⟩, Js ⟨#[]⟩, Js ⟨#[]⟩] 44);replace V0 :=(V0.keep j1);simp only[T7]at V0 V1;rw[hA0];obtain⟨W, hW⟩ : ∃W, (w.alloc (Jc A0 41)).alloc (Jc #[Value.string ⟨#[]⟩, Js ⟨#[]⟩, Js ⟨#[]⟩, Js ⟨#[]⟩, Js ⟨#[]⟩, Js ⟨#[]⟩] 44) =W :=⟨_, rfl⟩;rw[hW]at k1 V0 V1;replace V0 :=Lh (fun w' (hb : Below W.heap.size W w') => V0.keep hb);replace V1 :=Lh V1;have K :=Lh k1;have G :=Lh (fun w' (hb : Below W.heap.size W w') => hg.below (k1.trans (hb.mono k1.size)));clear hg hr0 f0 hA0 k0 k1 j1;go_enter Tryz.func20, Tryz.ntmps20;go_upto_region 1 with fail
 try simp only[hW]
 clear hW;refine E8 8 [(3, false, 0), (4, false, 0), (5, false, 0), (6, false, 0), (7, false, 0)] []
  [Fct.val (Jp (Jo ⟨w.heap.size, 0, Jn⟩)), Fct.num [] k [q0, q1, q2], Fct.val (Jp (Jo ⟨w.heap.size, 12, Jn⟩)), Fct.num [] k [q3, q4, q5], Fct.val (Ja #[Js s0, Js s1, Js s2, Js s3, Js s4, Js s5])]
  1 rfl (by kernel_rfl) rfl ⟨?_, ?_, ?_, ?_, ?_, trivial⟩
  (fun val => ⟨#[Ja A0, Jp (Jo ⟨w.heap.size, 0, Jn⟩), Jp (Jo ⟨w.heap.size + 1, 0, Jn⟩), val 3, val 4, val 5, val 6, val 7], []⟩) (fun val => by kernel_rfl) (fun val v hB hF => ⟨?_⟩)
 ·exact E4 rfl rfl (.env rfl (by kernel_rfl)) rfl (by kernel_rfl) (fun w => by go_simp)
 ·exact E6 0 3 V0.out (.dep 0 rfl (by kernel_rfl)) rfl rfl rfl (by kernel_rfl) (by kernel_rfl) (by kernel_rfl)
 ·exact E4 rfl rfl (.env rfl (by kernel_rfl)) rfl (by kernel_rfl) (fun w => by go_simp)
 ·exact E6 3 3 V0.out (.dep 2 rfl (by kernel_rfl)) rfl rfl rfl (by kernel_rfl) (by kernel_rfl) (by kernel_rfl)
 ·exact EZ cf63 rfl rfl rfl rfl rfl (by kernel_rfl) (fun a v hB hE hD => D3 (hD 1 _ (by kernel_rfl) rfl) (hD 3 _ (by kernel_rfl) rfl) hn2 (G.out v hB) e0 e1 e2 e3 e4 e5)
 ·have hx : val 7 =Ja #[Js s0, Js s1, Js s2, Js s3, Js s4, Js s5] :=hF 4 _ rfl;clear hF;generalize val 7 =t7 at *
  subst hx;have Hz2 :=V1.out.keep hB;have W1 :=Hz2.wrote_ (vs := [Js s0, Js s1, Js s2, Js s3, Js s4, Js s5]) rfl rfl rfl;have C1 :=Lh (Hz2.stored (vs := [Js s0, Js s1, Js s2, Js s3, Js s4, Js s5]) rfl);have HBf :=Lh (W1.below (show w.heap.size <= w.heap.size + 1 by omega) (K.out.trans (hB.mono K.out.size)));refine FL (w.heap.size + 1) 0 6 [Js s0, Js s1, Js s2, Js s3, Js s4, Js s5] rfl (by kernel_rfl) rfl rfl rfl rfl rfl rfl (Hz2.there 6 (by show 6 <= 6;decide)) (by kernel_rfl) (fun v hv => Fo (List.all_eq_true.1 (show([Js s0, Js s1, Js s2, Js s3, Js s4, Js s5] : List Value).all plainW =true from rfl) v hv)) ?_;generalize World.setCells _ _ _ _ =v2 at *
  clear W1 Hz2 hB V0 V1 K G;go_wp2_with fail
  exact bodyPost_ret (FJ rfl rfl C1.out (by kernel_rfl)) rfl ⟨_, rfl, HBf.out, rfl⟩
theorem R8(s0 s1 s2 s3 s4 s5 : ByteArray)(w : World) : (Op.equalIn 10000 44 (Ja #[Js s0, Js s1, Js s2, Js s3, Js s4, Js s5]) (Ja #[Js s0, Js s1, Js s2, Js s3, Js s4, Js s5])).run Tryz.prog w = .ok true w :=by
 have u3 :=Tryz.underlying22;have a3 :=Tryz.isAgg22;have z3 :=Tryz.sizeOf22;rw[show(10000 : Nat) =9999 + 1 from rfl, Op.equalIn];simp only[Sem.run_bind, run_underlying Tryz.underlying44, Result.andThen_ok];simp only[Std.Legacy.Range.forIn_eq_forIn_range', Std.Legacy.Range.size, Nat.sub_zero, Nat.add_sub_cancel, Nat.div_one, List.range'_succ, List.range'_zero, List.forIn_cons, List.forIn_nil];go_simp
