/- Twists. -/
import Derived.Test.YthhobhjcnmmipaaGreatDoorPTwf
namespace Go.Proofs.YthhobhjcnmmipaaGreatDoor
open Go.Value renaming pointer→Jp,int→Ji,string→Js,agg→Ja
open Go.IntKind renaming i64→Jl
open _root_.Option renaming none→Jn
open Go renaming World→JW
open Go.RowKit
theorem cf53(args : Array Value)(w : JW) : (callFunc 53 args).run Tryz.prog w = .ok (.enter 53 args) w :=by go_simp
theorem cf19(args : Array Value)(w : JW) : (callFunc 19 args).run Tryz.prog w = .ok (.enter 19 args) w :=by go_simp
theorem cf60(args : Array Value)(w : JW) : (callFunc 60 args).run Tryz.prog w = .ok (.enter 60 args) w :=by go_simp
theorem Ld(s0 s1 s2 s3 s4 s5 : ByteArray)(w : JW) : (Op.equalIn 10000 24 (Ja #[Js s0, Js s1, Js s2, Js s3, Js s4, Js s5]) (Ja #[Js s0, Js s1, Js s2, Js s3, Js s4, Js s5])).run Tryz.prog w = .ok true w :=by
 have u3 :=Tryz.underlying22;have a3 :=Tryz.isAgg22;have z3 :=Tryz.sizeOf22;rw[show(10000 : Nat) =9999 + 1 from rfl, Op.equalIn];simp only[Sem.run_bind, run_underlying Tryz.underlying24, Result.andThen_ok];simp only[Std.Legacy.Range.forIn_eq_forIn_range', Std.Legacy.Range.size, Nat.sub_zero, Nat.add_sub_cancel, Nat.div_one, List.range'_succ, List.range'_zero, List.forIn_cons, List.forIn_nil];go_simp
theorem Dk(s0 s1 s2 : ByteArray)(w : JW) : (Op.equalIn 10000 111 (Ja #[Js s0, Js s1, Js s2]) (Ja #[Js s0, Js s1, Js s2])).run Tryz.prog w = .ok true w :=by
 have u3 :=Tryz.underlying22;have a3 :=Tryz.isAgg22;have z3 :=Tryz.sizeOf22;rw[show(10000 : Nat) =9999 + 1 from rfl, Op.equalIn];simp only[Sem.run_bind, run_underlying Tryz.underlying111, Result.andThen_ok];simp only[Std.Legacy.Range.forIn_eq_forIn_range', Std.Legacy.Range.size, Nat.sub_zero, Nat.add_sub_cancel, Nat.div_one, List.range'_succ, List.range'_zero, List.forIn_cons, List.forIn_nil];go_simp
theorem DA{x : Value}{q0 q1 q2 : Rat}{k : Nat}{w : JW}{s0 s1 s2 : ByteArray}(h : (Fct.num [] k [q0, q1, q2]).P w x)(hn : decide (k <= 900) =true)(hg : Good w)(e0 : Qs q0 =s0)(e1 : Qs q1 =s1)(e2 : Qs q2 =s2) : Calls Tryz.prog 60 #[x] w (Ret w (Fct.val (Ja #[Js s0, Js s1, Js s2]))) :=by
 rw[decide_eq_true_eq]at hn;obtain⟨x0, x1, x2, rfl, hx, f⟩ :=V3 h;have b : ∀ {q : Rat}, Few q k -> q.num.natAbs < ten 3000 /\ q.den < ten 3000 :=fun h => ⟨Nat.lt_of_lt_of_le h.n (QB (by omega)), Nat.lt_of_lt_of_le h.d (QB (by omega))⟩;exact(KG x0 x1 x2 s0 s1 s2 w ⟨q0, hx.x, e0, (b f.x).1, (b f.x).2⟩ ⟨q1, hx.y, e1, (b f.y).1, (b f.y).2⟩ ⟨q2, hx.z, e2, (b f.z).1, (b f.z).2⟩ hg).mono (fun e v h => ⟨_, h.1, h.2, rfl⟩)
set_option maxRecDepth 100000 in
set_option maxHeartbeats 16000000 in
theorem FG{w : JW}(hg : Good w) : Calls Tryz.prog 13 #[] w (Ret w (Fct.val (.bool true))) :=by
 obtain⟨W, hW⟩ : ∃W, w =W :=⟨_, rfl⟩;have K :=Lh (hW ▸ Below.refl w.heap.size w : Below w.heap.size w W);have G :=Lh (fun w' (hb : Below W.heap.size W w') => (hW ▸ hg : Good W).below hb);clear hg;go_enter Tryz.func13, Tryz.ntmps13;go_upto_region 1 with fail
 try simp only[hW]
 clear hW;refine E8 52 [(3, false, 0), (4, false, 0), (5, false, 0), (6, false, 0), (7, false, 0), (1, false, 0), (1, true, 5)] [5]
  [Fct.val (Ja #[Ji Jl 0, Ji Jl 0, Ji Jl 1]),
  Fct.num [] 13 [((0 : Int) : Rat), ((0 : Int) : Rat), ((1 : Int) : Rat)],
  Fct.val (Ja #[Ji Jl 1, Ji Jl 0, Ji Jl 0]),
  Fct.num [] 13 [((1 : Int) : Rat), ((0 : Int) : Rat), ((0 : Int) : Rat)],
  Fct.num [] 53 [((0 : Int) : Rat), ((0 : Int) : Rat), ((1 : Int) : Rat), ((0 : Int) : Rat) * ((1 : Int) : Rat)-((0 : Int) : Rat) * ((0 : Int) : Rat), ((0 : Int) : Rat) * ((0 : Int) : Rat)-((1 : Int) : Rat) * ((1 : Int) : Rat), ((1 : Int) : Rat) * ((0 : Int) : Rat)-((0 : Int) : Rat) * ((0 : Int) : Rat)],
  Fct.ptr 24,
  Fct.var [] 53 [((0 : Int) : Rat), ((0 : Int) : Rat), ((1 : Int) : Rat), ((0 : Int) : Rat) * ((1 : Int) : Rat) - ((0 : Int) : Rat) * ((0 : Int) : Rat), ((0 : Int) : Rat) * ((0 : Int) : Rat) - ((1 : Int) : Rat) * ((1 : Int) : Rat), ((1 : Int) : Rat) * ((0 : Int) : Rat) - ((0 : Int) : Rat) * ((0 : Int) : Rat)]]
  0 rfl (by kernel_rfl) rfl ⟨?_, ?_, ?_, ?_, ?_, ?_, ?_, trivial⟩
  (fun val0 => ⟨#[.bool false, val0 1, undef, val0 3, val0 4, val0 5, val0 6, val0 7, undef, undef, undef, undef, undef, undef, undef, undef, undef, undef, undef, undef, undef, undef, undef, undef, undef, undef, undef, undef, undef, undef, undef, undef, undef, undef, undef, undef, undef, undef, undef, undef, undef, undef, undef, undef, undef, undef, undef, undef, undef, undef, undef, undef], []⟩) (fun val0 => by kernel_rfl) (fun val0 W0 hB hF => ⟨?_⟩)
 ·exact Fl (parts := [(0, .const (Ji Jl 0)), (1, .const (Ji Jl 0)), (2, .const (Ji Jl 1))]) rfl rfl rfl (by kernel_rfl) (fun a w hB hE hD => ⟨#[Ji Jl 0, Ji Jl 0, Ji Jl 1], by kernel_rfl, rfl⟩)
 ·exact EZ cf59 rfl rfl rfl rfl rfl (by kernel_rfl) (fun a v hB hE hD => (show Calls _ _ #[Act.at_ a 3] v _ from by rw[show Act.at_ a 3 =_ from hD 0 _ (by kernel_rfl) rfl];exact DF ⟨by decide, by decide⟩ ⟨by decide, by decide⟩ ⟨by decide, by decide⟩ ⟨Fq (by decide) (by decide), Fq (by decide) (by decide), Fq (by decide) (by decide)⟩))
 ·exact Fl (parts := [(0, .const (Ji Jl 1)), (1, .const (Ji Jl 0)), (2, .const (Ji Jl 0))]) rfl rfl rfl (by kernel_rfl) (fun a w hB hE hD => ⟨#[Ji Jl 1, Ji Jl 0, Ji Jl 0], by kernel_rfl, rfl⟩)
 ·exact EZ cf59 rfl rfl rfl rfl rfl (by kernel_rfl) (fun a v hB hE hD => (show Calls _ _ #[Act.at_ a 5] v _ from by rw[show Act.at_ a 5 =_ from hD 2 _ (by kernel_rfl) rfl];exact DF ⟨by decide, by decide⟩ ⟨by decide, by decide⟩ ⟨by decide, by decide⟩ ⟨Fq (by decide) (by decide), Fq (by decide) (by decide), Fq (by decide) (by decide)⟩))
 ·exact EZ cf53 rfl rfl rfl rfl rfl (by kernel_rfl) (fun a v hB hE hD => Lv (hD 1 _ (by kernel_rfl) rfl) (hD 3 _ (by kernel_rfl) rfl) (by decide) (G.out v hB))
 ·exact Fb [Ji Jl 0, Jp Jn, Ji Jl 0, Jp Jn, Ji Jl 0, Jp Jn, Ji Jl 0, Jp Jn, Ji Jl 0, Jp Jn, Ji Jl 0, Jp Jn, Ji Jl 0, Jp Jn, Ji Jl 0, Jp Jn, Ji Jl 0, Jp Jn, Ji Jl 0, Jp Jn, Ji Jl 0, Jp Jn, Ji Jl 0, Jp Jn] 37 rfl rfl rfl (by kernel_rfl) (by kernel_rfl) (fun a w => by go_simp)
 ·exact E9 5 4 rfl rfl rfl rfl rfl (by kernel_rfl) (by kernel_rfl)
 obtain⟨p1, e1, V1⟩ : (Fct.var [] 53 [((0 : Int) : Rat), ((0 : Int) : Rat), ((1 : Int) : Rat), ((0 : Int) : Rat) * ((1 : Int) : Rat)-((0 : Int) : Rat) * ((0 : Int) : Rat), ((0 : Int) : Rat) * ((0 : Int) : Rat)-((1 : Int) : Rat) * ((1 : Int) : Rat), ((1 : Int) : Rat) * ((0 : Int) : Rat)-((0 : Int) : Rat) * ((0 : Int) : Rat)]).P W0 (val0 1) :=hF 6 _ rfl;clear hF;generalize val0 1 =t1 at *
 subst e1;replace V1 :=Lh (fun w' (hb : Below W0.heap.size W0 w') => V1.keep hb);replace K :=Lh (Jd K.out hB);replace G :=Lh (fun w' (hb : Below W0.heap.size W0 w') => G.out w' (Jd hB hb));clear hB;refine Last.nil (by kernel_rfl) ?_;go_upto_region 2 with fail
 refine E8 52 [(8, false, 0), (9, false, 0), (10, false, 0), (11, false, 0), (12, false, 0), (13, false, 0), (2, false, 0), (2, true, 6)] [6]
  [Fct.val (Ja #[Ji Jl 0, Ji Jl 0, Ji Jl 2]),
  Fct.num [] 13 [((0 : Int) : Rat), ((0 : Int) : Rat), ((2 : Int) : Rat)],
  Fct.val (Ja #[Ji Jl 0, Ji Jl (-2), Ji Jl 4]),
  Fct.num [] 13 [((0 : Int) : Rat), ((-2 : Int) : Rat), ((4 : Int) : Rat)],
  Fct.num [] 13 [((0 : Int) : Rat), ((0 : Int) : Rat), ((2 : Int) : Rat), ((0 : Int) : Rat), ((-2 : Int) : Rat), ((4 : Int) : Rat)],
  Fct.num [Ji Jl 3] 161 [pF ((0 : Int) : Rat) ((0 : Int) : Rat) ((2 : Int) : Rat) * ((0 : Int) : Rat), pF ((0 : Int) : Rat) ((0 : Int) : Rat) ((2 : Int) : Rat) * ((0 : Int) : Rat), pF ((0 : Int) : Rat) ((0 : Int) : Rat) ((2 : Int) : Rat) * ((2 : Int) : Rat), (((1 : Int) : Rat)/(((0 : Int) : Rat) * ((0 : Int) : Rat) + ((0 : Int) : Rat) * ((0 : Int) : Rat) + ((2 : Int) : Rat) * ((2 : Int) : Rat))) * (((0 : Int) : Rat) * ((4 : Int) : Rat)-((2 : Int) : Rat) * ((-2 : Int) : Rat)), (((1 : Int) : Rat)/(((0 : Int) : Rat) * ((0 : Int) : Rat) + ((0 : Int) : Rat) * ((0 : Int) : Rat) + ((2 : Int) : Rat) * ((2 : Int) : Rat))) * (((2 : Int) : Rat) * ((0 : Int) : Rat)-((0 : Int) : Rat) * ((4 : Int) : Rat)), (((1 : Int) : Rat)/(((0 : Int) : Rat) * ((0 : Int) : Rat) + ((0 : Int) : Rat) * ((0 : Int) : Rat) + ((2 : Int) : Rat) * ((2 : Int) : Rat))) * (((0 : Int) : Rat) * ((-2 : Int) : Rat)-((0 : Int) : Rat) * ((0 : Int) : Rat)), (((0 : Int) : Rat) * ((0 : Int) : Rat) + ((0 : Int) : Rat) * ((-2 : Int) : Rat) + ((2 : Int) : Rat) * ((4 : Int) : Rat)) * (((1 : Int) : Rat)/(((0 : Int) : Rat) * ((0 : Int) : Rat) + ((0 : Int) : Rat) * ((0 : Int) : Rat) + ((2 : Int) : Rat) * ((2 : Int) : Rat)))],
  Fct.ptr 29,
  Fct.var [Ji Jl 3] 161 [pF ((0 : Int) : Rat) ((0 : Int) : Rat) ((2 : Int) : Rat) * ((0 : Int) : Rat), pF ((0 : Int) : Rat) ((0 : Int) : Rat) ((2 : Int) : Rat) * ((0 : Int) : Rat), pF ((0 : Int) : Rat) ((0 : Int) : Rat) ((2 : Int) : Rat) * ((2 : Int) : Rat), (((1 : Int) : Rat) / (((0 : Int) : Rat) * ((0 : Int) : Rat) + ((0 : Int) : Rat) * ((0 : Int) : Rat) + ((2 : Int) : Rat) * ((2 : Int) : Rat))) * (((0 : Int) : Rat) * ((4 : Int) : Rat) - ((2 : Int) : Rat) * ((-2 : Int) : Rat)), (((1 : Int) : Rat) / (((0 : Int) : Rat) * ((0 : Int) : Rat) + ((0 : Int) : Rat) * ((0 : Int) : Rat) + ((2 : Int) : Rat) * ((2 : Int) : Rat))) * (((2 : Int) : Rat) * ((0 : Int) : Rat) - ((0 : Int) : Rat) * ((4 : Int) : Rat)), (((1 : Int) : Rat) / (((0 : Int) : Rat) * ((0 : Int) : Rat) + ((0 : Int) : Rat) * ((0 : Int) : Rat) + ((2 : Int) : Rat) * ((2 : Int) : Rat))) * (((0 : Int) : Rat) * ((-2 : Int) : Rat) - ((0 : Int) : Rat) * ((0 : Int) : Rat)), (((0 : Int) : Rat) * ((0 : Int) : Rat) + ((0 : Int) : Rat) * ((-2 : Int) : Rat) + ((2 : Int) : Rat) * ((4 : Int) : Rat)) * (((1 : Int) : Rat) / (((0 : Int) : Rat) * ((0 : Int) : Rat) + ((0 : Int) : Rat) * ((0 : Int) : Rat) + ((2 : Int) : Rat) * ((2 : Int) : Rat)))]]
  0 rfl (by kernel_rfl) rfl ⟨?_, ?_, ?_, ?_, ?_, ?_, ?_, ?_, trivial⟩
  (fun val1 => ⟨#[.bool false, Jp (some ⟨p1, 0, Jn⟩), val1 2, val0 3, val0 4, val0 5, val0 6, val0 7, val1 8, val1 9, val1 10, val1 11, val1 12, val1 13, undef, undef, undef, undef, undef, undef, undef, undef, undef, undef, undef, undef, undef, undef, undef, undef, undef, undef, undef, undef, undef, undef, undef, undef, undef, undef, undef, undef, undef, undef, undef, undef, undef, undef, undef, undef, undef, undef], []⟩) (fun val1 => by kernel_rfl) (fun val1 W1 hB hF => ⟨?_⟩)
 ·exact Fl (parts := [(0, .const (Ji Jl 0)), (1, .const (Ji Jl 0)), (2, .const (Ji Jl 2))]) rfl rfl rfl (by kernel_rfl) (fun a w hB hE hD => ⟨#[Ji Jl 0, Ji Jl 0, Ji Jl 2], by kernel_rfl, rfl⟩)
 ·exact EZ cf59 rfl rfl rfl rfl rfl (by kernel_rfl) (fun a v hB hE hD => (show Calls _ _ #[Act.at_ a 8] v _ from by rw[show Act.at_ a 8 =_ from hD 0 _ (by kernel_rfl) rfl];exact DF ⟨by decide, by decide⟩ ⟨by decide, by decide⟩ ⟨by decide, by decide⟩ ⟨Fq (by decide) (by decide), Fq (by decide) (by decide), Fq (by decide) (by decide)⟩))
 ·exact Fl (parts := [(0, .const (Ji Jl 0)), (1, .const (Ji Jl (-2))), (2, .const (Ji Jl 4))]) rfl rfl rfl (by kernel_rfl) (fun a w hB hE hD => ⟨#[Ji Jl 0, Ji Jl (-2), Ji Jl 4], by kernel_rfl, rfl⟩)
 ·exact EZ cf59 rfl rfl rfl rfl rfl (by kernel_rfl) (fun a v hB hE hD => (show Calls _ _ #[Act.at_ a 10] v _ from by rw[show Act.at_ a 10 =_ from hD 2 _ (by kernel_rfl) rfl];exact DF ⟨by decide, by decide⟩ ⟨by decide, by decide⟩ ⟨by decide, by decide⟩ ⟨Fq (by decide) (by decide), Fq (by decide) (by decide), Fq (by decide) (by decide)⟩))
 ·exact FD 1 3 rfl rfl rfl rfl rfl FH (by kernel_rfl) rfl (by kernel_rfl)
 ·exact EZ cf47 rfl rfl rfl rfl rfl (by kernel_rfl) (fun a v hB hE hD => DY (σ :=1) (hD 4 _ (by kernel_rfl) rfl) (by decide +kernel) (by decide +kernel) (by decide) (by decide) (G.out v hB))
 ·exact Fb [Ji Jl 0, Ji Jl 0, Jp Jn, Ji Jl 0, Jp Jn, Ji Jl 0, Jp Jn, Ji Jl 0, Jp Jn, Ji Jl 0, Jp Jn, Ji Jl 0, Jp Jn, Ji Jl 0, Jp Jn, Ji Jl 0, Jp Jn, Ji Jl 0, Jp Jn, Ji Jl 0, Jp Jn, Ji Jl 0, Jp Jn, Ji Jl 0, Jp Jn, Ji Jl 0, Jp Jn, Ji Jl 0, Jp Jn] 90 rfl rfl rfl (by kernel_rfl) (by kernel_rfl) (fun a w => by go_simp)
 ·exact E9 6 5 rfl rfl rfl rfl rfl (by kernel_rfl) (by kernel_rfl)
 obtain⟨p2, e2, V2⟩ : (Fct.var [Ji Jl 3] 161 [pF ((0 : Int) : Rat) ((0 : Int) : Rat) ((2 : Int) : Rat) * ((0 : Int) : Rat), pF ((0 : Int) : Rat) ((0 : Int) : Rat) ((2 : Int) : Rat) * ((0 : Int) : Rat), pF ((0 : Int) : Rat) ((0 : Int) : Rat) ((2 : Int) : Rat) * ((2 : Int) : Rat), (((1 : Int) : Rat)/(((0 : Int) : Rat) * ((0 : Int) : Rat) + ((0 : Int) : Rat) * ((0 : Int) : Rat) + ((2 : Int) : Rat) * ((2 : Int) : Rat))) * (((0 : Int) : Rat) * ((4 : Int) : Rat)-((2 : Int) : Rat) * ((-2 : Int) : Rat)), (((1 : Int) : Rat)/(((0 : Int) : Rat) * ((0 : Int) : Rat) + ((0 : Int) : Rat) * ((0 : Int) : Rat) + ((2 : Int) : Rat) * ((2 : Int) : Rat))) * (((2 : Int) : Rat) * ((0 : Int) : Rat)-((0 : Int) : Rat) * ((4 : Int) : Rat)), (((1 : Int) : Rat)/(((0 : Int) : Rat) * ((0 : Int) : Rat) + ((0 : Int) : Rat) * ((0 : Int) : Rat) + ((2 : Int) : Rat) * ((2 : Int) : Rat))) * (((0 : Int) : Rat) * ((-2 : Int) : Rat)-((0 : Int) : Rat) * ((0 : Int) : Rat)), (((0 : Int) : Rat) * ((0 : Int) : Rat) + ((0 : Int) : Rat) * ((-2 : Int) : Rat) + ((2 : Int) : Rat) * ((4 : Int) : Rat)) * (((1 : Int) : Rat)/(((0 : Int) : Rat) * ((0 : Int) : Rat) + ((0 : Int) : Rat) * ((0 : Int) : Rat) + ((2 : Int) : Rat) * ((2 : Int) : Rat)))]).P W1 (val1 2) :=hF 7 _ rfl;clear hF;generalize val1 2 =t2 at *
 subst e2;replace V1 :=Lh (fun w' (hb : Below W1.heap.size W1 w') => V1.out w' (Jd hB hb));replace V2 :=Lh (fun w' (hb : Below W1.heap.size W1 w') => V2.keep hb);replace K :=Lh (Jd K.out hB);replace G :=Lh (fun w' (hb : Below W1.heap.size W1 w') => G.out w' (Jd hB hb));clear hB;refine Last.nil (by kernel_rfl) ?_;have ex : ([pF ((0 : Int) : Rat) ((0 : Int) : Rat) ((2 : Int) : Rat) * ((0 : Int) : Rat), pF ((0 : Int) : Rat) ((0 : Int) : Rat) ((2 : Int) : Rat) * ((0 : Int) : Rat), pF ((0 : Int) : Rat) ((0 : Int) : Rat) ((2 : Int) : Rat) * ((2 : Int) : Rat), (((1 : Int) : Rat)/(((0 : Int) : Rat) * ((0 : Int) : Rat) + ((0 : Int) : Rat) * ((0 : Int) : Rat) + ((2 : Int) : Rat) * ((2 : Int) : Rat))) * (((0 : Int) : Rat) * ((4 : Int) : Rat)-((2 : Int) : Rat) * ((-2 : Int) : Rat)), (((1 : Int) : Rat)/(((0 : Int) : Rat) * ((0 : Int) : Rat) + ((0 : Int) : Rat) * ((0 : Int) : Rat) + ((2 : Int) : Rat) * ((2 : Int) : Rat))) * (((2 : Int) : Rat) * ((0 : Int) : Rat)-((0 : Int) : Rat) * ((4 : Int) : Rat)), (((1 : Int) : Rat)/(((0 : Int) : Rat) * ((0 : Int) : Rat) + ((0 : Int) : Rat) * ((0 : Int) : Rat) + ((2 : Int) : Rat) * ((2 : Int) : Rat))) * (((0 : Int) : Rat) * ((-2 : Int) : Rat)-((0 : Int) : Rat) * ((0 : Int) : Rat)), (((0 : Int) : Rat) * ((0 : Int) : Rat) + ((0 : Int) : Rat) * ((-2 : Int) : Rat) + ((2 : Int) : Rat) * ((4 : Int) : Rat)) * (((1 : Int) : Rat)/(((0 : Int) : Rat) * ((0 : Int) : Rat) + ((0 : Int) : Rat) * ((0 : Int) : Rat) + ((2 : Int) : Rat) * ((2 : Int) : Rat)))] : List Rat) = [0, 0, 1, 1, 0, 0, 2] :=by decide +kernel
 rw[ex]at V2;clear ex;go_upto_region 3 with fail
 refine Fy 52 [(14, false, 0), (15, false, 0), (16, false, 0), (17, false, 0), (18, false, 0), (19, false, 0), (20, false, 0), (21, false, 0), (22, false, 0), (23, false, 0), (24, false, 0), (25, false, 0), (26, false, 0), (27, false, 0), (28, false, 0), (29, false, 0), (30, false, 0), (31, false, 0), (32, false, 0), (33, false, 0), (34, false, 0), (35, false, 0), (36, false, 0), (37, false, 0), (38, false, 0), (39, false, 0), (40, false, 0), (41, false, 0), (42, false, 0), (43, false, 0), (44, false, 0), (45, false, 0), (46, false, 0), (47, false, 0), (48, false, 0), (49, false, 0), (50, false, 0), (51, false, 0), (0, false, 0)] []
  [Fct.num [] 53 [((0 : Int) : Rat), ((0 : Int) : Rat), ((1 : Int) : Rat), ((0 : Int) : Rat) * ((1 : Int) : Rat) - ((0 : Int) : Rat) * ((0 : Int) : Rat), ((0 : Int) : Rat) * ((0 : Int) : Rat) - ((1 : Int) : Rat) * ((1 : Int) : Rat), ((1 : Int) : Rat) * ((0 : Int) : Rat) - ((0 : Int) : Rat) * ((0 : Int) : Rat)],
  Fct.val (Ja #[Js ⟨#[48]⟩, Js ⟨#[48]⟩, Js ⟨#[49]⟩, Js ⟨#[48]⟩, Js ⟨#[45, 49]⟩, Js ⟨#[48]⟩]),
  Fct.val (Ja #[Js ⟨#[48]⟩, Js ⟨#[48]⟩, Js ⟨#[49]⟩, Js ⟨#[48]⟩, Js ⟨#[45, 49]⟩, Js ⟨#[48]⟩]),
  Fct.val (.bool true),
  Fct.val (.bool true),
  Fct.num [] 53 [((0 : Int) : Rat), ((0 : Int) : Rat), ((1 : Int) : Rat), ((0 : Int) : Rat) * ((1 : Int) : Rat)-((0 : Int) : Rat) * ((0 : Int) : Rat), ((0 : Int) : Rat) * ((0 : Int) : Rat)-((1 : Int) : Rat) * ((1 : Int) : Rat), ((1 : Int) : Rat) * ((0 : Int) : Rat)-((0 : Int) : Rat) * ((0 : Int) : Rat)],
  Fct.val (Ja #[Ji Jl 2, Ji Jl 0, Ji Jl 0]),
  Fct.num [] 13 [((2 : Int) : Rat), ((0 : Int) : Rat), ((0 : Int) : Rat)],
  Fct.num [] 187 [(((0 : Int) : Rat) * ((1 : Int) : Rat)-((0 : Int) : Rat) * ((0 : Int) : Rat)) + (((0 : Int) : Rat) * ((0 : Int) : Rat)-((1 : Int) : Rat) * ((0 : Int) : Rat)), (((0 : Int) : Rat) * ((0 : Int) : Rat)-((1 : Int) : Rat) * ((1 : Int) : Rat)) + (((1 : Int) : Rat) * ((2 : Int) : Rat)-((0 : Int) : Rat) * ((0 : Int) : Rat)), (((1 : Int) : Rat) * ((0 : Int) : Rat)-((0 : Int) : Rat) * ((0 : Int) : Rat)) + (((0 : Int) : Rat) * ((0 : Int) : Rat)-((0 : Int) : Rat) * ((2 : Int) : Rat))],
  Fct.val (Ja #[Js ⟨#[48]⟩, Js ⟨#[49]⟩, Js ⟨#[48]⟩]),
  Fct.val (Ja #[Js ⟨#[48]⟩, Js ⟨#[49]⟩, Js ⟨#[48]⟩]),
  Fct.val (.bool true),
  Fct.val (.bool true),
  Fct.val (.bool true),
  Fct.val (Jp (some ⟨p2, 0, Jn⟩)),
  Fct.val (Ji Jl 3),
  Fct.val (.bool true),
  Fct.val (.bool true),
  Fct.val (.bool true),
  Fct.val (Jp (some ⟨p2, 1, Jn⟩)),
  Fct.num [] 161 [0, 0, 1],
  Fct.val (Ja #[Js ⟨#[48]⟩, Js ⟨#[48]⟩, Js ⟨#[49]⟩]),
  Fct.val (Ja #[Js ⟨#[48]⟩, Js ⟨#[48]⟩, Js ⟨#[49]⟩]),
  Fct.val (.bool true),
  Fct.val (.bool true),
  Fct.val (.bool true),
  Fct.val (Jp (some ⟨p2, 13, Jn⟩)),
  Fct.num [] 161 [1, 0, 0],
  Fct.val (Ja #[Js ⟨#[49]⟩, Js ⟨#[48]⟩, Js ⟨#[48]⟩]),
  Fct.val (Ja #[Js ⟨#[49]⟩, Js ⟨#[48]⟩, Js ⟨#[48]⟩]),
  Fct.val (.bool true),
  Fct.val (.bool true),
  Fct.val (.bool true),
  Fct.val (Jp (some ⟨p2, 25, Jn⟩)),
  Fct.num [] 161 [2],
  Fct.val (Js ⟨#[50]⟩),
  Fct.val (.bool true),
  Fct.val (.bool true),
  Fct.val (.bool true)]
  #[true, true, true, true, true, true, true, true, true, true, true, true, true, true, true, true, true, true, true, true, true, true, true, true, true, true, true, true, true, true, true, true, true, true, true, true, true, true, true] 0 rfl (by kernel_rfl) rfl (by kernel_rfl) ⟨?_, ?_, ?_, ?_, ?_, ?_, ?_, ?_, ?_, ?_, ?_, ?_, ?_, ?_, ?_, ?_, ?_, ?_, ?_, ?_, ?_, ?_, ?_, ?_, ?_, ?_, ?_, ?_, ?_, ?_, ?_, ?_, ?_, ?_, ?_, ?_, ?_, ?_, ?_, trivial⟩
  (fun val2 => ⟨#[val2 0, Jp (some ⟨p1, 0, Jn⟩), Jp (some ⟨p2, 0, Jn⟩), val0 3, val0 4, val0 5, val0 6, val0 7, val1 8, val1 9, val1 10, val1 11, val1 12, val1 13, val2 14, val2 15, val2 16, val2 17, val2 18, val2 19, val2 20, val2 21, val2 22, val2 23, val2 24, val2 25, val2 26, val2 27, val2 28, val2 29, val2 30, val2 31, val2 32, val2 33, val2 34, val2 35, val2 36, val2 37, val2 38, val2 39, val2 40, val2 41, val2 42, val2 43, val2 44, val2 45, val2 46, val2 47, val2 48, val2 49, val2 50, val2 51], []⟩) (fun val2 => by kernel_rfl) (fun val2 W2 hB hF => ⟨?_⟩)
 ·exact E7 V1.out (.env rfl (by kernel_rfl)) rfl rfl rfl (by kernel_rfl) (by kernel_rfl)
 ·exact EZ cf19 rfl rfl rfl rfl rfl (by kernel_rfl) (fun a v hB hE hD => D7 (hD 0 _ (by kernel_rfl) rfl) (by decide) (G.out v hB) (by decide +kernel) (by decide +kernel) (by decide +kernel) (by decide +kernel) (by decide +kernel) (by decide +kernel))
 ·exact Fl (parts := [(0, .const (Js ⟨#[48]⟩)), (1, .const (Js ⟨#[48]⟩)), (2, .const (Js ⟨#[49]⟩)), (3, .const (Js ⟨#[48]⟩)), (4, .const (Js ⟨#[45, 49]⟩)), (5, .const (Js ⟨#[48]⟩))]) rfl rfl rfl (by kernel_rfl) (fun a w hB hE hD => ⟨#[Js ⟨#[48]⟩, Js ⟨#[48]⟩, Js ⟨#[49]⟩, Js ⟨#[48]⟩, Js ⟨#[45, 49]⟩, Js ⟨#[48]⟩], by kernel_rfl, rfl⟩)
 ·exact Dl (op := .binOp .eql 24 (.tmp 15) (.tmp 16) 24) rfl rfl (fun _ => rfl) (.dep 1 rfl (by kernel_rfl)) (.dep 2 rfl (by kernel_rfl)) rfl (by kernel_rfl) (fun a w e e2 => by unfold execOp bare;dsimp only;rw[e, e2];have :=Ld ⟨#[48]⟩ ⟨#[48]⟩ ⟨#[49]⟩ ⟨#[48]⟩ ⟨#[45, 49]⟩ ⟨#[48]⟩ w;go_simp)
 ·exact E5 3 rfl rfl rfl rfl (by kernel_rfl)
 ·exact E7 V1.out (.env rfl (by kernel_rfl)) rfl rfl ⟨true, rfl, rfl, by kernel_rfl, rfl⟩ (by kernel_rfl) (by kernel_rfl)
 ·exact Fl (parts := [(0, .const (Ji Jl 2)), (1, .const (Ji Jl 0)), (2, .const (Ji Jl 0))]) rfl rfl ⟨true, rfl, rfl, by kernel_rfl, rfl⟩ (by kernel_rfl) (fun a w hB hE hD => ⟨#[Ji Jl 2, Ji Jl 0, Ji Jl 0], by kernel_rfl, rfl⟩)
 ·exact EZ cf59 rfl rfl rfl rfl ⟨true, rfl, rfl, by kernel_rfl, rfl⟩ (by kernel_rfl) (fun a v hB hE hD => (show Calls _ _ #[Act.at_ a 20] v _ from by rw[show Act.at_ a 20 =_ from hD 6 _ (by kernel_rfl) rfl];exact DF ⟨by decide, by decide⟩ ⟨by decide, by decide⟩ ⟨by decide, by decide⟩ ⟨Fq (by decide) (by decide), Fq (by decide) (by decide), Fq (by decide) (by decide)⟩))
 ·exact EZ cf24 rfl rfl rfl rfl ⟨true, rfl, rfl, by kernel_rfl, rfl⟩ (by kernel_rfl) (fun a v hB hE hD => Dq (hD 5 _ (by kernel_rfl) rfl) (hD 7 _ (by kernel_rfl) rfl) (by kernel_rfl) (G.out v hB))
 ·exact EZ cf60 rfl rfl rfl rfl ⟨true, rfl, rfl, by kernel_rfl, rfl⟩ (by kernel_rfl) (fun a v hB hE hD => DA (hD 8 _ (by kernel_rfl) rfl) (by decide) (G.out v hB) (by decide +kernel) (by decide +kernel) (by decide +kernel))
 ·exact Fl (parts := [(0, .const (Js ⟨#[48]⟩)), (1, .const (Js ⟨#[49]⟩)), (2, .const (Js ⟨#[48]⟩))]) rfl rfl ⟨true, rfl, rfl, by kernel_rfl, rfl⟩ (by kernel_rfl) (fun a w hB hE hD => ⟨#[Js ⟨#[48]⟩, Js ⟨#[49]⟩, Js ⟨#[48]⟩], by kernel_rfl, rfl⟩)
 ·exact Dl (op := .binOp .eql 111 (.tmp 23) (.tmp 24) 111) rfl rfl (fun _ => rfl) (.dep 9 rfl (by kernel_rfl)) (.dep 10 rfl (by kernel_rfl)) ⟨true, rfl, rfl, by kernel_rfl, rfl⟩ (by kernel_rfl) (fun a w e e2 => by unfold execOp bare;dsimp only;rw[e, e2];have :=Dk ⟨#[48]⟩ ⟨#[49]⟩ ⟨#[48]⟩ w;go_simp)
 ·exact Fe 4 11 rfl rfl rfl rfl rfl (by kernel_rfl)
 ·exact E5 12 rfl rfl rfl rfl (by kernel_rfl)
 ·exact E4 rfl rfl (.env rfl (by kernel_rfl)) ⟨true, rfl, rfl, by kernel_rfl, rfl⟩ (by kernel_rfl) (fun w => by go_simp)
 ·exact FW V2.out rfl (.dep 14 rfl (by kernel_rfl)) rfl rfl ⟨true, rfl, rfl, by kernel_rfl, rfl⟩ (by kernel_rfl) (by kernel_rfl)
 ·exact Fm (op := .binOp .eql 3 (.tmp 29) (.const (Ji Jl 3)) 3) rfl rfl (fun _ => rfl) (.dep 15 rfl (by kernel_rfl)) ⟨true, rfl, rfl, by kernel_rfl, rfl⟩ (by kernel_rfl) (fun a w e => by unfold execOp bare;dsimp only;rw[e];go_simp <;> rfl)
 ·exact Fe 13 16 rfl rfl rfl rfl rfl (by kernel_rfl)
 ·exact E5 17 rfl rfl rfl rfl (by kernel_rfl)
 ·exact E4 rfl rfl (.env rfl (by kernel_rfl)) ⟨true, rfl, rfl, by kernel_rfl, rfl⟩ (by kernel_rfl) (fun w => by go_simp)
 ·exact E6 0 3 V2.out (.dep 19 rfl (by kernel_rfl)) rfl rfl ⟨true, rfl, rfl, by kernel_rfl, rfl⟩ (by kernel_rfl) (by kernel_rfl) (by kernel_rfl)
 ·exact EZ cf60 rfl rfl rfl rfl ⟨true, rfl, rfl, by kernel_rfl, rfl⟩ (by kernel_rfl) (fun a v hB hE hD => DA (hD 20 _ (by kernel_rfl) rfl) (by decide) (G.out v hB) (by decide +kernel) (by decide +kernel) (by decide +kernel))
 ·exact Fl (parts := [(0, .const (Js ⟨#[48]⟩)), (1, .const (Js ⟨#[48]⟩)), (2, .const (Js ⟨#[49]⟩))]) rfl rfl ⟨true, rfl, rfl, by kernel_rfl, rfl⟩ (by kernel_rfl) (fun a w hB hE hD => ⟨#[Js ⟨#[48]⟩, Js ⟨#[48]⟩, Js ⟨#[49]⟩], by kernel_rfl, rfl⟩)
 ·exact Dl (op := .binOp .eql 111 (.tmp 35) (.tmp 36) 111) rfl rfl (fun _ => rfl) (.dep 21 rfl (by kernel_rfl)) (.dep 22 rfl (by kernel_rfl)) ⟨true, rfl, rfl, by kernel_rfl, rfl⟩ (by kernel_rfl) (fun a w e e2 => by unfold execOp bare;dsimp only;rw[e, e2];have :=Dk ⟨#[48]⟩ ⟨#[48]⟩ ⟨#[49]⟩ w;go_simp)
 ·exact Fe 18 23 rfl rfl rfl rfl rfl (by kernel_rfl)
 ·exact E5 24 rfl rfl rfl rfl (by kernel_rfl)
 ·exact E4 rfl rfl (.env rfl (by kernel_rfl)) ⟨true, rfl, rfl, by kernel_rfl, rfl⟩ (by kernel_rfl) (fun w => by go_simp)
 ·exact E6 3 3 V2.out (.dep 26 rfl (by kernel_rfl)) rfl rfl ⟨true, rfl, rfl, by kernel_rfl, rfl⟩ (by kernel_rfl) (by kernel_rfl) (by kernel_rfl)
 ·exact EZ cf60 rfl rfl rfl rfl ⟨true, rfl, rfl, by kernel_rfl, rfl⟩ (by kernel_rfl) (fun a v hB hE hD => DA (hD 27 _ (by kernel_rfl) rfl) (by decide) (G.out v hB) (by decide +kernel) (by decide +kernel) (by decide +kernel))
 ·exact Fl (parts := [(0, .const (Js ⟨#[49]⟩)), (1, .const (Js ⟨#[48]⟩)), (2, .const (Js ⟨#[48]⟩))]) rfl rfl ⟨true, rfl, rfl, by kernel_rfl, rfl⟩ (by kernel_rfl) (fun a w hB hE hD => ⟨#[Js ⟨#[49]⟩, Js ⟨#[48]⟩, Js ⟨#[48]⟩], by kernel_rfl, rfl⟩)
 ·exact Dl (op := .binOp .eql 111 (.tmp 42) (.tmp 43) 111) rfl rfl (fun _ => rfl) (.dep 28 rfl (by kernel_rfl)) (.dep 29 rfl (by kernel_rfl)) ⟨true, rfl, rfl, by kernel_rfl, rfl⟩ (by kernel_rfl) (fun a w e e2 => by unfold execOp bare;dsimp only;rw[e, e2];have :=Dk ⟨#[49]⟩ ⟨#[48]⟩ ⟨#[48]⟩ w;go_simp)
 ·exact Fe 25 30 rfl rfl rfl rfl rfl (by kernel_rfl)
 ·exact E5 31 rfl rfl rfl rfl (by kernel_rfl)
 ·exact E4 rfl rfl (.env rfl (by kernel_rfl)) ⟨true, rfl, rfl, by kernel_rfl, rfl⟩ (by kernel_rfl) (fun w => by go_simp)
 ·exact E6 6 1 V2.out (.dep 33 rfl (by kernel_rfl)) rfl rfl ⟨true, rfl, rfl, by kernel_rfl, rfl⟩ (by kernel_rfl) (by kernel_rfl) (by kernel_rfl)
 ·exact EZ cf58 rfl rfl rfl rfl ⟨true, rfl, rfl, by kernel_rfl, rfl⟩ (by kernel_rfl) (fun a v hB hE hD => FN (hD 34 _ (by kernel_rfl) rfl) (by decide +kernel) (by decide) (G.out v hB))
 ·exact Fm (op := .binOp .eql 22 (.tmp 49) (.const (Js ⟨#[50]⟩)) 22) rfl rfl (fun _ => rfl) (.dep 35 rfl (by kernel_rfl)) ⟨true, rfl, rfl, by kernel_rfl, rfl⟩ (by kernel_rfl) (fun a w e => by unfold execOp bare;dsimp only;rw[e];go_simp <;> rfl)
 ·exact Fe 32 36 rfl rfl rfl rfl rfl (by kernel_rfl)
 ·exact E5 37 rfl rfl rfl rfl (by kernel_rfl)
 have e0 : val2 0 = .bool true :=hF 38 _ rfl;clear hF;generalize val2 0 =t0 at *
 subst e0;replace V1 :=Lh (fun w' (hb : Below W2.heap.size W2 w') => V1.out w' (Jd hB hb));replace V2 :=Lh (fun w' (hb : Below W2.heap.size W2 w') => V2.out w' (Jd hB hb));replace K :=Lh (Jd K.out hB);replace G :=Lh (fun w' (hb : Below W2.heap.size W2 w') => G.out w' (Jd hB hb));clear hB;refine Last.nil (by kernel_rfl) ?_;clear G V1 V2;go_wp2_with fail
 exact bodyPost_ret (v := .bool true) (by simp[results, Tryz.results13, go_sem]) rfl ⟨_, rfl, K.out, rfl⟩
theorem cf13(args : Array Value)(w : JW) : (callFunc 13 args).run Tryz.prog w = .ok (.enter 13 args) w :=by go_simp
theorem cf55(args : Array Value)(w : JW) : (callFunc 55 args).run Tryz.prog w = .ok (.enter 55 args) w :=by go_simp
theorem cf56(args : Array Value)(w : JW) : (callFunc 56 args).run Tryz.prog w = .ok (.enter 56 args) w :=by go_simp
theorem cf28(args : Array Value)(w : JW) : (callFunc 28 args).run Tryz.prog w = .ok (.enter 28 args) w :=by go_simp
theorem cf26(args : Array Value)(w : JW) : (callFunc 26 args).run Tryz.prog w = .ok (.enter 26 args) w :=by go_simp
theorem cf35(args : Array Value)(w : JW) : (callFunc 35 args).run Tryz.prog w = .ok (.enter 35 args) w :=by go_simp
theorem cf17(args : Array Value)(w : JW) : (callFunc 17 args).run Tryz.prog w = .ok (.enter 17 args) w :=by go_simp
theorem cf34(args : Array Value)(w : JW) : (callFunc 34 args).run Tryz.prog w = .ok (.enter 34 args) w :=by go_simp
theorem cf46(args : Array Value)(w : JW) : (callFunc 46 args).run Tryz.prog w = .ok (.enter 46 args) w :=by go_simp
