/- The law TwistTurns. -/
import Derived.Test.YthhobhjcnmmipaaGreatDoorKTwi
namespace Go.Proofs.YthhobhjcnmmipaaGreatDoor
open Go.Value renaming pointer→Jp,int→Ji,agg→Ja
open Go.IntKind renaming i64→Jl
open Go.Obj renaming cells→Jc
open _root_.Option renaming none→Jn,some→Jo
open Go renaming World→JW
open Go.RowKit.Below renaming refl→N0
open _root_.Bool renaming and_eq_true→N1
open Go.RowKit

theorem NE{n : Int}(h : n ≠ 0) : ((sgn n ==0) =false) /\ ((sgn n !=0) =true) :=by
  unfold sgn;rcases Int.lt_trichotomy n 0 with h1|h1|h1
  · rw[if_pos h1];exact⟨by decide, by decide⟩
  · exact absurd h1 h
  · rw[if_neg (by omega), if_pos h1];exact⟨by decide, by decide⟩
set_option maxRecDepth 100000 in
theorem NF(x0 x1 x2 : Int)(w : JW) : (Op.equalIn 10000 54 (Ja #[Ji .i8 x0, Ji .i8 x1, Ji .i8 x2]) (Ja #[Ji .i8 0, Ji .i8 0, Ji .i8 0])).run Tryz.prog w = .ok (x0 ==0 && x1 ==0 && x2 ==0) w :=by
  rcases x0 with(_|n)|n
  · rcases x1 with(_|n)|n
    · rcases x2 with(_|n)|n <;> kernel_rfl
    · kernel_rfl
    · kernel_rfl
  · kernel_rfl
  · kernel_rfl
set_option maxRecDepth 100000 in
theorem Ny{ρ : Operand -> Value}{w : JW}{x0 x1 x2 : Int}{b : Bool}{s s' : Tmp}(hb : (x0 ==0 && x1 ==0 && x2 ==0) =b)(h : ρ (.tmp s) =Ja #[Ji .i8 x0, Ji .i8 x1, Ji .i8 x2])(h' : ρ (.tmp s') =Ja #[Ji .i8 0, Ji .i8 0, Ji .i8 0]) : (execOp ρ (bare (.binOp .neq 54 (.tmp s) (.tmp s') 54))).run Tryz.prog w = .ok (.value (.bool (!b))) w :=by
  have e :=NF x0 x1 x2 w;unfold execOp bare;dsimp only;rw[h, h'];go_simp
theorem Ret.up{w v : JW}{e : Ending}{hd : List Value}{k n : Nat}{qs : List Rat}(h : Ret w (Fct.num hd k qs) e v)(hk : k <= n) : Ret w (Fct.num hd n qs) e v :=by
  obtain⟨u, he, hb, rs, e2, hr, f⟩ :=h;exact⟨u, he, hb, rs, e2, hr, fun q hq => (f q hq).up hk⟩
theorem NC {a0 a1 a2 : Rat} (hz : Xv a0 a1 a2 = false) : ∃ u : Rat, (((1 : Int) : Rat) / (a0 * a0 + a1 * a1 + a2 * a2)) = u /\ u * (a0 * a0 + a1 * a1 + a2 * a2) = 1 := ⟨_, rfl, by
  rw[Rat.div_def, show(((1 : Int) : Rat)) =1 from rfl, Rat.one_mul];exact Rat.inv_mul_cancel _ (DQ hz)⟩
set_option maxHeartbeats 4000000 in
theorem ND{x0 x1 x2 y0 y1 y2 : Rat}(hz : Xv x0 x1 x2 =false) : ∃g0 g1 g2 e0 e1 e2 : Rat, ((e1-y1) * x2-(e2-y2) * x1 =0 /\ (e2-y2) * x0-(e0-y0) * x2 =0 /\ (e0-y0) * x1-(e1-y1) * x0 =0) /\
    ∀(t : Value) (w : JW), (Fct.num [] 13 [x0, x1, x2, y1 * x2-y2 * x1, y2 * x0-y0 * x2, y0 * x1-y1 * x0]).P w t -> Good w -> Calls Tryz.prog 47 #[t] w (Ret w (Fct.num [Ji Jl 2] 161 [g0, g1, g2, e0, e1, e2, 0])) :=by
  obtain⟨u, hu, hus⟩ :=NC hz;refine⟨_, _, _, _, _, _, ?_, fun t w h hg => (LG h hz (by grind) hg).mono (fun _ _ h => h.up (by decide))⟩;rw[hu];exact⟨by grind, by grind, by grind⟩
set_option maxHeartbeats 4000000 in
theorem NB(a0 a1 a2 b0 b1 b2 : Rat) : ∃(κ : Int) (g0 g1 g2 e0 e1 e2 h : Rat), (κ =0 \/ κ =1 \/ (κ =2 \/ κ =3) /\ (a1 * g2-a2 * g1 =0 /\ a2 * g0-a0 * g2 =0 /\ a0 * g1-a1 * g0 =0) /\ (b0 + (a1 * e2-a2 * e1) =h * a0 /\ b1 + (a2 * e0-a0 * e2) =h * a1 /\ b2 + (a0 * e1-a1 * e0) =h * a2) /\ e0 * g0 + e1 * g1 + e2 * g2 =0) /\
    ∀(t : Value) (w : JW), (Fct.num [] 13 [a0, a1, a2, b0, b1, b2]).P w t -> Good w -> Calls Tryz.prog 47 #[t] w (Ret w (Fct.num [Ji Jl κ] 161 [g0, g1, g2, e0, e1, e2, h])) :=by
  cases hz : Xv a0 a1 a2 with
  | true =>
    cases hl : Xv b0 b1 b2 with
    | true => exact⟨0, _, _, _, _, _, _, _, .inl rfl, fun t w h hg => (LH h hz hl hg).mono (fun _ _ h => h.up (by decide))⟩
    | false => exact⟨1, _, _, _, _, _, _, _, .inr (.inl rfl), fun t w h hg => (LF h hz hl hg).mono (fun _ _ h => h.up (by decide))⟩
  | false =>
    obtain⟨u, hu, hus⟩ :=NC hz;obtain⟨φ, hφ⟩ : ∃φ, pF a0 a1 a2 =φ :=⟨_, rfl⟩;by_cases hal : a0 * b0 + a1 * b1 + a2 * b2 =0
    · refine⟨2, _, _, _, _, _, _, _, .inr (.inr ⟨.inl rfl, ?_⟩), fun t w h hg => (LG h hz hal hg).mono (fun _ _ h => h.up (by decide))⟩
      rw[hu, hφ];exact⟨⟨by grind, by grind, by grind⟩, ⟨by grind, by grind, by grind⟩, by grind⟩
    · have h1 :=NE (Dm hal)
      refine⟨3, _, _, _, _, _, _, _, .inr (.inr ⟨.inr rfl, ?_⟩), fun t w h hg => DY h hz rfl h1.2 h1.1 hg⟩;rw[hu, hφ];exact⟨⟨by grind, by grind, by grind⟩, ⟨by grind, by grind, by grind⟩, by grind⟩
def Fct.cel(l : List Value) : Fct :=⟨fun w t => ∃p, t =Jp (Jo ⟨p, 0, Jn⟩) /\ Jh w p l, true, fun⟨p, e, h⟩ hb => ⟨p, e, h.keep hb⟩, fun⟨p, e, h⟩ hw hn => ⟨p, e, h.wr hw (fun e2 => hn rfl (by rw[e, e2]))⟩⟩
section
variable {P : Program} {ops : Array Oper} {Q : Exit -> Act -> JW -> Prop} {w0 : JW} {a0 : Act} {L : Lay} {als : List Nat} {Fs : List Fct}
/-- Known cells into a new variable. -/
theorem Nx{i : Nat}{o : Oper}{T : TypeId}{s s2 : Tmp}{l : List Value}{n : Nat}(al j : Nat)(ho : ops[i]? =Jo o)(hop : o.op = .store T (.tmp s) (.tmp s2))(hg : Fg ops Fs L o i true)(hal : Fs[al]? =Jo (Fct.ptr n))(hj : Fs[j]? =Jo (Fct.val (Ja l.toArray)))
    (hx : (L.own i && L.slot i ==s && L.slot al ==s && L.slot j ==s2 && Qp .any ops i al && Qp .any ops i j && l.all plainW && l.length ==n) =true) (hT : (P.info? T).map (·.size) =Jo n) : Has P ops Q w0 a0 L als Fs (Fct.cel l) i :=by
  simp only[N1, beq_iff_eq]at hx;obtain⟨⟨⟨⟨⟨⟨⟨h0, h1⟩, h2⟩, h3⟩, h4⟩, h5⟩, h6⟩, h7⟩ :=hx;refine DS n ho hop hg h0 h1 hT fun a w hB hE hD => ?_;obtain⟨p, m, e, hc, hl, hp⟩ :=hD al _ h4 hal;have e2 : Act.at_ a (L.slot j) =Ja l.toArray :=hD j _ h5 hj;rw[h2]at e;rw[h3]at e2;exact⟨p, m, l, e, hc, hl, hp, e2, h7, h6, fun v hW hC => ⟨p, rfl, hC⟩⟩
/-- An operation behind one that is left out. -/
theorem Nw{i : Nat}{o : Oper}(g : Nat)(x : Bool)(ho : ops[i]? =Jo o)(hog : o.guard =Jo (g, x))(hF : Fs[g]? =Jo (Fct.val undef))(hd : Fz ops g =Jo (L.slot g))(hw : Qp .any ops i g =true)(h0 : (L.own i || als.contains i) =false) : Has P ops Q w0 a0 L als Fs (Fct.val undef) i :=by
  rw[Bool.or_eq_false_iff]at h0;refine⟨o, ho, fun a w hB hE hD K hK => ?_⟩;have hv : Act.at_ a (L.slot g) =undef :=hD g _ hw hF;have hn : Region.wanted o (yielded ops a.tmps) =false :=by
    unfold Region.wanted;rw[hog];have : yielded ops a.tmps g =Jn :=by
      unfold Act.at_ at hv;rw[Array.getD_eq_getD_getElem?]at hv;unfold yielded;unfold Fz at hd;rw[hd];cases h : a.tmps[L.slot g]? with
      | none => simp[h]
      | some y =>
        rw[h]at hv;simp at hv;simp[h, hv, undef]
    show(yielded ops a.tmps g ==Jo x) =false;rw[this];rfl
  rw[hn, if_neg (by decide)];exact hK _ _ ⟨undef, rfl, .inl ⟨h0.1, N0 _ _, rfl, fun h => by rw[h0.2]at h;cases h⟩⟩
/-- 'a || b' with a false. -/
theorem Nz{i : Nat}{o : Oper}{F : Fct}{c s : Tmp}{x : Operand}(jc j : Nat)(ho : ops[i]? =Jo o)(hop : o.op = .pick (.tmp c) x (.tmp s))(hc : Fs[jc]? =Jo (Fct.val (.bool false)))(hj : Fs[j]? =Jo F)(hg : Fg ops Fs L o i true)(hx : (!(L.own i || als.contains i) && L.slot jc ==c && L.slot j ==s && Qp .any ops i jc && Qp .any ops i j) =true) : Has P ops Q w0 a0 L als Fs F i :=by
  simp only[N1, Bool.not_eq_true', beq_iff_eq]at hx;obtain⟨⟨⟨⟨h0, h1⟩, h2⟩, h3⟩, h4⟩ :=hx;refine Fp ho hg h0 fun a w hB hE hD => ⟨Act.at_ a s, ?_, by rw[←h2];exact hD j _ h4 hj⟩;have e : a.eval (.tmp c) = .bool false :=by have :=hD jc _ h3 hc;rw[h1]at this;exact this
  unfold execOp;rw[hop];show(do pure (Next.value (if ←asBool (a.eval (.tmp c)) then a.eval x else Act.at_ a s))).run P w =_;rw[e];rfl
end
set_option maxRecDepth 100000 in
set_option maxHeartbeats 16000000 in
theorem NA{n0 n1 n2 n3 n4 n5 d r x0 x1 x2 y0 y1 y2 k : Int}{w : JW}(s1 : S6 n0 n1 n2 n3 n4 n5 d r)(q0 : I8 x0)(q1 : I8 x1)(q2 : I8 x2)(p0 : I8 y0)(p1 : I8 y1)(p2 : I8 y2)(hk : I8 k)(hg : Good w) :
    Calls Tryz.prog 10 #[Ja #[Ji .i8 n0, Ji .i8 n1, Ji .i8 n2, Ji .i8 n3, Ji .i8 n4, Ji .i8 n5, Ji .u8 d], Ja #[Ji .i8 x0, Ji .i8 x1, Ji .i8 x2, Ji .i8 y0, Ji .i8 y1, Ji .i8 y2], Ji .i8 k] w (Ret w (Fct.val (.bool true))) :=by
  obtain⟨a0, ha0⟩ : ∃q, tq n0 r =q :=⟨_, rfl⟩;obtain⟨a1, ha1⟩ : ∃q, tq n1 r =q :=⟨_, rfl⟩;obtain⟨a2, ha2⟩ : ∃q, tq n2 r =q :=⟨_, rfl⟩;obtain⟨a3, ha3⟩ : ∃q, tq n3 r =q :=⟨_, rfl⟩;obtain⟨a4, ha4⟩ : ∃q, tq n4 r =q :=⟨_, rfl⟩;obtain⟨a5, ha5⟩ : ∃q, tq n5 r =q :=⟨_, rfl⟩;have Ha :=fun(v : JW) (hg : Good v) => c_of (w :=v) s1 hg;rw[ha0, ha1, ha2, ha3, ha4, ha5]at Ha;replace Ha :=Lib.hid Ha;obtain⟨xq0, hxq0⟩ : ∃q, ((x0 : Int) : Rat) =q :=⟨_, rfl⟩;obtain⟨xq1, hxq1⟩ : ∃q, ((x1 : Int) : Rat) =q :=⟨_, rfl⟩;obtain⟨xq2, hxq2⟩ : ∃q, ((x2 : Int) : Rat) =q :=⟨_, rfl⟩;have Hx :=fun(v : JW) (hg : Good v) => DL (w :=v) q0 q1 q2 hg;rw[hxq0, hxq1, hxq2]at Hx;replace Hx :=Lib.hid Hx;obtain⟨yq0, hyq0⟩ : ∃q, ((y0 : Int) : Rat) =q :=⟨_, rfl⟩;obtain⟨yq1, hyq1⟩ : ∃q, ((y1 : Int) : Rat) =q :=⟨_, rfl⟩;obtain⟨yq2, hyq2⟩ : ∃q, ((y2 : Int) : Rat) =q :=⟨_, rfl⟩;have Hy :=fun(v : JW) (hg : Good v) => DL (w :=v) p0 p1 p2 hg;rw[hyq0, hyq1, hyq2]at Hy;replace Hy :=Lib.hid Hy;have HG :=Lib.hid hg;obtain⟨kq, hkq⟩ : ∃q, ((k : Int) : Rat) =q :=⟨_, rfl⟩;have HK :=fun(v : JW) => Fv (w :=v) hk.i64 hk.few;rw[hkq]at HK;replace HK :=Lib.hid HK;have hwk : IntKind.wrap Jl k =k :=EM hk.i64.1 hk.i64.2;obtain⟨b, hb⟩ : ∃b, (x0 ==0 && x1 ==0 && x2 ==0) =b :=⟨_, rfl⟩;have hzb : Xv xq0 xq1 xq2 =b :=by
    rw[←hxq0, ←hxq1, ←hxq2, ←hb, Bool.eq_iff_iff, Zw];simp only[N1, beq_iff_eq, and_assoc, Rat.intCast_eq_zero_iff]
  obtain⟨κ, g0, g1, g2, e0, e1, e2, h, hκ, HX⟩ :=NB a0 a1 a2 a3 a4 a5;replace HX :=Lib.hid HX;clear hk hkq;have eqn0 : (yq1 * xq2-yq2 * xq1) + (xq1 * (yq2 + (kq * xq2))-xq2 * (yq1 + (kq * xq1))) =0 :=by grind
  have eqn1 : (yq2 * xq0-yq0 * xq2) + (xq2 * (yq0 + (kq * xq0))-xq0 * (yq2 + (kq * xq2))) =0 :=by grind
  have eqn2 : (yq0 * xq1-yq1 * xq0) + (xq0 * (yq1 + (kq * xq1))-xq1 * (yq0 + (kq * xq0))) =0 :=by grind
  clear s1 ha0 ha1 ha2 ha3 ha4 ha5 hxq0 hxq1 hxq2 hyq0 hyq1 hyq2;have k0 :=(N0 w.heap.size w).alloc (Nat.le_refl _) (Jc #[Ji .i8 n0, Ji .i8 n1, Ji .i8 n2, Ji .i8 n3, Ji .i8 n4, Ji .i8 n5, Ji .u8 d] 53);have k1 :=k0.alloc (by simp) (Jc #[Ji .i8 x0, Ji .i8 x1, Ji .i8 x2, Ji .i8 y0, Ji .i8 y1, Ji .i8 y2] 62);have V0 :=Jh.new w #[Ji .i8 n0, Ji .i8 n1, Ji .i8 n2, Ji .i8 n3, Ji .i8 n4, Ji .i8 n5, Ji .u8 d] 53;have V1 :=Jh.new (w.alloc (Jc #[Ji .i8 n0, Ji .i8 n1, Ji .i8 n2, Ji .i8 n3, Ji .i8 n4, Ji .i8 n5, Ji .u8 d] 53)) #[Ji .i8 x0, Ji .i8 x1, Ji .i8 x2, Ji .i8 y0, Ji .i8 y1, Ji .i8 y2] 62;have j1 :=(N0 (w.alloc (Jc #[Ji .i8 n0, Ji .i8 n1, Ji .i8 n2, Ji .i8 n3, Ji .i8 n4, Ji .i8 n5, Ji .u8 d] 53)).heap.size (w.alloc (Jc #[Ji .i8 n0, Ji .i8 n1, Ji .i8 n2, Ji .i8 n3, Ji .i8 n4, Ji .i8 n5, Ji .u8 d] 53))).alloc (Nat.le_refl _) (Jc #[Ji .i8 x0, Ji .i8 x1, Ji .i8 x2, Ji .i8 y0, Ji .i8 y1, Ji .i8 y2] 62);replace V0 :=(V0.keep j1);simp only[World.size_alloc]at V0 V1;obtain⟨W, hW⟩ : ∃W, (w.alloc (Jc #[Ji .i8 n0, Ji .i8 n1, Ji .i8 n2, Ji .i8 n3, Ji .i8 n4, Ji .i8 n5, Ji .u8 d] 53)).alloc (Jc #[Ji .i8 x0, Ji .i8 x1, Ji .i8 x2, Ji .i8 y0, Ji .i8 y1, Ji .i8 y2] 62) =W :=⟨_, rfl⟩;rw[hW]at k1 V0 V1;replace V0 :=Lib.hid (fun w' (hb : Below W.heap.size W w') => (V0.keep hb));replace V1 :=Lib.hid (fun w' (hb : Below W.heap.size W w') => (V1.keep hb));have K :=Lib.hid k1;have G :=Lib.hid (fun w' (hb : Below W.heap.size W w') => hg.below (k1.trans (hb.mono k1.size)));clear hg k0 k1 j1;go_enter Tryz.func10, Tryz.ntmps10
  go_upto_region 1 with fail
  try simp only[hW]
  clear hW;refine E8 109 [(15, false, 0), (16, false, 0)] []
    [Fct.val (.bool true),
    Fct.val (.bool false)]
    0 rfl (by kernel_rfl) rfl ⟨?_, ?_, trivial⟩
    (fun val0 => ⟨#[Ja #[Ji .i8 n0, Ji .i8 n1, Ji .i8 n2, Ji .i8 n3, Ji .i8 n4, Ji .i8 n5, Ji .u8 d], Ja #[Ji .i8 x0, Ji .i8 x1, Ji .i8 x2, Ji .i8 y0, Ji .i8 y1, Ji .i8 y2], Ji .i8 k, Jp (Jo ⟨w.heap.size, 0, Jn⟩), Jp (Jo ⟨w.heap.size + 1, 0, Jn⟩), undef, .bool false, undef, undef, undef, undef, undef, undef, undef, undef, val0 15, val0 16, undef, undef, undef, undef, undef, undef, undef, undef, undef, undef, undef, undef, undef, undef, undef, undef, undef, undef, undef, undef, undef, undef, undef, undef, undef, undef, undef, undef, undef, undef, undef, undef, undef, undef, undef, undef, undef, undef, undef, undef, undef, undef, undef, undef, undef, undef, undef, undef, undef, undef, undef, undef, undef, undef, undef, undef, undef, undef, undef, undef, undef, undef, undef, undef, undef, undef, undef, undef, undef, undef, undef, undef, undef, undef, undef, undef, undef, undef, undef, undef, undef, undef, undef, undef, undef, undef, undef, undef, undef, undef, undef, undef], []⟩) (fun val0 => by kernel_rfl) (fun val0 W0 hB hF => ⟨?_⟩)
  · exact EZ cf13 rfl rfl rfl rfl rfl (by kernel_rfl) (fun a v hB hE hD => FG (G.out v hB))
  · exact Fm (op := .unOp .not 4 (.tmp 15)) rfl rfl (fun _ => rfl) (.dep 0 rfl (by kernel_rfl)) rfl (by kernel_rfl) (fun a w e => by unfold execOp bare;dsimp only;rw[e];go_simp <;> rfl)
  have e15 : val0 15 = .bool true :=hF 0 _ rfl;have e16 : val0 16 = .bool false :=hF 1 _ rfl;clear hF;generalize val0 15 =t15 at *
  generalize val0 16 =t16 at *
  subst e15 e16;replace V0 :=Lib.hid (fun w' (hb : Below W0.heap.size W0 w') => V0.out w' (Jd hB hb));replace V1 :=Lib.hid (fun w' (hb : Below W0.heap.size W0 w') => V1.out w' (Jd hB hb));replace K :=Lib.hid (Jd K.out hB);replace G :=Lib.hid (fun w' (hb : Below W0.heap.size W0 w') => G.out w' (Jd hB hb));clear hB;refine Last.nil (by kernel_rfl) ?_;go_upto_region 3 with fail
  refine Fy 109 [(17, false, 0), (18, false, 0), (19, false, 0), (20, false, 0), (7, false, 0), (8, false, 0), (7, true, 4), (8, true, 5)] [4, 5]
    [Fct.val (Jp (Jo ⟨w.heap.size + 1, 0, Jn⟩)),
    Fct.val (Ja #[Ji .i8 x0, Ji .i8 x1, Ji .i8 x2]),
    Fct.val (Jp (Jo ⟨w.heap.size + 1, 3, Jn⟩)),
    Fct.val (Ja #[Ji .i8 y0, Ji .i8 y1, Ji .i8 y2]),
    Fct.ptr 3,
    Fct.ptr 3,
    Fct.cel [Ji .i8 x0, Ji .i8 x1, Ji .i8 x2],
    Fct.cel [Ji .i8 y0, Ji .i8 y1, Ji .i8 y2]]
    #[true, true, true, true, true, true, true, true] 0 rfl (by kernel_rfl) rfl (by kernel_rfl) ⟨?_, ?_, ?_, ?_, ?_, ?_, ?_, ?_, trivial⟩
    (fun val1 => ⟨#[Ja #[Ji .i8 n0, Ji .i8 n1, Ji .i8 n2, Ji .i8 n3, Ji .i8 n4, Ji .i8 n5, Ji .u8 d], Ja #[Ji .i8 x0, Ji .i8 x1, Ji .i8 x2, Ji .i8 y0, Ji .i8 y1, Ji .i8 y2], Ji .i8 k, Jp (Jo ⟨w.heap.size, 0, Jn⟩), Jp (Jo ⟨w.heap.size + 1, 0, Jn⟩), undef, .bool false, val1 7, val1 8, undef, undef, undef, undef, undef, undef, .bool true, .bool false, val1 17, val1 18, val1 19, val1 20, undef, undef, undef, undef, undef, undef, undef, undef, undef, undef, undef, undef, undef, undef, undef, undef, undef, undef, undef, undef, undef, undef, undef, undef, undef, undef, undef, undef, undef, undef, undef, undef, undef, undef, undef, undef, undef, undef, undef, undef, undef, undef, undef, undef, undef, undef, undef, undef, undef, undef, undef, undef, undef, undef, undef, undef, undef, undef, undef, undef, undef, undef, undef, undef, undef, undef, undef, undef, undef, undef, undef, undef, undef, undef, undef, undef, undef, undef, undef, undef, undef, undef, undef, undef, undef, undef, undef, undef], []⟩) (fun val1 => by kernel_rfl) (fun val1 W1 hB hF => ⟨?_⟩)
  · exact FA rfl rfl (.env rfl (by kernel_rfl)) rfl (by kernel_rfl) (fun _ _ _ _ => rfl) (fun w => by go_simp)
  · exact Fk 3 V1.out (.dep 0 rfl (by kernel_rfl)) rfl rfl rfl (by kernel_rfl) (by kernel_rfl) rfl (by kernel_rfl)
  · exact FA rfl rfl (.env rfl (by kernel_rfl)) rfl (by kernel_rfl) (fun _ _ _ _ => rfl) (fun w => by go_simp)
  · exact Fk 3 V1.out (.dep 2 rfl (by kernel_rfl)) rfl rfl rfl (by kernel_rfl) (by kernel_rfl) rfl (by kernel_rfl)
  · exact Fb [Ji .i8 0, Ji .i8 0, Ji .i8 0] 54 rfl rfl rfl (by kernel_rfl) (by kernel_rfl) (fun a w => by go_simp)
  · exact Fb [Ji .i8 0, Ji .i8 0, Ji .i8 0] 54 rfl rfl rfl (by kernel_rfl) (by kernel_rfl) (fun a w => by go_simp)
  · exact Nx 4 1 rfl rfl rfl rfl rfl (by kernel_rfl) (by kernel_rfl)
  · exact Nx 5 3 rfl rfl rfl rfl rfl (by kernel_rfl) (by kernel_rfl)
  obtain⟨p7, e7, V7⟩ : (Fct.cel [Ji .i8 x0, Ji .i8 x1, Ji .i8 x2]).P W1 (val1 7) :=hF 6 _ rfl;obtain⟨p8, e8, V8⟩ : (Fct.cel [Ji .i8 y0, Ji .i8 y1, Ji .i8 y2]).P W1 (val1 8) :=hF 7 _ rfl;clear hF;generalize val1 7 =t7 at *
  generalize val1 8 =t8 at *
  subst e7 e8;replace V0 :=Lib.hid (fun w' (hb : Below W1.heap.size W1 w') => V0.out w' (Jd hB hb));replace V1 :=Lib.hid (fun w' (hb : Below W1.heap.size W1 w') => V1.out w' (Jd hB hb));replace V7 :=Lib.hid (fun w' (hb : Below W1.heap.size W1 w') => V7.keep hb);replace V8 :=Lib.hid (fun w' (hb : Below W1.heap.size W1 w') => V8.keep hb);replace K :=Lib.hid (Jd K.out hB);replace G :=Lib.hid (fun w' (hb : Below W1.heap.size W1 w') => G.out w' (Jd hB hb));clear hB;refine Last.nil (by kernel_rfl) ?_;go_upto_region 4 with fail
  refine Fy 109 [(21, false, 0), (22, false, 0), (23, false, 0), (24, false, 0), (25, false, 0), (9, false, 0), (9, true, 5)] [5]
    [Fct.val (Ja #[Ji .i8 x0, Ji .i8 x1, Ji .i8 x2]),
    Fct.num [] 3 [xq0, xq1, xq2],
    Fct.val (Ja #[Ji .i8 y0, Ji .i8 y1, Ji .i8 y2]),
    Fct.num [] 3 [yq0, yq1, yq2],
    Fct.num [] 13 [xq0, xq1, xq2, yq1 * xq2-yq2 * xq1, yq2 * xq0-yq0 * xq2, yq0 * xq1-yq1 * xq0],
    Fct.ptr 24,
    Fct.var [] 13 [xq0, xq1, xq2, yq1 * xq2 - yq2 * xq1, yq2 * xq0 - yq0 * xq2, yq0 * xq1 - yq1 * xq0]]
    #[true, true, true, true, true, true, true] 0 rfl (by kernel_rfl) rfl (by kernel_rfl) ⟨?_, ?_, ?_, ?_, ?_, ?_, ?_, trivial⟩
    (fun val2 => ⟨#[Ja #[Ji .i8 n0, Ji .i8 n1, Ji .i8 n2, Ji .i8 n3, Ji .i8 n4, Ji .i8 n5, Ji .u8 d], Ja #[Ji .i8 x0, Ji .i8 x1, Ji .i8 x2, Ji .i8 y0, Ji .i8 y1, Ji .i8 y2], Ji .i8 k, Jp (Jo ⟨w.heap.size, 0, Jn⟩), Jp (Jo ⟨w.heap.size + 1, 0, Jn⟩), undef, .bool false, Jp (Jo ⟨p7, 0, Jn⟩), Jp (Jo ⟨p8, 0, Jn⟩), val2 9, undef, undef, undef, undef, undef, .bool true, .bool false, val1 17, val1 18, val1 19, val1 20, val2 21, val2 22, val2 23, val2 24, val2 25, undef, undef, undef, undef, undef, undef, undef, undef, undef, undef, undef, undef, undef, undef, undef, undef, undef, undef, undef, undef, undef, undef, undef, undef, undef, undef, undef, undef, undef, undef, undef, undef, undef, undef, undef, undef, undef, undef, undef, undef, undef, undef, undef, undef, undef, undef, undef, undef, undef, undef, undef, undef, undef, undef, undef, undef, undef, undef, undef, undef, undef, undef, undef, undef, undef, undef, undef, undef, undef, undef, undef, undef, undef, undef, undef, undef, undef, undef, undef, undef, undef, undef, undef], []⟩) (fun val2 => by kernel_rfl) (fun val2 W2 hB hF => ⟨?_⟩)
  · exact Fk 3 V7.out (.env rfl (by kernel_rfl)) rfl rfl rfl (by kernel_rfl) (by kernel_rfl) rfl (by kernel_rfl)
  · exact EZ cf22 rfl rfl rfl rfl rfl (by kernel_rfl) (fun a v hB hE hD => (show Calls _ _ #[Act.at_ a 21] v _ from by rw[show Act.at_ a 21 =_ from hD 0 _ (by kernel_rfl) rfl];exact Hx.out v (G.out v hB)))
  · exact Fk 3 V8.out (.env rfl (by kernel_rfl)) rfl rfl rfl (by kernel_rfl) (by kernel_rfl) rfl (by kernel_rfl)
  · exact EZ cf22 rfl rfl rfl rfl rfl (by kernel_rfl) (fun a v hB hE hD => (show Calls _ _ #[Act.at_ a 23] v _ from by rw[show Act.at_ a 23 =_ from hD 2 _ (by kernel_rfl) rfl];exact Hy.out v (G.out v hB)))
  · exact EZ cf53 rfl rfl rfl rfl rfl (by kernel_rfl) (fun a v hB hE hD => Lv (hD 1 _ (by kernel_rfl) rfl) (hD 3 _ (by kernel_rfl) rfl) (by kernel_rfl) (G.out v hB))
  · exact Fb [Ji Jl 0, Jp Jn, Ji Jl 0, Jp Jn, Ji Jl 0, Jp Jn, Ji Jl 0, Jp Jn, Ji Jl 0, Jp Jn, Ji Jl 0, Jp Jn, Ji Jl 0, Jp Jn, Ji Jl 0, Jp Jn, Ji Jl 0, Jp Jn, Ji Jl 0, Jp Jn, Ji Jl 0, Jp Jn, Ji Jl 0, Jp Jn] 37 rfl rfl rfl (by kernel_rfl) (by kernel_rfl) (fun a w => by go_simp)
  · exact E9 5 4 rfl rfl rfl rfl rfl (by kernel_rfl) (by kernel_rfl)
  obtain⟨p9, e9, V9⟩ : (Fct.var [] 13 [xq0, xq1, xq2, yq1 * xq2-yq2 * xq1, yq2 * xq0-yq0 * xq2, yq0 * xq1-yq1 * xq0]).P W2 (val2 9) :=hF 6 _ rfl;clear hF;generalize val2 9 =t9 at *
  subst e9;replace V0 :=Lib.hid (fun w' (hb : Below W2.heap.size W2 w') => V0.out w' (Jd hB hb));replace V1 :=Lib.hid (fun w' (hb : Below W2.heap.size W2 w') => V1.out w' (Jd hB hb));replace V7 :=Lib.hid (fun w' (hb : Below W2.heap.size W2 w') => V7.out w' (Jd hB hb));replace V8 :=Lib.hid (fun w' (hb : Below W2.heap.size W2 w') => V8.out w' (Jd hB hb));replace V9 :=Lib.hid (fun w' (hb : Below W2.heap.size W2 w') => V9.keep hb);replace K :=Lib.hid (Jd K.out hB);replace G :=Lib.hid (fun w' (hb : Below W2.heap.size W2 w') => G.out w' (Jd hB hb));clear hB;refine Last.nil (by kernel_rfl) ?_;go_upto_region 5 with fail
  refine Fy 109 [(26, false, 0), (27, false, 0), (28, false, 0), (29, false, 0), (30, false, 0), (31, false, 0), (32, false, 0), (33, false, 0), (34, false, 0), (10, false, 0), (10, true, 9)] [9]
    [Fct.val (Ja #[Ji .i8 y0, Ji .i8 y1, Ji .i8 y2]),
    Fct.num [] 3 [yq0, yq1, yq2],
    Fct.val (Ja #[Ji .i8 x0, Ji .i8 x1, Ji .i8 x2]),
    Fct.num [] 3 [xq0, xq1, xq2],
    Fct.val (Ji .i8 k),
    Fct.val (Ji Jl k),
    Fct.num [] 3 [kq],
    Fct.num [] 6 [kq * xq0, kq * xq1, kq * xq2],
    Fct.num [] 10 [yq0 + (kq * xq0), yq1 + (kq * xq1), yq2 + (kq * xq2)],
    Fct.ptr 12,
    Fct.var [] 10 [yq0 + (kq * xq0), yq1 + (kq * xq1), yq2 + (kq * xq2)]]
    #[true, true, true, true, true, true, true, true, true, true, true] 0 rfl (by kernel_rfl) rfl (by kernel_rfl) ⟨?_, ?_, ?_, ?_, ?_, ?_, ?_, ?_, ?_, ?_, ?_, trivial⟩
    (fun val3 => ⟨#[Ja #[Ji .i8 n0, Ji .i8 n1, Ji .i8 n2, Ji .i8 n3, Ji .i8 n4, Ji .i8 n5, Ji .u8 d], Ja #[Ji .i8 x0, Ji .i8 x1, Ji .i8 x2, Ji .i8 y0, Ji .i8 y1, Ji .i8 y2], Ji .i8 k, Jp (Jo ⟨w.heap.size, 0, Jn⟩), Jp (Jo ⟨w.heap.size + 1, 0, Jn⟩), undef, .bool false, Jp (Jo ⟨p7, 0, Jn⟩), Jp (Jo ⟨p8, 0, Jn⟩), Jp (Jo ⟨p9, 0, Jn⟩), val3 10, undef, undef, undef, undef, .bool true, .bool false, val1 17, val1 18, val1 19, val1 20, val2 21, val2 22, val2 23, val2 24, val2 25, val3 26, val3 27, val3 28, val3 29, val3 30, val3 31, val3 32, val3 33, val3 34, undef, undef, undef, undef, undef, undef, undef, undef, undef, undef, undef, undef, undef, undef, undef, undef, undef, undef, undef, undef, undef, undef, undef, undef, undef, undef, undef, undef, undef, undef, undef, undef, undef, undef, undef, undef, undef, undef, undef, undef, undef, undef, undef, undef, undef, undef, undef, undef, undef, undef, undef, undef, undef, undef, undef, undef, undef, undef, undef, undef, undef, undef, undef, undef, undef, undef, undef, undef, undef, undef, undef, undef, undef, undef], []⟩) (fun val3 => by kernel_rfl) (fun val3 W3 hB hF => ⟨?_⟩)
  · exact Fk 3 V8.out (.env rfl (by kernel_rfl)) rfl rfl rfl (by kernel_rfl) (by kernel_rfl) rfl (by kernel_rfl)
  · exact EZ cf22 rfl rfl rfl rfl rfl (by kernel_rfl) (fun a v hB hE hD => (show Calls _ _ #[Act.at_ a 26] v _ from by rw[show Act.at_ a 26 =_ from hD 0 _ (by kernel_rfl) rfl];exact Hy.out v (G.out v hB)))
  · exact Fk 3 V7.out (.env rfl (by kernel_rfl)) rfl rfl rfl (by kernel_rfl) (by kernel_rfl) rfl (by kernel_rfl)
  · exact EZ cf22 rfl rfl rfl rfl rfl (by kernel_rfl) (fun a v hB hE hD => (show Calls _ _ #[Act.at_ a 28] v _ from by rw[show Act.at_ a 28 =_ from hD 2 _ (by kernel_rfl) rfl];exact Hx.out v (G.out v hB)))
  · exact Fh rfl rfl (.env rfl (by kernel_rfl)) rfl (by kernel_rfl)
  · exact Fm (op := .convert 50 3 (.tmp 30)) rfl rfl (fun _ => rfl) (.dep 4 rfl (by kernel_rfl)) rfl (by kernel_rfl) (fun a w e => by have :=hwk;unfold execOp bare;dsimp only;rw[e];go_simp <;> rfl)
  · exact EZ cf51 rfl rfl rfl rfl rfl (by kernel_rfl) (fun a v hB hE hD => (show Calls _ _ #[Act.at_ a 31] v _ from by rw[show Act.at_ a 31 =_ from hD 5 _ (by kernel_rfl) rfl];exact HK.out v))
  · exact EZ cf52 rfl rfl rfl rfl rfl (by kernel_rfl) (fun a v hB hE hD => Da (hD 3 _ (by kernel_rfl) rfl) (hD 6 _ (by kernel_rfl) rfl) (by kernel_rfl) (G.out v hB))
  · exact EZ cf33 rfl rfl rfl rfl rfl (by kernel_rfl) (fun a v hB hE hD => DC (hD 1 _ (by kernel_rfl) rfl) (hD 7 _ (by kernel_rfl) rfl) (by kernel_rfl) (G.out v hB))
  · exact Fb [Ji Jl 0, Jp Jn, Ji Jl 0, Jp Jn, Ji Jl 0, Jp Jn, Ji Jl 0, Jp Jn, Ji Jl 0, Jp Jn, Ji Jl 0, Jp Jn] 35 rfl rfl rfl (by kernel_rfl) (by kernel_rfl) (fun a w => by go_simp)
  · exact E9 9 8 rfl rfl rfl rfl rfl (by kernel_rfl) (by kernel_rfl)
  obtain⟨p10, e10, V10⟩ : (Fct.var [] 10 [yq0 + (kq * xq0), yq1 + (kq * xq1), yq2 + (kq * xq2)]).P W3 (val3 10) :=hF 10 _ rfl;clear hF;generalize val3 10 =t10 at *
  subst e10;replace V0 :=Lib.hid (fun w' (hb : Below W3.heap.size W3 w') => V0.out w' (Jd hB hb));replace V1 :=Lib.hid (fun w' (hb : Below W3.heap.size W3 w') => V1.out w' (Jd hB hb));replace V7 :=Lib.hid (fun w' (hb : Below W3.heap.size W3 w') => V7.out w' (Jd hB hb));replace V8 :=Lib.hid (fun w' (hb : Below W3.heap.size W3 w') => V8.out w' (Jd hB hb));replace V9 :=Lib.hid (fun w' (hb : Below W3.heap.size W3 w') => V9.out w' (Jd hB hb));replace V10 :=Lib.hid (fun w' (hb : Below W3.heap.size W3 w') => V10.keep hb);replace K :=Lib.hid (Jd K.out hB);replace G :=Lib.hid (fun w' (hb : Below W3.heap.size W3 w') => G.out w' (Jd hB hb));clear hB;refine Last.nil (by kernel_rfl) ?_;go_upto_region 6 with fail
  refine Fy 109 [(35, false, 0), (36, false, 0), (37, false, 0), (38, false, 0), (39, false, 0), (40, false, 0), (41, false, 0), (42, false, 0), (43, false, 0), (44, false, 0), (45, false, 0), (46, false, 0), (47, false, 0)] []
    [Fct.num [] 13 [xq0, xq1, xq2, yq1 * xq2 - yq2 * xq1, yq2 * xq0 - yq0 * xq2, yq0 * xq1 - yq1 * xq0],
    Fct.num [] 10 [yq0 + (kq * xq0), yq1 + (kq * xq1), yq2 + (kq * xq2)],
    Fct.num [] 61 [(yq1 * xq2-yq2 * xq1) + (xq1 * (yq2 + (kq * xq2))-xq2 * (yq1 + (kq * xq1))), (yq2 * xq0-yq0 * xq2) + (xq2 * (yq0 + (kq * xq0))-xq0 * (yq2 + (kq * xq2))), (yq0 * xq1-yq1 * xq0) + (xq0 * (yq1 + (kq * xq1))-xq1 * (yq0 + (kq * xq0)))],
    Fct.val (.bool true),
    Fct.val (.bool false),
    Fct.val (.bool false),
    Fct.val (Jp (Jo ⟨p9, 0, Jn⟩)),
    Fct.num [] 13 [xq0, xq1, xq2],
    Fct.val (Ja #[Ji .i8 x0, Ji .i8 x1, Ji .i8 x2]),
    Fct.num [] 3 [xq0, xq1, xq2],
    Fct.val (.bool true),
    Fct.val (.bool false),
    Fct.val (.bool false)]
    #[true, true, true, true, true, true, true, true, true, true, true, true, true] 0 rfl (by kernel_rfl) rfl (by kernel_rfl) ⟨?_, ?_, ?_, ?_, ?_, ?_, ?_, ?_, ?_, ?_, ?_, ?_, ?_, trivial⟩
    (fun val4 => ⟨#[Ja #[Ji .i8 n0, Ji .i8 n1, Ji .i8 n2, Ji .i8 n3, Ji .i8 n4, Ji .i8 n5, Ji .u8 d], Ja #[Ji .i8 x0, Ji .i8 x1, Ji .i8 x2, Ji .i8 y0, Ji .i8 y1, Ji .i8 y2], Ji .i8 k, Jp (Jo ⟨w.heap.size, 0, Jn⟩), Jp (Jo ⟨w.heap.size + 1, 0, Jn⟩), undef, .bool false, Jp (Jo ⟨p7, 0, Jn⟩), Jp (Jo ⟨p8, 0, Jn⟩), Jp (Jo ⟨p9, 0, Jn⟩), Jp (Jo ⟨p10, 0, Jn⟩), undef, undef, undef, undef, .bool true, .bool false, val1 17, val1 18, val1 19, val1 20, val2 21, val2 22, val2 23, val2 24, val2 25, val3 26, val3 27, val3 28, val3 29, val3 30, val3 31, val3 32, val3 33, val3 34, val4 35, val4 36, val4 37, val4 38, val4 39, val4 40, val4 41, val4 42, val4 43, val4 44, val4 45, val4 46, val4 47, undef, undef, undef, undef, undef, undef, undef, undef, undef, undef, undef, undef, undef, undef, undef, undef, undef, undef, undef, undef, undef, undef, undef, undef, undef, undef, undef, undef, undef, undef, undef, undef, undef, undef, undef, undef, undef, undef, undef, undef, undef, undef, undef, undef, undef, undef, undef, undef, undef, undef, undef, undef, undef, undef, undef, undef, undef, undef, undef, undef, undef], []⟩) (fun val4 => by kernel_rfl) (fun val4 W4 hB hF => ⟨?_⟩)
  · exact E7 V9.out (.env rfl (by kernel_rfl)) rfl rfl rfl (by kernel_rfl) (by kernel_rfl)
  · exact E7 V10.out (.env rfl (by kernel_rfl)) rfl rfl rfl (by kernel_rfl) (by kernel_rfl)
  · exact EZ cf24 rfl rfl rfl rfl rfl (by kernel_rfl) (fun a v hB hE hD => Dq (hD 0 _ (by kernel_rfl) rfl) (hD 1 _ (by kernel_rfl) rfl) (by kernel_rfl) (G.out v hB))
  · exact EZ cf18 rfl rfl rfl rfl rfl (by kernel_rfl) (fun a v hB hE hD => Ft (hD 2 _ (by kernel_rfl) rfl) (Zw.2 ⟨eqn0, eqn1, eqn2⟩) (by kernel_rfl))
  · exact Fm (op := .unOp .not 4 (.tmp 38)) rfl rfl (fun _ => rfl) (.dep 3 rfl (by kernel_rfl)) rfl (by kernel_rfl) (fun a w e => by unfold execOp bare;dsimp only;rw[e];go_simp <;> rfl)
  · exact E5 4 rfl rfl rfl rfl (by kernel_rfl)
  · exact E4 rfl rfl (.env rfl (by kernel_rfl)) ⟨false, rfl, rfl, by kernel_rfl, rfl⟩ (by kernel_rfl) (fun w => by go_simp)
  · exact E6 0 3 V9.out (.dep 6 rfl (by kernel_rfl)) rfl rfl ⟨false, rfl, rfl, by kernel_rfl, rfl⟩ (by kernel_rfl) (by kernel_rfl) (by kernel_rfl)
  · exact Fk 3 V7.out (.env rfl (by kernel_rfl)) rfl rfl ⟨false, rfl, rfl, by kernel_rfl, rfl⟩ (by kernel_rfl) (by kernel_rfl) rfl (by kernel_rfl)
  · exact EZ cf22 rfl rfl rfl rfl ⟨false, rfl, rfl, by kernel_rfl, rfl⟩ (by kernel_rfl) (fun a v hB hE hD => (show Calls _ _ #[Act.at_ a 43] v _ from by rw[show Act.at_ a 43 =_ from hD 8 _ (by kernel_rfl) rfl];exact Hx.out v (G.out v hB)))
  · exact EZ cf23 rfl rfl rfl rfl ⟨false, rfl, rfl, by kernel_rfl, rfl⟩ (by kernel_rfl) (fun a v hB hE hD => FX (hD 7 _ (by kernel_rfl) rfl) (hD 9 _ (by kernel_rfl) rfl) rfl rfl rfl (by kernel_rfl))
  · exact Fm (op := .unOp .not 4 (.tmp 45)) rfl rfl (fun _ => rfl) (.dep 10 rfl (by kernel_rfl)) ⟨false, rfl, rfl, by kernel_rfl, rfl⟩ (by kernel_rfl) (fun a w e => by unfold execOp bare;dsimp only;rw[e];go_simp <;> rfl)
  · exact Nz 5 11 rfl rfl rfl rfl rfl (by kernel_rfl)
  have e47 : val4 47 = .bool false :=hF 12 _ rfl;clear hF;generalize val4 47 =t47 at *
  subst e47;replace V0 :=Lib.hid (fun w' (hb : Below W4.heap.size W4 w') => V0.out w' (Jd hB hb));replace V1 :=Lib.hid (fun w' (hb : Below W4.heap.size W4 w') => V1.out w' (Jd hB hb));replace V7 :=Lib.hid (fun w' (hb : Below W4.heap.size W4 w') => V7.out w' (Jd hB hb));replace V8 :=Lib.hid (fun w' (hb : Below W4.heap.size W4 w') => V8.out w' (Jd hB hb));replace V9 :=Lib.hid (fun w' (hb : Below W4.heap.size W4 w') => V9.out w' (Jd hB hb));replace V10 :=Lib.hid (fun w' (hb : Below W4.heap.size W4 w') => V10.out w' (Jd hB hb));replace K :=Lib.hid (Jd K.out hB);replace G :=Lib.hid (fun w' (hb : Below W4.heap.size W4 w') => G.out w' (Jd hB hb));clear hB;refine Last.nil (by kernel_rfl) ?_;go_upto_region 8 with fail
  rename_i Kr hr K9 h9
  have key : ∀(W : JW) (u11 u48 u49 u50 u51 u52 u53 u54 u55 u56 u57 u58 u59 u60 u61 u62 u63 u64 u65 u66 u67 u68 : Value), (Jh W w.heap.size [Ji .i8 n0, Ji .i8 n1, Ji .i8 n2, Ji .i8 n3, Ji .i8 n4, Ji .i8 n5, Ji .u8 d] /\ Below w.heap.size w W) -> Kr ⟨#[Ja #[Ji .i8 n0, Ji .i8 n1, Ji .i8 n2, Ji .i8 n3, Ji .i8 n4, Ji .i8 n5, Ji .u8 d], Ja #[Ji .i8 x0, Ji .i8 x1, Ji .i8 x2, Ji .i8 y0, Ji .i8 y1, Ji .i8 y2], Ji .i8 k, Jp (Jo ⟨w.heap.size, 0, Jn⟩), Jp (Jo ⟨w.heap.size + 1, 0, Jn⟩), undef, .bool false, Jp (Jo ⟨p7, 0, Jn⟩), Jp (Jo ⟨p8, 0, Jn⟩), Jp (Jo ⟨p9, 0, Jn⟩), Jp (Jo ⟨p10, 0, Jn⟩), u11, undef, undef, undef, .bool true, .bool false, val1 17, val1 18, val1 19, val1 20, val2 21, val2 22, val2 23, val2 24, val2 25, val3 26, val3 27, val3 28, val3 29, val3 30, val3 31, val3 32, val3 33, val3 34, val4 35, val4 36, val4 37, val4 38, val4 39, val4 40, val4 41, val4 42, val4 43, val4 44, val4 45, val4 46, .bool false, u48, u49, u50, u51, u52, u53, u54, u55, u56, u57, u58, u59, u60, u61, u62, u63, u64, u65, u66, u67, u68, .bool false, undef, undef, undef, undef, undef, undef, undef, undef, undef, undef, undef, undef, undef, undef, undef, undef, undef, undef, undef, undef, undef, undef, undef, undef, undef, undef, undef, undef, undef, undef, undef, undef, undef, undef, undef, undef, undef, undef, undef], []⟩ W :=by
    intro W u11 u48 u49 u50 u51 u52 u53 u54 u55 u56 u57 u58 u59 u60 u61 u62 u63 u64 u65 u66 u67 u68 hf;have V0 :=Lib.hid (fun w' (hb : Below W.heap.size W w') => hf.1.keep hb);have K :=Lib.hid hf.2;have G :=Lib.hid (fun w' (hb : Below W.heap.size W w') => HG.out.below (hf.2.trans (hb.mono hf.2.size)));clear hf V1 V7 V8 V9 V10 hb hzb h9;refine hr _ _ ?_;clear hr;go_upto_region 11 with fail
    refine E8 109 [(70, false, 0), (71, false, 0), (12, false, 0), (12, true, 2)] [2]
      [Fct.val (Ja #[Ji .i8 n0, Ji .i8 n1, Ji .i8 n2, Ji .i8 n3, Ji .i8 n4, Ji .i8 n5, Ji .u8 d]),
      Fct.num [] 4 [a0, a1, a2, a3, a4, a5],
      Fct.ptr 24,
      Fct.var [] 4 [a0, a1, a2, a3, a4, a5]]
      0 rfl (by kernel_rfl) rfl ⟨?_, ?_, ?_, ?_, trivial⟩
      (fun val7 => ⟨#[Ja #[Ji .i8 n0, Ji .i8 n1, Ji .i8 n2, Ji .i8 n3, Ji .i8 n4, Ji .i8 n5, Ji .u8 d], Ja #[Ji .i8 x0, Ji .i8 x1, Ji .i8 x2, Ji .i8 y0, Ji .i8 y1, Ji .i8 y2], Ji .i8 k, Jp (Jo ⟨w.heap.size, 0, Jn⟩), Jp (Jo ⟨w.heap.size + 1, 0, Jn⟩), undef, .bool false, Jp (Jo ⟨p7, 0, Jn⟩), Jp (Jo ⟨p8, 0, Jn⟩), Jp (Jo ⟨p9, 0, Jn⟩), Jp (Jo ⟨p10, 0, Jn⟩), u11, val7 12, undef, undef, .bool true, .bool false, val1 17, val1 18, val1 19, val1 20, val2 21, val2 22, val2 23, val2 24, val2 25, val3 26, val3 27, val3 28, val3 29, val3 30, val3 31, val3 32, val3 33, val3 34, val4 35, val4 36, val4 37, val4 38, val4 39, val4 40, val4 41, val4 42, val4 43, val4 44, val4 45, val4 46, .bool false, u48, u49, u50, u51, u52, u53, u54, u55, u56, u57, u58, u59, u60, u61, u62, u63, u64, u65, u66, u67, u68, .bool false, val7 70, val7 71, undef, undef, undef, undef, undef, undef, undef, undef, undef, undef, undef, undef, undef, undef, undef, undef, undef, undef, undef, undef, undef, undef, undef, undef, undef, undef, undef, undef, undef, undef, undef, undef, undef, undef, undef, undef, undef], []⟩) (fun val7 => by kernel_rfl) (fun val7 W7 hB hF => ⟨?_⟩)
    · exact Fk 7 V0.out (.env rfl (by kernel_rfl)) rfl rfl rfl (by kernel_rfl) (by kernel_rfl) rfl (by kernel_rfl)
    · exact EZ cf21 rfl rfl rfl rfl rfl (by kernel_rfl) (fun a v hB hE hD => (show Calls _ _ #[Act.at_ a 70] v _ from by rw[show Act.at_ a 70 =_ from hD 0 _ (by kernel_rfl) rfl];exact Ha.out v (G.out v hB)))
    · exact Fb [Ji Jl 0, Jp Jn, Ji Jl 0, Jp Jn, Ji Jl 0, Jp Jn, Ji Jl 0, Jp Jn, Ji Jl 0, Jp Jn, Ji Jl 0, Jp Jn, Ji Jl 0, Jp Jn, Ji Jl 0, Jp Jn, Ji Jl 0, Jp Jn, Ji Jl 0, Jp Jn, Ji Jl 0, Jp Jn, Ji Jl 0, Jp Jn] 37 rfl rfl rfl (by kernel_rfl) (by kernel_rfl) (fun a w => by go_simp)
    · exact E9 2 1 rfl rfl rfl rfl rfl (by kernel_rfl) (by kernel_rfl)
    obtain⟨p12, e12, V12⟩ : (Fct.var [] 4 [a0, a1, a2, a3, a4, a5]).P W7 (val7 12) :=hF 3 _ rfl;clear hF;generalize val7 12 =t12 at *
    subst e12;replace V0 :=Lib.hid (fun w' (hb : Below W7.heap.size W7 w') => V0.out w' (Jd hB hb));replace V12 :=Lib.hid (fun w' (hb : Below W7.heap.size W7 w') => V12.keep hb);replace K :=Lib.hid (Jd K.out hB);replace G :=Lib.hid (fun w' (hb : Below W7.heap.size W7 w') => G.out w' (Jd hB hb));clear hB;refine Last.nil (by kernel_rfl) ?_;rcases hκ with rfl|rfl|⟨rfl|rfl, ⟨i0, i1, i2⟩, ⟨j0, j1, j2⟩, hd⟩
    · go_upto_region 12 with fail
      refine E8 109 [(72, false, 0), (73, false, 0), (13, false, 0), (13, true, 2)] [2]
        [Fct.num [] 4 [a0, a1, a2, a3, a4, a5],
        Fct.num [Ji Jl 0] 161 [g0, g1, g2, e0, e1, e2, h],
        Fct.ptr 29,
        Fct.var [Ji Jl 0] 161 [g0, g1, g2, e0, e1, e2, h]]
        0 rfl (by kernel_rfl) rfl ⟨?_, ?_, ?_, ?_, trivial⟩
        (fun val8 => ⟨#[Ja #[Ji .i8 n0, Ji .i8 n1, Ji .i8 n2, Ji .i8 n3, Ji .i8 n4, Ji .i8 n5, Ji .u8 d], Ja #[Ji .i8 x0, Ji .i8 x1, Ji .i8 x2, Ji .i8 y0, Ji .i8 y1, Ji .i8 y2], Ji .i8 k, Jp (Jo ⟨w.heap.size, 0, Jn⟩), Jp (Jo ⟨w.heap.size + 1, 0, Jn⟩), undef, .bool false, Jp (Jo ⟨p7, 0, Jn⟩), Jp (Jo ⟨p8, 0, Jn⟩), Jp (Jo ⟨p9, 0, Jn⟩), Jp (Jo ⟨p10, 0, Jn⟩), u11, Jp (Jo ⟨p12, 0, Jn⟩), val8 13, undef, .bool true, .bool false, val1 17, val1 18, val1 19, val1 20, val2 21, val2 22, val2 23, val2 24, val2 25, val3 26, val3 27, val3 28, val3 29, val3 30, val3 31, val3 32, val3 33, val3 34, val4 35, val4 36, val4 37, val4 38, val4 39, val4 40, val4 41, val4 42, val4 43, val4 44, val4 45, val4 46, .bool false, u48, u49, u50, u51, u52, u53, u54, u55, u56, u57, u58, u59, u60, u61, u62, u63, u64, u65, u66, u67, u68, .bool false, val7 70, val7 71, val8 72, val8 73, undef, undef, undef, undef, undef, undef, undef, undef, undef, undef, undef, undef, undef, undef, undef, undef, undef, undef, undef, undef, undef, undef, undef, undef, undef, undef, undef, undef, undef, undef, undef, undef, undef, undef, undef], []⟩) (fun val8 => by kernel_rfl) (fun val8 W8 hB hF => ⟨?_⟩)
      · exact E7 V12.out (.env rfl (by kernel_rfl)) rfl rfl rfl (by kernel_rfl) (by kernel_rfl)
      · exact EZ cf47 rfl rfl rfl rfl rfl (by kernel_rfl) (fun a v hB hE hD => HX.out _ v (Num.up (hD 0 _ (by kernel_rfl) rfl) (by decide)) (G.out v hB))
      · exact Fb [Ji Jl 0, Ji Jl 0, Jp Jn, Ji Jl 0, Jp Jn, Ji Jl 0, Jp Jn, Ji Jl 0, Jp Jn, Ji Jl 0, Jp Jn, Ji Jl 0, Jp Jn, Ji Jl 0, Jp Jn, Ji Jl 0, Jp Jn, Ji Jl 0, Jp Jn, Ji Jl 0, Jp Jn, Ji Jl 0, Jp Jn, Ji Jl 0, Jp Jn, Ji Jl 0, Jp Jn, Ji Jl 0, Jp Jn] 90 rfl rfl rfl (by kernel_rfl) (by kernel_rfl) (fun a w => by go_simp)
      · exact E9 2 1 rfl rfl rfl rfl rfl (by kernel_rfl) (by kernel_rfl)
      obtain⟨p13, e13, V13⟩ : (Fct.var [Ji Jl 0] 161 [g0, g1, g2, e0, e1, e2, h]).P W8 (val8 13) :=hF 3 _ rfl;clear hF;generalize val8 13 =t13 at *
      subst e13;replace V0 :=Lib.hid (fun w' (hb : Below W8.heap.size W8 w') => V0.out w' (Jd hB hb));replace V12 :=Lib.hid (fun w' (hb : Below W8.heap.size W8 w') => V12.out w' (Jd hB hb));replace V13 :=Lib.hid (fun w' (hb : Below W8.heap.size W8 w') => V13.keep hb);replace K :=Lib.hid (Jd K.out hB);replace G :=Lib.hid (fun w' (hb : Below W8.heap.size W8 w') => G.out w' (Jd hB hb));clear hB;refine Last.nil (by kernel_rfl) ?_;go_upto_region 13 with fail
      refine E8 109 [(74, false, 0), (75, false, 0), (76, false, 0), (77, false, 0), (78, false, 0), (79, false, 0), (80, false, 0), (81, false, 0)] []
        [Fct.val (Jp (Jo ⟨p13, 0, Jn⟩)),
        Fct.val (Ji Jl 0),
        Fct.val (.bool true),
        Fct.val (.bool true),
        Fct.val (Jp (Jo ⟨p13, 0, Jn⟩)),
        Fct.val (Ji Jl 0),
        Fct.val (.bool true),
        Fct.val (.bool true)]
        0 rfl (by kernel_rfl) rfl ⟨?_, ?_, ?_, ?_, ?_, ?_, ?_, ?_, trivial⟩
        (fun val9 => ⟨#[Ja #[Ji .i8 n0, Ji .i8 n1, Ji .i8 n2, Ji .i8 n3, Ji .i8 n4, Ji .i8 n5, Ji .u8 d], Ja #[Ji .i8 x0, Ji .i8 x1, Ji .i8 x2, Ji .i8 y0, Ji .i8 y1, Ji .i8 y2], Ji .i8 k, Jp (Jo ⟨w.heap.size, 0, Jn⟩), Jp (Jo ⟨w.heap.size + 1, 0, Jn⟩), undef, .bool false, Jp (Jo ⟨p7, 0, Jn⟩), Jp (Jo ⟨p8, 0, Jn⟩), Jp (Jo ⟨p9, 0, Jn⟩), Jp (Jo ⟨p10, 0, Jn⟩), u11, Jp (Jo ⟨p12, 0, Jn⟩), Jp (Jo ⟨p13, 0, Jn⟩), undef, .bool true, .bool false, val1 17, val1 18, val1 19, val1 20, val2 21, val2 22, val2 23, val2 24, val2 25, val3 26, val3 27, val3 28, val3 29, val3 30, val3 31, val3 32, val3 33, val3 34, val4 35, val4 36, val4 37, val4 38, val4 39, val4 40, val4 41, val4 42, val4 43, val4 44, val4 45, val4 46, .bool false, u48, u49, u50, u51, u52, u53, u54, u55, u56, u57, u58, u59, u60, u61, u62, u63, u64, u65, u66, u67, u68, .bool false, val7 70, val7 71, val8 72, val8 73, val9 74, val9 75, val9 76, val9 77, val9 78, val9 79, val9 80, val9 81, undef, undef, undef, undef, undef, undef, undef, undef, undef, undef, undef, undef, undef, undef, undef, undef, undef, undef, undef, undef, undef, undef, undef, undef, undef, undef, undef], []⟩) (fun val9 => by kernel_rfl) (fun val9 W9 hB hF => ⟨?_⟩)
      · exact E4 rfl rfl (.env rfl (by kernel_rfl)) rfl (by kernel_rfl) (fun w => by go_simp)
      · exact FW V13.out rfl (.dep 0 rfl (by kernel_rfl)) rfl rfl rfl (by kernel_rfl) (by kernel_rfl)
      · exact Fm (op := .binOp .neq 3 (.tmp 75) (.const (Ji Jl 2)) 3) rfl rfl (fun _ => rfl) (.dep 1 rfl (by kernel_rfl)) rfl (by kernel_rfl) (fun a w e => by unfold execOp bare;dsimp only;rw[e];go_simp <;> rfl)
      · exact E5 2 rfl rfl rfl rfl (by kernel_rfl)
      · exact E4 rfl rfl (.env rfl (by kernel_rfl)) ⟨true, rfl, rfl, by kernel_rfl, rfl⟩ (by kernel_rfl) (fun w => by go_simp)
      · exact FW V13.out rfl (.dep 4 rfl (by kernel_rfl)) rfl rfl ⟨true, rfl, rfl, by kernel_rfl, rfl⟩ (by kernel_rfl) (by kernel_rfl)
      · exact Fm (op := .binOp .neq 3 (.tmp 79) (.const (Ji Jl 3)) 3) rfl rfl (fun _ => rfl) (.dep 5 rfl (by kernel_rfl)) ⟨true, rfl, rfl, by kernel_rfl, rfl⟩ (by kernel_rfl) (fun a w e => by unfold execOp bare;dsimp only;rw[e];go_simp <;> rfl)
      · exact Fe 3 6 rfl rfl rfl rfl rfl (by kernel_rfl)
      have e81 : val9 81 = .bool true :=hF 7 _ rfl;clear hF;generalize val9 81 =t81 at *
      subst e81;replace V0 :=Lib.hid (fun w' (hb : Below W9.heap.size W9 w') => V0.out w' (Jd hB hb));replace V12 :=Lib.hid (fun w' (hb : Below W9.heap.size W9 w') => V12.out w' (Jd hB hb));replace V13 :=Lib.hid (fun w' (hb : Below W9.heap.size W9 w') => V13.out w' (Jd hB hb));replace K :=Lib.hid (Jd K.out hB);replace G :=Lib.hid (fun w' (hb : Below W9.heap.size W9 w') => G.out w' (Jd hB hb));clear hB;refine Last.nil (by kernel_rfl) ?_;clear G V0 V12 V13;go_wp2_with fail
      exact bodyPost_ret (v := .bool true) (by simp[results, Tryz.results10, go_sem]) rfl ⟨_, rfl, K.out, rfl⟩
    · go_upto_region 12 with fail
      refine E8 109 [(72, false, 0), (73, false, 0), (13, false, 0), (13, true, 2)] [2]
        [Fct.num [] 4 [a0, a1, a2, a3, a4, a5],
        Fct.num [Ji Jl 1] 161 [g0, g1, g2, e0, e1, e2, h],
        Fct.ptr 29,
        Fct.var [Ji Jl 1] 161 [g0, g1, g2, e0, e1, e2, h]]
        0 rfl (by kernel_rfl) rfl ⟨?_, ?_, ?_, ?_, trivial⟩
        (fun val8 => ⟨#[Ja #[Ji .i8 n0, Ji .i8 n1, Ji .i8 n2, Ji .i8 n3, Ji .i8 n4, Ji .i8 n5, Ji .u8 d], Ja #[Ji .i8 x0, Ji .i8 x1, Ji .i8 x2, Ji .i8 y0, Ji .i8 y1, Ji .i8 y2], Ji .i8 k, Jp (Jo ⟨w.heap.size, 0, Jn⟩), Jp (Jo ⟨w.heap.size + 1, 0, Jn⟩), undef, .bool false, Jp (Jo ⟨p7, 0, Jn⟩), Jp (Jo ⟨p8, 0, Jn⟩), Jp (Jo ⟨p9, 0, Jn⟩), Jp (Jo ⟨p10, 0, Jn⟩), u11, Jp (Jo ⟨p12, 0, Jn⟩), val8 13, undef, .bool true, .bool false, val1 17, val1 18, val1 19, val1 20, val2 21, val2 22, val2 23, val2 24, val2 25, val3 26, val3 27, val3 28, val3 29, val3 30, val3 31, val3 32, val3 33, val3 34, val4 35, val4 36, val4 37, val4 38, val4 39, val4 40, val4 41, val4 42, val4 43, val4 44, val4 45, val4 46, .bool false, u48, u49, u50, u51, u52, u53, u54, u55, u56, u57, u58, u59, u60, u61, u62, u63, u64, u65, u66, u67, u68, .bool false, val7 70, val7 71, val8 72, val8 73, undef, undef, undef, undef, undef, undef, undef, undef, undef, undef, undef, undef, undef, undef, undef, undef, undef, undef, undef, undef, undef, undef, undef, undef, undef, undef, undef, undef, undef, undef, undef, undef, undef, undef, undef], []⟩) (fun val8 => by kernel_rfl) (fun val8 W8 hB hF => ⟨?_⟩)
      · exact E7 V12.out (.env rfl (by kernel_rfl)) rfl rfl rfl (by kernel_rfl) (by kernel_rfl)
      · exact EZ cf47 rfl rfl rfl rfl rfl (by kernel_rfl) (fun a v hB hE hD => HX.out _ v (Num.up (hD 0 _ (by kernel_rfl) rfl) (by decide)) (G.out v hB))
      · exact Fb [Ji Jl 0, Ji Jl 0, Jp Jn, Ji Jl 0, Jp Jn, Ji Jl 0, Jp Jn, Ji Jl 0, Jp Jn, Ji Jl 0, Jp Jn, Ji Jl 0, Jp Jn, Ji Jl 0, Jp Jn, Ji Jl 0, Jp Jn, Ji Jl 0, Jp Jn, Ji Jl 0, Jp Jn, Ji Jl 0, Jp Jn, Ji Jl 0, Jp Jn, Ji Jl 0, Jp Jn, Ji Jl 0, Jp Jn] 90 rfl rfl rfl (by kernel_rfl) (by kernel_rfl) (fun a w => by go_simp)
      · exact E9 2 1 rfl rfl rfl rfl rfl (by kernel_rfl) (by kernel_rfl)
      obtain⟨p13, e13, V13⟩ : (Fct.var [Ji Jl 1] 161 [g0, g1, g2, e0, e1, e2, h]).P W8 (val8 13) :=hF 3 _ rfl;clear hF;generalize val8 13 =t13 at *
      subst e13;replace V0 :=Lib.hid (fun w' (hb : Below W8.heap.size W8 w') => V0.out w' (Jd hB hb));replace V12 :=Lib.hid (fun w' (hb : Below W8.heap.size W8 w') => V12.out w' (Jd hB hb));replace V13 :=Lib.hid (fun w' (hb : Below W8.heap.size W8 w') => V13.keep hb);replace K :=Lib.hid (Jd K.out hB);replace G :=Lib.hid (fun w' (hb : Below W8.heap.size W8 w') => G.out w' (Jd hB hb));clear hB;refine Last.nil (by kernel_rfl) ?_;go_upto_region 13 with fail
      refine E8 109 [(74, false, 0), (75, false, 0), (76, false, 0), (77, false, 0), (78, false, 0), (79, false, 0), (80, false, 0), (81, false, 0)] []
        [Fct.val (Jp (Jo ⟨p13, 0, Jn⟩)),
        Fct.val (Ji Jl 1),
        Fct.val (.bool true),
        Fct.val (.bool true),
        Fct.val (Jp (Jo ⟨p13, 0, Jn⟩)),
        Fct.val (Ji Jl 1),
        Fct.val (.bool true),
        Fct.val (.bool true)]
        0 rfl (by kernel_rfl) rfl ⟨?_, ?_, ?_, ?_, ?_, ?_, ?_, ?_, trivial⟩
        (fun val9 => ⟨#[Ja #[Ji .i8 n0, Ji .i8 n1, Ji .i8 n2, Ji .i8 n3, Ji .i8 n4, Ji .i8 n5, Ji .u8 d], Ja #[Ji .i8 x0, Ji .i8 x1, Ji .i8 x2, Ji .i8 y0, Ji .i8 y1, Ji .i8 y2], Ji .i8 k, Jp (Jo ⟨w.heap.size, 0, Jn⟩), Jp (Jo ⟨w.heap.size + 1, 0, Jn⟩), undef, .bool false, Jp (Jo ⟨p7, 0, Jn⟩), Jp (Jo ⟨p8, 0, Jn⟩), Jp (Jo ⟨p9, 0, Jn⟩), Jp (Jo ⟨p10, 0, Jn⟩), u11, Jp (Jo ⟨p12, 0, Jn⟩), Jp (Jo ⟨p13, 0, Jn⟩), undef, .bool true, .bool false, val1 17, val1 18, val1 19, val1 20, val2 21, val2 22, val2 23, val2 24, val2 25, val3 26, val3 27, val3 28, val3 29, val3 30, val3 31, val3 32, val3 33, val3 34, val4 35, val4 36, val4 37, val4 38, val4 39, val4 40, val4 41, val4 42, val4 43, val4 44, val4 45, val4 46, .bool false, u48, u49, u50, u51, u52, u53, u54, u55, u56, u57, u58, u59, u60, u61, u62, u63, u64, u65, u66, u67, u68, .bool false, val7 70, val7 71, val8 72, val8 73, val9 74, val9 75, val9 76, val9 77, val9 78, val9 79, val9 80, val9 81, undef, undef, undef, undef, undef, undef, undef, undef, undef, undef, undef, undef, undef, undef, undef, undef, undef, undef, undef, undef, undef, undef, undef, undef, undef, undef, undef], []⟩) (fun val9 => by kernel_rfl) (fun val9 W9 hB hF => ⟨?_⟩)
      · exact E4 rfl rfl (.env rfl (by kernel_rfl)) rfl (by kernel_rfl) (fun w => by go_simp)
      · exact FW V13.out rfl (.dep 0 rfl (by kernel_rfl)) rfl rfl rfl (by kernel_rfl) (by kernel_rfl)
      · exact Fm (op := .binOp .neq 3 (.tmp 75) (.const (Ji Jl 2)) 3) rfl rfl (fun _ => rfl) (.dep 1 rfl (by kernel_rfl)) rfl (by kernel_rfl) (fun a w e => by unfold execOp bare;dsimp only;rw[e];go_simp <;> rfl)
      · exact E5 2 rfl rfl rfl rfl (by kernel_rfl)
      · exact E4 rfl rfl (.env rfl (by kernel_rfl)) ⟨true, rfl, rfl, by kernel_rfl, rfl⟩ (by kernel_rfl) (fun w => by go_simp)
      · exact FW V13.out rfl (.dep 4 rfl (by kernel_rfl)) rfl rfl ⟨true, rfl, rfl, by kernel_rfl, rfl⟩ (by kernel_rfl) (by kernel_rfl)
      · exact Fm (op := .binOp .neq 3 (.tmp 79) (.const (Ji Jl 3)) 3) rfl rfl (fun _ => rfl) (.dep 5 rfl (by kernel_rfl)) ⟨true, rfl, rfl, by kernel_rfl, rfl⟩ (by kernel_rfl) (fun a w e => by unfold execOp bare;dsimp only;rw[e];go_simp <;> rfl)
      · exact Fe 3 6 rfl rfl rfl rfl rfl (by kernel_rfl)
      have e81 : val9 81 = .bool true :=hF 7 _ rfl;clear hF;generalize val9 81 =t81 at *
      subst e81;replace V0 :=Lib.hid (fun w' (hb : Below W9.heap.size W9 w') => V0.out w' (Jd hB hb));replace V12 :=Lib.hid (fun w' (hb : Below W9.heap.size W9 w') => V12.out w' (Jd hB hb));replace V13 :=Lib.hid (fun w' (hb : Below W9.heap.size W9 w') => V13.out w' (Jd hB hb));replace K :=Lib.hid (Jd K.out hB);replace G :=Lib.hid (fun w' (hb : Below W9.heap.size W9 w') => G.out w' (Jd hB hb));clear hB;refine Last.nil (by kernel_rfl) ?_;clear G V0 V12 V13;go_wp2_with fail
      exact bodyPost_ret (v := .bool true) (by simp[results, Tryz.results10, go_sem]) rfl ⟨_, rfl, K.out, rfl⟩
    · go_upto_region 12 with fail
      refine E8 109 [(72, false, 0), (73, false, 0), (13, false, 0), (13, true, 2)] [2]
        [Fct.num [] 4 [a0, a1, a2, a3, a4, a5],
        Fct.num [Ji Jl 2] 161 [g0, g1, g2, e0, e1, e2, h],
        Fct.ptr 29,
        Fct.var [Ji Jl 2] 161 [g0, g1, g2, e0, e1, e2, h]]
        0 rfl (by kernel_rfl) rfl ⟨?_, ?_, ?_, ?_, trivial⟩
        (fun val8 => ⟨#[Ja #[Ji .i8 n0, Ji .i8 n1, Ji .i8 n2, Ji .i8 n3, Ji .i8 n4, Ji .i8 n5, Ji .u8 d], Ja #[Ji .i8 x0, Ji .i8 x1, Ji .i8 x2, Ji .i8 y0, Ji .i8 y1, Ji .i8 y2], Ji .i8 k, Jp (Jo ⟨w.heap.size, 0, Jn⟩), Jp (Jo ⟨w.heap.size + 1, 0, Jn⟩), undef, .bool false, Jp (Jo ⟨p7, 0, Jn⟩), Jp (Jo ⟨p8, 0, Jn⟩), Jp (Jo ⟨p9, 0, Jn⟩), Jp (Jo ⟨p10, 0, Jn⟩), u11, Jp (Jo ⟨p12, 0, Jn⟩), val8 13, undef, .bool true, .bool false, val1 17, val1 18, val1 19, val1 20, val2 21, val2 22, val2 23, val2 24, val2 25, val3 26, val3 27, val3 28, val3 29, val3 30, val3 31, val3 32, val3 33, val3 34, val4 35, val4 36, val4 37, val4 38, val4 39, val4 40, val4 41, val4 42, val4 43, val4 44, val4 45, val4 46, .bool false, u48, u49, u50, u51, u52, u53, u54, u55, u56, u57, u58, u59, u60, u61, u62, u63, u64, u65, u66, u67, u68, .bool false, val7 70, val7 71, val8 72, val8 73, undef, undef, undef, undef, undef, undef, undef, undef, undef, undef, undef, undef, undef, undef, undef, undef, undef, undef, undef, undef, undef, undef, undef, undef, undef, undef, undef, undef, undef, undef, undef, undef, undef, undef, undef], []⟩) (fun val8 => by kernel_rfl) (fun val8 W8 hB hF => ⟨?_⟩)
      · exact E7 V12.out (.env rfl (by kernel_rfl)) rfl rfl rfl (by kernel_rfl) (by kernel_rfl)
      · exact EZ cf47 rfl rfl rfl rfl rfl (by kernel_rfl) (fun a v hB hE hD => HX.out _ v (Num.up (hD 0 _ (by kernel_rfl) rfl) (by decide)) (G.out v hB))
      · exact Fb [Ji Jl 0, Ji Jl 0, Jp Jn, Ji Jl 0, Jp Jn, Ji Jl 0, Jp Jn, Ji Jl 0, Jp Jn, Ji Jl 0, Jp Jn, Ji Jl 0, Jp Jn, Ji Jl 0, Jp Jn, Ji Jl 0, Jp Jn, Ji Jl 0, Jp Jn, Ji Jl 0, Jp Jn, Ji Jl 0, Jp Jn, Ji Jl 0, Jp Jn, Ji Jl 0, Jp Jn, Ji Jl 0, Jp Jn] 90 rfl rfl rfl (by kernel_rfl) (by kernel_rfl) (fun a w => by go_simp)
      · exact E9 2 1 rfl rfl rfl rfl rfl (by kernel_rfl) (by kernel_rfl)
      obtain⟨p13, e13, V13⟩ : (Fct.var [Ji Jl 2] 161 [g0, g1, g2, e0, e1, e2, h]).P W8 (val8 13) :=hF 3 _ rfl;clear hF;generalize val8 13 =t13 at *
      subst e13;replace V0 :=Lib.hid (fun w' (hb : Below W8.heap.size W8 w') => V0.out w' (Jd hB hb));replace V12 :=Lib.hid (fun w' (hb : Below W8.heap.size W8 w') => V12.out w' (Jd hB hb));replace V13 :=Lib.hid (fun w' (hb : Below W8.heap.size W8 w') => V13.keep hb);replace K :=Lib.hid (Jd K.out hB);replace G :=Lib.hid (fun w' (hb : Below W8.heap.size W8 w') => G.out w' (Jd hB hb));clear hB;refine Last.nil (by kernel_rfl) ?_;go_upto_region 13 with fail
      refine E8 109 [(74, false, 0), (75, false, 0), (76, false, 0), (77, false, 0), (78, false, 0), (79, false, 0), (80, false, 0), (81, false, 0)] []
        [Fct.val (Jp (Jo ⟨p13, 0, Jn⟩)),
        Fct.val (Ji Jl 2),
        Fct.val (.bool false),
        Fct.val (.bool false),
        Fct.val (undef),
        Fct.val (undef),
        Fct.val (undef),
        Fct.val (.bool false)]
        0 rfl (by kernel_rfl) rfl ⟨?_, ?_, ?_, ?_, ?_, ?_, ?_, ?_, trivial⟩
        (fun val9 => ⟨#[Ja #[Ji .i8 n0, Ji .i8 n1, Ji .i8 n2, Ji .i8 n3, Ji .i8 n4, Ji .i8 n5, Ji .u8 d], Ja #[Ji .i8 x0, Ji .i8 x1, Ji .i8 x2, Ji .i8 y0, Ji .i8 y1, Ji .i8 y2], Ji .i8 k, Jp (Jo ⟨w.heap.size, 0, Jn⟩), Jp (Jo ⟨w.heap.size + 1, 0, Jn⟩), undef, .bool false, Jp (Jo ⟨p7, 0, Jn⟩), Jp (Jo ⟨p8, 0, Jn⟩), Jp (Jo ⟨p9, 0, Jn⟩), Jp (Jo ⟨p10, 0, Jn⟩), u11, Jp (Jo ⟨p12, 0, Jn⟩), Jp (Jo ⟨p13, 0, Jn⟩), undef, .bool true, .bool false, val1 17, val1 18, val1 19, val1 20, val2 21, val2 22, val2 23, val2 24, val2 25, val3 26, val3 27, val3 28, val3 29, val3 30, val3 31, val3 32, val3 33, val3 34, val4 35, val4 36, val4 37, val4 38, val4 39, val4 40, val4 41, val4 42, val4 43, val4 44, val4 45, val4 46, .bool false, u48, u49, u50, u51, u52, u53, u54, u55, u56, u57, u58, u59, u60, u61, u62, u63, u64, u65, u66, u67, u68, .bool false, val7 70, val7 71, val8 72, val8 73, val9 74, val9 75, val9 76, val9 77, val9 78, val9 79, val9 80, val9 81, undef, undef, undef, undef, undef, undef, undef, undef, undef, undef, undef, undef, undef, undef, undef, undef, undef, undef, undef, undef, undef, undef, undef, undef, undef, undef, undef], []⟩) (fun val9 => by kernel_rfl) (fun val9 W9 hB hF => ⟨?_⟩)
      · exact E4 rfl rfl (.env rfl (by kernel_rfl)) rfl (by kernel_rfl) (fun w => by go_simp)
      · exact FW V13.out rfl (.dep 0 rfl (by kernel_rfl)) rfl rfl rfl (by kernel_rfl) (by kernel_rfl)
      · exact Fm (op := .binOp .neq 3 (.tmp 75) (.const (Ji Jl 2)) 3) rfl rfl (fun _ => rfl) (.dep 1 rfl (by kernel_rfl)) rfl (by kernel_rfl) (fun a w e => by unfold execOp bare;dsimp only;rw[e];go_simp <;> rfl)
      · exact E5 2 rfl rfl rfl rfl (by kernel_rfl)
      · exact FC rfl ⟨false, rfl, rfl, by kernel_rfl, rfl⟩ (by kernel_rfl)
      · exact FC rfl ⟨false, rfl, rfl, by kernel_rfl, rfl⟩ (by kernel_rfl)
      · exact FC rfl ⟨false, rfl, rfl, by kernel_rfl, rfl⟩ (by kernel_rfl)
      · exact Dx 3 rfl rfl rfl rfl (by kernel_rfl)
      have e81 : val9 81 = .bool false :=hF 7 _ rfl;clear hF;generalize val9 81 =t81 at *
      subst e81;replace V0 :=Lib.hid (fun w' (hb : Below W9.heap.size W9 w') => V0.out w' (Jd hB hb));replace V12 :=Lib.hid (fun w' (hb : Below W9.heap.size W9 w') => V12.out w' (Jd hB hb));replace V13 :=Lib.hid (fun w' (hb : Below W9.heap.size W9 w') => V13.out w' (Jd hB hb));replace K :=Lib.hid (Jd K.out hB);replace G :=Lib.hid (fun w' (hb : Below W9.heap.size W9 w') => G.out w' (Jd hB hb));clear hB;refine Last.nil (by kernel_rfl) ?_;go_upto_region 15 with fail
      refine Fy 109 [(82, false, 0), (83, false, 0), (84, false, 0), (85, false, 0), (86, false, 0), (87, false, 0), (88, false, 0), (89, false, 0), (90, false, 0), (14, false, 0), (14, true, 9)] [9]
        [Fct.val (Jp (Jo ⟨p13, 13, Jn⟩)),
        Fct.num [] 161 [e0, e1, e2],
        Fct.val (Jp (Jo ⟨p13, 1, Jn⟩)),
        Fct.num [] 161 [g0, g1, g2],
        Fct.val (Ji .i8 k),
        Fct.val (Ji Jl k),
        Fct.num [] 3 [kq],
        Fct.num [] 164 [kq * g0, kq * g1, kq * g2],
        Fct.num [] 326 [e0 + (kq * g0), e1 + (kq * g1), e2 + (kq * g2)],
        Fct.ptr 12,
        Fct.var [] 326 [e0 + (kq * g0), e1 + (kq * g1), e2 + (kq * g2)]]
        #[true, true, true, true, true, true, true, true, true, true, true] 0 rfl (by kernel_rfl) rfl (by kernel_rfl) ⟨?_, ?_, ?_, ?_, ?_, ?_, ?_, ?_, ?_, ?_, ?_, trivial⟩
        (fun val10 => ⟨#[Ja #[Ji .i8 n0, Ji .i8 n1, Ji .i8 n2, Ji .i8 n3, Ji .i8 n4, Ji .i8 n5, Ji .u8 d], Ja #[Ji .i8 x0, Ji .i8 x1, Ji .i8 x2, Ji .i8 y0, Ji .i8 y1, Ji .i8 y2], Ji .i8 k, Jp (Jo ⟨w.heap.size, 0, Jn⟩), Jp (Jo ⟨w.heap.size + 1, 0, Jn⟩), undef, .bool false, Jp (Jo ⟨p7, 0, Jn⟩), Jp (Jo ⟨p8, 0, Jn⟩), Jp (Jo ⟨p9, 0, Jn⟩), Jp (Jo ⟨p10, 0, Jn⟩), u11, Jp (Jo ⟨p12, 0, Jn⟩), Jp (Jo ⟨p13, 0, Jn⟩), val10 14, .bool true, .bool false, val1 17, val1 18, val1 19, val1 20, val2 21, val2 22, val2 23, val2 24, val2 25, val3 26, val3 27, val3 28, val3 29, val3 30, val3 31, val3 32, val3 33, val3 34, val4 35, val4 36, val4 37, val4 38, val4 39, val4 40, val4 41, val4 42, val4 43, val4 44, val4 45, val4 46, .bool false, u48, u49, u50, u51, u52, u53, u54, u55, u56, u57, u58, u59, u60, u61, u62, u63, u64, u65, u66, u67, u68, .bool false, val7 70, val7 71, val8 72, val8 73, val9 74, val9 75, val9 76, val9 77, val9 78, val9 79, val9 80, .bool false, val10 82, val10 83, val10 84, val10 85, val10 86, val10 87, val10 88, val10 89, val10 90, undef, undef, undef, undef, undef, undef, undef, undef, undef, undef, undef, undef, undef, undef, undef, undef, undef, undef], []⟩) (fun val10 => by kernel_rfl) (fun val10 W10 hB hF => ⟨?_⟩)
      · exact E4 rfl rfl (.env rfl (by kernel_rfl)) rfl (by kernel_rfl) (fun w => by go_simp)
      · exact E6 3 3 V13.out (.dep 0 rfl (by kernel_rfl)) rfl rfl rfl (by kernel_rfl) (by kernel_rfl) (by kernel_rfl)
      · exact E4 rfl rfl (.env rfl (by kernel_rfl)) rfl (by kernel_rfl) (fun w => by go_simp)
      · exact E6 0 3 V13.out (.dep 2 rfl (by kernel_rfl)) rfl rfl rfl (by kernel_rfl) (by kernel_rfl) (by kernel_rfl)
      · exact Fh rfl rfl (.env rfl (by kernel_rfl)) rfl (by kernel_rfl)
      · exact Fm (op := .convert 50 3 (.tmp 86)) rfl rfl (fun _ => rfl) (.dep 4 rfl (by kernel_rfl)) rfl (by kernel_rfl) (fun a w e => by have :=hwk;unfold execOp bare;dsimp only;rw[e];go_simp <;> rfl)
      · exact EZ cf51 rfl rfl rfl rfl rfl (by kernel_rfl) (fun a v hB hE hD => (show Calls _ _ #[Act.at_ a 87] v _ from by rw[show Act.at_ a 87 =_ from hD 5 _ (by kernel_rfl) rfl];exact HK.out v))
      · exact EZ cf52 rfl rfl rfl rfl rfl (by kernel_rfl) (fun a v hB hE hD => Da (hD 3 _ (by kernel_rfl) rfl) (hD 6 _ (by kernel_rfl) rfl) (by kernel_rfl) (G.out v hB))
      · exact EZ cf33 rfl rfl rfl rfl rfl (by kernel_rfl) (fun a v hB hE hD => DC (hD 1 _ (by kernel_rfl) rfl) (hD 7 _ (by kernel_rfl) rfl) (by kernel_rfl) (G.out v hB))
      · exact Fb [Ji Jl 0, Jp Jn, Ji Jl 0, Jp Jn, Ji Jl 0, Jp Jn, Ji Jl 0, Jp Jn, Ji Jl 0, Jp Jn, Ji Jl 0, Jp Jn] 35 rfl rfl rfl (by kernel_rfl) (by kernel_rfl) (fun a w => by go_simp)
      · exact E9 9 8 rfl rfl rfl rfl rfl (by kernel_rfl) (by kernel_rfl)
      obtain⟨p14, e14, V14⟩ : (Fct.var [] 326 [e0 + (kq * g0), e1 + (kq * g1), e2 + (kq * g2)]).P W10 (val10 14) :=hF 10 _ rfl;clear hF;generalize val10 14 =t14 at *
      subst e14;replace V0 :=Lib.hid (fun w' (hb : Below W10.heap.size W10 w') => V0.out w' (Jd hB hb));replace V12 :=Lib.hid (fun w' (hb : Below W10.heap.size W10 w') => V12.out w' (Jd hB hb));replace V13 :=Lib.hid (fun w' (hb : Below W10.heap.size W10 w') => V13.out w' (Jd hB hb));replace V14 :=Lib.hid (fun w' (hb : Below W10.heap.size W10 w') => V14.keep hb);replace K :=Lib.hid (Jd K.out hB);replace G :=Lib.hid (fun w' (hb : Below W10.heap.size W10 w') => G.out w' (Jd hB hb));clear hB;refine Last.nil (by kernel_rfl) ?_;go_upto_region 16 with fail
      refine Fy 109 [(91, false, 0), (92, false, 0), (93, false, 0), (94, false, 0), (95, false, 0), (96, false, 0), (97, false, 0), (98, false, 0), (99, false, 0), (100, false, 0), (101, false, 0), (102, false, 0), (103, false, 0), (104, false, 0), (105, false, 0), (106, false, 0), (107, false, 0), (108, false, 0), (6, false, 0)] []
        [Fct.num [] 4 [a0, a1, a2, a3, a4, a5],
        Fct.num [] 326 [e0 + (kq * g0), e1 + (kq * g1), e2 + (kq * g2)],
        Fct.num [] 666 [a3 + (a1 * (e2 + (kq * g2))-a2 * (e1 + (kq * g1))), a4 + (a2 * (e0 + (kq * g0))-a0 * (e2 + (kq * g2))), a5 + (a0 * (e1 + (kq * g1))-a1 * (e0 + (kq * g0)))],
        Fct.val (Jp (Jo ⟨p12, 0, Jn⟩)),
        Fct.num [] 4 [a0, a1, a2],
        Fct.val (Jp (Jo ⟨p13, 25, Jn⟩)),
        Fct.num [] 161 [h],
        Fct.num [] 165 [h * a0, h * a1, h * a2],
        Fct.val (.bool true),
        Fct.val (.bool true),
        Fct.val (Jp (Jo ⟨p13, 13, Jn⟩)),
        Fct.num [] 161 [e0, e1, e2],
        Fct.val (Jp (Jo ⟨p13, 1, Jn⟩)),
        Fct.num [] 161 [g0, g1, g2],
        Fct.num [] 968 [e0 * g0 + e1 * g1 + e2 * g2],
        Fct.val (Ji Jl 0),
        Fct.val (.bool true),
        Fct.val (.bool true),
        Fct.val (.bool true)]
        #[true, true, true, true, true, true, true, true, true, true, true, true, true, true, true, true, true, true, true] 0 rfl (by kernel_rfl) rfl (by kernel_rfl) ⟨?_, ?_, ?_, ?_, ?_, ?_, ?_, ?_, ?_, ?_, ?_, ?_, ?_, ?_, ?_, ?_, ?_, ?_, ?_, trivial⟩
        (fun val11 => ⟨#[Ja #[Ji .i8 n0, Ji .i8 n1, Ji .i8 n2, Ji .i8 n3, Ji .i8 n4, Ji .i8 n5, Ji .u8 d], Ja #[Ji .i8 x0, Ji .i8 x1, Ji .i8 x2, Ji .i8 y0, Ji .i8 y1, Ji .i8 y2], Ji .i8 k, Jp (Jo ⟨w.heap.size, 0, Jn⟩), Jp (Jo ⟨w.heap.size + 1, 0, Jn⟩), undef, val11 6, Jp (Jo ⟨p7, 0, Jn⟩), Jp (Jo ⟨p8, 0, Jn⟩), Jp (Jo ⟨p9, 0, Jn⟩), Jp (Jo ⟨p10, 0, Jn⟩), u11, Jp (Jo ⟨p12, 0, Jn⟩), Jp (Jo ⟨p13, 0, Jn⟩), Jp (Jo ⟨p14, 0, Jn⟩), .bool true, .bool false, val1 17, val1 18, val1 19, val1 20, val2 21, val2 22, val2 23, val2 24, val2 25, val3 26, val3 27, val3 28, val3 29, val3 30, val3 31, val3 32, val3 33, val3 34, val4 35, val4 36, val4 37, val4 38, val4 39, val4 40, val4 41, val4 42, val4 43, val4 44, val4 45, val4 46, .bool false, u48, u49, u50, u51, u52, u53, u54, u55, u56, u57, u58, u59, u60, u61, u62, u63, u64, u65, u66, u67, u68, .bool false, val7 70, val7 71, val8 72, val8 73, val9 74, val9 75, val9 76, val9 77, val9 78, val9 79, val9 80, .bool false, val10 82, val10 83, val10 84, val10 85, val10 86, val10 87, val10 88, val10 89, val10 90, val11 91, val11 92, val11 93, val11 94, val11 95, val11 96, val11 97, val11 98, val11 99, val11 100, val11 101, val11 102, val11 103, val11 104, val11 105, val11 106, val11 107, val11 108], []⟩) (fun val11 => by kernel_rfl) (fun val11 W11 hB hF => ⟨?_⟩)
      · exact E7 V12.out (.env rfl (by kernel_rfl)) rfl rfl rfl (by kernel_rfl) (by kernel_rfl)
      · exact E7 V14.out (.env rfl (by kernel_rfl)) rfl rfl rfl (by kernel_rfl) (by kernel_rfl)
      · exact EZ cf24 rfl rfl rfl rfl rfl (by kernel_rfl) (fun a v hB hE hD => Dq (hD 0 _ (by kernel_rfl) rfl) (hD 1 _ (by kernel_rfl) rfl) (by kernel_rfl) (G.out v hB))
      · exact E4 rfl rfl (.env rfl (by kernel_rfl)) rfl (by kernel_rfl) (fun w => by go_simp)
      · exact E6 0 3 V12.out (.dep 3 rfl (by kernel_rfl)) rfl rfl rfl (by kernel_rfl) (by kernel_rfl) (by kernel_rfl)
      · exact E4 rfl rfl (.env rfl (by kernel_rfl)) rfl (by kernel_rfl) (fun w => by go_simp)
      · exact E6 6 1 V13.out (.dep 5 rfl (by kernel_rfl)) rfl rfl rfl (by kernel_rfl) (by kernel_rfl) (by kernel_rfl)
      · exact EZ cf52 rfl rfl rfl rfl rfl (by kernel_rfl) (fun a v hB hE hD => Da (hD 4 _ (by kernel_rfl) rfl) (hD 6 _ (by kernel_rfl) rfl) (by kernel_rfl) (G.out v hB))
      · exact EZ cf23 rfl rfl rfl rfl rfl (by kernel_rfl) (fun a v hB hE hD => FX (hD 2 _ (by kernel_rfl) rfl) (hD 7 _ (by kernel_rfl) rfl) (by grind : a3 + (a1 * (e2 + (kq * g2))-a2 * (e1 + (kq * g1))) =h * a0) (by grind : a4 + (a2 * (e0 + (kq * g0))-a0 * (e2 + (kq * g2))) =h * a1) (by grind : a5 + (a0 * (e1 + (kq * g1))-a1 * (e0 + (kq * g0))) =h * a2) (by kernel_rfl))
      · exact E5 8 rfl rfl rfl rfl (by kernel_rfl)
      · exact E4 rfl rfl (.env rfl (by kernel_rfl)) ⟨true, rfl, rfl, by kernel_rfl, rfl⟩ (by kernel_rfl) (fun w => by go_simp)
      · exact E6 3 3 V13.out (.dep 10 rfl (by kernel_rfl)) rfl rfl ⟨true, rfl, rfl, by kernel_rfl, rfl⟩ (by kernel_rfl) (by kernel_rfl) (by kernel_rfl)
      · exact E4 rfl rfl (.env rfl (by kernel_rfl)) ⟨true, rfl, rfl, by kernel_rfl, rfl⟩ (by kernel_rfl) (fun w => by go_simp)
      · exact E6 0 3 V13.out (.dep 12 rfl (by kernel_rfl)) rfl rfl ⟨true, rfl, rfl, by kernel_rfl, rfl⟩ (by kernel_rfl) (by kernel_rfl) (by kernel_rfl)
      · exact EZ cf31 rfl rfl rfl rfl ⟨true, rfl, rfl, by kernel_rfl, rfl⟩ (by kernel_rfl) (fun a v hB hE hD => FZ (hD 11 _ (by kernel_rfl) rfl) (hD 13 _ (by kernel_rfl) rfl) (by kernel_rfl) (G.out v hB))
      · exact EZ cf48 rfl rfl rfl rfl ⟨true, rfl, rfl, by kernel_rfl, rfl⟩ (by kernel_rfl) (fun a v hB hE hD => FY (hD 14 _ (by kernel_rfl) rfl) hd)
      · exact Fm (op := .binOp .eql 3 (.tmp 106) (.const (Ji Jl 0)) 3) rfl rfl (fun _ => rfl) (.dep 15 rfl (by kernel_rfl)) ⟨true, rfl, rfl, by kernel_rfl, rfl⟩ (by kernel_rfl) (fun a w e => by unfold execOp bare;dsimp only;rw[e];go_simp <;> rfl)
      · exact Fe 9 16 rfl rfl rfl rfl rfl (by kernel_rfl)
      · exact E5 17 rfl rfl rfl rfl (by kernel_rfl)
      have e6 : val11 6 = .bool true :=hF 18 _ rfl;clear hF;generalize val11 6 =t6 at *
      subst e6;replace V0 :=Lib.hid (fun w' (hb : Below W11.heap.size W11 w') => V0.out w' (Jd hB hb));replace V12 :=Lib.hid (fun w' (hb : Below W11.heap.size W11 w') => V12.out w' (Jd hB hb));replace V13 :=Lib.hid (fun w' (hb : Below W11.heap.size W11 w') => V13.out w' (Jd hB hb));replace V14 :=Lib.hid (fun w' (hb : Below W11.heap.size W11 w') => V14.out w' (Jd hB hb));replace K :=Lib.hid (Jd K.out hB);replace G :=Lib.hid (fun w' (hb : Below W11.heap.size W11 w') => G.out w' (Jd hB hb));clear hB;refine Last.nil (by kernel_rfl) ?_;clear G V0 V12 V13 V14;go_wp2_with fail
      exact bodyPost_ret (v := .bool true) (by simp[results, Tryz.results10, go_sem]) rfl ⟨_, rfl, K.out, rfl⟩
    · go_upto_region 12 with fail
      refine E8 109 [(72, false, 0), (73, false, 0), (13, false, 0), (13, true, 2)] [2]
        [Fct.num [] 4 [a0, a1, a2, a3, a4, a5],
        Fct.num [Ji Jl 3] 161 [g0, g1, g2, e0, e1, e2, h],
        Fct.ptr 29,
        Fct.var [Ji Jl 3] 161 [g0, g1, g2, e0, e1, e2, h]]
        0 rfl (by kernel_rfl) rfl ⟨?_, ?_, ?_, ?_, trivial⟩
        (fun val8 => ⟨#[Ja #[Ji .i8 n0, Ji .i8 n1, Ji .i8 n2, Ji .i8 n3, Ji .i8 n4, Ji .i8 n5, Ji .u8 d], Ja #[Ji .i8 x0, Ji .i8 x1, Ji .i8 x2, Ji .i8 y0, Ji .i8 y1, Ji .i8 y2], Ji .i8 k, Jp (Jo ⟨w.heap.size, 0, Jn⟩), Jp (Jo ⟨w.heap.size + 1, 0, Jn⟩), undef, .bool false, Jp (Jo ⟨p7, 0, Jn⟩), Jp (Jo ⟨p8, 0, Jn⟩), Jp (Jo ⟨p9, 0, Jn⟩), Jp (Jo ⟨p10, 0, Jn⟩), u11, Jp (Jo ⟨p12, 0, Jn⟩), val8 13, undef, .bool true, .bool false, val1 17, val1 18, val1 19, val1 20, val2 21, val2 22, val2 23, val2 24, val2 25, val3 26, val3 27, val3 28, val3 29, val3 30, val3 31, val3 32, val3 33, val3 34, val4 35, val4 36, val4 37, val4 38, val4 39, val4 40, val4 41, val4 42, val4 43, val4 44, val4 45, val4 46, .bool false, u48, u49, u50, u51, u52, u53, u54, u55, u56, u57, u58, u59, u60, u61, u62, u63, u64, u65, u66, u67, u68, .bool false, val7 70, val7 71, val8 72, val8 73, undef, undef, undef, undef, undef, undef, undef, undef, undef, undef, undef, undef, undef, undef, undef, undef, undef, undef, undef, undef, undef, undef, undef, undef, undef, undef, undef, undef, undef, undef, undef, undef, undef, undef, undef], []⟩) (fun val8 => by kernel_rfl) (fun val8 W8 hB hF => ⟨?_⟩)
      · exact E7 V12.out (.env rfl (by kernel_rfl)) rfl rfl rfl (by kernel_rfl) (by kernel_rfl)
      · exact EZ cf47 rfl rfl rfl rfl rfl (by kernel_rfl) (fun a v hB hE hD => HX.out _ v (Num.up (hD 0 _ (by kernel_rfl) rfl) (by decide)) (G.out v hB))
      · exact Fb [Ji Jl 0, Ji Jl 0, Jp Jn, Ji Jl 0, Jp Jn, Ji Jl 0, Jp Jn, Ji Jl 0, Jp Jn, Ji Jl 0, Jp Jn, Ji Jl 0, Jp Jn, Ji Jl 0, Jp Jn, Ji Jl 0, Jp Jn, Ji Jl 0, Jp Jn, Ji Jl 0, Jp Jn, Ji Jl 0, Jp Jn, Ji Jl 0, Jp Jn, Ji Jl 0, Jp Jn, Ji Jl 0, Jp Jn] 90 rfl rfl rfl (by kernel_rfl) (by kernel_rfl) (fun a w => by go_simp)
      · exact E9 2 1 rfl rfl rfl rfl rfl (by kernel_rfl) (by kernel_rfl)
      obtain⟨p13, e13, V13⟩ : (Fct.var [Ji Jl 3] 161 [g0, g1, g2, e0, e1, e2, h]).P W8 (val8 13) :=hF 3 _ rfl;clear hF;generalize val8 13 =t13 at *
      subst e13;replace V0 :=Lib.hid (fun w' (hb : Below W8.heap.size W8 w') => V0.out w' (Jd hB hb));replace V12 :=Lib.hid (fun w' (hb : Below W8.heap.size W8 w') => V12.out w' (Jd hB hb));replace V13 :=Lib.hid (fun w' (hb : Below W8.heap.size W8 w') => V13.keep hb);replace K :=Lib.hid (Jd K.out hB);replace G :=Lib.hid (fun w' (hb : Below W8.heap.size W8 w') => G.out w' (Jd hB hb));clear hB;refine Last.nil (by kernel_rfl) ?_;go_upto_region 13 with fail
      refine E8 109 [(74, false, 0), (75, false, 0), (76, false, 0), (77, false, 0), (78, false, 0), (79, false, 0), (80, false, 0), (81, false, 0)] []
        [Fct.val (Jp (Jo ⟨p13, 0, Jn⟩)),
        Fct.val (Ji Jl 3),
        Fct.val (.bool true),
        Fct.val (.bool true),
        Fct.val (Jp (Jo ⟨p13, 0, Jn⟩)),
        Fct.val (Ji Jl 3),
        Fct.val (.bool false),
        Fct.val (.bool false)]
        0 rfl (by kernel_rfl) rfl ⟨?_, ?_, ?_, ?_, ?_, ?_, ?_, ?_, trivial⟩
        (fun val9 => ⟨#[Ja #[Ji .i8 n0, Ji .i8 n1, Ji .i8 n2, Ji .i8 n3, Ji .i8 n4, Ji .i8 n5, Ji .u8 d], Ja #[Ji .i8 x0, Ji .i8 x1, Ji .i8 x2, Ji .i8 y0, Ji .i8 y1, Ji .i8 y2], Ji .i8 k, Jp (Jo ⟨w.heap.size, 0, Jn⟩), Jp (Jo ⟨w.heap.size + 1, 0, Jn⟩), undef, .bool false, Jp (Jo ⟨p7, 0, Jn⟩), Jp (Jo ⟨p8, 0, Jn⟩), Jp (Jo ⟨p9, 0, Jn⟩), Jp (Jo ⟨p10, 0, Jn⟩), u11, Jp (Jo ⟨p12, 0, Jn⟩), Jp (Jo ⟨p13, 0, Jn⟩), undef, .bool true, .bool false, val1 17, val1 18, val1 19, val1 20, val2 21, val2 22, val2 23, val2 24, val2 25, val3 26, val3 27, val3 28, val3 29, val3 30, val3 31, val3 32, val3 33, val3 34, val4 35, val4 36, val4 37, val4 38, val4 39, val4 40, val4 41, val4 42, val4 43, val4 44, val4 45, val4 46, .bool false, u48, u49, u50, u51, u52, u53, u54, u55, u56, u57, u58, u59, u60, u61, u62, u63, u64, u65, u66, u67, u68, .bool false, val7 70, val7 71, val8 72, val8 73, val9 74, val9 75, val9 76, val9 77, val9 78, val9 79, val9 80, val9 81, undef, undef, undef, undef, undef, undef, undef, undef, undef, undef, undef, undef, undef, undef, undef, undef, undef, undef, undef, undef, undef, undef, undef, undef, undef, undef, undef], []⟩) (fun val9 => by kernel_rfl) (fun val9 W9 hB hF => ⟨?_⟩)
      · exact E4 rfl rfl (.env rfl (by kernel_rfl)) rfl (by kernel_rfl) (fun w => by go_simp)
      · exact FW V13.out rfl (.dep 0 rfl (by kernel_rfl)) rfl rfl rfl (by kernel_rfl) (by kernel_rfl)
      · exact Fm (op := .binOp .neq 3 (.tmp 75) (.const (Ji Jl 2)) 3) rfl rfl (fun _ => rfl) (.dep 1 rfl (by kernel_rfl)) rfl (by kernel_rfl) (fun a w e => by unfold execOp bare;dsimp only;rw[e];go_simp <;> rfl)
      · exact E5 2 rfl rfl rfl rfl (by kernel_rfl)
      · exact E4 rfl rfl (.env rfl (by kernel_rfl)) ⟨true, rfl, rfl, by kernel_rfl, rfl⟩ (by kernel_rfl) (fun w => by go_simp)
      · exact FW V13.out rfl (.dep 4 rfl (by kernel_rfl)) rfl rfl ⟨true, rfl, rfl, by kernel_rfl, rfl⟩ (by kernel_rfl) (by kernel_rfl)
      · exact Fm (op := .binOp .neq 3 (.tmp 79) (.const (Ji Jl 3)) 3) rfl rfl (fun _ => rfl) (.dep 5 rfl (by kernel_rfl)) ⟨true, rfl, rfl, by kernel_rfl, rfl⟩ (by kernel_rfl) (fun a w e => by unfold execOp bare;dsimp only;rw[e];go_simp <;> rfl)
      · exact Fe 3 6 rfl rfl rfl rfl rfl (by kernel_rfl)
      have e81 : val9 81 = .bool false :=hF 7 _ rfl;clear hF;generalize val9 81 =t81 at *
      subst e81;replace V0 :=Lib.hid (fun w' (hb : Below W9.heap.size W9 w') => V0.out w' (Jd hB hb));replace V12 :=Lib.hid (fun w' (hb : Below W9.heap.size W9 w') => V12.out w' (Jd hB hb));replace V13 :=Lib.hid (fun w' (hb : Below W9.heap.size W9 w') => V13.out w' (Jd hB hb));replace K :=Lib.hid (Jd K.out hB);replace G :=Lib.hid (fun w' (hb : Below W9.heap.size W9 w') => G.out w' (Jd hB hb));clear hB;refine Last.nil (by kernel_rfl) ?_;go_upto_region 15 with fail
      refine Fy 109 [(82, false, 0), (83, false, 0), (84, false, 0), (85, false, 0), (86, false, 0), (87, false, 0), (88, false, 0), (89, false, 0), (90, false, 0), (14, false, 0), (14, true, 9)] [9]
        [Fct.val (Jp (Jo ⟨p13, 13, Jn⟩)),
        Fct.num [] 161 [e0, e1, e2],
        Fct.val (Jp (Jo ⟨p13, 1, Jn⟩)),
        Fct.num [] 161 [g0, g1, g2],
        Fct.val (Ji .i8 k),
        Fct.val (Ji Jl k),
        Fct.num [] 3 [kq],
        Fct.num [] 164 [kq * g0, kq * g1, kq * g2],
        Fct.num [] 326 [e0 + (kq * g0), e1 + (kq * g1), e2 + (kq * g2)],
        Fct.ptr 12,
        Fct.var [] 326 [e0 + (kq * g0), e1 + (kq * g1), e2 + (kq * g2)]]
        #[true, true, true, true, true, true, true, true, true, true, true] 0 rfl (by kernel_rfl) rfl (by kernel_rfl) ⟨?_, ?_, ?_, ?_, ?_, ?_, ?_, ?_, ?_, ?_, ?_, trivial⟩
        (fun val10 => ⟨#[Ja #[Ji .i8 n0, Ji .i8 n1, Ji .i8 n2, Ji .i8 n3, Ji .i8 n4, Ji .i8 n5, Ji .u8 d], Ja #[Ji .i8 x0, Ji .i8 x1, Ji .i8 x2, Ji .i8 y0, Ji .i8 y1, Ji .i8 y2], Ji .i8 k, Jp (Jo ⟨w.heap.size, 0, Jn⟩), Jp (Jo ⟨w.heap.size + 1, 0, Jn⟩), undef, .bool false, Jp (Jo ⟨p7, 0, Jn⟩), Jp (Jo ⟨p8, 0, Jn⟩), Jp (Jo ⟨p9, 0, Jn⟩), Jp (Jo ⟨p10, 0, Jn⟩), u11, Jp (Jo ⟨p12, 0, Jn⟩), Jp (Jo ⟨p13, 0, Jn⟩), val10 14, .bool true, .bool false, val1 17, val1 18, val1 19, val1 20, val2 21, val2 22, val2 23, val2 24, val2 25, val3 26, val3 27, val3 28, val3 29, val3 30, val3 31, val3 32, val3 33, val3 34, val4 35, val4 36, val4 37, val4 38, val4 39, val4 40, val4 41, val4 42, val4 43, val4 44, val4 45, val4 46, .bool false, u48, u49, u50, u51, u52, u53, u54, u55, u56, u57, u58, u59, u60, u61, u62, u63, u64, u65, u66, u67, u68, .bool false, val7 70, val7 71, val8 72, val8 73, val9 74, val9 75, val9 76, val9 77, val9 78, val9 79, val9 80, .bool false, val10 82, val10 83, val10 84, val10 85, val10 86, val10 87, val10 88, val10 89, val10 90, undef, undef, undef, undef, undef, undef, undef, undef, undef, undef, undef, undef, undef, undef, undef, undef, undef, undef], []⟩) (fun val10 => by kernel_rfl) (fun val10 W10 hB hF => ⟨?_⟩)
      · exact E4 rfl rfl (.env rfl (by kernel_rfl)) rfl (by kernel_rfl) (fun w => by go_simp)
      · exact E6 3 3 V13.out (.dep 0 rfl (by kernel_rfl)) rfl rfl rfl (by kernel_rfl) (by kernel_rfl) (by kernel_rfl)
      · exact E4 rfl rfl (.env rfl (by kernel_rfl)) rfl (by kernel_rfl) (fun w => by go_simp)
      · exact E6 0 3 V13.out (.dep 2 rfl (by kernel_rfl)) rfl rfl rfl (by kernel_rfl) (by kernel_rfl) (by kernel_rfl)
      · exact Fh rfl rfl (.env rfl (by kernel_rfl)) rfl (by kernel_rfl)
      · exact Fm (op := .convert 50 3 (.tmp 86)) rfl rfl (fun _ => rfl) (.dep 4 rfl (by kernel_rfl)) rfl (by kernel_rfl) (fun a w e => by have :=hwk;unfold execOp bare;dsimp only;rw[e];go_simp <;> rfl)
      · exact EZ cf51 rfl rfl rfl rfl rfl (by kernel_rfl) (fun a v hB hE hD => (show Calls _ _ #[Act.at_ a 87] v _ from by rw[show Act.at_ a 87 =_ from hD 5 _ (by kernel_rfl) rfl];exact HK.out v))
      · exact EZ cf52 rfl rfl rfl rfl rfl (by kernel_rfl) (fun a v hB hE hD => Da (hD 3 _ (by kernel_rfl) rfl) (hD 6 _ (by kernel_rfl) rfl) (by kernel_rfl) (G.out v hB))
      · exact EZ cf33 rfl rfl rfl rfl rfl (by kernel_rfl) (fun a v hB hE hD => DC (hD 1 _ (by kernel_rfl) rfl) (hD 7 _ (by kernel_rfl) rfl) (by kernel_rfl) (G.out v hB))
      · exact Fb [Ji Jl 0, Jp Jn, Ji Jl 0, Jp Jn, Ji Jl 0, Jp Jn, Ji Jl 0, Jp Jn, Ji Jl 0, Jp Jn, Ji Jl 0, Jp Jn] 35 rfl rfl rfl (by kernel_rfl) (by kernel_rfl) (fun a w => by go_simp)
      · exact E9 9 8 rfl rfl rfl rfl rfl (by kernel_rfl) (by kernel_rfl)
      obtain⟨p14, e14, V14⟩ : (Fct.var [] 326 [e0 + (kq * g0), e1 + (kq * g1), e2 + (kq * g2)]).P W10 (val10 14) :=hF 10 _ rfl;clear hF;generalize val10 14 =t14 at *
      subst e14;replace V0 :=Lib.hid (fun w' (hb : Below W10.heap.size W10 w') => V0.out w' (Jd hB hb));replace V12 :=Lib.hid (fun w' (hb : Below W10.heap.size W10 w') => V12.out w' (Jd hB hb));replace V13 :=Lib.hid (fun w' (hb : Below W10.heap.size W10 w') => V13.out w' (Jd hB hb));replace V14 :=Lib.hid (fun w' (hb : Below W10.heap.size W10 w') => V14.keep hb);replace K :=Lib.hid (Jd K.out hB);replace G :=Lib.hid (fun w' (hb : Below W10.heap.size W10 w') => G.out w' (Jd hB hb));clear hB;refine Last.nil (by kernel_rfl) ?_;go_upto_region 16 with fail
      refine Fy 109 [(91, false, 0), (92, false, 0), (93, false, 0), (94, false, 0), (95, false, 0), (96, false, 0), (97, false, 0), (98, false, 0), (99, false, 0), (100, false, 0), (101, false, 0), (102, false, 0), (103, false, 0), (104, false, 0), (105, false, 0), (106, false, 0), (107, false, 0), (108, false, 0), (6, false, 0)] []
        [Fct.num [] 4 [a0, a1, a2, a3, a4, a5],
        Fct.num [] 326 [e0 + (kq * g0), e1 + (kq * g1), e2 + (kq * g2)],
        Fct.num [] 666 [a3 + (a1 * (e2 + (kq * g2))-a2 * (e1 + (kq * g1))), a4 + (a2 * (e0 + (kq * g0))-a0 * (e2 + (kq * g2))), a5 + (a0 * (e1 + (kq * g1))-a1 * (e0 + (kq * g0)))],
        Fct.val (Jp (Jo ⟨p12, 0, Jn⟩)),
        Fct.num [] 4 [a0, a1, a2],
        Fct.val (Jp (Jo ⟨p13, 25, Jn⟩)),
        Fct.num [] 161 [h],
        Fct.num [] 165 [h * a0, h * a1, h * a2],
        Fct.val (.bool true),
        Fct.val (.bool true),
        Fct.val (Jp (Jo ⟨p13, 13, Jn⟩)),
        Fct.num [] 161 [e0, e1, e2],
        Fct.val (Jp (Jo ⟨p13, 1, Jn⟩)),
        Fct.num [] 161 [g0, g1, g2],
        Fct.num [] 968 [e0 * g0 + e1 * g1 + e2 * g2],
        Fct.val (Ji Jl 0),
        Fct.val (.bool true),
        Fct.val (.bool true),
        Fct.val (.bool true)]
        #[true, true, true, true, true, true, true, true, true, true, true, true, true, true, true, true, true, true, true] 0 rfl (by kernel_rfl) rfl (by kernel_rfl) ⟨?_, ?_, ?_, ?_, ?_, ?_, ?_, ?_, ?_, ?_, ?_, ?_, ?_, ?_, ?_, ?_, ?_, ?_, ?_, trivial⟩
        (fun val11 => ⟨#[Ja #[Ji .i8 n0, Ji .i8 n1, Ji .i8 n2, Ji .i8 n3, Ji .i8 n4, Ji .i8 n5, Ji .u8 d], Ja #[Ji .i8 x0, Ji .i8 x1, Ji .i8 x2, Ji .i8 y0, Ji .i8 y1, Ji .i8 y2], Ji .i8 k, Jp (Jo ⟨w.heap.size, 0, Jn⟩), Jp (Jo ⟨w.heap.size + 1, 0, Jn⟩), undef, val11 6, Jp (Jo ⟨p7, 0, Jn⟩), Jp (Jo ⟨p8, 0, Jn⟩), Jp (Jo ⟨p9, 0, Jn⟩), Jp (Jo ⟨p10, 0, Jn⟩), u11, Jp (Jo ⟨p12, 0, Jn⟩), Jp (Jo ⟨p13, 0, Jn⟩), Jp (Jo ⟨p14, 0, Jn⟩), .bool true, .bool false, val1 17, val1 18, val1 19, val1 20, val2 21, val2 22, val2 23, val2 24, val2 25, val3 26, val3 27, val3 28, val3 29, val3 30, val3 31, val3 32, val3 33, val3 34, val4 35, val4 36, val4 37, val4 38, val4 39, val4 40, val4 41, val4 42, val4 43, val4 44, val4 45, val4 46, .bool false, u48, u49, u50, u51, u52, u53, u54, u55, u56, u57, u58, u59, u60, u61, u62, u63, u64, u65, u66, u67, u68, .bool false, val7 70, val7 71, val8 72, val8 73, val9 74, val9 75, val9 76, val9 77, val9 78, val9 79, val9 80, .bool false, val10 82, val10 83, val10 84, val10 85, val10 86, val10 87, val10 88, val10 89, val10 90, val11 91, val11 92, val11 93, val11 94, val11 95, val11 96, val11 97, val11 98, val11 99, val11 100, val11 101, val11 102, val11 103, val11 104, val11 105, val11 106, val11 107, val11 108], []⟩) (fun val11 => by kernel_rfl) (fun val11 W11 hB hF => ⟨?_⟩)
      · exact E7 V12.out (.env rfl (by kernel_rfl)) rfl rfl rfl (by kernel_rfl) (by kernel_rfl)
      · exact E7 V14.out (.env rfl (by kernel_rfl)) rfl rfl rfl (by kernel_rfl) (by kernel_rfl)
      · exact EZ cf24 rfl rfl rfl rfl rfl (by kernel_rfl) (fun a v hB hE hD => Dq (hD 0 _ (by kernel_rfl) rfl) (hD 1 _ (by kernel_rfl) rfl) (by kernel_rfl) (G.out v hB))
      · exact E4 rfl rfl (.env rfl (by kernel_rfl)) rfl (by kernel_rfl) (fun w => by go_simp)
      · exact E6 0 3 V12.out (.dep 3 rfl (by kernel_rfl)) rfl rfl rfl (by kernel_rfl) (by kernel_rfl) (by kernel_rfl)
      · exact E4 rfl rfl (.env rfl (by kernel_rfl)) rfl (by kernel_rfl) (fun w => by go_simp)
      · exact E6 6 1 V13.out (.dep 5 rfl (by kernel_rfl)) rfl rfl rfl (by kernel_rfl) (by kernel_rfl) (by kernel_rfl)
      · exact EZ cf52 rfl rfl rfl rfl rfl (by kernel_rfl) (fun a v hB hE hD => Da (hD 4 _ (by kernel_rfl) rfl) (hD 6 _ (by kernel_rfl) rfl) (by kernel_rfl) (G.out v hB))
      · exact EZ cf23 rfl rfl rfl rfl rfl (by kernel_rfl) (fun a v hB hE hD => FX (hD 2 _ (by kernel_rfl) rfl) (hD 7 _ (by kernel_rfl) rfl) (by grind : a3 + (a1 * (e2 + (kq * g2))-a2 * (e1 + (kq * g1))) =h * a0) (by grind : a4 + (a2 * (e0 + (kq * g0))-a0 * (e2 + (kq * g2))) =h * a1) (by grind : a5 + (a0 * (e1 + (kq * g1))-a1 * (e0 + (kq * g0))) =h * a2) (by kernel_rfl))
      · exact E5 8 rfl rfl rfl rfl (by kernel_rfl)
      · exact E4 rfl rfl (.env rfl (by kernel_rfl)) ⟨true, rfl, rfl, by kernel_rfl, rfl⟩ (by kernel_rfl) (fun w => by go_simp)
      · exact E6 3 3 V13.out (.dep 10 rfl (by kernel_rfl)) rfl rfl ⟨true, rfl, rfl, by kernel_rfl, rfl⟩ (by kernel_rfl) (by kernel_rfl) (by kernel_rfl)
      · exact E4 rfl rfl (.env rfl (by kernel_rfl)) ⟨true, rfl, rfl, by kernel_rfl, rfl⟩ (by kernel_rfl) (fun w => by go_simp)
      · exact E6 0 3 V13.out (.dep 12 rfl (by kernel_rfl)) rfl rfl ⟨true, rfl, rfl, by kernel_rfl, rfl⟩ (by kernel_rfl) (by kernel_rfl) (by kernel_rfl)
      · exact EZ cf31 rfl rfl rfl rfl ⟨true, rfl, rfl, by kernel_rfl, rfl⟩ (by kernel_rfl) (fun a v hB hE hD => FZ (hD 11 _ (by kernel_rfl) rfl) (hD 13 _ (by kernel_rfl) rfl) (by kernel_rfl) (G.out v hB))
      · exact EZ cf48 rfl rfl rfl rfl ⟨true, rfl, rfl, by kernel_rfl, rfl⟩ (by kernel_rfl) (fun a v hB hE hD => FY (hD 14 _ (by kernel_rfl) rfl) hd)
      · exact Fm (op := .binOp .eql 3 (.tmp 106) (.const (Ji Jl 0)) 3) rfl rfl (fun _ => rfl) (.dep 15 rfl (by kernel_rfl)) ⟨true, rfl, rfl, by kernel_rfl, rfl⟩ (by kernel_rfl) (fun a w e => by unfold execOp bare;dsimp only;rw[e];go_simp <;> rfl)
      · exact Fe 9 16 rfl rfl rfl rfl rfl (by kernel_rfl)
      · exact E5 17 rfl rfl rfl rfl (by kernel_rfl)
      have e6 : val11 6 = .bool true :=hF 18 _ rfl;clear hF;generalize val11 6 =t6 at *
      subst e6;replace V0 :=Lib.hid (fun w' (hb : Below W11.heap.size W11 w') => V0.out w' (Jd hB hb));replace V12 :=Lib.hid (fun w' (hb : Below W11.heap.size W11 w') => V12.out w' (Jd hB hb));replace V13 :=Lib.hid (fun w' (hb : Below W11.heap.size W11 w') => V13.out w' (Jd hB hb));replace V14 :=Lib.hid (fun w' (hb : Below W11.heap.size W11 w') => V14.out w' (Jd hB hb));replace K :=Lib.hid (Jd K.out hB);replace G :=Lib.hid (fun w' (hb : Below W11.heap.size W11 w') => G.out w' (Jd hB hb));clear hB;refine Last.nil (by kernel_rfl) ?_;clear G V0 V12 V13 V14;go_wp2_with fail
      exact bodyPost_ret (v := .bool true) (by simp[results, Tryz.results10, go_sem]) rfl ⟨_, rfl, K.out, rfl⟩
  clear hr;replace key :=Lib.hid key;rcases Bool.eq_false_or_eq_true b with hbt|hbt
  · have hb :=hb.trans hbt
    have hzb :=hzb.trans hbt;obtain⟨z0, z1, z2⟩ :=Zw.1 hzb;have zl : Xv (yq1 * xq2-yq2 * xq1) (yq2 * xq0-yq0 * xq2) (yq0 * xq1-yq1 * xq0) =true :=Zw.2 ⟨by rw[z1, z2];grind, by rw[z0, z2];grind, by rw[z0, z1];grind⟩;refine E8 109 [(48, false, 0), (49, false, 0), (11, false, 0), (11, true, 2)] [2]
      [Fct.num [] 13 [xq0, xq1, xq2, yq1 * xq2 - yq2 * xq1, yq2 * xq0 - yq0 * xq2, yq0 * xq1 - yq1 * xq0],
      Fct.num [Ji Jl 0] 1 [0, 0, 0, 0, 0, 0, 0],
      Fct.ptr 29,
      Fct.var [Ji Jl 0] 1 [0, 0, 0, 0, 0, 0, 0]]
      0 rfl (by kernel_rfl) rfl ⟨?_, ?_, ?_, ?_, trivial⟩
      (fun val5 => ⟨#[Ja #[Ji .i8 n0, Ji .i8 n1, Ji .i8 n2, Ji .i8 n3, Ji .i8 n4, Ji .i8 n5, Ji .u8 d], Ja #[Ji .i8 x0, Ji .i8 x1, Ji .i8 x2, Ji .i8 y0, Ji .i8 y1, Ji .i8 y2], Ji .i8 k, Jp (Jo ⟨w.heap.size, 0, Jn⟩), Jp (Jo ⟨w.heap.size + 1, 0, Jn⟩), undef, .bool false, Jp (Jo ⟨p7, 0, Jn⟩), Jp (Jo ⟨p8, 0, Jn⟩), Jp (Jo ⟨p9, 0, Jn⟩), Jp (Jo ⟨p10, 0, Jn⟩), val5 11, undef, undef, undef, .bool true, .bool false, val1 17, val1 18, val1 19, val1 20, val2 21, val2 22, val2 23, val2 24, val2 25, val3 26, val3 27, val3 28, val3 29, val3 30, val3 31, val3 32, val3 33, val3 34, val4 35, val4 36, val4 37, val4 38, val4 39, val4 40, val4 41, val4 42, val4 43, val4 44, val4 45, val4 46, .bool false, val5 48, val5 49, undef, undef, undef, undef, undef, undef, undef, undef, undef, undef, undef, undef, undef, undef, undef, undef, undef, undef, undef, undef, undef, undef, undef, undef, undef, undef, undef, undef, undef, undef, undef, undef, undef, undef, undef, undef, undef, undef, undef, undef, undef, undef, undef, undef, undef, undef, undef, undef, undef, undef, undef, undef, undef, undef, undef, undef, undef, undef, undef], []⟩) (fun val5 => by kernel_rfl) (fun val5 W5 hB hF => ⟨?_⟩)
    · exact E7 V9.out (.env rfl (by kernel_rfl)) rfl rfl rfl (by kernel_rfl) (by kernel_rfl)
    · exact EZ cf47 rfl rfl rfl rfl rfl (by kernel_rfl) (fun a v hB hE hD => LH (hD 0 _ (by kernel_rfl) rfl) hzb zl (G.out v hB))
    · exact Fb [Ji Jl 0, Ji Jl 0, Jp Jn, Ji Jl 0, Jp Jn, Ji Jl 0, Jp Jn, Ji Jl 0, Jp Jn, Ji Jl 0, Jp Jn, Ji Jl 0, Jp Jn, Ji Jl 0, Jp Jn, Ji Jl 0, Jp Jn, Ji Jl 0, Jp Jn, Ji Jl 0, Jp Jn, Ji Jl 0, Jp Jn, Ji Jl 0, Jp Jn, Ji Jl 0, Jp Jn, Ji Jl 0, Jp Jn] 90 rfl rfl rfl (by kernel_rfl) (by kernel_rfl) (fun a w => by go_simp)
    · exact E9 2 1 rfl rfl rfl rfl rfl (by kernel_rfl) (by kernel_rfl)
    obtain⟨p11, e11, V11⟩ : (Fct.var [Ji Jl 0] 1 [0, 0, 0, 0, 0, 0, 0]).P W5 (val5 11) :=hF 3 _ rfl;clear hF;generalize val5 11 =t11 at *
    subst e11;replace V0 :=Lib.hid (fun w' (hb : Below W5.heap.size W5 w') => V0.out w' (Jd hB hb));replace V1 :=Lib.hid (fun w' (hb : Below W5.heap.size W5 w') => V1.out w' (Jd hB hb));replace V7 :=Lib.hid (fun w' (hb : Below W5.heap.size W5 w') => V7.out w' (Jd hB hb));replace V8 :=Lib.hid (fun w' (hb : Below W5.heap.size W5 w') => V8.out w' (Jd hB hb));replace V9 :=Lib.hid (fun w' (hb : Below W5.heap.size W5 w') => V9.out w' (Jd hB hb));replace V10 :=Lib.hid (fun w' (hb : Below W5.heap.size W5 w') => V10.out w' (Jd hB hb));replace V11 :=Lib.hid (fun w' (hb : Below W5.heap.size W5 w') => V11.keep hb);replace K :=Lib.hid (Jd K.out hB);replace G :=Lib.hid (fun w' (hb : Below W5.heap.size W5 w') => G.out w' (Jd hB hb));clear hB;refine Last.nil (by kernel_rfl) ?_;go_upto_region 9 with fail
    refine Fy 109 [(50, false, 0), (51, false, 0), (52, false, 0), (53, false, 0), (54, false, 0), (55, false, 0), (56, false, 0), (57, false, 0), (58, false, 0), (59, false, 0), (60, false, 0), (61, false, 0), (62, false, 0), (63, false, 0), (64, false, 0), (65, false, 0), (66, false, 0), (67, false, 0), (68, false, 0), (69, false, 0)] []
      [Fct.val (Ja #[Ji .i8 x0, Ji .i8 x1, Ji .i8 x2]),
      Fct.val (Ja #[Ji .i8 0, Ji .i8 0, Ji .i8 0]),
      Fct.val (.bool false),
      Fct.val (.bool false),
      Fct.val (undef),
      Fct.val (undef),
      Fct.val (undef),
      Fct.val (undef),
      Fct.val (undef),
      Fct.val (undef),
      Fct.val (undef),
      Fct.val (undef),
      Fct.val (undef),
      Fct.val (undef),
      Fct.val (undef),
      Fct.val (undef),
      Fct.val (undef),
      Fct.val (undef),
      Fct.val (undef),
      Fct.val (.bool false)]
      #[true, true, true, true, true, true, true, true, true, true, true, true, true, true, true, true, true, true, true, true] 0 rfl (by kernel_rfl) rfl (by kernel_rfl) ⟨?_, ?_, ?_, ?_, ?_, ?_, ?_, ?_, ?_, ?_, ?_, ?_, ?_, ?_, ?_, ?_, ?_, ?_, ?_, ?_, trivial⟩
      (fun val6 => ⟨#[Ja #[Ji .i8 n0, Ji .i8 n1, Ji .i8 n2, Ji .i8 n3, Ji .i8 n4, Ji .i8 n5, Ji .u8 d], Ja #[Ji .i8 x0, Ji .i8 x1, Ji .i8 x2, Ji .i8 y0, Ji .i8 y1, Ji .i8 y2], Ji .i8 k, Jp (Jo ⟨w.heap.size, 0, Jn⟩), Jp (Jo ⟨w.heap.size + 1, 0, Jn⟩), undef, .bool false, Jp (Jo ⟨p7, 0, Jn⟩), Jp (Jo ⟨p8, 0, Jn⟩), Jp (Jo ⟨p9, 0, Jn⟩), Jp (Jo ⟨p10, 0, Jn⟩), Jp (Jo ⟨p11, 0, Jn⟩), undef, undef, undef, .bool true, .bool false, val1 17, val1 18, val1 19, val1 20, val2 21, val2 22, val2 23, val2 24, val2 25, val3 26, val3 27, val3 28, val3 29, val3 30, val3 31, val3 32, val3 33, val3 34, val4 35, val4 36, val4 37, val4 38, val4 39, val4 40, val4 41, val4 42, val4 43, val4 44, val4 45, val4 46, .bool false, val5 48, val5 49, val6 50, val6 51, val6 52, val6 53, val6 54, val6 55, val6 56, val6 57, val6 58, val6 59, val6 60, val6 61, val6 62, val6 63, val6 64, val6 65, val6 66, val6 67, val6 68, val6 69, undef, undef, undef, undef, undef, undef, undef, undef, undef, undef, undef, undef, undef, undef, undef, undef, undef, undef, undef, undef, undef, undef, undef, undef, undef, undef, undef, undef, undef, undef, undef, undef, undef, undef, undef, undef, undef, undef, undef], []⟩) (fun val6 => by kernel_rfl) (fun val6 W6 hB hF => ⟨?_⟩)
    · exact Fk 3 V7.out (.env rfl (by kernel_rfl)) rfl rfl rfl (by kernel_rfl) (by kernel_rfl) rfl (by kernel_rfl)
    · exact Fp rfl rfl (by kernel_rfl) (fun a w _ _ _ => ⟨Ja #[Ji .i8 0, Ji .i8 0, Ji .i8 0], by kernel_rfl, rfl⟩)
    · exact Dl (op := .binOp .neq 54 (.tmp 50) (.tmp 51) 54) rfl rfl (fun _ => rfl) (.dep 0 rfl (by kernel_rfl)) (.dep 1 rfl (by kernel_rfl)) rfl (by kernel_rfl) (fun a w e e2 => Ny hb e e2)
    · exact E5 2 rfl rfl rfl rfl (by kernel_rfl)
    · exact FC rfl ⟨false, rfl, rfl, by kernel_rfl, rfl⟩ (by kernel_rfl)
    · exact FC rfl ⟨false, rfl, rfl, by kernel_rfl, rfl⟩ (by kernel_rfl)
    · exact FC rfl ⟨false, rfl, rfl, by kernel_rfl, rfl⟩ (by kernel_rfl)
    · exact FC rfl ⟨false, rfl, rfl, by kernel_rfl, rfl⟩ (by kernel_rfl)
    · exact Nw 7 false rfl rfl rfl rfl (by kernel_rfl) (by kernel_rfl)
    · exact Nw 7 false rfl rfl rfl rfl (by kernel_rfl) (by kernel_rfl)
    · exact Nw 7 false rfl rfl rfl rfl (by kernel_rfl) (by kernel_rfl)
    · exact Nw 7 false rfl rfl rfl rfl (by kernel_rfl) (by kernel_rfl)
    · exact Nw 7 false rfl rfl rfl rfl (by kernel_rfl) (by kernel_rfl)
    · exact Nw 7 false rfl rfl rfl rfl (by kernel_rfl) (by kernel_rfl)
    · exact Nw 7 false rfl rfl rfl rfl (by kernel_rfl) (by kernel_rfl)
    · exact Nw 7 false rfl rfl rfl rfl (by kernel_rfl) (by kernel_rfl)
    · exact Nw 7 false rfl rfl rfl rfl (by kernel_rfl) (by kernel_rfl)
    · exact Nw 7 false rfl rfl rfl rfl (by kernel_rfl) (by kernel_rfl)
    · exact FC rfl ⟨false, rfl, rfl, by kernel_rfl, rfl⟩ (by kernel_rfl)
    · exact Dx 3 rfl rfl rfl rfl (by kernel_rfl)
    have e69 : val6 69 = .bool false :=hF 19 _ rfl;clear hF;generalize val6 69 =t69 at *
    subst e69;replace V0 :=Lib.hid (fun w' (hb : Below W6.heap.size W6 w') => V0.out w' (Jd hB hb));replace V1 :=Lib.hid (fun w' (hb : Below W6.heap.size W6 w') => V1.out w' (Jd hB hb));replace V7 :=Lib.hid (fun w' (hb : Below W6.heap.size W6 w') => V7.out w' (Jd hB hb));replace V8 :=Lib.hid (fun w' (hb : Below W6.heap.size W6 w') => V8.out w' (Jd hB hb));replace V9 :=Lib.hid (fun w' (hb : Below W6.heap.size W6 w') => V9.out w' (Jd hB hb));replace V10 :=Lib.hid (fun w' (hb : Below W6.heap.size W6 w') => V10.out w' (Jd hB hb));replace V11 :=Lib.hid (fun w' (hb : Below W6.heap.size W6 w') => V11.out w' (Jd hB hb));replace K :=Lib.hid (Jd K.out hB);replace G :=Lib.hid (fun w' (hb : Below W6.heap.size W6 w') => G.out w' (Jd hB hb));clear hB;refine Last.nil (by kernel_rfl) ?_;have q0 :=V0.out _ (N0 _ _);have qb :=K.out;generalize Value.pointer (Jo ⟨p11, 0, Jn⟩) =u11;generalize val5 48 =u48;generalize val5 49 =u49;generalize val6 50 =u50;generalize val6 51 =u51;generalize val6 52 =u52;generalize val6 53 =u53;generalize val6 54 =u54;generalize val6 55 =u55;generalize val6 56 =u56;generalize val6 57 =u57;generalize val6 58 =u58;generalize val6 59 =u59;generalize val6 60 =u60;generalize val6 61 =u61;generalize val6 62 =u62;generalize val6 63 =u63;generalize val6 64 =u64;generalize val6 65 =u65;generalize val6 66 =u66;generalize val6 67 =u67;generalize val6 68 =u68;go_wp2_with fail
    exact key.out _ u11 u48 u49 u50 u51 u52 u53 u54 u55 u56 u57 u58 u59 u60 u61 u62 u63 u64 u65 u66 u67 u68 ⟨q0, qb⟩
  · have hb :=hb.trans hbt
    have hzb :=hzb.trans hbt;obtain⟨f0, f1, f2, c0, c1, c2, hc, HR⟩ :=ND (y0 :=yq0) (y1 :=yq1) (y2 :=yq2) hzb;replace HR :=Lib.hid HR;refine E8 109 [(48, false, 0), (49, false, 0), (11, false, 0), (11, true, 2)] [2]
      [Fct.num [] 13 [xq0, xq1, xq2, yq1 * xq2 - yq2 * xq1, yq2 * xq0 - yq0 * xq2, yq0 * xq1 - yq1 * xq0],
      Fct.num [Ji Jl 2] 161 [f0, f1, f2, c0, c1, c2, 0],
      Fct.ptr 29,
      Fct.var [Ji Jl 2] 161 [f0, f1, f2, c0, c1, c2, 0]]
      0 rfl (by kernel_rfl) rfl ⟨?_, ?_, ?_, ?_, trivial⟩
      (fun val5 => ⟨#[Ja #[Ji .i8 n0, Ji .i8 n1, Ji .i8 n2, Ji .i8 n3, Ji .i8 n4, Ji .i8 n5, Ji .u8 d], Ja #[Ji .i8 x0, Ji .i8 x1, Ji .i8 x2, Ji .i8 y0, Ji .i8 y1, Ji .i8 y2], Ji .i8 k, Jp (Jo ⟨w.heap.size, 0, Jn⟩), Jp (Jo ⟨w.heap.size + 1, 0, Jn⟩), undef, .bool false, Jp (Jo ⟨p7, 0, Jn⟩), Jp (Jo ⟨p8, 0, Jn⟩), Jp (Jo ⟨p9, 0, Jn⟩), Jp (Jo ⟨p10, 0, Jn⟩), val5 11, undef, undef, undef, .bool true, .bool false, val1 17, val1 18, val1 19, val1 20, val2 21, val2 22, val2 23, val2 24, val2 25, val3 26, val3 27, val3 28, val3 29, val3 30, val3 31, val3 32, val3 33, val3 34, val4 35, val4 36, val4 37, val4 38, val4 39, val4 40, val4 41, val4 42, val4 43, val4 44, val4 45, val4 46, .bool false, val5 48, val5 49, undef, undef, undef, undef, undef, undef, undef, undef, undef, undef, undef, undef, undef, undef, undef, undef, undef, undef, undef, undef, undef, undef, undef, undef, undef, undef, undef, undef, undef, undef, undef, undef, undef, undef, undef, undef, undef, undef, undef, undef, undef, undef, undef, undef, undef, undef, undef, undef, undef, undef, undef, undef, undef, undef, undef, undef, undef, undef, undef], []⟩) (fun val5 => by kernel_rfl) (fun val5 W5 hB hF => ⟨?_⟩)
    · exact E7 V9.out (.env rfl (by kernel_rfl)) rfl rfl rfl (by kernel_rfl) (by kernel_rfl)
    · exact EZ cf47 rfl rfl rfl rfl rfl (by kernel_rfl) (fun a v hB hE hD => HR.out _ v (hD 0 _ (by kernel_rfl) rfl) (G.out v hB))
    · exact Fb [Ji Jl 0, Ji Jl 0, Jp Jn, Ji Jl 0, Jp Jn, Ji Jl 0, Jp Jn, Ji Jl 0, Jp Jn, Ji Jl 0, Jp Jn, Ji Jl 0, Jp Jn, Ji Jl 0, Jp Jn, Ji Jl 0, Jp Jn, Ji Jl 0, Jp Jn, Ji Jl 0, Jp Jn, Ji Jl 0, Jp Jn, Ji Jl 0, Jp Jn, Ji Jl 0, Jp Jn, Ji Jl 0, Jp Jn] 90 rfl rfl rfl (by kernel_rfl) (by kernel_rfl) (fun a w => by go_simp)
    · exact E9 2 1 rfl rfl rfl rfl rfl (by kernel_rfl) (by kernel_rfl)
    obtain⟨p11, e11, V11⟩ : (Fct.var [Ji Jl 2] 161 [f0, f1, f2, c0, c1, c2, 0]).P W5 (val5 11) :=hF 3 _ rfl;clear hF;generalize val5 11 =t11 at *
    subst e11;replace V0 :=Lib.hid (fun w' (hb : Below W5.heap.size W5 w') => V0.out w' (Jd hB hb));replace V1 :=Lib.hid (fun w' (hb : Below W5.heap.size W5 w') => V1.out w' (Jd hB hb));replace V7 :=Lib.hid (fun w' (hb : Below W5.heap.size W5 w') => V7.out w' (Jd hB hb));replace V8 :=Lib.hid (fun w' (hb : Below W5.heap.size W5 w') => V8.out w' (Jd hB hb));replace V9 :=Lib.hid (fun w' (hb : Below W5.heap.size W5 w') => V9.out w' (Jd hB hb));replace V10 :=Lib.hid (fun w' (hb : Below W5.heap.size W5 w') => V10.out w' (Jd hB hb));replace V11 :=Lib.hid (fun w' (hb : Below W5.heap.size W5 w') => V11.keep hb);replace K :=Lib.hid (Jd K.out hB);replace G :=Lib.hid (fun w' (hb : Below W5.heap.size W5 w') => G.out w' (Jd hB hb));clear hB;refine Last.nil (by kernel_rfl) ?_;go_upto_region 9 with fail
    refine Fy 109 [(50, false, 0), (51, false, 0), (52, false, 0), (53, false, 0), (54, false, 0), (55, false, 0), (56, false, 0), (57, false, 0), (58, false, 0), (59, false, 0), (60, false, 0), (61, false, 0), (62, false, 0), (63, false, 0), (64, false, 0), (65, false, 0), (66, false, 0), (67, false, 0), (68, false, 0), (69, false, 0)] []
      [Fct.val (Ja #[Ji .i8 x0, Ji .i8 x1, Ji .i8 x2]),
      Fct.val (Ja #[Ji .i8 0, Ji .i8 0, Ji .i8 0]),
      Fct.val (.bool true),
      Fct.val (.bool true),
      Fct.val (Jp (Jo ⟨p11, 0, Jn⟩)),
      Fct.val (Ji Jl 2),
      Fct.val (.bool false),
      Fct.val (.bool false),
      Fct.val (Jp (Jo ⟨p11, 13, Jn⟩)),
      Fct.num [] 161 [c0, c1, c2],
      Fct.val (Ja #[Ji .i8 y0, Ji .i8 y1, Ji .i8 y2]),
      Fct.num [] 3 [yq0, yq1, yq2],
      Fct.num [] 165 [c0-yq0, c1-yq1, c2-yq2],
      Fct.val (Ja #[Ji .i8 x0, Ji .i8 x1, Ji .i8 x2]),
      Fct.num [] 3 [xq0, xq1, xq2],
      Fct.num [] 337 [(c1-yq1) * xq2-(c2-yq2) * xq1, (c2-yq2) * xq0-(c0-yq0) * xq2, (c0-yq0) * xq1-(c1-yq1) * xq0],
      Fct.val (.bool true),
      Fct.val (.bool false),
      Fct.val (.bool false),
      Fct.val (.bool false)]
      #[true, true, true, true, true, true, true, true, true, true, true, true, true, true, true, true, true, true, true, true] 0 rfl (by kernel_rfl) rfl (by kernel_rfl) ⟨?_, ?_, ?_, ?_, ?_, ?_, ?_, ?_, ?_, ?_, ?_, ?_, ?_, ?_, ?_, ?_, ?_, ?_, ?_, ?_, trivial⟩
      (fun val6 => ⟨#[Ja #[Ji .i8 n0, Ji .i8 n1, Ji .i8 n2, Ji .i8 n3, Ji .i8 n4, Ji .i8 n5, Ji .u8 d], Ja #[Ji .i8 x0, Ji .i8 x1, Ji .i8 x2, Ji .i8 y0, Ji .i8 y1, Ji .i8 y2], Ji .i8 k, Jp (Jo ⟨w.heap.size, 0, Jn⟩), Jp (Jo ⟨w.heap.size + 1, 0, Jn⟩), undef, .bool false, Jp (Jo ⟨p7, 0, Jn⟩), Jp (Jo ⟨p8, 0, Jn⟩), Jp (Jo ⟨p9, 0, Jn⟩), Jp (Jo ⟨p10, 0, Jn⟩), Jp (Jo ⟨p11, 0, Jn⟩), undef, undef, undef, .bool true, .bool false, val1 17, val1 18, val1 19, val1 20, val2 21, val2 22, val2 23, val2 24, val2 25, val3 26, val3 27, val3 28, val3 29, val3 30, val3 31, val3 32, val3 33, val3 34, val4 35, val4 36, val4 37, val4 38, val4 39, val4 40, val4 41, val4 42, val4 43, val4 44, val4 45, val4 46, .bool false, val5 48, val5 49, val6 50, val6 51, val6 52, val6 53, val6 54, val6 55, val6 56, val6 57, val6 58, val6 59, val6 60, val6 61, val6 62, val6 63, val6 64, val6 65, val6 66, val6 67, val6 68, val6 69, undef, undef, undef, undef, undef, undef, undef, undef, undef, undef, undef, undef, undef, undef, undef, undef, undef, undef, undef, undef, undef, undef, undef, undef, undef, undef, undef, undef, undef, undef, undef, undef, undef, undef, undef, undef, undef, undef, undef], []⟩) (fun val6 => by kernel_rfl) (fun val6 W6 hB hF => ⟨?_⟩)
    · exact Fk 3 V7.out (.env rfl (by kernel_rfl)) rfl rfl rfl (by kernel_rfl) (by kernel_rfl) rfl (by kernel_rfl)
    · exact Fp rfl rfl (by kernel_rfl) (fun a w _ _ _ => ⟨Ja #[Ji .i8 0, Ji .i8 0, Ji .i8 0], by kernel_rfl, rfl⟩)
    · exact Dl (op := .binOp .neq 54 (.tmp 50) (.tmp 51) 54) rfl rfl (fun _ => rfl) (.dep 0 rfl (by kernel_rfl)) (.dep 1 rfl (by kernel_rfl)) rfl (by kernel_rfl) (fun a w e e2 => Ny hb e e2)
    · exact E5 2 rfl rfl rfl rfl (by kernel_rfl)
    · exact E4 rfl rfl (.env rfl (by kernel_rfl)) ⟨true, rfl, rfl, by kernel_rfl, rfl⟩ (by kernel_rfl) (fun w => by go_simp)
    · exact FW V11.out rfl (.dep 4 rfl (by kernel_rfl)) rfl rfl ⟨true, rfl, rfl, by kernel_rfl, rfl⟩ (by kernel_rfl) (by kernel_rfl)
    · exact Fm (op := .binOp .neq 3 (.tmp 55) (.const (Ji Jl 2)) 3) rfl rfl (fun _ => rfl) (.dep 5 rfl (by kernel_rfl)) ⟨true, rfl, rfl, by kernel_rfl, rfl⟩ (by kernel_rfl) (fun a w e => by unfold execOp bare;dsimp only;rw[e];go_simp <;> rfl)
    · exact E5 6 rfl rfl rfl ⟨true, rfl, rfl, by kernel_rfl, rfl⟩ (by kernel_rfl)
    · exact E4 rfl rfl (.env rfl (by kernel_rfl)) ⟨false, rfl, rfl, by kernel_rfl, rfl⟩ (by kernel_rfl) (fun w => by go_simp)
    · exact E6 3 3 V11.out (.dep 8 rfl (by kernel_rfl)) rfl rfl ⟨false, rfl, rfl, by kernel_rfl, rfl⟩ (by kernel_rfl) (by kernel_rfl) (by kernel_rfl)
    · exact Fk 3 V8.out (.env rfl (by kernel_rfl)) rfl rfl ⟨false, rfl, rfl, by kernel_rfl, rfl⟩ (by kernel_rfl) (by kernel_rfl) rfl (by kernel_rfl)
    · exact EZ cf22 rfl rfl rfl rfl ⟨false, rfl, rfl, by kernel_rfl, rfl⟩ (by kernel_rfl) (fun a v hB hE hD => (show Calls _ _ #[Act.at_ a 60] v _ from by rw[show Act.at_ a 60 =_ from hD 10 _ (by kernel_rfl) rfl];exact Hy.out v (G.out v hB)))
    · exact EZ cf54 rfl rfl rfl rfl ⟨false, rfl, rfl, by kernel_rfl, rfl⟩ (by kernel_rfl) (fun a v hB hE hD => Lt (hD 9 _ (by kernel_rfl) rfl) (hD 11 _ (by kernel_rfl) rfl) (by kernel_rfl) (G.out v hB))
    · exact Fk 3 V7.out (.env rfl (by kernel_rfl)) rfl rfl ⟨false, rfl, rfl, by kernel_rfl, rfl⟩ (by kernel_rfl) (by kernel_rfl) rfl (by kernel_rfl)
    · exact EZ cf22 rfl rfl rfl rfl ⟨false, rfl, rfl, by kernel_rfl, rfl⟩ (by kernel_rfl) (fun a v hB hE hD => (show Calls _ _ #[Act.at_ a 63] v _ from by rw[show Act.at_ a 63 =_ from hD 13 _ (by kernel_rfl) rfl];exact Hx.out v (G.out v hB)))
    · exact EZ cf32 rfl rfl rfl rfl ⟨false, rfl, rfl, by kernel_rfl, rfl⟩ (by kernel_rfl) (fun a v hB hE hD => FO (hD 12 _ (by kernel_rfl) rfl) (hD 14 _ (by kernel_rfl) rfl) (by kernel_rfl) (G.out v hB))
    · exact EZ cf18 rfl rfl rfl rfl ⟨false, rfl, rfl, by kernel_rfl, rfl⟩ (by kernel_rfl) (fun a v hB hE hD => Ft (hD 15 _ (by kernel_rfl) rfl) (Zw.2 hc) (by kernel_rfl))
    · exact Fm (op := .unOp .not 4 (.tmp 66)) rfl rfl (fun _ => rfl) (.dep 16 rfl (by kernel_rfl)) ⟨false, rfl, rfl, by kernel_rfl, rfl⟩ (by kernel_rfl) (fun a w e => by unfold execOp bare;dsimp only;rw[e];go_simp <;> rfl)
    · exact Nz 7 17 rfl rfl rfl rfl ⟨true, rfl, rfl, by kernel_rfl, rfl⟩ (by kernel_rfl)
    · exact Fe 3 18 rfl rfl rfl rfl rfl (by kernel_rfl)
    have e69 : val6 69 = .bool false :=hF 19 _ rfl;clear hF;generalize val6 69 =t69 at *
    subst e69;replace V0 :=Lib.hid (fun w' (hb : Below W6.heap.size W6 w') => V0.out w' (Jd hB hb));replace V1 :=Lib.hid (fun w' (hb : Below W6.heap.size W6 w') => V1.out w' (Jd hB hb));replace V7 :=Lib.hid (fun w' (hb : Below W6.heap.size W6 w') => V7.out w' (Jd hB hb));replace V8 :=Lib.hid (fun w' (hb : Below W6.heap.size W6 w') => V8.out w' (Jd hB hb));replace V9 :=Lib.hid (fun w' (hb : Below W6.heap.size W6 w') => V9.out w' (Jd hB hb));replace V10 :=Lib.hid (fun w' (hb : Below W6.heap.size W6 w') => V10.out w' (Jd hB hb));replace V11 :=Lib.hid (fun w' (hb : Below W6.heap.size W6 w') => V11.out w' (Jd hB hb));replace K :=Lib.hid (Jd K.out hB);replace G :=Lib.hid (fun w' (hb : Below W6.heap.size W6 w') => G.out w' (Jd hB hb));clear hB;refine Last.nil (by kernel_rfl) ?_;have q0 :=V0.out _ (N0 _ _);have qb :=K.out;generalize Value.pointer (Jo ⟨p11, 0, Jn⟩) =u11;generalize val5 48 =u48;generalize val5 49 =u49;generalize val6 50 =u50;generalize val6 51 =u51;generalize val6 52 =u52;generalize val6 53 =u53;generalize val6 54 =u54;generalize val6 55 =u55;generalize val6 56 =u56;generalize val6 57 =u57;generalize val6 58 =u58;generalize val6 59 =u59;generalize val6 60 =u60;generalize val6 61 =u61;generalize val6 62 =u62;generalize val6 63 =u63;generalize val6 64 =u64;generalize val6 65 =u65;generalize val6 66 =u66;generalize val6 67 =u67;generalize val6 68 =u68;go_wp2_with fail
    exact key.out _ u11 u48 u49 u50 u51 u52 u53 u54 u55 u56 u57 u58 u59 u60 u61 u62 u63 u64 u65 u66 u67 u68 ⟨q0, qb⟩
