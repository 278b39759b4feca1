/- The law TwistScales. -/
import Derived.Test.YthhobhjcnmmipaaGreatDoorSTwr
namespace Go.Proofs.YthhobhjcnmmipaaGreatDoor
open Go.Value renaming pointer→Jp,int→Ji,string→Js,agg→Ja,int→M6
open Go.IntKind renaming i64→Jl,wrap→M2
open Go.Obj renaming cells→Jc
open _root_.Option renaming none→Jn,some→Jo
open Go renaming World→JW
open Go.RowKit.Below renaming refl→M0
open _root_.And renaming intro→M1
open _root_.Rat renaming divInt→M3
open _root_.Nat renaming le_refl→M4,gcd_zero_right→M7,gcd→M8,gcd_comm→M9,lt_or_ge→Mw
open _root_.Bool renaming and_eq_true→M5
open Go.RowKit
theorem cf57(args : Array Value)(w : JW) : (callFunc 57 args).run Tryz.prog w = .ok (.enter 57 args) w :=by go_simp
set_option maxRecDepth 100000 in
set_option maxHeartbeats 16000000 in
theorem NZ{x : Value}{q0 q1 q2 q3 q4 q5 : Rat}{w : JW}(h : (Fct.num [] 4 [q0, q1, q2, q3, q4, q5]).P w x)(hz : ((cmpV q0 q1 q2 0 0 0 ==0) && (cmpV q3 q4 q5 0 0 0 ==0)) =true)(hg : Good w) :
  Calls Tryz.prog 57 #[x] w (Ret w (Fct.made 19 1 [0, 0, 0, 0, 0, 0])) :=by
 obtain⟨rs0, rfl, hr0, f0⟩ :=h;obtain⟨A0, hA0⟩ : ∃A, ([] ++ flat rs0).toArray =A :=⟨_, rfl⟩;have k0 :=(M0 w.heap.size w).alloc (M4 _) (Jc A0 37);have k1 :=k0.alloc (by simp) (Jc #[M6 Jl 0, Jp Jn, Ji Jl 0, Jp Jn, Ji Jl 0, Jp Jn, Ji Jl 0, Jp Jn, Ji Jl 0, Jp Jn, Ji Jl 0, Jp Jn, Ji Jl 0, Jp Jn, Ji Jl 0, Jp Jn, Ji Jl 0, Jp Jn, Ji Jl 0, Jp Jn, Ji Jl 0, Jp Jn, Ji Jl 0, Jp Jn] 37);have V0 :=Fi.box hA0.symm hr0 f0 37;have V1 :=Jh.new (w.alloc (Jc A0 37)) #[M6 Jl 0, Jp Jn, Ji Jl 0, Jp Jn, Ji Jl 0, Jp Jn, Ji Jl 0, Jp Jn, Ji Jl 0, Jp Jn, Ji Jl 0, Jp Jn, Ji Jl 0, Jp Jn, Ji Jl 0, Jp Jn, Ji Jl 0, Jp Jn, Ji Jl 0, Jp Jn, Ji Jl 0, Jp Jn, Ji Jl 0, Jp Jn] 37;have j1 :=(M0 (w.alloc (Jc A0 37)).heap.size (w.alloc (Jc A0 37))).alloc (M4 _) (Jc #[M6 Jl 0, Jp Jn, Ji Jl 0, Jp Jn, Ji Jl 0, Jp Jn, Ji Jl 0, Jp Jn, Ji Jl 0, Jp Jn, Ji Jl 0, Jp Jn, Ji Jl 0, Jp Jn, Ji Jl 0, Jp Jn, Ji Jl 0, Jp Jn, Ji Jl 0, Jp Jn, Ji Jl 0, Jp Jn, Ji Jl 0, Jp Jn] 37);replace V0 :=(V0.keep j1);simp only[World.size_alloc]at V0 V1;rw[hA0];obtain⟨W, hW⟩ : ∃W, (w.alloc (Jc A0 37)).alloc (Jc #[M6 Jl 0, Jp Jn, Ji Jl 0, Jp Jn, Ji Jl 0, Jp Jn, Ji Jl 0, Jp Jn, Ji Jl 0, Jp Jn, Ji Jl 0, Jp Jn, Ji Jl 0, Jp Jn, Ji Jl 0, Jp Jn, Ji Jl 0, Jp Jn, Ji Jl 0, Jp Jn, Ji Jl 0, Jp Jn, Ji Jl 0, Jp Jn] 37) =W :=⟨_, rfl⟩;rw[hW]at k1 V0 V1;replace V0 :=Lh (fun w' (hb : Below W.heap.size W w') => V0.keep hb);replace V1 :=Lh V1;have K :=Lh k1;have G :=Lh (fun w' (hb : Below W.heap.size W w') => hg.below (k1.trans (hb.mono k1.size)));clear hg hr0 f0 hA0 k0 k1 j1
 go_enter Tryz.func57, Tryz.ntmps57;go_upto_region 1 with fail
 try simp only[hW]
 clear hW;refine E8 54 [(13, false, 0), (14, false, 0)] []
  [Fct.num [] 4 [q0, q1, q2, q3, q4, q5],
  Fct.val (.bool true)]
  0 rfl (by kernel_rfl) rfl ⟨?_, ?_, trivial⟩
  (fun val0 => ⟨#[Ja A0, Jp (Jo ⟨w.heap.size, 0, Jn⟩), Jp (Jo ⟨w.heap.size + 1, 0, Jn⟩), Ji Jl 0, undef, undef, undef, undef, undef, undef, undef, undef, undef, val0 13, val0 14, undef, undef, undef, undef, undef, undef, undef, undef, undef, undef, undef, undef, undef, undef, undef, undef, undef, undef, undef, undef, undef, undef, undef, undef, undef, undef, undef, undef, undef, undef, undef, undef, undef, undef, undef, undef, undef, undef, undef], []⟩) (fun val0 => by kernel_rfl) (fun val0 W0 hB hF => ⟨?_⟩)
 ·exact E7 V0.out (.env rfl (by kernel_rfl)) rfl rfl rfl (by kernel_rfl) (by kernel_rfl)
 ·exact EZ cf17 rfl rfl rfl rfl rfl (by kernel_rfl) (fun a v hB hE hD => (hz ▸ LD (hD 0 _ (by kernel_rfl) rfl) (by kernel_rfl) (G.out v hB)))
 have e14 : val0 14 = .bool true :=hF 1 _ rfl;clear hF;generalize val0 14 =t14 at *
 subst e14;replace V0 :=Lh (fun w' (hb : Below W0.heap.size W0 w') => V0.out w' (Jd hB hb));replace V1 :=Lh (V1.out.keep hB);replace K :=Lh (Jd K.out hB);replace G :=Lh (fun w' (hb : Below W0.heap.size W0 w') => G.out w' (Jd hB hb));clear hB;refine Last.nil (by kernel_rfl) ?_;go_upto_region 2 with fail
 refine LK 54 [(15, false, 0)] [] [Fct.num [] 1 [0, 0, 0, 0, 0, 0]] 2 rfl (by kernel_rfl) rfl ⟨?_, trivial⟩
  (fun valE => ⟨#[Ja A0, Jp (Jo ⟨w.heap.size, 0, Jn⟩), Jp (Jo ⟨w.heap.size + 1, 0, Jn⟩), Ji Jl 0, undef, undef, undef, undef, undef, undef, undef, undef, undef, val0 13, .bool true, valE 15, undef, undef, undef, undef, undef, undef, undef, undef, undef, undef, undef, undef, undef, undef, undef, undef, undef, undef, undef, undef, undef, undef, undef, undef, undef, undef, undef, undef, undef, undef, undef, undef, undef, undef, undef, undef, undef, undef], []⟩) (fun valE => by kernel_rfl) (fun valE WE hB hF => ⟨?_⟩)
 ·exact Fl (parts := []) rfl rfl rfl (by kernel_rfl) (fun a w hB hE hD => ⟨(flat [Jm, Jm, Jm, Jm, Jm, Jm]).toArray, by kernel_rfl, [Jm, Jm, Jm, Jm, Jm, Jm], rfl, ⟨vat0 w, vat0 w, vat0 w, vat0 w, vat0 w, vat0 w, trivial⟩, fun q hq => by
   rw [show q = 0 by simpa using hq]; exact few0⟩)
 obtain⟨rs2, e53, hr2, fr2⟩ : (Fct.num [] 1 [0, 0, 0, 0, 0, 0]).P WE (valE 15) :=hF 0 _ rfl;clear hF;generalize valE 15 =t15 at *
 have hl2 : ([] ++ flat rs2).length =24 :=by simp[Fc, hr2.len]
 have hz2 :=V1.out.keep hB;have W1 :=hz2.wrote_ (vs := [] ++ flat rs2) hl2 rfl (Fa _);have C1 :=hz2.stored (vs := [] ++ flat rs2) hl2;have hV : Fi _ (w.heap.size + 1) [] 1 [0, 0, 0, 0, 0, 0] :=⟨rs2, C1, hr2.wr W1, fr2⟩;have Kf :=W1.below (show w.heap.size <= w.heap.size + 1 by omega) (K.out.trans (hB.mono K.out.size));refine Ng (m :=24) (w.heap.size + 1) 0 ([] ++ flat rs2) rfl rfl rfl rfl rfl e53 hl2 (hz2.there 24 (by show 24 <= 24;decide)) (by kernel_rfl) (Fa _) ?_;refine Nd (u :=Ji Jl 19) rfl rfl rfl (DW ?_);generalize World.setCells _ _ _ _ =WF at *
 clear W1 C1 hz2 hr2 fr2 e53 hl2 hB V0 V1 K G;go_wp2_with fail
 exact NK (m :=24) hV Kf rfl rfl rfl (by kernel_rfl) (by kernel_rfl) rfl
theorem Me(x0 x1 x2 x3 x4 x5 : Int)(w : JW) : (Op.equalIn 10000 51 (Ja #[Ji .i8 x0, Ji .i8 x1, Ji .i8 x2, Ji .i8 x3, Ji .i8 x4, Ji .i8 x5]) (Ja #[Ji .i8 0, Ji .i8 0, Ji .i8 0, Ji .i8 0, Ji .i8 0, Ji .i8 0])).run Tryz.prog w = .ok (x0 ==0 && x1 ==0 && x2 ==0 && x3 ==0 && x4 ==0 && x5 ==0) w :=by
 rcases x0 with(_|n)|n
 ·rcases x1 with(_|n)|n
  ·rcases x2 with(_|n)|n
   ·rcases x3 with(_|n)|n
    ·rcases x4 with(_|n)|n
     ·rcases x5 with(_|n)|n <;> kernel_rfl
     ·kernel_rfl
     ·kernel_rfl
    ·kernel_rfl
    ·kernel_rfl
   ·kernel_rfl
   ·kernel_rfl
  ·kernel_rfl
  ·kernel_rfl
 ·kernel_rfl
 ·kernel_rfl
set_option maxRecDepth 100000 in
theorem Mb{ρ : Operand -> Value}{w : JW}{x0 x1 x2 x3 x4 x5 : Int}{b : Bool}{s s' : Tmp}(hb : (x0 ==0 && x1 ==0 && x2 ==0 && x3 ==0 && x4 ==0 && x5 ==0) =b)(h : ρ (.tmp s) =Ja #[Ji .i8 x0, Ji .i8 x1, Ji .i8 x2, Ji .i8 x3, Ji .i8 x4, Ji .i8 x5])(h' : ρ (.tmp s') =Ja #[Ji .i8 0, Ji .i8 0, Ji .i8 0, Ji .i8 0, Ji .i8 0, Ji .i8 0]) : (execOp ρ (bare (.binOp .eql 51 (.tmp s) (.tmp s') 51))).run Tryz.prog w = .ok (.value (.bool b)) w :=by
 have e :=Me x0 x1 x2 x3 x4 x5 w;unfold execOp bare;dsimp only;rw[h, h'];go_simp
theorem N1{n r : Int}(h0 : 0 <= r) : tq n r =0 ↔ n =0 :=by
 have hD : ((1 + r : Int) : Rat) ≠ 0 :=fun e => by
  have :=Rat.intCast_eq_zero_iff.1 e;omega
 unfold tq;constructor
 ·intro h;have e1 : ((n : Int) : Rat)/((1 + r : Int) : Rat) * ((1 + r : Int) : Rat) =((n : Int) : Rat) :=Rat.div_mul_cancel hD;rw[h, Rat.zero_mul]at e1;exact Rat.intCast_eq_zero_iff.1 e1.symm
 ·rintro rfl;rw[Rat.div_def];exact Rat.zero_mul _
theorem N0{n0 n1 n2 n3 n4 n5 r : Int}(h0 : 0 <= r) : ((cmpV (tq n0 r) (tq n1 r) (tq n2 r) 0 0 0 ==0) && (cmpV (tq n3 r) (tq n4 r) (tq n5 r) 0 0 0 ==0)) =(n0 ==0 && n1 ==0 && n2 ==0 && n3 ==0 && n4 ==0 && n5 ==0) :=by
 show(Xv _ _ _ && Xv _ _ _) =_;rw[Bool.eq_iff_iff];simp only[M5, Zw, N1 h0, beq_iff_eq];constructor
 ·rintro⟨⟨a, b, c⟩, d, e, f⟩;exact⟨⟨⟨⟨⟨a, b⟩, c⟩, d⟩, e⟩, f⟩
 ·rintro⟨⟨⟨⟨⟨a, b⟩, c⟩, d⟩, e⟩, f⟩;exact⟨⟨a, b, c⟩, d, e, f⟩
theorem Mi{m : Nat -> Nat}{b : Nat}(h : ∀k, m k <= b) : ∀k, gK m k <= b
 | 0 => Nat.zero_le _
 | k + 1 => by
  unfold gK;rcases Nat.eq_zero_or_pos (m k)with h0|h0
  ·rw[h0, M7];exact Mi h k
  ·exact Nat.le_trans (Nat.gcd_le_right _ h0) (h k)
theorem i6_8{n0 n1 n2 n3 n4 n5 d r : Int}(h : S6 n0 n1 n2 n3 n4 n5 d r) : ∀k, I8 (i6 n0 n1 n2 n3 n4 n5 k)
 | 0 => h.h0
 | 1 => h.h1
 | 2 => h.h2
 | 3 => h.h3
 | 4 => h.h4
 | _ + 5 => h.h5
theorem Mh(n0 n1 n2 n3 n4 n5 e : Int)(k : Nat)(hk : k < 6) : ([Ji .i8 n0, Ji .i8 n1, Ji .i8 n2, Ji .i8 n3, Ji .i8 n4, Ji .i8 n5, Ji .u8 e] : List Value)[k]? =Jo (Ji .i8 (i6 n0 n1 n2 n3 n4 n5 k)) :=by
 match k, hk with
 | 0, _ => rfl
 | 1, _ => rfl
 | 2, _ => rfl
 | 3, _ => rfl
 | 4, _ => rfl
 | 5, _ => rfl
def y6(s0 s1 s2 s3 s4 s5 : ByteArray) : Nat -> ByteArray
 | 0 => s0
 | 1 => s1
 | 2 => s2
 | 3 => s3
 | 4 => s4
 | _ => s5
theorem NV(s0 s1 s2 s3 s4 s5 : ByteArray)(k : Nat)(hk : k < 6) : (Dc s0 s1 s2 s3 s4 s5 k).length =6 /\ (Dc s0 s1 s2 s3 s4 s5 k).all plainW =true /\ (Dc s0 s1 s2 s3 s4 s5 k).set k (Js (y6 s0 s1 s2 s3 s4 s5 k)) =Dc s0 s1 s2 s3 s4 s5 (k + 1) :=by
 match k, hk with
 | 0, _ => exact⟨rfl, rfl, rfl⟩
 | 1, _ => exact⟨rfl, rfl, rfl⟩
 | 2, _ => exact⟨rfl, rfl, rfl⟩
 | 3, _ => exact⟨rfl, rfl, rfl⟩
 | 4, _ => exact⟨rfl, rfl, rfl⟩
 | 5, _ => exact⟨rfl, rfl, rfl⟩
theorem Ma{ρ : Operand -> Value}{w : JW}{p k : Nat}{s s' : Tmp}(hk : k < 6)(h : ρ (.tmp s) =Jp (Jo ⟨p, 0, Jn⟩))(h' : ρ (.tmp s') =Ji Jl (k : Int)) : (execOp ρ (bare (.indexAddr 51 (.tmp s) (.tmp s')))).run Tryz.prog w = .ok (.value (Jp (Jo ⟨p, k, Jn⟩))) w :=by
 unfold execOp bare;dsimp only;rw[h, h']
 match k, hk with
 | 0, _ => go_simp <;> rfl
 | 1, _ => go_simp <;> rfl
 | 2, _ => go_simp <;> rfl
 | 3, _ => go_simp <;> rfl
 | 4, _ => go_simp <;> rfl
 | 5, _ => go_simp <;> rfl
theorem N3{ρ : Operand -> Value}{w : JW}{p k : Nat}{s s' : Tmp}(hk : k < 6)(h : ρ (.tmp s) =Jp (Jo ⟨p, 0, Jn⟩))(h' : ρ (.tmp s') =Ji Jl (k : Int)) : (execOp ρ (bare (.indexAddr 24 (.tmp s) (.tmp s')))).run Tryz.prog w = .ok (.value (Jp (Jo ⟨p, k, Jn⟩))) w :=by
 unfold execOp bare;dsimp only;rw[h, h']
 match k, hk with
 | 0, _ => go_simp <;> rfl
 | 1, _ => go_simp <;> rfl
 | 2, _ => go_simp <;> rfl
 | 3, _ => go_simp <;> rfl
 | 4, _ => go_simp <;> rfl
 | 5, _ => go_simp <;> rfl
theorem N2{ρ : Operand -> Value}{w : JW}{x g : Int}{s s' : Tmp}(hg : g ≠ 0)(hw : M2 Jl (x.tdiv g) =x.tdiv g)(h : ρ (.tmp s) =Ji Jl x)(h' : ρ (.tmp s') =Ji Jl g) : (execOp ρ (bare (.binOp .quo 3 (.tmp s) (.tmp s') 3))).run Tryz.prog w = .ok (.value (Ji Jl (x.tdiv g))) w :=by
 unfold execOp bare;dsimp only;rw[h, h'];go_simp
def Fct.celB(B : Nat)(l : List Value) : Fct :=⟨fun w t => ∃p, t =Jp (Jo ⟨p, 0, Jn⟩) /\ B <= p /\ Jh w p l, true, fun⟨p, e, hB, h⟩ hb => ⟨p, e, hB, h.keep hb⟩, fun⟨p, e, hB, h⟩ hw hn => ⟨p, e, hB, h.wr hw (fun e2 => hn rfl (by rw[e, e2]))⟩⟩
section
variable {P : Program} {ops : Array Oper} {Q : Exit -> Act -> JW -> Prop} {w0 : JW} {a0 : Act} {L : Lay} {als : List Nat} {Fs : List Fct}
theorem NT{i : Nat}{o : Oper}{T : TypeId}{s s2 : Tmp}{l : List Value}{n B : Nat}(al j : Nat)(ho : ops[i]? =Jo o)(hop : o.op = .store T (.tmp s) (.tmp s2))(hg : Fg ops Fs L o i true)(hal : Fs[al]? =Jo (Fct.ptrB B n))(hj : Fs[j]? =Jo (Fct.val (Ja l.toArray)))
  (hx : (L.own i && L.slot i ==s && L.slot al ==s && L.slot j ==s2 && Qp .any ops i al && Qp .any ops i j && l.all plainW && l.length ==n) =true) (hT : (P.info? T).map (·.size) =Jo n) : Has P ops Q w0 a0 L als Fs (Fct.celB B l) i :=by
 simp only[M5, beq_iff_eq]at hx;obtain⟨⟨⟨⟨⟨⟨⟨h0, h1⟩, h2⟩, h3⟩, h4⟩, h5⟩, h6⟩, h7⟩ :=hx;refine DS n ho hop hg h0 h1 hT fun a w hB hE hD => ?_;obtain⟨p, e, hb, m, hc, hl, hp⟩ :=hD al _ h4 hal;have e2 : Act.at_ a (L.slot j) =Ja l.toArray :=hD j _ h5 hj;rw[h2]at e;rw[h3]at e2;exact⟨p, m, l, e, hc, hl, hp, e2, h7, h6, fun v hW hC => ⟨p, rfl, hb, hC⟩⟩
end
theorem NW(d n : Int) : M8 n.natAbs (Int.tmod d n).natAbs =M8 d.natAbs n.natAbs :=by
 rw[Int.natAbs_tmod, M9 n.natAbs, ←Nat.gcd_rec, M9]
theorem NQ(d n : Int)(h : n ≠ 0) : (Int.tmod d n).natAbs < n.natAbs :=by
 rw[Int.natAbs_tmod];exact Nat.mod_lt _ (by omega)
theorem Mt{n0 n1 n2 n3 n4 n5 : Int}(h : (n0 ==0 && n1 ==0 && n2 ==0 && n3 ==0 && n4 ==0 && n5 ==0) =false) : gK (fun k => (i6 n0 n1 n2 n3 n4 n5 k).natAbs) 6 ≠ 0 :=fun e => by
 have d :=fun k hk => NU (fun k => (i6 n0 n1 n2 n3 n4 n5 k).natAbs) 6 k hk;rw[e]at d;have z : ∀k, k < 6 -> i6 n0 n1 n2 n3 n4 n5 k =0 :=fun k hk => Int.natAbs_eq_zero.1 (Nat.eq_zero_of_zero_dvd (d k hk));have z0 : n0 =0 :=z 0 (by decide);have z1 : n1 =0 :=z 1 (by decide);have z2 : n2 =0 :=z 2 (by decide);have z3 : n3 =0 :=z 3 (by decide);have z4 : n4 =0 :=z 4 (by decide);have z5 : n5 =0 :=z 5 (by decide);subst z0 z1 z2 z3 z4 z5;cases h
section
variable {P : Program} {ops : Array Oper} {Q : Exit -> Act -> JW -> Prop} {w0 : JW} {a0 : Act} {L : Lay} {als : List Nat} {Fs : List Fct}
end
section
variable {P : Program} {ops : Array Oper} {Q : Exit -> Act -> JW -> Prop} {w0 : JW} {a0 : Act} {L : Lay} {als : List Nat} {Fs : List Fct}
theorem Nz{i : Nat}{o : Oper}{F : Fct}{c s : Tmp}{x : Operand}(jc j : Nat)(ho : ops[i]? =Jo o)(hop : o.op = .pick (.tmp c) x (.tmp s))(hc : Fs[jc]? =Jo (Fct.val (.bool false)))(hj : Fs[j]? =Jo F)(hg : Fg ops Fs L o i true)(hx : (!(L.own i || als.contains i) && L.slot jc ==c && L.slot j ==s && Qp .any ops i jc && Qp .any ops i j) =true) : Has P ops Q w0 a0 L als Fs F i :=by
 simp only[M5, Bool.not_eq_true', beq_iff_eq]at hx;obtain⟨⟨⟨⟨h0, h1⟩, h2⟩, h3⟩, h4⟩ :=hx;refine Fp ho hg h0 fun a w hB hE hD => ⟨Act.at_ a s, ?_, by rw[←h2];exact hD j _ h4 hj⟩;have e : a.eval (.tmp c) = .bool false :=by have :=hD jc _ h3 hc;rw[h1]at this;exact this
 unfold execOp;rw[hop];show(do pure (Next.value (if ←asBool (a.eval (.tmp c)) then a.eval x else Act.at_ a s))).run P w =_;rw[e];rfl
end
set_option maxRecDepth 100000 in
set_option maxHeartbeats 16000000 in
theorem NR{n0 n1 n2 n3 n4 n5 d r m0 m1 m2 m3 m4 m5 e f k : Int}{w : JW}(s1 : S6 n0 n1 n2 n3 n4 n5 d r)(s2 : S6 m0 m1 m2 m3 m4 m5 e f)(hk : I8 k)(hg : Good w) :
  Calls Tryz.prog 11 #[Ja #[Ji .i8 n0, Ji .i8 n1, Ji .i8 n2, Ji .i8 n3, Ji .i8 n4, Ji .i8 n5, Ji .u8 d], Ja #[Ji .i8 m0, Ji .i8 m1, Ji .i8 m2, Ji .i8 m3, Ji .i8 m4, Ji .i8 m5, Ji .u8 e], Ji .i8 k] w (Ret w (Fct.val (.bool true))) :=by
 obtain⟨a0, ha0⟩ : ∃q, tq n0 r =q :=⟨_, rfl⟩;obtain⟨a1, ha1⟩ : ∃q, tq n1 r =q :=⟨_, rfl⟩;obtain⟨a2, ha2⟩ : ∃q, tq n2 r =q :=⟨_, rfl⟩;obtain⟨a3, ha3⟩ : ∃q, tq n3 r =q :=⟨_, rfl⟩;obtain⟨a4, ha4⟩ : ∃q, tq n4 r =q :=⟨_, rfl⟩;obtain⟨a5, ha5⟩ : ∃q, tq n5 r =q :=⟨_, rfl⟩;have Ha :=fun(v : JW) (hg : Good v) => c_of (w :=v) s1 hg;rw[ha0, ha1, ha2, ha3, ha4, ha5]at Ha;replace Ha :=Lh Ha;obtain⟨b0, hb0⟩ : ∃q, tq m0 f =q :=⟨_, rfl⟩;obtain⟨b1, hb1⟩ : ∃q, tq m1 f =q :=⟨_, rfl⟩;obtain⟨b2, hb2⟩ : ∃q, tq m2 f =q :=⟨_, rfl⟩;obtain⟨b3, hb3⟩ : ∃q, tq m3 f =q :=⟨_, rfl⟩;obtain⟨b4, hb4⟩ : ∃q, tq m4 f =q :=⟨_, rfl⟩;obtain⟨b5, hb5⟩ : ∃q, tq m5 f =q :=⟨_, rfl⟩;have Hb :=fun(v : JW) (hg : Good v) => c_of (w :=v) s2 hg;rw[hb0, hb1, hb2, hb3, hb4, hb5]at Hb;replace Hb :=Lh Hb;have HG :=Lh hg;obtain⟨kq, hkq⟩ : ∃q, ((k : Int) : Rat) =q :=⟨_, rfl⟩;have HK :=fun(v : JW) => Fv (w :=v) hk.i64 hk.few;rw[hkq]at HK;replace HK :=Lh HK;have hwk : M2 Jl k =k :=EM hk.i64.1 hk.i64.2;obtain⟨zz, hzz⟩ : ∃b, (n0 ==0 && n1 ==0 && n2 ==0 && n3 ==0 && n4 ==0 && n5 ==0) =b :=⟨_, rfl⟩;have r0 : 0 <= r :=by have :=s1.r_;have :=s1.d0;omega
 have hza :=(N0 r0).trans hzz;have hpr : gK (fun k => (i6 n0 n1 n2 n3 n4 n5 k).natAbs) 6 ≠ 0 -> ovK (f6 (tq n0 r) (tq n1 r) (tq n2 r) (tq n3 r) (tq n4 r) (tq n5 r)) 6 ≠ 0 /\ M3 ((unK (f6 (tq n0 r) (tq n1 r) (tq n2 r) (tq n3 r) (tq n4 r) (tq n5 r)) 6 : Nat) : Int) ((ovK (f6 (tq n0 r) (tq n1 r) (tq n2 r) (tq n3 r) (tq n4 r) (tq n5 r)) 6 : Nat) : Int) * tq n0 r =(((n0.tdiv ((gK (fun k => (i6 n0 n1 n2 n3 n4 n5 k).natAbs) 6 : Nat) : Int)) : Int) : Rat) /\ M3 ((unK (f6 (tq n0 r) (tq n1 r) (tq n2 r) (tq n3 r) (tq n4 r) (tq n5 r)) 6 : Nat) : Int) ((ovK (f6 (tq n0 r) (tq n1 r) (tq n2 r) (tq n3 r) (tq n4 r) (tq n5 r)) 6 : Nat) : Int) * tq n1 r =(((n1.tdiv ((gK (fun k => (i6 n0 n1 n2 n3 n4 n5 k).natAbs) 6 : Nat) : Int)) : Int) : Rat) /\ M3 ((unK (f6 (tq n0 r) (tq n1 r) (tq n2 r) (tq n3 r) (tq n4 r) (tq n5 r)) 6 : Nat) : Int) ((ovK (f6 (tq n0 r) (tq n1 r) (tq n2 r) (tq n3 r) (tq n4 r) (tq n5 r)) 6 : Nat) : Int) * tq n2 r =(((n2.tdiv ((gK (fun k => (i6 n0 n1 n2 n3 n4 n5 k).natAbs) 6 : Nat) : Int)) : Int) : Rat) /\ M3 ((unK (f6 (tq n0 r) (tq n1 r) (tq n2 r) (tq n3 r) (tq n4 r) (tq n5 r)) 6 : Nat) : Int) ((ovK (f6 (tq n0 r) (tq n1 r) (tq n2 r) (tq n3 r) (tq n4 r) (tq n5 r)) 6 : Nat) : Int) * tq n3 r =(((n3.tdiv ((gK (fun k => (i6 n0 n1 n2 n3 n4 n5 k).natAbs) 6 : Nat) : Int)) : Int) : Rat) /\ M3 ((unK (f6 (tq n0 r) (tq n1 r) (tq n2 r) (tq n3 r) (tq n4 r) (tq n5 r)) 6 : Nat) : Int) ((ovK (f6 (tq n0 r) (tq n1 r) (tq n2 r) (tq n3 r) (tq n4 r) (tq n5 r)) 6 : Nat) : Int) * tq n4 r =(((n4.tdiv ((gK (fun k => (i6 n0 n1 n2 n3 n4 n5 k).natAbs) 6 : Nat) : Int)) : Int) : Rat) /\ M3 ((unK (f6 (tq n0 r) (tq n1 r) (tq n2 r) (tq n3 r) (tq n4 r) (tq n5 r)) 6 : Nat) : Int) ((ovK (f6 (tq n0 r) (tq n1 r) (tq n2 r) (tq n3 r) (tq n4 r) (tq n5 r)) 6 : Nat) : Int) * tq n5 r =(((n5.tdiv ((gK (fun k => (i6 n0 n1 n2 n3 n4 n5 k).natAbs) 6 : Nat) : Int)) : Int) : Rat) :=fun hne => by
  have p :=Mc (n0 :=n0) (n1 :=n1) (n2 :=n2) (n3 :=n3) (n4 :=n4) (n5 :=n5) r0 rfl hne;exact⟨p.1, p.2 0 (by decide), p.2 1 (by decide), p.2 2 (by decide), p.2 3 (by decide), p.2 4 (by decide), p.2 5 (by decide)⟩
 rw[ha0, ha1, ha2, ha3, ha4, ha5]at hza hpr;have HP :=Lh hpr;have HS :=Lh s1;obtain⟨x0, hx0⟩ : ∃b, (cmpV a0 a1 a2 b0 b1 b2 ==0) =b :=⟨_, rfl⟩;obtain⟨x1, hx1⟩ : ∃b, (cmpV a3 a4 a5 b3 b4 b5 ==0) =b :=⟨_, rfl⟩;clear hk hkq hpr r0;clear s1 s2 ha0 ha1 ha2 ha3 ha4 ha5 hb0 hb1 hb2 hb3 hb4 hb5;have k0 :=(M0 w.heap.size w).alloc (M4 _) (Jc #[Ji .i8 n0, Ji .i8 n1, Ji .i8 n2, Ji .i8 n3, Ji .i8 n4, Ji .i8 n5, Ji .u8 d] 53);have k1 :=k0.alloc (by simp) (Jc #[Ji .i8 m0, Ji .i8 m1, Ji .i8 m2, Ji .i8 m3, Ji .i8 m4, Ji .i8 m5, Ji .u8 e] 53);have V0 :=Jh.new w #[Ji .i8 n0, Ji .i8 n1, Ji .i8 n2, Ji .i8 n3, Ji .i8 n4, Ji .i8 n5, Ji .u8 d] 53;have V1 :=Jh.new (w.alloc (Jc #[Ji .i8 n0, Ji .i8 n1, Ji .i8 n2, Ji .i8 n3, Ji .i8 n4, Ji .i8 n5, Ji .u8 d] 53)) #[Ji .i8 m0, Ji .i8 m1, Ji .i8 m2, Ji .i8 m3, Ji .i8 m4, Ji .i8 m5, Ji .u8 e] 53;have j1 :=(M0 (w.alloc (Jc #[Ji .i8 n0, Ji .i8 n1, Ji .i8 n2, Ji .i8 n3, Ji .i8 n4, Ji .i8 n5, Ji .u8 d] 53)).heap.size (w.alloc (Jc #[Ji .i8 n0, Ji .i8 n1, Ji .i8 n2, Ji .i8 n3, Ji .i8 n4, Ji .i8 n5, Ji .u8 d] 53))).alloc (M4 _) (Jc #[Ji .i8 m0, Ji .i8 m1, Ji .i8 m2, Ji .i8 m3, Ji .i8 m4, Ji .i8 m5, Ji .u8 e] 53);replace V0 :=(V0.keep j1);simp only[World.size_alloc]at V0 V1;obtain⟨W, hW⟩ : ∃W, (w.alloc (Jc #[Ji .i8 n0, Ji .i8 n1, Ji .i8 n2, Ji .i8 n3, Ji .i8 n4, Ji .i8 n5, Ji .u8 d] 53)).alloc (Jc #[Ji .i8 m0, Ji .i8 m1, Ji .i8 m2, Ji .i8 m3, Ji .i8 m4, Ji .i8 m5, Ji .u8 e] 53) =W :=⟨_, rfl⟩;rw[hW]at k1 V0 V1;replace V0 :=Lh (fun w' (hb : Below W.heap.size W w') => (V0.keep hb))
 replace V1 :=Lh (fun w' (hb : Below W.heap.size W w') => (V1.keep hb));have K :=Lh k1;have G :=Lh (fun w' (hb : Below W.heap.size W w') => hg.below (k1.trans (hb.mono k1.size)));clear hg k0 k1 j1;go_enter Tryz.func11, Tryz.ntmps11;go_upto_region 1 with fail
 try simp only[hW]
 clear hW;refine E8 160 [(20, false, 0), (21, false, 0)] []
  [Fct.val (.bool true),
  Fct.val (.bool false)]
  0 rfl (by kernel_rfl) rfl ⟨?_, ?_, trivial⟩
  (fun val0 => ⟨#[Ja #[Ji .i8 n0, Ji .i8 n1, Ji .i8 n2, Ji .i8 n3, Ji .i8 n4, Ji .i8 n5, Ji .u8 d], Ja #[Ji .i8 m0, Ji .i8 m1, Ji .i8 m2, Ji .i8 m3, Ji .i8 m4, Ji .i8 m5, Ji .u8 e], Ji .i8 k, Jp (Jo ⟨w.heap.size, 0, Jn⟩), Jp (Jo ⟨w.heap.size + 1, 0, Jn⟩), undef, .bool false, undef, undef, undef, undef, undef, undef, undef, undef, undef, undef, undef, undef, undef, val0 20, val0 21, undef, undef, undef, undef, undef, undef, undef, undef, undef, undef, undef, undef, undef, undef, undef, undef, undef, undef, undef, undef, undef, undef, undef, undef, undef, undef, undef, undef, undef, undef, undef, undef, undef, undef, undef, undef, undef, undef, undef, undef, undef, undef, undef, undef, undef, undef, undef, undef, undef, undef, undef, undef, undef, undef, undef, undef, undef, undef, undef, undef, undef, undef, undef, undef, undef, undef, undef, undef, undef, undef, undef, undef, undef, undef, undef, undef, undef, undef, undef, undef, undef, undef, undef, undef, undef, undef, undef, undef, undef, undef, undef, undef, undef, undef, undef, undef, undef, undef, undef, undef, undef, undef, undef, undef, undef, undef, undef, undef, undef, undef, undef, undef, undef, undef, undef, undef, undef, undef, undef, undef, undef, undef, undef, undef, undef, undef, undef, undef, undef, undef, undef, undef, undef, undef, undef, undef, undef, undef], []⟩) (fun val0 => by kernel_rfl) (fun val0 W0 hB hF => ⟨?_⟩)
 ·exact EZ cf13 rfl rfl rfl rfl rfl (by kernel_rfl) (fun a v hB hE hD => FG (G.out v hB))
 ·exact Fm (op := .unOp .not 4 (.tmp 20)) rfl rfl (fun _ => rfl) (.dep 0 rfl (by kernel_rfl)) rfl (by kernel_rfl) (fun a w e => by unfold execOp bare;dsimp only;rw[e];go_simp <;> rfl)
 have e20 : val0 20 = .bool true :=hF 0 _ rfl;have e21 : val0 21 = .bool false :=hF 1 _ rfl;clear hF;generalize val0 20 =t20 at *
 generalize val0 21 =t21 at *
 subst e20 e21;replace V0 :=Lh (fun w' (hb : Below W0.heap.size W0 w') => V0.out w' (Jd hB hb));replace V1 :=Lh (fun w' (hb : Below W0.heap.size W0 w') => V1.out w' (Jd hB hb));replace K :=Lh (Jd K.out hB);replace G :=Lh (fun w' (hb : Below W0.heap.size W0 w') => G.out w' (Jd hB hb));clear hB;refine Last.nil (by kernel_rfl) ?_;go_upto_region 3 with fail
 refine Fy 160 [(22, false, 0), (23, false, 0), (24, false, 0), (25, false, 0), (7, false, 0), (8, false, 0), (7, true, 4), (8, true, 5)] [4, 5]
  [Fct.val (Ja #[Ji .i8 n0, Ji .i8 n1, Ji .i8 n2, Ji .i8 n3, Ji .i8 n4, Ji .i8 n5, Ji .u8 d]),
  Fct.num [] 4 [a0, a1, a2, a3, a4, a5],
  Fct.val (Ja #[Ji .i8 m0, Ji .i8 m1, Ji .i8 m2, Ji .i8 m3, Ji .i8 m4, Ji .i8 m5, Ji .u8 e]),
  Fct.num [] 4 [b0, b1, b2, b3, b4, b5],
  Fct.ptr 24,
  Fct.ptr 24,
  Fct.var [] 4 [a0, a1, a2, a3, a4, a5],
  Fct.var [] 4 [b0, b1, b2, b3, b4, b5]]
  #[true, true, true, true, true, true, true, true] 0 rfl (by kernel_rfl) rfl (by kernel_rfl) ⟨?_, ?_, ?_, ?_, ?_, ?_, ?_, ?_, trivial⟩
  (fun val1 => ⟨#[Ja #[Ji .i8 n0, Ji .i8 n1, Ji .i8 n2, Ji .i8 n3, Ji .i8 n4, Ji .i8 n5, Ji .u8 d], Ja #[Ji .i8 m0, Ji .i8 m1, Ji .i8 m2, Ji .i8 m3, Ji .i8 m4, Ji .i8 m5, Ji .u8 e], Ji .i8 k, Jp (Jo ⟨w.heap.size, 0, Jn⟩), Jp (Jo ⟨w.heap.size + 1, 0, Jn⟩), undef, .bool false, val1 7, val1 8, undef, undef, undef, undef, undef, undef, undef, undef, undef, undef, undef, .bool true, .bool false, val1 22, val1 23, val1 24, val1 25, undef, undef, undef, undef, undef, undef, undef, undef, undef, undef, undef, undef, undef, undef, undef, undef, undef, undef, undef, undef, undef, undef, undef, undef, undef, undef, undef, undef, undef, undef, undef, undef, undef, undef, undef, undef, undef, undef, undef, undef, undef, undef, undef, undef, undef, undef, undef, undef, undef, undef, undef, undef, undef, undef, undef, undef, undef, undef, undef, undef, undef, undef, undef, undef, undef, undef, undef, undef, undef, undef, undef, undef, undef, undef, undef, undef, undef, undef, undef, undef, undef, undef, undef, undef, undef, undef, undef, undef, undef, undef, undef, undef, undef, undef, undef, undef, undef, undef, undef, undef, undef, undef, undef, undef, undef, undef, undef, undef, undef, undef, undef, undef, undef, undef, undef, undef, undef, undef, undef, undef, undef, undef, undef, undef, undef, undef, undef, undef, undef, undef, undef, undef, undef, undef], []⟩) (fun val1 => by kernel_rfl) (fun val1 W1 hB hF => ⟨?_⟩)
 ·exact Fk 7 V0.out (.env rfl (by kernel_rfl)) rfl rfl rfl (by kernel_rfl) (by kernel_rfl) rfl (by kernel_rfl)
 ·exact EZ cf21 rfl rfl rfl rfl rfl (by kernel_rfl) (fun a v hB hE hD => (show Calls _ _ #[Act.at_ a 22] v _ from by rw[show Act.at_ a 22 =_ from hD 0 _ (by kernel_rfl) rfl];exact Ha.out v (G.out v hB)))
 ·exact Fk 7 V1.out (.env rfl (by kernel_rfl)) rfl rfl rfl (by kernel_rfl) (by kernel_rfl) rfl (by kernel_rfl)
 ·exact EZ cf21 rfl rfl rfl rfl rfl (by kernel_rfl) (fun a v hB hE hD => (show Calls _ _ #[Act.at_ a 24] v _ from by rw[show Act.at_ a 24 =_ from hD 2 _ (by kernel_rfl) rfl];exact Hb.out v (G.out v hB)))
 ·exact Fb [Ji Jl 0, Jp Jn, Ji Jl 0, Jp Jn, Ji Jl 0, Jp Jn, Ji Jl 0, Jp Jn, Ji Jl 0, Jp Jn, Ji Jl 0, Jp Jn, Ji Jl 0, Jp Jn, Ji Jl 0, Jp Jn, Ji Jl 0, Jp Jn, Ji Jl 0, Jp Jn, Ji Jl 0, Jp Jn, Ji Jl 0, Jp Jn] 37 rfl rfl rfl (by kernel_rfl) (by kernel_rfl) (fun a w => by go_simp)
 ·exact Fb [Ji Jl 0, Jp Jn, Ji Jl 0, Jp Jn, Ji Jl 0, Jp Jn, Ji Jl 0, Jp Jn, Ji Jl 0, Jp Jn, Ji Jl 0, Jp Jn, Ji Jl 0, Jp Jn, Ji Jl 0, Jp Jn, Ji Jl 0, Jp Jn, Ji Jl 0, Jp Jn, Ji Jl 0, Jp Jn, Ji Jl 0, Jp Jn] 37 rfl rfl rfl (by kernel_rfl) (by kernel_rfl) (fun a w => by go_simp)
 ·exact E9 4 1 rfl rfl rfl rfl rfl (by kernel_rfl) (by kernel_rfl)
 ·exact E9 5 3 rfl rfl rfl rfl rfl (by kernel_rfl) (by kernel_rfl)
 obtain⟨p7, e7, V7⟩ : (Fct.var [] 4 [a0, a1, a2, a3, a4, a5]).P W1 (val1 7) :=hF 6 _ rfl;obtain⟨p8, e8, V8⟩ : (Fct.var [] 4 [b0, b1, b2, b3, b4, b5]).P W1 (val1 8) :=hF 7 _ rfl;clear hF;generalize val1 7 =t7 at *
 generalize val1 8 =t8 at *
 subst e7 e8;replace V0 :=Lh (fun w' (hb : Below W1.heap.size W1 w') => V0.out w' (Jd hB hb));replace V1 :=Lh (fun w' (hb : Below W1.heap.size W1 w') => V1.out w' (Jd hB hb));replace V7 :=Lh (fun w' (hb : Below W1.heap.size W1 w') => V7.keep hb);replace V8 :=Lh (fun w' (hb : Below W1.heap.size W1 w') => V8.keep hb);replace K :=Lh (Jd K.out hB);replace G :=Lh (fun w' (hb : Below W1.heap.size W1 w') => G.out w' (Jd hB hb));clear hB;refine Last.nil (by kernel_rfl) ?_;go_upto_region 4 with fail
 refine Fy 160 [(26, false, 0), (27, false, 0), (28, false, 0), (29, false, 0), (30, false, 0), (31, false, 0), (32, false, 0), (33, false, 0), (9, false, 0), (10, false, 0), (9, true, 8), (10, true, 9)] [8, 9]
  [Fct.num [] 4 [a0, a1, a2, a3, a4, a5],
  Fct.num [] 4 [b0, b1, b2, b3, b4, b5],
  Fct.num [] 9 [a0 + b0, a1 + b1, a2 + b2, a3 + b3, a4 + b4, a5 + b5],
  Fct.num [] 4 [a0, a1, a2, a3, a4, a5],
  Fct.val (Ji .i8 k),
  Fct.val (Ji Jl k),
  Fct.num [] 3 [kq],
  Fct.num [] 7 [kq * a0, kq * a1, kq * a2, kq * a3, kq * a4, kq * a5],
  Fct.ptr 24,
  Fct.ptr 24,
  Fct.var [] 9 [a0 + b0, a1 + b1, a2 + b2, a3 + b3, a4 + b4, a5 + b5],
  Fct.var [] 7 [kq * a0, kq * a1, kq * a2, kq * a3, kq * a4, kq * a5]]
  #[true, true, true, true, true, true, true, true, true, true, true, true] 0 rfl (by kernel_rfl) rfl (by kernel_rfl) ⟨?_, ?_, ?_, ?_, ?_, ?_, ?_, ?_, ?_, ?_, ?_, ?_, trivial⟩
  (fun val2 => ⟨#[Ja #[Ji .i8 n0, Ji .i8 n1, Ji .i8 n2, Ji .i8 n3, Ji .i8 n4, Ji .i8 n5, Ji .u8 d], Ja #[Ji .i8 m0, Ji .i8 m1, Ji .i8 m2, Ji .i8 m3, Ji .i8 m4, Ji .i8 m5, Ji .u8 e], Ji .i8 k, Jp (Jo ⟨w.heap.size, 0, Jn⟩), Jp (Jo ⟨w.heap.size + 1, 0, Jn⟩), undef, .bool false, Jp (Jo ⟨p7, 0, Jn⟩), Jp (Jo ⟨p8, 0, Jn⟩), val2 9, val2 10, undef, undef, undef, undef, undef, undef, undef, undef, undef, .bool true, .bool false, val1 22, val1 23, val1 24, val1 25, val2 26, val2 27, val2 28, val2 29, val2 30, val2 31, val2 32, val2 33, undef, undef, undef, undef, undef, undef, undef, undef, undef, undef, undef, undef, undef, undef, undef, undef, undef, undef, undef, undef, undef, undef, undef, undef, undef, undef, undef, undef, undef, undef, undef, undef, undef, undef, undef, undef, undef, undef, undef, undef, undef, undef, undef, undef, undef, undef, undef, undef, undef, undef, undef, undef, undef, undef, undef, undef, undef, undef, undef, undef, undef, undef, undef, undef, undef, undef, undef, undef, undef, undef, undef, undef, undef, undef, undef, undef, undef, undef, undef, undef, undef, undef, undef, undef, undef, undef, undef, undef, undef, undef, undef, undef, undef, undef, undef, undef, undef, undef, undef, undef, undef, undef, undef, undef, undef, undef, undef, undef, undef, undef, undef, undef, undef, undef, undef, undef, undef, undef, undef, undef, undef, undef, undef, undef, undef, undef], []⟩) (fun val2 => by kernel_rfl) (fun val2 W2 hB hF => ⟨?_⟩)
 ·exact E7 V7.out (.env rfl (by kernel_rfl)) rfl rfl rfl (by kernel_rfl) (by kernel_rfl)
 ·exact E7 V8.out (.env rfl (by kernel_rfl)) rfl rfl rfl (by kernel_rfl) (by kernel_rfl)
 ·exact EZ cf55 rfl rfl rfl rfl rfl (by kernel_rfl) (fun a v hB hE hD => L4 (hD 0 _ (by kernel_rfl) rfl) (hD 1 _ (by kernel_rfl) rfl) (by kernel_rfl) (G.out v hB))
 ·exact E7 V7.out (.env rfl (by kernel_rfl)) rfl rfl rfl (by kernel_rfl) (by kernel_rfl)
 ·exact Fh rfl rfl (.env rfl (by kernel_rfl)) rfl (by kernel_rfl)
 ·exact Fm (op := .convert 50 3 (.tmp 30)) rfl rfl (fun _ => rfl) (.dep 4 rfl (by kernel_rfl)) rfl (by kernel_rfl) (fun a w e => by have :=hwk;unfold execOp bare;dsimp only;rw[e];go_simp <;> rfl)
 ·exact EZ cf51 rfl rfl rfl rfl rfl (by kernel_rfl) (fun a v hB hE hD => (show Calls _ _ #[Act.at_ a 31] v _ from by rw[show Act.at_ a 31 =_ from hD 5 _ (by kernel_rfl) rfl];exact HK.out v))
 ·exact EZ cf56 rfl rfl rfl rfl rfl (by kernel_rfl) (fun a v hB hE hD => Na (hD 3 _ (by kernel_rfl) rfl) (hD 6 _ (by kernel_rfl) rfl) (by kernel_rfl) (G.out v hB))
 ·exact Fb [Ji Jl 0, Jp Jn, Ji Jl 0, Jp Jn, Ji Jl 0, Jp Jn, Ji Jl 0, Jp Jn, Ji Jl 0, Jp Jn, Ji Jl 0, Jp Jn, Ji Jl 0, Jp Jn, Ji Jl 0, Jp Jn, Ji Jl 0, Jp Jn, Ji Jl 0, Jp Jn, Ji Jl 0, Jp Jn, Ji Jl 0, Jp Jn] 37 rfl rfl rfl (by kernel_rfl) (by kernel_rfl) (fun a w => by go_simp)
 ·exact Fb [Ji Jl 0, Jp Jn, Ji Jl 0, Jp Jn, Ji Jl 0, Jp Jn, Ji Jl 0, Jp Jn, Ji Jl 0, Jp Jn, Ji Jl 0, Jp Jn, Ji Jl 0, Jp Jn, Ji Jl 0, Jp Jn, Ji Jl 0, Jp Jn, Ji Jl 0, Jp Jn, Ji Jl 0, Jp Jn, Ji Jl 0, Jp Jn] 37 rfl rfl rfl (by kernel_rfl) (by kernel_rfl) (fun a w => by go_simp)
 ·exact E9 8 2 rfl rfl rfl rfl rfl (by kernel_rfl) (by kernel_rfl)
 ·exact E9 9 7 rfl rfl rfl rfl rfl (by kernel_rfl) (by kernel_rfl)
 obtain⟨p9, e9, V9⟩ : (Fct.var [] 9 [a0 + b0, a1 + b1, a2 + b2, a3 + b3, a4 + b4, a5 + b5]).P W2 (val2 9) :=hF 10 _ rfl;obtain⟨p10, e10, V10⟩ : (Fct.var [] 7 [kq * a0, kq * a1, kq * a2, kq * a3, kq * a4, kq * a5]).P W2 (val2 10) :=hF 11 _ rfl;clear hF;generalize val2 9 =t9 at *
 generalize val2 10 =t10 at *
 subst e9 e10;replace V0 :=Lh (fun w' (hb : Below W2.heap.size W2 w') => V0.out w' (Jd hB hb));replace V1 :=Lh (fun w' (hb : Below W2.heap.size W2 w') => V1.out w' (Jd hB hb));replace V7 :=Lh (fun w' (hb : Below W2.heap.size W2 w') => V7.out w' (Jd hB hb));replace V8 :=Lh (fun w' (hb : Below W2.heap.size W2 w') => V8.out w' (Jd hB hb));replace V9 :=Lh (fun w' (hb : Below W2.heap.size W2 w') => V9.keep hb);replace V10 :=Lh (fun w' (hb : Below W2.heap.size W2 w') => V10.keep hb);replace K :=Lh (Jd K.out hB);replace G :=Lh (fun w' (hb : Below W2.heap.size W2 w') => G.out w' (Jd hB hb));clear hB;refine Last.nil (by kernel_rfl) ?_;go_upto_region 5 with fail
 refine Fy 160 [(34, false, 0), (35, false, 0), (36, false, 0), (37, false, 0), (38, false, 0), (39, false, 0), (40, false, 0), (41, false, 0), (42, false, 0), (43, false, 0), (44, false, 0), (45, false, 0), (46, false, 0), (47, false, 0), (48, false, 0), (49, false, 0), (50, false, 0), (51, false, 0), (52, false, 0), (53, false, 0), (54, false, 0), (55, false, 0), (56, false, 0), (57, false, 0), (58, false, 0), (59, false, 0), (60, false, 0), (61, false, 0), (62, false, 0), (63, false, 0), (64, false, 0), (65, false, 0), (66, false, 0), (67, false, 0), (68, false, 0), (69, false, 0), (70, false, 0), (71, false, 0), (72, false, 0), (73, false, 0), (74, false, 0), (75, false, 0), (76, false, 0), (77, false, 0)] []
  [Fct.val (Jp (Jo ⟨p9, 0, Jn⟩)),
  Fct.num [] 9 [a0 + b0, a1 + b1, a2 + b2],
  Fct.val (Jp (Jo ⟨p7, 0, Jn⟩)),
  Fct.num [] 4 [a0, a1, a2],
  Fct.val (Jp (Jo ⟨p8, 0, Jn⟩)),
  Fct.num [] 4 [b0, b1, b2],
  Fct.num [] 9 [a0 + b0, a1 + b1, a2 + b2],
  Fct.val (.bool true),
  Fct.val (.bool false),
  Fct.val (.bool false),
  Fct.val (Jp (Jo ⟨p9, 12, Jn⟩)),
  Fct.num [] 9 [a3 + b3, a4 + b4, a5 + b5],
  Fct.val (Jp (Jo ⟨p7, 12, Jn⟩)),
  Fct.num [] 4 [a3, a4, a5],
  Fct.val (Jp (Jo ⟨p8, 12, Jn⟩)),
  Fct.num [] 4 [b3, b4, b5],
  Fct.num [] 9 [a3 + b3, a4 + b4, a5 + b5],
  Fct.val (.bool true),
  Fct.val (.bool false),
  Fct.val (.bool false),
  Fct.val (.bool false),
  Fct.val (Jp (Jo ⟨p10, 0, Jn⟩)),
  Fct.num [] 7 [kq * a0, kq * a1, kq * a2],
  Fct.val (Jp (Jo ⟨p7, 0, Jn⟩)),
  Fct.num [] 4 [a0, a1, a2],
  Fct.val (Ji .i8 k),
  Fct.val (Ji Jl k),
  Fct.num [] 3 [kq],
  Fct.num [] 7 [kq * a0, kq * a1, kq * a2],
  Fct.val (.bool true),
  Fct.val (.bool false),
  Fct.val (.bool false),
  Fct.val (.bool false),
  Fct.val (Jp (Jo ⟨p10, 12, Jn⟩)),
  Fct.num [] 7 [kq * a3, kq * a4, kq * a5],
  Fct.val (Jp (Jo ⟨p7, 12, Jn⟩)),
  Fct.num [] 4 [a3, a4, a5],
  Fct.val (Ji .i8 k),
  Fct.val (Ji Jl k),
  Fct.num [] 3 [kq],
  Fct.num [] 7 [kq * a3, kq * a4, kq * a5],
  Fct.val (.bool true),
  Fct.val (.bool false),
  Fct.val (.bool false)]
  #[true, true, true, true, true, true, true, true, true, true, true, true, true, true, true, true, true, true, true, true, true, true, true, true, true, true, true, true, true, true, true, true, true, true, true, true, true, true, true, true, true, true, true, true] 0 rfl (by kernel_rfl) rfl (by kernel_rfl) ⟨?_, ?_, ?_, ?_, ?_, ?_, ?_, ?_, ?_, ?_, ?_, ?_, ?_, ?_, ?_, ?_, ?_, ?_, ?_, ?_, ?_, ?_, ?_, ?_, ?_, ?_, ?_, ?_, ?_, ?_, ?_, ?_, ?_, ?_, ?_, ?_, ?_, ?_, ?_, ?_, ?_, ?_, ?_, ?_, trivial⟩
  (fun val3 => ⟨#[Ja #[Ji .i8 n0, Ji .i8 n1, Ji .i8 n2, Ji .i8 n3, Ji .i8 n4, Ji .i8 n5, Ji .u8 d], Ja #[Ji .i8 m0, Ji .i8 m1, Ji .i8 m2, Ji .i8 m3, Ji .i8 m4, Ji .i8 m5, Ji .u8 e], Ji .i8 k, Jp (Jo ⟨w.heap.size, 0, Jn⟩), Jp (Jo ⟨w.heap.size + 1, 0, Jn⟩), undef, .bool false, Jp (Jo ⟨p7, 0, Jn⟩), Jp (Jo ⟨p8, 0, Jn⟩), Jp (Jo ⟨p9, 0, Jn⟩), Jp (Jo ⟨p10, 0, Jn⟩), undef, undef, undef, undef, undef, undef, undef, undef, undef, .bool true, .bool false, val1 22, val1 23, val1 24, val1 25, val2 26, val2 27, val2 28, val2 29, val2 30, val2 31, val2 32, val2 33, val3 34, val3 35, val3 36, val3 37, val3 38, val3 39, val3 40, val3 41, val3 42, val3 43, val3 44, val3 45, val3 46, val3 47, val3 48, val3 49, val3 50, val3 51, val3 52, val3 53, val3 54, val3 55, val3 56, val3 57, val3 58, val3 59, val3 60, val3 61, val3 62, val3 63, val3 64, val3 65, val3 66, val3 67, val3 68, val3 69, val3 70, val3 71, val3 72, val3 73, val3 74, val3 75, val3 76, val3 77, undef, undef, undef, undef, undef, undef, undef, undef, undef, undef, undef, undef, undef, undef, undef, undef, undef, undef, undef, undef, undef, undef, undef, undef, undef, undef, undef, undef, undef, undef, undef, undef, undef, undef, undef, undef, undef, undef, undef, undef, undef, undef, undef, undef, undef, undef, undef, undef, undef, undef, undef, undef, undef, undef, undef, undef, undef, undef, undef, undef, undef, undef, undef, undef, undef, undef, undef, undef, undef, undef, undef, undef, undef, undef, undef, undef, undef, undef, undef, undef, undef, undef], []⟩) (fun val3 => by kernel_rfl) (fun val3 W3 hB hF => ⟨?_⟩)
 ·exact E4 rfl rfl (.env rfl (by kernel_rfl)) rfl (by kernel_rfl) (fun w => by go_simp)
 ·exact E6 0 3 V9.out (.dep 0 rfl (by kernel_rfl)) rfl rfl rfl (by kernel_rfl) (by kernel_rfl) (by kernel_rfl)
 ·exact E4 rfl rfl (.env rfl (by kernel_rfl)) rfl (by kernel_rfl) (fun w => by go_simp)
 ·exact E6 0 3 V7.out (.dep 2 rfl (by kernel_rfl)) rfl rfl rfl (by kernel_rfl) (by kernel_rfl) (by kernel_rfl)
 ·exact E4 rfl rfl (.env rfl (by kernel_rfl)) rfl (by kernel_rfl) (fun w => by go_simp)
 ·exact E6 0 3 V8.out (.dep 4 rfl (by kernel_rfl)) rfl rfl rfl (by kernel_rfl) (by kernel_rfl) (by kernel_rfl)
 ·exact EZ cf33 rfl rfl rfl rfl rfl (by kernel_rfl) (fun a v hB hE hD => DC (hD 3 _ (by kernel_rfl) rfl) (hD 5 _ (by kernel_rfl) rfl) (by kernel_rfl) (G.out v hB))
 ·exact EZ cf23 rfl rfl rfl rfl rfl (by kernel_rfl) (fun a v hB hE hD => FX (hD 1 _ (by kernel_rfl) rfl) (hD 6 _ (by kernel_rfl) rfl) rfl rfl rfl (by kernel_rfl))
 ·exact Fm (op := .unOp .not 4 (.tmp 41)) rfl rfl (fun _ => rfl) (.dep 7 rfl (by kernel_rfl)) rfl (by kernel_rfl) (fun a w e => by unfold execOp bare;dsimp only;rw[e];go_simp <;> rfl)
 ·exact E5 8 rfl rfl rfl rfl (by kernel_rfl)
 ·exact E4 rfl rfl (.env rfl (by kernel_rfl)) ⟨false, rfl, rfl, by kernel_rfl, rfl⟩ (by kernel_rfl) (fun w => by go_simp)
 ·exact E6 3 3 V9.out (.dep 10 rfl (by kernel_rfl)) rfl rfl ⟨false, rfl, rfl, by kernel_rfl, rfl⟩ (by kernel_rfl) (by kernel_rfl) (by kernel_rfl)
 ·exact E4 rfl rfl (.env rfl (by kernel_rfl)) ⟨false, rfl, rfl, by kernel_rfl, rfl⟩ (by kernel_rfl) (fun w => by go_simp)
 ·exact E6 3 3 V7.out (.dep 12 rfl (by kernel_rfl)) rfl rfl ⟨false, rfl, rfl, by kernel_rfl, rfl⟩ (by kernel_rfl) (by kernel_rfl) (by kernel_rfl)
 ·exact E4 rfl rfl (.env rfl (by kernel_rfl)) ⟨false, rfl, rfl, by kernel_rfl, rfl⟩ (by kernel_rfl) (fun w => by go_simp)
 ·exact E6 3 3 V8.out (.dep 14 rfl (by kernel_rfl)) rfl rfl ⟨false, rfl, rfl, by kernel_rfl, rfl⟩ (by kernel_rfl) (by kernel_rfl) (by kernel_rfl)
 ·exact EZ cf33 rfl rfl rfl rfl ⟨false, rfl, rfl, by kernel_rfl, rfl⟩ (by kernel_rfl) (fun a v hB hE hD => DC (hD 13 _ (by kernel_rfl) rfl) (hD 15 _ (by kernel_rfl) rfl) (by kernel_rfl) (G.out v hB))
 ·exact EZ cf23 rfl rfl rfl rfl ⟨false, rfl, rfl, by kernel_rfl, rfl⟩ (by kernel_rfl) (fun a v hB hE hD => FX (hD 11 _ (by kernel_rfl) rfl) (hD 16 _ (by kernel_rfl) rfl) rfl rfl rfl (by kernel_rfl))
 ·exact Fm (op := .unOp .not 4 (.tmp 51)) rfl rfl (fun _ => rfl) (.dep 17 rfl (by kernel_rfl)) ⟨false, rfl, rfl, by kernel_rfl, rfl⟩ (by kernel_rfl) (fun a w e => by unfold execOp bare;dsimp only;rw[e];go_simp <;> rfl)
 ·exact Nz 9 18 rfl rfl rfl rfl rfl (by kernel_rfl)
 ·exact E5 19 rfl rfl rfl rfl (by kernel_rfl)
 ·exact E4 rfl rfl (.env rfl (by kernel_rfl)) ⟨false, rfl, rfl, by kernel_rfl, rfl⟩ (by kernel_rfl) (fun w => by go_simp)
 ·exact E6 0 3 V10.out (.dep 21 rfl (by kernel_rfl)) rfl rfl ⟨false, rfl, rfl, by kernel_rfl, rfl⟩ (by kernel_rfl) (by kernel_rfl) (by kernel_rfl)
 ·exact E4 rfl rfl (.env rfl (by kernel_rfl)) ⟨false, rfl, rfl, by kernel_rfl, rfl⟩ (by kernel_rfl) (fun w => by go_simp)
 ·exact E6 0 3 V7.out (.dep 23 rfl (by kernel_rfl)) rfl rfl ⟨false, rfl, rfl, by kernel_rfl, rfl⟩ (by kernel_rfl) (by kernel_rfl) (by kernel_rfl)
 ·exact Fh rfl rfl (.env rfl (by kernel_rfl)) ⟨false, rfl, rfl, by kernel_rfl, rfl⟩ (by kernel_rfl)
 ·exact Fm (op := .convert 50 3 (.tmp 59)) rfl rfl (fun _ => rfl) (.dep 25 rfl (by kernel_rfl)) ⟨false, rfl, rfl, by kernel_rfl, rfl⟩ (by kernel_rfl) (fun a w e => by have :=hwk;unfold execOp bare;dsimp only;rw[e];go_simp <;> rfl)
 ·exact EZ cf51 rfl rfl rfl rfl ⟨false, rfl, rfl, by kernel_rfl, rfl⟩ (by kernel_rfl) (fun a v hB hE hD => (show Calls _ _ #[Act.at_ a 60] v _ from by rw[show Act.at_ a 60 =_ from hD 26 _ (by kernel_rfl) rfl];exact HK.out v))
 ·exact EZ cf52 rfl rfl rfl rfl ⟨false, rfl, rfl, by kernel_rfl, rfl⟩ (by kernel_rfl) (fun a v hB hE hD => Da (hD 24 _ (by kernel_rfl) rfl) (hD 27 _ (by kernel_rfl) rfl) (by kernel_rfl) (G.out v hB))
 ·exact EZ cf23 rfl rfl rfl rfl ⟨false, rfl, rfl, by kernel_rfl, rfl⟩ (by kernel_rfl) (fun a v hB hE hD => FX (hD 22 _ (by kernel_rfl) rfl) (hD 28 _ (by kernel_rfl) rfl) rfl rfl rfl (by kernel_rfl))
 ·exact Fm (op := .unOp .not 4 (.tmp 63)) rfl rfl (fun _ => rfl) (.dep 29 rfl (by kernel_rfl)) ⟨false, rfl, rfl, by kernel_rfl, rfl⟩ (by kernel_rfl) (fun a w e => by unfold execOp bare;dsimp only;rw[e];go_simp <;> rfl)
 ·exact Nz 20 30 rfl rfl rfl rfl rfl (by kernel_rfl)
 ·exact E5 31 rfl rfl rfl rfl (by kernel_rfl)
 ·exact E4 rfl rfl (.env rfl (by kernel_rfl)) ⟨false, rfl, rfl, by kernel_rfl, rfl⟩ (by kernel_rfl) (fun w => by go_simp)
 ·exact E6 3 3 V10.out (.dep 33 rfl (by kernel_rfl)) rfl rfl ⟨false, rfl, rfl, by kernel_rfl, rfl⟩ (by kernel_rfl) (by kernel_rfl) (by kernel_rfl)
 ·exact E4 rfl rfl (.env rfl (by kernel_rfl)) ⟨false, rfl, rfl, by kernel_rfl, rfl⟩ (by kernel_rfl) (fun w => by go_simp)
 ·exact E6 3 3 V7.out (.dep 35 rfl (by kernel_rfl)) rfl rfl ⟨false, rfl, rfl, by kernel_rfl, rfl⟩ (by kernel_rfl) (by kernel_rfl) (by kernel_rfl)
 ·exact Fh rfl rfl (.env rfl (by kernel_rfl)) ⟨false, rfl, rfl, by kernel_rfl, rfl⟩ (by kernel_rfl)
 ·exact Fm (op := .convert 50 3 (.tmp 71)) rfl rfl (fun _ => rfl) (.dep 37 rfl (by kernel_rfl)) ⟨false, rfl, rfl, by kernel_rfl, rfl⟩ (by kernel_rfl) (fun a w e => by have :=hwk;unfold execOp bare;dsimp only;rw[e];go_simp <;> rfl)
 ·exact EZ cf51 rfl rfl rfl rfl ⟨false, rfl, rfl, by kernel_rfl, rfl⟩ (by kernel_rfl) (fun a v hB hE hD => (show Calls _ _ #[Act.at_ a 72] v _ from by rw[show Act.at_ a 72 =_ from hD 38 _ (by kernel_rfl) rfl];exact HK.out v))
 ·exact EZ cf52 rfl rfl rfl rfl ⟨false, rfl, rfl, by kernel_rfl, rfl⟩ (by kernel_rfl) (fun a v hB hE hD => Da (hD 36 _ (by kernel_rfl) rfl) (hD 39 _ (by kernel_rfl) rfl) (by kernel_rfl) (G.out v hB))
 ·exact EZ cf23 rfl rfl rfl rfl ⟨false, rfl, rfl, by kernel_rfl, rfl⟩ (by kernel_rfl) (fun a v hB hE hD => FX (hD 34 _ (by kernel_rfl) rfl) (hD 40 _ (by kernel_rfl) rfl) rfl rfl rfl (by kernel_rfl))
 ·exact Fm (op := .unOp .not 4 (.tmp 75)) rfl rfl (fun _ => rfl) (.dep 41 rfl (by kernel_rfl)) ⟨false, rfl, rfl, by kernel_rfl, rfl⟩ (by kernel_rfl) (fun a w e => by unfold execOp bare;dsimp only;rw[e];go_simp <;> rfl)
 ·exact Nz 32 42 rfl rfl rfl rfl rfl (by kernel_rfl)
 have e77 : val3 77 = .bool false :=hF 43 _ rfl;clear hF;generalize val3 77 =t77 at *
 subst e77;replace V0 :=Lh (fun w' (hb : Below W3.heap.size W3 w') => V0.out w' (Jd hB hb));replace V1 :=Lh (fun w' (hb : Below W3.heap.size W3 w') => V1.out w' (Jd hB hb));replace V7 :=Lh (fun w' (hb : Below W3.heap.size W3 w') => V7.out w' (Jd hB hb));replace V8 :=Lh (fun w' (hb : Below W3.heap.size W3 w') => V8.out w' (Jd hB hb));replace V9 :=Lh (fun w' (hb : Below W3.heap.size W3 w') => V9.out w' (Jd hB hb));replace V10 :=Lh (fun w' (hb : Below W3.heap.size W3 w') => V10.out w' (Jd hB hb));replace K :=Lh (Jd K.out hB);replace G :=Lh (fun w' (hb : Below W3.heap.size W3 w') => G.out w' (Jd hB hb));clear hB;refine Last.nil (by kernel_rfl) ?_;go_upto_region 7 with fail
 rename_i Kr hr
 have key : ∀(W : JW) (u78 u79 u80 u81 u82 u83 u84 u85 u86 u87 u88 u89 : Value), (Jh W (w.heap.size) [Ji .i8 n0, Ji .i8 n1, Ji .i8 n2, Ji .i8 n3, Ji .i8 n4, Ji .i8 n5, Ji .u8 d] /\ Fi W p7 [] 4 [a0, a1, a2, a3, a4, a5] /\ Fi W p8 [] 4 [b0, b1, b2, b3, b4, b5] /\ Below w.heap.size w W) -> Kr ⟨#[Ja #[Ji .i8 n0, Ji .i8 n1, Ji .i8 n2, Ji .i8 n3, Ji .i8 n4, Ji .i8 n5, Ji .u8 d], Ja #[Ji .i8 m0, Ji .i8 m1, Ji .i8 m2, Ji .i8 m3, Ji .i8 m4, Ji .i8 m5, Ji .u8 e], Ji .i8 k, Jp (Jo ⟨w.heap.size, 0, Jn⟩), Jp (Jo ⟨w.heap.size + 1, 0, Jn⟩), undef, .bool false, Jp (Jo ⟨p7, 0, Jn⟩), Jp (Jo ⟨p8, 0, Jn⟩), Jp (Jo ⟨p9, 0, Jn⟩), Jp (Jo ⟨p10, 0, Jn⟩), .bool (x0 && x1), undef, undef, undef, undef, undef, undef, undef, undef, .bool true, .bool false, val1 22, val1 23, val1 24, val1 25, val2 26, val2 27, val2 28, val2 29, val2 30, val2 31, val2 32, val2 33, val3 34, val3 35, val3 36, val3 37, val3 38, val3 39, val3 40, val3 41, val3 42, val3 43, val3 44, val3 45, val3 46, val3 47, val3 48, val3 49, val3 50, val3 51, val3 52, val3 53, val3 54, val3 55, val3 56, val3 57, val3 58, val3 59, val3 60, val3 61, val3 62, val3 63, val3 64, val3 65, val3 66, val3 67, val3 68, val3 69, val3 70, val3 71, val3 72, val3 73, val3 74, val3 75, val3 76, .bool false, u78, u79, u80, u81, u82, u83, u84, u85, u86, u87, u88, u89, undef, undef, undef, undef, undef, undef, undef, undef, undef, undef, undef, undef, undef, undef, undef, undef, undef, undef, undef, undef, undef, undef, undef, undef, undef, undef, undef, undef, undef, undef, undef, undef, undef, undef, undef, undef, undef, undef, undef, undef, undef, undef, undef, undef, undef, undef, undef, undef, undef, undef, undef, undef, undef, undef, undef, undef, undef, undef, undef, undef, undef, undef, undef, undef, undef, undef, undef, undef, undef, undef], []⟩ W :=by
  intro W u78 u79 u80 u81 u82 u83 u84 u85 u86 u87 u88 u89 hf;have V0 :=Lh (fun w' (hb : Below W.heap.size W w') => hf.1.keep hb);have V7 :=Lh (fun w' (hb : Below W.heap.size W w') => hf.2.1.keep hb);have V8 :=Lh (fun w' (hb : Below W.heap.size W w') => hf.2.2.1.keep hb);have K :=Lh hf.2.2.2;have G :=Lh (fun w' (hb : Below W.heap.size W w') => HG.out.below (hf.2.2.2.trans (hb.mono hf.2.2.2.size)));clear hf V1 V9 V10;refine hr _ _ ?_;clear hr;go_upto_region 8 with fail
  refine E8 160 [(90, false, 0), (91, false, 0), (92, false, 0), (93, false, 0), (12, false, 0)] []
   [Fct.val (Jp (Jo ⟨w.heap.size, 0, Jn⟩)),
   Fct.val (Ja #[Ji .i8 n0, Ji .i8 n1, Ji .i8 n2, Ji .i8 n3, Ji .i8 n4, Ji .i8 n5]),
   Fct.val (Ja #[Ji .i8 0, Ji .i8 0, Ji .i8 0, Ji .i8 0, Ji .i8 0, Ji .i8 0]),
   Fct.val (.bool zz),
   Fct.val (.bool zz)]
   0 rfl (by kernel_rfl) rfl ⟨?_, ?_, ?_, ?_, ?_, trivial⟩
   (fun val5 => ⟨#[Ja #[Ji .i8 n0, Ji .i8 n1, Ji .i8 n2, Ji .i8 n3, Ji .i8 n4, Ji .i8 n5, Ji .u8 d], Ja #[Ji .i8 m0, Ji .i8 m1, Ji .i8 m2, Ji .i8 m3, Ji .i8 m4, Ji .i8 m5, Ji .u8 e], Ji .i8 k, Jp (Jo ⟨w.heap.size, 0, Jn⟩), Jp (Jo ⟨w.heap.size + 1, 0, Jn⟩), undef, .bool false, Jp (Jo ⟨p7, 0, Jn⟩), Jp (Jo ⟨p8, 0, Jn⟩), Jp (Jo ⟨p9, 0, Jn⟩), Jp (Jo ⟨p10, 0, Jn⟩), .bool (x0 && x1), val5 12, undef, undef, undef, undef, undef, undef, undef, .bool true, .bool false, val1 22, val1 23, val1 24, val1 25, val2 26, val2 27, val2 28, val2 29, val2 30, val2 31, val2 32, val2 33, val3 34, val3 35, val3 36, val3 37, val3 38, val3 39, val3 40, val3 41, val3 42, val3 43, val3 44, val3 45, val3 46, val3 47, val3 48, val3 49, val3 50, val3 51, val3 52, val3 53, val3 54, val3 55, val3 56, val3 57, val3 58, val3 59, val3 60, val3 61, val3 62, val3 63, val3 64, val3 65, val3 66, val3 67, val3 68, val3 69, val3 70, val3 71, val3 72, val3 73, val3 74, val3 75, val3 76, .bool false, u78, u79, u80, u81, u82, u83, u84, u85, u86, u87, u88, u89, val5 90, val5 91, val5 92, val5 93, undef, undef, undef, undef, undef, undef, undef, undef, undef, undef, undef, undef, undef, undef, undef, undef, undef, undef, undef, undef, undef, undef, undef, undef, undef, undef, undef, undef, undef, undef, undef, undef, undef, undef, undef, undef, undef, undef, undef, undef, undef, undef, undef, undef, undef, undef, undef, undef, undef, undef, undef, undef, undef, undef, undef, undef, undef, undef, undef, undef, undef, undef, undef, undef, undef, undef], []⟩) (fun val5 => by kernel_rfl) (fun val5 W5 hB hF => ⟨?_⟩)
  ·exact E4 rfl rfl (.env rfl (by kernel_rfl)) rfl (by kernel_rfl) (fun w => by go_simp)
  ·exact Fk 6 V0.out (.dep 0 rfl (by kernel_rfl)) rfl rfl rfl (by kernel_rfl) (by kernel_rfl) rfl (by kernel_rfl)
  ·exact Fp rfl rfl (by kernel_rfl) (fun a w _ _ _ => ⟨Ja #[Ji .i8 0, Ji .i8 0, Ji .i8 0, Ji .i8 0, Ji .i8 0, Ji .i8 0], by kernel_rfl, rfl⟩)
  ·exact Dl (op := .binOp .eql 51 (.tmp 91) (.tmp 92) 51) rfl rfl (fun _ => rfl) (.dep 1 rfl (by kernel_rfl)) (.dep 2 rfl (by kernel_rfl)) rfl (by kernel_rfl) (fun a w e e2 => Mb hzz e e2)
  ·exact E5 3 rfl rfl rfl rfl (by kernel_rfl)
  have e12 : val5 12 = .bool zz :=hF 4 _ rfl;clear hF;generalize val5 12 =t12 at *
  subst e12;replace V0 :=Lh (fun w' (hb : Below W5.heap.size W5 w') => V0.out w' (Jd hB hb));replace V7 :=Lh (fun w' (hb : Below W5.heap.size W5 w') => V7.out w' (Jd hB hb));replace V8 :=Lh (fun w' (hb : Below W5.heap.size W5 w') => V8.out w' (Jd hB hb));replace K :=Lh (Jd K.out hB);replace G :=Lh (fun w' (hb : Below W5.heap.size W5 w') => G.out w' (Jd hB hb));clear hB;refine Last.nil (by kernel_rfl) ?_;go_upto_region 9 with fail
  refine E8 160 [(94, false, 0), (95, false, 0), (96, false, 0), (97, false, 0), (98, false, 0), (99, false, 0), (100, false, 0), (101, false, 0), (102, false, 0), (103, false, 0), (104, false, 0)] []
   [Fct.num [] 4 [a0, a1, a2, a3, a4, a5],
   Fct.num [] 4 [b0, b1, b2, b3, b4, b5],
   Fct.val (.bool (x0 && x1)),
   Fct.val (.bool (x0 && x1)),
   Fct.val (.bool false),
   Fct.val (.bool false),
   Fct.num [] 4 [a0, a1, a2, a3, a4, a5],
   Fct.val (.bool zz),
   Fct.val (.bool zz),
   Fct.val (.bool false),
   Fct.val (.bool false)]
   0 rfl (by kernel_rfl) rfl ⟨?_, ?_, ?_, ?_, ?_, ?_, ?_, ?_, ?_, ?_, ?_, trivial⟩
   (fun val6 => ⟨#[Ja #[Ji .i8 n0, Ji .i8 n1, Ji .i8 n2, Ji .i8 n3, Ji .i8 n4, Ji .i8 n5, Ji .u8 d], Ja #[Ji .i8 m0, Ji .i8 m1, Ji .i8 m2, Ji .i8 m3, Ji .i8 m4, Ji .i8 m5, Ji .u8 e], Ji .i8 k, Jp (Jo ⟨w.heap.size, 0, Jn⟩), Jp (Jo ⟨w.heap.size + 1, 0, Jn⟩), undef, .bool false, Jp (Jo ⟨p7, 0, Jn⟩), Jp (Jo ⟨p8, 0, Jn⟩), Jp (Jo ⟨p9, 0, Jn⟩), Jp (Jo ⟨p10, 0, Jn⟩), .bool (x0 && x1), .bool zz, undef, undef, undef, undef, undef, undef, undef, .bool true, .bool false, val1 22, val1 23, val1 24, val1 25, val2 26, val2 27, val2 28, val2 29, val2 30, val2 31, val2 32, val2 33, val3 34, val3 35, val3 36, val3 37, val3 38, val3 39, val3 40, val3 41, val3 42, val3 43, val3 44, val3 45, val3 46, val3 47, val3 48, val3 49, val3 50, val3 51, val3 52, val3 53, val3 54, val3 55, val3 56, val3 57, val3 58, val3 59, val3 60, val3 61, val3 62, val3 63, val3 64, val3 65, val3 66, val3 67, val3 68, val3 69, val3 70, val3 71, val3 72, val3 73, val3 74, val3 75, val3 76, .bool false, u78, u79, u80, u81, u82, u83, u84, u85, u86, u87, u88, u89, val5 90, val5 91, val5 92, val5 93, val6 94, val6 95, val6 96, val6 97, val6 98, val6 99, val6 100, val6 101, val6 102, val6 103, val6 104, undef, undef, undef, undef, undef, undef, undef, undef, undef, undef, undef, undef, undef, undef, undef, undef, undef, undef, undef, undef, undef, undef, undef, undef, undef, undef, undef, undef, undef, undef, undef, undef, undef, undef, undef, undef, undef, undef, undef, undef, undef, undef, undef, undef, undef, undef, undef, undef, undef, undef, undef, undef, undef, undef, undef], []⟩) (fun val6 => by kernel_rfl) (fun val6 W6 hB hF => ⟨?_⟩)
  ·exact E7 V7.out (.env rfl (by kernel_rfl)) rfl rfl rfl (by kernel_rfl) (by kernel_rfl)
  ·exact E7 V8.out (.env rfl (by kernel_rfl)) rfl rfl rfl (by kernel_rfl) (by kernel_rfl)
  ·exact EZ cf46 rfl rfl rfl rfl rfl (by kernel_rfl) (fun a v hB hE hD => (by have q :=L3 (hD 0 _ (by kernel_rfl) rfl) (hD 1 _ (by kernel_rfl) rfl) (by kernel_rfl) (G.out v hB);rw[hx0, hx1]at q;exact q))
  ·exact Fh rfl rfl (.env rfl (by kernel_rfl)) rfl (by kernel_rfl)
  ·exact Dl (op := .binOp .neq 4 (.tmp 96) (.tmp 97) 4) rfl rfl (fun _ => rfl) (.dep 2 rfl (by kernel_rfl)) (.dep 3 rfl (by kernel_rfl)) rfl (by kernel_rfl) (fun a w e e2 => by unfold execOp bare;dsimp only;rw[e, e2];go_simp <;> simp)
  ·exact E5 4 rfl rfl rfl rfl (by kernel_rfl)
  ·exact E7 V7.out (.env rfl (by kernel_rfl)) rfl rfl ⟨false, rfl, rfl, by kernel_rfl, rfl⟩ (by kernel_rfl) (by kernel_rfl)
  ·exact EZ cf17 rfl rfl rfl rfl ⟨false, rfl, rfl, by kernel_rfl, rfl⟩ (by kernel_rfl) (fun a v hB hE hD => (by have q :=LD (hD 6 _ (by kernel_rfl) rfl) (by kernel_rfl) (G.out v hB);rw[hza]at q;exact q))
  ·exact Fh rfl rfl (.env rfl (by kernel_rfl)) ⟨false, rfl, rfl, by kernel_rfl, rfl⟩ (by kernel_rfl)
  ·exact Dl (op := .binOp .neq 4 (.tmp 101) (.tmp 102) 4) rfl rfl (fun _ => rfl) (.dep 7 rfl (by kernel_rfl)) (.dep 8 rfl (by kernel_rfl)) ⟨false, rfl, rfl, by kernel_rfl, rfl⟩ (by kernel_rfl) (fun a w e e2 => by unfold execOp bare;dsimp only;rw[e, e2];go_simp <;> simp)
  ·exact Nz 5 9 rfl rfl rfl rfl rfl (by kernel_rfl)
  have e104 : val6 104 = .bool false :=hF 10 _ rfl;clear hF;generalize val6 104 =t104 at *
  subst e104;replace V0 :=Lh (fun w' (hb : Below W6.heap.size W6 w') => V0.out w' (Jd hB hb));replace V7 :=Lh (fun w' (hb : Below W6.heap.size W6 w') => V7.out w' (Jd hB hb));replace V8 :=Lh (fun w' (hb : Below W6.heap.size W6 w') => V8.out w' (Jd hB hb));replace K :=Lh (Jd K.out hB);replace G :=Lh (fun w' (hb : Below W6.heap.size W6 w') => G.out w' (Jd hB hb));clear hB;refine Last.nil (by kernel_rfl) ?_;rcases Bool.eq_false_or_eq_true zz with hbt|hbt
  ·have hza2 :=hza.trans hbt;rw[hbt];go_upto_region 11 with fail
   refine E8 160 [(106, false, 0), (107, false, 0), (105, false, 0), (108, false, 0), (109, false, 0), (13, false, 0), (13, true, 5), (14, false, 0)] [5]
    [Fct.num [] 4 [a0, a1, a2, a3, a4, a5],
    Fct.made 19 1 [0, 0, 0, 0, 0, 0],
    Fct.made 19 1 [0, 0, 0, 0, 0, 0],
    Fct.num [] 1 [0, 0, 0, 0, 0, 0],
    Fct.val (Ji Jl 19),
    Fct.ptr 24,
    Fct.var [] 1 [0, 0, 0, 0, 0, 0],
    Fct.val (Ji Jl 19)]
    0 rfl (by kernel_rfl) rfl ⟨?_, ?_, ?_, ?_, ?_, ?_, ?_, ?_, trivial⟩
    (fun val7 => ⟨#[Ja #[Ji .i8 n0, Ji .i8 n1, Ji .i8 n2, Ji .i8 n3, Ji .i8 n4, Ji .i8 n5, Ji .u8 d], Ja #[Ji .i8 m0, Ji .i8 m1, Ji .i8 m2, Ji .i8 m3, Ji .i8 m4, Ji .i8 m5, Ji .u8 e], Ji .i8 k, Jp (Jo ⟨w.heap.size, 0, Jn⟩), Jp (Jo ⟨w.heap.size + 1, 0, Jn⟩), undef, .bool false, Jp (Jo ⟨p7, 0, Jn⟩), Jp (Jo ⟨p8, 0, Jn⟩), Jp (Jo ⟨p9, 0, Jn⟩), Jp (Jo ⟨p10, 0, Jn⟩), .bool (x0 && x1), .bool true, val7 13, val7 14, undef, undef, undef, undef, undef, .bool true, .bool false, val1 22, val1 23, val1 24, val1 25, val2 26, val2 27, val2 28, val2 29, val2 30, val2 31, val2 32, val2 33, val3 34, val3 35, val3 36, val3 37, val3 38, val3 39, val3 40, val3 41, val3 42, val3 43, val3 44, val3 45, val3 46, val3 47, val3 48, val3 49, val3 50, val3 51, val3 52, val3 53, val3 54, val3 55, val3 56, val3 57, val3 58, val3 59, val3 60, val3 61, val3 62, val3 63, val3 64, val3 65, val3 66, val3 67, val3 68, val3 69, val3 70, val3 71, val3 72, val3 73, val3 74, val3 75, val3 76, .bool false, u78, u79, u80, u81, u82, u83, u84, u85, u86, u87, u88, u89, val5 90, val5 91, val5 92, val5 93, val6 94, val6 95, val6 96, val6 97, val6 98, val6 99, val6 100, val6 101, val6 102, val6 103, .bool false, val7 105, val7 106, val7 107, val7 108, val7 109, undef, undef, undef, undef, undef, undef, undef, undef, undef, undef, undef, undef, undef, undef, undef, undef, undef, undef, undef, undef, undef, undef, undef, undef, undef, undef, undef, undef, undef, undef, undef, undef, undef, undef, undef, undef, undef, undef, undef, undef, undef, undef, undef, undef, undef, undef, undef, undef, undef, undef], []⟩) (fun val7 => by kernel_rfl) (fun val7 W7 hB hF => ⟨?_⟩)
   ·exact E7 V7.out (.env rfl (by kernel_rfl)) rfl rfl rfl (by kernel_rfl) (by kernel_rfl)
   ·exact EZ cf57 rfl rfl rfl rfl rfl (by kernel_rfl) (fun a v hB hE hD => NZ (hD 0 _ (by kernel_rfl) rfl) hza2 (G.out v hB))
   ·exact E5 1 rfl rfl rfl rfl (by kernel_rfl)
   ·exact Fx 2 rfl rfl rfl rfl (by kernel_rfl)
   ·exact Fw 2 rfl rfl rfl rfl (by kernel_rfl)
   ·exact Fb [Ji Jl 0, Jp Jn, Ji Jl 0, Jp Jn, Ji Jl 0, Jp Jn, Ji Jl 0, Jp Jn, Ji Jl 0, Jp Jn, Ji Jl 0, Jp Jn, Ji Jl 0, Jp Jn, Ji Jl 0, Jp Jn, Ji Jl 0, Jp Jn, Ji Jl 0, Jp Jn, Ji Jl 0, Jp Jn, Ji Jl 0, Jp Jn] 37 rfl rfl rfl (by kernel_rfl) (by kernel_rfl) (fun a w => by go_simp)
   ·exact E9 5 3 rfl rfl rfl rfl rfl (by kernel_rfl) (by kernel_rfl)
   ·exact E5 4 rfl rfl rfl rfl (by kernel_rfl)
   obtain⟨p13, e13, V13⟩ : (Fct.var [] 1 [0, 0, 0, 0, 0, 0]).P W7 (val7 13) :=hF 6 _ rfl;have e14 : val7 14 =Ji Jl 19 :=hF 7 _ rfl;clear hF;generalize val7 13 =t13 at *
   generalize val7 14 =t14 at *
   subst e13 e14;replace V0 :=Lh (fun w' (hb : Below W7.heap.size W7 w') => V0.out w' (Jd hB hb));replace V7 :=Lh (fun w' (hb : Below W7.heap.size W7 w') => V7.out w' (Jd hB hb));replace V8 :=Lh (fun w' (hb : Below W7.heap.size W7 w') => V8.out w' (Jd hB hb));replace V13 :=Lh (fun w' (hb : Below W7.heap.size W7 w') => V13.keep hb);replace K :=Lh (Jd K.out hB);replace G :=Lh (fun w' (hb : Below W7.heap.size W7 w') => G.out w' (Jd hB hb));clear hB;refine Last.nil (by kernel_rfl) ?_;go_upto_region 13 with fail
   refine E8 160 [(111, false, 0), (112, false, 0), (113, false, 0), (114, false, 0), (115, false, 0), (116, false, 0), (6, false, 0)] []
    [Fct.val (Ji Jl 19),
    Fct.val (.bool true),
    Fct.val (.bool true),
    Fct.num [] 1 [0, 0, 0, 0, 0, 0],
    Fct.val (.bool true),
    Fct.val (.bool true),
    Fct.val (.bool true)]
    0 rfl (by kernel_rfl) rfl ⟨?_, ?_, ?_, ?_, ?_, ?_, ?_, trivial⟩
    (fun val8 => ⟨#[Ja #[Ji .i8 n0, Ji .i8 n1, Ji .i8 n2, Ji .i8 n3, Ji .i8 n4, Ji .i8 n5, Ji .u8 d], Ja #[Ji .i8 m0, Ji .i8 m1, Ji .i8 m2, Ji .i8 m3, Ji .i8 m4, Ji .i8 m5, Ji .u8 e], Ji .i8 k, Jp (Jo ⟨w.heap.size, 0, Jn⟩), Jp (Jo ⟨w.heap.size + 1, 0, Jn⟩), undef, val8 6, Jp (Jo ⟨p7, 0, Jn⟩), Jp (Jo ⟨p8, 0, Jn⟩), Jp (Jo ⟨p9, 0, Jn⟩), Jp (Jo ⟨p10, 0, Jn⟩), .bool (x0 && x1), .bool true, Jp (Jo ⟨p13, 0, Jn⟩), Ji Jl 19, undef, undef, undef, undef, undef, .bool true, .bool false, val1 22, val1 23, val1 24, val1 25, val2 26, val2 27, val2 28, val2 29, val2 30, val2 31, val2 32, val2 33, val3 34, val3 35, val3 36, val3 37, val3 38, val3 39, val3 40, val3 41, val3 42, val3 43, val3 44, val3 45, val3 46, val3 47, val3 48, val3 49, val3 50, val3 51, val3 52, val3 53, val3 54, val3 55, val3 56, val3 57, val3 58, val3 59, val3 60, val3 61, val3 62, val3 63, val3 64, val3 65, val3 66, val3 67, val3 68, val3 69, val3 70, val3 71, val3 72, val3 73, val3 74, val3 75, val3 76, .bool false, u78, u79, u80, u81, u82, u83, u84, u85, u86, u87, u88, u89, val5 90, val5 91, val5 92, val5 93, val6 94, val6 95, val6 96, val6 97, val6 98, val6 99, val6 100, val6 101, val6 102, val6 103, .bool false, val7 105, val7 106, val7 107, val7 108, val7 109, .bool true, val8 111, val8 112, val8 113, val8 114, val8 115, val8 116, undef, undef, undef, undef, undef, undef, undef, undef, undef, undef, undef, undef, undef, undef, undef, undef, undef, undef, undef, undef, undef, undef, undef, undef, undef, undef, undef, undef, undef, undef, undef, undef, undef, undef, undef, undef, undef, undef, undef, undef, undef, undef, undef], []⟩) (fun val8 => by kernel_rfl) (fun val8 W8 hB hF => ⟨?_⟩)
   ·exact Fh rfl rfl (.env rfl (by kernel_rfl)) rfl (by kernel_rfl)
   ·exact Fm (op := .binOp .eql 26 (.tmp 111) (.const (Ji Jl 19)) 26) rfl rfl (fun _ => rfl) (.dep 0 rfl (by kernel_rfl)) rfl (by kernel_rfl) (fun a w e => by unfold execOp bare;dsimp only;rw[e];go_simp <;> rfl)
   ·exact E5 1 rfl rfl rfl rfl (by kernel_rfl)
   ·exact E7 V13.out (.env rfl (by kernel_rfl)) rfl rfl ⟨true, rfl, rfl, by kernel_rfl, rfl⟩ (by kernel_rfl) (by kernel_rfl)
   ·exact EZ cf17 rfl rfl rfl rfl ⟨true, rfl, rfl, by kernel_rfl, rfl⟩ (by kernel_rfl) (fun a v hB hE hD => Lu (hD 3 _ (by kernel_rfl) rfl) rfl rfl rfl rfl rfl rfl (by kernel_rfl) (G.out v hB))
   ·exact Fe 2 4 rfl rfl rfl rfl rfl (by kernel_rfl)
   ·exact E5 5 rfl rfl rfl rfl (by kernel_rfl)
   have e6 : val8 6 = .bool true :=hF 6 _ rfl;clear hF;generalize val8 6 =t6 at *
   subst e6;replace V0 :=Lh (fun w' (hb : Below W8.heap.size W8 w') => V0.out w' (Jd hB hb));replace V7 :=Lh (fun w' (hb : Below W8.heap.size W8 w') => V7.out w' (Jd hB hb));replace V8 :=Lh (fun w' (hb : Below W8.heap.size W8 w') => V8.out w' (Jd hB hb));replace V13 :=Lh (fun w' (hb : Below W8.heap.size W8 w') => V13.out w' (Jd hB hb));replace K :=Lh (Jd K.out hB);replace G :=Lh (fun w' (hb : Below W8.heap.size W8 w') => G.out w' (Jd hB hb));clear hB;refine Last.nil (by kernel_rfl) ?_;clear G V0 V7 V8 V13;go_wp2_with fail
   exact bodyPost_ret (v := .bool true) (by simp[results, Tryz.results11, go_sem]) rfl ⟨_, rfl, K.out, rfl⟩
  ·have hza2 :=hza.trans hbt;rw[hbt];have hne :=Mt (hzz.trans hbt);have hp :=HP.out hne;have hm8 : ∀k, (i6 n0 n1 n2 n3 n4 n5 k).natAbs <= 128 :=fun k => by have h1 :=(i6_8 HS.out k).lo;have h2 :=(i6_8 HS.out k).hi;omega
   obtain⟨M, hM⟩ : ∃M, (fun k => (i6 n0 n1 n2 n3 n4 n5 k).natAbs) =M :=⟨_, rfl⟩;have hMk : ∀k, M k =(i6 n0 n1 n2 n3 n4 n5 k).natAbs :=fun k => by rw[←hM]
   rw[hM]at hp hne;obtain⟨g, hg6⟩ : ∃g, gK M 6 =g :=⟨_, rfl⟩;rw[hg6]at hp hne;have hgle : ∀k, gK M k <= 128 :=Mi (fun k => by rw[hMk k];exact hm8 k);obtain⟨ho6, hp0, hp1, hp2, hp3, hp4, hp5⟩ :=hp;have HQ : ∀(x : Value) (v : JW), (Fct.num [] 4 [a0, a1, a2, a3, a4, a5]).P v x -> Good v -> Calls Tryz.prog 57 #[x] v (Ret v (Fct.made 0 40 [(((n0.tdiv (g : Int)) : Int) : Rat), (((n1.tdiv (g : Int)) : Int) : Rat), (((n2.tdiv (g : Int)) : Int) : Rat), (((n3.tdiv (g : Int)) : Int) : Rat), (((n4.tdiv (g : Int)) : Int) : Rat), (((n5.tdiv (g : Int)) : Int) : Rat)])) :=fun x v h hg => by
    have q :=Mf h hza2 ho6 hg;rw[hp0, hp1, hp2, hp3, hp4, hp5]at q;exact q
   obtain⟨c0, hc0⟩ : ∃q : Rat, (((n0.tdiv (g : Int)) : Int) : Rat) =q :=⟨_, rfl⟩;obtain⟨c1, hc1⟩ : ∃q : Rat, (((n1.tdiv (g : Int)) : Int) : Rat) =q :=⟨_, rfl⟩;obtain⟨c2, hc2⟩ : ∃q : Rat, (((n2.tdiv (g : Int)) : Int) : Rat) =q :=⟨_, rfl⟩;obtain⟨c3, hc3⟩ : ∃q : Rat, (((n3.tdiv (g : Int)) : Int) : Rat) =q :=⟨_, rfl⟩;obtain⟨c4, hc4⟩ : ∃q : Rat, (((n4.tdiv (g : Int)) : Int) : Rat) =q :=⟨_, rfl⟩;obtain⟨c5, hc5⟩ : ∃q : Rat, (((n5.tdiv (g : Int)) : Int) : Rat) =q :=⟨_, rfl⟩;rw[hc0, hc1, hc2, hc3, hc4, hc5]at HQ;replace HQ :=Lh HQ;obtain⟨y0, hy0⟩ : ∃s, Qs c0 =s :=⟨_, rfl⟩;obtain⟨y1, hy1⟩ : ∃s, Qs c1 =s :=⟨_, rfl⟩;obtain⟨y2, hy2⟩ : ∃s, Qs c2 =s :=⟨_, rfl⟩;obtain⟨y3, hy3⟩ : ∃s, Qs c3 =s :=⟨_, rfl⟩;obtain⟨y4, hy4⟩ : ∃s, Qs c4 =s :=⟨_, rfl⟩;obtain⟨y5, hy5⟩ : ∃s, Qs c5 =s :=⟨_, rfl⟩;have HY : ∀k, k < 6 -> Qs ((((i6 n0 n1 n2 n3 n4 n5 k).tdiv (g : Int)) : Int) : Rat) =y6 y0 y1 y2 y3 y4 y5 k :=fun k hk => by
    match k, hk with
    | 0, _ => exact(congrArg Qs hc0).trans hy0
    | 1, _ => exact(congrArg Qs hc1).trans hy1
    | 2, _ => exact(congrArg Qs hc2).trans hy2
    | 3, _ => exact(congrArg Qs hc3).trans hy3
    | 4, _ => exact(congrArg Qs hc4).trans hy4
    | 5, _ => exact(congrArg Qs hc5).trans hy5
   replace HY :=Lh HY;have HYs :=Lh (M1 hy0 (M1 hy1 (M1 hy2 (M1 hy3 (M1 hy4 hy5)))));clear hc0 hp0 hy0 hc1 hp1 hy1 hc2 hp2 hy2 hc3 hp3 hy3 hc4 hp4 hy4 hc5 hp5 hy5 ho6 hza hza2 hM;go_upto_region 11 with fail
   refine E8 160 [(106, false, 0), (107, false, 0), (105, false, 0), (108, false, 0), (109, false, 0), (13, false, 0), (13, true, 5), (14, false, 0)] [5]
    [Fct.num [] 4 [a0, a1, a2, a3, a4, a5],
    Fct.made 0 40 [c0, c1, c2, c3, c4, c5],
    Fct.made 0 40 [c0, c1, c2, c3, c4, c5],
    Fct.num [] 40 [c0, c1, c2, c3, c4, c5],
    Fct.val (Ji Jl 0),
    Fct.ptr 24,
    Fct.var [] 40 [c0, c1, c2, c3, c4, c5],
    Fct.val (Ji Jl 0)]
    0 rfl (by kernel_rfl) rfl ⟨?_, ?_, ?_, ?_, ?_, ?_, ?_, ?_, trivial⟩
    (fun val7 => ⟨#[Ja #[Ji .i8 n0, Ji .i8 n1, Ji .i8 n2, Ji .i8 n3, Ji .i8 n4, Ji .i8 n5, Ji .u8 d], Ja #[Ji .i8 m0, Ji .i8 m1, Ji .i8 m2, Ji .i8 m3, Ji .i8 m4, Ji .i8 m5, Ji .u8 e], Ji .i8 k, Jp (Jo ⟨w.heap.size, 0, Jn⟩), Jp (Jo ⟨w.heap.size + 1, 0, Jn⟩), undef, .bool false, Jp (Jo ⟨p7, 0, Jn⟩), Jp (Jo ⟨p8, 0, Jn⟩), Jp (Jo ⟨p9, 0, Jn⟩), Jp (Jo ⟨p10, 0, Jn⟩), .bool (x0 && x1), .bool false, val7 13, val7 14, undef, undef, undef, undef, undef, .bool true, .bool false, val1 22, val1 23, val1 24, val1 25, val2 26, val2 27, val2 28, val2 29, val2 30, val2 31, val2 32, val2 33, val3 34, val3 35, val3 36, val3 37, val3 38, val3 39, val3 40, val3 41, val3 42, val3 43, val3 44, val3 45, val3 46, val3 47, val3 48, val3 49, val3 50, val3 51, val3 52, val3 53, val3 54, val3 55, val3 56, val3 57, val3 58, val3 59, val3 60, val3 61, val3 62, val3 63, val3 64, val3 65, val3 66, val3 67, val3 68, val3 69, val3 70, val3 71, val3 72, val3 73, val3 74, val3 75, val3 76, .bool false, u78, u79, u80, u81, u82, u83, u84, u85, u86, u87, u88, u89, val5 90, val5 91, val5 92, val5 93, val6 94, val6 95, val6 96, val6 97, val6 98, val6 99, val6 100, val6 101, val6 102, val6 103, .bool false, val7 105, val7 106, val7 107, val7 108, val7 109, undef, undef, undef, undef, undef, undef, undef, undef, undef, undef, undef, undef, undef, undef, undef, undef, undef, undef, undef, undef, undef, undef, undef, undef, undef, undef, undef, undef, undef, undef, undef, undef, undef, undef, undef, undef, undef, undef, undef, undef, undef, undef, undef, undef, undef, undef, undef, undef, undef, undef], []⟩) (fun val7 => by kernel_rfl) (fun val7 W7 hB hF => ⟨?_⟩)
   ·exact E7 V7.out (.env rfl (by kernel_rfl)) rfl rfl rfl (by kernel_rfl) (by kernel_rfl)
   ·exact EZ cf57 rfl rfl rfl rfl rfl (by kernel_rfl) (fun a v hB hE hD => HQ.out _ v (hD 0 _ (by kernel_rfl) rfl) (G.out v hB))
   ·exact E5 1 rfl rfl rfl rfl (by kernel_rfl)
   ·exact Fx 2 rfl rfl rfl rfl (by kernel_rfl)
   ·exact Fw 2 rfl rfl rfl rfl (by kernel_rfl)
   ·exact Fb [Ji Jl 0, Jp Jn, Ji Jl 0, Jp Jn, Ji Jl 0, Jp Jn, Ji Jl 0, Jp Jn, Ji Jl 0, Jp Jn, Ji Jl 0, Jp Jn, Ji Jl 0, Jp Jn, Ji Jl 0, Jp Jn, Ji Jl 0, Jp Jn, Ji Jl 0, Jp Jn, Ji Jl 0, Jp Jn, Ji Jl 0, Jp Jn] 37 rfl rfl rfl (by kernel_rfl) (by kernel_rfl) (fun a w => by go_simp)
   ·exact E9 5 3 rfl rfl rfl rfl rfl (by kernel_rfl) (by kernel_rfl)
   ·exact E5 4 rfl rfl rfl rfl (by kernel_rfl)
   obtain⟨p13, e13, V13⟩ : (Fct.var [] 40 [c0, c1, c2, c3, c4, c5]).P W7 (val7 13) :=hF 6 _ rfl;have e14 : val7 14 =Ji Jl 0 :=hF 7 _ rfl;clear hF;generalize val7 13 =t13 at *
   generalize val7 14 =t14 at *
   subst e13 e14;replace V0 :=Lh (fun w' (hb : Below W7.heap.size W7 w') => V0.out w' (Jd hB hb));replace V7 :=Lh (fun w' (hb : Below W7.heap.size W7 w') => V7.out w' (Jd hB hb));replace V8 :=Lh (fun w' (hb : Below W7.heap.size W7 w') => V8.out w' (Jd hB hb));replace V13 :=Lh (fun w' (hb : Below W7.heap.size W7 w') => V13.keep hb);replace K :=Lh (Jd K.out hB);replace G :=Lh (fun w' (hb : Below W7.heap.size W7 w') => G.out w' (Jd hB hb));clear hB;refine Last.nil (by kernel_rfl) ?_;have K1 :=Lh K.out;go_wp2_with fail
   go_loopw [15, 16] (fun vd vk wr => ∃(kk : Nat) (z dd : Int), kk <= 6 /\ z =(kk : Int) /\ vk =Ji Jl z /\ vd =Ji Jl dd /\ dd =((gK M kk : Nat) : Int) /\ Below W7.heap.size W7 wr) (fun _ vk _ => 6-(intOf vk).toNat)
   case atStart => exact⟨0, 0, 0, by decide, rfl, rfl, rfl, rfl, M0 _ _⟩
   case round =>
    obtain⟨kk, z, dd, hk, hzk, rfl, rfl, hd, hb⟩ :=hrel;have Hb :=Lh hb;have hdb : 0 <= dd /\ dd <= 128 :=by have :=hgle kk;omega
    rcases Mw kk 6 with h6|h6
    ·have hcell : wr.cell? ⟨w.heap.size, kk, Jn⟩ =Jo (Ji .i8 (i6 n0 n1 n2 n3 n4 n5 kk)) :=by
      rw[(V0.out wr hb).at_ kk];exact Mh n0 n1 n2 n3 n4 n5 d kk h6
     have hx8 :=i6_8 HS.out kk;have hmk :=hMk kk;obtain⟨x, hx⟩ : ∃x, i6 n0 n1 n2 n3 n4 n5 kk =x :=⟨_, rfl⟩;rw[hx]at hcell hx8 hmk;have hxl :=hx8.lo;have hxh :=hx8.hi;have hwx : M2 Jl x =x :=EM (by omega) (by omega);have hz0 : 0 <= z :=by omega
     have hz6 : z < 6 :=by omega
     have hzt : z.toNat =kk :=by omega
     have hg1 : gK M (kk + 1) =M8 (gK M kk) x.natAbs :=by rw[←hmk];rfl
     have hgl1 :=hgle (kk + 1);clear hb;go_wp2_with fail
     all_goals
      go_loopw [15, 17] (fun vd vn wr => ∃dd n : Int, vd =Ji Jl dd /\ vn =Ji Jl n /\ 0 <= dd /\ dd <= 128 /\ 0 <= n /\ n <= 128 /\ M8 dd.natAbs n.natAbs =gK M (kk + 1) /\ Below W7.heap.size W7 wr) (fun _ vn _ => (intOf vn).natAbs)
      case atStart =>
       refine⟨dd, _, rfl, rfl, hdb.1, hdb.2, ?_, ?_, ?_, Hb.out⟩ <;> first|omega|(rw[hg1];congr 1 <;> omega)
      case round =>
       obtain⟨e0, n, rfl, rfl, i0, i1, j0, j1, hgg, hb⟩ :=hrel;have Hb :=Lh hb;clear hb;by_cases e : n =0
       ·subst e;have Hg :=Lh (show e0 =((gK M (kk + 1) : Nat) : Int)by rw[←hgg, Int.natAbs_zero, M7];omega);clear hgg;go_wp2;exact⟨⟨kk + 1, z + 1, e0, by omega, by omega, by go_num, rfl, Hg.out, Hb.out⟩, by simp[intOf];omega⟩
       ·have t0 : (n ==0) =false :=by rw[beq_eq_false_iff_ne];exact e
        have t1 : (n !=0) =true :=by rw[bne, t0];rfl
        have hl :=NQ e0 n e;have hgn :=NW e0 n;have hr0 : 0 <= Int.tmod e0 n :=Int.tmod_nonneg n i0;rw[hgg]at hgn;obtain⟨r1, hr⟩ : ∃r, Int.tmod e0 n =r :=⟨_, rfl⟩;rw[hr]at hl hgn hr0;have Hl :=Lh hl;have Hgn :=Lh hgn;clear hgg hgn;go_wp2_with fail
        go_quiet (fail)
        go_wp2_with fail
        exact⟨⟨n, r1, rfl, rfl, j0, j1, hr0, by have :=Hl.out;omega, Hgn.out, by first|exact Hb.out|exact below_drewN Hb.out _⟩, by simp[intOf];exact Hl.out⟩
    ·obtain rfl : kk =6 :=by omega
     obtain rfl : z =6 :=hzk;obtain rfl : dd =(g : Int) :=by rw[hd, hg6]
     have hB :=Hb.out;clear hb Hb hd hk hdb h6 HP HQ;replace V0 :=Lh (fun w' (hb : Below wr.heap.size wr w') => V0.out w' (Jd hB hb));replace V7 :=Lh (fun w' (hb : Below wr.heap.size wr w') => V7.out w' (Jd hB hb));replace V8 :=Lh (fun w' (hb : Below wr.heap.size wr w') => V8.out w' (Jd hB hb));replace V13 :=Lh (fun w' (hb : Below wr.heap.size wr w') => V13.out w' (Jd hB hb));replace K :=Lh (Jd K.out hB);replace G :=Lh (fun w' (hb : Below wr.heap.size wr w') => G.out w' (Jd hB hb));clear hB;go_upto_region 23 with fail
     refine E8 160 [(136, false, 0), (18, false, 0), (18, true, 1)] [1]
      [Fct.val (Ja #[Js ⟨#[]⟩, Js ⟨#[]⟩, Js ⟨#[]⟩, Js ⟨#[]⟩, Js ⟨#[]⟩, Js ⟨#[]⟩]),
      Fct.ptrB (wr.heap.size) 6,
      Fct.celB (wr.heap.size) [Js ⟨#[]⟩, Js ⟨#[]⟩, Js ⟨#[]⟩, Js ⟨#[]⟩, Js ⟨#[]⟩, Js ⟨#[]⟩]]
      0 rfl (by kernel_rfl) rfl ⟨?_, ?_, ?_, trivial⟩
      (fun valY => ⟨#[Ja #[Ji .i8 n0, Ji .i8 n1, Ji .i8 n2, Ji .i8 n3, Ji .i8 n4, Ji .i8 n5, Ji .u8 d], Ja #[Ji .i8 m0, Ji .i8 m1, Ji .i8 m2, Ji .i8 m3, Ji .i8 m4, Ji .i8 m5, Ji .u8 e], Ji .i8 k, Jp (Jo ⟨w.heap.size, 0, Jn⟩), Jp (Jo ⟨w.heap.size + 1, 0, Jn⟩), undef, .bool false, Jp (Jo ⟨p7, 0, Jn⟩), Jp (Jo ⟨p8, 0, Jn⟩), Jp (Jo ⟨p9, 0, Jn⟩), Jp (Jo ⟨p10, 0, Jn⟩), .bool (x0 && x1), .bool false, Jp (Jo ⟨p13, 0, Jn⟩), Ji Jl 0, Ji Jl (g : Int), Ji Jl 6, u17, valY 18, undef, .bool true, .bool false, val1 22, val1 23, val1 24, val1 25, val2 26, val2 27, val2 28, val2 29, val2 30, val2 31, val2 32, val2 33, val3 34, val3 35, val3 36, val3 37, val3 38, val3 39, val3 40, val3 41, val3 42, val3 43, val3 44, val3 45, val3 46, val3 47, val3 48, val3 49, val3 50, val3 51, val3 52, val3 53, val3 54, val3 55, val3 56, val3 57, val3 58, val3 59, val3 60, val3 61, val3 62, val3 63, val3 64, val3 65, val3 66, val3 67, val3 68, val3 69, val3 70, val3 71, val3 72, val3 73, val3 74, val3 75, val3 76, .bool false, u78, u79, u80, u81, u82, u83, u84, u85, u86, u87, u88, u89, val5 90, val5 91, val5 92, val5 93, val6 94, val6 95, val6 96, val6 97, val6 98, val6 99, val6 100, val6 101, val6 102, val6 103, .bool false, val7 105, val7 106, val7 107, val7 108, val7 109, .bool false, undef, undef, undef, undef, undef, undef, Ji Jl 6, .bool false, u119, u120, u121, u122, u123, u124, u125, u126, u127, u128, u129, u130, u131, u132, u133, u134, u135, valY 136, undef, undef, undef, undef, undef, undef, undef, undef, undef, undef, undef, undef, undef, undef, undef, undef, undef, undef, undef, undef, undef, undef, undef], []⟩) (fun valY => by kernel_rfl) (fun valY WY hB hF => ⟨?_⟩)
     ·exact Fp rfl rfl (by kernel_rfl) (fun a w _ _ _ => ⟨Ja #[Js ⟨#[]⟩, Js ⟨#[]⟩, Js ⟨#[]⟩, Js ⟨#[]⟩, Js ⟨#[]⟩, Js ⟨#[]⟩], by kernel_rfl, rfl⟩)
     ·exact D6 [Js ⟨#[]⟩, Js ⟨#[]⟩, Js ⟨#[]⟩, Js ⟨#[]⟩, Js ⟨#[]⟩, Js ⟨#[]⟩] 24 rfl rfl rfl (by kernel_rfl) (by kernel_rfl) (M4 _) (fun a w => by go_simp)
     ·exact NT 1 0 rfl rfl rfl rfl rfl (by kernel_rfl) (by kernel_rfl)
     obtain⟨p18, e18, B18, V18⟩ : (Fct.celB (wr.heap.size) [Js ⟨#[]⟩, Js ⟨#[]⟩, Js ⟨#[]⟩, Js ⟨#[]⟩, Js ⟨#[]⟩, Js ⟨#[]⟩]).P WY (valY 18) :=hF 2 _ rfl;clear hF;generalize valY 18 =t18 at *
     subst e18;have hN :=M1 (show w.heap.size < wr.heap.size from(V0.out _ (M0 _ _)).lt) (M1 (show p13 < wr.heap.size from(V13.out _ (M0 _ _)).lt) (show w.heap.size <= wr.heap.size from K.out.size));have Hne :=Lh (show w.heap.size ≠ p18 /\ p13 ≠ p18 /\ w.heap.size <= p18 from by omega);clear hN B18;replace V0 :=Lh (fun w' (hb : Below WY.heap.size WY w') => V0.out w' (Jd hB hb));replace V7 :=Lh (fun w' (hb : Below WY.heap.size WY w') => V7.out w' (Jd hB hb));replace V8 :=Lh (fun w' (hb : Below WY.heap.size WY w') => V8.out w' (Jd hB hb));replace V13 :=Lh (fun w' (hb : Below WY.heap.size WY w') => V13.out w' (Jd hB hb));replace V18 :=Lh (fun w' (hb : Below WY.heap.size WY w') => V18.keep hb);replace K :=Lh (Jd K.out hB);replace G :=Lh (fun w' (hb : Below WY.heap.size WY w') => G.out w' (Jd hB hb));clear hB;refine Last.nil (by kernel_rfl) ?_;have Hst :=Lh (show Jh WY p18 (Dc y0 y1 y2 y3 y4 y5 0) /\ Jh WY (w.heap.size) [Ji .i8 n0, Ji .i8 n1, Ji .i8 n2, Ji .i8 n3, Ji .i8 n4, Ji .i8 n5, Ji .u8 d] /\ Fi WY p13 [] 40 [c0, c1, c2, c3, c4, c5] /\ Below w.heap.size w WY from⟨V18.out _ (M0 _ _), V0.out _ (M0 _ _), V13.out _ (M0 _ _), K.out⟩);clear V18 V0 V13 V7 V8 K K1 G;go_wp2_with fail
     go_loopw [19] (fun v wr => ∃(kk : Nat) (z : Int), kk <= 6 /\ z =(kk : Int) /\ v =Ji Jl z /\ (Jh wr p18 (Dc y0 y1 y2 y3 y4 y5 kk) /\ Jh wr (w.heap.size) [Ji .i8 n0, Ji .i8 n1, Ji .i8 n2, Ji .i8 n3, Ji .i8 n4, Ji .i8 n5, Ji .u8 d] /\ Fi wr p13 [] 40 [c0, c1, c2, c3, c4, c5] /\ Below w.heap.size w wr)) (fun v _ => 6-(intOf v).toNat)
     case atStart => exact⟨0, 0, by decide, rfl, rfl, Hst.out⟩
     case round =>
      obtain⟨kk, z, hk, rfl, rfl, h18, h0, h13, hb⟩ :=hrel;have K :=Lh hb;have G :=Lh (fun w' (hb' : Below wr.heap.size wr w') => HG.out.below (hb.trans (hb'.mono hb.size)));have V18 :=Lh (fun w' (hb' : Below wr.heap.size wr w') => h18.keep hb');have V0 :=Lh (fun w' (hb' : Below wr.heap.size wr w') => h0.keep hb');have V13 :=Lh (fun w' (hb' : Below wr.heap.size wr w') => h13.keep hb');clear h18 h0 h13 hb Hst;rcases Mw kk 6 with h6|h6
      ·have hx8 :=i6_8 HS.out kk;have hxy :=HY.out kk h6;obtain⟨x, hx⟩ : ∃x, i6 n0 n1 n2 n3 n4 n5 kk =x :=⟨_, rfl⟩;have hat :=Mh n0 n1 n2 n3 n4 n5 d kk h6;rw[hx]at hx8 hxy hat;have hxl :=hx8.lo;have hxh :=hx8.hi;have hwx : M2 Jl x =x :=EM (by omega) (by omega);have hqb :=Int.natAbs_tdiv_le_natAbs x (g : Int);have hq8 : I8 (x.tdiv (g : Int)) \/ x.tdiv (g : Int) =128 :=by
        rcases Int.lt_or_le (x.tdiv (g : Int)) 128 with h|h
        ·exact .inl ⟨by omega, by omega⟩
        ·exact .inr (by omega)
       have hqi : I64 (x.tdiv (g : Int)) :=⟨by omega, by omega⟩;have hqf : Few (((x.tdiv (g : Int)) : Int) : Rat) 3 :=Fq (by show(x.tdiv (g : Int)).natAbs < 1000;omega) (by decide);have hwq : M2 Jl (x.tdiv (g : Int)) =x.tdiv (g : Int) :=EM hqi.1 hqi.2;have hgz : (g : Int) ≠ 0 :=by omega
       obtain⟨sx, hsx⟩ : ∃s, y6 y0 y1 y2 y3 y4 y5 kk =s :=⟨_, rfl⟩;rw[hsx]at hxy;have HX :=Lh (M1 hqi (M1 hqf hxy));have hk6 : (kk : Int) < 6 :=by omega
       clear hx8 hxl hxh hqb hq8 hqi hqf hxy;go_upto_region 27 with fail
       refine E8 160 [(141, false, 0), (142, false, 0), (143, false, 0), (144, false, 0), (145, false, 0), (146, false, 0), (147, false, 0), (148, false, 0), (149, false, 0), (150, false, 0), (151, false, 0)] []
        [Fct.val (Ji Jl (kk : Int)),
        Fct.val (Ji Jl (kk : Int)),
        Fct.val (Jp (Jo ⟨w.heap.size, 0, Jn⟩)),
        Fct.val (Jp (Jo ⟨w.heap.size, kk, Jn⟩)),
        Fct.val (Ji .i8 x),
        Fct.val (Ji Jl x),
        Fct.val (Ji Jl (g : Int)),
        Fct.val (Ji Jl (x.tdiv (g : Int))),
        Fct.num [] 3 [(((x.tdiv (g : Int)) : Int) : Rat)],
        Fct.val (Js sx),
        Fct.val (Jp (Jo ⟨p18, kk, Jn⟩))]
        1 rfl (by kernel_rfl) rfl ⟨?_, ?_, ?_, ?_, ?_, ?_, ?_, ?_, ?_, ?_, ?_, trivial⟩
        (fun valZ => ⟨#[Ja #[Ji .i8 n0, Ji .i8 n1, Ji .i8 n2, Ji .i8 n3, Ji .i8 n4, Ji .i8 n5, Ji .u8 d], Ja #[Ji .i8 m0, Ji .i8 m1, Ji .i8 m2, Ji .i8 m3, Ji .i8 m4, Ji .i8 m5, Ji .u8 e], Ji .i8 k, Jp (Jo ⟨w.heap.size, 0, Jn⟩), Jp (Jo ⟨w.heap.size + 1, 0, Jn⟩), undef, .bool false, Jp (Jo ⟨p7, 0, Jn⟩), Jp (Jo ⟨p8, 0, Jn⟩), Jp (Jo ⟨p9, 0, Jn⟩), Jp (Jo ⟨p10, 0, Jn⟩), .bool (x0 && x1), .bool false, Jp (Jo ⟨p13, 0, Jn⟩), Ji Jl 0, Ji Jl (g : Int), Ji Jl 6, u17, Jp (Jo ⟨p18, 0, Jn⟩), Ji Jl (kk : Int), .bool true, .bool false, val1 22, val1 23, val1 24, val1 25, val2 26, val2 27, val2 28, val2 29, val2 30, val2 31, val2 32, val2 33, val3 34, val3 35, val3 36, val3 37, val3 38, val3 39, val3 40, val3 41, val3 42, val3 43, val3 44, val3 45, val3 46, val3 47, val3 48, val3 49, val3 50, val3 51, val3 52, val3 53, val3 54, val3 55, val3 56, val3 57, val3 58, val3 59, val3 60, val3 61, val3 62, val3 63, val3 64, val3 65, val3 66, val3 67, val3 68, val3 69, val3 70, val3 71, val3 72, val3 73, val3 74, val3 75, val3 76, .bool false, u78, u79, u80, u81, u82, u83, u84, u85, u86, u87, u88, u89, val5 90, val5 91, val5 92, val5 93, val6 94, val6 95, val6 96, val6 97, val6 98, val6 99, val6 100, val6 101, val6 102, val6 103, .bool false, val7 105, val7 106, val7 107, val7 108, val7 109, .bool false, undef, undef, undef, undef, undef, undef, Ji Jl 6, .bool false, u119, u120, u121, u122, u123, u124, u125, u126, u127, u128, u129, u130, u131, u132, u133, u134, u135, valY 136, Ji Jl (kk : Int), .bool true, u139, u140, valZ 141, valZ 142, valZ 143, valZ 144, valZ 145, valZ 146, valZ 147, valZ 148, valZ 149, valZ 150, valZ 151, undef, undef, undef, undef, undef, undef, undef, undef], []⟩) (fun valZ => by kernel_rfl) (fun valZ WZ hB hF => ⟨?_⟩)
       ·exact Fh rfl rfl (.env rfl (by kernel_rfl)) rfl (by kernel_rfl)
       ·exact Fh rfl rfl (.env rfl (by kernel_rfl)) rfl (by kernel_rfl)
       ·exact E4 rfl rfl (.env rfl (by kernel_rfl)) rfl (by kernel_rfl) (fun w => by go_simp)
       ·exact Dl (op := .indexAddr 51 (.tmp 143) (.tmp 142)) rfl rfl (fun _ => rfl) (.dep 2 rfl (by kernel_rfl)) (.dep 1 rfl (by kernel_rfl)) rfl (by kernel_rfl) (fun a w e e2 => Ma h6 e e2)
       ·exact Dy V0.out hat (.dep 3 rfl (by kernel_rfl)) rfl rfl rfl (by kernel_rfl) (by kernel_rfl)
       ·exact Fm (op := .convert 50 3 (.tmp 145)) rfl rfl (fun _ => rfl) (.dep 4 rfl (by kernel_rfl)) rfl (by kernel_rfl) (fun a w e => by have :=hwx;unfold execOp bare;dsimp only;rw[e];go_simp <;> rfl)
       ·exact Fh rfl rfl (.env rfl (by kernel_rfl)) rfl (by kernel_rfl)
       ·exact Dl (op := .binOp .quo 3 (.tmp 146) (.tmp 147) 3) rfl rfl (fun _ => rfl) (.dep 5 rfl (by kernel_rfl)) (.dep 6 rfl (by kernel_rfl)) rfl (by kernel_rfl) (fun a w e e2 => N2 hgz hwq e e2)
       ·exact EZ cf51 rfl rfl rfl rfl rfl (by kernel_rfl) (fun a v hB hE hD => (show Calls _ _ #[Act.at_ a 148] v _ from by rw[show Act.at_ a 148 =_ from hD 7 _ (by kernel_rfl) rfl];exact Fv HX.out.1 HX.out.2.1))
       ·exact EZ cf58 rfl rfl rfl rfl rfl (by kernel_rfl) (fun a v hB hE hD => FN (hD 8 _ (by kernel_rfl) rfl) HX.out.2.2 (by decide) (G.out v hB))
       ·exact Dl (op := .indexAddr 24 (.tmp 18) (.tmp 141)) rfl rfl (fun _ => rfl) (.env rfl (by kernel_rfl)) (.dep 0 rfl (by kernel_rfl)) rfl (by kernel_rfl) (fun a w e e2 => N3 h6 e e2)
       have hx1 : valZ 150 =Js sx :=hF 9 _ rfl;have hp1 : valZ 151 =Jp (Jo ⟨p18, kk, Jn⟩) :=hF 10 _ rfl;clear hF;generalize valZ 150 =t150 at *
       generalize valZ 151 =t151 at *
       subst hx1 hp1;obtain⟨sl1, sl2, sl3⟩ :=NV y0 y1 y2 y3 y4 y5 kk h6;rw[hsx]at sl3;refine FQ (u :=Js sx) (f :=kk) (V18.out _ hB) rfl rfl rfl rfl rfl rfl rfl rfl rfl (by kernel_rfl) (by rw[sl2, sl1, decide_eq_true h6];rfl) (fun v2 hW hC => ?_);rw[sl3]at hC;have hN :=Hne.out;have ZC :=Lh hC;have Z0 :=Lh ((V0.out _ hB).wr hW hN.1);have Z13 :=Lh ((V13.out _ hB).wr hW hN.2.1);have ZB :=Lh (hW.below hN.2.2 (K.out.trans (hB.mono K.out.size)));have hw1 : M2 Jl ((kk : Int) + 1) =(kk : Int) + 1 :=EM (by omega) (by omega);clear hW hC hB hN V18 V0 V13 K G HX sl1 sl2 sl3;go_wp2_with fail
       go_roundw;case rel => exact⟨kk + 1, (kk : Int) + 1, by omega, by omega, by first|rfl|simp[hw1]|go_num, ZC.out, Z0.out, Z13.out, ZB.out⟩
       case measure => simp[intOf];omega
      ·obtain rfl : kk =6 :=by omega
       go_upto_region 28 with fail
       refine Fy 160 [(152, false, 0), (153, false, 0), (154, false, 0), (155, false, 0), (156, false, 0), (157, false, 0), (158, false, 0), (159, false, 0), (6, false, 0)] []
        [Fct.val (Ji Jl 0),
        Fct.val (.bool true),
        Fct.val (.bool true),
        Fct.num [] 40 [c0, c1, c2, c3, c4, c5],
        Fct.val (Ja #[Js y0, Js y1, Js y2, Js y3, Js y4, Js y5]),
        Fct.val (Ja #[Js y0, Js y1, Js y2, Js y3, Js y4, Js y5]),
        Fct.val (.bool true),
        Fct.val (.bool true),
        Fct.val (.bool true)]
        #[true, true, true, true, true, true, true, true, true] 0 rfl (by kernel_rfl) rfl (by kernel_rfl) ⟨?_, ?_, ?_, ?_, ?_, ?_, ?_, ?_, ?_, trivial⟩
        (fun val8 => ⟨#[Ja #[Ji .i8 n0, Ji .i8 n1, Ji .i8 n2, Ji .i8 n3, Ji .i8 n4, Ji .i8 n5, Ji .u8 d], Ja #[Ji .i8 m0, Ji .i8 m1, Ji .i8 m2, Ji .i8 m3, Ji .i8 m4, Ji .i8 m5, Ji .u8 e], Ji .i8 k, Jp (Jo ⟨w.heap.size, 0, Jn⟩), Jp (Jo ⟨w.heap.size + 1, 0, Jn⟩), undef, val8 6, Jp (Jo ⟨p7, 0, Jn⟩), Jp (Jo ⟨p8, 0, Jn⟩), Jp (Jo ⟨p9, 0, Jn⟩), Jp (Jo ⟨p10, 0, Jn⟩), .bool (x0 && x1), .bool false, Jp (Jo ⟨p13, 0, Jn⟩), Ji Jl 0, Ji Jl (g : Int), Ji Jl 6, u17, Jp (Jo ⟨p18, 0, Jn⟩), Ji Jl 6, .bool true, .bool false, val1 22, val1 23, val1 24, val1 25, val2 26, val2 27, val2 28, val2 29, val2 30, val2 31, val2 32, val2 33, val3 34, val3 35, val3 36, val3 37, val3 38, val3 39, val3 40, val3 41, val3 42, val3 43, val3 44, val3 45, val3 46, val3 47, val3 48, val3 49, val3 50, val3 51, val3 52, val3 53, val3 54, val3 55, val3 56, val3 57, val3 58, val3 59, val3 60, val3 61, val3 62, val3 63, val3 64, val3 65, val3 66, val3 67, val3 68, val3 69, val3 70, val3 71, val3 72, val3 73, val3 74, val3 75, val3 76, .bool false, u78, u79, u80, u81, u82, u83, u84, u85, u86, u87, u88, u89, val5 90, val5 91, val5 92, val5 93, val6 94, val6 95, val6 96, val6 97, val6 98, val6 99, val6 100, val6 101, val6 102, val6 103, .bool false, val7 105, val7 106, val7 107, val7 108, val7 109, .bool false, undef, undef, undef, undef, undef, undef, Ji Jl 6, .bool false, u119, u120, u121, u122, u123, u124, u125, u126, u127, u128, u129, u130, u131, u132, u133, u134, u135, valY 136, Ji Jl 6, .bool false, u139, u140, u141, u142, u143, u144, u145, u146, u147, u148, u149, u150, u151, val8 152, val8 153, val8 154, val8 155, val8 156, val8 157, val8 158, val8 159], []⟩) (fun val8 => by kernel_rfl) (fun val8 W8 hB hF => ⟨?_⟩)
       ·exact Fh rfl rfl (.env rfl (by kernel_rfl)) rfl (by kernel_rfl)
       ·exact Fm (op := .binOp .eql 26 (.tmp 152) (.const (Ji Jl 0)) 26) rfl rfl (fun _ => rfl) (.dep 0 rfl (by kernel_rfl)) rfl (by kernel_rfl) (fun a w e => by unfold execOp bare;dsimp only;rw[e];go_simp <;> rfl)
       ·exact E5 1 rfl rfl rfl rfl (by kernel_rfl)
       ·exact E7 V13.out (.env rfl (by kernel_rfl)) rfl rfl ⟨true, rfl, rfl, by kernel_rfl, rfl⟩ (by kernel_rfl) (by kernel_rfl)
       ·exact EZ cf19 rfl rfl rfl rfl ⟨true, rfl, rfl, by kernel_rfl, rfl⟩ (by kernel_rfl) (fun a v hB hE hD => D7 (hD 3 _ (by kernel_rfl) rfl) (by decide) (G.out v hB) HYs.out.1 HYs.out.2.1 HYs.out.2.2.1 HYs.out.2.2.2.1 HYs.out.2.2.2.2.1 HYs.out.2.2.2.2.2)
       ·exact Fk 6 V18.out (.env rfl (by kernel_rfl)) rfl rfl ⟨true, rfl, rfl, by kernel_rfl, rfl⟩ (by kernel_rfl) (by kernel_rfl) rfl (by kernel_rfl)
       ·exact Dl (op := .binOp .eql 24 (.tmp 156) (.tmp 157) 24) rfl rfl (fun _ => rfl) (.dep 4 rfl (by kernel_rfl)) (.dep 5 rfl (by kernel_rfl)) ⟨true, rfl, rfl, by kernel_rfl, rfl⟩ (by kernel_rfl) (fun a w e e2 => by unfold execOp bare;dsimp only;rw[e, e2];have :=Ld y0 y1 y2 y3 y4 y5 w;go_simp)
       ·exact Fe 2 6 rfl rfl rfl rfl rfl (by kernel_rfl)
       ·exact E5 7 rfl rfl rfl rfl (by kernel_rfl)
       have e6 : val8 6 = .bool true :=hF 8 _ rfl;clear hF;generalize val8 6 =t6 at *
       subst e6;replace V18 :=Lh (fun w' (hb : Below W8.heap.size W8 w') => V18.out w' (Jd hB hb));replace V0 :=Lh (fun w' (hb : Below W8.heap.size W8 w') => V0.out w' (Jd hB hb));replace V13 :=Lh (fun w' (hb : Below W8.heap.size W8 w') => V13.out w' (Jd hB hb));replace K :=Lh (Jd K.out hB);replace G :=Lh (fun w' (hb : Below W8.heap.size W8 w') => G.out w' (Jd hB hb));clear hB;refine Last.nil (by kernel_rfl) ?_;clear G V18 V0 V13;go_wp2_with fail
       exact bodyPost_ret (v := .bool true) (by simp[results, Tryz.results11, go_sem]) rfl ⟨_, rfl, K.out, rfl⟩
 clear hr;replace key :=Lh key;rcases Bool.eq_false_or_eq_true x0 with hbt|hbt
 ·refine E8 160 [(78, false, 0), (79, false, 0), (80, false, 0), (81, false, 0), (82, false, 0), (83, false, 0), (84, false, 0), (85, false, 0), (86, false, 0), (87, false, 0), (88, false, 0), (89, false, 0), (11, false, 0)] []
   [Fct.val (Jp (Jo ⟨p7, 0, Jn⟩)),
   Fct.num [] 4 [a0, a1, a2],
   Fct.val (Jp (Jo ⟨p8, 0, Jn⟩)),
   Fct.num [] 4 [b0, b1, b2],
   Fct.val (.bool true),
   Fct.val (.bool true),
   Fct.val (Jp (Jo ⟨p7, 12, Jn⟩)),
   Fct.num [] 4 [a3, a4, a5],
   Fct.val (Jp (Jo ⟨p8, 12, Jn⟩)),
   Fct.num [] 4 [b3, b4, b5],
   Fct.val (.bool x1),
   Fct.val (.bool x1),
   Fct.val (.bool x1)]
   0 rfl (by kernel_rfl) rfl ⟨?_, ?_, ?_, ?_, ?_, ?_, ?_, ?_, ?_, ?_, ?_, ?_, ?_, trivial⟩
   (fun val4 => ⟨#[Ja #[Ji .i8 n0, Ji .i8 n1, Ji .i8 n2, Ji .i8 n3, Ji .i8 n4, Ji .i8 n5, Ji .u8 d], Ja #[Ji .i8 m0, Ji .i8 m1, Ji .i8 m2, Ji .i8 m3, Ji .i8 m4, Ji .i8 m5, Ji .u8 e], Ji .i8 k, Jp (Jo ⟨w.heap.size, 0, Jn⟩), Jp (Jo ⟨w.heap.size + 1, 0, Jn⟩), undef, .bool false, Jp (Jo ⟨p7, 0, Jn⟩), Jp (Jo ⟨p8, 0, Jn⟩), Jp (Jo ⟨p9, 0, Jn⟩), Jp (Jo ⟨p10, 0, Jn⟩), val4 11, undef, undef, undef, undef, undef, undef, undef, undef, .bool true, .bool false, val1 22, val1 23, val1 24, val1 25, val2 26, val2 27, val2 28, val2 29, val2 30, val2 31, val2 32, val2 33, val3 34, val3 35, val3 36, val3 37, val3 38, val3 39, val3 40, val3 41, val3 42, val3 43, val3 44, val3 45, val3 46, val3 47, val3 48, val3 49, val3 50, val3 51, val3 52, val3 53, val3 54, val3 55, val3 56, val3 57, val3 58, val3 59, val3 60, val3 61, val3 62, val3 63, val3 64, val3 65, val3 66, val3 67, val3 68, val3 69, val3 70, val3 71, val3 72, val3 73, val3 74, val3 75, val3 76, .bool false, val4 78, val4 79, val4 80, val4 81, val4 82, val4 83, val4 84, val4 85, val4 86, val4 87, val4 88, val4 89, undef, undef, undef, undef, undef, undef, undef, undef, undef, undef, undef, undef, undef, undef, undef, undef, undef, undef, undef, undef, undef, undef, undef, undef, undef, undef, undef, undef, undef, undef, undef, undef, undef, undef, undef, undef, undef, undef, undef, undef, undef, undef, undef, undef, undef, undef, undef, undef, undef, undef, undef, undef, undef, undef, undef, undef, undef, undef, undef, undef, undef, undef, undef, undef, undef, undef, undef, undef, undef, undef], []⟩) (fun val4 => by kernel_rfl) (fun val4 W4 hB hF => ⟨?_⟩)
  ·exact E4 rfl rfl (.env rfl (by kernel_rfl)) rfl (by kernel_rfl) (fun w => by go_simp)
  ·exact E6 0 3 V7.out (.dep 0 rfl (by kernel_rfl)) rfl rfl rfl (by kernel_rfl) (by kernel_rfl) (by kernel_rfl)
  ·exact E4 rfl rfl (.env rfl (by kernel_rfl)) rfl (by kernel_rfl) (fun w => by go_simp)
  ·exact E6 0 3 V8.out (.dep 2 rfl (by kernel_rfl)) rfl rfl rfl (by kernel_rfl) (by kernel_rfl) (by kernel_rfl)
  ·exact EZ cf23 rfl rfl rfl rfl rfl (by kernel_rfl) (fun a v hB hE hD => DB (hD 1 _ (by kernel_rfl) rfl) (hD 3 _ (by kernel_rfl) rfl) (hx0.trans hbt) (by kernel_rfl))
  ·exact E5 4 rfl rfl rfl rfl (by kernel_rfl)
  ·exact E4 rfl rfl (.env rfl (by kernel_rfl)) ⟨true, rfl, rfl, by kernel_rfl, rfl⟩ (by kernel_rfl) (fun w => by go_simp)
  ·exact E6 3 3 V7.out (.dep 6 rfl (by kernel_rfl)) rfl rfl ⟨true, rfl, rfl, by kernel_rfl, rfl⟩ (by kernel_rfl) (by kernel_rfl) (by kernel_rfl)
  ·exact E4 rfl rfl (.env rfl (by kernel_rfl)) ⟨true, rfl, rfl, by kernel_rfl, rfl⟩ (by kernel_rfl) (fun w => by go_simp)
  ·exact E6 3 3 V8.out (.dep 8 rfl (by kernel_rfl)) rfl rfl ⟨true, rfl, rfl, by kernel_rfl, rfl⟩ (by kernel_rfl) (by kernel_rfl) (by kernel_rfl)
  ·exact EZ cf23 rfl rfl rfl rfl ⟨true, rfl, rfl, by kernel_rfl, rfl⟩ (by kernel_rfl) (fun a v hB hE hD => DB (hD 7 _ (by kernel_rfl) rfl) (hD 9 _ (by kernel_rfl) rfl) hx1 (by kernel_rfl))
  ·exact Fe 5 10 rfl rfl rfl rfl rfl (by kernel_rfl)
  ·exact E5 11 rfl rfl rfl rfl (by kernel_rfl)
  have e11 : val4 11 = .bool x1 :=hF 12 _ rfl;clear hF;generalize val4 11 =t11 at *
  subst e11;replace V0 :=Lh (fun w' (hb : Below W4.heap.size W4 w') => V0.out w' (Jd hB hb));replace V1 :=Lh (fun w' (hb : Below W4.heap.size W4 w') => V1.out w' (Jd hB hb));replace V7 :=Lh (fun w' (hb : Below W4.heap.size W4 w') => V7.out w' (Jd hB hb));replace V8 :=Lh (fun w' (hb : Below W4.heap.size W4 w') => V8.out w' (Jd hB hb));replace V9 :=Lh (fun w' (hb : Below W4.heap.size W4 w') => V9.out w' (Jd hB hb));replace V10 :=Lh (fun w' (hb : Below W4.heap.size W4 w') => V10.out w' (Jd hB hb));replace K :=Lh (Jd K.out hB);replace G :=Lh (fun w' (hb : Below W4.heap.size W4 w') => G.out w' (Jd hB hb));clear hB;refine Last.nil (by kernel_rfl) ?_;have q0 :=V0.out _ (M0 _ _);have q7 :=V7.out _ (M0 _ _);have q8 :=V8.out _ (M0 _ _);have qb :=K.out;generalize val4 78 =u78;generalize val4 79 =u79;generalize val4 80 =u80;generalize val4 81 =u81;generalize val4 82 =u82;generalize val4 83 =u83;generalize val4 84 =u84;generalize val4 85 =u85;generalize val4 86 =u86;generalize val4 87 =u87;generalize val4 88 =u88;generalize val4 89 =u89;have kk :=key.out _ u78 u79 u80 u81 u82 u83 u84 u85 u86 u87 u88 u89 ⟨q0, q7, q8, qb⟩;rw[hbt]at kk;exact kk
 ·refine E8 160 [(78, false, 0), (79, false, 0), (80, false, 0), (81, false, 0), (82, false, 0), (83, false, 0), (84, false, 0), (85, false, 0), (86, false, 0), (87, false, 0), (88, false, 0), (89, false, 0), (11, false, 0)] []
   [Fct.val (Jp (Jo ⟨p7, 0, Jn⟩)),
   Fct.num [] 4 [a0, a1, a2],
   Fct.val (Jp (Jo ⟨p8, 0, Jn⟩)),
   Fct.num [] 4 [b0, b1, b2],
   Fct.val (.bool false),
   Fct.val (.bool false),
   Fct.val (undef),
   Fct.val (undef),
   Fct.val (undef),
   Fct.val (undef),
   Fct.val (undef),
   Fct.val (.bool false),
   Fct.val (.bool false)]
   0 rfl (by kernel_rfl) rfl ⟨?_, ?_, ?_, ?_, ?_, ?_, ?_, ?_, ?_, ?_, ?_, ?_, ?_, trivial⟩
   (fun val4 => ⟨#[Ja #[Ji .i8 n0, Ji .i8 n1, Ji .i8 n2, Ji .i8 n3, Ji .i8 n4, Ji .i8 n5, Ji .u8 d], Ja #[Ji .i8 m0, Ji .i8 m1, Ji .i8 m2, Ji .i8 m3, Ji .i8 m4, Ji .i8 m5, Ji .u8 e], Ji .i8 k, Jp (Jo ⟨w.heap.size, 0, Jn⟩), Jp (Jo ⟨w.heap.size + 1, 0, Jn⟩), undef, .bool false, Jp (Jo ⟨p7, 0, Jn⟩), Jp (Jo ⟨p8, 0, Jn⟩), Jp (Jo ⟨p9, 0, Jn⟩), Jp (Jo ⟨p10, 0, Jn⟩), val4 11, undef, undef, undef, undef, undef, undef, undef, undef, .bool true, .bool false, val1 22, val1 23, val1 24, val1 25, val2 26, val2 27, val2 28, val2 29, val2 30, val2 31, val2 32, val2 33, val3 34, val3 35, val3 36, val3 37, val3 38, val3 39, val3 40, val3 41, val3 42, val3 43, val3 44, val3 45, val3 46, val3 47, val3 48, val3 49, val3 50, val3 51, val3 52, val3 53, val3 54, val3 55, val3 56, val3 57, val3 58, val3 59, val3 60, val3 61, val3 62, val3 63, val3 64, val3 65, val3 66, val3 67, val3 68, val3 69, val3 70, val3 71, val3 72, val3 73, val3 74, val3 75, val3 76, .bool false, val4 78, val4 79, val4 80, val4 81, val4 82, val4 83, val4 84, val4 85, val4 86, val4 87, val4 88, val4 89, undef, undef, undef, undef, undef, undef, undef, undef, undef, undef, undef, undef, undef, undef, undef, undef, undef, undef, undef, undef, undef, undef, undef, undef, undef, undef, undef, undef, undef, undef, undef, undef, undef, undef, undef, undef, undef, undef, undef, undef, undef, undef, undef, undef, undef, undef, undef, undef, undef, undef, undef, undef, undef, undef, undef, undef, undef, undef, undef, undef, undef, undef, undef, undef, undef, undef, undef, undef, undef, undef], []⟩) (fun val4 => by kernel_rfl) (fun val4 W4 hB hF => ⟨?_⟩)
  ·exact E4 rfl rfl (.env rfl (by kernel_rfl)) rfl (by kernel_rfl) (fun w => by go_simp)
  ·exact E6 0 3 V7.out (.dep 0 rfl (by kernel_rfl)) rfl rfl rfl (by kernel_rfl) (by kernel_rfl) (by kernel_rfl)
  ·exact E4 rfl rfl (.env rfl (by kernel_rfl)) rfl (by kernel_rfl) (fun w => by go_simp)
  ·exact E6 0 3 V8.out (.dep 2 rfl (by kernel_rfl)) rfl rfl rfl (by kernel_rfl) (by kernel_rfl) (by kernel_rfl)
  ·exact EZ cf23 rfl rfl rfl rfl rfl (by kernel_rfl) (fun a v hB hE hD => DB (hD 1 _ (by kernel_rfl) rfl) (hD 3 _ (by kernel_rfl) rfl) (hx0.trans hbt) (by kernel_rfl))
  ·exact E5 4 rfl rfl rfl rfl (by kernel_rfl)
  ·exact FC rfl ⟨false, rfl, rfl, by kernel_rfl, rfl⟩ (by kernel_rfl)
  ·exact FC rfl ⟨false, rfl, rfl, by kernel_rfl, rfl⟩ (by kernel_rfl)
  ·exact FC rfl ⟨false, rfl, rfl, by kernel_rfl, rfl⟩ (by kernel_rfl)
  ·exact FC rfl ⟨false, rfl, rfl, by kernel_rfl, rfl⟩ (by kernel_rfl)
  ·exact FC rfl ⟨false, rfl, rfl, by kernel_rfl, rfl⟩ (by kernel_rfl)
  ·exact Dx 5 rfl rfl rfl rfl (by kernel_rfl)
  ·exact E5 11 rfl rfl rfl rfl (by kernel_rfl)
  have e11 : val4 11 = .bool false :=hF 12 _ rfl;clear hF;generalize val4 11 =t11 at *
  subst e11;replace V0 :=Lh (fun w' (hb : Below W4.heap.size W4 w') => V0.out w' (Jd hB hb));replace V1 :=Lh (fun w' (hb : Below W4.heap.size W4 w') => V1.out w' (Jd hB hb));replace V7 :=Lh (fun w' (hb : Below W4.heap.size W4 w') => V7.out w' (Jd hB hb));replace V8 :=Lh (fun w' (hb : Below W4.heap.size W4 w') => V8.out w' (Jd hB hb));replace V9 :=Lh (fun w' (hb : Below W4.heap.size W4 w') => V9.out w' (Jd hB hb));replace V10 :=Lh (fun w' (hb : Below W4.heap.size W4 w') => V10.out w' (Jd hB hb));replace K :=Lh (Jd K.out hB);replace G :=Lh (fun w' (hb : Below W4.heap.size W4 w') => G.out w' (Jd hB hb));clear hB;refine Last.nil (by kernel_rfl) ?_;have q0 :=V0.out _ (M0 _ _);have q7 :=V7.out _ (M0 _ _);have q8 :=V8.out _ (M0 _ _);have qb :=K.out;generalize val4 78 =u78;generalize val4 79 =u79;generalize val4 80 =u80;generalize val4 81 =u81;generalize val4 82 =u82;generalize val4 83 =u83;generalize val4 84 =u84;generalize val4 85 =u85;generalize val4 86 =u86;generalize val4 87 =u87;generalize val4 88 =u88;generalize val4 89 =u89;have kk :=key.out _ u78 u79 u80 u81 u82 u83 u84 u85 u86 u87 u88 u89 ⟨q0, q7, q8, qb⟩;rw[hbt]at kk;exact kk
