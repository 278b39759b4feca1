/- Integers on sheets. -/
import Derived.Test.YthhobhjcnmmipaaGreatDoorSTwj
namespace Go.Proofs.YthhobhjcnmmipaaGreatDoor
open Go.Value renaming pointer→Jp,int→Ji
open _root_.Option renaming some→Jo
open Go renaming World→JW
open _root_.Bool renaming and_eq_true→M0
open Go.RowKit
def IVar(w : JW)(p : Nat)(z : Int) : Prop := ∃(a : Int) (P : Option Addr), Jh w p [Ji .i64 a, Jp P] /\ Jj 0 w (.agg #[Ji .i64 a, Jp P]) z
theorem IVar.keep{w w' : JW}{p : Nat}{z : Int}(h : IVar w p z)(hb : Below w.heap.size w w') : IVar w' p z :=by
 obtain⟨a, P, hc, hi⟩ :=h;exact⟨a, P, hc.keep hb, hi.keep hb⟩
theorem IVar.wr{w w' : JW}{p q : Nat}{z : Int}(h : IVar w p z)(hw : Wr q w w')(hq : p ≠ q) : IVar w' p z :=by
 obtain⟨a, P, hc, hi⟩ :=h;exact⟨a, P, hc.wr hw hq, hi.wr hw⟩
theorem IVar.lt{w : JW}{p : Nat}{z : Int}(h : IVar w p z) : p < w.heap.size :=by
 obtain⟨a, P, hc, hi⟩ :=h;exact hc.lt
def Fct.int(z : Int) : Fct :=⟨fun w t => Jj 0 w t z, false, fun h hb => h.keep hb, fun h hw _ => h.wr hw⟩
def Fct.ivarB(B : Nat)(z : Int) : Fct :=⟨fun w t => ∃p, t =Jp (Jo ⟨p, 0, none⟩) /\ B <= p /\ IVar w p z, true, fun⟨p, e, hb, h⟩ hw => ⟨p, e, hb, h.keep hw⟩, fun⟨p, e, hb, h⟩ hw hn => ⟨p, e, hb, h.wr hw (fun e2 => hn rfl (by rw[e, e2]))⟩⟩
def Fct.dm(z k : Int) : Fct :=⟨fun w t => ∃x y, t = .tuple #[x, y, Ji .i64 0] /\ Jj 0 w x z /\ Jj 0 w y k, false, fun⟨x, y, e, h, h'⟩ hb => ⟨x, y, e, h.keep hb, h'.keep hb⟩, fun⟨x, y, e, h, h'⟩ hw _ => ⟨x, y, e, h.wr hw, h'.wr hw⟩⟩
section
variable {P : Program} {ops : Array Oper} {Q : Exit -> Act -> JW -> Prop} {w0 : JW} {a0 : Act} {L : Lay} {als : List Nat} {Fs : List Fct}
theorem NH{i : Nat}{o : Oper}{T : TypeId}{s : Tmp}{p : Nat}{z : Int}(hV : ∀w', Below w0.heap.size w0 w' -> IVar w' p z)(hs : Src ops a0 L Fs i s (Jp (Jo ⟨p, 0, none⟩)))(ho : ops[i]? =Jo o)(hop : o.op = .load T (.tmp s))(hg : Fg ops Fs L o i true)(h0 : (L.own i || als.contains i) =false)
  (hT : ((P.underlying T).map TypeDesc.isRow, (P.info? T).map (·.size)) =(Jo true, Jo 2)) : Has P ops Q w0 a0 L als Fs (Fct.int z) i :=by
 refine DI 2 ho hop hg h0 hT fun a w hB hE hD => ?_;obtain⟨x, X, hc, hi⟩ :=hV w hB;exact⟨p, 0, [Ji .i64 x, Jp X], hs.at_ hE hD, rfl, fun j v hj => by rw[Nat.zero_add, hc.at_ j];exact hj, hi⟩
theorem NI{i : Nat}{o : Oper}{T : TypeId}{s s2 : Tmp}{B : Nat}{z : Int}(al j : Nat)(ho : ops[i]? =Jo o)(hop : o.op = .store T (.tmp s) (.tmp s2))(hg : Fg ops Fs L o i true)(hal : Fs[al]? =Jo (Fct.ptrB B 2))(hj : Fs[j]? =Jo (Fct.int z))
  (hx : (L.own i && L.slot i ==s && L.slot al ==s && L.slot j ==s2 && Qp .any ops i al && Qp .any ops i j) =true) (hT : (P.info? T).map (·.size) =Jo 2) : Has P ops Q w0 a0 L als Fs (Fct.ivarB B z) i :=by
 simp only[M0, beq_iff_eq]at hx;obtain⟨⟨⟨⟨⟨h0, h1⟩, h2⟩, h3⟩, h4⟩, h5⟩ :=hx;refine DS 2 ho hop hg h0 h1 hT fun a w hB hE hD => ?_;obtain⟨p, e, hb, l, hc, hl, hp⟩ :=hD al _ h4 hal;have hi : Jj 0 w (Act.at_ a (L.slot j)) z :=hD j _ h5 hj;obtain⟨x, X, e2⟩ :=Jj.form hi;rw[e2]at hi;rw[h2]at e;rw[h3]at e2;exact⟨p, l, [Ji .i64 x, Jp X], e, hc, hl, hp, e2, rfl, rfl, fun v hW hC => ⟨p, rfl, hb, x, X, hC, hi.wr hW⟩⟩
theorem Mo{i : Nat}{o : Oper}{s : Tmp}{z k : Int}(j : Nat)(ho : ops[i]? =Jo o)(hop : o.op = .extract (.tmp s) 0)(hj : Fs[j]? =Jo (Fct.dm z k))(hg : Fg ops Fs L o i true)(hx : (!(L.own i || als.contains i) && L.slot j ==s && Qp .any ops i j) =true) : Has P ops Q w0 a0 L als Fs (Fct.int z) i :=by
 simp only[M0, Bool.not_eq_true', beq_iff_eq]at hx;refine Fp ho hg hx.1.1 fun a w hB hE hD => ?_;obtain⟨x, y, e, h, h'⟩ :=hD j _ hx.2 hj;rw[hx.1.2]at e;refine⟨x, ?_, h⟩;have e : a.eval (.tmp s) =_ :=e;unfold execOp;rw[hop];dsimp only;rw[e];rfl
theorem Mn{i : Nat}{o : Oper}{s : Tmp}{z k : Int}(j : Nat)(ho : ops[i]? =Jo o)(hop : o.op = .extract (.tmp s) 1)(hj : Fs[j]? =Jo (Fct.dm z k))(hg : Fg ops Fs L o i true)(hx : (!(L.own i || als.contains i) && L.slot j ==s && Qp .any ops i j) =true) : Has P ops Q w0 a0 L als Fs (Fct.int k) i :=by
 simp only[M0, Bool.not_eq_true', beq_iff_eq]at hx;refine Fp ho hg hx.1.1 fun a w hB hE hD => ?_;obtain⟨x, y, e, h, h'⟩ :=hD j _ hx.2 hj;rw[hx.1.2]at e;refine⟨y, ?_, h'⟩;have e : a.eval (.tmp s) =_ :=e;unfold execOp;rw[hop];dsimp only;rw[e];rfl
theorem Mm{i : Nat}{o : Oper}{s : Tmp}{z k : Int}(j : Nat)(ho : ops[i]? =Jo o)(hop : o.op = .extract (.tmp s) 2)(hj : Fs[j]? =Jo (Fct.dm z k))(hg : Fg ops Fs L o i true)(hx : (!(L.own i || als.contains i) && L.slot j ==s && Qp .any ops i j) =true) : Has P ops Q w0 a0 L als Fs (Fct.val (Ji .i64 0)) i :=by
 simp only[M0, Bool.not_eq_true', beq_iff_eq]at hx;refine Fp ho hg hx.1.1 fun a w hB hE hD => ?_;obtain⟨x, y, e, h, h'⟩ :=hD j _ hx.2 hj;rw[hx.1.2]at e;refine⟨Ji .i64 0, ?_, rfl⟩;have e : a.eval (.tmp s) =_ :=e;unfold execOp;rw[hop];dsimp only;rw[e];rfl
theorem NL{a : Act}{w : JW}{T : TypeId}{s s2 : Tmp}{o : Oper}{i p : Nat}{z z' : Int}(hl : IVar w p z')(hF : Jj 0 w (Act.at_ a s2) z)(ho : ops[i]? =Jo o)(hop : o.op = .store T (.tmp s) (.tmp s2))(hg : o.guard =none)(hd0 : o.dst =none)(hs : Act.at_ a s =Jp (Jo ⟨p, 0, none⟩))(hT : (P.info? T).map (·.size) =Jo 2)
  (hx : (ops.size ==i) =false) (h : ∀v, Wr p w v -> IVar v p z -> Q .normal a v) : Last P ops Q i a w :=by
 obtain⟨x, X, hc, _⟩ :=hl;obtain⟨y, Y, e⟩ :=Jj.form hF;have hi :=hF;rw[e]at hi;have hW :=hc.wrote_ (vs := [Ji .i64 y, Jp Y]) rfl rfl rfl;exact FL p 0 2 [Ji .i64 y, Jp Y] ho hx hop hg hd0 hs e rfl (hc.there _ (by show 2 <= 2;decide)) hT (fun v hv => Fo (List.all_eq_true.1 (show([Ji .i64 y, Jp Y] : List Value).all plainW =true from rfl) v hv)) (h _ hW ⟨y, Y, hc.stored rfl, hi.wr hW⟩)
end
theorem NJ{w : JW}{z : Int}(e : Ending)(v : JW)(h : Qb z w e v) : Ret w (Fct.int z) e v :=by
 obtain⟨a, P, e, hi, hb⟩ :=h;exact⟨_, e, hb, hi⟩
theorem Mv{x : Value}{q : Rat}{k : Nat}{w : JW}(h : (Fct.num [] k [q]).P w x) : Calls Tryz.prog 85 #[x] w (Ret w (Fct.int q.num)) :=by
 obtain⟨a, P, b, Q, rfl, hv, f⟩ :=R1 h;exact(WA _ _ _ _ _ _ hv).mono NJ
theorem Mk{x : Value}{q : Rat}{k : Nat}{w : JW}(h : (Fct.num [] k [q]).P w x) : Calls Tryz.prog 73 #[x] w (Ret w (Fct.int ((q.den : Nat) : Int))) :=by
 obtain⟨a, P, b, Q, rfl, hv, f⟩ :=R1 h;exact(QU _ _ _ _ _ _ hv).mono NJ
theorem n47{n k : Nat}(h : n < ten k)(hk : k <= 900) : n < base 47 :=Nat.lt_of_lt_of_le h (Nat.le_trans (QB hk) YZ)
theorem Mj{x y : Value}{z k : Int}{w : JW}(h : (Fct.int z).P w x)(h' : (Fct.int k).P w y)(hz : z.natAbs < base 47)(hk : k.natAbs < base 47)(hg : Good w) : Calls Tryz.prog 74 #[x, y] w (Ret w (Fct.int ((Nat.gcd z.natAbs k.natAbs : Nat) : Int))) :=by
 obtain⟨a, P, rfl⟩ :=Jj.form h;obtain⟨b, Q, rfl⟩ :=Jj.form h';exact(YC a b P Q z k w h h' (Jq hz (by decide)) (Jq hk (by decide)) hg.2 (Nat.lt_of_le_of_lt (Nat.zero_le _) (Er hg.2))).mono NJ
theorem Ms{x y : Value}{n g : Nat}{w : JW}(h : (Fct.int ((n : Nat) : Int)).P w x)(h' : (Fct.int ((g : Nat) : Int)).P w y)(h0 : 0 < g)(hn : n < base 47)(hl : g < base 47) : Calls Tryz.prog 86 #[x, y] w (Ret w (Fct.dm ((n/g : Nat) : Int) ((n%g : Nat) : Int))) :=by
 obtain⟨a, P, rfl⟩ :=Jj.form h;obtain⟨b, Q, rfl⟩ :=Jj.form h';refine(Kg a b P Q n g w h h' h0 (Jq hn (by decide)) (Jq hl (by decide))).mono ?_;rintro e v⟨x, X, y, Y, rfl, hq, hr, hb⟩;exact⟨_, rfl, hb, _, _, rfl, hq, hr⟩
theorem Mr{x y : Value}{z k : Int}{w : JW}(h : (Fct.int z).P w x)(h' : (Fct.int k).P w y)(hz : z.natAbs < base 47)(hk : k.natAbs < base 47) : Calls Tryz.prog 75 #[x, y] w (Ret w (Fct.int (z * k))) :=by
 obtain⟨a, P, rfl⟩ :=Jj.form h;obtain⟨b, Q, rfl⟩ :=Jj.form h';exact(Q6 a b P Q z k w h h' (Jq hz (by decide)) (Jq hk (by decide)) (.inl hz)).mono NJ
theorem Mg{n : Int}{w : JW}(hn : I64 n) : Calls Tryz.prog 84 #[Ji .i64 n] w (Ret w (Fct.int n)) :=
 (Ye n w).mono fun _ _ h => ⟨_, h.1, h.2, QH hn⟩
theorem Mp{x y : Value}{z k : Int}{n : Nat}{w : JW}(h : (Fct.int z).P w x)(h' : (Fct.int k).P w y)(h0 : k ≠ 0)(hz : z.natAbs < base 47)(hk : k.natAbs < base 47)(f : Few (Rat.divInt z k) n)(hg : Good w) : Calls Tryz.prog 87 #[x, y] w (Ret w (Fct.made 0 n [Rat.divInt z k])) :=by
 obtain⟨a, P, rfl⟩ :=Jj.form h;obtain⟨b, Q, rfl⟩ :=Jj.form h';exact(WP a P b Q z k w h h' h0 (Jq hz (by decide)) (Jq hk (by decide)) hg).mono (Lj f)
theorem NO{P : Program}{fn : Func}{tmps : Array Value}{w : JW}{s s' : Tmp}{T : TypeId}{p : Nat}{cs : List Value}{v : Value}(hf : fn.results =#[.cell s T, .tmp s'])(hs : tmps.getD s undef =Jp (Jo ⟨p, 0, none⟩))(hs' : tmps.getD s' undef =v)(hc : Jh w p cs)
  (hT : ((P.underlying T).map TypeDesc.isRow, (P.info? T).map (·.size)) =(Jo true, Jo cs.length)) : (results fn tmps).run P w = .ok (.tuple #[.agg cs.toArray, v]) w :=by
 injection hT with hT1 hT2
 cases hu : P.underlying T with
 | none => rw[hu]at hT1;cases hT1
 | some d =>
  rw[hu]at hT1;have :=run_loadVar_mid (P :=P) w p 0 T cs d (fun j v hj => by rw[Nat.zero_add, hc.at_ j];exact hj) hu (by simpa using hT1) hT2;rw[Array.getD_eq_getD_getElem?]at hs hs';unfold results;rw[hf];simp[hs, hs', asAddr, this]
theorem NK{P : Program}{fn : Func}{a : Act}{w w' : JW}{s s' : Tmp}{T : TypeId}{p m : Nat}{k : Nat}{n : Int}{qs : List Rat}(hV : Fi w' p [] k qs)(hb : Below w.heap.size w w')(hf : fn.results =#[.cell s T, .tmp s'])(hs : Act.at_ a s =Jp (Jo ⟨p, 0, none⟩))(hs' : Act.at_ a s' =Ji .i64 n)(hT : ((P.underlying T).map TypeDesc.isRow, (P.info? T).map (·.size)) =(Jo true, Jo m))(hn : (4 * qs.length ==m) =true)(hdf : a.defers = []) : bodyPost P fn (Ret w (Fct.made n k qs)) .ret a w' :=by
 obtain⟨rs, hc, hr, f⟩ :=hV;refine bodyPost_ret (NO hf hs hs' hc ?_) hdf ⟨_, rfl, hb, rs, rfl, hr, f⟩;rw[hT, List.length_append, Fc, hr.len, ←beq_iff_eq.1 hn];simp
theorem Md{w : JW}{p p' : Nat}(h : IVar w p 0)(h' : IVar w p' 1) : p ≠ p' :=by
 rintro rfl;obtain⟨a, P, hc, hi⟩ :=h;obtain⟨b, Q, hc', hi'⟩ :=h';have e : (Jo (Ji .i64 a) : Option Value) =Jo (Ji .i64 b) :=(hc.at_ 0).symm.trans (hc'.at_ 0)
 injection e with e
 injection e with _ e
 subst e;rcases hi.ways with⟨_, e1⟩|⟨hn, _⟩
 ·rcases hi'.ways with⟨_, e2⟩|⟨hn, _⟩
  ·have h1 :=(Q9 e1).1;have h2 :=(Q9 e2).1;omega
  ·exact absurd ⟨by decide, by decide⟩ hn
 ·exact absurd ⟨by decide, by decide⟩ hn
def f6(q0 q1 q2 q3 q4 q5 : Rat) : Nat -> Rat
 | 0 => q0
 | 1 => q1
 | 2 => q2
 | 3 => q3
 | 4 => q4
 | _ => q5
def r6(x0 x1 x2 x3 x4 x5 : R4) : Nat -> R4
 | 0 => x0
 | 1 => x1
 | 2 => x2
 | 3 => x3
 | 4 => x4
 | _ => x5
theorem idx6(x0 x1 x2 x3 x4 x5 : R4)(k : Nat)(hk : k < 6)(v : JW) : (Instr.index 125 (.agg (flat [x0, x1, x2, x3, x4, x5]).toArray) (Ji .i64 (k : Int))).run Tryz.prog v = .ok (.agg (flat [r6 x0 x1 x2 x3 x4 x5 k]).toArray) v :=by
 match k, hk with
 | 0, _ => exact LT x0 x1 x2 x3 x4 x5 v
 | 1, _ => exact LS x0 x1 x2 x3 x4 x5 v
 | 2, _ => exact LR x0 x1 x2 x3 x4 x5 v
 | 3, _ => exact LQ x0 x1 x2 x3 x4 x5 v
 | 4, _ => exact LP x0 x1 x2 x3 x4 x5 v
 | 5, _ => exact LO x0 x1 x2 x3 x4 x5 v
