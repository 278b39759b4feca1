/- Numbers on sheets. -/
import Derived.Test.YthhobhjcnmmipaaGreatDoorPShe
namespace Go.Proofs.YthhobhjcnmmipaaGreatDoor
open Go.Value renaming pointer→Jp,agg→Ja
open _root_.Option renaming none→Jn,some→Jo
open Go renaming World→JW
open _root_.Bool renaming and_eq_true→T3
open _root_.List renaming length_append→T4,all_append→T6,getElem?_eq_getElem→T8,length_take→T9
open Go.World renaming cell?_of_block→T5
open _root_.Nat renaming add_zero→T7,zero_add→Tr,le_refl→Ts
open Go.RowKit
theorem Jh.plainW{w : JW}{p : Nat}{vs : List Value}(h : Jh w p vs)(hp : vs.all plainW =true)(i : Nat){x : Value}(hx : w.cell? ⟨p, i, Jn⟩ =Jo x) : Go.Proofs.YthhobhjcnmmipaaGreatDoor.plainW x =true :=by
 rw[h.at_ i]at hx;exact List.all_eq_true.1 hp x (List.mem_of_getElem? hx)
theorem Jj.wr{w w' : JW}{v : Value}{z : Int}{p : Nat}(h : Jj 0 w v z)(hW : Wr p w w') : Jj 0 w' v z :=by
 obtain⟨vs, _, hc, _, _, hp, _⟩ :=hW.was;have hk :=hW.block;have hs :=hW.size;rcases h with h|⟨hz, q, A, n, c, xs, rfl, hq, hB, hA, c0, c1, hl, hcc, hn, hw, ht, hv⟩
 ·exact .inl h
 ·have hqp : q ≠ p :=by
   intro e;subst e;have :=hc.plainW hp 1 c1;cases this
  refine .inr ⟨hz, q, A, n, c, xs, rfl, by omega, hB, hA, (T5 (hk q hqp)).trans c0, (T5 (hk q hqp)).trans c1, ⟨hl.1, hl.2.1, fun h0 => ?_⟩, hcc, hn, hw, ht, hv⟩;obtain⟨b, o, e, hb, hcell⟩ :=hl.2.2 h0;have hlen :=hl.1;rw[JS]at hlen;have hbp : b ≠ p :=by
   intro e2;subst e2;have h1 :=hcell 0 (.int .u64 ((xs.getD 0 0 : Nat) : Int)) (by simp[u64s, show 0 < xs.length by omega]);have :=hc.plainW hp _ h1;cases this
  exact⟨b, o, e, by omega, fun j u hu => (T5 (hk b hbp)).trans (hcell j u hu)⟩
theorem VAt.wr{w w' : JW}{r : R4}{q : Rat}{p : Nat}(h : VAt w r q)(hW : Wr p w w') : VAt w' r q :=⟨h.num.wr hW, h.den.wr hW⟩
def Rats(w : JW) : List R4 -> List Rat -> Prop
 | [], [] => True
 | r :: rs, q :: qs => VAt w r q /\ Rats w rs qs
 | _, _ => False
theorem Rats.keep{w w' : JW}(hb : Below w.heap.size w w') : ∀ {rs : List R4} {qs : List Rat}, Rats w rs qs -> Rats w' rs qs
 | [], [], _ => trivial
 | _ :: _, _ :: _, h => ⟨h.1.keep hb, Rats.keep hb h.2⟩
 | [], _ :: _, h => h.elim
 | _ :: _, [], h => h.elim
theorem Rats.wr{w w' : JW}{p : Nat}(hw : Wr p w w') : ∀ {rs : List R4} {qs : List Rat}, Rats w rs qs -> Rats w' rs qs
 | [], [], _ => trivial
 | _ :: _, _ :: _, h => ⟨VAt.wr h.1 hw, Rats.wr hw h.2⟩
 | [], _ :: _, h => h.elim
 | _ :: _, [], h => h.elim
theorem Rats.len{w : JW} : ∀ {rs : List R4} {qs : List Rat}, Rats w rs qs -> rs.length =qs.length
 | [], [], _ => rfl
 | _ :: _, _ :: _, h => by simp[Rats.len h.2]
 | [], _ :: _, h => h.elim
 | _ :: _, [], h => h.elim
theorem Rats.part{w : JW} : ∀(i n : Nat) {rs : List R4} {qs : List Rat}, Rats w rs qs -> Rats w ((rs.drop i).take n) ((qs.drop i).take n)
 | _, _, [], [], _ => by simp[Rats]
 | 0, 0, _ :: _, _ :: _, _ => by simp[Rats]
 | 0, n + 1, _ :: _, _ :: _, h => ⟨h.1, by simpa using Rats.part 0 n h.2⟩
 | i + 1, n, _ :: _, _ :: _, h => by simpa using Rats.part i n h.2
 | _, _, [], _ :: _, h => h.elim
 | _, _, _ :: _, [], h => h.elim
theorem Rats.app{w : JW} : ∀ {rs rs' : List R4} {qs qs' : List Rat}, Rats w rs qs -> Rats w rs' qs' -> Rats w (rs ++ rs') (qs ++ qs')
 | [], _, [], _, _, h' => h'
 | _ :: _, _, _ :: _, _, h, h' => ⟨h.1, Rats.app h.2 h'⟩
 | [], _, _ :: _, _, h, _ => h.elim
 | _ :: _, _, [], _, h, _ => h.elim
theorem Dz : ∀(a b : List R4), flat (a ++ b) =flat a ++ flat b
 | [], _ => rfl
 | r :: a, b => by simp[flat, Dz a b]
theorem Fc : ∀(rs : List R4), (flat rs).length =4 * rs.length
 | [] => rfl
 | r :: rs => by simp[flat, Qm, Fc rs];omega
theorem Fa : ∀(rs : List R4), (flat rs).all plainW =true
 | [] => rfl
 | r :: rs => by rw[flat, T6, Fa rs];rfl
theorem Do : ∀(i : Nat) (rs : List R4), (flat rs).drop (4 * i) =flat (rs.drop i)
 | 0, _ => rfl
 | _ + 1, [] => by simp[flat]
 | i + 1, r :: rs => by rw[show 4 * (i + 1) =4 * i + 1 + 1 + 1 + 1 by omega];simpa[flat, Qm]using Do i rs
theorem Dn : ∀(n : Nat) (rs : List R4), (flat rs).take (4 * n) =flat (rs.take n)
 | 0, _ => by simp[flat]
 | _ + 1, [] => by simp[flat]
 | n + 1, r :: rs => by rw[show 4 * (n + 1) =4 * n + 1 + 1 + 1 + 1 by omega];simpa[flat, Qm]using Dn n rs
def Fct.num(hd : List Value)(k : Nat)(qs : List Rat) : Fct :=⟨fun w t => ∃rs, t =Ja (hd ++ flat rs).toArray /\ Rats w rs qs /\ ∀q∈qs, Few q k, false, fun⟨rs, e, h, f⟩ hb => ⟨rs, e, h.keep hb, f⟩, fun⟨rs, e, h, f⟩ hw _ => ⟨rs, e, h.wr hw, f⟩⟩
def Fct.made(n : Int)(k : Nat)(qs : List Rat) : Fct :=⟨fun w t => ∃rs, t = .tuple #[Ja (flat rs).toArray, .int .i64 n] /\ Rats w rs qs /\ ∀q∈qs, Few q k, false, fun⟨rs, e, h, f⟩ hb => ⟨rs, e, h.keep hb, f⟩, fun⟨rs, e, h, f⟩ hw _ => ⟨rs, e, h.wr hw, f⟩⟩
def Fi(w : JW)(p : Nat)(hd : List Value)(k : Nat)(qs : List Rat) : Prop := ∃rs, Jh w p (hd ++ flat rs) /\ Rats w rs qs /\ ∀q∈qs, Few q k
theorem Fi.keep{w w' : JW}{p : Nat}{hd : List Value}{k : Nat}{qs : List Rat}(h : Fi w p hd k qs)(hb : Below w.heap.size w w') : Fi w' p hd k qs :=by
 obtain⟨rs, hc, hr, f⟩ :=h;exact⟨rs, hc.keep hb, hr.keep hb, f⟩
def Fct.var (hd : List Value) (k : Nat) (qs : List Rat) : Fct := ⟨fun w t => ∃ p, t = Jp (Jo ⟨p, 0, Jn⟩) /\ Fi w p hd k qs, true, fun ⟨p, e, h⟩ hb => ⟨p, e, h.keep hb⟩,
 fun ⟨p, e, rs, hc, h, f⟩ hw hn => ⟨p, e, rs, hc.wr hw (fun e2 => hn rfl (by rw [e, e2])), h.wr hw, f⟩⟩
def Fct.varB (B : Nat) (hd : List Value) (k : Nat) (qs : List Rat) : Fct := ⟨fun w t => ∃ p, t = Jp (Jo ⟨p, 0, Jn⟩) /\ B <= p /\ Fi w p hd k qs, true, fun ⟨p, e, hb, h⟩ hw => ⟨p, e, hb, h.keep hw⟩,
 fun ⟨p, e, hb, rs, hc, h, f⟩ hw hn => ⟨p, e, hb, rs, hc.wr hw (fun e2 => hn rfl (by rw [e, e2])), h.wr hw, f⟩⟩
def Fct.ptrB (B n : Nat) : Fct := ⟨fun w t => ∃ p, t = Jp (Jo ⟨p, 0, Jn⟩) /\ B <= p /\ ∃ l, Jh w p l /\ l.length = n /\ l.all plainW = true, false,
 fun⟨p, e, hB, l, hc, h1, h2⟩ hb => ⟨p, e, hB, l, hc.keep hb, h1, h2⟩,
 fun {w w' t q} ⟨p, e, hB, l, hc, h1, h2⟩ hw _ => by
  obtain⟨p', l', e', hc', h1', h2'⟩ :=(Fct.ptr n).wrote (t :=t) ⟨p, l, e, hc, h1, h2⟩ hw (fun h => by cases h);have : p' =p :=by rw[e]at e';injection e' with e';injection e' with e';injection e' with e';exact e'.symm
  subst this;exact ⟨p', e, hB, l', hc', h1', h2'⟩⟩
theorem Fi.box{w : JW}{A : Array Value}{hd : List Value}{rs : List R4}{k : Nat}{qs : List Rat}(e : A =(hd ++ flat rs).toArray)(h : Rats w rs qs)(f : ∀q∈qs, Few q k)(T : TypeId) : Fi (w.alloc (.cells A T)) w.heap.size hd k qs :=by
 subst e;refine⟨rs, ?_, h.keep ((Below.refl _ _).alloc (Ts _) _), f⟩;have :=Jh.new w (hd ++ flat rs).toArray T;simpa using this
theorem Fi.part{w : JW}{p : Nat}{hd : List Value}{k : Nat}{qs : List Rat}(h : Fi w p hd k qs)(i n : Nat)(hn : i + n <= qs.length) : ∃cs, cs.length =4 * n /\ w.rangeAt p (hd.length + 4 * i) cs /\ (Fct.num [] k ((qs.drop i).take n)).P w (Ja cs.toArray) :=by
 obtain⟨rs, hc, hr, f⟩ :=h;have hl :=hr.len;refine⟨flat ((rs.drop i).take n), ?_, ?_, _, rfl, hr.part i n, fun q hq => f q (List.mem_of_mem_drop (List.mem_of_mem_take hq))⟩
 ·rw[Fc, T9, List.length_drop];omega
 ·have :=hc.range (hd.length + 4 * i) (4 * n)
  rwa [←List.drop_drop, List.drop_left, Do, Dn]at this
theorem Fi.whole{w : JW}{p : Nat}{hd : List Value}{k : Nat}{qs : List Rat}(h : Fi w p hd k qs) : ∃cs, cs.length =hd.length + 4 * qs.length /\ w.rangeAt p 0 cs /\ (Fct.num hd k qs).P w (Ja cs.toArray) :=by
 obtain⟨rs, hc, hr, f⟩ :=h;refine⟨hd ++ flat rs, by rw[T4, Fc, hr.len], ?_, _, rfl, hr, f⟩;intro j v hj;rw[Tr, hc.at_ j];exact hj
section
variable {P : Program} {ops : Array Oper} {Q : Exit -> Act -> JW -> Prop} {w0 : JW} {a0 : Act} {L : Lay} {als : List Nat} {Fs : List Fct}
inductive Src (ops : Array Oper) (a0 : Act) (L : Lay) (Fs : List Fct) (i : Nat) (s : Tmp) (u : Value) : Prop
 | env (h : Act.at_ a0 s =u) (hx : ((List.range L.length).all fun i => !(Fz ops i ==Jo s)) =true)
 | dep (j : Nat) (h : Fs[j]? =Jo (Fct.val u)) (hx : (Qp .any ops i j && L.slot j ==s) =true)
theorem Src.at_{i : Nat}{s : Tmp}{u : Value}(h : Src ops a0 L Fs i s u){a : Act}{w : JW}(hE : Env ops a0 L a)(hD : Deps ops L Fs i a w) : Act.at_ a s =u :=by
 cases h with
 | env h hx => exact(hE s hx).trans h
 | dep j h hx =>
  rw[T3, beq_iff_eq]at hx;rw[←hx.2];exact hD j _ hx.1 h
theorem E6{i : Nat}{o : Oper}{T : TypeId}{s : Tmp}{p f : Nat}{hd : List Value}{k : Nat}{qs : List Rat}(j n : Nat)(hV : ∀w', Below w0.heap.size w0 w' -> Fi w' p hd k qs)(hs : Src ops a0 L Fs i s (Jp (Jo ⟨p, f, Jn⟩)))(ho : ops[i]? =Jo o)(hop : o.op = .load T (.tmp s))(hg : Fg ops Fs L o i true)(hf : (f ==hd.length + 4 * j && decide (j + n <= qs.length)) =true)(h0 : (L.own i || als.contains i) =false)
  (hT : ((P.underlying T).map TypeDesc.isRow, (P.info? T).map (·.size)) =(Jo true, Jo (4 * n))) : Has P ops Q w0 a0 L als Fs (Fct.num [] k ((qs.drop j).take n)) i :=by
 rw[T3, beq_iff_eq, decide_eq_true_eq]at hf;refine DI (4 * n) ho hop hg h0 hT fun a w hB hE hD => ?_;obtain⟨cs, hl, hr, hP⟩ :=(hV w hB).part j n hf.2;exact⟨p, f, cs, hs.at_ hE hD, hl, by rw[hf.1];exact hr, hP⟩
theorem E7{i : Nat}{o : Oper}{T : TypeId}{s : Tmp}{p : Nat}{hd : List Value}{k : Nat}{qs : List Rat}(hV : ∀w', Below w0.heap.size w0 w' -> Fi w' p hd k qs)(hs : Src ops a0 L Fs i s (Jp (Jo ⟨p, 0, Jn⟩)))(ho : ops[i]? =Jo o)(hop : o.op = .load T (.tmp s))(hg : Fg ops Fs L o i true)(h0 : (L.own i || als.contains i) =false)
  (hT : ((P.underlying T).map TypeDesc.isRow, (P.info? T).map (·.size)) =(Jo true, Jo (hd.length + 4 * qs.length))) : Has P ops Q w0 a0 L als Fs (Fct.num hd k qs) i :=by
 refine DI _ ho hop hg h0 hT fun a w hB hE hD => ?_;obtain⟨cs, hl, hr, hP⟩ :=(hV w hB).whole;exact⟨p, 0, cs, hs.at_ hE hD, hl, hr, hP⟩
theorem Fk{i : Nat}{o : Oper}{T : TypeId}{s : Tmp}{p f : Nat}{l : List Value}{u : Value}(n : Nat)(hV : ∀w', Below w0.heap.size w0 w' -> Jh w' p l)(hs : Src ops a0 L Fs i s (Jp (Jo ⟨p, f, Jn⟩)))(ho : ops[i]? =Jo o)(hop : o.op = .load T (.tmp s))(hg : Fg ops Fs L o i true)(hf : decide (f + n <= l.length) =true)(h0 : (L.own i || als.contains i) =false)
  (hu : u =Ja ((l.drop f).take n).toArray) (hT : ((P.underlying T).map TypeDesc.isRow, (P.info? T).map (·.size)) =(Jo true, Jo n)) : Has P ops Q w0 a0 L als Fs (Fct.val u) i :=by
 subst hu;rw[decide_eq_true_eq]at hf;refine DI n ho hop hg h0 hT fun a w hB hE hD => ?_;exact⟨p, f, (l.drop f).take n, hs.at_ hE hD, by rw[T9, List.length_drop];omega, (hV w hB).range f n, rfl⟩
theorem Dy{i : Nat}{o : Oper}{T : TypeId}{s : Tmp}{p f : Nat}{l : List Value}{u : Value}(hV : ∀w', Below w0.heap.size w0 w' -> Jh w' p l)(hu : l[f]? =Jo u)(hs : Src ops a0 L Fs i s (Jp (Jo ⟨p, f, Jn⟩)))(ho : ops[i]? =Jo o)(hop : o.op = .load T (.tmp s))(hg : Fg ops Fs L o i true)(h0 : (L.own i || als.contains i) =false)
  (hT : (P.underlying T).map TypeDesc.isRow =Jo false) : Has P ops Q w0 a0 L als Fs (Fct.val u) i :=by
 refine Fp ho hg h0 fun a w hB hE hD => ⟨u, ?_, rfl⟩;have e :=hs.at_ hE hD;have hc :=((hV w hB).at_ f).trans hu;have hagg : (isAgg T).run P w = .ok false w :=by
  cases hq : P.underlying T with
  | none => rw[hq]at hT;cases hT
  | some d =>
   rw[hq]at hT;unfold isAgg;rw[Sem.run_bind, run_underlying hq w];cases d <;> simp_all
 unfold execOp;rw[hop];show(do pure (Next.value (←Instr.loadAt T (Act.at_ a s)))).run P w =_;rw[e];simp[Instr.loadAt, Instr.sureAddr, loadVar, Sem.run_bind, hagg, hc]
theorem FW{i : Nat}{o : Oper}{T : TypeId}{s : Tmp}{p f : Nat}{hd : List Value}{k : Nat}{qs : List Rat}{u : Value}(hV : ∀w', Below w0.heap.size w0 w' -> Fi w' p hd k qs)(hu : hd[f]? =Jo u)(hs : Src ops a0 L Fs i s (Jp (Jo ⟨p, f, Jn⟩)))(ho : ops[i]? =Jo o)(hop : o.op = .load T (.tmp s))(hg : Fg ops Fs L o i true)(h0 : (L.own i || als.contains i) =false)
  (hT : (P.underlying T).map TypeDesc.isRow =Jo false) : Has P ops Q w0 a0 L als Fs (Fct.val u) i :=by
 refine Fp ho hg h0 fun a w hB hE hD => ⟨u, ?_, rfl⟩;have e :=hs.at_ hE hD;obtain⟨rs, hcl, _, _⟩ :=hV w hB;have hf : f < hd.length :=(List.getElem?_eq_some_iff.1 hu).1;have hc :=(hcl.at_ f).trans ((List.getElem?_append_left hf).trans hu);have hagg : (isAgg T).run P w = .ok false w :=by
  cases hq : P.underlying T with
  | none => rw[hq]at hT;cases hT
  | some d =>
   rw[hq]at hT;unfold isAgg;rw[Sem.run_bind, run_underlying hq w];cases d <;> simp_all
 unfold execOp;rw[hop];show(do pure (Next.value (←Instr.loadAt T (Act.at_ a s)))).run P w =_;rw[e];simp[Instr.loadAt, Instr.sureAddr, loadVar, Sem.run_bind, hagg, hc]
theorem E9{i : Nat}{o : Oper}{T : TypeId}{s s2 : Tmp}{hd : List Value}{k : Nat}{qs : List Rat}(al j : Nat)(ho : ops[i]? =Jo o)(hop : o.op = .store T (.tmp s) (.tmp s2))(hg : Fg ops Fs L o i true)(hal : Fs[al]? =Jo (Fct.ptr (hd.length + 4 * qs.length)))(hj : Fs[j]? =Jo (Fct.num hd k qs))
  (hx : (L.own i && L.slot i ==s && L.slot al ==s && L.slot j ==s2 && Qp .any ops i al && Qp .any ops i j && hd.all plainW) =true) (hT : (P.info? T).map (·.size) =Jo (hd.length + 4 * qs.length)) : Has P ops Q w0 a0 L als Fs (Fct.var hd k qs) i :=by
 simp only[T3, beq_iff_eq]at hx;obtain⟨⟨⟨⟨⟨⟨h0, h1⟩, h2⟩, h3⟩, h4⟩, h5⟩, h6⟩ :=hx;refine DS (hd.length + 4 * qs.length) ho hop hg h0 h1 hT fun a w hB hE hD => ?_;obtain⟨p, l, e, hc, hl, hp⟩ :=hD al _ h4 hal;obtain⟨rs, e2, hr, f⟩ :=hD j _ h5 hj;rw[h2]at e;rw[h3]at e2;exact⟨p, l, hd ++ flat rs, e, hc, hl, hp, e2, by rw[T4, Fc, hr.len], by rw[T6, h6, Fa];rfl, fun v hW hC => ⟨p, rfl, rs, hC, hr.wr hW, f⟩⟩
theorem D6{i : Nat}{o : Oper}{n B : Nat}(zs : List Value)(T : TypeId)(hn : zs.length =n)(ho : ops[i]? =Jo o)(hg : Fg ops Fs L o i true)(h0 : L.own i =false)(hz : zs.all plainW =true)(hBw : B <= w0.heap.size)
  (h : ∀(a : Act) (w : JW), (execOp a.eval o).run P w = .ok (.value (Jp (Jo ⟨w.heap.size, 0, Jn⟩))) (w.alloc (.cells zs.toArray T))) : Has P ops Q w0 a0 L als Fs (Fct.ptrB B n) i :=by
 subst hn;refine⟨o, ho, fun a w hB hE hD K hK => ?_⟩;rw[hg.at_ hD, if_pos rfl];unfold Oper.wp;rw[h a w];refine hK _ _ ⟨_, rfl, .inl ⟨h0, (Below.refl _ _).alloc (Ts _) _, ⟨w.heap.size, rfl, Nat.le_trans hBw hB.size, zs, ?_, rfl, hz⟩, fun _ => ⟨rfl, by simp⟩⟩⟩;have :=Jh.new w zs.toArray T;simpa using this
theorem D5{i : Nat}{o : Oper}{T : TypeId}{s s2 : Tmp}{hd : List Value}{k B : Nat}{qs : List Rat}(al j : Nat)(ho : ops[i]? =Jo o)(hop : o.op = .store T (.tmp s) (.tmp s2))(hg : Fg ops Fs L o i true)(hal : Fs[al]? =Jo (Fct.ptrB B (hd.length + 4 * qs.length)))(hj : Fs[j]? =Jo (Fct.num hd k qs))
  (hx : (L.own i && L.slot i ==s && L.slot al ==s && L.slot j ==s2 && Qp .any ops i al && Qp .any ops i j && hd.all plainW) =true) (hT : (P.info? T).map (·.size) =Jo (hd.length + 4 * qs.length)) : Has P ops Q w0 a0 L als Fs (Fct.varB B hd k qs) i :=by
 simp only[T3, beq_iff_eq]at hx;obtain⟨⟨⟨⟨⟨⟨h0, h1⟩, h2⟩, h3⟩, h4⟩, h5⟩, h6⟩ :=hx;refine DS (hd.length + 4 * qs.length) ho hop hg h0 h1 hT fun a w hB hE hD => ?_;obtain⟨p, e, hb, l, hc, hl, hp⟩ :=hD al _ h4 hal;obtain⟨rs, e2, hr, f⟩ :=hD j _ h5 hj;rw[h2]at e;rw[h3]at e2;exact⟨p, l, hd ++ flat rs, e, hc, hl, hp, e2, by rw[T4, Fc, hr.len], by rw[T6, h6, Fa];rfl, fun v hW hC => ⟨p, rfl, hb, rs, hC, hr.wr hW, f⟩⟩
theorem FD{i : Nat}{o : Oper}{T : TypeId}{s s' : Tmp}{k k' n : Nat}{qs qs' qq : List Rat}(j j' : Nat)(ho : ops[i]? =Jo o)(hop : o.op = .build T #[(0, .tmp s), (1, .tmp s')])(hg : Fg ops Fs L o i true)(hj : Fs[j]? =Jo (Fct.num [] k qs))(hj' : Fs[j']? =Jo (Fct.num [] k' qs'))(hr : ∀rs rs' : List R4, rs.length =qs.length -> rs'.length =qs'.length -> P.built T [(0, Ja (flat rs).toArray), (1, Ja (flat rs').toArray)] =Jo (flat rs ++ flat rs').toArray)
  (hx : (!(L.own i || als.contains i) && L.slot j ==s && L.slot j' ==s' && Qp .any ops i j && Qp .any ops i j') =true) (hqq : qq =qs ++ qs') (hk : (decide (k <= n) && decide (k' <= n)) =true) : Has P ops Q w0 a0 L als Fs (Fct.num [] n qq) i :=by
 subst hqq;simp only[T3, Bool.not_eq_true', beq_iff_eq, decide_eq_true_eq]at hx hk;obtain⟨⟨⟨⟨h0, h2⟩, h3⟩, h4⟩, h5⟩ :=hx;refine Fp ho hg h0 fun a w hB hE hD => ?_;obtain⟨rs, e, hh, f⟩ :=hD j _ h4 hj;obtain⟨rs', e', hh', f'⟩ :=hD j' _ h5 hj';rw[h2]at e;rw[h3]at e';refine⟨Ja (flat rs ++ flat rs').toArray, ?_, rs ++ rs', by rw[Dz];rfl, hh.app hh', fun q hq => ?_⟩
 ·have hb :=run_build (P :=P) w T #[(0, Ja (flat rs).toArray), (1, Ja (flat rs').toArray)] _ (hr rs rs' hh.len hh'.len);have e : a.eval (.tmp s) =Ja (flat rs).toArray :=e;have e' : a.eval (.tmp s') =Ja (flat rs').toArray :=e';unfold execOp;rw[hop];dsimp only;simp only[List.map_toArray, List.map_cons, List.map_nil, e, e'];rw[Sem.run_bind, hb];rfl
 ·rcases List.mem_append.1 hq with h|h
  ·exact(f q h).up hk.1
  ·exact(f' q h).up hk.2
theorem Fl{i : Nat}{o : Oper}{T : TypeId}{F : Fct}{parts : List (Nat × Operand)}(ho : ops[i]? =Jo o)(hop : o.op = .build T parts.toArray)(hg : Fg ops Fs L o i true)(h0 : (L.own i || als.contains i) =false)
  (h : ∀(a : Act) (w : JW), Below w0.heap.size w0 w -> Env ops a0 L a -> Deps ops L Fs i a w -> ∃cells, P.built T (parts.map fun x => (x.1, a.eval x.2)) =Jo cells /\ F.P w (Ja cells)) : Has P ops Q w0 a0 L als Fs F i :=by
 refine Fp ho hg h0 fun a w hB hE hD => ?_;obtain⟨cells, hb, hF⟩ :=h a w hB hE hD;refine⟨Ja cells, ?_, hF⟩;have hb :=run_build (P :=P) w T (parts.map fun x => (x.1, a.eval x.2)).toArray cells (by simpa using hb);unfold execOp;rw[hop];dsimp only;simp only[List.map_toArray];rw[Sem.run_bind, hb];rfl
theorem E4{i : Nat}{o : Oper}{T : TypeId}{s : Tmp}{p f k : Nat}(ho : ops[i]? =Jo o)(hop : o.op = .fieldAddr T (.tmp s) k)(hs : Src ops a0 L Fs i s (Jp (Jo ⟨p, 0, Jn⟩)))(hg : Fg ops Fs L o i true)(h0 : (L.own i || als.contains i) =false)
  (hr : ∀w : JW, (Instr.fieldAt T (Jp (Jo ⟨p, 0, Jn⟩)) k).run P w = .ok (Jp (Jo ⟨p, f, Jn⟩)) w) : Has P ops Q w0 a0 L als Fs (Fct.val (Jp (Jo ⟨p, f, Jn⟩))) i :=by
 refine Fp ho hg h0 fun a w hB hE hD => ⟨_, ?_, rfl⟩;have e : a.eval (.tmp s) =Jp (Jo ⟨p, 0, Jn⟩) :=hs.at_ hE hD;unfold execOp;rw[hop];show(do pure (Next.value (←Instr.fieldAt T (a.eval (.tmp s)) k))).run P w =_;rw[e, Sem.run_bind, hr w];rfl
theorem FA{i : Nat}{o : Oper}{T : TypeId}{s : Tmp}{x : Operand}{p f : Nat}{g : Nat}{v : Value}(ho : ops[i]? =Jo o)(hop : o.op = .indexAddr T (.tmp s) x)(hs : Src ops a0 L Fs i s (Jp (Jo ⟨p, g, Jn⟩)))(hg : Fg ops Fs L o i true)(h0 : (L.own i || als.contains i) =false)(hxv : ∀a w, Env ops a0 L a -> Deps ops L Fs i a w -> a.eval x =v)
  (hr : ∀w : JW, (Instr.indexAt T (Jp (Jo ⟨p, g, Jn⟩)) v).run P w = .ok (Jp (Jo ⟨p, f, Jn⟩)) w) : Has P ops Q w0 a0 L als Fs (Fct.val (Jp (Jo ⟨p, f, Jn⟩))) i :=by
 refine Fp ho hg h0 fun a w hB hE hD => ⟨_, ?_, rfl⟩;have e : a.eval (.tmp s) =Jp (Jo ⟨p, g, Jn⟩) :=hs.at_ hE hD;unfold execOp;rw[hop];show(do pure (Next.value (←Instr.indexAt T (a.eval (.tmp s)) (a.eval x)))).run P w =_;rw[e, hxv a w hE hD, Sem.run_bind, hr w];rfl
def bare (op : Op) : Oper := ⟨Jn, op, 0, "", #[], Jn⟩
theorem Fm{i : Nat}{o : Oper}{op : Op}{s : Tmp}{x u : Value}(ho : ops[i]? =Jo o)(hop : o.op =op)(hev : ∀ρ, execOp ρ o =execOp ρ (bare op))(hs : Src ops a0 L Fs i s x)(hg : Fg ops Fs L o i true)(h0 : (L.own i || als.contains i) =false)
  (hr : ∀(a : Act) (w : JW), a.eval (.tmp s) =x -> (execOp a.eval (bare op)).run P w = .ok (.value u) w) : Has P ops Q w0 a0 L als Fs (Fct.val u) i :=by
 subst hop;exact Fp ho hg h0 fun a w _ hE hD => ⟨u, by rw[hev];exact hr a w (hs.at_ hE hD), rfl⟩
theorem Dl{i : Nat}{o : Oper}{op : Op}{s s' : Tmp}{x x' u : Value}(ho : ops[i]? =Jo o)(hop : o.op =op)(hev : ∀ρ, execOp ρ o =execOp ρ (bare op))(hs : Src ops a0 L Fs i s x)(hs' : Src ops a0 L Fs i s' x')(hg : Fg ops Fs L o i true)(h0 : (L.own i || als.contains i) =false)
  (hr : ∀(a : Act) (w : JW), a.eval (.tmp s) =x -> a.eval (.tmp s') =x' -> (execOp a.eval (bare op)).run P w = .ok (.value u) w) : Has P ops Q w0 a0 L als Fs (Fct.val u) i :=by
 subst hop;exact Fp ho hg h0 fun a w _ hE hD => ⟨u, by rw[hev];exact hr a w (hs.at_ hE hD) (hs'.at_ hE hD), rfl⟩
theorem Fh{i : Nat}{o : Oper}{s : Tmp}{u : Value}(ho : ops[i]? =Jo o)(hop : (execOp · o) =fun ρ => pure (.value (ρ (.tmp s))))(hs : Src ops a0 L Fs i s u)(hg : Fg ops Fs L o i true)(h0 : (L.own i || als.contains i) =false) : Has P ops Q w0 a0 L als Fs (Fct.val u) i :=
 Fp ho hg h0 fun a w _ hE hD => ⟨u, by rw[congrFun hop a.eval];exact congrArg (fun x => (pure (.value x) : Sem Next).run P w) (hs.at_ hE hD), rfl⟩
theorem Dh{i : Nat}{o : Oper}{u : Value}(ho : ops[i]? =Jo o)(hop : ∀a : Act, execOp a.eval o =pure (.value u))(hg : Fg ops Fs L o i true)(h0 : (L.own i || als.contains i) =false) : Has P ops Q w0 a0 L als Fs (Fct.val u) i :=
 Fp ho hg h0 fun a w _ _ _ => ⟨u, by rw[hop a];rfl, rfl⟩
theorem Ly{a : Act}{o : Oper}{w : JW}{T : TypeId}{s s2 : Tmp}{p f n : Nat}{cs : List Value}(hop : o.op = .store T (.tmp s) (.tmp s2))(hs : Act.at_ a s =Jp (Jo ⟨p, f, Jn⟩))(hv : Act.at_ a s2 =Ja cs.toArray)(hl : cs.length =n)(ht : w.there p f n)(hT : (P.info? T).map (·.size) =Jo n)(hpc : cs.all plainW =true) : (execOp a.eval o).run P w = .ok .skip (w.setCells p f cs) :=by
 have hrun :=run_storeAt_mid (P :=P) w p f T cs.toArray (by simpa[hl]using ht) (by simpa[hl]using hT) (all_oneCell_toArray fun v hv => Fo (List.all_eq_true.1 hpc v hv));rw[←hs, ←hv]at hrun;unfold execOp;rw[hop];show(do Instr.storeAt T (Act.at_ a s) (Act.at_ a s2);pure Next.skip).run P w =_;rw[Sem.run_bind, hrun];rfl
theorem Li{a : Act}{o : Oper}{w : JW}{T : TypeId}{s : Tmp}{y : Operand}{p f : Nat}{l : List Value}{u : Value}(hop : o.op = .store T (.tmp s) y)(hs : Act.at_ a s =Jp (Jo ⟨p, f, Jn⟩))(hv : a.eval y =u)(h1 : u.oneCell' =true)(hc : u.cells =#[u])(hl : Jh w p l)(hf : f < l.length)(hT : (P.info? T).map (·.size) =Jo 1) : (execOp a.eval o).run P w = .ok .skip (w.setCell ⟨p, f, Jn⟩ u) :=by
 have hrun : (Instr.storeAt T (Jp (Jo ⟨p, f, Jn⟩)) u).run P w = .ok () (w.setCell ⟨p, f, Jn⟩ u) :=by
  have :=run_storeCells_cells (P :=P) p f [u] 0 w (fun j hj => by have e : j =0 :=(by simp at hj;exact hj);subst e;simp only[T7];rw[hl.at_ f, T8 hf];rfl) (fun j _ => hl.fz _) (fun v hv => by rw[List.mem_singleton.1 hv];exact h1);cases hq : P.info? T with
  | none => rw[hq]at hT;cases hT
  | some ti =>
   have hsz : 1 =ti.size :=by simp[hq]at hT;omega
   simp only[T7]at this;simp[Instr.storeAt, Instr.sureAddr, storeVar, sizeOf, typeInfo, hq, hc, ←hsz, this, World.setCells]
 rw[←hs, ←hv]at hrun;unfold execOp;rw[hop];show(do Instr.storeAt T (Act.at_ a s) (a.eval y);pure Next.skip).run P w =_;rw[Sem.run_bind, hrun, hv];rfl
theorem FQ{a : Act}{w : JW}{T : TypeId}{s s2 : Tmp}{o : Oper}{i p f : Nat}{l : List Value}{u : Value}(hl : Jh w p l)(hv : Act.at_ a s2 =u)(h1 : u.oneCell' =true)(hc : u.cells =#[u])(hpu : plainW u =true)(ho : ops[i]? =Jo o)(hop : o.op = .store T (.tmp s) (.tmp s2))(hg : o.guard =Jn)(hd0 : o.dst =Jn)(hs : Act.at_ a s =Jp (Jo ⟨p, f, Jn⟩))(hT : (P.info? T).map (·.size) =Jo 1)
  (hx : (!(ops.size ==i) && decide (f < l.length) && l.all plainW) =true) (h : ∀v, Wr p w v -> Jh v p (l.set f u) -> Q .normal a v) : Last P ops Q i a w :=by
 simp only[T3, Bool.not_eq_true', decide_eq_true_eq]at hx;obtain⟨⟨hn, hf⟩, hpl⟩ :=hx;have hC :=hl.set f u hf;have hW : Wr p w (w.setCell ⟨p, f, Jn⟩ u) := ⟨rfl, rfl, rfl, by simp [World.setCell], fun k hk => Below.heap_setCell w ⟨p, f, Jn⟩ u k hk, l, _, hl, hC, by rw [List.length_set], hpl, by
  rw[List.all_eq_true];intro x hx;rcases List.mem_or_eq_of_mem_set hx with h|h
  ·exact List.all_eq_true.1 hpl x h
  ·rw [h]; exact hpu⟩
 have hrun : (Instr.storeAt T (Jp (Jo ⟨p, f, Jn⟩)) u).run P w = .ok () (w.setCell ⟨p, f, Jn⟩ u) :=by
  have :=run_storeCells_cells (P :=P) p f [u] 0 w (fun j hj => by have e : j =0 :=(by simp at hj;exact hj);subst e;simp only[T7];rw[hl.at_ f, T8 hf];rfl) (fun j _ => hl.fz _) (fun v hv => by rw[List.mem_singleton.1 hv];exact h1);cases hq : P.info? T with
  | none => rw[hq]at hT;cases hT
  | some ti =>
   have hsz : 1 =ti.size :=by simp[hq]at hT;omega
   simp only[T7]at this;simp[Instr.storeAt, Instr.sureAddr, storeVar, sizeOf, typeInfo, hq, hc, ←hsz, this, World.setCells]
 unfold Last;rw[if_neg (by simpa using hn)];refine wpOp_step ho fun K hK => ?_;have hw : Region.wanted o (yielded ops a.tmps) =true :=by unfold Region.wanted;rw[hg]
 rw[if_pos hw];rw[←hs, ←hv]at hrun;unfold Oper.wp;have : (execOp a.eval o).run P w = .ok .skip (w.setCell ⟨p, f, Jn⟩ u) :=by
  unfold execOp;rw[hop];show(do Instr.storeAt T (Act.at_ a s) (Act.at_ a s2);pure Next.skip).run P w =_;rw[Sem.run_bind, hrun, hv];rfl
 rw[this];show K (a.put o.dst undef) _;rw[hd0];exact hK _ _ (h _ hW hC)
theorem E5{i : Nat}{o : Oper}{F : Fct}{s : Tmp}(j : Nat)(ho : ops[i]? =Jo o)(hop : (execOp · o) =fun ρ => pure (.value (ρ (.tmp s))))(hj : Fs[j]? =Jo F)(hg : Fg ops Fs L o i true)(hx : (!(L.own i || als.contains i) && L.slot j ==s && Qp .any ops i j) =true) : Has P ops Q w0 a0 L als Fs F i :=by
 simp only[T3, Bool.not_eq_true', beq_iff_eq]at hx;refine Fp ho hg hx.1.1 fun a w hB hE hD => ⟨Act.at_ a s, ?_, ?_⟩
 ·rw[congrFun hop a.eval];rfl
 ·rw[←hx.1.2];exact hD j _ hx.2 hj
theorem Fe{i : Nat}{o : Oper}{F : Fct}{c s : Tmp}{y : Operand}(jc j : Nat)(ho : ops[i]? =Jo o)(hop : o.op = .pick (.tmp c) (.tmp s) y)(hc : Fs[jc]? =Jo (Fct.val (.bool true)))(hj : Fs[j]? =Jo F)(hg : Fg ops Fs L o i true)(hx : (!(L.own i || als.contains i) && L.slot jc ==c && L.slot j ==s && Qp .any ops i jc && Qp .any ops i j) =true) : Has P ops Q w0 a0 L als Fs F i :=by
 simp only[T3, Bool.not_eq_true', beq_iff_eq]at hx;obtain⟨⟨⟨⟨h0, h1⟩, h2⟩, h3⟩, h4⟩ :=hx;refine Fp ho hg h0 fun a w hB hE hD => ⟨Act.at_ a s, ?_, by rw[←h2];exact hD j _ h4 hj⟩;have e : a.eval (.tmp c) = .bool true :=by have :=hD jc _ h3 hc;rw[h1]at this;exact this
 unfold execOp;rw[hop];show(do pure (Next.value (if ←asBool (a.eval (.tmp c)) then Act.at_ a s else a.eval y))).run P w =_;rw[e];rfl
theorem Dx{i : Nat}{o : Oper}{c : Tmp}{x : Operand}{v : Value}(jc : Nat)(ho : ops[i]? =Jo o)(hop : o.op = .pick (.tmp c) x (.const v))(hc : Fs[jc]? =Jo (Fct.val (.bool false)))(hg : Fg ops Fs L o i true)(hx : (!(L.own i || als.contains i) && L.slot jc ==c && Qp .any ops i jc) =true) : Has P ops Q w0 a0 L als Fs (Fct.val v) i :=by
 simp only[T3, Bool.not_eq_true', beq_iff_eq]at hx;obtain⟨⟨h0, h1⟩, h3⟩ :=hx;refine Fp ho hg h0 fun a w hB hE hD => ⟨v, ?_, rfl⟩;have e : a.eval (.tmp c) = .bool false :=by have :=hD jc _ h3 hc;rw[h1]at this;exact this
 unfold execOp;rw[hop];show(do pure (Next.value (if ←asBool (a.eval (.tmp c)) then a.eval x else v))).run P w =_;rw[e];rfl
theorem Fx{i : Nat}{o : Oper}{s : Tmp}{n : Int}{k : Nat}{qs : List Rat}(j : Nat)(ho : ops[i]? =Jo o)(hop : o.op = .extract (.tmp s) 0)(hj : Fs[j]? =Jo (Fct.made n k qs))(hg : Fg ops Fs L o i true)(hx : (!(L.own i || als.contains i) && L.slot j ==s && Qp .any ops i j) =true) : Has P ops Q w0 a0 L als Fs (Fct.num [] k qs) i :=by
 simp only[T3, Bool.not_eq_true', beq_iff_eq]at hx;refine Fp ho hg hx.1.1 fun a w hB hE hD => ?_;obtain⟨rs, e, hr, f⟩ :=hD j _ hx.2 hj;rw[hx.1.2]at e;refine⟨Ja (flat rs).toArray, ?_, rs, rfl, hr, f⟩;have e : a.eval (.tmp s) =_ :=e;unfold execOp;rw[hop];dsimp only;rw[e];rfl
theorem Fw{i : Nat}{o : Oper}{s : Tmp}{n : Int}{k : Nat}{qs : List Rat}(j : Nat)(ho : ops[i]? =Jo o)(hop : o.op = .extract (.tmp s) 1)(hj : Fs[j]? =Jo (Fct.made n k qs))(hg : Fg ops Fs L o i true)(hx : (!(L.own i || als.contains i) && L.slot j ==s && Qp .any ops i j) =true) : Has P ops Q w0 a0 L als Fs (Fct.val (.int .i64 n)) i :=by
 simp only[T3, Bool.not_eq_true', beq_iff_eq]at hx;refine Fp ho hg hx.1.1 fun a w hB hE hD => ?_;obtain⟨rs, e, hr, f⟩ :=hD j _ hx.2 hj;rw[hx.1.2]at e;refine⟨.int .i64 n, ?_, rfl⟩;have e : a.eval (.tmp s) =_ :=e;unfold execOp;rw[hop];dsimp only;rw[e];rfl
theorem Fr{a : Act}{w : JW}{T : TypeId}{s s2 : Tmp}{o : Oper}{i p n : Nat}{hd l : List Value}{k : Nat}{qs : List Rat}(hl : Jh w p l)(hF : (Fct.num hd k qs).P w (Act.at_ a s2))(ho : ops[i]? =Jo o)(hop : o.op = .store T (.tmp s) (.tmp s2))(hg : o.guard =Jn)(hd0 : o.dst =Jn)(hs : Act.at_ a s =Jp (Jo ⟨p, 0, Jn⟩))(hT : (P.info? T).map (·.size) =Jo n)
  (hx : (!(ops.size ==i) && hd.all plainW && l.all plainW && (hd.length + 4 * qs.length ==n) && (l.length ==n)) =true) (h : ∀v, Wr p w v -> Fi v p hd k qs -> Q .normal a v) : Last P ops Q i a w :=by
 simp only[T3, Bool.not_eq_true', beq_iff_eq]at hx;obtain⟨⟨⟨⟨h1, h2⟩, h3⟩, h4⟩, h5⟩ :=hx;obtain⟨rs, e, hr, f⟩ :=hF;have hlen : (hd ++ flat rs).length =n :=by rw[T4, Fc, hr.len];exact h4
 have hp : (hd ++ flat rs).all plainW =true :=by rw[T6, h2, Fa];rfl
 have hW :=hl.wrote_ (vs :=hd ++ flat rs) (by omega) h3 hp;exact FL p 0 n (hd ++ flat rs) ho h1 hop hg hd0 hs e hlen (hl.there _ (by omega)) hT (fun v hv => Fo (List.all_eq_true.1 hp v hv)) (h _ hW ⟨rs, hl.stored (by omega), hr.wr hW, f⟩)
end
theorem FJ{P : Program}{fn : Func}{tmps : Array Value}{w : JW}{s : Tmp}{T : TypeId}{p : Nat}{cs : List Value}(hf : fn.results =#[.cell s T])(hs : tmps.getD s undef =Jp (Jo ⟨p, 0, Jn⟩))(hc : Jh w p cs)
  (hT : ((P.underlying T).map TypeDesc.isRow, (P.info? T).map (·.size)) =(Jo true, Jo cs.length)) : (results fn tmps).run P w = .ok (Ja cs.toArray) w :=by
 injection hT with hT1 hT2
 cases hu : P.underlying T with
 | none => rw[hu]at hT1;cases hT1
 | some d =>
  rw[hu]at hT1;have :=run_loadVar_mid (P :=P) w p 0 T cs d (fun j v hj => by rw[Tr, hc.at_ j];exact hj) hu (by simpa using hT1) hT2;rw[Array.getD_eq_getD_getElem?]at hs;unfold results;rw[hf];simp[hs, asAddr, this]
theorem Fu{P : Program}{fn : Func}{a : Act}{w w' : JW}{s : Tmp}{T : TypeId}{p n : Nat}{hd : List Value}{k : Nat}{qs : List Rat}(hV : Fi w' p hd k qs)(hb : Below w.heap.size w w')(hf : fn.results =#[.cell s T])(hs : Act.at_ a s =Jp (Jo ⟨p, 0, Jn⟩))(hT : ((P.underlying T).map TypeDesc.isRow, (P.info? T).map (·.size)) =(Jo true, Jo n))(hn : (hd.length + 4 * qs.length ==n) =true)(hdf : a.defers = []) : bodyPost P fn (Ret w (Fct.num hd k qs)) .ret a w' :=by
 obtain⟨rs, hc, hr, f⟩ :=hV;refine bodyPost_ret (FJ hf hs hc ?_) hdf ⟨_, rfl, hb, rs, rfl, hr, f⟩;rw[hT, T4, Fc, hr.len, beq_iff_eq.1 hn]
