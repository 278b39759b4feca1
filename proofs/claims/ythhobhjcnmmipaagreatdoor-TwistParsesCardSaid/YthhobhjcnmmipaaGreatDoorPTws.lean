/- Twists. -/
import Derived.Test.YthhobhjcnmmipaaGreatDoorPTwi
import Derived.Test.YthhobhjcnmmipaaGreatDoorVec4
namespace Go.Proofs.YthhobhjcnmmipaaGreatDoor
open Go renaming World→JW
open _root_.Nat renaming lt_of_lt_of_le→T3
open _root_.ByteArray renaming size_append→T4
open Go.RowKit
theorem Fi.wr{w w' : JW}{p q : Nat}{hd : List Value}{k : Nat}{qs : List Rat}(h : Fi w p hd k qs)(hw : Wr q w w')(hq : p ≠ q) : Fi w' p hd k qs :=by
 obtain⟨rs, hc, hr, f⟩ :=h;exact⟨rs, hc.wr hw hq, hr.wr hw, f⟩
theorem Fi.lt{w : JW}{p : Nat}{hd : List Value}{k : Nat}{qs : List Rat}(h : Fi w p hd k qs) : p < w.heap.size :=by
 obtain⟨rs, hc, hr, f⟩ :=h;exact hc.lt
section
variable {P : Program} {ops : Array Oper} {Q : Exit -> Act -> JW -> Prop}
theorem Nd{i : Nat}{u : Value}{o : Oper}{rest : List Nat}{a : Act}{w w' : JW}(ho : ops[i]? =some o)(hg : o.guard =none)(hy : (execOp a.eval o).run P w = .ok (.value u) w')(h : wpOps P ops Q rest (a.put o.dst u) w') : wpOps P ops Q (i :: rest) a w :=by
 rw[wpOps_cons];refine wpOp_step ho fun K hK => ?_;have hw : Region.wanted o (yielded ops a.tmps) =true :=by unfold Region.wanted;rw[hg]
 rw[if_pos hw];unfold Oper.wp;rw[hy];exact hK _ _ h
theorem Ng{i m : Nat}{o : Oper}{T : TypeId}{s s2 : Tmp}{rest : List Nat}{a : Act}{w : JW}(p f : Nat)(cs : List Value)(ho : ops[i]? =some o)(hop : o.op = .store T (.tmp s) (.tmp s2))(hg : o.guard =none)(hd : o.dst =none)
  (hs : Act.at_ a s = .pointer (some ⟨p, f, none⟩)) (hv : Act.at_ a s2 = .agg cs.toArray) (hl : cs.length =m) (ht : w.there p f m) (hT : (P.info? T).map (·.size) =some m) (hpc : cs.all plainW =true)
  (h : wpOps P ops Q rest a (w.setCells p f cs)) : wpOps P ops Q (i :: rest) a w :=by
 have hrun :=run_storeAt_mid (P :=P) w p f T cs.toArray (by simpa[hl]using ht) (by simpa[hl]using hT) (all_oneCell_toArray fun v hv => Fo (List.all_eq_true.1 hpc v hv));rw[←hs, ←hv]at hrun;have : (execOp a.eval o).run P w = .ok .skip (w.setCells p f cs) :=by
  unfold execOp;rw[hop];show(do Instr.storeAt T (Act.at_ a s) (Act.at_ a s2);pure Next.skip).run P w =_;rw[Sem.run_bind, hrun];rfl
 exact Dt ho hg hd this h
end
def IVar(w : JW)(p : Nat)(z : Int) : Prop := ∃(a : Int) (P : Option Addr), Jh w p [.int .i64 a, .pointer P] /\ Jj 0 w (.agg #[.int .i64 a, .pointer P]) z
theorem IVar.keep{w w' : JW}{p : Nat}{z : Int}(h : IVar w p z)(hb : Below w.heap.size w w') : IVar w' p z :=by
 obtain⟨a, P, hc, hi⟩ :=h;exact⟨a, P, hc.keep hb, hi.keep hb⟩
theorem IVar.wr{w w' : JW}{p q : Nat}{z : Int}(h : IVar w p z)(hw : Wr q w w')(hq : p ≠ q) : IVar w' p z :=by
 obtain⟨a, P, hc, hi⟩ :=h;exact⟨a, P, hc.wr hw hq, hi.wr hw⟩
theorem IVar.lt{w : JW}{p : Nat}{z : Int}(h : IVar w p z) : p < w.heap.size :=by
 obtain⟨a, P, hc, hi⟩ :=h;exact hc.lt
def Fct.int(z : Int) : Fct :=⟨fun w t => Jj 0 w t z, false, fun h hb => h.keep hb, fun h hw _ => h.wr hw⟩
section
variable {P : Program} {ops : Array Oper} {Q : Exit -> Act -> JW -> Prop} {w0 : JW} {a0 : Act} {L : Lay} {als : List Nat} {Fs : List Fct}
end
theorem n47{n k : Nat}(h : n < ten k)(hk : k <= 900) : n < base 47 :=T3 h (Nat.le_trans (QB hk) YZ)
theorem NO{P : Program}{fn : Func}{tmps : Array Value}{w : JW}{s s' : Tmp}{T : TypeId}{p : Nat}{cs : List Value}{v : Value}(hf : fn.results =#[.cell s T, .tmp s'])(hs : tmps.getD s undef = .pointer (some ⟨p, 0, none⟩))(hs' : tmps.getD s' undef =v)(hc : Jh w p cs)
  (hT : ((P.underlying T).map TypeDesc.isRow, (P.info? T).map (·.size)) =(some true, some cs.length)) : (results fn tmps).run P w = .ok (.tuple #[.agg cs.toArray, v]) w :=by
 injection hT with hT1 hT2
 cases hu : P.underlying T with
 | none => rw[hu]at hT1;cases hT1
 | some d =>
  rw[hu]at hT1;have :=run_loadVar_mid (P :=P) w p 0 T cs d (fun j v hj => by rw[Nat.zero_add, hc.at_ j];exact hj) hu (by simpa using hT1) hT2;rw[Array.getD_eq_getD_getElem?]at hs hs';unfold results;rw[hf];simp[hs, hs', asAddr, this]
theorem NK{P : Program}{fn : Func}{a : Act}{w w' : JW}{s s' : Tmp}{T : TypeId}{p m : Nat}{k : Nat}{n : Int}{qs : List Rat}(hV : Fi w' p [] k qs)(hb : Below w.heap.size w w')(hf : fn.results =#[.cell s T, .tmp s'])(hs : Act.at_ a s = .pointer (some ⟨p, 0, none⟩))(hs' : Act.at_ a s' = .int .i64 n)(hT : ((P.underlying T).map TypeDesc.isRow, (P.info? T).map (·.size)) =(some true, some m))(hn : (4 * qs.length ==m) =true)(hdf : a.defers = []) : bodyPost P fn (Ret w (Fct.made n k qs)) .ret a w' :=by
 obtain⟨rs, hc, hr, f⟩ :=hV;refine bodyPost_ret (NO hf hs hs' hc ?_) hdf ⟨_, rfl, hb, rs, rfl, hr, f⟩;rw[hT, List.length_append, Fc, hr.len, ←beq_iff_eq.1 hn];simp
def f6(q0 q1 q2 q3 q4 q5 : Rat) : Nat -> Rat
 | 0 => q0
 | 1 => q1
 | 2 => q2
 | 3 => q3
 | 4 => q4
 | _ => q5
def r6(x0 x1 x2 x3 x4 x5 : R4) : Nat -> R4
 | 0 => x0
 | 1 => x1
 | 2 => x2
 | 3 => x3
 | 4 => x4
 | _ => x5
theorem cf85(args : Array Value)(w : JW) : (callFunc 85 args).run Tryz.prog w = .ok (.enter 85 args) w :=by go_simp
theorem cf73(args : Array Value)(w : JW) : (callFunc 73 args).run Tryz.prog w = .ok (.enter 73 args) w :=by go_simp
theorem cf74(args : Array Value)(w : JW) : (callFunc 74 args).run Tryz.prog w = .ok (.enter 74 args) w :=by go_simp
theorem cf86(args : Array Value)(w : JW) : (callFunc 86 args).run Tryz.prog w = .ok (.enter 86 args) w :=by go_simp
theorem cf75(args : Array Value)(w : JW) : (callFunc 75 args).run Tryz.prog w = .ok (.enter 75 args) w :=by go_simp
theorem cf84(args : Array Value)(w : JW) : (callFunc 84 args).run Tryz.prog w = .ok (.enter 84 args) w :=by go_simp
theorem cf87(args : Array Value)(w : JW) : (callFunc 87 args).run Tryz.prog w = .ok (.enter 87 args) w :=by go_simp
theorem RX{s : ByteArray}{q : Rat}(h : Qs q =s)(hs : s.size <= 30) : Few q 40 :=by
 unfold Qs at h;by_cases hd : q.den =1
 ·rw[if_pos hd]at h;have hl := @Zp q.num;rw[h]at hl;exact⟨T3 (Zq _) (QB (by omega)), by rw[hd];decide +kernel⟩
 ·rw[if_neg hd]at h;have hz : (txt q.num).size + 1 + (txt (q.den : Int)).size =s.size :=by rw[←h, T4, T4];rfl
  have hl := @Zp q.num;have hl2 := @Zp (q.den : Int);have h7 :=Zq ((q.den : Nat) : Int).natAbs;rw[Int.natAbs_natCast]at h7 hl2;exact⟨T3 (Zq _) (QB (by omega)), T3 h7 (QB (by omega))⟩
structure Tq (s : ByteArray) (e : Int) (q : Rat) : Prop where
 er : errR s =e
 tx : e =0 -> Qs q =s
 sz : s.size <= 30
theorem Tq.any{s : ByteArray}(hs : s.size <= 30) : ∃e q, Tq s e q :=by
 by_cases h : errR s =0
 ·obtain⟨q, hq⟩ :=(RC h).rs (by omega);exact⟨_, q, rfl, fun _ => hq.txt_, hs⟩
 ·exact⟨_, 0, rfl, fun h0 => absurd h0 h, hs⟩
theorem Tq.at_{s : ByteArray}{e : Int}{q : Rat}(h : Tq s e q)(h0 : e =0){w : JW}{r : R4}(hr : RatT w r s) : VAt w r q /\ Few q 40 :=by
 obtain⟨p, hv, ht, _, _⟩ :=hr;obtain rfl :=OL (ht.trans (h.tx h0).symm);exact⟨hv, RX ht h.sz⟩
def er3(e0 e1 e2 : Int) : Int :=if e0 ≠ 0 then e0 else if e1 ≠ 0 then e1 else e2
def nz(e : Int)(q : Rat) : Rat :=if e =0 then q else 0
theorem Ti{s0 s1 s2 : ByteArray}{e0 e1 e2 : Int}{q0 q1 q2 : Rat}(h0 : Tq s0 e0 q0)(h1 : Tq s1 e1 q1)(h2 : Tq s2 e2 q2) : errV 65536 s0 s1 s2 =er3 e0 e1 e2 :=by
 have m : ∀ {s : ByteArray} {e : Int} {q : Rat}, Tq s e q -> errM 65536 s =e :=fun h => by unfold errM;rw[if_neg (by have :=h.sz;omega)];exact h.er
 unfold errV er3;rw[m h0, m h1, m h2]
theorem RU{e0 e1 e2 : Int}(h : er3 e0 e1 e2 =0) : e0 =0 /\ e1 =0 /\ e2 =0 :=by
 unfold er3 at h
 split at h
 ·rename_i hn;exact absurd h hn
 ·split at h
  ·rename_i hn;exact absurd h hn
  ·exact⟨by omega, by omega, h⟩
theorem R6{s0 s1 s2 : ByteArray}{e0 e1 e2 : Int}{q0 q1 q2 : Rat}{E : Int}{w : JW}(h0 : Tq s0 e0 q0)(h1 : Tq s1 e1 q1)(h2 : Tq s2 e2 q2)(hE : er3 e0 e1 e2 =E)(hg : Good w) :
  Calls Tryz.prog 97 #[.agg #[.string s0, .string s1, .string s2]] w (Ret w (Fct.made E 40 [nz E q0, nz E q1, nz E q2])) :=by
 refine(RP s0 s1 s2 w (by have :=h0.sz;omega) (by have :=h1.sz;omega) (by have :=h2.sz;omega) hg).mono ?_;rintro e v⟨r0, r1, r2, rfl, hok, hbad, hb⟩;rw[Ti h0 h1 h2, hE]at hok hbad ⊢;refine⟨_, rfl, hb, [r0, r1, r2], rfl, ?_⟩;by_cases hz : E =0
 ·obtain⟨a0, a1, a2⟩ :=RU (hE.trans hz);obtain⟨t0, t1, t2⟩ :=hok hz;have n : ∀q, nz E q =q :=fun q => if_pos hz;rw[n, n, n];refine⟨⟨(h0.at_ a0 t0).1, (h1.at_ a1 t1).1, (h2.at_ a2 t2).1, trivial⟩, fun q hq => ?_⟩;simp only[List.mem_cons, List.not_mem_nil, or_false]at hq;rcases hq with rfl|rfl|rfl
  ·exact(h0.at_ a0 t0).2
  ·exact(h1.at_ a1 t1).2
  ·exact(h2.at_ a2 t2).2
 ·obtain⟨rfl, rfl, rfl⟩ :=hbad hz;have n : ∀q, nz E q =0 :=fun q => if_neg hz;rw[n, n, n];refine⟨⟨vat0 _, vat0 _, vat0 _, trivial⟩, fun q hq => ?_⟩;rw[show q =0 by simpa using hq];exact few0.up (by decide)
theorem Tk{s : ByteArray}{e : Int}{q : Rat}{w : JW}(h : Tq s e q)(hg : Good w) : Calls Tryz.prog 14 #[.string s] w (Ret w (Fct.made e 40 [nz e q])) :=by
 refine(RI s w (by have :=h.sz;omega) hg).mono ?_;rintro en v⟨a, P, b, Q, E, rfl, ⟨hE, hok, hbad⟩, hb⟩;obtain rfl : E =e :=hE.trans h.er;refine⟨_, rfl, hb, [(a, P, b, Q)], rfl, ?_⟩;by_cases hz : E =0
 ·obtain⟨p, hv, ht, _, _⟩ :=hok hz;obtain rfl :=OL (ht.trans (h.tx hz).symm);rw[show nz E p =p from if_pos hz];exact⟨⟨hv, trivial⟩, fun q hq => by rw[List.mem_singleton.1 hq];exact RX ht h.sz⟩
 ·obtain⟨rfl, rfl, rfl, rfl⟩ :=hbad hz;rw[show nz E q =0 from if_neg hz];exact⟨⟨vat0 _, trivial⟩, fun q hq => by rw[List.mem_singleton.1 hq];exact few0.up (by decide)⟩
