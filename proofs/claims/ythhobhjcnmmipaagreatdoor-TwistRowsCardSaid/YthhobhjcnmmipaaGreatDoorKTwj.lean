/- Sums of wrenches. -/
import Derived.Test.YthhobhjcnmmipaaGreatDoorKTwi
namespace Go.Proofs.YthhobhjcnmmipaaGreatDoor
open Go.Value renaming pointer→Jp,int→Ji,int→N0
open Go.IntKind renaming i64→Jl
open Go.Obj renaming cells→Jc
open _root_.Option renaming none→Jn,some→Jo
open Go renaming World→JW
open _root_.Nat renaming le_refl→N1
open Go.Region renaming wanted→N2
open Go.RowKit.Below renaming refl→N3
open Go.RowKit

theorem Fi.wr{w w' : JW}{p q : Nat}{hd : List Value}{k : Nat}{qs : List Rat}(h : Fi w p hd k qs)(hw : Wr q w w')(hq : p ≠ q) : Fi w' p hd k qs :=by
  obtain⟨rs, hc, hr, f⟩ :=h;exact⟨rs, hc.wr hw hq, hr.wr hw, f⟩
theorem Fi.lt{w : JW}{p : Nat}{hd : List Value}{k : Nat}{qs : List Rat}(h : Fi w p hd k qs) : p < w.heap.size :=by
  obtain⟨rs, hc, hr, f⟩ :=h;exact hc.lt
section
variable {P : Program} {ops : Array Oper} {Q : Exit -> Act -> JW -> Prop}
/-- The last operation stores numbers into a variable of numbers. -/
theorem Nf{a : Act}{w : JW}{T : TypeId}{s s2 : Tmp}{o : Oper}{i p n : Nat}{hd hd' : List Value}{k k' : Nat}{qs qs' : List Rat}(hl : Fi w p hd' k' qs')(hF : (Fct.num hd k qs).P w (Act.at_ a s2))(ho : ops[i]? =Jo o)(hop : o.op = .store T (.tmp s) (.tmp s2))(hg : o.guard =Jn)(hd0 : o.dst =Jn)(hs : Act.at_ a s =Jp (Jo ⟨p, 0, Jn⟩))(hT : (P.info? T).map (·.size) =Jo n)
    (hx : (!(ops.size ==i) && hd.all plainW && hd'.all plainW && (hd.length + 4 * qs.length ==n) && (hd'.length + 4 * qs'.length ==n)) =true) (h : ∀v, Wr p w v -> Fi v p hd k qs -> Q .normal a v) : Last P ops Q i a w :=by
  simp only[Bool.and_eq_true, Bool.not_eq_true', beq_iff_eq]at hx;obtain⟨⟨⟨⟨h1, h2⟩, h3⟩, h4⟩, h5⟩ :=hx;obtain⟨rs', hl, hr', _⟩ :=hl;obtain⟨rs, e, hr, f⟩ :=hF;have hlen : (hd ++ flat rs).length =n :=by rw[List.length_append, Fc, hr.len];exact h4
  have hlen' : (hd' ++ flat rs').length =n :=by rw[List.length_append, Fc, hr'.len];exact h5
  have hp : (hd ++ flat rs).all plainW =true :=by rw[List.all_append, h2, Fa];rfl
  have hp' : (hd' ++ flat rs').all plainW =true :=by rw[List.all_append, h3, Fa];rfl
  have hW :=hl.wrote_ (vs :=hd ++ flat rs) (by omega) hp' hp;exact FL p 0 n (hd ++ flat rs) ho h1 hop hg hd0 hs e hlen (hl.there _ (by omega)) hT (fun v hv => Fo (List.all_eq_true.1 hp v hv)) (h _ hW ⟨rs, hl.stored (by omega), hr.wr hW, f⟩)
theorem Nd{i : Nat}{u : Value}{o : Oper}{rest : List Nat}{a : Act}{w w' : JW}(ho : ops[i]? =Jo o)(hg : o.guard =Jn)(hy : (execOp a.eval o).run P w = .ok (.value u) w')(h : wpOps P ops Q rest (a.put o.dst u) w') : wpOps P ops Q (i :: rest) a w :=by
  rw[wpOps_cons];refine wpOp_step ho fun K hK => ?_;have hw : N2 o (yielded ops a.tmps) =true :=by unfold N2;rw[hg]
  rw[if_pos hw];unfold Oper.wp;rw[hy];exact hK _ _ h
theorem Nh{i : Nat}{F : Fct}{o : Oper}{c : Call}{f : FuncId}{args : List Operand}{rest : List Nat}{a : Act}{w : JW}(hcf : ∀args w, (callFunc f args).run P w = .ok (.enter f args) w)(ho : ops[i]? =Jo o)(hop : o.op = .call c)(hf : c.callee = .value (.func f))(hl : c.args =args.toArray)(hg : o.guard =Jn)
    (hc : Calls P f (args.map a.eval).toArray w (Ret w F)) (h : ∀u v, Below w.heap.size w v -> F.P v u -> wpOps P ops Q rest (a.put o.dst u) v) : wpOps P ops Q (i :: rest) a w :=by
  rw[wpOps_cons];refine wpOp_step ho fun K hK => ?_;have hw : N2 o (yielded ops a.tmps) =true :=by unfold N2;rw[hg]
  rw[if_pos hw];have hrun : (execOp a.eval o).run P w = .ok (.enter f (args.map a.eval).toArray) w :=by
    unfold execOp;rw[hop];simp[go_sem, resolve, hf, hl, Act.eval, hcf]
  unfold Oper.wp;rw[hrun, Oper.upon_enter];refine hc.mono ?_;rintro e v⟨u, rfl, hb, hP⟩;exact hK _ _ (h u v hb hP)
/-- A store to a variable that was made just now. -/
theorem Ng{i m : Nat}{o : Oper}{T : TypeId}{s s2 : Tmp}{rest : List Nat}{a : Act}{w : JW}(p f : Nat)(cs : List Value)(ho : ops[i]? =Jo o)(hop : o.op = .store T (.tmp s) (.tmp s2))(hg : o.guard =Jn)(hd : o.dst =Jn)
    (hs : Act.at_ a s =Jp (Jo ⟨p, f, Jn⟩)) (hv : Act.at_ a s2 = .agg cs.toArray) (hl : cs.length =m) (ht : w.there p f m) (hT : (P.info? T).map (·.size) =Jo m) (hpc : cs.all plainW =true)
    (h : wpOps P ops Q rest a (w.setCells p f cs)) : wpOps P ops Q (i :: rest) a w :=by
  have hrun :=run_storeAt_mid (P :=P) w p f T cs.toArray (by simpa[hl]using ht) (by simpa[hl]using hT) (all_oneCell_toArray fun v hv => Fo (List.all_eq_true.1 hpc v hv));rw[←hs, ←hv]at hrun;have : (execOp a.eval o).run P w = .ok .skip (w.setCells p f cs) :=by
    unfold execOp;rw[hop];show(do Instr.storeAt T (Act.at_ a s) (Act.at_ a s2);pure Next.skip).run P w =_;rw[Sem.run_bind, hrun];rfl
  exact Dt ho hg hd this h
end
/-- A new variable of numbers. -/
theorem Nk{u : Value}{w : JW}{k : Nat}{qs : List Rat}(h : (Fct.num [] k qs).P w u)(zs : List Value)(T : TypeId)(hz : zs.length =4 * qs.length)(hp : zs.all plainW =true) :
    ∃cs : List Value, u = .agg cs.toArray /\ cs.length =4 * qs.length /\ cs.all plainW =true /\ (w.alloc (Jc zs.toArray T)).there w.heap.size 0 (4 * qs.length) /\ Fi ((w.alloc (Jc zs.toArray T)).setCells w.heap.size 0 cs) w.heap.size [] k qs /\ Below w.heap.size w ((w.alloc (Jc zs.toArray T)).setCells w.heap.size 0 cs) :=by
  obtain⟨rs, rfl, hr, f⟩ :=h;have hl : (flat rs).length =4 * qs.length :=by rw[Fc, hr.len]
  have hc :=Jh.new w zs.toArray T;rw[List.toList_toArray]at hc;have hb :=(N3 w.heap.size w).alloc (N1 _) (Jc zs.toArray T);have hW :=hc.wrote_ (vs :=flat rs) (by rw[hl, hz]) hp (Fa _);exact⟨flat rs, rfl, hl, Fa _, hc.there _ (by omega), ⟨rs, hc.stored (by rw[hl, hz]), (hr.keep hb).wr hW, f⟩, hW.below (N1 _) hb⟩
theorem Nn{α : Type}{l : List α}(h : l.length =6) : ∃a0 a1 a2 a3 a4 a5, l = [a0, a1, a2, a3, a4, a5] :=by
  match l, h with
  | [a0, a1, a2, a3, a4, a5], _ => exact⟨a0, a1, a2, a3, a4, a5, rfl⟩
set_option maxRecDepth 100000 in
set_option maxHeartbeats 16000000 in
theorem Nm{w : JW}(hg : Good w) :
    Calls Tryz.prog 29 #[.slice Jn 0 0] w (Ret w (Fct.num [] 1 [0, 0, 0, 0, 0, 0])) :=by
  have k0 :=(N3 w.heap.size w).alloc (N1 _) (Jc #[N0 Jl 0, Jp Jn, Ji Jl 0, Jp Jn, Ji Jl 0, Jp Jn, Ji Jl 0, Jp Jn, Ji Jl 0, Jp Jn, Ji Jl 0, Jp Jn, Ji Jl 0, Jp Jn, Ji Jl 0, Jp Jn, Ji Jl 0, Jp Jn, Ji Jl 0, Jp Jn, Ji Jl 0, Jp Jn, Ji Jl 0, Jp Jn] 41);have k1 :=k0.alloc (by simp) (Jc #[N0 Jl 0, Jp Jn, Ji Jl 0, Jp Jn, Ji Jl 0, Jp Jn, Ji Jl 0, Jp Jn, Ji Jl 0, Jp Jn, Ji Jl 0, Jp Jn, Ji Jl 0, Jp Jn, Ji Jl 0, Jp Jn, Ji Jl 0, Jp Jn, Ji Jl 0, Jp Jn, Ji Jl 0, Jp Jn, Ji Jl 0, Jp Jn] 41);have j1 :=(N3 (w.alloc (Jc #[N0 Jl 0, Jp Jn, Ji Jl 0, Jp Jn, Ji Jl 0, Jp Jn, Ji Jl 0, Jp Jn, Ji Jl 0, Jp Jn, Ji Jl 0, Jp Jn, Ji Jl 0, Jp Jn, Ji Jl 0, Jp Jn, Ji Jl 0, Jp Jn, Ji Jl 0, Jp Jn, Ji Jl 0, Jp Jn, Ji Jl 0, Jp Jn] 41)).heap.size (w.alloc (Jc #[N0 Jl 0, Jp Jn, Ji Jl 0, Jp Jn, Ji Jl 0, Jp Jn, Ji Jl 0, Jp Jn, Ji Jl 0, Jp Jn, Ji Jl 0, Jp Jn, Ji Jl 0, Jp Jn, Ji Jl 0, Jp Jn, Ji Jl 0, Jp Jn, Ji Jl 0, Jp Jn, Ji Jl 0, Jp Jn, Ji Jl 0, Jp Jn] 41))).alloc (N1 _) (Jc #[N0 Jl 0, Jp Jn, Ji Jl 0, Jp Jn, Ji Jl 0, Jp Jn, Ji Jl 0, Jp Jn, Ji Jl 0, Jp Jn, Ji Jl 0, Jp Jn, Ji Jl 0, Jp Jn, Ji Jl 0, Jp Jn, Ji Jl 0, Jp Jn, Ji Jl 0, Jp Jn, Ji Jl 0, Jp Jn, Ji Jl 0, Jp Jn] 41);have Z :=(Jh.new w #[N0 Jl 0, Jp Jn, Ji Jl 0, Jp Jn, Ji Jl 0, Jp Jn, Ji Jl 0, Jp Jn, Ji Jl 0, Jp Jn, Ji Jl 0, Jp Jn, Ji Jl 0, Jp Jn, Ji Jl 0, Jp Jn, Ji Jl 0, Jp Jn, Ji Jl 0, Jp Jn, Ji Jl 0, Jp Jn, Ji Jl 0, Jp Jn] 41).keep j1;have S :=Fi.box (w :=w.alloc (Jc #[N0 Jl 0, Jp Jn, Ji Jl 0, Jp Jn, Ji Jl 0, Jp Jn, Ji Jl 0, Jp Jn, Ji Jl 0, Jp Jn, Ji Jl 0, Jp Jn, Ji Jl 0, Jp Jn, Ji Jl 0, Jp Jn, Ji Jl 0, Jp Jn, Ji Jl 0, Jp Jn, Ji Jl 0, Jp Jn, Ji Jl 0, Jp Jn] 41)) (A :=#[N0 Jl 0, Jp Jn, Ji Jl 0, Jp Jn, Ji Jl 0, Jp Jn, Ji Jl 0, Jp Jn, Ji Jl 0, Jp Jn, Ji Jl 0, Jp Jn, Ji Jl 0, Jp Jn, Ji Jl 0, Jp Jn, Ji Jl 0, Jp Jn, Ji Jl 0, Jp Jn, Ji Jl 0, Jp Jn, Ji Jl 0, Jp Jn]) (hd := []) (rs := [Jm, Jm, Jm, Jm, Jm, Jm]) (k :=1) (qs := [0, 0, 0, 0, 0, 0]) rfl ⟨vat0 _, vat0 _, vat0 _, vat0 _, vat0 _, vat0 _, trivial⟩ (fun q hq => by rw[show q =0 by simpa using hq];exact few0) 41
  simp only[World.size_alloc]at Z S;obtain⟨W, hW⟩ : ∃W, (w.alloc (Jc #[N0 Jl 0, Jp Jn, Ji Jl 0, Jp Jn, Ji Jl 0, Jp Jn, Ji Jl 0, Jp Jn, Ji Jl 0, Jp Jn, Ji Jl 0, Jp Jn, Ji Jl 0, Jp Jn, Ji Jl 0, Jp Jn, Ji Jl 0, Jp Jn, Ji Jl 0, Jp Jn, Ji Jl 0, Jp Jn, Ji Jl 0, Jp Jn] 41)).alloc (Jc #[N0 Jl 0, Jp Jn, Ji Jl 0, Jp Jn, Ji Jl 0, Jp Jn, Ji Jl 0, Jp Jn, Ji Jl 0, Jp Jn, Ji Jl 0, Jp Jn, Ji Jl 0, Jp Jn, Ji Jl 0, Jp Jn, Ji Jl 0, Jp Jn, Ji Jl 0, Jp Jn, Ji Jl 0, Jp Jn, Ji Jl 0, Jp Jn] 41) =W :=⟨_, rfl⟩;rw[hW]at k1 Z S;have Hst :=Lib.hid (show Fi W (w.heap.size + 1) [] 1 [0, 0, 0, 0, 0, 0] /\ True /\ Jh W (w.heap.size) [Ji Jl 0, Jp Jn, Ji Jl 0, Jp Jn, Ji Jl 0, Jp Jn, Ji Jl 0, Jp Jn, Ji Jl 0, Jp Jn, Ji Jl 0, Jp Jn, Ji Jl 0, Jp Jn, Ji Jl 0, Jp Jn, Ji Jl 0, Jp Jn, Ji Jl 0, Jp Jn, Ji Jl 0, Jp Jn, Ji Jl 0, Jp Jn] /\ Below w.heap.size w W from⟨S, trivial, Z, k1⟩);have Hg :=Lib.hid hg;clear k0 k1 j1 Z S hg;go_enter Tryz.func29, Tryz.ntmps29;go_wp2_with fail
  try simp only[hW]
  clear hW;go_loopw [8] (fun v wr => ∃(k : Nat) (z : Int), k <= 0 /\ z =(k : Int) /\ v =Ji Jl z /\ (Fi wr (w.heap.size + 1) [] 1 [0, 0, 0, 0, 0, 0] /\ True /\ Jh wr (w.heap.size) [Ji Jl 0, Jp Jn, Ji Jl 0, Jp Jn, Ji Jl 0, Jp Jn, Ji Jl 0, Jp Jn, Ji Jl 0, Jp Jn, Ji Jl 0, Jp Jn, Ji Jl 0, Jp Jn, Ji Jl 0, Jp Jn, Ji Jl 0, Jp Jn, Ji Jl 0, Jp Jn, Ji Jl 0, Jp Jn, Ji Jl 0, Jp Jn] /\ Below w.heap.size w wr)) (fun v _ => 0-(intOf v).toNat)
  case atStart => exact⟨0, 0, by decide, rfl, rfl, Hst.out⟩
  case round =>
    obtain⟨k, z, hk, hzk, rfl, hs, hpv, hz, hb⟩ :=hrel;have Hs :=Lib.hid hs;have Hp :=Lib.hid hpv;have Hz :=Lib.hid hz;have Hb :=Lib.hid hb;clear hs hpv hz hb Hst;obtain rfl : k =0 :=by omega
    obtain rfl : z =0 :=hzk;have HV :=Lib.hid (fun w' (hb : Below wr.heap.size wr w') => show Fi w' (w.heap.size + 1) [] 1 [0, 0, 0, 0, 0, 0]from Hs.out.keep hb);clear Hs Hp;go_upto_region 7 with fail
    refine E8 25 [(24, false, 0)] [] [Fct.num [] 1 [0, 0, 0, 0, 0, 0]] 1 rfl (by kernel_rfl) rfl ⟨?_, trivial⟩
      (fun val => ⟨#[.slice Jn 0 0, undef, Jp (Jo ⟨w.heap.size, 0, Jn⟩), Jp (Jo ⟨w.heap.size + 1, 0, Jn⟩), undef, u5, .slice Jn 0 0, Ji Jl 0, Ji Jl 0, .bool false, u10, u11, u12, u13, u14, u15, u16, u17, u18, u19, u20, u21, u22, u23, val 24], []⟩) (fun val => by kernel_rfl) (fun val v hB hF => ⟨?_⟩)
    · exact E7 HV.out (.env rfl (by kernel_rfl)) rfl rfl rfl (by kernel_rfl) (by kernel_rfl)
    · have hx :=hF 0 _ rfl
      clear hF;refine Fr (n :=24) (Hz.out.keep hB) hx rfl rfl rfl rfl rfl (by kernel_rfl) (by kernel_rfl) (fun v2 hW hV => ?_);have Kf :=hW.below (show w.heap.size <= w.heap.size by omega) (Hb.out.trans (hB.mono Hb.out.size));clear HV Hz Hb hB hx hW;go_wp2_with fail
      exact Fu (n :=24) hV Kf rfl rfl (by kernel_rfl) (by kernel_rfl) rfl
def tsq(a0 a1 a2 a3 a4 a5 b0 b1 b2 b3 b4 b5 : Rat) : Nat -> List Rat
  | 0 => [0, 0, 0, 0, 0, 0]
  | 1 => [0 + a0, 0 + a1, 0 + a2, 0 + a3, 0 + a4, 0 + a5]
  | _ => [(0 + a0) + b0, (0 + a1) + b1, (0 + a2) + b2, (0 + a3) + b3, (0 + a4) + b4, (0 + a5) + b5]
def tsk : Nat -> Nat
  | 0 => 1
  | 1 => 15
  | _ => 29
set_option maxRecDepth 100000 in
set_option maxHeartbeats 16000000 in
theorem Nl{w : JW}{p : Nat}{a0 a1 a2 a3 a4 a5 b0 b1 b2 b3 b4 b5 : Rat}(hV : Fi w p [] 13 [a0, a1, a2, a3, a4, a5, b0, b1, b2, b3, b4, b5])(hg : Good w) :
    Calls Tryz.prog 29 #[.slice (Jo ⟨p, 0, Jn⟩) 2 2] w (Ret w (Fct.num [] 29 [(0 + a0) + b0, (0 + a1) + b1, (0 + a2) + b2, (0 + a3) + b3, (0 + a4) + b4, (0 + a5) + b5])) :=by
  have hp :=hV.lt;have k0 :=(N3 w.heap.size w).alloc (N1 _) (Jc #[N0 Jl 0, Jp Jn, Ji Jl 0, Jp Jn, Ji Jl 0, Jp Jn, Ji Jl 0, Jp Jn, Ji Jl 0, Jp Jn, Ji Jl 0, Jp Jn, Ji Jl 0, Jp Jn, Ji Jl 0, Jp Jn, Ji Jl 0, Jp Jn, Ji Jl 0, Jp Jn, Ji Jl 0, Jp Jn, Ji Jl 0, Jp Jn] 41);have k1 :=k0.alloc (by simp) (Jc #[N0 Jl 0, Jp Jn, Ji Jl 0, Jp Jn, Ji Jl 0, Jp Jn, Ji Jl 0, Jp Jn, Ji Jl 0, Jp Jn, Ji Jl 0, Jp Jn, Ji Jl 0, Jp Jn, Ji Jl 0, Jp Jn, Ji Jl 0, Jp Jn, Ji Jl 0, Jp Jn, Ji Jl 0, Jp Jn, Ji Jl 0, Jp Jn] 41);have j1 :=(N3 (w.alloc (Jc #[N0 Jl 0, Jp Jn, Ji Jl 0, Jp Jn, Ji Jl 0, Jp Jn, Ji Jl 0, Jp Jn, Ji Jl 0, Jp Jn, Ji Jl 0, Jp Jn, Ji Jl 0, Jp Jn, Ji Jl 0, Jp Jn, Ji Jl 0, Jp Jn, Ji Jl 0, Jp Jn, Ji Jl 0, Jp Jn, Ji Jl 0, Jp Jn] 41)).heap.size (w.alloc (Jc #[N0 Jl 0, Jp Jn, Ji Jl 0, Jp Jn, Ji Jl 0, Jp Jn, Ji Jl 0, Jp Jn, Ji Jl 0, Jp Jn, Ji Jl 0, Jp Jn, Ji Jl 0, Jp Jn, Ji Jl 0, Jp Jn, Ji Jl 0, Jp Jn, Ji Jl 0, Jp Jn, Ji Jl 0, Jp Jn, Ji Jl 0, Jp Jn] 41))).alloc (N1 _) (Jc #[N0 Jl 0, Jp Jn, Ji Jl 0, Jp Jn, Ji Jl 0, Jp Jn, Ji Jl 0, Jp Jn, Ji Jl 0, Jp Jn, Ji Jl 0, Jp Jn, Ji Jl 0, Jp Jn, Ji Jl 0, Jp Jn, Ji Jl 0, Jp Jn, Ji Jl 0, Jp Jn, Ji Jl 0, Jp Jn, Ji Jl 0, Jp Jn] 41);have Z :=(Jh.new w #[N0 Jl 0, Jp Jn, Ji Jl 0, Jp Jn, Ji Jl 0, Jp Jn, Ji Jl 0, Jp Jn, Ji Jl 0, Jp Jn, Ji Jl 0, Jp Jn, Ji Jl 0, Jp Jn, Ji Jl 0, Jp Jn, Ji Jl 0, Jp Jn, Ji Jl 0, Jp Jn, Ji Jl 0, Jp Jn, Ji Jl 0, Jp Jn] 41).keep j1;have S :=Fi.box (w :=w.alloc (Jc #[N0 Jl 0, Jp Jn, Ji Jl 0, Jp Jn, Ji Jl 0, Jp Jn, Ji Jl 0, Jp Jn, Ji Jl 0, Jp Jn, Ji Jl 0, Jp Jn, Ji Jl 0, Jp Jn, Ji Jl 0, Jp Jn, Ji Jl 0, Jp Jn, Ji Jl 0, Jp Jn, Ji Jl 0, Jp Jn, Ji Jl 0, Jp Jn] 41)) (A :=#[N0 Jl 0, Jp Jn, Ji Jl 0, Jp Jn, Ji Jl 0, Jp Jn, Ji Jl 0, Jp Jn, Ji Jl 0, Jp Jn, Ji Jl 0, Jp Jn, Ji Jl 0, Jp Jn, Ji Jl 0, Jp Jn, Ji Jl 0, Jp Jn, Ji Jl 0, Jp Jn, Ji Jl 0, Jp Jn, Ji Jl 0, Jp Jn]) (hd := []) (rs := [Jm, Jm, Jm, Jm, Jm, Jm]) (k :=1) (qs := [0, 0, 0, 0, 0, 0]) rfl ⟨vat0 _, vat0 _, vat0 _, vat0 _, vat0 _, vat0 _, trivial⟩ (fun q hq => by rw[show q =0 by simpa using hq];exact few0) 41
  simp only[World.size_alloc]at Z S;replace hV :=hV.keep k1;obtain⟨W, hW⟩ : ∃W, (w.alloc (Jc #[N0 Jl 0, Jp Jn, Ji Jl 0, Jp Jn, Ji Jl 0, Jp Jn, Ji Jl 0, Jp Jn, Ji Jl 0, Jp Jn, Ji Jl 0, Jp Jn, Ji Jl 0, Jp Jn, Ji Jl 0, Jp Jn, Ji Jl 0, Jp Jn, Ji Jl 0, Jp Jn, Ji Jl 0, Jp Jn, Ji Jl 0, Jp Jn] 41)).alloc (Jc #[N0 Jl 0, Jp Jn, Ji Jl 0, Jp Jn, Ji Jl 0, Jp Jn, Ji Jl 0, Jp Jn, Ji Jl 0, Jp Jn, Ji Jl 0, Jp Jn, Ji Jl 0, Jp Jn, Ji Jl 0, Jp Jn, Ji Jl 0, Jp Jn, Ji Jl 0, Jp Jn, Ji Jl 0, Jp Jn, Ji Jl 0, Jp Jn] 41) =W :=⟨_, rfl⟩;rw[hW]at k1 Z S hV;have Hst :=Lib.hid (show Fi W (w.heap.size + 1) [] (tsk 0) (tsq a0 a1 a2 a3 a4 a5 b0 b1 b2 b3 b4 b5 0) /\ Fi W p [] 13 [a0, a1, a2, a3, a4, a5, b0, b1, b2, b3, b4, b5] /\ Jh W (w.heap.size) [Ji Jl 0, Jp Jn, Ji Jl 0, Jp Jn, Ji Jl 0, Jp Jn, Ji Jl 0, Jp Jn, Ji Jl 0, Jp Jn, Ji Jl 0, Jp Jn, Ji Jl 0, Jp Jn, Ji Jl 0, Jp Jn, Ji Jl 0, Jp Jn, Ji Jl 0, Jp Jn, Ji Jl 0, Jp Jn, Ji Jl 0, Jp Jn] /\ Below w.heap.size w W from⟨S, hV, Z, k1⟩);have Hg :=Lib.hid hg;clear k0 k1 j1 Z S hg hV;go_enter Tryz.func29, Tryz.ntmps29;go_wp2_with fail
  try simp only[hW]
  clear hW;go_loopw [8] (fun v wr => ∃(k : Nat) (z : Int), k <= 2 /\ z =(k : Int) /\ v =Ji Jl z /\ (Fi wr (w.heap.size + 1) [] (tsk k) (tsq a0 a1 a2 a3 a4 a5 b0 b1 b2 b3 b4 b5 k) /\ Fi wr p [] 13 [a0, a1, a2, a3, a4, a5, b0, b1, b2, b3, b4, b5] /\ Jh wr (w.heap.size) [Ji Jl 0, Jp Jn, Ji Jl 0, Jp Jn, Ji Jl 0, Jp Jn, Ji Jl 0, Jp Jn, Ji Jl 0, Jp Jn, Ji Jl 0, Jp Jn, Ji Jl 0, Jp Jn, Ji Jl 0, Jp Jn, Ji Jl 0, Jp Jn, Ji Jl 0, Jp Jn, Ji Jl 0, Jp Jn, Ji Jl 0, Jp Jn] /\ Below w.heap.size w wr)) (fun v _ => 2-(intOf v).toNat)
  case atStart => exact⟨0, 0, by decide, rfl, rfl, Hst.out⟩
  case round =>
    obtain⟨k, z, hk, hzk, rfl, hs, hpv, hz, hb⟩ :=hrel;have Hs :=Lib.hid hs;have Hp :=Lib.hid hpv;have Hz :=Lib.hid hz;have Hb :=Lib.hid hb;clear hs hpv hz hb Hst;obtain rfl|rfl|rfl : k =0 \/ k =1 \/ k =2 :=by omega
    · obtain rfl : z =0 :=hzk
      have Vs :=Lib.hid (fun w' (hb : Below wr.heap.size wr w') => show Fi w' (w.heap.size + 1) [] 1 [0, 0, 0, 0, 0, 0]from Hs.out.keep hb);have Vp :=Lib.hid (fun w' (hb : Below wr.heap.size wr w') => Hp.out.keep hb);clear Hs Hp;go_upto_region 4 with fail
      refine E8 25 [(10, false, 0), (11, false, 0), (5, false, 0), (5, true, 2)] [2]
        [Fct.val (Jp (Jo ⟨p, 0, Jn⟩)), Fct.num [] 13 [a0, a1, a2, a3, a4, a5], Fct.ptr 24, Fct.var [] 13 [a0, a1, a2, a3, a4, a5]]
        0 rfl (by kernel_rfl) rfl ⟨?_, ?_, ?_, ?_, trivial⟩
        (fun valA => ⟨#[.slice (Jo ⟨p, 0, Jn⟩) 2 2, undef, Jp (Jo ⟨w.heap.size, 0, Jn⟩), Jp (Jo ⟨w.heap.size + 1, 0, Jn⟩), undef, valA 5, .slice (Jo ⟨p, 0, Jn⟩) 2 2, Ji Jl 2, Ji Jl 0, .bool true, valA 10, valA 11, u12, u13, u14, u15, u16, u17, u18, u19, u20, u21, u22, u23, undef], []⟩) (fun valA => by kernel_rfl) (fun valA v hB hF => ⟨?_⟩)
      · exact Dl (op := .indexAddr 118 (.tmp 6) (.tmp 8)) rfl rfl (fun _ => rfl) (.env rfl (by kernel_rfl)) (.env rfl (by kernel_rfl)) rfl (by kernel_rfl) (fun a w e e2 => by unfold execOp bare;dsimp only;rw[e, e2];go_simp <;> rfl)
      · exact E6 0 6 Vp.out (.dep 0 rfl (by kernel_rfl)) rfl rfl rfl (by kernel_rfl) (by kernel_rfl) (by kernel_rfl)
      · exact Fb [Ji Jl 0, Jp Jn, Ji Jl 0, Jp Jn, Ji Jl 0, Jp Jn, Ji Jl 0, Jp Jn, Ji Jl 0, Jp Jn, Ji Jl 0, Jp Jn, Ji Jl 0, Jp Jn, Ji Jl 0, Jp Jn, Ji Jl 0, Jp Jn, Ji Jl 0, Jp Jn, Ji Jl 0, Jp Jn, Ji Jl 0, Jp Jn] 41 rfl rfl rfl (by kernel_rfl) (by kernel_rfl) (fun a w => by go_simp)
      · exact E9 2 1 rfl rfl rfl rfl rfl (by kernel_rfl) (by kernel_rfl)
      · obtain⟨p5, e5, V5⟩ : (Fct.var [] 13 [a0, a1, a2, a3, a4, a5]).P v (valA 5) :=hF 3 _ rfl
        clear hF;generalize valA 5 =t5 at *
        subst e5;refine Last.nil (by kernel_rfl) ?_;have Hz1 :=Lib.hid (Hz.out.keep hB);have Hb1 :=Lib.hid (Hb.out.trans (hB.mono Hb.out.size));replace Vs :=Lib.hid (fun w' (hb : Below v.heap.size v w') => Vs.out w' (Jd hB hb));replace Vp :=Lib.hid (fun w' (hb : Below v.heap.size v w') => Vp.out w' (Jd hB hb));replace V5 :=Lib.hid (fun w' (hb : Below v.heap.size v w') => V5.keep hb);have G :=Lib.hid (fun w' (hb : Below v.heap.size v w') => Hg.out.below (Hb1.out.trans (hb.mono Hb1.out.size)));clear hB Hz Hb;go_upto_region 5 with fail
        refine Fy 25 [(12, false, 0), (13, false, 0), (14, false, 0), (15, false, 0), (16, false, 0), (17, false, 0), (18, false, 0), (19, false, 0), (20, false, 0), (21, false, 0), (22, false, 0)] []
          [Fct.val (Jp (Jo ⟨w.heap.size + 1, 0, Jn⟩)), Fct.num [] 1 [0, 0, 0], Fct.val (Jp (Jo ⟨p5, 0, Jn⟩)), Fct.num [] 13 [a0, a1, a2], Fct.num [] 15 [0 + a0, 0 + a1, 0 + a2], Fct.val (Jp (Jo ⟨w.heap.size + 1, 12, Jn⟩)), Fct.num [] 1 [0, 0, 0], Fct.val (Jp (Jo ⟨p5, 12, Jn⟩)), Fct.num [] 13 [a3, a4, a5], Fct.num [] 15 [0 + a3, 0 + a4, 0 + a5], Fct.num [] 15 [0 + a0, 0 + a1, 0 + a2, 0 + a3, 0 + a4, 0 + a5]]
          #[true, true, true, true, true, true, true, true, true, true, true, false] 1 rfl (by kernel_rfl) rfl (by kernel_rfl) ⟨?_, ?_, ?_, ?_, ?_, ?_, ?_, ?_, ?_, ?_, ?_, trivial⟩
          (fun valB => ⟨#[.slice (Jo ⟨p, 0, Jn⟩) 2 2, undef, Jp (Jo ⟨w.heap.size, 0, Jn⟩), Jp (Jo ⟨w.heap.size + 1, 0, Jn⟩), undef, Jp (Jo ⟨p5, 0, Jn⟩), .slice (Jo ⟨p, 0, Jn⟩) 2 2, Ji Jl 2, Ji Jl 0, .bool true, valA 10, valA 11, valB 12, valB 13, valB 14, valB 15, valB 16, valB 17, valB 18, valB 19, valB 20, valB 21, valB 22, u23, undef], []⟩) (fun valB => by kernel_rfl) (fun valB v hB hF => ⟨?_⟩)
        · exact E4 rfl rfl (.env rfl (by kernel_rfl)) rfl (by kernel_rfl) (fun w => by go_simp)
        · exact E6 0 3 Vs.out (.dep 0 rfl (by kernel_rfl)) rfl rfl rfl (by kernel_rfl) (by kernel_rfl) (by kernel_rfl)
        · exact E4 rfl rfl (.env rfl (by kernel_rfl)) rfl (by kernel_rfl) (fun w => by go_simp)
        · exact E6 0 3 V5.out (.dep 2 rfl (by kernel_rfl)) rfl rfl rfl (by kernel_rfl) (by kernel_rfl) (by kernel_rfl)
        · exact EZ cf33 rfl rfl rfl rfl rfl (by kernel_rfl) (fun a v hB hE hD => DC (hD 1 _ (by kernel_rfl) rfl) (hD 3 _ (by kernel_rfl) rfl) (by kernel_rfl) (G.out v hB))
        · exact E4 rfl rfl (.env rfl (by kernel_rfl)) rfl (by kernel_rfl) (fun w => by go_simp)
        · exact E6 3 3 Vs.out (.dep 5 rfl (by kernel_rfl)) rfl rfl rfl (by kernel_rfl) (by kernel_rfl) (by kernel_rfl)
        · exact E4 rfl rfl (.env rfl (by kernel_rfl)) rfl (by kernel_rfl) (fun w => by go_simp)
        · exact E6 3 3 V5.out (.dep 7 rfl (by kernel_rfl)) rfl rfl rfl (by kernel_rfl) (by kernel_rfl) (by kernel_rfl)
        · exact EZ cf33 rfl rfl rfl rfl rfl (by kernel_rfl) (fun a v hB hE hD => DC (hD 6 _ (by kernel_rfl) rfl) (hD 8 _ (by kernel_rfl) rfl) (by kernel_rfl) (G.out v hB))
        · exact FD 4 9 rfl rfl rfl rfl rfl Di (by kernel_rfl) rfl (by kernel_rfl)
        · have hx :=hF 10 _ rfl
          clear hF;refine Nf (n :=24) (Vs.out _ hB) hx rfl rfl rfl rfl rfl (by kernel_rfl) (by kernel_rfl) (fun v2 hW hV => ?_);have HS :=Lib.hid (show Fi v2 (w.heap.size + 1) [] (tsk 1) (tsq a0 a1 a2 a3 a4 a5 b0 b1 b2 b3 b4 b5 1)from hV);have HP :=Lib.hid ((Vp.out _ hB).wr hW (show p ≠ w.heap.size + 1 by omega));have HZ :=Lib.hid ((Hz1.out.keep hB).wr hW (show w.heap.size ≠ w.heap.size + 1 by omega));have HB :=Lib.hid (hW.below (show w.heap.size <= w.heap.size + 1 by omega) (Hb1.out.trans (hB.mono Hb1.out.size)));clear hW hV hB hx Hz1 Hb1 V5 Vs Vp G;go_wp2_with fail
          go_roundw;case rel => exact⟨1, 1, by decide, rfl, by go_num, HS.out, HP.out, HZ.out, HB.out⟩
          case measure => simp[intOf]
    · obtain rfl : z =1 :=hzk
      have Vs :=Lib.hid (fun w' (hb : Below wr.heap.size wr w') => show Fi w' (w.heap.size + 1) [] 15 [0 + a0, 0 + a1, 0 + a2, 0 + a3, 0 + a4, 0 + a5]from Hs.out.keep hb);have Vp :=Lib.hid (fun w' (hb : Below wr.heap.size wr w') => Hp.out.keep hb);clear Hs Hp;go_upto_region 4 with fail
      refine E8 25 [(10, false, 0), (11, false, 0), (5, false, 0), (5, true, 2)] [2]
        [Fct.val (Jp (Jo ⟨p, 24, Jn⟩)), Fct.num [] 13 [b0, b1, b2, b3, b4, b5], Fct.ptr 24, Fct.var [] 13 [b0, b1, b2, b3, b4, b5]]
        0 rfl (by kernel_rfl) rfl ⟨?_, ?_, ?_, ?_, trivial⟩
        (fun valA => ⟨#[.slice (Jo ⟨p, 0, Jn⟩) 2 2, undef, Jp (Jo ⟨w.heap.size, 0, Jn⟩), Jp (Jo ⟨w.heap.size + 1, 0, Jn⟩), undef, valA 5, .slice (Jo ⟨p, 0, Jn⟩) 2 2, Ji Jl 2, Ji Jl 1, .bool true, valA 10, valA 11, u12, u13, u14, u15, u16, u17, u18, u19, u20, u21, u22, u23, undef], []⟩) (fun valA => by kernel_rfl) (fun valA v hB hF => ⟨?_⟩)
      · exact Dl (op := .indexAddr 118 (.tmp 6) (.tmp 8)) rfl rfl (fun _ => rfl) (.env rfl (by kernel_rfl)) (.env rfl (by kernel_rfl)) rfl (by kernel_rfl) (fun a w e e2 => by unfold execOp bare;dsimp only;rw[e, e2];go_simp <;> rfl)
      · exact E6 6 6 Vp.out (.dep 0 rfl (by kernel_rfl)) rfl rfl rfl (by kernel_rfl) (by kernel_rfl) (by kernel_rfl)
      · exact Fb [Ji Jl 0, Jp Jn, Ji Jl 0, Jp Jn, Ji Jl 0, Jp Jn, Ji Jl 0, Jp Jn, Ji Jl 0, Jp Jn, Ji Jl 0, Jp Jn, Ji Jl 0, Jp Jn, Ji Jl 0, Jp Jn, Ji Jl 0, Jp Jn, Ji Jl 0, Jp Jn, Ji Jl 0, Jp Jn, Ji Jl 0, Jp Jn] 41 rfl rfl rfl (by kernel_rfl) (by kernel_rfl) (fun a w => by go_simp)
      · exact E9 2 1 rfl rfl rfl rfl rfl (by kernel_rfl) (by kernel_rfl)
      · obtain⟨p5, e5, V5⟩ : (Fct.var [] 13 [b0, b1, b2, b3, b4, b5]).P v (valA 5) :=hF 3 _ rfl
        clear hF;generalize valA 5 =t5 at *
        subst e5;refine Last.nil (by kernel_rfl) ?_;have Hz1 :=Lib.hid (Hz.out.keep hB);have Hb1 :=Lib.hid (Hb.out.trans (hB.mono Hb.out.size));replace Vs :=Lib.hid (fun w' (hb : Below v.heap.size v w') => Vs.out w' (Jd hB hb));replace Vp :=Lib.hid (fun w' (hb : Below v.heap.size v w') => Vp.out w' (Jd hB hb));replace V5 :=Lib.hid (fun w' (hb : Below v.heap.size v w') => V5.keep hb);have G :=Lib.hid (fun w' (hb : Below v.heap.size v w') => Hg.out.below (Hb1.out.trans (hb.mono Hb1.out.size)));clear hB Hz Hb;go_upto_region 5 with fail
        refine Fy 25 [(12, false, 0), (13, false, 0), (14, false, 0), (15, false, 0), (16, false, 0), (17, false, 0), (18, false, 0), (19, false, 0), (20, false, 0), (21, false, 0), (22, false, 0)] []
          [Fct.val (Jp (Jo ⟨w.heap.size + 1, 0, Jn⟩)), Fct.num [] 15 [0 + a0, 0 + a1, 0 + a2], Fct.val (Jp (Jo ⟨p5, 0, Jn⟩)), Fct.num [] 13 [b0, b1, b2], Fct.num [] 29 [(0 + a0) + b0, (0 + a1) + b1, (0 + a2) + b2], Fct.val (Jp (Jo ⟨w.heap.size + 1, 12, Jn⟩)), Fct.num [] 15 [0 + a3, 0 + a4, 0 + a5], Fct.val (Jp (Jo ⟨p5, 12, Jn⟩)), Fct.num [] 13 [b3, b4, b5], Fct.num [] 29 [(0 + a3) + b3, (0 + a4) + b4, (0 + a5) + b5], Fct.num [] 29 [(0 + a0) + b0, (0 + a1) + b1, (0 + a2) + b2, (0 + a3) + b3, (0 + a4) + b4, (0 + a5) + b5]]
          #[true, true, true, true, true, true, true, true, true, true, true, false] 1 rfl (by kernel_rfl) rfl (by kernel_rfl) ⟨?_, ?_, ?_, ?_, ?_, ?_, ?_, ?_, ?_, ?_, ?_, trivial⟩
          (fun valB => ⟨#[.slice (Jo ⟨p, 0, Jn⟩) 2 2, undef, Jp (Jo ⟨w.heap.size, 0, Jn⟩), Jp (Jo ⟨w.heap.size + 1, 0, Jn⟩), undef, Jp (Jo ⟨p5, 0, Jn⟩), .slice (Jo ⟨p, 0, Jn⟩) 2 2, Ji Jl 2, Ji Jl 1, .bool true, valA 10, valA 11, valB 12, valB 13, valB 14, valB 15, valB 16, valB 17, valB 18, valB 19, valB 20, valB 21, valB 22, u23, undef], []⟩) (fun valB => by kernel_rfl) (fun valB v hB hF => ⟨?_⟩)
        · exact E4 rfl rfl (.env rfl (by kernel_rfl)) rfl (by kernel_rfl) (fun w => by go_simp)
        · exact E6 0 3 Vs.out (.dep 0 rfl (by kernel_rfl)) rfl rfl rfl (by kernel_rfl) (by kernel_rfl) (by kernel_rfl)
        · exact E4 rfl rfl (.env rfl (by kernel_rfl)) rfl (by kernel_rfl) (fun w => by go_simp)
        · exact E6 0 3 V5.out (.dep 2 rfl (by kernel_rfl)) rfl rfl rfl (by kernel_rfl) (by kernel_rfl) (by kernel_rfl)
        · exact EZ cf33 rfl rfl rfl rfl rfl (by kernel_rfl) (fun a v hB hE hD => DC (hD 1 _ (by kernel_rfl) rfl) (hD 3 _ (by kernel_rfl) rfl) (by kernel_rfl) (G.out v hB))
        · exact E4 rfl rfl (.env rfl (by kernel_rfl)) rfl (by kernel_rfl) (fun w => by go_simp)
        · exact E6 3 3 Vs.out (.dep 5 rfl (by kernel_rfl)) rfl rfl rfl (by kernel_rfl) (by kernel_rfl) (by kernel_rfl)
        · exact E4 rfl rfl (.env rfl (by kernel_rfl)) rfl (by kernel_rfl) (fun w => by go_simp)
        · exact E6 3 3 V5.out (.dep 7 rfl (by kernel_rfl)) rfl rfl rfl (by kernel_rfl) (by kernel_rfl) (by kernel_rfl)
        · exact EZ cf33 rfl rfl rfl rfl rfl (by kernel_rfl) (fun a v hB hE hD => DC (hD 6 _ (by kernel_rfl) rfl) (hD 8 _ (by kernel_rfl) rfl) (by kernel_rfl) (G.out v hB))
        · exact FD 4 9 rfl rfl rfl rfl rfl Di (by kernel_rfl) rfl (by kernel_rfl)
        · have hx :=hF 10 _ rfl
          clear hF;refine Nf (n :=24) (Vs.out _ hB) hx rfl rfl rfl rfl rfl (by kernel_rfl) (by kernel_rfl) (fun v2 hW hV => ?_);have HS :=Lib.hid (show Fi v2 (w.heap.size + 1) [] (tsk 2) (tsq a0 a1 a2 a3 a4 a5 b0 b1 b2 b3 b4 b5 2)from hV);have HP :=Lib.hid ((Vp.out _ hB).wr hW (show p ≠ w.heap.size + 1 by omega));have HZ :=Lib.hid ((Hz1.out.keep hB).wr hW (show w.heap.size ≠ w.heap.size + 1 by omega));have HB :=Lib.hid (hW.below (show w.heap.size <= w.heap.size + 1 by omega) (Hb1.out.trans (hB.mono Hb1.out.size)));clear hW hV hB hx Hz1 Hb1 V5 Vs Vp G;go_wp2_with fail
          go_roundw;case rel => exact⟨2, 2, by decide, rfl, by go_num, HS.out, HP.out, HZ.out, HB.out⟩
          case measure => simp[intOf]
    · obtain rfl : z =2 :=hzk
      have HV :=Lib.hid (fun w' (hb : Below wr.heap.size wr w') => show Fi w' (w.heap.size + 1) [] 29 [(0 + a0) + b0, (0 + a1) + b1, (0 + a2) + b2, (0 + a3) + b3, (0 + a4) + b4, (0 + a5) + b5]from Hs.out.keep hb);clear Hs Hp;go_upto_region 7 with fail
      refine E8 25 [(24, false, 0)] [] [Fct.num [] 29 [(0 + a0) + b0, (0 + a1) + b1, (0 + a2) + b2, (0 + a3) + b3, (0 + a4) + b4, (0 + a5) + b5]] 1 rfl (by kernel_rfl) rfl ⟨?_, trivial⟩
        (fun val => ⟨#[.slice (Jo ⟨p, 0, Jn⟩) 2 2, undef, Jp (Jo ⟨w.heap.size, 0, Jn⟩), Jp (Jo ⟨w.heap.size + 1, 0, Jn⟩), undef, u5, .slice (Jo ⟨p, 0, Jn⟩) 2 2, Ji Jl 2, Ji Jl 2, .bool false, u10, u11, u12, u13, u14, u15, u16, u17, u18, u19, u20, u21, u22, u23, val 24], []⟩) (fun val => by kernel_rfl) (fun val v hB hF => ⟨?_⟩)
      · exact E7 HV.out (.env rfl (by kernel_rfl)) rfl rfl rfl (by kernel_rfl) (by kernel_rfl)
      · have hx :=hF 0 _ rfl
        clear hF;refine Fr (n :=24) (Hz.out.keep hB) hx rfl rfl rfl rfl rfl (by kernel_rfl) (by kernel_rfl) (fun v2 hW hV => ?_);have Kf :=hW.below (show w.heap.size <= w.heap.size by omega) (Hb.out.trans (hB.mono Hb.out.size));clear HV Hz Hb hB hx hW;go_wp2_with fail
        exact Fu (n :=24) hV Kf rfl rfl (by kernel_rfl) (by kernel_rfl) rfl
