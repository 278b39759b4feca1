/- Sums of wrenches. -/
import Derived.Test.YthhobhjcnmmipaaGreatDoorSTwi
namespace Go.Proofs.YthhobhjcnmmipaaGreatDoor
open Go.RowKit
theorem Fi.wr{w w' : World}{p q : Nat}{hd : List Value}{k : Nat}{qs : List Rat}(h : Fi w p hd k qs)(hw : Wr q w w')(hq : p ≠ q) : Fi w' p hd k qs :=by
 obtain⟨rs, hc, hr, f⟩ :=h;exact⟨rs, hc.wr hw hq, hr.wr hw, f⟩
theorem Fi.lt{w : World}{p : Nat}{hd : List Value}{k : Nat}{qs : List Rat}(h : Fi w p hd k qs) : p < w.heap.size :=by
 obtain⟨rs, hc, hr, f⟩ :=h;exact hc.lt
section
variable {P : Program} {ops : Array Oper} {Q : Exit -> Act -> World -> Prop}
theorem Nd{i : Nat}{u : Value}{o : Oper}{rest : List Nat}{a : Act}{w w' : World}(ho : ops[i]? =some o)(hg : o.guard =none)(hy : (execOp a.eval o).run P w = .ok (.value u) w')(h : wpOps P ops Q rest (a.put o.dst u) w') : wpOps P ops Q (i :: rest) a w :=by
 rw[wpOps_cons];refine wpOp_step ho fun K hK => ?_;have hw : Region.wanted o (yielded ops a.tmps) =true :=by unfold Region.wanted;rw[hg]
 rw[if_pos hw];unfold Oper.wp;rw[hy];exact hK _ _ h
theorem Ng{i m : Nat}{o : Oper}{T : TypeId}{s s2 : Tmp}{rest : List Nat}{a : Act}{w : World}(p f : Nat)(cs : List Value)(ho : ops[i]? =some o)(hop : o.op = .store T (.tmp s) (.tmp s2))(hg : o.guard =none)(hd : o.dst =none)
  (hs : Act.at_ a s = .pointer (some ⟨p, f, none⟩)) (hv : Act.at_ a s2 = .agg cs.toArray) (hl : cs.length =m) (ht : w.there p f m) (hT : (P.info? T).map (·.size) =some m) (hpc : cs.all plainW =true)
  (h : wpOps P ops Q rest a (w.setCells p f cs)) : wpOps P ops Q (i :: rest) a w :=by
 have hrun :=run_storeAt_mid (P :=P) w p f T cs.toArray (by simpa[hl]using ht) (by simpa[hl]using hT) (all_oneCell_toArray fun v hv => Fo (List.all_eq_true.1 hpc v hv));rw[←hs, ←hv]at hrun;have : (execOp a.eval o).run P w = .ok .skip (w.setCells p f cs) :=by
  unfold execOp;rw[hop];show(do Instr.storeAt T (Act.at_ a s) (Act.at_ a s2);pure Next.skip).run P w =_;rw[Sem.run_bind, hrun];rfl
 exact Dt ho hg hd this h
end
theorem Nn{α : Type}{l : List α}(h : l.length =6) : ∃a0 a1 a2 a3 a4 a5, l = [a0, a1, a2, a3, a4, a5] :=by
 match l, h with
 | [a0, a1, a2, a3, a4, a5], _ => exact⟨a0, a1, a2, a3, a4, a5, rfl⟩
