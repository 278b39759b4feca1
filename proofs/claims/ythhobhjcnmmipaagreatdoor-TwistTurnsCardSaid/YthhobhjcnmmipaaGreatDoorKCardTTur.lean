/-
  TwistTurns holds: for every two points and every number, a rotation leaves the points of its axis at rest, and its axis is found again; the axis of every small twist has the velocity of the pitch, and no point of it is nearer to the origin than its Point. No condition beside the row's own (the tables of the standard library start as its text lays them; tied by the card).
-/
import Derived.Test.YthhobhjcnmmipaaGreatDoorKTwo
import Derived.Test.YthhobhjcnmmipaaGreatDoorKLawTTur
namespace Go.Proofs.YthhobhjcnmmipaaGreatDoor.TTur
open Go.ChangeShapes Go.WideShapes Go.ChangeAt Go.RowKit

set_option maxRecDepth 100000 in
theorem of_laid{W : World}(h : laidMetH Tryz.prog Rows.twistTurnsRow.laid W) : laidMet Tryz.prog DJ W :=h
set_option maxRecDepth 100000 in
theorem contract(H : Type)(enc : TypeId × Value -> H)(W : World)(base : Nat)(args : Array Value)(ds gs : List (DataW H))(before : List MemPlace)
    (hval : ∀(j : Nat) t v, Tryz.f10.params[j]? =some t -> args[j]? =some v -> Value.okWide Tryz.prog W .any base t v)
    (hW : DataW.Whole enc Tryz.prog Tryz.f10.params.toList Rows.twistTurnsSpec.vars false W args.toList ds gs before) (hL : laidMetH Tryz.prog Rows.twistTurnsRow.laid W) :
    Calls Tryz.prog 10 args W fun e W' => ∃v, e = .returned v /\ Rows.twistTurnsSpec.post enc Tryz.prog Tryz.f10 false true false false W args v W' :=by
  have hW' :=hW;obtain⟨p, q, hA0, hV, rfl, hfz, hnd⟩ :=hW;have hA : DataW.TrodAll enc Tryz.prog W 0 (fun _ => true) true Tryz.f10.params.toList args.toList ds p :=hA0;rw[Tryz.params10]at hA hval;obtain⟨v0, vs0, dd0, ds0, p0, q0, hargs, rfl, rfl, h0, r0⟩ :=trodAll_cons hA;obtain⟨v1, vs1, dd1, ds1, p1, q1, e1, rfl, rfl, h1, r1⟩ :=trodAll_cons r0;obtain⟨v2, vs2, dd2, ds2, p2, q2, e2, rfl, rfl, h2, r2⟩ :=trodAll_cons r1;obtain⟨rfl, rfl, rfl⟩ :=trodAll_nil r2;obtain rfl : args =#[v0, v1, v2] :=by cases args;simp_all
  obtain⟨rfl, rfl⟩ :=trodVars_none hV;obtain⟨n00, n01, n02, n03, n04, n05, d0, rfl, s0⟩ :=FT (hval 0 53 v0 rfl rfl) h0;obtain⟨n10, n11, n12, n13, n14, n15, rfl, s10, s11, s12, s13, s14, s15⟩ :=Ll (hval 1 62 v1 rfl rfl) h1;obtain⟨k2, rfl, s2⟩ :=NG (hval 2 50 v2 rfl rfl) h2;clear hA0;simp only[List.append_nil]at hW';have hlt0 : ∀x∈p0, x.block < W.heap.size :=fun x hx => by simpa using hW'.lt x (by simp[hx])
  have hlt1 : ∀x∈p1, x.block < W.heap.size :=fun x hx => by simpa using hW'.lt x (by simp[hx])
  have hlt2 : ∀x∈p2, x.block < W.heap.size :=fun x hx => by simpa using hW'.lt x (by simp[hx])
  have walk :=NA (w :=W) s0 s10 s11 s12 s13 s14 s15 s2 (Lo (of_laid hL));refine walk.mono fun e W' ⟨u, he, hb, hu⟩ => ?_;subst he;obtain rfl : u = .bool true :=hu;exact⟨_, rfl, _, _, _, _, _, [], hW', trodAll_cons_mk (shut_bool Tryz.underlying4 _) trodAll_mk0, trodAll_cons_mk (Below.trod F0 (by kernel_rfl) (of_decide_eq_true (by kernel_rfl)) h0 hb hlt0) (trodAll_cons_mk (Below.trod F0 (by kernel_rfl) (of_decide_eq_true (by kernel_rfl)) h1 hb hlt1) (trodAll_cons_mk (Below.trod F0 (by kernel_rfl) (of_decide_eq_true (by kernel_rfl)) h2 hb hlt2) trodAll_mk0)), rfl, hb.frame _, fun h => by cases h⟩

theorem laid_met(os : Os) : laidMet Tryz.prog Rows.twistTurnsRow.laid ((Frame.laidWorld os).forCall (fun _ _ => 0) ⟨#[], #[.agg #[.int .i8 0, .int .i8 0, .int .i8 0, .int .i8 0, .int .i8 0, .int .i8 0, .int .u8 0], .agg #[.int .i8 0, .int .i8 0, .int .i8 0, .int .i8 0, .int .i8 0, .int .i8 0], .int .i8 0], []⟩).memory :=
  laidMet_of_run' 100 (by kernel_rfl) (by kernel_rfl)
theorem reads(os : Os){H : Type}(enc : TypeId × Value -> H) : ∃places, DataW.whole enc Tryz.prog ((Frame.laidWorld os).forCall (fun _ _ => 0) ⟨#[], #[.agg #[.int .i8 0, .int .i8 0, .int .i8 0, .int .i8 0, .int .i8 0, .int .i8 0, .int .u8 0], .agg #[.int .i8 0, .int .i8 0, .int .i8 0, .int .i8 0, .int .i8 0, .int .i8 0], .int .i8 0], []⟩).memory Tryz.f10.params.toList Rows.twistTurnsSpec.vars false #[Value.agg #[.int .i8 0, .int .i8 0, .int .i8 0, .int .i8 0, .int .i8 0, .int .i8 0, .int .u8 0], Value.agg #[.int .i8 0, .int .i8 0, .int .i8 0, .int .i8 0, .int .i8 0, .int .i8 0], Value.int .i8 0].toList 8 =some ([.agg [.agg [.lit (.int .i8 0), .lit (.int .i8 0), .lit (.int .i8 0), .lit (.int .i8 0), .lit (.int .i8 0), .lit (.int .i8 0)], .lit (.int .u8 0)], .agg [.agg [.lit (.int .i8 0), .lit (.int .i8 0), .lit (.int .i8 0)], .agg [.lit (.int .i8 0), .lit (.int .i8 0), .lit (.int .i8 0)]], .lit (.int .i8 0)], [], places) :=
  ⟨[], by kernel_rfl⟩

set_option maxRecDepth 100000 in
theorem lifted(os : Os)(started : os.Started)(H : Type)(enc : TypeId × Value -> H)(F : Stop.Interp) :
    ReturnsInHanded {} Tryz.checked os 10 .any ((OpenSpec.ofChange Rows.twistTurnsSpec).preRow enc Tryz.prog Tryz.f10 Rows.twistTurnsRow.domain false Rows.twistTurnsRow.laid) (((OpenSpec.ofChange Rows.twistTurnsSpec).at F).post enc Tryz.prog Tryz.f10 false true false false) :=by
  obtain⟨places, hx⟩ :=reads os enc;refine returnsInHanded_of_row (C :=Tryz.checked) (s :=OpenSpec.ofChange Rows.twistTurnsSpec) own started (by kernel_rfl) Tryz.func10
    (witness_row_at (enc := enc) (C := Tryz.checked) false (Frame.laidWorld os) #[.agg #[.int .i8 0, .int .i8 0, .int .i8 0, .int .i8 0, .int .i8 0, .int .i8 0, .int .u8 0], .agg #[.int .i8 0, .int .i8 0, .int .i8 0, .int .i8 0, .int .i8 0, .int .i8 0], .int .i8 0] rfl (by kernel_rfl) (by kernel_rfl) (by kernel_rfl)
      (OpenSpec.preRow_of_cond 8 hx (by kernel_rfl) (fun k hk => by cases hk) (by kernel_rfl) (laid_met os))) ?_
  intro W base args ds gs before hval hW _ _ _ hL _ _;exact contract H enc W base args ds gs before hval hW hL

theorem said : Rows.TwistTurnsSaid :=
  OpenClaim.holds_of_cond 10 Tryz.f10 rfl rfl rfl rfl rfl rfl rfl ⟨rfl, rfl, rfl, rfl, rfl⟩ rfl rfl rfl rfl rfl (by kernel_rfl) Tryz.func10 (by kernel_rfl)
    (of_decide_eq_true (by kernel_rfl)) (by unfold Func.isWrapper;first|(rw[if_pos (by decide +kernel)];kernel_rfl)|(rw[if_neg (by decide +kernel)];exact⟨rfl, rfl⟩))
    (fun os started H enc _ F => by rw[OpenClaim.pre_eq_preRow];exact lifted os started H enc F)

theorem plain (f : FuncId) (fn : Func) (hf : Tryz.pinned.checked.prog.funcNamed "dowel/dowellaw17.TwistTurns" = some f) (hfn : Tryz.pinned.checked.prog.funcs[f]? = some fn) :
    false =Tryz.pinned.checked.prog.looks [] /\ ∀(j : Nat) t, fn.params[j]? =some t -> Tryz.pinned.checked.prog.wantsStandIn t =false :=by
  obtain rfl : f = 10 := Option.some.inj ((show Tryz.prog.funcNamed "dowel/dowellaw17.TwistTurns" = some 10 by kernel_rfl).symm.trans hf) |>.symm
  obtain rfl : fn =Tryz.f10 :=(Option.some.inj (Tryz.func10.symm.trans hfn)).symm;refine⟨by kernel_rfl, fun j t ht => ?_⟩;rw[Tryz.params10]at ht;have ht2 :=Array.mem_of_getElem? ht;have ht3 : t =53 \/ t =62 \/ t =50 :=by simpa using ht2
  rcases ht3 with rfl|rfl|rfl
  · exact(show Tryz.prog.wantsStandIn 53 =false by kernel_rfl)
  · exact(show Tryz.prog.wantsStandIn 62 =false by kernel_rfl)
  · exact(show Tryz.prog.wantsStandIn 50 =false by kernel_rfl)

theorem card : Rows.TwistTurnsCardSaid :=
  Claim7.holds_tied_plain_at .later [] _ _ _ _ said (fun _ h => by cases h) (by kernel_rfl) (fun _ h => by cases h) twistTurns_row_tie rfl ⟨rfl, rfl⟩ (by kernel_rfl) rfl plain (by kernel_rfl)
