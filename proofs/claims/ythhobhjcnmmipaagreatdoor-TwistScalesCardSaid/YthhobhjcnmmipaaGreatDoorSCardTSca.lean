/-
 TwistScales holds: for every two small twists and every number, Add, Scale, IsZero and Equal calculate number by number, and Primitive returns the shortest positive multiple of integers. No condition beside the row's own (the tables of the standard library start as its text lays them; tied by the card).
-/
import Derived.Test.YthhobhjcnmmipaaGreatDoorSTOpen
import Derived.Test.YthhobhjcnmmipaaGreatDoorSLawTSca
namespace Go.Proofs.YthhobhjcnmmipaaGreatDoor.TSca
open Go.ChangeShapes Go.WideShapes Go.ChangeAt Go.RowKit
set_option maxRecDepth 100000 in
theorem of_laid{W : World}(h : laidMetH Tryz.prog Rows.twistScalesRow.laid W) : laidMet Tryz.prog DJ W :=h
set_option maxRecDepth 100000 in
theorem contract(H : Type)(enc : TypeId × Value -> H)(W : World)(base : Nat)(args : Array Value)(ds gs : List (DataW H))(before : List MemPlace)
  (hval : ∀(j : Nat) t v, Tryz.f11.params[j]? =some t -> args[j]? =some v -> Value.okWide Tryz.prog W .any base t v)
  (hW : DataW.Whole enc Tryz.prog Tryz.f11.params.toList Rows.twistScalesSpec.vars false W args.toList ds gs before) (hL : laidMetH Tryz.prog Rows.twistScalesRow.laid W) :
  Calls Tryz.prog 11 args W fun e W' => ∃v, e = .returned v /\ Rows.twistScalesSpec.post enc Tryz.prog Tryz.f11 false true false false W args v W' :=by
 have hW' :=hW;obtain⟨p, q, hA0, hV, rfl, hfz, hnd⟩ :=hW;have hA : DataW.TrodAll enc Tryz.prog W 0 (fun _ => true) true Tryz.f11.params.toList args.toList ds p :=hA0;rw[Tryz.params11]at hA hval;obtain⟨v0, vs0, dd0, ds0, p0, q0, hargs, rfl, rfl, h0, r0⟩ :=trodAll_cons hA;obtain⟨v1, vs1, dd1, ds1, p1, q1, e1, rfl, rfl, h1, r1⟩ :=trodAll_cons r0;obtain⟨v2, vs2, dd2, ds2, p2, q2, e2, rfl, rfl, h2, r2⟩ :=trodAll_cons r1;obtain⟨rfl, rfl, rfl⟩ :=trodAll_nil r2;obtain rfl : args =#[v0, v1, v2] :=by cases args;simp_all
 obtain⟨rfl, rfl⟩ :=trodVars_none hV;obtain⟨n00, n01, n02, n03, n04, n05, d0, rfl, s0⟩ :=FT (hval 0 53 v0 rfl rfl) h0;obtain⟨n10, n11, n12, n13, n14, n15, d1, rfl, s1⟩ :=FT (hval 1 53 v1 rfl rfl) h1;obtain⟨k2, rfl, s2⟩ :=NG (hval 2 50 v2 rfl rfl) h2;clear hA0;simp only[List.append_nil]at hW';have hlt0 : ∀x∈p0, x.block < W.heap.size :=fun x hx => by simpa using hW'.lt x (by simp[hx])
 have hlt1 : ∀x∈p1, x.block < W.heap.size :=fun x hx => by simpa using hW'.lt x (by simp[hx])
 have hlt2 : ∀x∈p2, x.block < W.heap.size :=fun x hx => by simpa using hW'.lt x (by simp[hx])
 have walk :=NR (w :=W) s0 s1 s2 (Lo (of_laid hL));refine walk.mono fun e W' ⟨u, he, hb, hu⟩ => ?_;subst he;obtain rfl : u = .bool true :=hu;exact⟨_, rfl, _, _, _, _, _, [], hW', trodAll_cons_mk (shut_bool Tryz.underlying4 _) trodAll_mk0, trodAll_cons_mk (Below.trod F0 (by kernel_rfl) (of_decide_eq_true (by kernel_rfl)) h0 hb hlt0) (trodAll_cons_mk (Below.trod F0 (by kernel_rfl) (of_decide_eq_true (by kernel_rfl)) h1 hb hlt1) (trodAll_cons_mk (Below.trod F0 (by kernel_rfl) (of_decide_eq_true (by kernel_rfl)) h2 hb hlt2) trodAll_mk0)), rfl, hb.frame _, fun h => by cases h⟩
theorem laid_met(os : Os) : laidMet Tryz.prog Rows.twistScalesRow.laid ((Frame.laidWorld os).forCall (fun _ _ => 0) ⟨#[], #[.agg #[.int .i8 0, .int .i8 0, .int .i8 0, .int .i8 0, .int .i8 0, .int .i8 0, .int .u8 0], .agg #[.int .i8 0, .int .i8 0, .int .i8 0, .int .i8 0, .int .i8 0, .int .i8 0, .int .u8 0], .int .i8 0], []⟩).memory :=
 laidMet_of_run' 100 (by kernel_rfl) (by kernel_rfl)
theorem reads(os : Os){H : Type}(enc : TypeId × Value -> H) : ∃places, DataW.whole enc Tryz.prog ((Frame.laidWorld os).forCall (fun _ _ => 0) ⟨#[], #[.agg #[.int .i8 0, .int .i8 0, .int .i8 0, .int .i8 0, .int .i8 0, .int .i8 0, .int .u8 0], .agg #[.int .i8 0, .int .i8 0, .int .i8 0, .int .i8 0, .int .i8 0, .int .i8 0, .int .u8 0], .int .i8 0], []⟩).memory Tryz.f11.params.toList Rows.twistScalesSpec.vars false #[Value.agg #[.int .i8 0, .int .i8 0, .int .i8 0, .int .i8 0, .int .i8 0, .int .i8 0, .int .u8 0], Value.agg #[.int .i8 0, .int .i8 0, .int .i8 0, .int .i8 0, .int .i8 0, .int .i8 0, .int .u8 0], Value.int .i8 0].toList 8 =some ([.agg [.agg [.lit (.int .i8 0), .lit (.int .i8 0), .lit (.int .i8 0), .lit (.int .i8 0), .lit (.int .i8 0), .lit (.int .i8 0)], .lit (.int .u8 0)], .agg [.agg [.lit (.int .i8 0), .lit (.int .i8 0), .lit (.int .i8 0), .lit (.int .i8 0), .lit (.int .i8 0), .lit (.int .i8 0)], .lit (.int .u8 0)], .lit (.int .i8 0)], [], places) :=
 ⟨[], by kernel_rfl⟩
set_option maxRecDepth 100000 in
theorem lifted(os : Os)(started : os.Started)(H : Type)(enc : TypeId × Value -> H)(F : Stop.Interp) :
  ReturnsInHanded {} Tryz.checked os 11 .any ((OpenSpec.ofChange Rows.twistScalesSpec).preRow enc Tryz.prog Tryz.f11 Rows.twistScalesRow.domain false Rows.twistScalesRow.laid) (((OpenSpec.ofChange Rows.twistScalesSpec).at F).post enc Tryz.prog Tryz.f11 false true false false) :=by
 obtain⟨places, hx⟩ :=reads os enc;refine returnsInHanded_of_row (C :=Tryz.checked) (s :=OpenSpec.ofChange Rows.twistScalesSpec) own started (by kernel_rfl) Tryz.func11
  (witness_row_at (enc := enc) (C := Tryz.checked) false (Frame.laidWorld os) #[.agg #[.int .i8 0, .int .i8 0, .int .i8 0, .int .i8 0, .int .i8 0, .int .i8 0, .int .u8 0], .agg #[.int .i8 0, .int .i8 0, .int .i8 0, .int .i8 0, .int .i8 0, .int .i8 0, .int .u8 0], .int .i8 0] rfl (by kernel_rfl) (by kernel_rfl) (by kernel_rfl)
   (OpenSpec.preRow_of_cond 8 hx (by kernel_rfl) (fun k hk => by cases hk) (by kernel_rfl) (laid_met os))) ?_
 intro W base args ds gs before hval hW _ _ _ hL _ _;exact contract H enc W base args ds gs before hval hW hL
theorem said : Rows.TwistScalesSaid :=
 OpenClaim.holds_of_cond 11 Tryz.f11 rfl rfl rfl rfl rfl rfl rfl ⟨rfl, rfl, rfl, rfl, rfl⟩ rfl rfl rfl rfl rfl (by kernel_rfl) Tryz.func11 (by kernel_rfl)
  (of_decide_eq_true (by kernel_rfl)) (by unfold Func.isWrapper;first|(rw[if_pos (by decide +kernel)];kernel_rfl)|(rw[if_neg (by decide +kernel)];exact⟨rfl, rfl⟩))
  (fun os started H enc _ F => by rw[OpenClaim.pre_eq_preRow];exact lifted os started H enc F)
theorem plain (f : FuncId) (fn : Func) (hf : Tryz.pinned.checked.prog.funcNamed "dowel/dowellaw17.TwistScales" = some f) (hfn : Tryz.pinned.checked.prog.funcs[f]? = some fn) :
  false =Tryz.pinned.checked.prog.looks [] /\ ∀(j : Nat) t, fn.params[j]? =some t -> Tryz.pinned.checked.prog.wantsStandIn t =false :=by
 obtain rfl : f = 11 := Option.some.inj ((show Tryz.prog.funcNamed "dowel/dowellaw17.TwistScales" = some 11 by kernel_rfl).symm.trans hf) |>.symm
 obtain rfl : fn =Tryz.f11 :=(Option.some.inj (Tryz.func11.symm.trans hfn)).symm;refine⟨by kernel_rfl, fun j t ht => ?_⟩;rw[Tryz.params11]at ht;have ht2 :=Array.mem_of_getElem? ht;have ht3 : t =53 \/ t =50 :=by simpa using ht2
 rcases ht3 with rfl|rfl
 ·exact(show Tryz.prog.wantsStandIn 53 =false by kernel_rfl)
 ·exact(show Tryz.prog.wantsStandIn 50 =false by kernel_rfl)
theorem card : Rows.TwistScalesCardSaid :=
 Claim7.holds_tied_plain_at .later [] _ _ _ _ said (fun _ h => by cases h) (by kernel_rfl) (fun _ h => by cases h) twistScales_row_tie rfl ⟨rfl, rfl⟩ (by kernel_rfl) rfl plain (by kernel_rfl)
end Go.Proofs.YthhobhjcnmmipaaGreatDoor.TSca
