/-
  TwistParses holds: for every twist with numbers of at most 30 bytes, Parse and ParseWrench return the first error of a number, and otherwise what Numbers leads back to. No condition beside the row's own (the tables of the standard library start as its text lays them; tied by the card).
-/
import Derived.Test.YthhobhjcnmmipaaGreatDoorPTpo
import Derived.Test.YthhobhjcnmmipaaGreatDoorPLawTPar
namespace Go.Proofs.YthhobhjcnmmipaaGreatDoor.TPar
open Go.ChangeShapes Go.WideShapes Go.ChangeAt Go.RowKit

abbrev Tq : List (String × DataW Unit) := [("math/bits.deBruijn32tab", Rows.laid_math_bits_deBruijn32tab), ("math/bits.deBruijn64tab", Rows.laid_math_bits_deBruijn64tab), ("internal/strconv.uint64pow10", Rows.laid_internal_strconv_uint64pow10), ("unicode/utf8.acceptRanges", Rows.laid_unicode_utf8_acceptRanges), ("unicode/utf8.first", Rows.laid_unicode_utf8_first)]
theorem good5{W : World}(h : laidMet Tryz.prog Tq W) : Good W :=by
  have h1 :=laidMet.tail h;have h2 :=laidMet.tail h1;rw[EE]at h1;rw[EF]at h2;have t1 :=Lib.tabIs_of_head g64 KY Tryz.underlying219 Tryz.underlying5 Eg Eh h1;have t2 :=Lib.tabIs_of_head gTab KZ Tryz.underlying242 Tryz.underlying154 Kq Ei h2;refine⟨t2, fun j hj => ?_⟩;have :=t1.cell g64 j (by simpa using hj);rw[show Tryz.lays7n29_ren.g 1 =0 from rfl, this]
  congr 2
  simp[List.getD, hj]
set_option maxRecDepth 100000 in
theorem of_laid{W : World}(h : laidMetH Tryz.prog Rows.twistParsesRow.laid W) : laidMet Tryz.prog Tq W :=h
set_option maxRecDepth 100000 in
theorem contract(H : Type)(enc : TypeId × Value -> H)(W : World)(base : Nat)(args : Array Value)(ds gs : List (DataW H))(before : List MemPlace)
    (hval : ∀(j : Nat) t v, Tryz.f3.params[j]? =some t -> args[j]? =some v -> Value.okWide Tryz.prog W .any base t v)
    (hW : DataW.Whole enc Tryz.prog Tryz.f3.params.toList Rows.twistParsesSpec.vars false W args.toList ds gs before) (hw : (DataW.weightsEach Tryz.prog (Tryz.f3.params.toList ++ (OpenSpec.ofChange Rows.twistParsesSpec).bare.plain.varTypes Tryz.prog) (ds ++ gs)).all (· <= reachBytes) =true) (hL : laidMetH Tryz.prog Rows.twistParsesRow.laid W) :
    Calls Tryz.prog 3 args W fun e W' => ∃v, e = .returned v /\ Rows.twistParsesSpec.post enc Tryz.prog Tryz.f3 false true false false W args v W' :=by
  have hW' :=hW;obtain⟨p, q, hA0, hV, rfl, hfz, hnd⟩ :=hW;have hA : DataW.TrodAll enc Tryz.prog W 0 (fun _ => true) true Tryz.f3.params.toList args.toList ds p :=hA0;rw[Tryz.params3]at hA hval hw;obtain⟨v0, vs0, dd0, ds0, p0, q0, hargs, rfl, rfl, h0, r0⟩ :=trodAll_cons hA;obtain⟨rfl, rfl, rfl⟩ :=trodAll_nil r0;obtain rfl : args =#[v0] :=by cases args;simp_all
  obtain⟨rfl, rfl⟩ :=trodVars_none hV;obtain⟨s00, s01, s02, s03, s04, s05, rfl, rfl⟩ :=Td (hval 0 24 v0 rfl rfl) h0;clear hA0;simp only[List.append_nil]at hW';have hlt0 : ∀x∈p0, x.block < W.heap.size :=fun x hx => by simpa using hW'.lt x (by simp[hx])
  obtain⟨z0, z1, z2, z3, z4, z5⟩ :=R9 (H :=H) (by simpa[show DataSpec.varTypes Tryz.prog (OpenSpec.ofChange Rows.twistParsesSpec).bare.plain = []from rfl]using hw);have walk :=RZ (w :=W) z0 z1 z2 z3 z4 z5 (good5 (of_laid hL));refine walk.mono fun e W' ⟨u, he, hb, hu⟩ => ?_;subst he;obtain rfl : u = .bool true :=hu;exact⟨_, rfl, _, _, _, _, _, [], hW', trodAll_cons_mk (shut_bool Tryz.underlying4 _) trodAll_mk0, trodAll_cons_mk (Below.trod F0 (by kernel_rfl) (of_decide_eq_true (by kernel_rfl)) h0 hb hlt0) trodAll_mk0, rfl, hb.frame _, fun h => by cases h⟩

theorem laid_met(os : Os) : laidMet Tryz.prog Rows.twistParsesRow.laid ((Frame.laidWorld os).forCall (fun _ _ => 0) ⟨#[], #[.agg #[.string ⟨#[]⟩, .string ⟨#[]⟩, .string ⟨#[]⟩, .string ⟨#[]⟩, .string ⟨#[]⟩, .string ⟨#[]⟩]], []⟩).memory :=
  laidMet_of_run' 100 (by kernel_rfl) (by kernel_rfl)
theorem reads(os : Os){H : Type}(enc : TypeId × Value -> H) : ∃places, DataW.whole enc Tryz.prog ((Frame.laidWorld os).forCall (fun _ _ => 0) ⟨#[], #[.agg #[.string ⟨#[]⟩, .string ⟨#[]⟩, .string ⟨#[]⟩, .string ⟨#[]⟩, .string ⟨#[]⟩, .string ⟨#[]⟩]], []⟩).memory Tryz.f3.params.toList Rows.twistParsesSpec.vars false #[Value.agg #[.string ⟨#[]⟩, .string ⟨#[]⟩, .string ⟨#[]⟩, .string ⟨#[]⟩, .string ⟨#[]⟩, .string ⟨#[]⟩]].toList 8 =some ([.agg [.lit (.string []), .lit (.string []), .lit (.string []), .lit (.string []), .lit (.string []), .lit (.string [])]], [], places) :=
  ⟨[], by kernel_rfl⟩

set_option maxRecDepth 100000 in
theorem lifted(os : Os)(started : os.Started)(H : Type)(enc : TypeId × Value -> H)(F : Stop.Interp) :
    ReturnsInHanded {} Tryz.checked os 3 .any ((OpenSpec.ofChange Rows.twistParsesSpec).preRow enc Tryz.prog Tryz.f3 Rows.twistParsesRow.domain false Rows.twistParsesRow.laid) (((OpenSpec.ofChange Rows.twistParsesSpec).at F).post enc Tryz.prog Tryz.f3 false true false false) :=by
  obtain⟨places, hx⟩ :=reads os enc;refine returnsInHanded_of_row (C :=Tryz.checked) (s :=OpenSpec.ofChange Rows.twistParsesSpec) own started (by kernel_rfl) Tryz.func3
    (witness_row_at (enc := enc) (C := Tryz.checked) false (Frame.laidWorld os) #[.agg #[.string ⟨#[]⟩, .string ⟨#[]⟩, .string ⟨#[]⟩, .string ⟨#[]⟩, .string ⟨#[]⟩, .string ⟨#[]⟩]] rfl (by kernel_rfl) (by kernel_rfl) (by kernel_rfl)
      (OpenSpec.preRow_of_cond 8 hx (by kernel_rfl) (fun k hk => by cases hk) (by kernel_rfl) (laid_met os))) ?_
  intro W base args ds gs before hval hW _ _ hw hL _ _;exact contract H enc W base args ds gs before hval hW hw hL

theorem said : Rows.TwistParsesSaid :=
  OpenClaim.holds_of_cond 3 Tryz.f3 rfl rfl rfl rfl rfl rfl rfl ⟨rfl, rfl, rfl, rfl, rfl⟩ rfl rfl rfl rfl rfl (by kernel_rfl) Tryz.func3 (by kernel_rfl)
    (of_decide_eq_true (by kernel_rfl)) (by unfold Func.isWrapper;first|(rw[if_pos (by decide +kernel)];kernel_rfl)|(rw[if_neg (by decide +kernel)];exact⟨rfl, rfl⟩))
    (fun os started H enc _ F => by rw[OpenClaim.pre_eq_preRow];exact lifted os started H enc F)

theorem plain (f : FuncId) (fn : Func) (hf : Tryz.pinned.checked.prog.funcNamed "dowel/dowellaw17.TwistParses" = some f) (hfn : Tryz.pinned.checked.prog.funcs[f]? = some fn) :
    false =Tryz.pinned.checked.prog.looks [] /\ ∀(j : Nat) t, fn.params[j]? =some t -> Tryz.pinned.checked.prog.wantsStandIn t =false :=by
  obtain rfl : f = 3 := Option.some.inj ((show Tryz.prog.funcNamed "dowel/dowellaw17.TwistParses" = some 3 by kernel_rfl).symm.trans hf) |>.symm
  obtain rfl : fn =Tryz.f3 :=(Option.some.inj (Tryz.func3.symm.trans hfn)).symm;refine⟨by kernel_rfl, fun j t ht => ?_⟩;rw[Tryz.params3]at ht;have ht2 :=Array.mem_of_getElem? ht;obtain rfl : t =24 :=by simpa using ht2
  exact(show Tryz.prog.wantsStandIn 24 =false by kernel_rfl)

theorem card : Rows.TwistParsesCardSaid :=
  Claim7.holds_tied_plain_at .later [] _ _ _ _ said (fun _ h => by cases h) (by kernel_rfl) (fun _ h => by cases h) twistParses_row_tie rfl ⟨rfl, rfl⟩ (by kernel_rfl) rfl plain (by kernel_rfl)
