/- The arguments of the laws of layer 17, opened. -/
import Derived.Test.YthhobhjcnmmipaaGreatDoorSTwh
import Derived.Test.YthhobhjcnmmipaaGreatDoorC31
import Derived.Laws.IdiomArrays
namespace Go.Proofs.YthhobhjcnmmipaaGreatDoor
open Go.DataW renaming trod→M0,trod_int→M1
open Go.ChangeShapes Go.WideShapes Go.ChangeAt Go.RowKit
theorem F0 : laidOutB Tryz.prog =true :=by kernel_rfl
theorem LV : Tryz.prog.cellsOf 53 =7 :=by kernel_rfl
theorem LX : Tryz.prog.cellsOf 51 =6 :=by kernel_rfl
theorem Ls : Tryz.prog.cellsOf 50 =1 :=by kernel_rfl
theorem LW : Tryz.prog.cellsOf 5 =1 :=by kernel_rfl
abbrev DJ : List (String × DataW Unit) := [("math/bits.deBruijn32tab", Rows.laid_math_bits_deBruijn32tab), ("math/bits.deBruijn64tab", Rows.laid_math_bits_deBruijn64tab), ("internal/strconv.uint64pow10", Rows.laid_internal_strconv_uint64pow10)]
theorem Lo{W : World}(h : laidMet Tryz.prog DJ W) : Good W :=by
 have h1 :=laidMet.tail h;have h2 :=laidMet.tail h1;rw[EE]at h1;rw[EF]at h2;have t1 :=Lib.tabIs_of_head g64 KY Tryz.underlying219 Tryz.underlying5 Eg Eh h1;have t2 :=Lib.tabIs_of_head gTab KZ Tryz.underlying242 Tryz.underlying154 Kq Ei h2;refine⟨t2, fun j hj => ?_⟩;have :=t1.cell g64 j (by simpa using hj);rw[show Tryz.lays7n29_ren.g 1 =0 from rfl, this]
 congr 2
 simp[List.getD, hj]
section
variable {H : Type} {enc : TypeId × Value -> H} {W : World} {base : Nat} {spare : Nat -> Bool} {held : Bool}
theorem LL{α : Type}{l : List α}(h : l.length =7) : ∃a0 a1 a2 a3 a4 a5 a6, l = [a0, a1, a2, a3, a4, a5, a6] :=by
 match l, h with
 | [a0, a1, a2, a3, a4, a5, a6], _ => exact⟨a0, a1, a2, a3, a4, a5, a6, rfl⟩
theorem Df{n : Int}(h : (Lit.int .i8 n).wf =true) : I8 n :=by
 simp[Lit.wf, IntKind.min, IntKind.max, IntKind.signed, IntKind.bits]at h;exact⟨by omega, by omega⟩
theorem LI{n : Int}(h : (Lit.int .u8 n).wf =true) : 0 <= n /\ n <= 255 :=by
 simp[Lit.wf, IntKind.min, IntKind.max, IntKind.signed, IntKind.bits]at h;omega
theorem DN{P : Program}{c : Nat}{t e : TypeId}{fuel : Nat}{cs : List Value}{x : DataW H × List MemPlace}(ht : P.underlying t =some (.array 6 e))(hce : P.cellsOf e =c)
  (h : M0 enc P W base spare held fuel t cs =some x) :
  ∃y0 y1 y2 y3 y4 y5 n, M0 enc P W base spare held n e (cs.take c) =some y0 /\ M0 enc P W base spare held n e ((cs.drop c).take c) =some y1 /\ M0 enc P W base spare held n e ((cs.drop (2 * c)).take c) =some y2 /\ M0 enc P W base spare held n e ((cs.drop (3 * c)).take c) =some y3 /\ M0 enc P W base spare held n e ((cs.drop (4 * c)).take c) =some y4 /\ M0 enc P W base spare held n e ((cs.drop (5 * c)).take c) =some y5 :=by
 cases fuel with
 | zero => simp[M0]at h
 | succ n =>
  unfold M0 at h;rw[ht]at h;have r3 : List.range 6 = [0, 1, 2, 3, 4, 5] :=rfl;simp[r3, hce]at h;obtain⟨_, h⟩ :=h;cases h0 : M0 enc P W base spare held n e (cs.take c)with
  | none => simp[h0]at h
  | some y0 =>
   cases h1 : M0 enc P W base spare held n e ((cs.drop c).take c)with
   | none => simp[h0, h1]at h
   | some y1 =>
    cases h2 : M0 enc P W base spare held n e ((cs.drop (2 * c)).take c)with
    | none => simp[h0, h1, h2]at h
    | some y2 =>
     cases h3 : M0 enc P W base spare held n e ((cs.drop (3 * c)).take c)with
     | none => simp[h0, h1, h2, h3]at h
     | some y3 =>
      cases h4 : M0 enc P W base spare held n e ((cs.drop (4 * c)).take c)with
      | none => simp[h0, h1, h2, h3, h4]at h
      | some y4 =>
       cases h5 : M0 enc P W base spare held n e ((cs.drop (5 * c)).take c)with
       | none => simp[h0, h1, h2, h3, h4, h5]at h
       | some y5 =>
        exact⟨y0, y1, y2, y3, y4, y5, n, h0, h1, h2, h3, h4, h5⟩
set_option maxRecDepth 100000 in
theorem FT{r : Reach}{b0 : Nat}{v : Value}{d : DataW H}{p : List MemPlace}(hv : Value.okWide Tryz.prog W r b0 53 v)(h : DataW.Trod enc Tryz.prog W base spare held 53 v d p) :
  ∃n0 n1 n2 n3 n4 n5 e : Int, v = .agg #[.int .i8 n0, .int .i8 n1, .int .i8 n2, .int .i8 n3, .int .i8 n4, .int .i8 n5, .int .u8 e] /\ S6 n0 n1 n2 n3 n4 n5 e (e%3) :=by
 obtain⟨cs, rfl, hsz⟩ :=okWide_struct Tryz.underlying53 hv;obtain⟨fuel, hf⟩ :=h;obtain⟨y0, y1, n, _, hl, h0, h1⟩ :=trod_struct2 Tryz.underlying53 hf;rw[LV]at hl;obtain⟨l⟩ :=cs;obtain⟨c0, c1, c2, c3, c4, c5, c6, rfl⟩ :=LL (by simpa[Value.cells]using hl);simp only[LX, LW, Value.cells, List.take_succ_cons, List.take_zero, List.drop_succ_cons, List.drop_zero]at h0 h1;obtain⟨_, _, _, _, _, _, m, g0, g1, g2, g3, g4, g5⟩ :=DN Tryz.underlying51 Ls h0;simp only[List.take_succ_cons, List.take_zero, List.drop_succ_cons, List.drop_zero]at g0 g1 g2 g3 g4 g5;obtain⟨n0, e0, _, w0⟩ :=M1 Tryz.underlying50 g0;obtain⟨n1, e1, _, w1⟩ :=M1 Tryz.underlying50 g1;obtain⟨n2, e2, _, w2⟩ :=M1 Tryz.underlying50 g2;obtain⟨n3, e3, _, w3⟩ :=M1 Tryz.underlying50 g3;obtain⟨n4, e4, _, w4⟩ :=M1 Tryz.underlying50 g4;obtain⟨n5, e5, _, w5⟩ :=M1 Tryz.underlying50 g5;obtain⟨d6, e6, _, w6⟩ :=M1 Tryz.underlying5 h1;simp at e0 e1 e2 e3 e4 e5 e6;subst e0 e1 e2 e3 e4 e5 e6;exact⟨n0, n1, n2, n3, n4, n5, d6, rfl, Df w0, Df w1, Df w2, Df w3, Df w4, Df w5, (LI w6).1, (LI w6).2, rfl⟩
set_option maxRecDepth 100000 in
theorem NG{r : Reach}{b0 : Nat}{v : Value}{d : DataW H}{p : List MemPlace}(hv : Value.okWide Tryz.prog W r b0 50 v)(h : DataW.Trod enc Tryz.prog W base spare held 50 v d p) : ∃k : Int, v = .int .i8 k /\ I8 k :=by
 obtain⟨x, rfl, _, _, wx⟩ :=open_int Tryz.underlying50 hv h;exact⟨x, rfl, Df wx⟩
end
