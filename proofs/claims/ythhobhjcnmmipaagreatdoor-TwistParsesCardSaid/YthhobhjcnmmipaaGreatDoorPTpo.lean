/- Twists. -/
import Derived.Test.YthhobhjcnmmipaaGreatDoorPTwh
import Derived.Test.YthhobhjcnmmipaaGreatDoorC31
import Derived.Laws.IdiomArrays
namespace Go.Proofs.YthhobhjcnmmipaaGreatDoor
open Go.DataW renaming trod→T3
open Go.ChangeShapes Go.WideShapes Go.ChangeAt Go.RowKit
theorem F0 : laidOutB Tryz.prog =true :=by kernel_rfl
abbrev DJ : List (String × DataW Unit) := [("math/bits.deBruijn32tab", Rows.laid_math_bits_deBruijn32tab), ("math/bits.deBruijn64tab", Rows.laid_math_bits_deBruijn64tab), ("internal/strconv.uint64pow10", Rows.laid_internal_strconv_uint64pow10)]
theorem Lo{W : World}(h : laidMet Tryz.prog DJ W) : Good W :=by
 have h1 :=laidMet.tail h;have h2 :=laidMet.tail h1;rw[EE]at h1;rw[EF]at h2;have t1 :=Lib.tabIs_of_head g64 KY Tryz.underlying219 Tryz.underlying5 Eg Eh h1;have t2 :=Lib.tabIs_of_head gTab KZ Tryz.underlying242 Tryz.underlying154 Kq Ei h2;refine⟨t2, fun j hj => ?_⟩;have :=t1.cell g64 j (by simpa using hj);rw[show Tryz.lays7n29_ren.g 1 =0 from rfl, this]
 congr 2
 simp[List.getD, hj]
section
variable {H : Type} {enc : TypeId × Value -> H} {W : World} {base : Nat} {spare : Nat -> Bool} {held : Bool}
theorem LM{α : Type}{l : List α}(h : l.length =6) : ∃a0 a1 a2 a3 a4 a5, l = [a0, a1, a2, a3, a4, a5] :=by
 match l, h with
 | [a0, a1, a2, a3, a4, a5], _ => exact⟨a0, a1, a2, a3, a4, a5, rfl⟩
end
section
variable {H : Type} {enc : TypeId × Value -> H} {W : World} {base : Nat} {spare : Nat -> Bool} {held : Bool}
theorem Tm : Tryz.prog.cellsOf 22 =1 :=by kernel_rfl
theorem Tj : Tryz.prog.cellsOf 24 =6 :=by kernel_rfl
theorem Ta{P : Program}{t e : TypeId}{fuel : Nat}{a0 a1 a2 a3 a4 a5 : Value}{x : DataW H × List MemPlace}(ht : P.underlying t =some (.array 6 e))(hce : P.cellsOf e =1)
  (h : T3 enc P W base spare held fuel t [a0, a1, a2, a3, a4, a5] =some x) :
  ∃y0 y1 y2 y3 y4 y5 n, x.1 = .agg [y0.1, y1.1, y2.1, y3.1, y4.1, y5.1] /\ T3 enc P W base spare held n e [a0] =some y0 /\ T3 enc P W base spare held n e [a1] =some y1 /\ T3 enc P W base spare held n e [a2] =some y2 /\ T3 enc P W base spare held n e [a3] =some y3 /\ T3 enc P W base spare held n e [a4] =some y4 /\ T3 enc P W base spare held n e [a5] =some y5 :=by
 cases fuel with
 | zero => simp[T3]at h
 | succ n =>
  unfold T3 at h;rw[ht]at h;have r3 : List.range 6 = [0, 1, 2, 3, 4, 5] :=rfl;simp[r3, hce]at h;cases h0 : T3 enc P W base spare held n e [a0]with
  | none => simp[h0]at h
  | some y0 =>
   cases h1 : T3 enc P W base spare held n e [a1]with
   | none => simp[h0, h1]at h
   | some y1 =>
    cases h2 : T3 enc P W base spare held n e [a2]with
    | none => simp[h0, h1, h2]at h
    | some y2 =>
     cases h3 : T3 enc P W base spare held n e [a3]with
     | none => simp[h0, h1, h2, h3]at h
     | some y3 =>
      cases h4 : T3 enc P W base spare held n e [a4]with
      | none => simp[h0, h1, h2, h3, h4]at h
      | some y4 =>
       cases h5 : T3 enc P W base spare held n e [a5]with
       | none => simp[h0, h1, h2, h3, h4, h5]at h
       | some y5 =>
        simp[h0, h1, h2, h3, h4, h5]at h;exact⟨y0, y1, y2, y3, y4, y5, n, by rw[←h.2], h0, h1, h2, h3, h4, h5⟩
set_option maxRecDepth 100000 in
theorem Td{r : Reach}{b0 : Nat}{v : Value}{d : DataW H}{p : List MemPlace}(hv : Value.okWide Tryz.prog W r b0 24 v)(h : DataW.Trod enc Tryz.prog W base spare held 24 v d p) :
  ∃s0 s1 s2 s3 s4 s5 : ByteArray, v = .agg #[.string s0, .string s1, .string s2, .string s3, .string s4, .string s5] /\ d = .agg [.lit (Lit.string s0.data.toList), .lit (Lit.string s1.data.toList), .lit (Lit.string s2.data.toList), .lit (Lit.string s3.data.toList), .lit (Lit.string s4.data.toList), .lit (Lit.string s5.data.toList)] :=by
 simp only[Value.okWide, Tryz.underlying24]at hv;obtain⟨cs, rfl, hsz, _⟩ :=hv;rw[Tj]at hsz;obtain⟨l⟩ :=cs;obtain⟨a0, a1, a2, a3, a4, a5, rfl⟩ :=LM (by simpa using hsz);obtain⟨fuel, hf⟩ :=h;obtain⟨y0, y1, y2, y3, y4, y5, m, hx, g0, g1, g2, g3, g4, g5⟩ :=Ta Tryz.underlying24 Tm (by simpa[Value.cells]using hf);obtain⟨s0, e0, u0, _⟩ :=DataW.trod_string Tryz.underlying22 g0;obtain⟨s1, e1, u1, _⟩ :=DataW.trod_string Tryz.underlying22 g1;obtain⟨s2, e2, u2, _⟩ :=DataW.trod_string Tryz.underlying22 g2;obtain⟨s3, e3, u3, _⟩ :=DataW.trod_string Tryz.underlying22 g3;obtain⟨s4, e4, u4, _⟩ :=DataW.trod_string Tryz.underlying22 g4;obtain⟨s5, e5, u5, _⟩ :=DataW.trod_string Tryz.underlying22 g5;simp at e0 e1 e2 e3 e4 e5;subst e0 e1 e2 e3 e4 e5;rw[u0, u1, u2, u3, u4, u5]at hx;exact⟨s0, s1, s2, s3, s4, s5, rfl, hx⟩
theorem R9{s0 s1 s2 s3 s4 s5 : ByteArray}(h : (DataW.weightsEach (H :=H) Tryz.prog [24] [.agg [.lit (Lit.string s0.data.toList), .lit (Lit.string s1.data.toList), .lit (Lit.string s2.data.toList), .lit (Lit.string s3.data.toList), .lit (Lit.string s4.data.toList), .lit (Lit.string s5.data.toList)]]).all (· <= reachBytes) =true) : s0.size <= 1152921504606846976 /\ s1.size <= 1152921504606846976 /\ s2.size <= 1152921504606846976 /\ s3.size <= 1152921504606846976 /\ s4.size <= 1152921504606846976 /\ s5.size <= 1152921504606846976 :=by
 simp[DataW.weightsEach, DataW.weights, DataW.weightsAll, Tryz.underlying24]at h;have hb : reachBytes =140737488351232 :=rfl;rw[hb]at h;exact⟨by omega, by omega, by omega, by omega, by omega, by omega⟩
end
