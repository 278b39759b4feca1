/- Plain mathematics: when the sum of two ints overflows, by its signs. No program. -/
import Derived.Test.YtegndbiglehacaaDoorCmp
import Derived.Laws.BitsAllLaws
namespace Go.Proofs.YtegndbiglehacaaDoor
open Go.RowKit

theorem wrap_bv (x : BitVec 64) : IntKind.i64.wrap (x.toNat : Int) = x.toInt := by
  have := x.isLt
  rw [BitVec.toInt_eq_toNat_cond]
  simp [IntKind.wrap, IntKind.bits, IntKind.signed]
  split <;> omega
theorem bv_int {a : Int} (h : I64 a) : (BitVec.ofInt 64 a).toInt = a := by
  unfold I64 at h
  rw [BitVec.toInt_ofInt]
  unfold Int.bmod
  simp
  omega
theorem bv_msb {a : Int} (h : I64 a) : (BitVec.ofInt 64 a).msb = decide (a < 0) := by
  rw [BitVec.msb_eq_toInt, bv_int h]
theorem xor_at (a b : Int) : bits .xor .i64 a b = (BitVec.ofInt 64 a ^^^ BitVec.ofInt 64 b).toInt := by
  show IntKind.i64.wrap ((BitVec.ofInt 64 a ^^^ BitVec.ofInt 64 b).toNat : Int) = _
  exact wrap_bv _
theorem and_at (a b : Int) : bits .and .i64 a b = (BitVec.ofInt 64 a &&& BitVec.ofInt 64 b).toInt := by
  show IntKind.i64.wrap ((BitVec.ofInt 64 a &&& BitVec.ofInt 64 b).toNat : Int) = _
  exact wrap_bv _
/-- The sign of the test of Add. -/
theorem add_signs {a b s : Int} (ha : I64 a) (hb : I64 b) (hs : I64 s) : decide (bits .and .i64 (bits .xor .i64 a s) (bits .xor .i64 b s) < 0) = ((decide (a < 0) ^^ decide (s < 0)) && (decide (b < 0) ^^ decide (s < 0))) := by
  rw [xor_at, xor_at, and_at, BitVec.ofInt_toInt, BitVec.ofInt_toInt, ← BitVec.msb_eq_toInt, BitVec.msb_and, BitVec.msb_xor, BitVec.msb_xor, bv_msb ha, bv_msb hb, bv_msb hs]
end Go.Proofs.YtegndbiglehacaaDoor
