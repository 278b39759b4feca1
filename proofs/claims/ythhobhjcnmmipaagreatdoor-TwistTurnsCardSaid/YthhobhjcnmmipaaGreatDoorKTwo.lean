/- An int8, opened. -/
import Derived.Test.YthhobhjcnmmipaaGreatDoorKTOpen
namespace Go.Proofs.YthhobhjcnmmipaaGreatDoor
open Go.ChangeShapes Go.WideShapes Go.ChangeAt Go.RowKit

section
variable {H : Type} {enc : TypeId × Value -> H} {W : World} {base : Nat} {spare : Nat -> Bool} {held : Bool}
set_option maxRecDepth 100000 in
theorem NG{r : Reach}{b0 : Nat}{v : Value}{d : DataW H}{p : List MemPlace}(hv : Value.okWide Tryz.prog W r b0 50 v)(h : DataW.Trod enc Tryz.prog W base spare held 50 v d p) : ∃k : Int, v = .int .i8 k /\ I8 k :=by
  obtain⟨x, rfl, _, _, wx⟩ :=open_int Tryz.underlying50 hv h;exact⟨x, rfl, Df wx⟩
end
