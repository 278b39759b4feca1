/-
  DERIVED. GIVEN WITH THE SEED: THE CARDS: each row of YtekhdklbfincpaaGreatDoorRows.lean that lists a variable, with what it lists TIED to the program's text (the seventh form; the later family's looks); each row that meets fmt, with fmt's text TOLD by the authors' own Lean function (tested against real Go, not proved from fmt's source: count such statements apart). THE CARD IS WHAT COUNTS. Prove the row's statement (the work); the ties are given (YtekhdklbfincpaaGreatDoorTie.lean); close each card by the builder's one call (the guide's Derived/Test/ToyasCard.lean, 'card_holds'). Laid BY PROGRAM, IN A SANDBOX (cutbox-door.mjs). By AI agents, Wed Nov 11 2026. No macro, syntax, notation, axiom, sorry.
-/
import Derived.Test.YtekhdklbfincpaaGreatDoorRows
import GoSem.ClaimSeven
namespace Go.Proofs.YtekhdklbfincpaaGreatDoor
namespace Rows

/-- THE TIED CARD OF 'dowellaw03.VectorParses'. -/
def vectorParsesCard : Claim7 := { stood := { row := vectorParsesRow, standIns := [], harness := (true, "588fcd86d70167c65ed7c7a6a2fd1acf918b51308f72238aee2707c49c70be6f"), looks := false }, kinds := [], alts := [], laidByText := true, laidKinds := [.data, .data, .data, .data, .pinned], laidTests := true, laidLooks := .later }
def VectorParsesCardSaid : Prop := Claim7.holds Tryz.pinned (.plain (OpenSpec.ofChange vectorParsesSpec)) vectorParsesCard

/-- THE TIED CARD OF 'dowellaw03.VectorInts'. -/
def vectorIntsCard : Claim7 := { stood := { row := vectorIntsRow, standIns := [], harness := (true, "588fcd86d70167c65ed7c7a6a2fd1acf918b51308f72238aee2707c49c70be6f"), looks := false }, kinds := [], alts := [], laidByText := true, laidKinds := [.data, .data, .data, .data, .pinned], laidTests := true, laidLooks := .later }
def VectorIntsCardSaid : Prop := Claim7.holds Tryz.pinned (.plain (OpenSpec.ofChange vectorIntsSpec)) vectorIntsCard

/-- THE TIED CARD OF 'dowellaw03.VectorSums'. -/
def vectorSumsCard : Claim7 := { stood := { row := vectorSumsRow, standIns := [], harness := (true, "588fcd86d70167c65ed7c7a6a2fd1acf918b51308f72238aee2707c49c70be6f"), looks := false }, kinds := [], alts := [], laidByText := true, laidKinds := [.data, .data, .data, .data, .pinned], laidTests := true, laidLooks := .later }
def VectorSumsCardSaid : Prop := Claim7.holds Tryz.pinned (.plain (OpenSpec.ofChange vectorSumsSpec)) vectorSumsCard

/-- THE TIED CARD OF 'dowellaw03.VectorProducts'. -/
def vectorProductsCard : Claim7 := { stood := { row := vectorProductsRow, standIns := [], harness := (true, "588fcd86d70167c65ed7c7a6a2fd1acf918b51308f72238aee2707c49c70be6f"), looks := false }, kinds := [], alts := [], laidByText := true, laidKinds := [.data, .data, .data, .data, .pinned], laidTests := true, laidLooks := .later }
def VectorProductsCardSaid : Prop := Claim7.holds Tryz.pinned (.plain (OpenSpec.ofChange vectorProductsSpec)) vectorProductsCard

/-- THE TIED CARD OF 'dowellaw03.VectorOrder'. -/
def vectorOrderCard : Claim7 := { stood := { row := vectorOrderRow, standIns := [], harness := (true, "588fcd86d70167c65ed7c7a6a2fd1acf918b51308f72238aee2707c49c70be6f"), looks := false }, kinds := [], alts := [], laidByText := true, laidKinds := [.data, .data, .data, .data, .pinned], laidTests := true, laidLooks := .later }
def VectorOrderCardSaid : Prop := Claim7.holds Tryz.pinned (.plain (OpenSpec.ofChange vectorOrderSpec)) vectorOrderCard

/-- THE TIED CARD OF 'dowellaw03.VectorPrimitive'. -/
def vectorPrimitiveCard : Claim7 := { stood := { row := vectorPrimitiveRow, standIns := [], harness := (true, "588fcd86d70167c65ed7c7a6a2fd1acf918b51308f72238aee2707c49c70be6f"), looks := false }, kinds := [], alts := [], laidByText := true, laidKinds := [.data, .data, .data, .data, .pinned], laidTests := true, laidLooks := .later }
def VectorPrimitiveCardSaid : Prop := Claim7.holds Tryz.pinned (.plain (OpenSpec.ofChange vectorPrimitiveSpec)) vectorPrimitiveCard

/-- THE TIED CARD OF 'dowellaw03.VectorOrients'. -/
def vectorOrientsCard : Claim7 := { stood := { row := vectorOrientsRow, standIns := [], harness := (true, "588fcd86d70167c65ed7c7a6a2fd1acf918b51308f72238aee2707c49c70be6f"), looks := false }, kinds := [], alts := [], laidByText := true, laidKinds := [.data, .data, .data, .data, .pinned], laidTests := true, laidLooks := .later }
def VectorOrientsCardSaid : Prop := Claim7.holds Tryz.pinned (.plain (OpenSpec.ofChange vectorOrientsSpec)) vectorOrientsCard

/-- THE TIED CARD OF 'dowellaw03.VectorLinear'. -/
def vectorLinearCard : Claim7 := { stood := { row := vectorLinearRow, standIns := [], harness := (true, "588fcd86d70167c65ed7c7a6a2fd1acf918b51308f72238aee2707c49c70be6f"), looks := false }, kinds := [], alts := [], laidByText := true, laidKinds := [.data, .data, .data, .data, .pinned], laidTests := true, laidLooks := .later }
def VectorLinearCardSaid : Prop := Claim7.holds Tryz.pinned (.plain (OpenSpec.ofChange vectorLinearSpec)) vectorLinearCard

/-- THE TIED CARD OF 'dowellaw03.VectorPerpendicular'. -/
def vectorPerpendicularCard : Claim7 := { stood := { row := vectorPerpendicularRow, standIns := [], harness := (true, "588fcd86d70167c65ed7c7a6a2fd1acf918b51308f72238aee2707c49c70be6f"), looks := false }, kinds := [], alts := [], laidByText := true, laidKinds := [.data, .data, .data, .data, .pinned], laidTests := true, laidLooks := .later }
def VectorPerpendicularCardSaid : Prop := Claim7.holds Tryz.pinned (.plain (OpenSpec.ofChange vectorPerpendicularSpec)) vectorPerpendicularCard

/-- THE SECOND FORM's CARD OF 'dowellaw03.VectorParses'. -/
def vectorParsesUptoCard : Claim7 := { stood := { row := vectorParsesUptoRow, standIns := [], harness := (true, "588fcd86d70167c65ed7c7a6a2fd1acf918b51308f72238aee2707c49c70be6f"), looks := false }, kinds := [], alts := [], laidByText := true, laidKinds := [.data, .data, .data, .data, .pinned], laidTests := true, laidLooks := .later }
def VectorParsesUptoCardSaid : Prop := Claim7.holds Tryz.pinned (.plain (OpenSpec.upto vectorParsesSpec)) vectorParsesUptoCard

/-- THE SECOND FORM's CARD OF 'dowellaw03.VectorInts'. -/
def vectorIntsUptoCard : Claim7 := { stood := { row := vectorIntsUptoRow, standIns := [], harness := (true, "588fcd86d70167c65ed7c7a6a2fd1acf918b51308f72238aee2707c49c70be6f"), looks := false }, kinds := [], alts := [], laidByText := true, laidKinds := [.data, .data, .data, .data, .pinned], laidTests := true, laidLooks := .later }
def VectorIntsUptoCardSaid : Prop := Claim7.holds Tryz.pinned (.plain (OpenSpec.upto vectorIntsSpec)) vectorIntsUptoCard

/-- THE SECOND FORM's CARD OF 'dowellaw03.VectorSums'. -/
def vectorSumsUptoCard : Claim7 := { stood := { row := vectorSumsUptoRow, standIns := [], harness := (true, "588fcd86d70167c65ed7c7a6a2fd1acf918b51308f72238aee2707c49c70be6f"), looks := false }, kinds := [], alts := [], laidByText := true, laidKinds := [.data, .data, .data, .data, .pinned], laidTests := true, laidLooks := .later }
def VectorSumsUptoCardSaid : Prop := Claim7.holds Tryz.pinned (.plain (OpenSpec.upto vectorSumsSpec)) vectorSumsUptoCard

/-- THE SECOND FORM's CARD OF 'dowellaw03.VectorProducts'. -/
def vectorProductsUptoCard : Claim7 := { stood := { row := vectorProductsUptoRow, standIns := [], harness := (true, "588fcd86d70167c65ed7c7a6a2fd1acf918b51308f72238aee2707c49c70be6f"), looks := false }, kinds := [], alts := [], laidByText := true, laidKinds := [.data, .data, .data, .data, .pinned], laidTests := true, laidLooks := .later }
def VectorProductsUptoCardSaid : Prop := Claim7.holds Tryz.pinned (.plain (OpenSpec.upto vectorProductsSpec)) vectorProductsUptoCard

/-- THE SECOND FORM's CARD OF 'dowellaw03.VectorOrder'. -/
def vectorOrderUptoCard : Claim7 := { stood := { row := vectorOrderUptoRow, standIns := [], harness := (true, "588fcd86d70167c65ed7c7a6a2fd1acf918b51308f72238aee2707c49c70be6f"), looks := false }, kinds := [], alts := [], laidByText := true, laidKinds := [.data, .data, .data, .data, .pinned], laidTests := true, laidLooks := .later }
def VectorOrderUptoCardSaid : Prop := Claim7.holds Tryz.pinned (.plain (OpenSpec.upto vectorOrderSpec)) vectorOrderUptoCard

/-- THE SECOND FORM's CARD OF 'dowellaw03.VectorPrimitive'. -/
def vectorPrimitiveUptoCard : Claim7 := { stood := { row := vectorPrimitiveUptoRow, standIns := [], harness := (true, "588fcd86d70167c65ed7c7a6a2fd1acf918b51308f72238aee2707c49c70be6f"), looks := false }, kinds := [], alts := [], laidByText := true, laidKinds := [.data, .data, .data, .data, .pinned], laidTests := true, laidLooks := .later }
def VectorPrimitiveUptoCardSaid : Prop := Claim7.holds Tryz.pinned (.plain (OpenSpec.upto vectorPrimitiveSpec)) vectorPrimitiveUptoCard

/-- THE SECOND FORM's CARD OF 'dowellaw03.VectorOrients'. -/
def vectorOrientsUptoCard : Claim7 := { stood := { row := vectorOrientsUptoRow, standIns := [], harness := (true, "588fcd86d70167c65ed7c7a6a2fd1acf918b51308f72238aee2707c49c70be6f"), looks := false }, kinds := [], alts := [], laidByText := true, laidKinds := [.data, .data, .data, .data, .pinned], laidTests := true, laidLooks := .later }
def VectorOrientsUptoCardSaid : Prop := Claim7.holds Tryz.pinned (.plain (OpenSpec.upto vectorOrientsSpec)) vectorOrientsUptoCard

/-- THE SECOND FORM's CARD OF 'dowellaw03.VectorLinear'. -/
def vectorLinearUptoCard : Claim7 := { stood := { row := vectorLinearUptoRow, standIns := [], harness := (true, "588fcd86d70167c65ed7c7a6a2fd1acf918b51308f72238aee2707c49c70be6f"), looks := false }, kinds := [], alts := [], laidByText := true, laidKinds := [.data, .data, .data, .data, .pinned], laidTests := true, laidLooks := .later }
def VectorLinearUptoCardSaid : Prop := Claim7.holds Tryz.pinned (.plain (OpenSpec.upto vectorLinearSpec)) vectorLinearUptoCard

/-- THE SECOND FORM's CARD OF 'dowellaw03.VectorPerpendicular'. -/
def vectorPerpendicularUptoCard : Claim7 := { stood := { row := vectorPerpendicularUptoRow, standIns := [], harness := (true, "588fcd86d70167c65ed7c7a6a2fd1acf918b51308f72238aee2707c49c70be6f"), looks := false }, kinds := [], alts := [], laidByText := true, laidKinds := [.data, .data, .data, .data, .pinned], laidTests := true, laidLooks := .later }
def VectorPerpendicularUptoCardSaid : Prop := Claim7.holds Tryz.pinned (.plain (OpenSpec.upto vectorPerpendicularSpec)) vectorPerpendicularUptoCard
end Rows
end Go.Proofs.YtekhdklbfincpaaGreatDoor
