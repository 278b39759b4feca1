/-
  DERIVED. GIVEN WITH THE SEED: THE CARDS: each row of YthocdmlacfejkaaDoorRows.lean that lists a variable, with what it lists TIED to the program's text (the seventh form; the later family's looks); each row that meets fmt, with fmt's text TOLD by the authors' own Lean function (tested against real Go, not proved from fmt's source: count such statements apart). THE CARD IS WHAT COUNTS. Prove the row's statement (the work); the ties are given (YthocdmlacfejkaaDoorTie.lean); close each card by the builder's one call (the guide's Derived/Test/ToyasCard.lean, 'card_holds'). Laid BY PROGRAM, IN A SANDBOX (cutbox-door.mjs). By AI agents, Wed Nov 11 2026. No macro, syntax, notation, axiom, sorry.
-/
import Derived.Test.YthocdmlacfejkaaDoorRows
import GoSem.ClaimSeven
namespace Go.Proofs.YthocdmlacfejkaaDoor
namespace Rows

/-- THE TIED CARD OF 'dowellaw10.GraphMakes'. -/
def graphMakesCard : Claim7 := { stood := { row := graphMakesRow, standIns := [], harness := (true, "c73f84e9aeb634ed78c4a65cb6c725a4b71c57c3baff2a2a99670687b7074621"), looks := false }, kinds := [], alts := [], laidByText := true, laidKinds := [.data], laidTests := true, laidLooks := .later }
def GraphMakesCardSaid : Prop := Claim7.holds Tryd.pinned (.plain (OpenSpec.ofChange graphMakesSpec)) graphMakesCard

/-- THE TIED CARD OF 'dowellaw10.GraphChecks'. -/
def graphChecksCard : Claim7 := { stood := { row := graphChecksRow, standIns := [], harness := (true, "c73f84e9aeb634ed78c4a65cb6c725a4b71c57c3baff2a2a99670687b7074621"), looks := false }, kinds := [], alts := [], laidByText := true, laidKinds := [.data], laidTests := true, laidLooks := .later }
def GraphChecksCardSaid : Prop := Claim7.holds Tryd.pinned (.plain (OpenSpec.ofChange graphChecksSpec)) graphChecksCard

/-- THE TIED CARD OF 'dowellaw10.GraphRefuses'. -/
def graphRefusesCard : Claim7 := { stood := { row := graphRefusesRow, standIns := [], harness := (true, "c73f84e9aeb634ed78c4a65cb6c725a4b71c57c3baff2a2a99670687b7074621"), looks := false }, kinds := [], alts := [], laidByText := true, laidKinds := [.data], laidTests := true, laidLooks := .later }
def GraphRefusesCardSaid : Prop := Claim7.holds Tryd.pinned (.plain (OpenSpec.ofChange graphRefusesSpec)) graphRefusesCard

/-- THE TIED CARD OF 'dowellaw10.GraphReaches'. -/
def graphReachesCard : Claim7 := { stood := { row := graphReachesRow, standIns := [], harness := (true, "c73f84e9aeb634ed78c4a65cb6c725a4b71c57c3baff2a2a99670687b7074621"), looks := false }, kinds := [], alts := [], laidByText := true, laidKinds := [.data], laidTests := true, laidLooks := .later }
def GraphReachesCardSaid : Prop := Claim7.holds Tryd.pinned (.plain (OpenSpec.ofChange graphReachesSpec)) graphReachesCard

/-- THE TIED CARD OF 'dowellaw10.GraphReverses'. -/
def graphReversesCard : Claim7 := { stood := { row := graphReversesRow, standIns := [], harness := (true, "c73f84e9aeb634ed78c4a65cb6c725a4b71c57c3baff2a2a99670687b7074621"), looks := false }, kinds := [], alts := [], laidByText := true, laidKinds := [.data], laidTests := true, laidLooks := .later }
def GraphReversesCardSaid : Prop := Claim7.holds Tryd.pinned (.plain (OpenSpec.ofChange graphReversesSpec)) graphReversesCard

/-- THE TIED CARD OF 'dowellaw10.GraphComponents'. -/
def graphComponentsCard : Claim7 := { stood := { row := graphComponentsRow, standIns := [], harness := (true, "c73f84e9aeb634ed78c4a65cb6c725a4b71c57c3baff2a2a99670687b7074621"), looks := false }, kinds := [], alts := [], laidByText := true, laidKinds := [.data], laidTests := true, laidLooks := .later }
def GraphComponentsCardSaid : Prop := Claim7.holds Tryd.pinned (.plain (OpenSpec.ofChange graphComponentsSpec)) graphComponentsCard

/-- THE TIED CARD OF 'dowellaw10.GraphOrders'. -/
def graphOrdersCard : Claim7 := { stood := { row := graphOrdersRow, standIns := [], harness := (true, "c73f84e9aeb634ed78c4a65cb6c725a4b71c57c3baff2a2a99670687b7074621"), looks := false }, kinds := [], alts := [], laidByText := true, laidKinds := [.data], laidTests := true, laidLooks := .later }
def GraphOrdersCardSaid : Prop := Claim7.holds Tryd.pinned (.plain (OpenSpec.ofChange graphOrdersSpec)) graphOrdersCard

/-- THE TIED CARD OF 'dowellaw10.GraphPaths'. -/
def graphPathsCard : Claim7 := { stood := { row := graphPathsRow, standIns := [], harness := (true, "c73f84e9aeb634ed78c4a65cb6c725a4b71c57c3baff2a2a99670687b7074621"), looks := false }, kinds := [], alts := [], laidByText := true, laidKinds := [.data], laidTests := true, laidLooks := .later }
def GraphPathsCardSaid : Prop := Claim7.holds Tryd.pinned (.plain (OpenSpec.ofChange graphPathsSpec)) graphPathsCard

/-- THE TIED CARD OF 'dowellaw10.GraphMirrors'. -/
def graphMirrorsCard : Claim7 := { stood := { row := graphMirrorsRow, standIns := [], harness := (true, "c73f84e9aeb634ed78c4a65cb6c725a4b71c57c3baff2a2a99670687b7074621"), looks := false }, kinds := [], alts := [], laidByText := true, laidKinds := [.data], laidTests := true, laidLooks := .later }
def GraphMirrorsCardSaid : Prop := Claim7.holds Tryd.pinned (.plain (OpenSpec.ofChange graphMirrorsSpec)) graphMirrorsCard

/-- THE TIED CARD OF 'dowellaw10.GraphLeaves'. -/
def graphLeavesCard : Claim7 := { stood := { row := graphLeavesRow, standIns := [], harness := (true, "c73f84e9aeb634ed78c4a65cb6c725a4b71c57c3baff2a2a99670687b7074621"), looks := false }, kinds := [], alts := [], laidByText := true, laidKinds := [.data], laidTests := true, laidLooks := .later }
def GraphLeavesCardSaid : Prop := Claim7.holds Tryd.pinned (.plain (OpenSpec.ofChange graphLeavesSpec)) graphLeavesCard

/-- THE TIED CARD OF 'dowellaw10.GraphAcyclic'. -/
def graphAcyclicCard : Claim7 := { stood := { row := graphAcyclicRow, standIns := [], harness := (true, "c73f84e9aeb634ed78c4a65cb6c725a4b71c57c3baff2a2a99670687b7074621"), looks := false }, kinds := [], alts := [], laidByText := true, laidKinds := [.data], laidTests := true, laidLooks := .later }
def GraphAcyclicCardSaid : Prop := Claim7.holds Tryd.pinned (.plain (OpenSpec.ofChange graphAcyclicSpec)) graphAcyclicCard

/-- THE SECOND FORM's CARD OF 'dowellaw10.GraphMakes'. -/
def graphMakesUptoCard : Claim7 := { stood := { row := graphMakesUptoRow, standIns := [], harness := (true, "c73f84e9aeb634ed78c4a65cb6c725a4b71c57c3baff2a2a99670687b7074621"), looks := false }, kinds := [], alts := [], laidByText := true, laidKinds := [.data], laidTests := true, laidLooks := .later }
def GraphMakesUptoCardSaid : Prop := Claim7.holds Tryd.pinned (.plain (OpenSpec.upto graphMakesSpec)) graphMakesUptoCard

/-- THE SECOND FORM's CARD OF 'dowellaw10.GraphChecks'. -/
def graphChecksUptoCard : Claim7 := { stood := { row := graphChecksUptoRow, standIns := [], harness := (true, "c73f84e9aeb634ed78c4a65cb6c725a4b71c57c3baff2a2a99670687b7074621"), looks := false }, kinds := [], alts := [], laidByText := true, laidKinds := [.data], laidTests := true, laidLooks := .later }
def GraphChecksUptoCardSaid : Prop := Claim7.holds Tryd.pinned (.plain (OpenSpec.upto graphChecksSpec)) graphChecksUptoCard

/-- THE SECOND FORM's CARD OF 'dowellaw10.GraphRefuses'. -/
def graphRefusesUptoCard : Claim7 := { stood := { row := graphRefusesUptoRow, standIns := [], harness := (true, "c73f84e9aeb634ed78c4a65cb6c725a4b71c57c3baff2a2a99670687b7074621"), looks := false }, kinds := [], alts := [], laidByText := true, laidKinds := [.data], laidTests := true, laidLooks := .later }
def GraphRefusesUptoCardSaid : Prop := Claim7.holds Tryd.pinned (.plain (OpenSpec.upto graphRefusesSpec)) graphRefusesUptoCard

/-- THE SECOND FORM's CARD OF 'dowellaw10.GraphReaches'. -/
def graphReachesUptoCard : Claim7 := { stood := { row := graphReachesUptoRow, standIns := [], harness := (true, "c73f84e9aeb634ed78c4a65cb6c725a4b71c57c3baff2a2a99670687b7074621"), looks := false }, kinds := [], alts := [], laidByText := true, laidKinds := [.data], laidTests := true, laidLooks := .later }
def GraphReachesUptoCardSaid : Prop := Claim7.holds Tryd.pinned (.plain (OpenSpec.upto graphReachesSpec)) graphReachesUptoCard

/-- THE SECOND FORM's CARD OF 'dowellaw10.GraphReverses'. -/
def graphReversesUptoCard : Claim7 := { stood := { row := graphReversesUptoRow, standIns := [], harness := (true, "c73f84e9aeb634ed78c4a65cb6c725a4b71c57c3baff2a2a99670687b7074621"), looks := false }, kinds := [], alts := [], laidByText := true, laidKinds := [.data], laidTests := true, laidLooks := .later }
def GraphReversesUptoCardSaid : Prop := Claim7.holds Tryd.pinned (.plain (OpenSpec.upto graphReversesSpec)) graphReversesUptoCard

/-- THE SECOND FORM's CARD OF 'dowellaw10.GraphComponents'. -/
def graphComponentsUptoCard : Claim7 := { stood := { row := graphComponentsUptoRow, standIns := [], harness := (true, "c73f84e9aeb634ed78c4a65cb6c725a4b71c57c3baff2a2a99670687b7074621"), looks := false }, kinds := [], alts := [], laidByText := true, laidKinds := [.data], laidTests := true, laidLooks := .later }
def GraphComponentsUptoCardSaid : Prop := Claim7.holds Tryd.pinned (.plain (OpenSpec.upto graphComponentsSpec)) graphComponentsUptoCard

/-- THE SECOND FORM's CARD OF 'dowellaw10.GraphOrders'. -/
def graphOrdersUptoCard : Claim7 := { stood := { row := graphOrdersUptoRow, standIns := [], harness := (true, "c73f84e9aeb634ed78c4a65cb6c725a4b71c57c3baff2a2a99670687b7074621"), looks := false }, kinds := [], alts := [], laidByText := true, laidKinds := [.data], laidTests := true, laidLooks := .later }
def GraphOrdersUptoCardSaid : Prop := Claim7.holds Tryd.pinned (.plain (OpenSpec.upto graphOrdersSpec)) graphOrdersUptoCard

/-- THE SECOND FORM's CARD OF 'dowellaw10.GraphPaths'. -/
def graphPathsUptoCard : Claim7 := { stood := { row := graphPathsUptoRow, standIns := [], harness := (true, "c73f84e9aeb634ed78c4a65cb6c725a4b71c57c3baff2a2a99670687b7074621"), looks := false }, kinds := [], alts := [], laidByText := true, laidKinds := [.data], laidTests := true, laidLooks := .later }
def GraphPathsUptoCardSaid : Prop := Claim7.holds Tryd.pinned (.plain (OpenSpec.upto graphPathsSpec)) graphPathsUptoCard

/-- THE SECOND FORM's CARD OF 'dowellaw10.GraphMirrors'. -/
def graphMirrorsUptoCard : Claim7 := { stood := { row := graphMirrorsUptoRow, standIns := [], harness := (true, "c73f84e9aeb634ed78c4a65cb6c725a4b71c57c3baff2a2a99670687b7074621"), looks := false }, kinds := [], alts := [], laidByText := true, laidKinds := [.data], laidTests := true, laidLooks := .later }
def GraphMirrorsUptoCardSaid : Prop := Claim7.holds Tryd.pinned (.plain (OpenSpec.upto graphMirrorsSpec)) graphMirrorsUptoCard

/-- THE SECOND FORM's CARD OF 'dowellaw10.GraphLeaves'. -/
def graphLeavesUptoCard : Claim7 := { stood := { row := graphLeavesUptoRow, standIns := [], harness := (true, "c73f84e9aeb634ed78c4a65cb6c725a4b71c57c3baff2a2a99670687b7074621"), looks := false }, kinds := [], alts := [], laidByText := true, laidKinds := [.data], laidTests := true, laidLooks := .later }
def GraphLeavesUptoCardSaid : Prop := Claim7.holds Tryd.pinned (.plain (OpenSpec.upto graphLeavesSpec)) graphLeavesUptoCard

/-- THE SECOND FORM's CARD OF 'dowellaw10.GraphAcyclic'. -/
def graphAcyclicUptoCard : Claim7 := { stood := { row := graphAcyclicUptoRow, standIns := [], harness := (true, "c73f84e9aeb634ed78c4a65cb6c725a4b71c57c3baff2a2a99670687b7074621"), looks := false }, kinds := [], alts := [], laidByText := true, laidKinds := [.data], laidTests := true, laidLooks := .later }
def GraphAcyclicUptoCardSaid : Prop := Claim7.holds Tryd.pinned (.plain (OpenSpec.upto graphAcyclicSpec)) graphAcyclicUptoCard
end Rows
end Go.Proofs.YthocdmlacfejkaaDoor
