/-
  DERIVED. GIVEN WITH THE SEED: THE CARDS: each row of YthhobhjcnmmipaaGreatDoorRows.lean that lists a variable, with what it lists TIED to the program's text (the seventh form; the later family's looks); each row that meets fmt, with fmt's text TOLD by the authors' own Lean function (tested against real Go, not proved from fmt's source: count such statements apart). THE CARD IS WHAT COUNTS. Prove the row's statement (the work); the ties are given (YthhobhjcnmmipaaGreatDoorTie.lean); close each card by the builder's one call (the guide's Derived/Test/ToyasCard.lean, 'card_holds'). Laid BY PROGRAM, IN A SANDBOX (cutbox-door.mjs). By AI agents, Wed Nov 11 2026. No macro, syntax, notation, axiom, sorry.
-/
import Derived.Test.YthhobhjcnmmipaaGreatDoorRows
import GoSem.ClaimSeven
namespace Go.Proofs.YthhobhjcnmmipaaGreatDoor
namespace Rows

/-- THE TIED CARD OF 'dowellaw17.TwistParses'. -/
def twistParsesCard : Claim7 := { stood := { row := twistParsesRow, standIns := [], harness := (true, "7bf79678b834291e707bc7b0255543da0ded40577690b3389bccff14724de8b5"), looks := false }, kinds := [], alts := [], laidByText := true, laidKinds := [.data, .data, .data, .data, .pinned], laidTests := true, laidLooks := .later }
def TwistParsesCardSaid : Prop := Claim7.holds Tryz.pinned (.plain (OpenSpec.ofChange twistParsesSpec)) twistParsesCard

/-- THE TIED CARD OF 'dowellaw17.TwistVelocities'. -/
def twistVelocitiesCard : Claim7 := { stood := { row := twistVelocitiesRow, standIns := [], harness := (true, "7bf79678b834291e707bc7b0255543da0ded40577690b3389bccff14724de8b5"), looks := false }, kinds := [], alts := [], laidByText := true, laidKinds := [.data, .data, .data], laidTests := true, laidLooks := .later }
def TwistVelocitiesCardSaid : Prop := Claim7.holds Tryz.pinned (.plain (OpenSpec.ofChange twistVelocitiesSpec)) twistVelocitiesCard

/-- THE TIED CARD OF 'dowellaw17.TwistPowers'. -/
def twistPowersCard : Claim7 := { stood := { row := twistPowersRow, standIns := [], harness := (true, "7bf79678b834291e707bc7b0255543da0ded40577690b3389bccff14724de8b5"), looks := false }, kinds := [], alts := [], laidByText := true, laidKinds := [.data, .data, .data], laidTests := true, laidLooks := .later }
def TwistPowersCardSaid : Prop := Claim7.holds Tryz.pinned (.plain (OpenSpec.ofChange twistPowersSpec)) twistPowersCard

/-- THE TIED CARD OF 'dowellaw17.TwistRows'. -/
def twistRowsCard : Claim7 := { stood := { row := twistRowsRow, standIns := [], harness := (true, "7bf79678b834291e707bc7b0255543da0ded40577690b3389bccff14724de8b5"), looks := false }, kinds := [], alts := [], laidByText := true, laidKinds := [.data, .data, .data], laidTests := true, laidLooks := .later }
def TwistRowsCardSaid : Prop := Claim7.holds Tryz.pinned (.plain (OpenSpec.ofChange twistRowsSpec)) twistRowsCard

/-- THE TIED CARD OF 'dowellaw17.TwistMoves'. -/
def twistMovesCard : Claim7 := { stood := { row := twistMovesRow, standIns := [], harness := (true, "7bf79678b834291e707bc7b0255543da0ded40577690b3389bccff14724de8b5"), looks := false }, kinds := [], alts := [], laidByText := true, laidKinds := [.data, .data, .data, .data, .pinned], laidTests := true, laidLooks := .later }
def TwistMovesCardSaid : Prop := Claim7.holds Tryz.pinned (.plain (OpenSpec.ofChange twistMovesSpec)) twistMovesCard

/-- THE TIED CARD OF 'dowellaw17.TwistKeeps'. -/
def twistKeepsCard : Claim7 := { stood := { row := twistKeepsRow, standIns := [], harness := (true, "7bf79678b834291e707bc7b0255543da0ded40577690b3389bccff14724de8b5"), looks := false }, kinds := [], alts := [], laidByText := true, laidKinds := [.data, .data, .data, .data, .pinned], laidTests := true, laidLooks := .later }
def TwistKeepsCardSaid : Prop := Claim7.holds Tryz.pinned (.plain (OpenSpec.ofChange twistKeepsSpec)) twistKeepsCard

/-- THE TIED CARD OF 'dowellaw17.TwistAxes'. -/
def twistAxesCard : Claim7 := { stood := { row := twistAxesRow, standIns := [], harness := (true, "7bf79678b834291e707bc7b0255543da0ded40577690b3389bccff14724de8b5"), looks := false }, kinds := [], alts := [], laidByText := true, laidKinds := [.data, .data, .data], laidTests := true, laidLooks := .later }
def TwistAxesCardSaid : Prop := Claim7.holds Tryz.pinned (.plain (OpenSpec.ofChange twistAxesSpec)) twistAxesCard

/-- THE TIED CARD OF 'dowellaw17.TwistTurns'. -/
def twistTurnsCard : Claim7 := { stood := { row := twistTurnsRow, standIns := [], harness := (true, "7bf79678b834291e707bc7b0255543da0ded40577690b3389bccff14724de8b5"), looks := false }, kinds := [], alts := [], laidByText := true, laidKinds := [.data, .data, .data], laidTests := true, laidLooks := .later }
def TwistTurnsCardSaid : Prop := Claim7.holds Tryz.pinned (.plain (OpenSpec.ofChange twistTurnsSpec)) twistTurnsCard

/-- THE TIED CARD OF 'dowellaw17.TwistScales'. -/
def twistScalesCard : Claim7 := { stood := { row := twistScalesRow, standIns := [], harness := (true, "7bf79678b834291e707bc7b0255543da0ded40577690b3389bccff14724de8b5"), looks := false }, kinds := [], alts := [], laidByText := true, laidKinds := [.data, .data, .data], laidTests := true, laidLooks := .later }
def TwistScalesCardSaid : Prop := Claim7.holds Tryz.pinned (.plain (OpenSpec.ofChange twistScalesSpec)) twistScalesCard

/-- THE TIED CARD OF 'dowellaw17.TwistRigid'. -/
def twistRigidCard : Claim7 := { stood := { row := twistRigidRow, standIns := [], harness := (true, "7bf79678b834291e707bc7b0255543da0ded40577690b3389bccff14724de8b5"), looks := false }, kinds := [], alts := [], laidByText := true, laidKinds := [.data, .data, .data], laidTests := true, laidLooks := .later }
def TwistRigidCardSaid : Prop := Claim7.holds Tryz.pinned (.plain (OpenSpec.ofChange twistRigidSpec)) twistRigidCard

/-- THE SECOND FORM's CARD OF 'dowellaw17.TwistParses'. -/
def twistParsesUptoCard : Claim7 := { stood := { row := twistParsesUptoRow, standIns := [], harness := (true, "7bf79678b834291e707bc7b0255543da0ded40577690b3389bccff14724de8b5"), looks := false }, kinds := [], alts := [], laidByText := true, laidKinds := [.data, .data, .data, .data, .pinned], laidTests := true, laidLooks := .later }
def TwistParsesUptoCardSaid : Prop := Claim7.holds Tryz.pinned (.plain (OpenSpec.upto twistParsesSpec)) twistParsesUptoCard

/-- THE SECOND FORM's CARD OF 'dowellaw17.TwistVelocities'. -/
def twistVelocitiesUptoCard : Claim7 := { stood := { row := twistVelocitiesUptoRow, standIns := [], harness := (true, "7bf79678b834291e707bc7b0255543da0ded40577690b3389bccff14724de8b5"), looks := false }, kinds := [], alts := [], laidByText := true, laidKinds := [.data, .data, .data], laidTests := true, laidLooks := .later }
def TwistVelocitiesUptoCardSaid : Prop := Claim7.holds Tryz.pinned (.plain (OpenSpec.upto twistVelocitiesSpec)) twistVelocitiesUptoCard

/-- THE SECOND FORM's CARD OF 'dowellaw17.TwistPowers'. -/
def twistPowersUptoCard : Claim7 := { stood := { row := twistPowersUptoRow, standIns := [], harness := (true, "7bf79678b834291e707bc7b0255543da0ded40577690b3389bccff14724de8b5"), looks := false }, kinds := [], alts := [], laidByText := true, laidKinds := [.data, .data, .data], laidTests := true, laidLooks := .later }
def TwistPowersUptoCardSaid : Prop := Claim7.holds Tryz.pinned (.plain (OpenSpec.upto twistPowersSpec)) twistPowersUptoCard

/-- THE SECOND FORM's CARD OF 'dowellaw17.TwistRows'. -/
def twistRowsUptoCard : Claim7 := { stood := { row := twistRowsUptoRow, standIns := [], harness := (true, "7bf79678b834291e707bc7b0255543da0ded40577690b3389bccff14724de8b5"), looks := false }, kinds := [], alts := [], laidByText := true, laidKinds := [.data, .data, .data], laidTests := true, laidLooks := .later }
def TwistRowsUptoCardSaid : Prop := Claim7.holds Tryz.pinned (.plain (OpenSpec.upto twistRowsSpec)) twistRowsUptoCard

/-- THE SECOND FORM's CARD OF 'dowellaw17.TwistMoves'. -/
def twistMovesUptoCard : Claim7 := { stood := { row := twistMovesUptoRow, standIns := [], harness := (true, "7bf79678b834291e707bc7b0255543da0ded40577690b3389bccff14724de8b5"), looks := false }, kinds := [], alts := [], laidByText := true, laidKinds := [.data, .data, .data, .data, .pinned], laidTests := true, laidLooks := .later }
def TwistMovesUptoCardSaid : Prop := Claim7.holds Tryz.pinned (.plain (OpenSpec.upto twistMovesSpec)) twistMovesUptoCard

/-- THE SECOND FORM's CARD OF 'dowellaw17.TwistKeeps'. -/
def twistKeepsUptoCard : Claim7 := { stood := { row := twistKeepsUptoRow, standIns := [], harness := (true, "7bf79678b834291e707bc7b0255543da0ded40577690b3389bccff14724de8b5"), looks := false }, kinds := [], alts := [], laidByText := true, laidKinds := [.data, .data, .data, .data, .pinned], laidTests := true, laidLooks := .later }
def TwistKeepsUptoCardSaid : Prop := Claim7.holds Tryz.pinned (.plain (OpenSpec.upto twistKeepsSpec)) twistKeepsUptoCard

/-- THE SECOND FORM's CARD OF 'dowellaw17.TwistAxes'. -/
def twistAxesUptoCard : Claim7 := { stood := { row := twistAxesUptoRow, standIns := [], harness := (true, "7bf79678b834291e707bc7b0255543da0ded40577690b3389bccff14724de8b5"), looks := false }, kinds := [], alts := [], laidByText := true, laidKinds := [.data, .data, .data], laidTests := true, laidLooks := .later }
def TwistAxesUptoCardSaid : Prop := Claim7.holds Tryz.pinned (.plain (OpenSpec.upto twistAxesSpec)) twistAxesUptoCard

/-- THE SECOND FORM's CARD OF 'dowellaw17.TwistTurns'. -/
def twistTurnsUptoCard : Claim7 := { stood := { row := twistTurnsUptoRow, standIns := [], harness := (true, "7bf79678b834291e707bc7b0255543da0ded40577690b3389bccff14724de8b5"), looks := false }, kinds := [], alts := [], laidByText := true, laidKinds := [.data, .data, .data], laidTests := true, laidLooks := .later }
def TwistTurnsUptoCardSaid : Prop := Claim7.holds Tryz.pinned (.plain (OpenSpec.upto twistTurnsSpec)) twistTurnsUptoCard

/-- THE SECOND FORM's CARD OF 'dowellaw17.TwistScales'. -/
def twistScalesUptoCard : Claim7 := { stood := { row := twistScalesUptoRow, standIns := [], harness := (true, "7bf79678b834291e707bc7b0255543da0ded40577690b3389bccff14724de8b5"), looks := false }, kinds := [], alts := [], laidByText := true, laidKinds := [.data, .data, .data], laidTests := true, laidLooks := .later }
def TwistScalesUptoCardSaid : Prop := Claim7.holds Tryz.pinned (.plain (OpenSpec.upto twistScalesSpec)) twistScalesUptoCard

/-- THE SECOND FORM's CARD OF 'dowellaw17.TwistRigid'. -/
def twistRigidUptoCard : Claim7 := { stood := { row := twistRigidUptoRow, standIns := [], harness := (true, "7bf79678b834291e707bc7b0255543da0ded40577690b3389bccff14724de8b5"), looks := false }, kinds := [], alts := [], laidByText := true, laidKinds := [.data, .data, .data], laidTests := true, laidLooks := .later }
def TwistRigidUptoCardSaid : Prop := Claim7.holds Tryz.pinned (.plain (OpenSpec.upto twistRigidSpec)) twistRigidUptoCard
end Rows
end Go.Proofs.YthhobhjcnmmipaaGreatDoor
