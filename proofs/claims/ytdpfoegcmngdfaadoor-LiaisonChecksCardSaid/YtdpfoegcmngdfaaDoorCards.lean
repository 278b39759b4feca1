/-
  DERIVED. GIVEN WITH THE SEED: THE CARDS: each row of YtdpfoegcmngdfaaDoorRows.lean that lists a variable, with what it lists TIED to the program's text (the seventh form; the later family's looks); each row that meets fmt, with fmt's text TOLD by the authors' own Lean function (tested against real Go, not proved from fmt's source: count such statements apart). THE CARD IS WHAT COUNTS. Prove the row's statement (the work); the ties are given (YtdpfoegcmngdfaaDoorTie.lean); close each card by the builder's one call (the guide's Derived/Test/ToyasCard.lean, 'card_holds'). Laid BY PROGRAM, IN A SANDBOX (cutbox-door.mjs). By AI agents, Wed Nov 11 2026. No macro, syntax, notation, axiom, sorry.
-/
import Derived.Test.YtdpfoegcmngdfaaDoorRows
import GoSem.ClaimSeven
namespace Go.Proofs.YtdpfoegcmngdfaaDoor
namespace Rows

/-- THE TIED CARD OF 'dowellaw29.LiaisonChecks'. -/
def liaisonChecksCard : Claim7 := { stood := { row := liaisonChecksRow, standIns := [], harness := (true, "58d0be1a9cd721ca9a109425c055d16045ed387a0e2e5cdc62d2153a0dfc244a"), looks := false }, kinds := [], alts := [], laidByText := true, laidKinds := [.data, .data], laidTests := true, laidLooks := .later }
def LiaisonChecksCardSaid : Prop := Claim7.holds Tryd.pinned (.plain (OpenSpec.ofChange liaisonChecksSpec)) liaisonChecksCard

/-- THE TIED CARD OF 'dowellaw29.LiaisonConnects'. -/
def liaisonConnectsCard : Claim7 := { stood := { row := liaisonConnectsRow, standIns := [], harness := (true, "58d0be1a9cd721ca9a109425c055d16045ed387a0e2e5cdc62d2153a0dfc244a"), looks := false }, kinds := [], alts := [], laidByText := true, laidKinds := [.data, .data], laidTests := true, laidLooks := .later }
def LiaisonConnectsCardSaid : Prop := Claim7.holds Tryd.pinned (.plain (OpenSpec.ofChange liaisonConnectsSpec)) liaisonConnectsCard

/-- THE TIED CARD OF 'dowellaw29.LiaisonSubsets'. -/
def liaisonSubsetsCard : Claim7 := { stood := { row := liaisonSubsetsRow, standIns := [], harness := (true, "58d0be1a9cd721ca9a109425c055d16045ed387a0e2e5cdc62d2153a0dfc244a"), looks := false }, kinds := [], alts := [], laidByText := true, laidKinds := [.data, .data], laidTests := true, laidLooks := .later }
def LiaisonSubsetsCardSaid : Prop := Claim7.holds Tryd.pinned (.plain (OpenSpec.ofChange liaisonSubsetsSpec)) liaisonSubsetsCard

/-- THE TIED CARD OF 'dowellaw29.LiaisonCuts'. -/
def liaisonCutsCard : Claim7 := { stood := { row := liaisonCutsRow, standIns := [], harness := (true, "58d0be1a9cd721ca9a109425c055d16045ed387a0e2e5cdc62d2153a0dfc244a"), looks := false }, kinds := [], alts := [], laidByText := true, laidKinds := [.data, .data], laidTests := true, laidLooks := .later }
def LiaisonCutsCardSaid : Prop := Claim7.holds Tryd.pinned (.plain (OpenSpec.ofChange liaisonCutsSpec)) liaisonCutsCard

/-- THE TIED CARD OF 'dowellaw29.LiaisonGroups'. -/
def liaisonGroupsCard : Claim7 := { stood := { row := liaisonGroupsRow, standIns := [], harness := (true, "58d0be1a9cd721ca9a109425c055d16045ed387a0e2e5cdc62d2153a0dfc244a"), looks := false }, kinds := [], alts := [], laidByText := true, laidKinds := [.data, .data], laidTests := true, laidLooks := .later }
def LiaisonGroupsCardSaid : Prop := Claim7.holds Tryd.pinned (.plain (OpenSpec.ofChange liaisonGroupsSpec)) liaisonGroupsCard

/-- THE TIED CARD OF 'dowellaw29.LiaisonLoose'. -/
def liaisonLooseCard : Claim7 := { stood := { row := liaisonLooseRow, standIns := [], harness := (true, "58d0be1a9cd721ca9a109425c055d16045ed387a0e2e5cdc62d2153a0dfc244a"), looks := false }, kinds := [], alts := [], laidByText := true, laidKinds := [.data, .data], laidTests := true, laidLooks := .later }
def LiaisonLooseCardSaid : Prop := Claim7.holds Tryd.pinned (.plain (OpenSpec.ofChange liaisonLooseSpec)) liaisonLooseCard

/-- THE TIED CARD OF 'dowellaw29.LiaisonDivides'. -/
def liaisonDividesCard : Claim7 := { stood := { row := liaisonDividesRow, standIns := [], harness := (true, "58d0be1a9cd721ca9a109425c055d16045ed387a0e2e5cdc62d2153a0dfc244a"), looks := false }, kinds := [], alts := [], laidByText := true, laidKinds := [.data, .data], laidTests := true, laidLooks := .later }
def LiaisonDividesCardSaid : Prop := Claim7.holds Tryd.pinned (.plain (OpenSpec.ofChange liaisonDividesSpec)) liaisonDividesCard

/-- THE SECOND FORM's CARD OF 'dowellaw29.LiaisonChecks'. -/
def liaisonChecksUptoCard : Claim7 := { stood := { row := liaisonChecksUptoRow, standIns := [], harness := (true, "58d0be1a9cd721ca9a109425c055d16045ed387a0e2e5cdc62d2153a0dfc244a"), looks := false }, kinds := [], alts := [], laidByText := true, laidKinds := [.data, .data], laidTests := true, laidLooks := .later }
def LiaisonChecksUptoCardSaid : Prop := Claim7.holds Tryd.pinned (.plain (OpenSpec.upto liaisonChecksSpec)) liaisonChecksUptoCard

/-- THE SECOND FORM's CARD OF 'dowellaw29.LiaisonConnects'. -/
def liaisonConnectsUptoCard : Claim7 := { stood := { row := liaisonConnectsUptoRow, standIns := [], harness := (true, "58d0be1a9cd721ca9a109425c055d16045ed387a0e2e5cdc62d2153a0dfc244a"), looks := false }, kinds := [], alts := [], laidByText := true, laidKinds := [.data, .data], laidTests := true, laidLooks := .later }
def LiaisonConnectsUptoCardSaid : Prop := Claim7.holds Tryd.pinned (.plain (OpenSpec.upto liaisonConnectsSpec)) liaisonConnectsUptoCard

/-- THE SECOND FORM's CARD OF 'dowellaw29.LiaisonSubsets'. -/
def liaisonSubsetsUptoCard : Claim7 := { stood := { row := liaisonSubsetsUptoRow, standIns := [], harness := (true, "58d0be1a9cd721ca9a109425c055d16045ed387a0e2e5cdc62d2153a0dfc244a"), looks := false }, kinds := [], alts := [], laidByText := true, laidKinds := [.data, .data], laidTests := true, laidLooks := .later }
def LiaisonSubsetsUptoCardSaid : Prop := Claim7.holds Tryd.pinned (.plain (OpenSpec.upto liaisonSubsetsSpec)) liaisonSubsetsUptoCard

/-- THE SECOND FORM's CARD OF 'dowellaw29.LiaisonCuts'. -/
def liaisonCutsUptoCard : Claim7 := { stood := { row := liaisonCutsUptoRow, standIns := [], harness := (true, "58d0be1a9cd721ca9a109425c055d16045ed387a0e2e5cdc62d2153a0dfc244a"), looks := false }, kinds := [], alts := [], laidByText := true, laidKinds := [.data, .data], laidTests := true, laidLooks := .later }
def LiaisonCutsUptoCardSaid : Prop := Claim7.holds Tryd.pinned (.plain (OpenSpec.upto liaisonCutsSpec)) liaisonCutsUptoCard

/-- THE SECOND FORM's CARD OF 'dowellaw29.LiaisonGroups'. -/
def liaisonGroupsUptoCard : Claim7 := { stood := { row := liaisonGroupsUptoRow, standIns := [], harness := (true, "58d0be1a9cd721ca9a109425c055d16045ed387a0e2e5cdc62d2153a0dfc244a"), looks := false }, kinds := [], alts := [], laidByText := true, laidKinds := [.data, .data], laidTests := true, laidLooks := .later }
def LiaisonGroupsUptoCardSaid : Prop := Claim7.holds Tryd.pinned (.plain (OpenSpec.upto liaisonGroupsSpec)) liaisonGroupsUptoCard

/-- THE SECOND FORM's CARD OF 'dowellaw29.LiaisonLoose'. -/
def liaisonLooseUptoCard : Claim7 := { stood := { row := liaisonLooseUptoRow, standIns := [], harness := (true, "58d0be1a9cd721ca9a109425c055d16045ed387a0e2e5cdc62d2153a0dfc244a"), looks := false }, kinds := [], alts := [], laidByText := true, laidKinds := [.data, .data], laidTests := true, laidLooks := .later }
def LiaisonLooseUptoCardSaid : Prop := Claim7.holds Tryd.pinned (.plain (OpenSpec.upto liaisonLooseSpec)) liaisonLooseUptoCard

/-- THE SECOND FORM's CARD OF 'dowellaw29.LiaisonDivides'. -/
def liaisonDividesUptoCard : Claim7 := { stood := { row := liaisonDividesUptoRow, standIns := [], harness := (true, "58d0be1a9cd721ca9a109425c055d16045ed387a0e2e5cdc62d2153a0dfc244a"), looks := false }, kinds := [], alts := [], laidByText := true, laidKinds := [.data, .data], laidTests := true, laidLooks := .later }
def LiaisonDividesUptoCardSaid : Prop := Claim7.holds Tryd.pinned (.plain (OpenSpec.upto liaisonDividesSpec)) liaisonDividesUptoCard
end Rows
end Go.Proofs.YtdpfoegcmngdfaaDoor
