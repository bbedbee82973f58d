/-
  DERIVED. GIVEN WITH THE SEED: THE CARDS: each row of YtkljajfgdelfgabDoorRows.lean that lists a variable, with what it lists TIED to the program's text (the seventh form; the later family's looks); each row that meets fmt, with fmt's text TOLD by the authors' own Lean function (tested against real Go, not proved from fmt's source: count such statements apart). THE CARD IS WHAT COUNTS. Prove the row's statement (the work); the ties are given (YtkljajfgdelfgabDoorTie.lean); close each card by the builder's one call (the guide's Derived/Test/ToyasCard.lean, 'card_holds'). Laid BY PROGRAM, IN A SANDBOX (cutbox-door.mjs). By AI agents, Wed Nov 11 2026. No macro, syntax, notation, axiom, sorry.
-/
import Derived.Test.YtkljajfgdelfgabDoorRows
import GoSem.ClaimSeven
namespace Go.Proofs.YtkljajfgdelfgabDoor
namespace Rows

/-- THE TIED CARD OF 'deponentlaw10.CompactThree'. -/
def compactThreeCard : Claim7 := { stood := { row := compactThreeRow, standIns := [], harness := (true, "a4c7883291eefbcefbabb31ee2bf579fd08ab7b3ad3a232d272841ac33ddc846"), looks := false }, kinds := [], alts := [], laidByText := true, laidKinds := [.data], laidTests := true, laidLooks := .later }
def CompactThreeCardSaid : Prop := Claim7.holds Tryd.pinned (.plain (OpenSpec.ofChange compactThreeSpec)) compactThreeCard

/-- THE SECOND FORM's CARD OF 'deponentlaw10.CompactThree'. -/
def compactThreeUptoCard : Claim7 := { stood := { row := compactThreeUptoRow, standIns := [], harness := (true, "a4c7883291eefbcefbabb31ee2bf579fd08ab7b3ad3a232d272841ac33ddc846"), looks := false }, kinds := [], alts := [], laidByText := true, laidKinds := [.data], laidTests := true, laidLooks := .later }
def CompactThreeUptoCardSaid : Prop := Claim7.holds Tryd.pinned (.plain (OpenSpec.upto compactThreeSpec)) compactThreeUptoCard
end Rows
end Go.Proofs.YtkljajfgdelfgabDoor
