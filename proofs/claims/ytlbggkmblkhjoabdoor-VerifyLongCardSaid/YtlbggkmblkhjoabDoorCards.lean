/-
  DERIVED. GIVEN WITH THE SEED: THE CARDS: each row of YtlbggkmblkhjoabDoorRows.lean that lists a variable, with what it lists TIED to the program's text (the seventh form; the later family's looks); each row that meets fmt, with fmt's text TOLD by the authors' own Lean function (tested against real Go, not proved from fmt's source: count such statements apart). THE CARD IS WHAT COUNTS. Prove the row's statement (the work); the ties are given (YtlbggkmblkhjoabDoorTie.lean); close each card by the builder's one call (the guide's Derived/Test/ToyasCard.lean, 'card_holds'). Laid BY PROGRAM, IN A SANDBOX (cutbox-door.mjs). By AI agents, Wed Nov 11 2026. No macro, syntax, notation, axiom, sorry.
-/
import Derived.Test.YtlbggkmblkhjoabDoorRows
import GoSem.ClaimSeven
namespace Go.Proofs.YtlbggkmblkhjoabDoor
namespace Rows

/-- THE TIED CARD OF 'deponentlaw9.VerifyAny'. -/
def verifyAnyCard : Claim7 := { stood := { row := verifyAnyRow, standIns := [], harness := (true, "15e555aa94c89496a527109c3655f090b7ebf78258a3888b2f54c3631f3ea2a4"), looks := false }, kinds := [], alts := [], laidByText := true, laidKinds := [.data], laidTests := true, laidLooks := .later }
def VerifyAnyCardSaid : Prop := Claim7.holds Tryd.pinned (.plain (OpenSpec.ofChange verifyAnySpec)) verifyAnyCard

/-- THE TIED CARD OF 'deponentlaw9.VerifyElse'. -/
def verifyElseCard : Claim7 := { stood := { row := verifyElseRow, standIns := [], harness := (true, "15e555aa94c89496a527109c3655f090b7ebf78258a3888b2f54c3631f3ea2a4"), looks := false }, kinds := [], alts := [], laidByText := true, laidKinds := [.data], laidTests := true, laidLooks := .later }
def VerifyElseCardSaid : Prop := Claim7.holds Tryd.pinned (.plain (OpenSpec.ofChange verifyElseSpec)) verifyElseCard

/-- THE TIED CARD OF 'deponentlaw9.VerifyLong'. -/
def verifyLongCard : Claim7 := { stood := { row := verifyLongRow, standIns := [], harness := (true, "15e555aa94c89496a527109c3655f090b7ebf78258a3888b2f54c3631f3ea2a4"), looks := false }, kinds := [], alts := [], laidByText := true, laidKinds := [.data], laidTests := true, laidLooks := .later }
def VerifyLongCardSaid : Prop := Claim7.holds Tryd.pinned (.plain (OpenSpec.ofChange verifyLongSpec)) verifyLongCard

/-- THE SECOND FORM's CARD OF 'deponentlaw9.VerifyAny'. -/
def verifyAnyUptoCard : Claim7 := { stood := { row := verifyAnyUptoRow, standIns := [], harness := (true, "15e555aa94c89496a527109c3655f090b7ebf78258a3888b2f54c3631f3ea2a4"), looks := false }, kinds := [], alts := [], laidByText := true, laidKinds := [.data], laidTests := true, laidLooks := .later }
def VerifyAnyUptoCardSaid : Prop := Claim7.holds Tryd.pinned (.plain (OpenSpec.upto verifyAnySpec)) verifyAnyUptoCard

/-- THE SECOND FORM's CARD OF 'deponentlaw9.VerifyElse'. -/
def verifyElseUptoCard : Claim7 := { stood := { row := verifyElseUptoRow, standIns := [], harness := (true, "15e555aa94c89496a527109c3655f090b7ebf78258a3888b2f54c3631f3ea2a4"), looks := false }, kinds := [], alts := [], laidByText := true, laidKinds := [.data], laidTests := true, laidLooks := .later }
def VerifyElseUptoCardSaid : Prop := Claim7.holds Tryd.pinned (.plain (OpenSpec.upto verifyElseSpec)) verifyElseUptoCard

/-- THE SECOND FORM's CARD OF 'deponentlaw9.VerifyLong'. -/
def verifyLongUptoCard : Claim7 := { stood := { row := verifyLongUptoRow, standIns := [], harness := (true, "15e555aa94c89496a527109c3655f090b7ebf78258a3888b2f54c3631f3ea2a4"), looks := false }, kinds := [], alts := [], laidByText := true, laidKinds := [.data], laidTests := true, laidLooks := .later }
def VerifyLongUptoCardSaid : Prop := Claim7.holds Tryd.pinned (.plain (OpenSpec.upto verifyLongSpec)) verifyLongUptoCard
end Rows
end Go.Proofs.YtlbggkmblkhjoabDoor
