/-
  DERIVED. GIVEN WITH THE SEED: THE CARDS: each row of YtfjkddjdmlnbnaaDoorRows.lean that lists a variable, with what it lists TIED to the program's text (the seventh form; the later family's looks); each row that meets fmt, with fmt's text TOLD by the authors' own Lean function (tested against real Go, not proved from fmt's source: count such statements apart). THE CARD IS WHAT COUNTS. Prove the row's statement (the work); the ties are given (YtfjkddjdmlnbnaaDoorTie.lean); close each card by the builder's one call (the guide's Derived/Test/ToyasCard.lean, 'card_holds'). Laid BY PROGRAM, IN A SANDBOX (cutbox-door.mjs). By AI agents, Wed Nov 11 2026. No macro, syntax, notation, axiom, sorry.
-/
import Derived.Test.YtfjkddjdmlnbnaaDoorRows
import GoSem.ClaimSeven
namespace Go.Proofs.YtfjkddjdmlnbnaaDoor
namespace Rows

/-- THE TIED CARD OF 'deponentlaw4.WalNumbers'. -/
def walNumbersCard : Claim7 := { stood := { row := walNumbersRow, standIns := [], harness := (true, "ab70597e4366c2a0e2afc9d0dafe500c206e58c027a94859123ef8b1d7f8cb07"), looks := false }, kinds := [], alts := [], laidByText := true, laidKinds := [.data, .data, .pinned], laidTests := true, laidLooks := .later }
def WalNumbersCardSaid : Prop := Claim7.holds Tryd.pinned (.plain (OpenSpec.ofChange walNumbersSpec)) walNumbersCard

/-- THE TIED CARD OF 'deponentlaw4.WalKeeps'. -/
def walKeepsCard : Claim7 := { stood := { row := walKeepsRow, standIns := [], harness := (true, "ab70597e4366c2a0e2afc9d0dafe500c206e58c027a94859123ef8b1d7f8cb07"), looks := false }, kinds := [], alts := [], laidByText := true, laidKinds := [.data, .data, .pinned], laidTests := true, laidLooks := .later }
def WalKeepsCardSaid : Prop := Claim7.holds Tryd.pinned (.plain (OpenSpec.ofChange walKeepsSpec)) walKeepsCard

/-- THE TIED CARD OF 'deponentlaw4.WalStops'. -/
def walStopsCard : Claim7 := { stood := { row := walStopsRow, standIns := [], harness := (true, "ab70597e4366c2a0e2afc9d0dafe500c206e58c027a94859123ef8b1d7f8cb07"), looks := false }, kinds := [], alts := [], laidByText := true, laidKinds := [.data, .data, .pinned], laidTests := true, laidLooks := .later }
def WalStopsCardSaid : Prop := Claim7.holds Tryd.pinned (.plain (OpenSpec.ofChange walStopsSpec)) walStopsCard

/-- THE TIED CARD OF 'deponentlaw4.WalTwo'. -/
def walTwoCard : Claim7 := { stood := { row := walTwoRow, standIns := [], harness := (true, "ab70597e4366c2a0e2afc9d0dafe500c206e58c027a94859123ef8b1d7f8cb07"), looks := false }, kinds := [], alts := [], laidByText := true, laidKinds := [.data, .data, .pinned], laidTests := true, laidLooks := .later }
def WalTwoCardSaid : Prop := Claim7.holds Tryd.pinned (.plain (OpenSpec.ofChange walTwoSpec)) walTwoCard

/-- THE TIED CARD OF 'deponentlaw4.WalKept'. -/
def walKeptCard : Claim7 := { stood := { row := walKeptRow, standIns := [], harness := (true, "ab70597e4366c2a0e2afc9d0dafe500c206e58c027a94859123ef8b1d7f8cb07"), looks := false }, kinds := [], alts := [], laidByText := true, laidKinds := [.data, .data, .pinned], laidTests := true, laidLooks := .later }
def WalKeptCardSaid : Prop := Claim7.holds Tryd.pinned (.plain (OpenSpec.ofChange walKeptSpec)) walKeptCard

/-- THE TIED CARD OF 'deponentlaw4.WalFull'. -/
def walFullCard : Claim7 := { stood := { row := walFullRow, standIns := [], harness := (true, "ab70597e4366c2a0e2afc9d0dafe500c206e58c027a94859123ef8b1d7f8cb07"), looks := false }, kinds := [], alts := [], laidByText := true, laidKinds := [.data, .data, .pinned], laidTests := true, laidLooks := .later }
def WalFullCardSaid : Prop := Claim7.holds Tryd.pinned (.plain (OpenSpec.ofChange walFullSpec)) walFullCard

/-- THE SECOND FORM's CARD OF 'deponentlaw4.WalNumbers'. -/
def walNumbersUptoCard : Claim7 := { stood := { row := walNumbersUptoRow, standIns := [], harness := (true, "ab70597e4366c2a0e2afc9d0dafe500c206e58c027a94859123ef8b1d7f8cb07"), looks := false }, kinds := [], alts := [], laidByText := true, laidKinds := [.data, .data, .pinned], laidTests := true, laidLooks := .later }
def WalNumbersUptoCardSaid : Prop := Claim7.holds Tryd.pinned (.plain (OpenSpec.upto walNumbersSpec)) walNumbersUptoCard

/-- THE SECOND FORM's CARD OF 'deponentlaw4.WalKeeps'. -/
def walKeepsUptoCard : Claim7 := { stood := { row := walKeepsUptoRow, standIns := [], harness := (true, "ab70597e4366c2a0e2afc9d0dafe500c206e58c027a94859123ef8b1d7f8cb07"), looks := false }, kinds := [], alts := [], laidByText := true, laidKinds := [.data, .data, .pinned], laidTests := true, laidLooks := .later }
def WalKeepsUptoCardSaid : Prop := Claim7.holds Tryd.pinned (.plain (OpenSpec.upto walKeepsSpec)) walKeepsUptoCard

/-- THE SECOND FORM's CARD OF 'deponentlaw4.WalStops'. -/
def walStopsUptoCard : Claim7 := { stood := { row := walStopsUptoRow, standIns := [], harness := (true, "ab70597e4366c2a0e2afc9d0dafe500c206e58c027a94859123ef8b1d7f8cb07"), looks := false }, kinds := [], alts := [], laidByText := true, laidKinds := [.data, .data, .pinned], laidTests := true, laidLooks := .later }
def WalStopsUptoCardSaid : Prop := Claim7.holds Tryd.pinned (.plain (OpenSpec.upto walStopsSpec)) walStopsUptoCard

/-- THE SECOND FORM's CARD OF 'deponentlaw4.WalTwo'. -/
def walTwoUptoCard : Claim7 := { stood := { row := walTwoUptoRow, standIns := [], harness := (true, "ab70597e4366c2a0e2afc9d0dafe500c206e58c027a94859123ef8b1d7f8cb07"), looks := false }, kinds := [], alts := [], laidByText := true, laidKinds := [.data, .data, .pinned], laidTests := true, laidLooks := .later }
def WalTwoUptoCardSaid : Prop := Claim7.holds Tryd.pinned (.plain (OpenSpec.upto walTwoSpec)) walTwoUptoCard

/-- THE SECOND FORM's CARD OF 'deponentlaw4.WalKept'. -/
def walKeptUptoCard : Claim7 := { stood := { row := walKeptUptoRow, standIns := [], harness := (true, "ab70597e4366c2a0e2afc9d0dafe500c206e58c027a94859123ef8b1d7f8cb07"), looks := false }, kinds := [], alts := [], laidByText := true, laidKinds := [.data, .data, .pinned], laidTests := true, laidLooks := .later }
def WalKeptUptoCardSaid : Prop := Claim7.holds Tryd.pinned (.plain (OpenSpec.upto walKeptSpec)) walKeptUptoCard

/-- THE SECOND FORM's CARD OF 'deponentlaw4.WalFull'. -/
def walFullUptoCard : Claim7 := { stood := { row := walFullUptoRow, standIns := [], harness := (true, "ab70597e4366c2a0e2afc9d0dafe500c206e58c027a94859123ef8b1d7f8cb07"), looks := false }, kinds := [], alts := [], laidByText := true, laidKinds := [.data, .data, .pinned], laidTests := true, laidLooks := .later }
def WalFullUptoCardSaid : Prop := Claim7.holds Tryd.pinned (.plain (OpenSpec.upto walFullSpec)) walFullUptoCard
end Rows
end Go.Proofs.YtfjkddjdmlnbnaaDoor
