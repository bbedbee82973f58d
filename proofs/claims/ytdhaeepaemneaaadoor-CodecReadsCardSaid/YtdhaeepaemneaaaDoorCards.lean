/-
  DERIVED. GIVEN WITH THE SEED: THE CARDS: each row of YtdhaeepaemneaaaDoorRows.lean that lists a variable, with what it lists TIED to the program's text (the seventh form; the later family's looks); each row that meets fmt, with fmt's text TOLD by the authors' own Lean function (tested against real Go, not proved from fmt's source: count such statements apart). THE CARD IS WHAT COUNTS. Prove the row's statement (the work); the ties are given (YtdhaeepaemneaaaDoorTie.lean); close each card by the builder's one call (the guide's Derived/Test/ToyasCard.lean, 'card_holds'). Laid BY PROGRAM, IN A SANDBOX (cutbox-door.mjs). By AI agents, Wed Nov 11 2026. No macro, syntax, notation, axiom, sorry.
-/
import Derived.Test.YtdhaeepaemneaaaDoorRows
import GoSem.ClaimSeven
namespace Go.Proofs.YtdhaeepaemneaaaDoor
namespace Rows

/-- THE TIED CARD OF 'deponentlaw2.CodecNumbers'. -/
def codecNumbersCard : Claim7 := { stood := { row := codecNumbersRow, standIns := [], harness := (true, "b96655c6f4a1c0999a519bb41b4168dc2434741a896fd3c2525ac5d9d2d2dbe4"), looks := true }, kinds := [], alts := [], laidByText := true, laidKinds := [.data, .data, .data], laidTests := true, laidLooks := .later }
def CodecNumbersCardSaid : Prop := Claim7.holds Tryd.pinned (.plain (OpenSpec.ofChange codecNumbersSpec)) codecNumbersCard

/-- THE TIED CARD OF 'deponentlaw2.CodecWrites'. -/
def codecWritesCard : Claim7 := { stood := { row := codecWritesRow, standIns := [], harness := (true, "b96655c6f4a1c0999a519bb41b4168dc2434741a896fd3c2525ac5d9d2d2dbe4"), looks := true }, kinds := [], alts := [], laidByText := true, laidKinds := [.data, .data, .data], laidTests := true, laidLooks := .later }
def CodecWritesCardSaid : Prop := Claim7.holds Tryd.pinned (.plain (OpenSpec.ofChange codecWritesSpec)) codecWritesCard

/-- THE TIED CARD OF 'deponentlaw2.CodecReads'. -/
def codecReadsCard : Claim7 := { stood := { row := codecReadsRow, standIns := [], harness := (true, "b96655c6f4a1c0999a519bb41b4168dc2434741a896fd3c2525ac5d9d2d2dbe4"), looks := true }, kinds := [], alts := [], laidByText := true, laidKinds := [.data, .data, .data], laidTests := true, laidLooks := .later }
def CodecReadsCardSaid : Prop := Claim7.holds Tryd.pinned (.plain (OpenSpec.ofChange codecReadsSpec)) codecReadsCard

/-- THE TIED CARD OF 'deponentlaw2.CodecBack'. -/
def codecBackCard : Claim7 := { stood := { row := codecBackRow, standIns := [], harness := (true, "b96655c6f4a1c0999a519bb41b4168dc2434741a896fd3c2525ac5d9d2d2dbe4"), looks := true }, kinds := [], alts := [], laidByText := true, laidKinds := [.data, .data, .data], laidTests := true, laidLooks := .later }
def CodecBackCardSaid : Prop := Claim7.holds Tryd.pinned (.plain (OpenSpec.ofChange codecBackSpec)) codecBackCard

/-- THE TIED CARD OF 'deponentlaw2.CodecKept'. -/
def codecKeptCard : Claim7 := { stood := { row := codecKeptRow, standIns := [], harness := (true, "b96655c6f4a1c0999a519bb41b4168dc2434741a896fd3c2525ac5d9d2d2dbe4"), looks := true }, kinds := [], alts := [], laidByText := true, laidKinds := [.data, .data, .data], laidTests := true, laidLooks := .later }
def CodecKeptCardSaid : Prop := Claim7.holds Tryd.pinned (.plain (OpenSpec.ofChange codecKeptSpec)) codecKeptCard

/-- THE TIED CARD OF 'deponentlaw2.CodecMany'. -/
def codecManyCard : Claim7 := { stood := { row := codecManyRow, standIns := [], harness := (true, "b96655c6f4a1c0999a519bb41b4168dc2434741a896fd3c2525ac5d9d2d2dbe4"), looks := true }, kinds := [], alts := [], laidByText := true, laidKinds := [.data, .data, .data], laidTests := true, laidLooks := .later }
def CodecManyCardSaid : Prop := Claim7.holds Tryd.pinned (.plain (OpenSpec.ofChange codecManySpec)) codecManyCard

/-- THE SECOND FORM's CARD OF 'deponentlaw2.CodecNumbers'. -/
def codecNumbersUptoCard : Claim7 := { stood := { row := codecNumbersUptoRow, standIns := [], harness := (true, "b96655c6f4a1c0999a519bb41b4168dc2434741a896fd3c2525ac5d9d2d2dbe4"), looks := true }, kinds := [], alts := [], laidByText := true, laidKinds := [.data, .data, .data], laidTests := true, laidLooks := .later }
def CodecNumbersUptoCardSaid : Prop := Claim7.holds Tryd.pinned (.plain (OpenSpec.upto codecNumbersSpec)) codecNumbersUptoCard

/-- THE SECOND FORM's CARD OF 'deponentlaw2.CodecWrites'. -/
def codecWritesUptoCard : Claim7 := { stood := { row := codecWritesUptoRow, standIns := [], harness := (true, "b96655c6f4a1c0999a519bb41b4168dc2434741a896fd3c2525ac5d9d2d2dbe4"), looks := true }, kinds := [], alts := [], laidByText := true, laidKinds := [.data, .data, .data], laidTests := true, laidLooks := .later }
def CodecWritesUptoCardSaid : Prop := Claim7.holds Tryd.pinned (.plain (OpenSpec.upto codecWritesSpec)) codecWritesUptoCard

/-- THE SECOND FORM's CARD OF 'deponentlaw2.CodecReads'. -/
def codecReadsUptoCard : Claim7 := { stood := { row := codecReadsUptoRow, standIns := [], harness := (true, "b96655c6f4a1c0999a519bb41b4168dc2434741a896fd3c2525ac5d9d2d2dbe4"), looks := true }, kinds := [], alts := [], laidByText := true, laidKinds := [.data, .data, .data], laidTests := true, laidLooks := .later }
def CodecReadsUptoCardSaid : Prop := Claim7.holds Tryd.pinned (.plain (OpenSpec.upto codecReadsSpec)) codecReadsUptoCard

/-- THE SECOND FORM's CARD OF 'deponentlaw2.CodecBack'. -/
def codecBackUptoCard : Claim7 := { stood := { row := codecBackUptoRow, standIns := [], harness := (true, "b96655c6f4a1c0999a519bb41b4168dc2434741a896fd3c2525ac5d9d2d2dbe4"), looks := true }, kinds := [], alts := [], laidByText := true, laidKinds := [.data, .data, .data], laidTests := true, laidLooks := .later }
def CodecBackUptoCardSaid : Prop := Claim7.holds Tryd.pinned (.plain (OpenSpec.upto codecBackSpec)) codecBackUptoCard

/-- THE SECOND FORM's CARD OF 'deponentlaw2.CodecKept'. -/
def codecKeptUptoCard : Claim7 := { stood := { row := codecKeptUptoRow, standIns := [], harness := (true, "b96655c6f4a1c0999a519bb41b4168dc2434741a896fd3c2525ac5d9d2d2dbe4"), looks := true }, kinds := [], alts := [], laidByText := true, laidKinds := [.data, .data, .data], laidTests := true, laidLooks := .later }
def CodecKeptUptoCardSaid : Prop := Claim7.holds Tryd.pinned (.plain (OpenSpec.upto codecKeptSpec)) codecKeptUptoCard

/-- THE SECOND FORM's CARD OF 'deponentlaw2.CodecMany'. -/
def codecManyUptoCard : Claim7 := { stood := { row := codecManyUptoRow, standIns := [], harness := (true, "b96655c6f4a1c0999a519bb41b4168dc2434741a896fd3c2525ac5d9d2d2dbe4"), looks := true }, kinds := [], alts := [], laidByText := true, laidKinds := [.data, .data, .data], laidTests := true, laidLooks := .later }
def CodecManyUptoCardSaid : Prop := Claim7.holds Tryd.pinned (.plain (OpenSpec.upto codecManySpec)) codecManyUptoCard
end Rows
end Go.Proofs.YtdhaeepaemneaaaDoor
