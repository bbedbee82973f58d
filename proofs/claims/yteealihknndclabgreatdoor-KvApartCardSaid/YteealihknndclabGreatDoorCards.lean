/-
  DERIVED. GIVEN WITH THE SEED: THE CARDS: each row of YteealihknndclabGreatDoorRows.lean that lists a variable, with what it lists TIED to the program's text (the seventh form; the later family's looks); each row that meets fmt, with fmt's text TOLD by the authors' own Lean function (tested against real Go, not proved from fmt's source: count such statements apart). THE CARD IS WHAT COUNTS. Prove the row's statement (the work); the ties are given (YteealihknndclabGreatDoorTie.lean); close each card by the builder's one call (the guide's Derived/Test/ToyasCard.lean, 'card_holds'). Laid BY PROGRAM, IN A SANDBOX (cutbox-door.mjs). By AI agents, Wed Nov 11 2026. No macro, syntax, notation, axiom, sorry.
-/
import Derived.Test.YteealihknndclabGreatDoorRows
import GoSem.ClaimSeven
namespace Go.Proofs.YteealihknndclabGreatDoor
namespace Rows

/-- THE TIED CARD OF 'deponentlaw7.KvApart'. -/
def kvApartCard : Claim7 := { stood := { row := kvApartRow, standIns := [], harness := (true, "8b87a250206b3b9e6c30de9da03e914196e8efbdb92fc22f51d2522d30c6fa77"), looks := false }, kinds := [], alts := [], laidByText := true, laidKinds := [.data, .data, .pinned], laidTests := true, laidLooks := .later }
def KvApartCardSaid : Prop := Claim7.holds Tryz.pinned (.plain (OpenSpec.ofChange kvApartSpec)) kvApartCard

/-- THE TIED CARD OF 'deponentlaw7.KvRanges'. -/
def kvRangesCard : Claim7 := { stood := { row := kvRangesRow, standIns := [], harness := (true, "8b87a250206b3b9e6c30de9da03e914196e8efbdb92fc22f51d2522d30c6fa77"), looks := false }, kinds := [], alts := [], laidByText := true, laidKinds := [.data, .data, .pinned], laidTests := true, laidLooks := .later }
def KvRangesCardSaid : Prop := Claim7.holds Tryz.pinned (.plain (OpenSpec.ofChange kvRangesSpec)) kvRangesCard

/-- THE TIED CARD OF 'deponentlaw7.KvBound'. -/
def kvBoundCard : Claim7 := { stood := { row := kvBoundRow, standIns := [], harness := (true, "8b87a250206b3b9e6c30de9da03e914196e8efbdb92fc22f51d2522d30c6fa77"), looks := false }, kinds := [], alts := [], laidByText := true, laidKinds := [.data, .data, .pinned], laidTests := true, laidLooks := .later }
def KvBoundCardSaid : Prop := Claim7.holds Tryz.pinned (.plain (OpenSpec.ofChange kvBoundSpec)) kvBoundCard

/-- THE SECOND FORM's CARD OF 'deponentlaw7.KvApart'. -/
def kvApartUptoCard : Claim7 := { stood := { row := kvApartUptoRow, standIns := [], harness := (true, "8b87a250206b3b9e6c30de9da03e914196e8efbdb92fc22f51d2522d30c6fa77"), looks := false }, kinds := [], alts := [], laidByText := true, laidKinds := [.data, .data, .pinned], laidTests := true, laidLooks := .later }
def KvApartUptoCardSaid : Prop := Claim7.holds Tryz.pinned (.plain (OpenSpec.upto kvApartSpec)) kvApartUptoCard

/-- THE SECOND FORM's CARD OF 'deponentlaw7.KvRanges'. -/
def kvRangesUptoCard : Claim7 := { stood := { row := kvRangesUptoRow, standIns := [], harness := (true, "8b87a250206b3b9e6c30de9da03e914196e8efbdb92fc22f51d2522d30c6fa77"), looks := false }, kinds := [], alts := [], laidByText := true, laidKinds := [.data, .data, .pinned], laidTests := true, laidLooks := .later }
def KvRangesUptoCardSaid : Prop := Claim7.holds Tryz.pinned (.plain (OpenSpec.upto kvRangesSpec)) kvRangesUptoCard

/-- THE SECOND FORM's CARD OF 'deponentlaw7.KvBound'. -/
def kvBoundUptoCard : Claim7 := { stood := { row := kvBoundUptoRow, standIns := [], harness := (true, "8b87a250206b3b9e6c30de9da03e914196e8efbdb92fc22f51d2522d30c6fa77"), looks := false }, kinds := [], alts := [], laidByText := true, laidKinds := [.data, .data, .pinned], laidTests := true, laidLooks := .later }
def KvBoundUptoCardSaid : Prop := Claim7.holds Tryz.pinned (.plain (OpenSpec.upto kvBoundSpec)) kvBoundUptoCard
end Rows
end Go.Proofs.YteealihknndclabGreatDoor
