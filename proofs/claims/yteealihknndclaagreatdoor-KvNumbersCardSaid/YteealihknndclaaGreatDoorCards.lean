/-
  DERIVED. GIVEN WITH THE SEED: THE CARDS: each row of YteealihknndclaaGreatDoorRows.lean that lists a variable, with what it lists TIED to the program's text (the seventh form; the later family's looks); each row that meets fmt, with fmt's text TOLD by the authors' own Lean function (tested against real Go, not proved from fmt's source: count such statements apart). THE CARD IS WHAT COUNTS. Prove the row's statement (the work); the ties are given (YteealihknndclaaGreatDoorTie.lean); close each card by the builder's one call (the guide's Derived/Test/ToyasCard.lean, 'card_holds'). Laid BY PROGRAM, IN A SANDBOX (cutbox-door.mjs). By AI agents, Wed Nov 11 2026. No macro, syntax, notation, axiom, sorry.
-/
import Derived.Test.YteealihknndclaaGreatDoorRows
import GoSem.ClaimSeven
namespace Go.Proofs.YteealihknndclaaGreatDoor
namespace Rows

/-- THE TIED CARD OF 'deponentlaw6.BtreeNumbers'. -/
def btreeNumbersCard : Claim7 := { stood := { row := btreeNumbersRow, standIns := [], harness := (true, "22dcfc76e65d7fd5a9e12acf2543c4230d0ba6a61b075ebc3d08b06f61dd92a8"), looks := false }, kinds := [], alts := [], laidByText := true, laidKinds := [.data, .data, .pinned], laidTests := true, laidLooks := .later }
def BtreeNumbersCardSaid : Prop := Claim7.holds Tryz.pinned (.plain (OpenSpec.ofChange btreeNumbersSpec)) btreeNumbersCard

/-- THE TIED CARD OF 'deponentlaw6.BtreeMany'. -/
def btreeManyCard : Claim7 := { stood := { row := btreeManyRow, standIns := [], harness := (true, "22dcfc76e65d7fd5a9e12acf2543c4230d0ba6a61b075ebc3d08b06f61dd92a8"), looks := false }, kinds := [], alts := [], laidByText := true, laidKinds := [.data, .data, .pinned], laidTests := true, laidLooks := .later }
def BtreeManyCardSaid : Prop := Claim7.holds Tryz.pinned (.plain (OpenSpec.ofChange btreeManySpec)) btreeManyCard

/-- THE TIED CARD OF 'deponentlaw6.BtreeRanges'. -/
def btreeRangesCard : Claim7 := { stood := { row := btreeRangesRow, standIns := [], harness := (true, "22dcfc76e65d7fd5a9e12acf2543c4230d0ba6a61b075ebc3d08b06f61dd92a8"), looks := false }, kinds := [], alts := [], laidByText := true, laidKinds := [.data, .data, .pinned], laidTests := true, laidLooks := .later }
def BtreeRangesCardSaid : Prop := Claim7.holds Tryz.pinned (.plain (OpenSpec.ofChange btreeRangesSpec)) btreeRangesCard

/-- THE TIED CARD OF 'deponentlaw6.BtreeKept'. -/
def btreeKeptCard : Claim7 := { stood := { row := btreeKeptRow, standIns := [], harness := (true, "22dcfc76e65d7fd5a9e12acf2543c4230d0ba6a61b075ebc3d08b06f61dd92a8"), looks := false }, kinds := [], alts := [], laidByText := true, laidKinds := [.data, .data, .pinned], laidTests := true, laidLooks := .later }
def BtreeKeptCardSaid : Prop := Claim7.holds Tryz.pinned (.plain (OpenSpec.ofChange btreeKeptSpec)) btreeKeptCard

/-- THE TIED CARD OF 'deponentlaw7.KvNumbers'. -/
def kvNumbersCard : Claim7 := { stood := { row := kvNumbersRow, standIns := [], harness := (true, "22dcfc76e65d7fd5a9e12acf2543c4230d0ba6a61b075ebc3d08b06f61dd92a8"), looks := false }, kinds := [], alts := [], laidByText := true, laidKinds := [.data, .data, .pinned], laidTests := true, laidLooks := .later }
def KvNumbersCardSaid : Prop := Claim7.holds Tryz.pinned (.plain (OpenSpec.ofChange kvNumbersSpec)) kvNumbersCard

/-- THE TIED CARD OF 'deponentlaw7.KvKeeps'. -/
def kvKeepsCard : Claim7 := { stood := { row := kvKeepsRow, standIns := [], harness := (true, "22dcfc76e65d7fd5a9e12acf2543c4230d0ba6a61b075ebc3d08b06f61dd92a8"), looks := false }, kinds := [], alts := [], laidByText := true, laidKinds := [.data, .data, .pinned], laidTests := true, laidLooks := .later }
def KvKeepsCardSaid : Prop := Claim7.holds Tryz.pinned (.plain (OpenSpec.ofChange kvKeepsSpec)) kvKeepsCard

/-- THE SECOND FORM's CARD OF 'deponentlaw6.BtreeNumbers'. -/
def btreeNumbersUptoCard : Claim7 := { stood := { row := btreeNumbersUptoRow, standIns := [], harness := (true, "22dcfc76e65d7fd5a9e12acf2543c4230d0ba6a61b075ebc3d08b06f61dd92a8"), looks := false }, kinds := [], alts := [], laidByText := true, laidKinds := [.data, .data, .pinned], laidTests := true, laidLooks := .later }
def BtreeNumbersUptoCardSaid : Prop := Claim7.holds Tryz.pinned (.plain (OpenSpec.upto btreeNumbersSpec)) btreeNumbersUptoCard

/-- THE SECOND FORM's CARD OF 'deponentlaw6.BtreeMany'. -/
def btreeManyUptoCard : Claim7 := { stood := { row := btreeManyUptoRow, standIns := [], harness := (true, "22dcfc76e65d7fd5a9e12acf2543c4230d0ba6a61b075ebc3d08b06f61dd92a8"), looks := false }, kinds := [], alts := [], laidByText := true, laidKinds := [.data, .data, .pinned], laidTests := true, laidLooks := .later }
def BtreeManyUptoCardSaid : Prop := Claim7.holds Tryz.pinned (.plain (OpenSpec.upto btreeManySpec)) btreeManyUptoCard

/-- THE SECOND FORM's CARD OF 'deponentlaw6.BtreeRanges'. -/
def btreeRangesUptoCard : Claim7 := { stood := { row := btreeRangesUptoRow, standIns := [], harness := (true, "22dcfc76e65d7fd5a9e12acf2543c4230d0ba6a61b075ebc3d08b06f61dd92a8"), looks := false }, kinds := [], alts := [], laidByText := true, laidKinds := [.data, .data, .pinned], laidTests := true, laidLooks := .later }
def BtreeRangesUptoCardSaid : Prop := Claim7.holds Tryz.pinned (.plain (OpenSpec.upto btreeRangesSpec)) btreeRangesUptoCard

/-- THE SECOND FORM's CARD OF 'deponentlaw6.BtreeKept'. -/
def btreeKeptUptoCard : Claim7 := { stood := { row := btreeKeptUptoRow, standIns := [], harness := (true, "22dcfc76e65d7fd5a9e12acf2543c4230d0ba6a61b075ebc3d08b06f61dd92a8"), looks := false }, kinds := [], alts := [], laidByText := true, laidKinds := [.data, .data, .pinned], laidTests := true, laidLooks := .later }
def BtreeKeptUptoCardSaid : Prop := Claim7.holds Tryz.pinned (.plain (OpenSpec.upto btreeKeptSpec)) btreeKeptUptoCard

/-- THE SECOND FORM's CARD OF 'deponentlaw7.KvNumbers'. -/
def kvNumbersUptoCard : Claim7 := { stood := { row := kvNumbersUptoRow, standIns := [], harness := (true, "22dcfc76e65d7fd5a9e12acf2543c4230d0ba6a61b075ebc3d08b06f61dd92a8"), looks := false }, kinds := [], alts := [], laidByText := true, laidKinds := [.data, .data, .pinned], laidTests := true, laidLooks := .later }
def KvNumbersUptoCardSaid : Prop := Claim7.holds Tryz.pinned (.plain (OpenSpec.upto kvNumbersSpec)) kvNumbersUptoCard

/-- THE SECOND FORM's CARD OF 'deponentlaw7.KvKeeps'. -/
def kvKeepsUptoCard : Claim7 := { stood := { row := kvKeepsUptoRow, standIns := [], harness := (true, "22dcfc76e65d7fd5a9e12acf2543c4230d0ba6a61b075ebc3d08b06f61dd92a8"), looks := false }, kinds := [], alts := [], laidByText := true, laidKinds := [.data, .data, .pinned], laidTests := true, laidLooks := .later }
def KvKeepsUptoCardSaid : Prop := Claim7.holds Tryz.pinned (.plain (OpenSpec.upto kvKeepsSpec)) kvKeepsUptoCard
end Rows
end Go.Proofs.YteealihknndclaaGreatDoor
