/-
  DERIVED. GIVEN WITH THE SEED: THE CARDS: each row of YtmhmebblmgfgaaaDoorRows.lean that lists a variable, with what it lists TIED to the program's text (the seventh form; the later family's looks); each row that meets fmt, with fmt's text TOLD by the authors' own Lean function (tested against real Go, not proved from fmt's source: count such statements apart). THE CARD IS WHAT COUNTS. Prove the row's statement (the work); the ties are given (YtmhmebblmgfgaaaDoorTie.lean); close each card by the builder's one call (the guide's Derived/Test/ToyasCard.lean, 'card_holds'). Laid BY PROGRAM, IN A SANDBOX (cutbox-door.mjs). By AI agents, Wed Nov 11 2026. No macro, syntax, notation, axiom, sorry.
-/
import Derived.Test.YtmhmebblmgfgaaaDoorRows
import GoSem.ClaimSeven
namespace Go.Proofs.YtmhmebblmgfgaaaDoor
namespace Rows

/-- THE TIED CARD OF 'deponentlaw8.MerkleNumbers'. -/
def merkleNumbersCard : Claim7 := { stood := { row := merkleNumbersRow, standIns := [], harness := (true, "e435725191f5b21d09b0621d399d9477546025ab6baecadb7253f938765b729c"), looks := false }, kinds := [], alts := [], laidByText := true, laidKinds := [.data], laidTests := true, laidLooks := .later }
def MerkleNumbersCardSaid : Prop := Claim7.holds Tryd.pinned (.plain (OpenSpec.ofChange merkleNumbersSpec)) merkleNumbersCard

/-- THE TIED CARD OF 'deponentlaw8.MerkleRoots'. -/
def merkleRootsCard : Claim7 := { stood := { row := merkleRootsRow, standIns := [], harness := (true, "e435725191f5b21d09b0621d399d9477546025ab6baecadb7253f938765b729c"), looks := false }, kinds := [], alts := [], laidByText := true, laidKinds := [.data], laidTests := true, laidLooks := .later }
def MerkleRootsCardSaid : Prop := Claim7.holds Tryd.pinned (.plain (OpenSpec.ofChange merkleRootsSpec)) merkleRootsCard

/-- THE TIED CARD OF 'deponentlaw8.MerkleMany'. -/
def merkleManyCard : Claim7 := { stood := { row := merkleManyRow, standIns := [], harness := (true, "e435725191f5b21d09b0621d399d9477546025ab6baecadb7253f938765b729c"), looks := false }, kinds := [], alts := [], laidByText := true, laidKinds := [.data], laidTests := true, laidLooks := .later }
def MerkleManyCardSaid : Prop := Claim7.holds Tryd.pinned (.plain (OpenSpec.ofChange merkleManySpec)) merkleManyCard

/-- THE TIED CARD OF 'deponentlaw8.MerkleSplits'. -/
def merkleSplitsCard : Claim7 := { stood := { row := merkleSplitsRow, standIns := [], harness := (true, "e435725191f5b21d09b0621d399d9477546025ab6baecadb7253f938765b729c"), looks := false }, kinds := [], alts := [], laidByText := true, laidKinds := [.data], laidTests := true, laidLooks := .later }
def MerkleSplitsCardSaid : Prop := Claim7.holds Tryd.pinned (.plain (OpenSpec.ofChange merkleSplitsSpec)) merkleSplitsCard

/-- THE TIED CARD OF 'deponentlaw8.MerkleKept'. -/
def merkleKeptCard : Claim7 := { stood := { row := merkleKeptRow, standIns := [], harness := (true, "e435725191f5b21d09b0621d399d9477546025ab6baecadb7253f938765b729c"), looks := false }, kinds := [], alts := [], laidByText := true, laidKinds := [.data], laidTests := true, laidLooks := .later }
def MerkleKeptCardSaid : Prop := Claim7.holds Tryd.pinned (.plain (OpenSpec.ofChange merkleKeptSpec)) merkleKeptCard

/-- THE TIED CARD OF 'deponentlaw8.MerkleTurned'. -/
def merkleTurnedCard : Claim7 := { stood := { row := merkleTurnedRow, standIns := [], harness := (true, "e435725191f5b21d09b0621d399d9477546025ab6baecadb7253f938765b729c"), looks := false }, kinds := [], alts := [], laidByText := true, laidKinds := [.data], laidTests := true, laidLooks := .later }
def MerkleTurnedCardSaid : Prop := Claim7.holds Tryd.pinned (.plain (OpenSpec.ofChange merkleTurnedSpec)) merkleTurnedCard

/-- THE SECOND FORM's CARD OF 'deponentlaw8.MerkleNumbers'. -/
def merkleNumbersUptoCard : Claim7 := { stood := { row := merkleNumbersUptoRow, standIns := [], harness := (true, "e435725191f5b21d09b0621d399d9477546025ab6baecadb7253f938765b729c"), looks := false }, kinds := [], alts := [], laidByText := true, laidKinds := [.data], laidTests := true, laidLooks := .later }
def MerkleNumbersUptoCardSaid : Prop := Claim7.holds Tryd.pinned (.plain (OpenSpec.upto merkleNumbersSpec)) merkleNumbersUptoCard

/-- THE SECOND FORM's CARD OF 'deponentlaw8.MerkleRoots'. -/
def merkleRootsUptoCard : Claim7 := { stood := { row := merkleRootsUptoRow, standIns := [], harness := (true, "e435725191f5b21d09b0621d399d9477546025ab6baecadb7253f938765b729c"), looks := false }, kinds := [], alts := [], laidByText := true, laidKinds := [.data], laidTests := true, laidLooks := .later }
def MerkleRootsUptoCardSaid : Prop := Claim7.holds Tryd.pinned (.plain (OpenSpec.upto merkleRootsSpec)) merkleRootsUptoCard

/-- THE SECOND FORM's CARD OF 'deponentlaw8.MerkleMany'. -/
def merkleManyUptoCard : Claim7 := { stood := { row := merkleManyUptoRow, standIns := [], harness := (true, "e435725191f5b21d09b0621d399d9477546025ab6baecadb7253f938765b729c"), looks := false }, kinds := [], alts := [], laidByText := true, laidKinds := [.data], laidTests := true, laidLooks := .later }
def MerkleManyUptoCardSaid : Prop := Claim7.holds Tryd.pinned (.plain (OpenSpec.upto merkleManySpec)) merkleManyUptoCard

/-- THE SECOND FORM's CARD OF 'deponentlaw8.MerkleSplits'. -/
def merkleSplitsUptoCard : Claim7 := { stood := { row := merkleSplitsUptoRow, standIns := [], harness := (true, "e435725191f5b21d09b0621d399d9477546025ab6baecadb7253f938765b729c"), looks := false }, kinds := [], alts := [], laidByText := true, laidKinds := [.data], laidTests := true, laidLooks := .later }
def MerkleSplitsUptoCardSaid : Prop := Claim7.holds Tryd.pinned (.plain (OpenSpec.upto merkleSplitsSpec)) merkleSplitsUptoCard

/-- THE SECOND FORM's CARD OF 'deponentlaw8.MerkleKept'. -/
def merkleKeptUptoCard : Claim7 := { stood := { row := merkleKeptUptoRow, standIns := [], harness := (true, "e435725191f5b21d09b0621d399d9477546025ab6baecadb7253f938765b729c"), looks := false }, kinds := [], alts := [], laidByText := true, laidKinds := [.data], laidTests := true, laidLooks := .later }
def MerkleKeptUptoCardSaid : Prop := Claim7.holds Tryd.pinned (.plain (OpenSpec.upto merkleKeptSpec)) merkleKeptUptoCard

/-- THE SECOND FORM's CARD OF 'deponentlaw8.MerkleTurned'. -/
def merkleTurnedUptoCard : Claim7 := { stood := { row := merkleTurnedUptoRow, standIns := [], harness := (true, "e435725191f5b21d09b0621d399d9477546025ab6baecadb7253f938765b729c"), looks := false }, kinds := [], alts := [], laidByText := true, laidKinds := [.data], laidTests := true, laidLooks := .later }
def MerkleTurnedUptoCardSaid : Prop := Claim7.holds Tryd.pinned (.plain (OpenSpec.upto merkleTurnedSpec)) merkleTurnedUptoCard
end Rows
end Go.Proofs.YtmhmebblmgfgaaaDoor
