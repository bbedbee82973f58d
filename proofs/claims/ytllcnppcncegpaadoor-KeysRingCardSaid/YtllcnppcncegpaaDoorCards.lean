/-
  DERIVED. GIVEN WITH THE SEED: THE CARDS: each row of YtllcnppcncegpaaDoorRows.lean that lists a variable, with what it lists TIED to the program's text (the seventh form; the later family's looks); each row that meets fmt, with fmt's text TOLD by the authors' own Lean function (tested against real Go, not proved from fmt's source: count such statements apart). THE CARD IS WHAT COUNTS. Prove the row's statement (the work); the ties are given (YtllcnppcncegpaaDoorTie.lean); close each card by the builder's one call (the guide's Derived/Test/ToyasCard.lean, 'card_holds'). Laid BY PROGRAM, IN A SANDBOX (cutbox-door.mjs). By AI agents, Wed Nov 11 2026. No macro, syntax, notation, axiom, sorry.
-/
import Derived.Test.YtllcnppcncegpaaDoorRows
import GoSem.ClaimSeven
namespace Go.Proofs.YtllcnppcncegpaaDoor
namespace Rows

/-- THE TIED CARD OF 'deponentlaw11.KeysNumbers'. -/
def keysNumbersCard : Claim7 := { stood := { row := keysNumbersRow, standIns := [], harness := (true, "c45367ec0708aadd2d8ac6f4b75958ce5a55d118a9eab0a7489c5053ee063ab8"), looks := false }, kinds := [], alts := [], laidByText := true, laidKinds := [.data], laidTests := true, laidLooks := .later }
def KeysNumbersCardSaid : Prop := Claim7.holds Tryd.pinned (.plain (OpenSpec.ofChange keysNumbersSpec)) keysNumbersCard

/-- THE TIED CARD OF 'deponentlaw11.KeysSign'. -/
def keysSignCard : Claim7 := { stood := { row := keysSignRow, standIns := [], harness := (true, "c45367ec0708aadd2d8ac6f4b75958ce5a55d118a9eab0a7489c5053ee063ab8"), looks := false }, kinds := [], alts := [], laidByText := true, laidKinds := [.data], laidTests := true, laidLooks := .later }
def KeysSignCardSaid : Prop := Claim7.holds Tryd.pinned (.plain (OpenSpec.ofChange keysSignSpec)) keysSignCard

/-- THE TIED CARD OF 'deponentlaw11.KeysRing'. -/
def keysRingCard : Claim7 := { stood := { row := keysRingRow, standIns := [], harness := (true, "c45367ec0708aadd2d8ac6f4b75958ce5a55d118a9eab0a7489c5053ee063ab8"), looks := false }, kinds := [], alts := [], laidByText := true, laidKinds := [.data], laidTests := true, laidLooks := .later }
def KeysRingCardSaid : Prop := Claim7.holds Tryd.pinned (.plain (OpenSpec.ofChange keysRingSpec)) keysRingCard

/-- THE TIED CARD OF 'deponentlaw11.KeysApart'. -/
def keysApartCard : Claim7 := { stood := { row := keysApartRow, standIns := [], harness := (true, "c45367ec0708aadd2d8ac6f4b75958ce5a55d118a9eab0a7489c5053ee063ab8"), looks := false }, kinds := [], alts := [], laidByText := true, laidKinds := [.data], laidTests := true, laidLooks := .later }
def KeysApartCardSaid : Prop := Claim7.holds Tryd.pinned (.plain (OpenSpec.ofChange keysApartSpec)) keysApartCard

/-- THE TIED CARD OF 'deponentlaw11.KeysAlike'. -/
def keysAlikeCard : Claim7 := { stood := { row := keysAlikeRow, standIns := [], harness := (true, "c45367ec0708aadd2d8ac6f4b75958ce5a55d118a9eab0a7489c5053ee063ab8"), looks := false }, kinds := [], alts := [], laidByText := true, laidKinds := [.data], laidTests := true, laidLooks := .later }
def KeysAlikeCardSaid : Prop := Claim7.holds Tryd.pinned (.plain (OpenSpec.ofChange keysAlikeSpec)) keysAlikeCard

/-- THE SECOND FORM's CARD OF 'deponentlaw11.KeysNumbers'. -/
def keysNumbersUptoCard : Claim7 := { stood := { row := keysNumbersUptoRow, standIns := [], harness := (true, "c45367ec0708aadd2d8ac6f4b75958ce5a55d118a9eab0a7489c5053ee063ab8"), looks := false }, kinds := [], alts := [], laidByText := true, laidKinds := [.data], laidTests := true, laidLooks := .later }
def KeysNumbersUptoCardSaid : Prop := Claim7.holds Tryd.pinned (.plain (OpenSpec.upto keysNumbersSpec)) keysNumbersUptoCard

/-- THE SECOND FORM's CARD OF 'deponentlaw11.KeysSign'. -/
def keysSignUptoCard : Claim7 := { stood := { row := keysSignUptoRow, standIns := [], harness := (true, "c45367ec0708aadd2d8ac6f4b75958ce5a55d118a9eab0a7489c5053ee063ab8"), looks := false }, kinds := [], alts := [], laidByText := true, laidKinds := [.data], laidTests := true, laidLooks := .later }
def KeysSignUptoCardSaid : Prop := Claim7.holds Tryd.pinned (.plain (OpenSpec.upto keysSignSpec)) keysSignUptoCard

/-- THE SECOND FORM's CARD OF 'deponentlaw11.KeysRing'. -/
def keysRingUptoCard : Claim7 := { stood := { row := keysRingUptoRow, standIns := [], harness := (true, "c45367ec0708aadd2d8ac6f4b75958ce5a55d118a9eab0a7489c5053ee063ab8"), looks := false }, kinds := [], alts := [], laidByText := true, laidKinds := [.data], laidTests := true, laidLooks := .later }
def KeysRingUptoCardSaid : Prop := Claim7.holds Tryd.pinned (.plain (OpenSpec.upto keysRingSpec)) keysRingUptoCard

/-- THE SECOND FORM's CARD OF 'deponentlaw11.KeysApart'. -/
def keysApartUptoCard : Claim7 := { stood := { row := keysApartUptoRow, standIns := [], harness := (true, "c45367ec0708aadd2d8ac6f4b75958ce5a55d118a9eab0a7489c5053ee063ab8"), looks := false }, kinds := [], alts := [], laidByText := true, laidKinds := [.data], laidTests := true, laidLooks := .later }
def KeysApartUptoCardSaid : Prop := Claim7.holds Tryd.pinned (.plain (OpenSpec.upto keysApartSpec)) keysApartUptoCard

/-- THE SECOND FORM's CARD OF 'deponentlaw11.KeysAlike'. -/
def keysAlikeUptoCard : Claim7 := { stood := { row := keysAlikeUptoRow, standIns := [], harness := (true, "c45367ec0708aadd2d8ac6f4b75958ce5a55d118a9eab0a7489c5053ee063ab8"), looks := false }, kinds := [], alts := [], laidByText := true, laidKinds := [.data], laidTests := true, laidLooks := .later }
def KeysAlikeUptoCardSaid : Prop := Claim7.holds Tryd.pinned (.plain (OpenSpec.upto keysAlikeSpec)) keysAlikeUptoCard
end Rows
end Go.Proofs.YtllcnppcncegpaaDoor
