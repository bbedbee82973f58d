/-
  DERIVED. GIVEN WITH THE SEED: THE CARDS: each row of YthjlhngjpbmieaaGreatDoorRows.lean that lists a variable, with what it lists TIED to the program's text (the seventh form; the later family's looks); each row that meets fmt, with fmt's text TOLD by the authors' own Lean function (tested against real Go, not proved from fmt's source: count such statements apart). THE CARD IS WHAT COUNTS. Prove the row's statement (the work); the ties are given (YthjlhngjpbmieaaGreatDoorTie.lean); close each card by the builder's one call (the guide's Derived/Test/ToyasCard.lean, 'card_holds'). Laid BY PROGRAM, IN A SANDBOX (cutbox-door.mjs). By AI agents, Wed Nov 11 2026. No macro, syntax, notation, axiom, sorry.
-/
import Derived.Test.YthjlhngjpbmieaaGreatDoorRows
import GoSem.ClaimSeven
namespace Go.Proofs.YthjlhngjpbmieaaGreatDoor
namespace Rows

/-- THE TIED CARD OF 'deponentlaw5.PagesNumbers'. -/
def pagesNumbersCard : Claim7 := { stood := { row := pagesNumbersRow, standIns := [], harness := (true, "603399016858837a4777c285c909e64b6ca31e2ede65388564e6bb9ab52b0851"), looks := false }, kinds := [], alts := [], laidByText := true, laidKinds := [.data, .data, .pinned], laidTests := true, laidLooks := .later }
def PagesNumbersCardSaid : Prop := Claim7.holds Tryz.pinned (.plain (OpenSpec.ofChange pagesNumbersSpec)) pagesNumbersCard

/-- THE TIED CARD OF 'deponentlaw5.PagesKeep'. -/
def pagesKeepCard : Claim7 := { stood := { row := pagesKeepRow, standIns := [], harness := (true, "603399016858837a4777c285c909e64b6ca31e2ede65388564e6bb9ab52b0851"), looks := false }, kinds := [], alts := [], laidByText := true, laidKinds := [.data, .data, .pinned], laidTests := true, laidLooks := .later }
def PagesKeepCardSaid : Prop := Claim7.holds Tryz.pinned (.plain (OpenSpec.ofChange pagesKeepSpec)) pagesKeepCard

/-- THE TIED CARD OF 'deponentlaw5.PagesStop'. -/
def pagesStopCard : Claim7 := { stood := { row := pagesStopRow, standIns := [], harness := (true, "603399016858837a4777c285c909e64b6ca31e2ede65388564e6bb9ab52b0851"), looks := false }, kinds := [], alts := [], laidByText := true, laidKinds := [.data, .data, .pinned], laidTests := true, laidLooks := .later }
def PagesStopCardSaid : Prop := Claim7.holds Tryz.pinned (.plain (OpenSpec.ofChange pagesStopSpec)) pagesStopCard

/-- THE TIED CARD OF 'deponentlaw5.PagesKept'. -/
def pagesKeptCard : Claim7 := { stood := { row := pagesKeptRow, standIns := [], harness := (true, "603399016858837a4777c285c909e64b6ca31e2ede65388564e6bb9ab52b0851"), looks := false }, kinds := [], alts := [], laidByText := true, laidKinds := [.data, .data, .pinned], laidTests := true, laidLooks := .later }
def PagesKeptCardSaid : Prop := Claim7.holds Tryz.pinned (.plain (OpenSpec.ofChange pagesKeptSpec)) pagesKeptCard

/-- THE TIED CARD OF 'deponentlaw5.PagesMany'. -/
def pagesManyCard : Claim7 := { stood := { row := pagesManyRow, standIns := [], harness := (true, "603399016858837a4777c285c909e64b6ca31e2ede65388564e6bb9ab52b0851"), looks := false }, kinds := [], alts := [], laidByText := true, laidKinds := [.data, .data, .pinned], laidTests := true, laidLooks := .later }
def PagesManyCardSaid : Prop := Claim7.holds Tryz.pinned (.plain (OpenSpec.ofChange pagesManySpec)) pagesManyCard

/-- THE SECOND FORM's CARD OF 'deponentlaw5.PagesNumbers'. -/
def pagesNumbersUptoCard : Claim7 := { stood := { row := pagesNumbersUptoRow, standIns := [], harness := (true, "603399016858837a4777c285c909e64b6ca31e2ede65388564e6bb9ab52b0851"), looks := false }, kinds := [], alts := [], laidByText := true, laidKinds := [.data, .data, .pinned], laidTests := true, laidLooks := .later }
def PagesNumbersUptoCardSaid : Prop := Claim7.holds Tryz.pinned (.plain (OpenSpec.upto pagesNumbersSpec)) pagesNumbersUptoCard

/-- THE SECOND FORM's CARD OF 'deponentlaw5.PagesKeep'. -/
def pagesKeepUptoCard : Claim7 := { stood := { row := pagesKeepUptoRow, standIns := [], harness := (true, "603399016858837a4777c285c909e64b6ca31e2ede65388564e6bb9ab52b0851"), looks := false }, kinds := [], alts := [], laidByText := true, laidKinds := [.data, .data, .pinned], laidTests := true, laidLooks := .later }
def PagesKeepUptoCardSaid : Prop := Claim7.holds Tryz.pinned (.plain (OpenSpec.upto pagesKeepSpec)) pagesKeepUptoCard

/-- THE SECOND FORM's CARD OF 'deponentlaw5.PagesStop'. -/
def pagesStopUptoCard : Claim7 := { stood := { row := pagesStopUptoRow, standIns := [], harness := (true, "603399016858837a4777c285c909e64b6ca31e2ede65388564e6bb9ab52b0851"), looks := false }, kinds := [], alts := [], laidByText := true, laidKinds := [.data, .data, .pinned], laidTests := true, laidLooks := .later }
def PagesStopUptoCardSaid : Prop := Claim7.holds Tryz.pinned (.plain (OpenSpec.upto pagesStopSpec)) pagesStopUptoCard

/-- THE SECOND FORM's CARD OF 'deponentlaw5.PagesKept'. -/
def pagesKeptUptoCard : Claim7 := { stood := { row := pagesKeptUptoRow, standIns := [], harness := (true, "603399016858837a4777c285c909e64b6ca31e2ede65388564e6bb9ab52b0851"), looks := false }, kinds := [], alts := [], laidByText := true, laidKinds := [.data, .data, .pinned], laidTests := true, laidLooks := .later }
def PagesKeptUptoCardSaid : Prop := Claim7.holds Tryz.pinned (.plain (OpenSpec.upto pagesKeptSpec)) pagesKeptUptoCard

/-- THE SECOND FORM's CARD OF 'deponentlaw5.PagesMany'. -/
def pagesManyUptoCard : Claim7 := { stood := { row := pagesManyUptoRow, standIns := [], harness := (true, "603399016858837a4777c285c909e64b6ca31e2ede65388564e6bb9ab52b0851"), looks := false }, kinds := [], alts := [], laidByText := true, laidKinds := [.data, .data, .pinned], laidTests := true, laidLooks := .later }
def PagesManyUptoCardSaid : Prop := Claim7.holds Tryz.pinned (.plain (OpenSpec.upto pagesManySpec)) pagesManyUptoCard
end Rows
end Go.Proofs.YthjlhngjpbmieaaGreatDoor
