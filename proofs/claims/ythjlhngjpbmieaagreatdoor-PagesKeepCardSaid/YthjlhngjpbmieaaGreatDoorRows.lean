/-
  NARROWER THAN 'FOR EVERY INPUT', by the rows' own cells (each row's printed sentence says how): PagesNumbers: laid · PagesKeep: laid · PagesStop: laid · PagesKept: laid · PagesMany: laid.
  DERIVED. THE GIVEN ROWS OF THIS SEAT. 5 by the template 'for every input the law returns true; each argument reads behind the call as it read before'; 0 by the template 'total and deterministic' (their statements: YthjlhngjpbmieaaGreatDoorTotals.lean).
  GIVEN WITH THE SEED: the statements are not yours to turn. If you find one false, say at which input.
  Laid BY PROGRAM, IN A SANDBOX (cutbox-rows.mjs): the forced cells as the released guide's own fill.sh prints them over the translation 070ade6ca1075955… (all of the seat's roots in one cut). By AI agents, Wed Nov 11 2026. No macro, syntax, notation, axiom, sorry.
-/
import Derived.Test.YthjlhngjpbmieaaGreatDoorChecked
import GoSem.PinnedTables
import GoSem.Claim
import GoSem.ClaimJoined
import GoSem.ClaimMapViews
import Derived.JoinedTies
import Derived.KernelRfl
namespace Go.Proofs.YthjlhngjpbmieaaGreatDoor
/- THE CELL 'sum', in the pinned program and in every row, IS THE sha256 OF THE DUMP (.gsa) THAT YthjlhngjpbmieaaGreatDoorProg.lean LOADS. Nothing in Lean hashes anything: it is a label: what it is worth is what the hold of that sum in a sandbox is worth. -/
noncomputable def Tryz.pinned : Pinned := { name := "ythjlhngjpbmieaagreatdoor", sum := "070ade6ca107595516b65f887e829789de0056aca0db79a09bad86d93cc6d0a8", checked := Tryz.checked }
namespace Rows
def none {H : Type} : Left H := { results := [], args := [] }

/- WHAT THE LISTED PACKAGE-LEVEL VARIABLES READ AS WHEN THE CALL BEGINS. Each datum BY PROGRAM (the guide's laid-datum.mjs) off the statement by which the dump's own 'gosem.cut.vars' lays the variable. In a bare row this is a premise. The card (YthjlhngjpbmieaaGreatDoorCards.lean) ties it to the program's text. -/
def laid_deponent_sha_roundWords {H : Type} : DataW H := .agg [.lit (.int .u32 1116352408), .lit (.int .u32 1899447441), .lit (.int .u32 3049323471), .lit (.int .u32 3921009573), .lit (.int .u32 961987163), .lit (.int .u32 1508970993), .lit (.int .u32 2453635748), .lit (.int .u32 2870763221), .lit (.int .u32 3624381080), .lit (.int .u32 310598401), .lit (.int .u32 607225278), .lit (.int .u32 1426881987), .lit (.int .u32 1925078388), .lit (.int .u32 2162078206), .lit (.int .u32 2614888103), .lit (.int .u32 3248222580), .lit (.int .u32 3835390401), .lit (.int .u32 4022224774), .lit (.int .u32 264347078), .lit (.int .u32 604807628), .lit (.int .u32 770255983), .lit (.int .u32 1249150122), .lit (.int .u32 1555081692), .lit (.int .u32 1996064986), .lit (.int .u32 2554220882), .lit (.int .u32 2821834349), .lit (.int .u32 2952996808), .lit (.int .u32 3210313671), .lit (.int .u32 3336571891), .lit (.int .u32 3584528711), .lit (.int .u32 113926993), .lit (.int .u32 338241895), .lit (.int .u32 666307205), .lit (.int .u32 773529912), .lit (.int .u32 1294757372), .lit (.int .u32 1396182291), .lit (.int .u32 1695183700), .lit (.int .u32 1986661051), .lit (.int .u32 2177026350), .lit (.int .u32 2456956037), .lit (.int .u32 2730485921), .lit (.int .u32 2820302411), .lit (.int .u32 3259730800), .lit (.int .u32 3345764771), .lit (.int .u32 3516065817), .lit (.int .u32 3600352804), .lit (.int .u32 4094571909), .lit (.int .u32 275423344), .lit (.int .u32 430227734), .lit (.int .u32 506948616), .lit (.int .u32 659060556), .lit (.int .u32 883997877), .lit (.int .u32 958139571), .lit (.int .u32 1322822218), .lit (.int .u32 1537002063), .lit (.int .u32 1747873779), .lit (.int .u32 1955562222), .lit (.int .u32 2024104815), .lit (.int .u32 2227730452), .lit (.int .u32 2361852424), .lit (.int .u32 2428436474), .lit (.int .u32 2756734187), .lit (.int .u32 3204031479), .lit (.int .u32 3329325298)]
def laid_unicode_utf8_acceptRanges {H : Type} : DataW H := .agg [.agg [.lit (.int .u8 128), .lit (.int .u8 191)], .agg [.lit (.int .u8 160), .lit (.int .u8 191)], .agg [.lit (.int .u8 128), .lit (.int .u8 159)], .agg [.lit (.int .u8 144), .lit (.int .u8 191)], .agg [.lit (.int .u8 128), .lit (.int .u8 143)], .agg [.lit (.int .u8 0), .lit (.int .u8 0)], .agg [.lit (.int .u8 0), .lit (.int .u8 0)], .agg [.lit (.int .u8 0), .lit (.int .u8 0)], .agg [.lit (.int .u8 0), .lit (.int .u8 0)], .agg [.lit (.int .u8 0), .lit (.int .u8 0)], .agg [.lit (.int .u8 0), .lit (.int .u8 0)], .agg [.lit (.int .u8 0), .lit (.int .u8 0)], .agg [.lit (.int .u8 0), .lit (.int .u8 0)], .agg [.lit (.int .u8 0), .lit (.int .u8 0)], .agg [.lit (.int .u8 0), .lit (.int .u8 0)], .agg [.lit (.int .u8 0), .lit (.int .u8 0)]]
/-- One of Go's own tables, pinned by name: the form's constant. -/
def laid_unicode_utf8_first : DataW Unit := Go.Pinned.utf8First

/-- 'deponentlaw5.PagesNumbers': WHATEVER THE INPUT: true; the input reads as it did. -/
def pagesNumbersSpec : ChangeSpec := { name := "pagesNumbers", fn := fun _ => fun
  | [] => { results := [.lit (.bool true)], args := [] }
  | _ => none }
def pagesNumbersRow : OpenClaim := { program := "ythjlhngjpbmieaagreatdoor", sum := "070ade6ca107595516b65f887e829789de0056aca0db79a09bad86d93cc6d0a8", func := "deponent/deponentlaw5.PagesNumbers", spec := "pagesNumbers", unfollowed := true, recurses := true, named := ["deponent/sha.roundWords", "unicode/utf8.first", "unicode/utf8.acceptRanges"], apart := false, laid := [("deponent/sha.roundWords", laid_deponent_sha_roundWords), ("unicode/utf8.acceptRanges", laid_unicode_utf8_acceptRanges), ("unicode/utf8.first", laid_unicode_utf8_first)] }
def PagesNumbersSaid : Prop := pagesNumbersRow.holds Tryz.pinned (OpenSpec.ofChange pagesNumbersSpec)

/-- ITS FALSE NEIGHBOUR: 'it returns false'. Refute it at one input. -/
def pagesNumbersWrong : ChangeSpec := { name := "pagesNumbers", fn := fun _ => fun
  | [] => { results := [.lit (.bool false)], args := [] }
  | _ => none }
def PagesNumbersWrongFalsely : Prop := pagesNumbersRow.holds Tryz.pinned (OpenSpec.ofChange pagesNumbersWrong)

/-- 'deponentlaw5.PagesKeep': WHATEVER THE INPUT: true; the input reads as it did. -/
def pagesKeepSpec : ChangeSpec := { name := "pagesKeep", fn := fun _ => fun
  | [d] => { results := [.lit (.bool true)], args := [d] }
  | _ => none }
def pagesKeepRow : OpenClaim := { program := "ythjlhngjpbmieaagreatdoor", sum := "070ade6ca107595516b65f887e829789de0056aca0db79a09bad86d93cc6d0a8", func := "deponent/deponentlaw5.PagesKeep", spec := "pagesKeep", unfollowed := true, recurses := true, named := ["deponent/sha.roundWords", "unicode/utf8.first", "unicode/utf8.acceptRanges"], apart := false, laid := [("deponent/sha.roundWords", laid_deponent_sha_roundWords), ("unicode/utf8.acceptRanges", laid_unicode_utf8_acceptRanges), ("unicode/utf8.first", laid_unicode_utf8_first)] }
def PagesKeepSaid : Prop := pagesKeepRow.holds Tryz.pinned (OpenSpec.ofChange pagesKeepSpec)

/-- ITS FALSE NEIGHBOUR: 'it returns false'. Refute it at one input. -/
def pagesKeepWrong : ChangeSpec := { name := "pagesKeep", fn := fun _ => fun
  | [d] => { results := [.lit (.bool false)], args := [d] }
  | _ => none }
def PagesKeepWrongFalsely : Prop := pagesKeepRow.holds Tryz.pinned (OpenSpec.ofChange pagesKeepWrong)

/-- 'deponentlaw5.PagesStop': WHATEVER THE INPUT: true; the input reads as it did. -/
def pagesStopSpec : ChangeSpec := { name := "pagesStop", fn := fun _ => fun
  | [d1, d2, d3, d4] => { results := [.lit (.bool true)], args := [d1, d2, d3, d4] }
  | _ => none }
def pagesStopRow : OpenClaim := { program := "ythjlhngjpbmieaagreatdoor", sum := "070ade6ca107595516b65f887e829789de0056aca0db79a09bad86d93cc6d0a8", func := "deponent/deponentlaw5.PagesStop", spec := "pagesStop", unfollowed := true, recurses := true, named := ["deponent/sha.roundWords", "unicode/utf8.first", "unicode/utf8.acceptRanges"], apart := false, laid := [("deponent/sha.roundWords", laid_deponent_sha_roundWords), ("unicode/utf8.acceptRanges", laid_unicode_utf8_acceptRanges), ("unicode/utf8.first", laid_unicode_utf8_first)] }
def PagesStopSaid : Prop := pagesStopRow.holds Tryz.pinned (OpenSpec.ofChange pagesStopSpec)

/-- ITS FALSE NEIGHBOUR: 'it returns false'. Refute it at one input. -/
def pagesStopWrong : ChangeSpec := { name := "pagesStop", fn := fun _ => fun
  | [d1, d2, d3, d4] => { results := [.lit (.bool false)], args := [d1, d2, d3, d4] }
  | _ => none }
def PagesStopWrongFalsely : Prop := pagesStopRow.holds Tryz.pinned (OpenSpec.ofChange pagesStopWrong)

/-- 'deponentlaw5.PagesKept': WHATEVER THE INPUT: true; the input reads as it did. -/
def pagesKeptSpec : ChangeSpec := { name := "pagesKept", fn := fun _ => fun
  | [d] => { results := [.lit (.bool true)], args := [d] }
  | _ => none }
def pagesKeptRow : OpenClaim := { program := "ythjlhngjpbmieaagreatdoor", sum := "070ade6ca107595516b65f887e829789de0056aca0db79a09bad86d93cc6d0a8", func := "deponent/deponentlaw5.PagesKept", spec := "pagesKept", unfollowed := true, recurses := true, named := ["deponent/sha.roundWords", "unicode/utf8.first", "unicode/utf8.acceptRanges"], apart := false, laid := [("deponent/sha.roundWords", laid_deponent_sha_roundWords), ("unicode/utf8.acceptRanges", laid_unicode_utf8_acceptRanges), ("unicode/utf8.first", laid_unicode_utf8_first)] }
def PagesKeptSaid : Prop := pagesKeptRow.holds Tryz.pinned (OpenSpec.ofChange pagesKeptSpec)

/-- ITS FALSE NEIGHBOUR: 'it returns false'. Refute it at one input. -/
def pagesKeptWrong : ChangeSpec := { name := "pagesKept", fn := fun _ => fun
  | [d] => { results := [.lit (.bool false)], args := [d] }
  | _ => none }
def PagesKeptWrongFalsely : Prop := pagesKeptRow.holds Tryz.pinned (OpenSpec.ofChange pagesKeptWrong)

/-- 'deponentlaw5.PagesMany': WHATEVER THE INPUT: true; the input reads as it did. -/
def pagesManySpec : ChangeSpec := { name := "pagesMany", fn := fun _ => fun
  | [d1, d2, d3, d4] => { results := [.lit (.bool true)], args := [d1, d2, d3, d4] }
  | _ => none }
def pagesManyRow : OpenClaim := { program := "ythjlhngjpbmieaagreatdoor", sum := "070ade6ca107595516b65f887e829789de0056aca0db79a09bad86d93cc6d0a8", func := "deponent/deponentlaw5.PagesMany", spec := "pagesMany", unfollowed := true, recurses := true, named := ["deponent/sha.roundWords", "unicode/utf8.first", "unicode/utf8.acceptRanges"], apart := false, laid := [("deponent/sha.roundWords", laid_deponent_sha_roundWords), ("unicode/utf8.acceptRanges", laid_unicode_utf8_acceptRanges), ("unicode/utf8.first", laid_unicode_utf8_first)] }
def PagesManySaid : Prop := pagesManyRow.holds Tryz.pinned (OpenSpec.ofChange pagesManySpec)

/-- ITS FALSE NEIGHBOUR: 'it returns false'. Refute it at one input. -/
def pagesManyWrong : ChangeSpec := { name := "pagesMany", fn := fun _ => fun
  | [d1, d2, d3, d4] => { results := [.lit (.bool false)], args := [d1, d2, d3, d4] }
  | _ => none }
def PagesManyWrongFalsely : Prop := pagesManyRow.holds Tryz.pinned (OpenSpec.ofChange pagesManyWrong)

/- THE SECOND FORM. 'bulk': how many values and letters a reading holds, each counted each time it is reached (what is shared counts as often as it is met; a slice's spare places count too). A statement '..UptoSaid' is the law's where the arguments, and the package variables that the reading takes, are together of bulk at most 1048576: NARROWER than '..Said'. Prove '..Said' where nothing that the law and all that it calls make is longer than what came in: it says more and counts as full. Else prove '..UptoSaid'. A law counts once. -/
mutual
def uptoBulk {H : Type} : DataW H → Nat
  | .lit (.string bytes) => bytes.length + 1
  | .lit _ => 1
  | .nil => 1
  | .ptr d => uptoBulk d + 1
  | .slice elems spare => uptoBulkAll elems + uptoBulkAll spare + 1
  | .agg parts => uptoBulkAll parts + 1
  | .iface _ d => uptoBulk d + 1
  | .map entries => uptoBulkEntries entries + 1
  | .held _ => 1
def uptoBulkAll {H : Type} : List (DataW H) → Nat
  | [] => 0
  | d :: r => uptoBulk d + uptoBulkAll r
def uptoBulkEntries {H : Type} : List (Lit × DataW H) → Nat
  | [] => 0
  | x :: r => uptoBulkEntry x + uptoBulkEntries r
def uptoBulkEntry {H : Type} : Lit × DataW H → Nat
  | (.string bytes, d) => bytes.length + uptoBulk d + 1
  | (_, d) => uptoBulk d + 1
 end
def uptoSmall : (H : Type) → List (DataW H) → Bool := fun _ ds => decide (uptoBulkAll ds ≤ 1048576)
def OpenSpec.upto (s : _root_.Go.ChangeSpec) : _root_.Go.OpenSpec := { _root_.Go.OpenSpec.ofChange s with cond := some uptoSmall }

/-- 'deponentlaw5.PagesNumbers', WHERE WHAT IT READS IS OF BULK AT MOST 1048576: true; the input reads as it did. -/
def pagesNumbersUptoRow : OpenClaim := { program := "ythjlhngjpbmieaagreatdoor", sum := "070ade6ca107595516b65f887e829789de0056aca0db79a09bad86d93cc6d0a8", func := "deponent/deponentlaw5.PagesNumbers", spec := "pagesNumbers", unfollowed := true, recurses := true, named := ["deponent/sha.roundWords", "unicode/utf8.first", "unicode/utf8.acceptRanges"], apart := false, laid := [("deponent/sha.roundWords", laid_deponent_sha_roundWords), ("unicode/utf8.acceptRanges", laid_unicode_utf8_acceptRanges), ("unicode/utf8.first", laid_unicode_utf8_first)], narrowed := true }
def PagesNumbersUptoSaid : Prop := pagesNumbersUptoRow.holds Tryz.pinned (OpenSpec.upto pagesNumbersSpec)

/-- 'deponentlaw5.PagesKeep', WHERE WHAT IT READS IS OF BULK AT MOST 1048576: true; the input reads as it did. -/
def pagesKeepUptoRow : OpenClaim := { program := "ythjlhngjpbmieaagreatdoor", sum := "070ade6ca107595516b65f887e829789de0056aca0db79a09bad86d93cc6d0a8", func := "deponent/deponentlaw5.PagesKeep", spec := "pagesKeep", unfollowed := true, recurses := true, named := ["deponent/sha.roundWords", "unicode/utf8.first", "unicode/utf8.acceptRanges"], apart := false, laid := [("deponent/sha.roundWords", laid_deponent_sha_roundWords), ("unicode/utf8.acceptRanges", laid_unicode_utf8_acceptRanges), ("unicode/utf8.first", laid_unicode_utf8_first)], narrowed := true }
def PagesKeepUptoSaid : Prop := pagesKeepUptoRow.holds Tryz.pinned (OpenSpec.upto pagesKeepSpec)

/-- 'deponentlaw5.PagesStop', WHERE WHAT IT READS IS OF BULK AT MOST 1048576: true; the input reads as it did. -/
def pagesStopUptoRow : OpenClaim := { program := "ythjlhngjpbmieaagreatdoor", sum := "070ade6ca107595516b65f887e829789de0056aca0db79a09bad86d93cc6d0a8", func := "deponent/deponentlaw5.PagesStop", spec := "pagesStop", unfollowed := true, recurses := true, named := ["deponent/sha.roundWords", "unicode/utf8.first", "unicode/utf8.acceptRanges"], apart := false, laid := [("deponent/sha.roundWords", laid_deponent_sha_roundWords), ("unicode/utf8.acceptRanges", laid_unicode_utf8_acceptRanges), ("unicode/utf8.first", laid_unicode_utf8_first)], narrowed := true }
def PagesStopUptoSaid : Prop := pagesStopUptoRow.holds Tryz.pinned (OpenSpec.upto pagesStopSpec)

/-- 'deponentlaw5.PagesKept', WHERE WHAT IT READS IS OF BULK AT MOST 1048576: true; the input reads as it did. -/
def pagesKeptUptoRow : OpenClaim := { program := "ythjlhngjpbmieaagreatdoor", sum := "070ade6ca107595516b65f887e829789de0056aca0db79a09bad86d93cc6d0a8", func := "deponent/deponentlaw5.PagesKept", spec := "pagesKept", unfollowed := true, recurses := true, named := ["deponent/sha.roundWords", "unicode/utf8.first", "unicode/utf8.acceptRanges"], apart := false, laid := [("deponent/sha.roundWords", laid_deponent_sha_roundWords), ("unicode/utf8.acceptRanges", laid_unicode_utf8_acceptRanges), ("unicode/utf8.first", laid_unicode_utf8_first)], narrowed := true }
def PagesKeptUptoSaid : Prop := pagesKeptUptoRow.holds Tryz.pinned (OpenSpec.upto pagesKeptSpec)

/-- 'deponentlaw5.PagesMany', WHERE WHAT IT READS IS OF BULK AT MOST 1048576: true; the input reads as it did. -/
def pagesManyUptoRow : OpenClaim := { program := "ythjlhngjpbmieaagreatdoor", sum := "070ade6ca107595516b65f887e829789de0056aca0db79a09bad86d93cc6d0a8", func := "deponent/deponentlaw5.PagesMany", spec := "pagesMany", unfollowed := true, recurses := true, named := ["deponent/sha.roundWords", "unicode/utf8.first", "unicode/utf8.acceptRanges"], apart := false, laid := [("deponent/sha.roundWords", laid_deponent_sha_roundWords), ("unicode/utf8.acceptRanges", laid_unicode_utf8_acceptRanges), ("unicode/utf8.first", laid_unicode_utf8_first)], narrowed := true }
def PagesManyUptoSaid : Prop := pagesManyUptoRow.holds Tryz.pinned (OpenSpec.upto pagesManySpec)

end Rows
end Go.Proofs.YthjlhngjpbmieaaGreatDoor
