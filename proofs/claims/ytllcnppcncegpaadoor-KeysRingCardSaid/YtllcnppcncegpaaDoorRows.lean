/-
  NARROWER THAN 'FOR EVERY INPUT', by the rows' own cells (each row's printed sentence says how): KeysNumbers: laid · KeysSign: laid · KeysRing: laid · KeysApart: laid · KeysAlike: laid.
  DERIVED. THE GIVEN ROWS OF THIS SEAT. 5 by the template 'for every input the law returns true; each argument reads behind the call as it read before'; 0 by the template 'total and deterministic' (their statements: YtllcnppcncegpaaDoorTotals.lean).
  GIVEN WITH THE SEED: the statements are not yours to turn. If you find one false, say at which input.
  Laid BY PROGRAM, IN A SANDBOX (cutbox-rows.mjs): the forced cells as the released guide's own fill.sh prints them over the translation 887df17d17342db5… (all of the seat's roots in one cut). By AI agents, Wed Nov 11 2026. No macro, syntax, notation, axiom, sorry.
-/
import Derived.Test.YtllcnppcncegpaaDoorChecked
import GoSem.Claim
import GoSem.ClaimJoined
import GoSem.ClaimMapViews
import Derived.JoinedTies
import Derived.KernelRfl
namespace Go.Proofs.YtllcnppcncegpaaDoor
/- THE CELL 'sum', in the pinned program and in every row, IS THE sha256 OF THE DUMP (.gsa) THAT YtllcnppcncegpaaDoorProg.lean LOADS. Nothing in Lean hashes anything: it is a label: what it is worth is what the hold of that sum in a sandbox is worth. -/
noncomputable def Tryd.pinned : Pinned := { name := "ytllcnppcncegpaadoor", sum := "887df17d17342db5338da3d47c68326f356be5b60dc6f027f755b6f63b7ebcf5", checked := Tryd.checked }
namespace Rows
def none {H : Type} : Left H := { results := [], args := [] }

/- WHAT THE LISTED PACKAGE-LEVEL VARIABLES READ AS WHEN THE CALL BEGINS. Each datum BY PROGRAM (the guide's laid-datum.mjs) off the statement by which the dump's own 'gosem.cut.vars' lays the variable. In a bare row this is a premise. The card (YtllcnppcncegpaaDoorCards.lean) ties it to the program's text. -/
def laid_deponent_sha_roundWords {H : Type} : DataW H := .agg [.lit (.int .u32 1116352408), .lit (.int .u32 1899447441), .lit (.int .u32 3049323471), .lit (.int .u32 3921009573), .lit (.int .u32 961987163), .lit (.int .u32 1508970993), .lit (.int .u32 2453635748), .lit (.int .u32 2870763221), .lit (.int .u32 3624381080), .lit (.int .u32 310598401), .lit (.int .u32 607225278), .lit (.int .u32 1426881987), .lit (.int .u32 1925078388), .lit (.int .u32 2162078206), .lit (.int .u32 2614888103), .lit (.int .u32 3248222580), .lit (.int .u32 3835390401), .lit (.int .u32 4022224774), .lit (.int .u32 264347078), .lit (.int .u32 604807628), .lit (.int .u32 770255983), .lit (.int .u32 1249150122), .lit (.int .u32 1555081692), .lit (.int .u32 1996064986), .lit (.int .u32 2554220882), .lit (.int .u32 2821834349), .lit (.int .u32 2952996808), .lit (.int .u32 3210313671), .lit (.int .u32 3336571891), .lit (.int .u32 3584528711), .lit (.int .u32 113926993), .lit (.int .u32 338241895), .lit (.int .u32 666307205), .lit (.int .u32 773529912), .lit (.int .u32 1294757372), .lit (.int .u32 1396182291), .lit (.int .u32 1695183700), .lit (.int .u32 1986661051), .lit (.int .u32 2177026350), .lit (.int .u32 2456956037), .lit (.int .u32 2730485921), .lit (.int .u32 2820302411), .lit (.int .u32 3259730800), .lit (.int .u32 3345764771), .lit (.int .u32 3516065817), .lit (.int .u32 3600352804), .lit (.int .u32 4094571909), .lit (.int .u32 275423344), .lit (.int .u32 430227734), .lit (.int .u32 506948616), .lit (.int .u32 659060556), .lit (.int .u32 883997877), .lit (.int .u32 958139571), .lit (.int .u32 1322822218), .lit (.int .u32 1537002063), .lit (.int .u32 1747873779), .lit (.int .u32 1955562222), .lit (.int .u32 2024104815), .lit (.int .u32 2227730452), .lit (.int .u32 2361852424), .lit (.int .u32 2428436474), .lit (.int .u32 2756734187), .lit (.int .u32 3204031479), .lit (.int .u32 3329325298)]

/-- 'deponentlaw11.KeysNumbers': WHATEVER THE INPUT: true; the input reads as it did. -/
def keysNumbersSpec : ChangeSpec := { name := "keysNumbers", fn := fun _ => fun
  | [] => { results := [.lit (.bool true)], args := [] }
  | _ => none }
def keysNumbersRow : OpenClaim := { program := "ytllcnppcncegpaadoor", sum := "887df17d17342db5338da3d47c68326f356be5b60dc6f027f755b6f63b7ebcf5", func := "deponent/deponentlaw11.KeysNumbers", spec := "keysNumbers", named := ["deponent/sha.roundWords"], apart := false, laid := [("deponent/sha.roundWords", laid_deponent_sha_roundWords)] }
def KeysNumbersSaid : Prop := keysNumbersRow.holds Tryd.pinned (OpenSpec.ofChange keysNumbersSpec)

/-- ITS FALSE NEIGHBOUR: 'it returns false'. Refute it at one input. -/
def keysNumbersWrong : ChangeSpec := { name := "keysNumbers", fn := fun _ => fun
  | [] => { results := [.lit (.bool false)], args := [] }
  | _ => none }
def KeysNumbersWrongFalsely : Prop := keysNumbersRow.holds Tryd.pinned (OpenSpec.ofChange keysNumbersWrong)

/-- 'deponentlaw11.KeysSign': WHATEVER THE INPUT: true; the input reads as it did. -/
def keysSignSpec : ChangeSpec := { name := "keysSign", fn := fun _ => fun
  | [d1, d2, d3, d4, d5, d6] => { results := [.lit (.bool true)], args := [d1, d2, d3, d4, d5, d6] }
  | _ => none }
def keysSignRow : OpenClaim := { program := "ytllcnppcncegpaadoor", sum := "887df17d17342db5338da3d47c68326f356be5b60dc6f027f755b6f63b7ebcf5", func := "deponent/deponentlaw11.KeysSign", spec := "keysSign", named := ["deponent/sha.roundWords"], apart := false, laid := [("deponent/sha.roundWords", laid_deponent_sha_roundWords)] }
def KeysSignSaid : Prop := keysSignRow.holds Tryd.pinned (OpenSpec.ofChange keysSignSpec)

/-- ITS FALSE NEIGHBOUR: 'it returns false'. Refute it at one input. -/
def keysSignWrong : ChangeSpec := { name := "keysSign", fn := fun _ => fun
  | [d1, d2, d3, d4, d5, d6] => { results := [.lit (.bool false)], args := [d1, d2, d3, d4, d5, d6] }
  | _ => none }
def KeysSignWrongFalsely : Prop := keysSignRow.holds Tryd.pinned (OpenSpec.ofChange keysSignWrong)

/-- 'deponentlaw11.KeysRing': WHATEVER THE INPUT: true; the input reads as it did. -/
def keysRingSpec : ChangeSpec := { name := "keysRing", fn := fun _ => fun
  | [d1, d2] => { results := [.lit (.bool true)], args := [d1, d2] }
  | _ => none }
def keysRingRow : OpenClaim := { program := "ytllcnppcncegpaadoor", sum := "887df17d17342db5338da3d47c68326f356be5b60dc6f027f755b6f63b7ebcf5", func := "deponent/deponentlaw11.KeysRing", spec := "keysRing", named := ["deponent/sha.roundWords"], apart := false, laid := [("deponent/sha.roundWords", laid_deponent_sha_roundWords)] }
def KeysRingSaid : Prop := keysRingRow.holds Tryd.pinned (OpenSpec.ofChange keysRingSpec)

/-- ITS FALSE NEIGHBOUR: 'it returns false'. Refute it at one input. -/
def keysRingWrong : ChangeSpec := { name := "keysRing", fn := fun _ => fun
  | [d1, d2] => { results := [.lit (.bool false)], args := [d1, d2] }
  | _ => none }
def KeysRingWrongFalsely : Prop := keysRingRow.holds Tryd.pinned (OpenSpec.ofChange keysRingWrong)

/-- 'deponentlaw11.KeysApart': WHATEVER THE INPUT: true; the input reads as it did. -/
def keysApartSpec : ChangeSpec := { name := "keysApart", fn := fun _ => fun
  | [d1, d2, d3, d4, d5, d6] => { results := [.lit (.bool true)], args := [d1, d2, d3, d4, d5, d6] }
  | _ => none }
def keysApartRow : OpenClaim := { program := "ytllcnppcncegpaadoor", sum := "887df17d17342db5338da3d47c68326f356be5b60dc6f027f755b6f63b7ebcf5", func := "deponent/deponentlaw11.KeysApart", spec := "keysApart", named := ["deponent/sha.roundWords"], apart := false, laid := [("deponent/sha.roundWords", laid_deponent_sha_roundWords)] }
def KeysApartSaid : Prop := keysApartRow.holds Tryd.pinned (OpenSpec.ofChange keysApartSpec)

/-- ITS FALSE NEIGHBOUR: 'it returns false'. Refute it at one input. -/
def keysApartWrong : ChangeSpec := { name := "keysApart", fn := fun _ => fun
  | [d1, d2, d3, d4, d5, d6] => { results := [.lit (.bool false)], args := [d1, d2, d3, d4, d5, d6] }
  | _ => none }
def KeysApartWrongFalsely : Prop := keysApartRow.holds Tryd.pinned (OpenSpec.ofChange keysApartWrong)

/-- 'deponentlaw11.KeysAlike': WHATEVER THE INPUT: true; the input reads as it did. -/
def keysAlikeSpec : ChangeSpec := { name := "keysAlike", fn := fun _ => fun
  | [d1, d2, d3] => { results := [.lit (.bool true)], args := [d1, d2, d3] }
  | _ => none }
def keysAlikeRow : OpenClaim := { program := "ytllcnppcncegpaadoor", sum := "887df17d17342db5338da3d47c68326f356be5b60dc6f027f755b6f63b7ebcf5", func := "deponent/deponentlaw11.KeysAlike", spec := "keysAlike", named := ["deponent/sha.roundWords"], apart := false, laid := [("deponent/sha.roundWords", laid_deponent_sha_roundWords)] }
def KeysAlikeSaid : Prop := keysAlikeRow.holds Tryd.pinned (OpenSpec.ofChange keysAlikeSpec)

/-- ITS FALSE NEIGHBOUR: 'it returns false'. Refute it at one input. -/
def keysAlikeWrong : ChangeSpec := { name := "keysAlike", fn := fun _ => fun
  | [d1, d2, d3] => { results := [.lit (.bool false)], args := [d1, d2, d3] }
  | _ => none }
def KeysAlikeWrongFalsely : Prop := keysAlikeRow.holds Tryd.pinned (OpenSpec.ofChange keysAlikeWrong)

/- THE SECOND FORM. 'bulk': how many values and letters a reading holds, each counted each time it is reached (what is shared counts as often as it is met; a slice's spare places count too). A statement '..UptoSaid' is the law's where the arguments, and the package variables that the reading takes, are together of bulk at most 1048576: NARROWER than '..Said'. Prove '..Said' where nothing that the law and all that it calls make is longer than what came in: it says more and counts as full. Else prove '..UptoSaid'. A law counts once. -/
mutual
def uptoBulk {H : Type} : DataW H → Nat
  | .lit (.string bytes) => bytes.length + 1
  | .lit _ => 1
  | .nil => 1
  | .ptr d => uptoBulk d + 1
  | .slice elems spare => uptoBulkAll elems + uptoBulkAll spare + 1
  | .agg parts => uptoBulkAll parts + 1
  | .iface _ d => uptoBulk d + 1
  | .map entries => uptoBulkEntries entries + 1
  | .held _ => 1
def uptoBulkAll {H : Type} : List (DataW H) → Nat
  | [] => 0
  | d :: r => uptoBulk d + uptoBulkAll r
def uptoBulkEntries {H : Type} : List (Lit × DataW H) → Nat
  | [] => 0
  | x :: r => uptoBulkEntry x + uptoBulkEntries r
def uptoBulkEntry {H : Type} : Lit × DataW H → Nat
  | (.string bytes, d) => bytes.length + uptoBulk d + 1
  | (_, d) => uptoBulk d + 1
 end
def uptoSmall : (H : Type) → List (DataW H) → Bool := fun _ ds => decide (uptoBulkAll ds ≤ 1048576)
def OpenSpec.upto (s : _root_.Go.ChangeSpec) : _root_.Go.OpenSpec := { _root_.Go.OpenSpec.ofChange s with cond := some uptoSmall }

/-- 'deponentlaw11.KeysNumbers', WHERE WHAT IT READS IS OF BULK AT MOST 1048576: true; the input reads as it did. -/
def keysNumbersUptoRow : OpenClaim := { program := "ytllcnppcncegpaadoor", sum := "887df17d17342db5338da3d47c68326f356be5b60dc6f027f755b6f63b7ebcf5", func := "deponent/deponentlaw11.KeysNumbers", spec := "keysNumbers", named := ["deponent/sha.roundWords"], apart := false, laid := [("deponent/sha.roundWords", laid_deponent_sha_roundWords)], narrowed := true }
def KeysNumbersUptoSaid : Prop := keysNumbersUptoRow.holds Tryd.pinned (OpenSpec.upto keysNumbersSpec)

/-- 'deponentlaw11.KeysSign', WHERE WHAT IT READS IS OF BULK AT MOST 1048576: true; the input reads as it did. -/
def keysSignUptoRow : OpenClaim := { program := "ytllcnppcncegpaadoor", sum := "887df17d17342db5338da3d47c68326f356be5b60dc6f027f755b6f63b7ebcf5", func := "deponent/deponentlaw11.KeysSign", spec := "keysSign", named := ["deponent/sha.roundWords"], apart := false, laid := [("deponent/sha.roundWords", laid_deponent_sha_roundWords)], narrowed := true }
def KeysSignUptoSaid : Prop := keysSignUptoRow.holds Tryd.pinned (OpenSpec.upto keysSignSpec)

/-- 'deponentlaw11.KeysRing', WHERE WHAT IT READS IS OF BULK AT MOST 1048576: true; the input reads as it did. -/
def keysRingUptoRow : OpenClaim := { program := "ytllcnppcncegpaadoor", sum := "887df17d17342db5338da3d47c68326f356be5b60dc6f027f755b6f63b7ebcf5", func := "deponent/deponentlaw11.KeysRing", spec := "keysRing", named := ["deponent/sha.roundWords"], apart := false, laid := [("deponent/sha.roundWords", laid_deponent_sha_roundWords)], narrowed := true }
def KeysRingUptoSaid : Prop := keysRingUptoRow.holds Tryd.pinned (OpenSpec.upto keysRingSpec)

/-- 'deponentlaw11.KeysApart', WHERE WHAT IT READS IS OF BULK AT MOST 1048576: true; the input reads as it did. -/
def keysApartUptoRow : OpenClaim := { program := "ytllcnppcncegpaadoor", sum := "887df17d17342db5338da3d47c68326f356be5b60dc6f027f755b6f63b7ebcf5", func := "deponent/deponentlaw11.KeysApart", spec := "keysApart", named := ["deponent/sha.roundWords"], apart := false, laid := [("deponent/sha.roundWords", laid_deponent_sha_roundWords)], narrowed := true }
def KeysApartUptoSaid : Prop := keysApartUptoRow.holds Tryd.pinned (OpenSpec.upto keysApartSpec)

/-- 'deponentlaw11.KeysAlike', WHERE WHAT IT READS IS OF BULK AT MOST 1048576: true; the input reads as it did. -/
def keysAlikeUptoRow : OpenClaim := { program := "ytllcnppcncegpaadoor", sum := "887df17d17342db5338da3d47c68326f356be5b60dc6f027f755b6f63b7ebcf5", func := "deponent/deponentlaw11.KeysAlike", spec := "keysAlike", named := ["deponent/sha.roundWords"], apart := false, laid := [("deponent/sha.roundWords", laid_deponent_sha_roundWords)], narrowed := true }
def KeysAlikeUptoSaid : Prop := keysAlikeUptoRow.holds Tryd.pinned (OpenSpec.upto keysAlikeSpec)

end Rows
end Go.Proofs.YtllcnppcncegpaaDoor
