/-
  No cell of these rows narrows 'for every input' (looked for: loops, veiled, ifaces, maps, wideKeys, modest, calm, conditions, laid).
  DERIVED. THE GIVEN ROWS OF THIS SEAT. 4 by the template 'for every input the law returns true; each argument reads behind the call as it read before'; 0 by the template 'total and deterministic' (their statements: YtghcgkcojgmbkaaTotals.lean).
  GIVEN WITH THE SEED: the statements are not yours to turn. If you find one false, say at which input.
  Laid BY PROGRAM, IN A SANDBOX (cutbox-rows.mjs): the forced cells as the released guide's own fill.sh prints them over the translation 604bd0b22e53a05f… (all of the seat's roots in one cut). By AI agents, Wed Nov 11 2026. No macro, syntax, notation, axiom, sorry.
-/
import Derived.Test.YtghcgkcojgmbkaaChecked
import GoSem.Claim
import GoSem.ClaimJoined
import GoSem.ClaimMapViews
import Derived.JoinedTies
import Derived.KernelRfl
namespace Go.Proofs.Ytghcgkcojgmbkaa
/- THE CELL 'sum', in the pinned program and in every row, IS THE sha256 OF THE DUMP (.gsa) THAT YtghcgkcojgmbkaaProg.lean LOADS. Nothing in Lean hashes anything: it is a label: what it is worth is what the hold of that sum in a sandbox is worth. -/
noncomputable def Try.pinned : Pinned := { name := "ytghcgkcojgmbkaa", sum := "604bd0b22e53a05f9c1ab189aa4ac939fe29dc6c1dc90599905d58a8fb716203", checked := Try.checked }
namespace Rows
def none {H : Type} : Left H := { results := [], args := [] }

/-- 'deponentlaw15.QueueNumbers': WHATEVER THE INPUT: true; the input reads as it did. -/
def queueNumbersSpec : ChangeSpec := { name := "queueNumbers", fn := fun _ => fun
  | [] => { results := [.lit (.bool true)], args := [] }
  | _ => none }
def queueNumbersRow : OpenClaim := { program := "ytghcgkcojgmbkaa", sum := "604bd0b22e53a05f9c1ab189aa4ac939fe29dc6c1dc90599905d58a8fb716203", func := "deponent/deponentlaw15.QueueNumbers", spec := "queueNumbers", unfollowed := true, recurses := true, apart := false }
def QueueNumbersSaid : Prop := queueNumbersRow.holds Try.pinned (OpenSpec.ofChange queueNumbersSpec)

/-- ITS FALSE NEIGHBOUR: 'it returns false'. Refute it at one input. -/
def queueNumbersWrong : ChangeSpec := { name := "queueNumbers", fn := fun _ => fun
  | [] => { results := [.lit (.bool false)], args := [] }
  | _ => none }
def QueueNumbersWrongFalsely : Prop := queueNumbersRow.holds Try.pinned (OpenSpec.ofChange queueNumbersWrong)

/-- 'deponentlaw15.QueuePlays': WHATEVER THE INPUT: true; the input reads as it did. -/
def queuePlaysSpec : ChangeSpec := { name := "queuePlays", fn := fun _ => fun
  | [d] => { results := [.lit (.bool true)], args := [d] }
  | _ => none }
def queuePlaysRow : OpenClaim := { program := "ytghcgkcojgmbkaa", sum := "604bd0b22e53a05f9c1ab189aa4ac939fe29dc6c1dc90599905d58a8fb716203", func := "deponent/deponentlaw15.QueuePlays", spec := "queuePlays", unfollowed := true, recurses := true, apart := false }
def QueuePlaysSaid : Prop := queuePlaysRow.holds Try.pinned (OpenSpec.ofChange queuePlaysSpec)

/-- ITS FALSE NEIGHBOUR: 'it returns false'. Refute it at one input. -/
def queuePlaysWrong : ChangeSpec := { name := "queuePlays", fn := fun _ => fun
  | [d] => { results := [.lit (.bool false)], args := [d] }
  | _ => none }
def QueuePlaysWrongFalsely : Prop := queuePlaysRow.holds Try.pinned (OpenSpec.ofChange queuePlaysWrong)

/-- 'deponentlaw15.QueueKept': WHATEVER THE INPUT: true; the input reads as it did. -/
def queueKeptSpec : ChangeSpec := { name := "queueKept", fn := fun _ => fun
  | [d] => { results := [.lit (.bool true)], args := [d] }
  | _ => none }
def queueKeptRow : OpenClaim := { program := "ytghcgkcojgmbkaa", sum := "604bd0b22e53a05f9c1ab189aa4ac939fe29dc6c1dc90599905d58a8fb716203", func := "deponent/deponentlaw15.QueueKept", spec := "queueKept", unfollowed := true, recurses := true, apart := false }
def QueueKeptSaid : Prop := queueKeptRow.holds Try.pinned (OpenSpec.ofChange queueKeptSpec)

/-- ITS FALSE NEIGHBOUR: 'it returns false'. Refute it at one input. -/
def queueKeptWrong : ChangeSpec := { name := "queueKept", fn := fun _ => fun
  | [d] => { results := [.lit (.bool false)], args := [d] }
  | _ => none }
def QueueKeptWrongFalsely : Prop := queueKeptRow.holds Try.pinned (OpenSpec.ofChange queueKeptWrong)

/-- 'deponentlaw15.QueueAny': WHATEVER THE INPUT: true; the input reads as it did. -/
def queueAnySpec : ChangeSpec := { name := "queueAny", fn := fun _ => fun
  | [d] => { results := [.lit (.bool true)], args := [d] }
  | _ => none }
def queueAnyRow : OpenClaim := { program := "ytghcgkcojgmbkaa", sum := "604bd0b22e53a05f9c1ab189aa4ac939fe29dc6c1dc90599905d58a8fb716203", func := "deponent/deponentlaw15.QueueAny", spec := "queueAny", unfollowed := true, recurses := true, apart := false }
def QueueAnySaid : Prop := queueAnyRow.holds Try.pinned (OpenSpec.ofChange queueAnySpec)

/-- ITS FALSE NEIGHBOUR: 'it returns false'. Refute it at one input. -/
def queueAnyWrong : ChangeSpec := { name := "queueAny", fn := fun _ => fun
  | [d] => { results := [.lit (.bool false)], args := [d] }
  | _ => none }
def QueueAnyWrongFalsely : Prop := queueAnyRow.holds Try.pinned (OpenSpec.ofChange queueAnyWrong)

/- THE SECOND FORM. 'bulk': how many values and letters a reading holds, each counted each time it is reached (what is shared counts as often as it is met; a slice's spare places count too). A statement '..UptoSaid' is the law's where the arguments, and the package variables that the reading takes, are together of bulk at most 1048576: NARROWER than '..Said'. Prove '..Said' where nothing that the law and all that it calls make is longer than what came in: it says more and counts as full. Else prove '..UptoSaid'. A law counts once. -/
mutual
def uptoBulk {H : Type} : DataW H → Nat
  | .lit (.string bytes) => bytes.length + 1
  | .lit _ => 1
  | .nil => 1
  | .ptr d => uptoBulk d + 1
  | .slice elems spare => uptoBulkAll elems + uptoBulkAll spare + 1
  | .agg parts => uptoBulkAll parts + 1
  | .iface _ d => uptoBulk d + 1
  | .map entries => uptoBulkEntries entries + 1
  | .held _ => 1
def uptoBulkAll {H : Type} : List (DataW H) → Nat
  | [] => 0
  | d :: r => uptoBulk d + uptoBulkAll r
def uptoBulkEntries {H : Type} : List (Lit × DataW H) → Nat
  | [] => 0
  | x :: r => uptoBulkEntry x + uptoBulkEntries r
def uptoBulkEntry {H : Type} : Lit × DataW H → Nat
  | (.string bytes, d) => bytes.length + uptoBulk d + 1
  | (_, d) => uptoBulk d + 1
 end
def uptoSmall : (H : Type) → List (DataW H) → Bool := fun _ ds => decide (uptoBulkAll ds ≤ 1048576)
def OpenSpec.upto (s : _root_.Go.ChangeSpec) : _root_.Go.OpenSpec := { _root_.Go.OpenSpec.ofChange s with cond := some uptoSmall }

/-- 'deponentlaw15.QueueNumbers', WHERE WHAT IT READS IS OF BULK AT MOST 1048576: true; the input reads as it did. -/
def queueNumbersUptoRow : OpenClaim := { program := "ytghcgkcojgmbkaa", sum := "604bd0b22e53a05f9c1ab189aa4ac939fe29dc6c1dc90599905d58a8fb716203", func := "deponent/deponentlaw15.QueueNumbers", spec := "queueNumbers", unfollowed := true, recurses := true, apart := false, narrowed := true }
def QueueNumbersUptoSaid : Prop := queueNumbersUptoRow.holds Try.pinned (OpenSpec.upto queueNumbersSpec)

/-- 'deponentlaw15.QueuePlays', WHERE WHAT IT READS IS OF BULK AT MOST 1048576: true; the input reads as it did. -/
def queuePlaysUptoRow : OpenClaim := { program := "ytghcgkcojgmbkaa", sum := "604bd0b22e53a05f9c1ab189aa4ac939fe29dc6c1dc90599905d58a8fb716203", func := "deponent/deponentlaw15.QueuePlays", spec := "queuePlays", unfollowed := true, recurses := true, apart := false, narrowed := true }
def QueuePlaysUptoSaid : Prop := queuePlaysUptoRow.holds Try.pinned (OpenSpec.upto queuePlaysSpec)

/-- 'deponentlaw15.QueueKept', WHERE WHAT IT READS IS OF BULK AT MOST 1048576: true; the input reads as it did. -/
def queueKeptUptoRow : OpenClaim := { program := "ytghcgkcojgmbkaa", sum := "604bd0b22e53a05f9c1ab189aa4ac939fe29dc6c1dc90599905d58a8fb716203", func := "deponent/deponentlaw15.QueueKept", spec := "queueKept", unfollowed := true, recurses := true, apart := false, narrowed := true }
def QueueKeptUptoSaid : Prop := queueKeptUptoRow.holds Try.pinned (OpenSpec.upto queueKeptSpec)

/-- 'deponentlaw15.QueueAny', WHERE WHAT IT READS IS OF BULK AT MOST 1048576: true; the input reads as it did. -/
def queueAnyUptoRow : OpenClaim := { program := "ytghcgkcojgmbkaa", sum := "604bd0b22e53a05f9c1ab189aa4ac939fe29dc6c1dc90599905d58a8fb716203", func := "deponent/deponentlaw15.QueueAny", spec := "queueAny", unfollowed := true, recurses := true, apart := false, narrowed := true }
def QueueAnyUptoSaid : Prop := queueAnyUptoRow.holds Try.pinned (OpenSpec.upto queueAnySpec)

end Rows
end Go.Proofs.Ytghcgkcojgmbkaa
