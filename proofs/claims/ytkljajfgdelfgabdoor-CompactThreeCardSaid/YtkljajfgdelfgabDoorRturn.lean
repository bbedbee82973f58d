/- turn of the document's own answer: a word turned to the right; nothing changes. -/
import Derived.Test.YtkljajfgdelfgabDoorLeaf
namespace Go.Proofs.YtkljajfgdelfgabDoor
open Go.RowKit
theorem u32_or_swap (a b : Int) : bits .or .u32 a b = bits .or .u32 b a := by simp only [bits, BitVec.or_comm]
end Go.Proofs.YtkljajfgdelfgabDoor
