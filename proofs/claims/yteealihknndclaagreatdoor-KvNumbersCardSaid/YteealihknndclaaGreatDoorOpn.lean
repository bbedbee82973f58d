/- From a row's own conditions to the walks': the laid table is the one of the hashes; one start fits. -/
import Derived.Test.YteealihknndclaaGreatDoorWc
import Derived.Test.YteealihknndclaaGreatDoorRows
import Derived.Lib.LaidTab
import Derived.ProofKit
import Derived.LaidMore
import Derived.OpenShut
import Derived.ShutString
import Derived.ChangeOld
import Derived.Stop.Joined
import Derived.SizedLaws
import Derived.Lay
namespace Go.Proofs.YteealihknndclaaGreatDoor
open Go.ChangeShapes Go.WideShapes Go.ChangeAt Go.RowKit
theorem own : ownKnob Tryz.prog.godebug = none := by kernel_rfl
theorem gK : Tryz.prog.globalNamed "deponent/sha.roundWords" = some 1 := by kernel_rfl
theorem tK : (Tryz.prog.globals[1]?).map (·.type) = some 319 := by kernel_rfl
theorem cells48 : Tryz.prog.cellsOf 281 = 1 := by kernel_rfl
theorem cells52 : Tryz.prog.cellsOf 319 = 64 := by kernel_rfl
def wS : List (String × DataW Unit) := [("deponent/sha.roundWords", Rows.laid_deponent_sha_roundWords), ("unicode/utf8.acceptRanges", Rows.laid_unicode_utf8_acceptRanges), ("unicode/utf8.first", Rows.laid_unicode_utf8_first)]
theorem uu {W : World} (h : laidMetH Tryz.prog wS W) : KAt W := by
 rw [MakeChecks.laidMetH_plain _ _ _ (by kernel_rfl)] at h
 have ht : Lib.TabIs Tryz.prog W "deponent/sha.roundWords" .u32 (S.K.map fun x => (x.toNat : Int)) :=
  Lib.tabIs_of_head gK tK Tryz.underlying319 Tryz.underlying281 cells48 cells52 h
 intro j hj
 have := ht.cell gK j (by rw [List.length_map]; exact hj)
 rw [this]
 simp [List.getD_eq_getElem?_getD, show j < S.K.length from hj]
theorem lt_of_K {W : World} (h : KAt W) : 1 < W.heap.size := World.block_lt_of_cell? W _ (h 0 (by decide))
end Go.Proofs.YteealihknndclaaGreatDoor
