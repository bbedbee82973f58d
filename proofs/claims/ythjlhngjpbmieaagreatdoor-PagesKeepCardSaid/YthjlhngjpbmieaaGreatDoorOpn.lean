/- From a row's own conditions to the walks': the laid table is the one of the hashes; one start fits. -/
import Derived.Test.YthjlhngjpbmieaaGreatDoorQn
import Derived.Test.YthjlhngjpbmieaaGreatDoorRows
import Derived.Lib.LaidTab
import Derived.ProofKit
import Derived.LaidMore
import Derived.OpenShut
import Derived.ShutString
import Derived.ChangeOld
import Derived.Stop.Joined
import Derived.SizedLaws
import Derived.Lay
namespace Go.Proofs.YthjlhngjpbmieaaGreatDoor
open Go.ChangeShapes Go.WideShapes Go.ChangeAt Go.RowKit
theorem own : ownKnob Tryz.prog.godebug = none := by kernel_rfl
theorem laidOut : laidOutB Tryz.prog = true := by kernel_rfl
theorem gK : Tryz.prog.globalNamed "deponent/sha.roundWords" = some 0 := by kernel_rfl
theorem tK : (Tryz.prog.globals[0]?).map (·.type) = some 196 := by kernel_rfl
theorem cells48 : Tryz.prog.cellsOf 157 = 1 := by kernel_rfl
theorem cells52 : Tryz.prog.cellsOf 196 = 64 := by kernel_rfl
theorem wf_i64_ends {n : Int} (h : (Lit.int .i64 n).wf = true) : -9223372036854775808 ≤ n ∧ n ≤ 9223372036854775807 := by
  simp [Lit.wf, IntKind.min, IntKind.max, IntKind.signed, IntKind.bits] at h
  omega
def laidL : List (String × DataW Unit) := [("deponent/sha.roundWords", Rows.laid_deponent_sha_roundWords), ("unicode/utf8.acceptRanges", Rows.laid_unicode_utf8_acceptRanges), ("unicode/utf8.first", Rows.laid_unicode_utf8_first)]
theorem K_of_laid {W : World} (h : laidMetH Tryz.prog laidL W) : KAt W := by
  rw [MakeChecks.laidMetH_plain _ _ _ (by kernel_rfl)] at h
  have ht : Lib.TabIs Tryz.prog W "deponent/sha.roundWords" .u32 (S.K.map fun x => (x.toNat : Int)) :=
    Lib.tabIs_of_head gK tK Tryz.underlying196 Tryz.underlying157 cells48 cells52 h
  intro j hj
  have := ht.cell gK j (by rw [List.length_map]; exact hj)
  rw [this]
  simp [List.getD_eq_getElem?_getD, show j < S.K.length from hj]
end Go.Proofs.YthjlhngjpbmieaaGreatDoor
