/- Clone and SortFunc of one sheet. -/
/- inOrder of one sheet. -/
/- putSpares of one sheet; setOf of one sheet. -/
import Derived.Test.YthjlhngjpbmieaaGreatDoorJc
import Derived.Test.YthjlhngjpbmieaaGreatDoorJa
namespace Go.Proofs.YthjlhngjpbmieaaGreatDoor
open Go.RowKit

theorem info37 : (Tryz.prog.info? 37).map (fun i => (i.zero, i.size, i.bytes)) = some (some (.agg #[.int .i64 0, .slice none 0 0]), 2, 32) := by kernel_rfl
theorem eql_nil38 (a : Addr) (n cap : Nat) (W : World) : (binOp .eql 38 (.slice (some a) n cap) (.slice none 0 0)).run Tryz.prog W = .ok (.bool false) W :=
  by
    have h : ∀ d : Nat, (Op.equalIn (d + 1) 38 (.slice (some a) n cap) (.slice none 0 0)).run Tryz.prog W = .ok false W := fun d => by
      simp [Op.equalIn, run_underlying Tryz.underlying38]
    simp only [binOp]
    simp [Op.equal, Op.maxDepth, h 9999]
end Go.Proofs.YthjlhngjpbmieaaGreatDoor
namespace Go.Proofs.YthjlhngjpbmieaaGreatDoor
open Go.RowKit

theorem sh_cells {w : World} {g : Nat} {x y : Value} (h : w.heap[g]? = some (.cells #[x, y] 37 (0, 0))) : w.cell? ⟨g, 0, none⟩ = some x ∧ w.cell? ⟨g, 1, none⟩ = some y :=
  ⟨by rw [cell_of_row w g 0 _ 37 _ h]; rfl, by rw [cell_of_row w g 1 _ 37 _ h]; rfl⟩
end Go.Proofs.YthjlhngjpbmieaaGreatDoor
namespace Go.Proofs.YthjlhngjpbmieaaGreatDoor
open Go.RowKit

end Go.Proofs.YthjlhngjpbmieaaGreatDoor
