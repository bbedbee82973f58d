/- The document's hash of a leaf and of a node. -/
import Derived.Test.YtkljajfgdelfgabDoorNa
import Derived.Test.YtkljajfgdelfgabDoorMj
namespace Go.Proofs.YtkljajfgdelfgabDoor
open Go.RowKit

/-- A digest is loaded out of a variable of its own. -/
theorem load_dig {w : World} {g : Nat} {D : List UInt8} (h : w.heap[g]? = some (.cells (S.v8 D) 42 (0, 0))) (hD : D.length = 32) : (Instr.loadAt 42 (.pointer (some ⟨g, 0, none⟩))).run Tryd.prog w = .ok (.agg (S.v8 D)) w := by
  have hr := run_loadVar_mid (P := Tryd.prog) w g 0 42 (S.v8l D) _ (rangeAt_row (cs := S.v8l D) h) Tryd.underlying42 rfl (by rw [S.v8l_length, hD]; exact size23)
  simp only [Instr.loadAt, Instr.sureAddr, Sem.run_bind, Sem.run_pure, Result.andThen_ok, hr]
  rfl
end Go.Proofs.YtkljajfgdelfgabDoor
namespace Go.Proofs.YtkljajfgdelfgabDoor
open Go.RowKit

end Go.Proofs.YtkljajfgdelfgabDoor
