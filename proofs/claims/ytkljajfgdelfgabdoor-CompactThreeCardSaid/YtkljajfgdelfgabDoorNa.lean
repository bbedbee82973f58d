/- The document's hasher: made, and what it hashes. -/
import Derived.Test.YtkljajfgdelfgabDoorMg
import Derived.Test.YtkljajfgdelfgabDoorRsum
namespace Go.Proofs.YtkljajfgdelfgabDoor
open Go.RowKit

theorem cells2 {w : World} {g : Nat} {a b : Value} {t : TypeId} (h : w.heap[g]? = some (.cells #[a, b] t (0, 0))) : w.cell? ⟨g, 0, none⟩ = some a ∧ w.cell? ⟨g, 1, none⟩ = some b :=
  ⟨(cell_of_row w g 0 _ _ _ h).trans rfl, (cell_of_row w g 1 _ _ _ h).trans rfl⟩
theorem own_one {w : World} {g : Nat} {x : UInt8} {c : Int} {B : Nat} (hc : c = (x.toNat : Int)) (h : w.heap[g]? = some (.cells #[.int .u8 c] 5 (0, 0))) (hB : B ≤ g) : Own w B (.slice (some ⟨g, 0, none⟩) 1 1) [x] := by
  refine ⟨⟨rfl, Or.inr ⟨g, 1, _, rfl, hB, h, by simp, by simp [maxLen], rfl, ?_⟩⟩, g, 1, rfl⟩
  rw [hc]; rfl
end Go.Proofs.YtkljajfgdelfgabDoor
