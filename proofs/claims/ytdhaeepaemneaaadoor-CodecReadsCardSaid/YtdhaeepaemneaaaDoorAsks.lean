/- Calls that came in: what is asked. -/
import Derived.Test.YtdhaeepaemneaaaDoorFrames
namespace Go.Proofs.YtdhaeepaemneaaaDoor
open Go.RowKit
/-- One call: which, a number, a size, bytes. -/
structure S.Ask where
  kind : Int
  n : Nat
  size : Int
  b : List UInt8
  v : Value
/-- The calls of a list that came in. -/
def AsksAt (w : World) (ao : Option Addr) (len : Nat) (qs : List S.Ask) : Prop :=
  len = qs.length ∧ (0 < len → ∃ b off, ao = some ⟨b, off, none⟩ ∧ b < w.heap.size ∧ ∀ j, j < len → ∃ q : S.Ask, w.cell? ⟨b, off + j * 4, none⟩ = some (.int .i64 q.kind) ∧ w.cell? ⟨b, off + j * 4 + 1, none⟩ = some (.int .u64 (q.n : Int)) ∧ w.cell? ⟨b, off + j * 4 + 2, none⟩ = some (.int .i64 q.size) ∧ w.cell? ⟨b, off + j * 4 + 3, none⟩ = some q.v ∧ SliceAt w q.v q.b ∧ q.b.length + 80 ≤ 140737488355328)
end Go.Proofs.YtdhaeepaemneaaaDoor
