/- below of the document's own answer: is a number, squared or cubed, at most p; nothing that was there changes. -/
import Derived.Test.YtkljajfgdelfgabDoorProduct
import Derived.Test.YtkljajfgdelfgabDoorJoin
namespace Go.Proofs.YtkljajfgdelfgabDoor
open Go.RowKit
theorem q64_arr (l : List Nat) (j y : Nat) : (q64 l).setIfInBounds j (.int .u64 (y : Int)) = q64 (l.set j y) := by
  apply Array.ext'
  simp [q64, List.map_set]
theorem stillBelow2 {w W : World} (h : Still w W) (B n m : Nat) : Below B w ((W.drewN n).drewN m) := ⟨h.2.1, h.2.2.1, h.2.2.2, by show w.heap.size ≤ W.heap.size; rw [h.1]; exact Nat.le_refl _, fun k _ => by show W.heap[k]? = w.heap[k]?; rw [h.1]⟩
theorem stillCell {w W : World} (h : Still w W) {a : Addr} {v : Value} (hc : w.cell? a = some v) : W.cell? a = some v := (World.cell?_of_block (w := w) (by rw [h.1])).trans hc
theorem want_sq (p : Nat) : P.val (((List.replicate 8 0).set 4 (p % 65536)).set 5 (p / 65536)) = p * 65536 ^ 4 := by
  simp only [List.replicate_succ, List.replicate_zero, List.set_cons_succ, List.set_cons_zero, P.val]
  omega
theorem want_cu (p : Nat) : P.val (((List.replicate 12 0).set 6 (p % 65536)).set 7 (p / 65536)) = p * 65536 ^ 6 := by
  simp only [List.replicate_succ, List.replicate_zero, List.set_cons_succ, List.set_cons_zero, P.val]
  omega
end Go.Proofs.YtkljajfgdelfgabDoor
namespace Go.Proofs.YtkljajfgdelfgabDoor
open Go.RowKit
end Go.Proofs.YtkljajfgdelfgabDoor
