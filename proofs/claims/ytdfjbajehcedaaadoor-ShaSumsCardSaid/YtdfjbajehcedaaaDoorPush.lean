/- One byte behind a []byte of the call's own. -/
import Derived.Test.YtdfjbajehcedaaaDoorAppends
import Derived.Test.YtdfjbajehcedaaaDoorPad
namespace Go.Proofs.YtdfjbajehcedaaaDoor
open Go.RowKit
theorem one_at {w : World} {g : Nat} {x : UInt8} {t : TypeId} (h : w.heap[g]? = some (.cells #[.int .u8 (x.toNat : Int)] t (0, 0))) : SliceAt w (.slice (some ⟨g, 0, none⟩) 1 1) [x] :=
  Or.inr (Or.inr ⟨g, 0, 1, rfl, Nat.le_refl _, by simp, block_lt_of_row h, fun j hj => by
    obtain rfl : j = 0 := by simpa using hj
    rw [Nat.zero_add, cell_of_row w g 0 _ t _ h]
    rfl⟩)
theorem run_push (w : World) (base : Nat) (v : Value) (bs : List UInt8) (x : UInt8) (c : Int) (hc : c = (x.toNat : Int)) (ty : TypeId) (hown : Own w base v bs) (hb : bs.length + 1 ≤ 140737488355328) (hbase : base ≤ w.heap.size) :
    ∃ v' w', (Builtin.append_ #[26, 26] ty #[v, .slice (some ⟨w.heap.size, 0, none⟩) 1 1]).run Tryd.prog (w.alloc (.cells #[.int .u8 c] 5)) = .ok v' w' ∧ (Own w' base v' (bs ++ [x]) ∧ Below base w w') := by
  have hA : Below w.heap.size w (w.alloc (.cells #[.int .u8 c] 5)) := (Below.refl _ _).alloc (Nat.le_refl _) _
  have hrow : (w.alloc (.cells #[.int .u8 c] 5)).heap[w.heap.size]? = some (.cells #[.int .u8 (x.toNat : Int)] 5 (0, 0)) := by rw [← hc]; exact heap_alloc_new _ _
  obtain ⟨v', w', h1, h2, h3⟩ := run_append_bytes (w.alloc (.cells #[.int .u8 c] 5)) base v _ bs [x] ty (hown.below hA (Nat.le_refl _)) (one_at hrow) (by simpa using hb) (Nat.le_trans hbase hA.size)
  exact ⟨v', w', h1, h2, (hA.mono hbase).trans h3⟩
theorem own_empty (w : World) (B : Nat) (hB : B ≤ w.heap.size) : Own (w.alloc (.cells #[] 5)) B (.slice (some ⟨w.heap.size, 0, none⟩) 0 0) [] :=
  ⟨World.ownsRow_lit w #[] 0 hB (Nat.zero_le _) rfl, _, _, rfl⟩
/-- append([]byte{}, x...): a copy of x, in a block that is not below base. -/
theorem run_dup (W : World) (base : Nat) (u : Value) (xs : List UInt8) (ty : TypeId) (hu : SliceAt W u xs) (hb : xs.length ≤ 140737488355328) (hbase : base ≤ W.heap.size) :
    ∃ v' w', (Builtin.append_ #[26, 26] ty #[.slice (some ⟨W.heap.size, 0, none⟩) 0 0, u]).run Tryd.prog (W.alloc (.cells #[] 5)) = .ok v' w' ∧ (Own w' base v' xs ∧ Below base W w') := by
  have hA : Below W.heap.size W (W.alloc (.cells #[] 5)) := (Below.refl _ _).alloc (Nat.le_refl _) _
  obtain ⟨v', w', h1, h2, h3⟩ := run_append_bytes (W.alloc (.cells #[] 5)) base _ u [] xs ty (own_empty W _ hbase) (hu.below hA (Nat.le_refl _)) (by simpa using hb) (Nat.le_trans hbase hA.size)
  exact ⟨v', w', h1, h2, (hA.mono hbase).trans h3⟩
def vlen : Value → Nat
  | .slice _ n _ => n
  | _ => 0
theorem Own.form {w : World} {base : Nat} {v : Value} {bs : List UInt8} (h : Own w base v bs) : ∃ g cap, v = .slice (some ⟨g, 0, none⟩) bs.length cap := h.2
end Go.Proofs.YtdfjbajehcedaaaDoor
