/- bringHome of one page. -/
/- Put of one sheet. -/
import Derived.Test.YthjlhngjpbmieaaGreatDoorJe
namespace Go.Proofs.YthjlhngjpbmieaaGreatDoor
open Go.RowKit

end Go.Proofs.YthjlhngjpbmieaaGreatDoor
namespace Go.Proofs.YthjlhngjpbmieaaGreatDoor
open Go.RowKit

theorem set_row {w : World} {g : Nat} {xs : List UInt8} {t : TypeId} (h : w.heap[g]? = some (.cells (S.v8 xs) t (0, 0))) (hl : xs.length = 64) : SliceAt w (.slice (some ⟨g, 0, none⟩) 64 64) xs :=
  Or.inr (Or.inr ⟨g, 0, 64, by rw [hl], by omega, by omega, block_lt_of_row h, fun j hj => by rw [Nat.zero_add]; exact v8_cell h j hj⟩)
end Go.Proofs.YthjlhngjpbmieaaGreatDoor
