/- Two lists of texts that read the same are the same. -/
import Derived.Test.YtlbggkmblkhjoaaDoorOd
import Derived.Laws.IdiomStrings
import Derived.Lib.BufferRead
namespace Go.Proofs.YtlbggkmblkhjoaaDoor
open Go.RowKit

theorem conv_slice {w : World} {v : Value} {bs : List UInt8} (h : SliceAt w v bs) : (convert 25 9 v).run Tryd.prog w = .ok (.string ⟨bs.toArray⟩) w := by
  rcases h with ⟨rfl, rfl⟩ | ⟨a, cap, rfl, _, rfl⟩ | ⟨b, off, cap, rfl, h1, h2, h3, h4⟩
  · exact Lib.run_convert_nil_bytes w 25 9 5 0 Tryd.underlying25 Tryd.underlying5 Tryd.underlying9
  · exact run_convert_bytes_back w 25 9 5 a cap [] Tryd.underlying25 Tryd.underlying5 Tryd.underlying9 (fun j hj => by simp at hj)
  · refine run_convert_bytes_back w 25 9 5 ⟨b, off, none⟩ cap bs Tryd.underlying25 Tryd.underlying5 Tryd.underlying9 (fun j hj => ?_)
    rw [Addr.add_lit, h4 j hj, List.getD_eq_getElem?_getD, List.getElem?_eq_getElem hj]
    rfl
end Go.Proofs.YtlbggkmblkhjoaaDoor
