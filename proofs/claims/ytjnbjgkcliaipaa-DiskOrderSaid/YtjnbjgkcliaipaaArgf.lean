/- Arguments that came in: a list of bytes, by its cells. -/
import Derived.Test.YtjnbjgkcliaipaaArgn
import Derived.Test.YtjnbjgkcliaipaaArgc
namespace Go.Proofs.Ytjnbjgkcliaipaa
open Go.ChangeShapes Go.WideShapes Go.ChangeAt Go.RowKit
theorem open_fills {H : Type} {enc : TypeId × Value → H} {W : World} {a0 : Option Addr} {len0 cap0 : Nat} {d0 : DataW H} {p0 : List MemPlace} {base : Nat} {held : Bool}
    (h0 : DataW.Trod enc Try.prog W base (fun _ => true) held 29 (.slice a0 len0 cap0) d0 p0) : ∃ fs : List UInt8, 0 < len0 → ∃ b off, a0 = some ⟨b, off, none⟩ ∧ b < W.heap.size ∧ ∀ j, j < len0 → W.cell? ⟨b, off + j, none⟩ = some (.int .u8 ((fs.getD j 0).toNat : Int)) := by
  obtain ⟨zs, ⟨hl, hz⟩, hw⟩ := open_nums Try.underlying29 Try.underlying5 (by kernel_rfl) h0
  refine ⟨zs.map fun z => UInt8.ofNat z.toNat, fun hp => ?_⟩
  obtain ⟨b, off, h1, h2, h3⟩ := hz hp
  refine ⟨b, off, h1, h2, fun j hj => ?_⟩
  rw [h3 j hj]
  have hj' : j < zs.length := by omega
  have e1 : zs[j]? = some (zs[j]'hj') := List.getElem?_eq_getElem hj'
  have hb := wf_u8_ends (hw _ (List.getElem_mem hj'))
  simp only [List.getD_eq_getElem?_getD, List.getElem?_map, e1, Option.map_some, Option.getD_some, UInt8.toNat_ofNat']
  congr 2
  omega
end Go.Proofs.Ytjnbjgkcliaipaa
