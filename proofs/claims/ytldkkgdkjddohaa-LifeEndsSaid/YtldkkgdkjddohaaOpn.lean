/- From a row's own conditions to the walks': what came in. -/
import Derived.Test.YtldkkgdkjddohaaRows
import Derived.Test.YtldkkgdkjddohaaBase
import Derived.ProofKit
import Derived.OpenShut
import Derived.ShutString
import Derived.ChangeOld
import Derived.SizedLaws
import Derived.Deep.Strs
namespace Go.Proofs.Ytldkkgdkjddohaa
open Go.ChangeShapes Go.WideShapes Go.ChangeAt Go.RowKit
theorem own : ownKnob Try.prog.godebug = none := by kernel_rfl
theorem laidOut : laidOutB Try.prog = true := by kernel_rfl
theorem cellsOf3 : Try.prog.cellsOf 3 = 1 := by kernel_rfl
def IntsAt (kd : IntKind) (w : World) (ao : Option Addr) (len : Nat) (zs : List Int) : Prop :=
  len = zs.length ∧ (0 < len → ∃ b off, ao = some ⟨b, off, none⟩ ∧ b < w.heap.size ∧ ∀ j, j < len → w.cell? ⟨b, off + j, none⟩ = some (.int kd (zs.getD j 0)))
/-- A slice of numbers that came in is just that. -/
theorem open_nums {H : Type} {enc : TypeId × Value → H} {W : World} {a0 : Option Addr} {len0 cap0 : Nat} {d0 : DataW H} {p0 : List MemPlace} {base : Nat} {held : Bool} {t e : TypeId} {kd : IntKind}
    (ht : Try.prog.underlying t = some (.slice e)) (he : Try.prog.underlying e = some (.int kd)) (hc : Try.prog.cellsOf e = 1)
    (h0 : DataW.Trod enc Try.prog W base (fun _ => true) held t (.slice a0 len0 cap0) d0 p0) : ∃ zs, IntsAt kd W a0 len0 zs ∧ ∀ n ∈ zs, (Lit.int kd n).wf = true := by
  obtain ⟨fuel, hf⟩ := h0
  rcases open_ints ht he hc hf with ⟨hcs, _⟩ | ⟨x, l, c, zs, hcs, _, hl, hm, hz, hx, hcell, hwz⟩
  · simp [Value.cells] at hcs
    obtain ⟨rfl, rfl, rfl⟩ := hcs
    exact ⟨[], ⟨rfl, fun h => by omega⟩, fun n h => by cases h⟩
  · simp [Value.cells] at hcs
    obtain ⟨rfl, rfl, rfl⟩ := hcs
    have hzc : zs.length = cap0 := by simpa using hz
    refine ⟨zs.take len0, ⟨by rw [List.length_take]; omega, fun hp => ?_⟩, fun n hn => hwz n (List.mem_of_mem_take hn)⟩
    obtain ⟨b, off, rfl, hc'⟩ := ints_at hcell (by omega)
    refine ⟨b, off, rfl, block_lt_of_cell (hc' 0 (by omega)), fun j hj => ?_⟩
    rw [hc' j (by omega)]
    simp only [List.getD_eq_getElem?_getD, List.getElem?_take, hj, if_true]

/-- A list of numbers that came in, as the walk reads it. -/
theorem open_list {H : Type} {enc : TypeId × Value → H} {W : World} {a0 : Option Addr} {len0 cap0 : Nat} {d0 : DataW H} {p0 : List MemPlace} {held : Bool}
    (h0 : DataW.Trod enc Try.prog W 0 (fun _ => true) held 22 (.slice a0 len0 cap0) d0 p0) : ∃ zs : List Int, 0 < len0 → ∃ b off, a0 = some ⟨b, off, none⟩ ∧ b < W.heap.size ∧ ∀ j, j < len0 → W.cell? ⟨b, off + j, none⟩ = some (.int .i64 (zs.getD j 0)) := by
  obtain ⟨zs, ⟨_, hz⟩, _⟩ := open_nums Try.underlying22 Try.underlying3 (by kernel_rfl) h0
  exact ⟨zs, hz⟩
end Go.Proofs.Ytldkkgdkjddohaa
