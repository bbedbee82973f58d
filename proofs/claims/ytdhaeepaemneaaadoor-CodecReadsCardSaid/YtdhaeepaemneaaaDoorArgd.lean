/- Arguments that came in: a digest is 32 bytes; a number of 64 bits, a byte. -/
import Derived.Test.YtdhaeepaemneaaaDoorArgs
namespace Go.Proofs.YtdhaeepaemneaaaDoor
open Go.ChangeShapes Go.WideShapes Go.ChangeAt Go.RowKit
theorem wf_u64_ends {n : Int} (h : (Lit.int .u64 n).wf = true) : 0 ≤ n ∧ n < 18446744073709551616 := by
  simp [Lit.wf, IntKind.min, IntKind.max, IntKind.signed, IntKind.bits] at h
  omega
theorem wf_u8_ends {n : Int} (h : (Lit.int .u8 n).wf = true) : 0 ≤ n ∧ n < 256 := by
  simp [Lit.wf, IntKind.min, IntKind.max, IntKind.signed, IntKind.bits] at h
  omega
theorem cells40 : Tryd.prog.cellsOf 40 = 32 := by kernel_rfl
theorem cells5 : Tryd.prog.cellsOf 5 = 1 := by kernel_rfl
theorem byte_of {n : Int} (h : (Lit.int .u8 n).wf = true) : ∃ x : UInt8, Value.int .u8 n = .int .u8 (x.toNat : Int) := by
  have b := wf_u8_ends h
  refine ⟨UInt8.ofNat n.toNat, ?_⟩
  rw [UInt8.toNat_ofNat']
  congr 1
  omega
def byteAt : Value → UInt8
  | .int _ n => UInt8.ofNat n.toNat
  | _ => 0
set_option maxRecDepth 100000 in
/-- A digest that came in is 32 bytes. -/
theorem open_digest {H : Type} {enc : TypeId × Value → H} {W : World} {r : Reach} {b0 base : Nat} {spare : Nat → Bool} {held : Bool} {v : Value} {d : DataW H} {p : List MemPlace}
    (hv : Value.okWide Tryd.prog W r b0 40 v) (h : DataW.Trod enc Tryd.prog W base spare held 40 v d p) : ∃ l : List UInt8, l.length = 32 ∧ v = .agg (S.v8 l) := by
  have hs : ∃ cs, v = .agg cs ∧ cs.size = Tryd.prog.cellsOf 40 := by
    simp only [Value.okWide, Tryd.underlying40] at hv
    obtain ⟨cs, h1, h2, _⟩ := hv
    exact ⟨cs, h1, h2⟩
  obtain ⟨cs, rfl, hsz⟩ := hs
  rw [cells40] at hsz
  obtain ⟨fuel, hf⟩ := h
  obtain ⟨xs, m, _, _, _, hxl, hx⟩ := DataW.trod_array Tryd.underlying40 hf
  have key : ∀ i, i < 32 → ∃ x : UInt8, cs.toList[i]? = some (.int .u8 (x.toNat : Int)) := fun i hi => by
    have h1 := hx i hi
    rw [cells5, Nat.mul_one] at h1
    have h2 : xs[i]? = some (xs[i]'(by omega)) := List.getElem?_eq_getElem (by omega)
    rw [h2] at h1
    obtain ⟨n, hn, _, hw⟩ := DataW.trod_int Tryd.underlying5 h1
    obtain ⟨x, hxx⟩ := byte_of hw
    refine ⟨x, ?_⟩
    rw [← hxx]
    have h3 : (((Value.agg cs).cells.toList.drop i).take 1)[0]? = some (.int .u8 n) := by rw [hn]; rfl
    simpa [Value.cells] using h3
  have hl : cs.toList.length = 32 := by simpa using hsz
  refine ⟨cs.toList.map byteAt, by rw [List.length_map]; exact hl, ?_⟩
  refine congrArg Value.agg ?_
  apply Array.ext'
  apply List.ext_getElem?
  intro i
  by_cases hi : i < 32
  · obtain ⟨x, hx⟩ := key i hi
    rw [hx]
    simp [S.v8, List.getElem?_map, hx, byteAt]
  · rw [List.getElem?_eq_none (by omega), List.getElem?_eq_none (by simp [S.v8]; omega)]
end Go.Proofs.YtdhaeepaemneaaaDoor
