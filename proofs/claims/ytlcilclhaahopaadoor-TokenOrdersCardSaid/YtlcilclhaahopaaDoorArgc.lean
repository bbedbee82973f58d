/- Arguments that came in: a caveat, a number. -/
import Derived.Test.YtlcilclhaahopaaDoorZe
import Derived.Test.YtlcilclhaahopaaDoorTc
import Derived.Deep.Strs
namespace Go.Proofs.YtlcilclhaahopaaDoor
open Go.RowKit

open Go.ChangeShapes Go.WideShapes Go.ChangeAt
theorem wf_u32_ends {n : Int} (h : (Lit.int .u32 n).wf = true) : 0 ≤ n ∧ n < 4294967296 := by
  simp [Lit.wf, IntKind.min, IntKind.max, IntKind.signed, IntKind.bits] at h
  omega
theorem cellsI : Tryd.prog.cellsOf 3 = 1 := by kernel_rfl
theorem cellsV : Tryd.prog.cellsOf 22 = 1 := by kernel_rfl
theorem cellsC : Tryd.prog.cellsOf 42 = 2 := by kernel_rfl
theorem two {cs : List Value} (h : cs.length = 2) : ∃ c0 c1, cs = [c0, c1] := by
  match cs, h with
  | [c0, c1], _ => exact ⟨c0, c1, rfl⟩
set_option maxRecDepth 100000 in
/-- The cells of a caveat that can be read. -/
theorem cav_cells {H : Type} {enc : TypeId × Value → H} {W : World} {base fuel : Nat} {spare : Nat → Bool} {held : Bool} {cs : List Value} {y : DataW H × List MemPlace} (hl : cs.length = 2)
    (h : DataW.trod enc Tryd.prog W base spare held fuel 42 cs = some y) : ∃ x : S.Cv, x.Ok ∧ cs = encC x := by
  obtain ⟨xs, n, _, _, _, hlen, hf⟩ := DataW.trod_struct Tryd.underlying42 h
  match xs, hlen with
  | [y0, y1], _ =>
    have h0 : DataW.trod enc Tryd.prog W base spare held n 3 ((cs.drop 0).take (Tryd.prog.cellsOf 3)) = some y0 := hf 0 _ rfl
    have h1 : DataW.trod enc Tryd.prog W base spare held n 22 ((cs.drop 1).take (Tryd.prog.cellsOf 22)) = some y1 := hf 1 _ rfl
    rw [cellsI] at h0
    rw [cellsV] at h1
    obtain ⟨n0, e0, _, w0⟩ := DataW.trod_int Tryd.underlying3 h0
    obtain ⟨n1, e1, _, w1⟩ := DataW.trod_int Tryd.underlying22 h1
    have b0 := wf_i64_ends w0
    have b1 := wf_u32_ends w1
    obtain ⟨m1, rfl⟩ := Int.eq_ofNat_of_zero_le b1.1
    refine ⟨⟨n0, m1⟩, ⟨b0.1, b0.2, by show m1 < _; omega⟩, ?_⟩
    obtain ⟨c0, c1, rfl⟩ := two hl
    simp at e0 e1
    rw [encC, e0, e1]
    try rfl
set_option maxRecDepth 100000 in
theorem open_cav {H : Type} {enc : TypeId × Value → H} {W : World} {r : Reach} {b0 base : Nat} {spare : Nat → Bool} {held : Bool} {v : Value} {d : DataW H} {p : List MemPlace}
    (hv : Value.okWide Tryd.prog W r b0 42 v) (h : DataW.Trod enc Tryd.prog W base spare held 42 v d p) : ∃ x : S.Cv, x.Ok ∧ v = .agg (encC x).toArray := by
  have hs : ∃ cs, v = .agg cs ∧ cs.size = Tryd.prog.cellsOf 42 := by
    simp only [Value.okWide, Tryd.underlying42] at hv
    obtain ⟨cs, h1, h2, _⟩ := hv
    exact ⟨cs, h1, h2⟩
  obtain ⟨cs, rfl, hsz⟩ := hs
  rw [cellsC] at hsz
  obtain ⟨fuel, hf⟩ := h
  obtain ⟨x, h1, h2⟩ := cav_cells (cs := cs.toList) (by simpa using hsz) (by simpa [Value.cells] using hf)
  refine ⟨x, h1, congrArg Value.agg ?_⟩
  apply Array.ext'
  rw [h2]
end Go.Proofs.YtlcilclhaahopaaDoor
