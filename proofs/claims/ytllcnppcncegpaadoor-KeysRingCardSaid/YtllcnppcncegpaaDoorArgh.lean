/- Arguments that came in: a head, a signed head. -/
import Derived.Test.YtllcnppcncegpaaDoorZe
import Derived.Test.YtllcnppcncegpaaDoorKa
import Derived.Deep.Strs
namespace Go.Proofs.YtllcnppcncegpaaDoor
open Go.RowKit

open Go.ChangeShapes Go.WideShapes Go.ChangeAt
theorem wf_u32_ends {n : Int} (h : (Lit.int .u32 n).wf = true) : 0 ≤ n ∧ n < 4294967296 := by
  simp [Lit.wf, IntKind.min, IntKind.max, IntKind.signed, IntKind.bits] at h
  omega
theorem cellsI : Tryd.prog.cellsOf 3 = 1 := by kernel_rfl
theorem cellsU : Tryd.prog.cellsOf 28 = 1 := by kernel_rfl
theorem cellsH : Tryd.prog.cellsOf 32 = 36 := by kernel_rfl
theorem cellsS : Tryd.prog.cellsOf 34 = 68 := by kernel_rfl
theorem four {cs : List Value} (h : 4 ≤ cs.length) : ∃ c0 c1 c2 c3 rest, cs = c0 :: c1 :: c2 :: c3 :: rest := by
  match cs, h with
  | c0 :: c1 :: c2 :: c3 :: rest, _ => exact ⟨c0, c1, c2, c3, rest, rfl⟩
/-- The cells of a head that can be read. -/
theorem head_cells {H : Type} {enc : TypeId × Value → H} {W : World} {base fuel : Nat} {spare : Nat → Bool} {held : Bool} {cs : List Value} {y : DataW H × List MemPlace} (hl : cs.length = 36)
    (h : DataW.trod enc Tryd.prog W base spare held fuel 32 cs = some y) : ∃ x : S.Hd, x.Ok ∧ cs = encH x := by
  obtain ⟨xs, n, _, _, _, hlen, hf⟩ := DataW.trod_struct Tryd.underlying32 h
  match xs, hlen with
  | [y0, y1, y2, y3, y4], _ =>
    have h0 : DataW.trod enc Tryd.prog W base spare held n 3 ((cs.drop 0).take (Tryd.prog.cellsOf 3)) = some y0 := hf 0 _ rfl
    have h1 : DataW.trod enc Tryd.prog W base spare held n 3 ((cs.drop 1).take (Tryd.prog.cellsOf 3)) = some y1 := hf 1 _ rfl
    have h2 : DataW.trod enc Tryd.prog W base spare held n 28 ((cs.drop 2).take (Tryd.prog.cellsOf 28)) = some y2 := hf 2 _ rfl
    have h3 : DataW.trod enc Tryd.prog W base spare held n 28 ((cs.drop 3).take (Tryd.prog.cellsOf 28)) = some y3 := hf 3 _ rfl
    have h4 : DataW.trod enc Tryd.prog W base spare held n 30 ((cs.drop 4).take (Tryd.prog.cellsOf 30)) = some y4 := hf 4 _ rfl
    rw [cellsI] at h0 h1
    rw [cellsU] at h2 h3
    rw [cellsDg] at h4
    obtain ⟨n0, e0, _, w0⟩ := DataW.trod_int Tryd.underlying3 h0
    obtain ⟨n1, e1, _, w1⟩ := DataW.trod_int Tryd.underlying3 h1
    obtain ⟨n2, e2, _, w2⟩ := DataW.trod_int Tryd.underlying28 h2
    obtain ⟨n3, e3, _, w3⟩ := DataW.trod_int Tryd.underlying28 h3
    obtain ⟨r, r1, r2⟩ := digest_cells (cs := (cs.drop 4).take 32) (by rw [List.length_take, List.length_drop]; omega) h4
    have b0 := wf_i64_ends w0
    have b1 := wf_i64_ends w1
    have b2 := wf_u64_ends w2
    have b3 := wf_u64_ends w3
    obtain ⟨m2, rfl⟩ := Int.eq_ofNat_of_zero_le b2.1
    obtain ⟨m3, rfl⟩ := Int.eq_ofNat_of_zero_le b3.1
    refine ⟨⟨n0, n1, m2, m3, r⟩, ⟨b0.1, b0.2, b1.1, b1.2, by show m2 < _; omega, by show m3 < _; omega, r1⟩, ?_⟩
    rw [List.take_of_length_le (by rw [List.length_drop]; omega)] at r2
    obtain ⟨c0, c1, c2, c3, rest, rfl⟩ := four (cs := cs) (by omega)
    simp at e0 e1 e2 e3 r2
    rw [encH, e0, e1, e2, e3, r2]
set_option maxRecDepth 100000 in
theorem open_head {H : Type} {enc : TypeId × Value → H} {W : World} {r : Reach} {b0 base : Nat} {spare : Nat → Bool} {held : Bool} {v : Value} {d : DataW H} {p : List MemPlace}
    (hv : Value.okWide Tryd.prog W r b0 32 v) (h : DataW.Trod enc Tryd.prog W base spare held 32 v d p) : ∃ x : S.Hd, x.Ok ∧ v = .agg (encH x).toArray := by
  have hs : ∃ cs, v = .agg cs ∧ cs.size = Tryd.prog.cellsOf 32 := by
    simp only [Value.okWide, Tryd.underlying32] at hv
    obtain ⟨cs, h1, h2, _⟩ := hv
    exact ⟨cs, h1, h2⟩
  obtain ⟨cs, rfl, hsz⟩ := hs
  rw [cellsH] at hsz
  obtain ⟨fuel, hf⟩ := h
  obtain ⟨x, h1, h2⟩ := head_cells (cs := cs.toList) (by simpa using hsz) (by simpa [Value.cells] using hf)
  refine ⟨x, h1, congrArg Value.agg ?_⟩
  apply Array.ext'
  rw [h2]
set_option maxRecDepth 100000 in
theorem open_signed {H : Type} {enc : TypeId × Value → H} {W : World} {r : Reach} {b0 base : Nat} {spare : Nat → Bool} {held : Bool} {v : Value} {d : DataW H} {p : List MemPlace}
    (hv : Value.okWide Tryd.prog W r b0 34 v) (h : DataW.Trod enc Tryd.prog W base spare held 34 v d p) : ∃ x : S.Sg, x.h.Ok ∧ x.tag.length = 32 ∧ v = .agg (encG x).toArray := by
  have hs : ∃ cs, v = .agg cs ∧ cs.size = Tryd.prog.cellsOf 34 := by
    simp only [Value.okWide, Tryd.underlying34] at hv
    obtain ⟨cs, h1, h2, _⟩ := hv
    exact ⟨cs, h1, h2⟩
  obtain ⟨⟨cl⟩, rfl, hsz⟩ := hs
  rw [cellsS] at hsz
  replace hsz : cl.length = 68 := hsz
  obtain ⟨fuel, hf⟩ := h
  have hf2 : DataW.trod enc Tryd.prog W base spare held fuel 34 cl = some (d, p) := by simpa [Value.cells] using hf
  obtain ⟨xs, n, _, _, _, hlen, hg⟩ := DataW.trod_struct Tryd.underlying34 hf2
  match xs, hlen with
  | [y0, y1], _ =>
    have h0 : DataW.trod enc Tryd.prog W base spare held n 32 ((cl.drop 0).take (Tryd.prog.cellsOf 32)) = some y0 := hg 0 _ rfl
    have h1 : DataW.trod enc Tryd.prog W base spare held n 30 ((cl.drop 36).take (Tryd.prog.cellsOf 30)) = some y1 := hg 1 _ rfl
    rw [cellsH] at h0
    rw [cellsDg] at h1
    obtain ⟨x, x1, x2⟩ := head_cells (cs := (cl.drop 0).take 36) (by rw [List.length_take, List.length_drop]; omega) h0
    obtain ⟨t, t1, t2⟩ := digest_cells (cs := (cl.drop 36).take 32) (by rw [List.length_take, List.length_drop]; omega) h1
    rw [List.drop_zero] at x2
    rw [List.take_of_length_le (by rw [List.length_drop]; omega)] at t2
    refine ⟨⟨x, t⟩, x1, t1, congrArg Value.agg (congrArg List.toArray ?_)⟩
    rw [encG, ← x2, ← t2, List.take_append_drop]
end Go.Proofs.YtllcnppcncegpaaDoor
