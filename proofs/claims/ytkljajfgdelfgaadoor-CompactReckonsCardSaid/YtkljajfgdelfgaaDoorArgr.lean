/- Arguments that came in: a range. -/
import Derived.Test.YtkljajfgdelfgaaDoorZe
import Derived.Deep.Strs
namespace Go.Proofs.YtkljajfgdelfgaaDoor
open Go.RowKit
open Go.ChangeShapes Go.WideShapes Go.ChangeAt
theorem cells27 : Tryd.prog.cellsOf 27 = 1 := by kernel_rfl
theorem cells28 : Tryd.prog.cellsOf 28 = 1 := by kernel_rfl
theorem cells30 : Tryd.prog.cellsOf 30 = 3 := by kernel_rfl
set_option maxHeartbeats 800000 in
set_option maxRecDepth 100000 in
/-- A range that came in: its numbers, its list of digests. -/
theorem open_range {H : Type} {enc : TypeId × Value → H} {W : World} {r : Reach} {b0 : Nat} {ts : List TypeId} {ds : List (DataW H)} {j : Nat} {v : Value} {d0 : DataW H} {p0 : List MemPlace} {held : Bool}
    (hv : Value.okWide Tryd.prog W r b0 30 v) (hj : ts[j]? = some 30) (hd : ds[j]? = some d0) (h0 : DataW.Trod enc Tryd.prog W 0 (fun _ => true) held 30 v d0 p0)
    (hsz : (DataW.weightsEach Tryd.prog ts ds).all (· ≤ reachBytes) = true) : ∃ (b e : Nat) (u : Value) (l : List (List UInt8)), v = .agg #[.int .u64 (b : Int), .int .u64 (e : Int), u] ∧ b < 18446744073709551616 ∧ e < 18446744073709551616 ∧ DgAny W u l ∧ l.length ≤ 4398046511104 := by
  have hs : ∃ cs, v = .agg cs ∧ cs.size = Tryd.prog.cellsOf 30 := by
    simp only [Value.okWide, Tryd.underlying30] at hv
    obtain ⟨cs, h1, h2, _⟩ := hv
    exact ⟨cs, h1, h2⟩
  obtain ⟨cs, rfl, hcs⟩ := hs
  rw [cells30] at hcs
  obtain ⟨cl⟩ := cs
  obtain ⟨x, y, u, rfl⟩ : ∃ x y u, cl = [x, y, u] := by
    match cl, hcs with
    | [x, y, u], _ => exact ⟨x, y, u, rfl⟩
  obtain ⟨fuel, hf⟩ := h0
  obtain ⟨y0, y1, y2, n, hx, _, h1, h2, h3⟩ := Go.Deep.trod_struct3 Tryd.underlying30 (by simpa [Value.cells] using hf)
  have hw : ∀ k ∈ d0.weights Tryd.prog 30, k ≤ reachBytes := fun k hk => by
    have := List.all_eq_true.1 hsz k (DataW.weights_mem_each hj hd k hk)
    simpa using this
  have hd0 : d0 = .agg [y0.1, y1.1, y2.1] := congrArg Prod.fst hx
  simp only [cells27, cells28, List.drop_zero, List.take_succ_cons, List.take_zero, List.drop_succ_cons] at h1 h2 h3
  obtain ⟨n1, hn1, _, w1⟩ := DataW.trod_int Tryd.underlying27 h1
  obtain ⟨n2, hn2, _, w2⟩ := DataW.trod_int Tryd.underlying27 h2
  simp only [List.cons.injEq, and_true] at hn1 hn2
  subst hn1
  subst hn2
  have b1 := wf_u64_ends w1
  have b2 := wf_u64_ends w2
  obtain ⟨m1, rfl⟩ := Int.eq_ofNat_of_zero_le b1.1
  obtain ⟨m2, rfl⟩ := Int.eq_ofNat_of_zero_le b2.1
  have hsl : ∃ a0 len0 cap0, u = .slice a0 len0 cap0 := by
    rcases Go.Deep.open_slice Tryd.underlying28 h3 with ⟨hcs, _⟩ | ⟨a, len, cap, m, n, D, Pl, hcs, _⟩
    · simp at hcs; exact ⟨_, _, _, hcs⟩
    · simp at hcs; exact ⟨_, _, _, hcs⟩
  obtain ⟨a0, len0, cap0, rfl⟩ := hsl
  have hw2 : (DataW.weightsEach Tryd.prog [28] [y2.1]).all (· ≤ reachBytes) = true := by
    rw [List.all_eq_true]
    intro k hk
    have : k ∈ d0.weights Tryd.prog 30 := by
      rw [hd0, DataW.weights, Tryd.underlying30]
      simp [DataW.weightsEach] at hk ⊢
      exact Or.inr (Or.inr hk)
    simpa using hw k this
  obtain ⟨l, hl1, hl2, hl3⟩ := open_digs (ts := [28]) (ds := [y2.1]) (j := 0) (p0 := y2.2) (held := held) rfl rfl ⟨n, by simpa [Value.cells] using h3⟩ hw2
  exact ⟨m1, m2, _, l, rfl, by omega, by omega, hl1, by omega⟩
end Go.Proofs.YtkljajfgdelfgaaDoor
