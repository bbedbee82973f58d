/- Arguments that came in: a []byte is a row of bytes within reach. -/
import Derived.Test.YtdhaeepaemneaaaDoorOpen
namespace Go.Proofs.YtdhaeepaemneaaaDoor
open Go.ChangeShapes Go.WideShapes Go.ChangeAt Go.RowKit
theorem wf_i64_ends {n : Int} (h : (Lit.int .i64 n).wf = true) : -9223372036854775808 ≤ n ∧ n ≤ 9223372036854775807 := by
  simp [Lit.wf, IntKind.min, IntKind.max, IntKind.signed, IntKind.bits] at h
  omega
/-- A []byte that came in at place j is a row of bytes, and within reach. -/
theorem open_bytes {H : Type} {enc : TypeId × Value → H} {W : World} {ts : List TypeId} {ds : List (DataW H)} {j : Nat} {a0 : Option Addr} {len0 cap0 : Nat} {d0 : DataW H} {p0 : List MemPlace} {base : Nat} {held : Bool}
    (hj : ts[j]? = some 24) (hd : ds[j]? = some d0) (h0 : DataW.Trod enc Tryd.prog W base (fun _ => true) held 24 (.slice a0 len0 cap0) d0 p0)
    (hsz : (DataW.weightsEach Tryd.prog ts ds).all (· ≤ reachBytes) = true) : ∃ zs, IsRow W a0 len0 cap0 zs ∧ cap0 ≤ 140737488351232 := by
  obtain ⟨fuel, hf⟩ := h0
  rcases open_ints Tryd.underlying24 Tryd.underlying5 (by kernel_rfl) hf with ⟨hcs, _⟩ | ⟨x, l, c, zs, hcs, _, hl, hm, hz, hx, hcell, hwz⟩
  · simp [Value.cells] at hcs
    obtain ⟨rfl, rfl, rfl⟩ := hcs
    exact ⟨[], .inl ⟨rfl, rfl, rfl, rfl⟩, by omega⟩
  · simp [Value.cells] at hcs
    obtain ⟨rfl, rfl, rfl⟩ := hcs
    simp only [Prod.mk.injEq] at hx
    have hzc : zs.length = cap0 := by simpa using hz
    refine ⟨zs, .inr ⟨_, rfl, hl, hzc, hcell, hwz⟩, ?_⟩
    have := sized_slice hsz (j := j) (t := 24) (e := 5) hj (by rw [hd, hx.1]) Tryd.underlying24
    rw [bytes5] at this
    simp only [lits, List.length_map, List.length_take, List.length_drop, reachBytes] at this
    omega
end Go.Proofs.YtdhaeepaemneaaaDoor
