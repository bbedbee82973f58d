/- From a row's own conditions to the walks': what came in. -/
import Derived.Test.YtlalnenafmpjiaaRows
import Derived.Test.YtlalnenafmpjiaaBase
import Derived.ProofKit
import Derived.OpenShut
import Derived.ShutString
import Derived.ChangeOld
import Derived.SizedLaws
import Derived.Deep.Strs
namespace Go.Proofs.Ytlalnenafmpjiaa
open Go.ChangeShapes Go.WideShapes Go.ChangeAt Go.RowKit
theorem own : ownKnob Try.prog.godebug = none := by kernel_rfl
theorem laidOut : laidOutB Try.prog = true := by kernel_rfl
theorem cells22 : Try.prog.cellsOf 22 = 1 := by kernel_rfl
theorem cells24 : Try.prog.cellsOf 24 = 3 := by kernel_rfl
theorem u32_of {n : Int} (h : (Lit.int .u32 n).wf = true) : ∃ m : Nat, n = (m : Int) ∧ m < 4294967296 := by
  simp [Lit.wf, IntKind.min, IntKind.max, IntKind.signed, IntKind.bits] at h
  exact ⟨n.toNat, by omega, by omega⟩
theorem u64_of {n : Int} (h : (Lit.int .u64 n).wf = true) : ∃ m : Nat, n = (m : Int) ∧ m < 18446744073709551616 := by
  simp [Lit.wf, IntKind.min, IntKind.max, IntKind.signed, IntKind.bits] at h
  exact ⟨n.toNat, by omega, by omega⟩
def IntsAt (kd : IntKind) (w : World) (ao : Option Addr) (len : Nat) (zs : List Int) : Prop :=
  len = zs.length ∧ (0 < len → ∃ b off, ao = some ⟨b, off, none⟩ ∧ b < w.heap.size ∧ ∀ j, j < len → w.cell? ⟨b, off + j, none⟩ = some (.int kd (zs.getD j 0)))
/-- A slice of numbers that came in is just that. -/
theorem open_nums {H : Type} {enc : TypeId × Value → H} {W : World} {a0 : Option Addr} {len0 cap0 : Nat} {d0 : DataW H} {p0 : List MemPlace} {base : Nat} {held : Bool} {t e : TypeId} {kd : IntKind}
    (ht : Try.prog.underlying t = some (.slice e)) (he : Try.prog.underlying e = some (.int kd)) (hc : Try.prog.cellsOf e = 1)
    (h0 : DataW.Trod enc Try.prog W base (fun _ => true) held t (.slice a0 len0 cap0) d0 p0) : ∃ zs, IntsAt kd W a0 len0 zs ∧ ∀ n ∈ zs, (Lit.int kd n).wf = true := by
  obtain ⟨fuel, hf⟩ := h0
  rcases open_ints ht he hc hf with ⟨hcs, _⟩ | ⟨x, l, c, zs, hcs, _, hl, hm, hz, hx, hcell, hwz⟩
  · simp [Value.cells] at hcs
    obtain ⟨rfl, rfl, rfl⟩ := hcs
    exact ⟨[], ⟨rfl, fun h => by omega⟩, fun n h => by cases h⟩
  · simp [Value.cells] at hcs
    obtain ⟨rfl, rfl, rfl⟩ := hcs
    have hzc : zs.length = cap0 := by simpa using hz
    refine ⟨zs.take len0, ⟨by rw [List.length_take]; omega, fun hp => ?_⟩, fun n hn => hwz n (List.mem_of_mem_take hn)⟩
    obtain ⟨b, off, rfl, hc'⟩ := ints_at hcell (by omega)
    refine ⟨b, off, rfl, block_lt_of_cell (hc' 0 (by omega)), fun j hj => ?_⟩
    rw [hc' j (by omega)]
    simp only [List.getD_eq_getElem?_getD, List.getElem?_take, hj, if_true]
set_option maxHeartbeats 800000 in
set_option maxRecDepth 100000 in
/-- A bucket that came in. -/
theorem open_bk {H : Type} {enc : TypeId × Value → H} {W : World} {r : Reach} {b0 : Nat} {v : Value} {d0 : DataW H} {p0 : List MemPlace} {held : Bool}
    (hv : Value.okWide Try.prog W r b0 24 v) (h0 : DataW.Trod enc Try.prog W 0 (fun _ => true) held 24 v d0 p0) : ∃ x y z : Nat, v = .agg #[.int .u32 (x : Int), .int .u32 (y : Int), .int .u32 (z : Int)] ∧ x < 4294967296 ∧ y < 4294967296 ∧ z < 4294967296 := by
  have hs : ∃ cs, v = .agg cs ∧ cs.size = Try.prog.cellsOf 24 := by
    simp only [Value.okWide, Try.underlying24] at hv
    obtain ⟨cs, h1, h2, _⟩ := hv
    exact ⟨cs, h1, h2⟩
  obtain ⟨cs, rfl, hcs⟩ := hs
  rw [cells24] at hcs
  obtain ⟨cl⟩ := cs
  obtain ⟨x, y, u, rfl⟩ : ∃ x y u, cl = [x, y, u] := by
    match cl, hcs with
    | [x, y, u], _ => exact ⟨x, y, u, rfl⟩
  obtain ⟨fuel, hf⟩ := h0
  obtain ⟨y0, y1, y2, n, _, _, h1, h2, h3⟩ := Go.Deep.trod_struct3 Try.underlying24 (by simpa [Value.cells] using hf)
  simp only [cells22, List.drop_zero, List.take_succ_cons, List.take_zero, List.drop_succ_cons] at h1 h2 h3
  obtain ⟨n1, hn1, _, w1⟩ := DataW.trod_int Try.underlying22 h1
  obtain ⟨n2, hn2, _, w2⟩ := DataW.trod_int Try.underlying22 h2
  obtain ⟨n3, hn3, _, w3⟩ := DataW.trod_int Try.underlying22 h3
  simp only [List.cons.injEq, and_true] at hn1 hn2 hn3
  subst hn1 hn2 hn3
  obtain ⟨m1, rfl, b1⟩ := u32_of w1
  obtain ⟨m2, rfl, b2⟩ := u32_of w2
  obtain ⟨m3, rfl, b3⟩ := u32_of w3
  exact ⟨m1, m2, m3, rfl, b1, b2, b3⟩
/-- A list of numbers that came in, as the walk reads it. -/
theorem open_asks {H : Type} {enc : TypeId × Value → H} {W : World} {a0 : Option Addr} {len0 cap0 : Nat} {d0 : DataW H} {p0 : List MemPlace} {held : Bool}
    (h0 : DataW.Trod enc Try.prog W 0 (fun _ => true) held 43 (.slice a0 len0 cap0) d0 p0) : ∃ zs : List Nat, 0 < len0 → ∃ b off, a0 = some ⟨b, off, none⟩ ∧ b < W.heap.size ∧ ∀ j, j < len0 → W.cell? ⟨b, off + j, none⟩ = some (.int .u32 ((zs.getD j 0 : Nat) : Int)) := by
  obtain ⟨zs, ⟨hl, hz⟩, hw⟩ := open_nums Try.underlying43 Try.underlying22 (by kernel_rfl) h0
  refine ⟨zs.map Int.toNat, fun hp => ?_⟩
  obtain ⟨b, off, h1, h2, h3⟩ := hz hp
  refine ⟨b, off, h1, h2, fun j hj => ?_⟩
  rw [h3 j hj]
  have hj' : j < zs.length := by omega
  have e1 : zs[j]? = some (zs[j]'hj') := List.getElem?_eq_getElem hj'
  obtain ⟨m, hm, _⟩ := u32_of (hw _ (List.getElem_mem hj'))
  simp only [List.getD_eq_getElem?_getD, List.getElem?_map, e1, Option.map_some, Option.getD_some]
  congr 2
  omega
end Go.Proofs.Ytlalnenafmpjiaa
