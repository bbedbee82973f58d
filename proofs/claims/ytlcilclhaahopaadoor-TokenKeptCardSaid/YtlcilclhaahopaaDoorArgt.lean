/- From a row's own conditions to the walks': a []byte that came in reads as bytes; the laid table is K0 to K63; one start fits. -/
import Derived.Test.YtlcilclhaahopaaDoorSum
import Derived.Test.YtlcilclhaahopaaDoorRows
import Derived.Lib.LaidTab
import Derived.ProofKit
import Derived.LaidMore
import Derived.OpenShut
import Derived.ShutString
import Derived.ChangeOld
import Derived.Stop.Joined
import Derived.SizedLaws
import Derived.Test.YtlcilclhaahopaaDoorOe
import Derived.Deep.Slices
import Derived.Lib.SmallJoins
namespace Go.Proofs.YtlcilclhaahopaaDoor
open Go.ChangeShapes Go.WideShapes Go.ChangeAt Go.RowKit
theorem own : ownKnob Tryd.prog.godebug = none := by kernel_rfl
theorem laidOut : laidOutB Tryd.prog = true := by kernel_rfl
theorem bytes5 : Tryd.prog.bytesOf 5 = 1 := by kernel_rfl
theorem gK : Tryd.prog.globalNamed "deponent/sha.roundWords" = some 0 := by kernel_rfl
theorem tK : (Tryd.prog.globals[0]?).map (·.type) = some 100 := by kernel_rfl
theorem cells74 : Tryd.prog.cellsOf 22 = 1 := by kernel_rfl
theorem cells75 : Tryd.prog.cellsOf 100 = 64 := by kernel_rfl
def laidK : List (String × DataW Unit) := [("deponent/sha.roundWords", Rows.laid_deponent_sha_roundWords)]
theorem K_of_laid {W : World} (h : laidMetH Tryd.prog laidK W) : KAt W := by
  rw [MakeChecks.laidMetH_plain _ _ _ (by kernel_rfl)] at h
  have ht : Lib.TabIs Tryd.prog W "deponent/sha.roundWords" .u32 (S.K.map fun x => (x.toNat : Int)) :=
    Lib.tabIs_of_head (rest := []) gK tK Tryd.underlying100 Tryd.underlying22 cells74 cells75 h
  intro j hj
  have := ht.cell gK j (by rw [List.length_map]; exact hj)
  rw [this]
  simp [List.getD_eq_getElem?_getD, show j < S.K.length from hj]
/-- The door's own heap meets the condition. -/
theorem door_met (os : Os) (args : Array Value) : laidMetH Tryd.prog laidK ((World.doorLaid Tryd.prog 400 os).forCall (fun _ _ => 0) ⟨#[], args, []⟩).memory :=
  laidMetH_of_parts3 (fuel := 8) (laidMet_of_run' 8 (by kernel_rfl) (by kernel_rfl)) (by kernel_rfl) (by kernel_rfl)
/-- What came in as a []byte. -/
def IsRow (w : World) (a : Option Addr) (len cap : Nat) (zs : List Int) : Prop :=
  (a = none ∧ len = 0 ∧ cap = 0 ∧ zs = []) ∨
  ∃ x, a = some x ∧ len ≤ cap ∧ zs.length = cap ∧ (∀ i, i < zs.length → w.cell? (x.add i) = some (.int .u8 (zs.getD i 0))) ∧ ∀ n ∈ zs, (Lit.int .u8 n).wf = true
theorem sliceAt_of {w : World} {a : Option Addr} {len cap : Nat} {zs : List Int} (h : IsRow w a len cap zs) (hr : cap ≤ 140737488355328) : ∃ bs : List UInt8, bs.length = len ∧ SliceAt w (.slice a len cap) bs := by
  rcases h with ⟨rfl, rfl, rfl, _⟩ | ⟨x, rfl, hl, hz, hc, hw⟩
  · exact ⟨[], rfl, Or.inl ⟨rfl, rfl⟩⟩
  · by_cases h0 : len = 0
    · subst h0
      exact ⟨[], rfl, Or.inr (Or.inl ⟨x, cap, rfl, Nat.zero_le _, rfl⟩)⟩
    · obtain ⟨b, off, rfl, hc'⟩ := ints_at hc (by omega)
      have hbl : ((zs.take len).map fun z => UInt8.ofNat z.toNat).length = len := by simp; omega
      refine ⟨(zs.take len).map fun z => UInt8.ofNat z.toNat, hbl, Or.inr (Or.inr ⟨b, off, cap, by rw [hbl], by omega, by omega, block_lt_of_cell (hc' 0 (by omega)), fun j hj => ?_⟩)⟩
      have hj' : j < len := by omega
      rw [hc' j (by omega)]
      have hb := range_u8 hw j
      have e1 : zs[j]? = some (zs[j]'(by omega)) := List.getElem?_eq_getElem (by omega)
      rw [e1] at hb
      simp only [Option.getD_some] at hb
      simp only [List.getD_eq_getElem?_getD, List.getElem?_map, List.getElem?_take, hj', if_true, e1, Option.map_some, Option.getD_some, UInt8.toNat_ofNat']
      congr 2
      omega
theorem wf_i64_ends {n : Int} (h : (Lit.int .i64 n).wf = true) : -9223372036854775808 ≤ n ∧ n ≤ 9223372036854775807 := by
  simp [Lit.wf, IntKind.min, IntKind.max, IntKind.signed, IntKind.bits] at h
  omega
/-- A []byte that came in at place j is a row of bytes, and within reach. -/
theorem open_bytes {H : Type} {enc : TypeId × Value → H} {W : World} {ts : List TypeId} {ds : List (DataW H)} {j : Nat} {a0 : Option Addr} {len0 cap0 : Nat} {d0 : DataW H} {p0 : List MemPlace} {base : Nat} {held : Bool}
    (hj : ts[j]? = some 30) (hd : ds[j]? = some d0) (h0 : DataW.Trod enc Tryd.prog W base (fun _ => true) held 30 (.slice a0 len0 cap0) d0 p0)
    (hsz : (DataW.weightsEach Tryd.prog ts ds).all (· ≤ reachBytes) = true) : ∃ zs, IsRow W a0 len0 cap0 zs ∧ cap0 ≤ 140737488351232 := by
  obtain ⟨fuel, hf⟩ := h0
  rcases open_ints Tryd.underlying30 Tryd.underlying5 (by kernel_rfl) hf with ⟨hcs, _⟩ | ⟨x, l, c, zs, hcs, _, hl, hm, hz, hx, hcell, hwz⟩
  · simp [Value.cells] at hcs
    obtain ⟨rfl, rfl, rfl⟩ := hcs
    exact ⟨[], .inl ⟨rfl, rfl, rfl, rfl⟩, by omega⟩
  · simp [Value.cells] at hcs
    obtain ⟨rfl, rfl, rfl⟩ := hcs
    simp only [Prod.mk.injEq] at hx
    have hzc : zs.length = cap0 := by simpa using hz
    refine ⟨zs, .inr ⟨_, rfl, hl, hzc, hcell, hwz⟩, ?_⟩
    have := sized_slice hsz (j := j) (t := 30) (e := 5) hj (by rw [hd, hx.1]) Tryd.underlying30
    rw [bytes5] at this
    simp only [lits, List.length_map, List.length_take, List.length_drop, reachBytes] at this
    omega
theorem wf_u8_ends {n : Int} (h : (Lit.int .u8 n).wf = true) : 0 ≤ n ∧ n < 256 := by
  simp [Lit.wf, IntKind.min, IntKind.max, IntKind.signed, IntKind.bits] at h
  omega
theorem wf_u64_ends {n : Int} (h : (Lit.int .u64 n).wf = true) : 0 ≤ n ∧ n < 18446744073709551616 := by
  simp [Lit.wf, IntKind.min, IntKind.max, IntKind.signed, IntKind.bits] at h
  omega
theorem byte_of {n : Int} (h : (Lit.int .u8 n).wf = true) : ∃ x : UInt8, Value.int .u8 n = .int .u8 (x.toNat : Int) := by
  have b := wf_u8_ends h
  refine ⟨UInt8.ofNat n.toNat, ?_⟩
  rw [UInt8.toNat_ofNat']
  congr 1
  omega
end Go.Proofs.YtlcilclhaahopaaDoor
namespace Go.Proofs.YtlcilclhaahopaaDoor
open Go.ChangeShapes Go.WideShapes Go.ChangeAt Go.RowKit
theorem mem_weightsAll {H : Type} {P : Program} {e : TypeId} {l : List (DataW H)} {d : DataW H} (hd : d ∈ l) : ∀ n ∈ d.weights P e, n ∈ DataW.weightsAll P e l := by
  intro n hn
  induction l with
  | nil => cases hd
  | cons x t ih =>
    rw [DataW.weightsAll]
    rcases List.mem_cons.1 hd with rfl | h
    · exact List.mem_append.2 (Or.inl hn)
    · exact List.mem_append.2 (Or.inr (ih h))
theorem cells34 : Tryd.prog.cellsOf 30 = 1 := by kernel_rfl
/-- A []byte in a cell, within reach. -/
theorem bytes_cell {H : Type} {enc : TypeId × Value → H} {W : World} {fuel : Nat} {c : Value} {y : DataW H × List MemPlace} {held : Bool}
    (h : DataW.trod enc Tryd.prog W 0 (fun _ => true) held fuel 30 [c] = some y) (hw : ∀ n ∈ y.1.weights Tryd.prog 30, n ≤ reachBytes) : ∃ bs : List UInt8, SliceAt W c bs ∧ bs.length + 80 ≤ 140737488355328 := by
  rcases open_ints Tryd.underlying30 Tryd.underlying5 (by kernel_rfl) h with ⟨hcs, _⟩ | ⟨x, l, cp, zs, hcs, _, hl, hm, hz, hx, hcell, hwz⟩
  · obtain rfl : c = .slice none 0 0 := by simpa using hcs
    exact ⟨[], Or.inl ⟨rfl, rfl⟩, by decide⟩
  · obtain rfl : c = .slice (some x) l cp := by simpa using hcs
    have hzc : zs.length = cp := by simpa using hz
    have hcap : cp ≤ 140737488351232 := by
      have h1 : y.1 = .slice _ _ := congrArg Prod.fst hx
      rw [h1] at hw
      have h2 := hw ((_ + _) * Tryd.prog.bytesOf 5) (by rw [DataW.weights, Tryd.underlying30]; exact List.mem_cons_self)
      rw [bytes5] at h2
      simp only [lits, List.length_map, List.length_take, List.length_drop, reachBytes] at h2
      omega
    obtain ⟨bs, hbs, hs⟩ := sliceAt_of (zs := zs) (.inr ⟨_, rfl, hl, hzc, hcell, hwz⟩) (by omega)
    exact ⟨bs, hs, by omega⟩
theorem bytes34 : Tryd.prog.bytesOf 30 = 24 := by kernel_rfl
end Go.Proofs.YtlcilclhaahopaaDoor
