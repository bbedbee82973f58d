/- From a row's own conditions to the walks': the laid table is the one of the hashes; one start fits. -/
import Derived.Test.YteealihknndclabGreatDoorWc
import Derived.Test.YteealihknndclabGreatDoorRows
import Derived.Lib.LaidTab
import Derived.ProofKit
import Derived.LaidMore
import Derived.OpenShut
import Derived.ShutString
import Derived.ChangeOld
import Derived.Stop.Joined
import Derived.SizedLaws
import Derived.Lay
import Derived.Test.YteealihknndclabGreatDoorVaf
import Derived.Deep.Slices
import Derived.Lib.SmallJoins
namespace Go.Proofs.YteealihknndclabGreatDoor
open Go.ChangeShapes Go.WideShapes Go.ChangeAt Go.RowKit
theorem own : ownKnob Tryz.prog.godebug = none := by kernel_rfl
theorem laidOut : laidOutB Tryz.prog = true := by kernel_rfl
theorem bytes5 : Tryz.prog.bytesOf 5 = 1 := by kernel_rfl
theorem gK : Tryz.prog.globalNamed "deponent/sha.roundWords" = some 1 := by kernel_rfl
theorem tK : (Tryz.prog.globals[1]?).map (·.type) = some 295 := by kernel_rfl
theorem cells48 : Tryz.prog.cellsOf 254 = 1 := by kernel_rfl
theorem cells52 : Tryz.prog.cellsOf 295 = 64 := by kernel_rfl
def xR : List (String × DataW Unit) := [("deponent/sha.roundWords", Rows.laid_deponent_sha_roundWords), ("unicode/utf8.acceptRanges", Rows.laid_unicode_utf8_acceptRanges), ("unicode/utf8.first", Rows.laid_unicode_utf8_first)]
theorem u7 {W : World} (h : laidMetH Tryz.prog xR W) : KAt W := by
 rw [MakeChecks.laidMetH_plain _ _ _ (by kernel_rfl)] at h
 have ht : Lib.TabIs Tryz.prog W "deponent/sha.roundWords" .u32 (S.K.map fun x => (x.toNat : Int)) :=
  Lib.tabIs_of_head gK tK Tryz.underlying295 Tryz.underlying254 cells48 cells52 h
 intro j hj
 have := ht.cell gK j (by rw [List.length_map]; exact hj)
 rw [this]
 simp [List.getD_eq_getElem?_getD, show j < S.K.length from hj]
theorem lt_of_K {W : World} (h : KAt W) : 1 < W.heap.size := World.block_lt_of_cell? W _ (h 0 (by decide))
end Go.Proofs.YteealihknndclabGreatDoor
namespace Go.Proofs.YteealihknndclabGreatDoor
open Go.ChangeShapes Go.WideShapes Go.ChangeAt Go.RowKit
def IsRow (w : World) (a : Option Addr) (len cap : Nat) (zs : List Int) : Prop :=
 (a = none /\ len = 0 /\ cap = 0 /\ zs = []) \/
 ∃ x, a = some x /\ len <= cap /\ zs.length = cap /\ (∀ i, i < zs.length -> w.cell? (x.add i) = some (.int .u8 (zs.getD i 0))) /\ ∀ n ∈ zs, (Lit.int .u8 n).wf = true
theorem rA {w : World} {a : Option Addr} {len cap : Nat} {zs : List Int} (h : IsRow w a len cap zs) (hr : cap <= 140737488355328) : ∃ bs : List UInt8, bs.length = len /\ SliceAt w (.slice a len cap) bs := by
 rcases h with ⟨rfl, rfl, rfl, _⟩ | ⟨x, rfl, hl, hz, hc, hw⟩
 ·exact ⟨[], rfl, Or.inl ⟨rfl, rfl⟩⟩
 ·by_cases h0 : len = 0
  ·subst h0
   exact ⟨[], rfl, Or.inr (Or.inl ⟨x, cap, rfl, Nat.zero_le _, rfl⟩)⟩
  ·obtain ⟨b, off, rfl, hc'⟩ := ints_at hc (by omega)
   have hbl : ((zs.take len).map fun z => UInt8.ofNat z.toNat).length = len := by simp; omega
   refine ⟨(zs.take len).map fun z => UInt8.ofNat z.toNat, hbl, Or.inr (Or.inr ⟨b, off, cap, by rw [hbl], by omega, by omega, block_lt_of_cell (hc' 0 (by omega)), fun j hj => ?_⟩)⟩
   have hj' : j < len := by omega
   rw [hc' j (by omega)]
   have hb := range_u8 hw j
   have e1 : zs[j]? = some (zs[j]'(by omega)) := List.getElem?_eq_getElem (by omega)
   rw [e1] at hb
   simp only [Option.getD_some] at hb
   simp only [List.getD_eq_getElem?_getD, List.getElem?_map, List.getElem?_take, hj', if_true, e1, Option.map_some, Option.getD_some, UInt8.toNat_ofNat']
   congr 2
   omega
end Go.Proofs.YteealihknndclabGreatDoor
namespace Go.Proofs.YteealihknndclabGreatDoor
open Go.ChangeShapes Go.WideShapes Go.ChangeAt Go.RowKit
theorem rR {H : Type} {enc : TypeId × Value -> H} {W : World} {ts : List TypeId} {ds : List (DataW H)} {j : Nat} {a0 : Option Addr} {len0 cap0 : Nat} {d0 : DataW H} {p0 : List MemPlace} {base : Nat} {held : Bool}
  (hj : ts[j]? = some 22) (hd : ds[j]? = some d0) (h0 : DataW.Trod enc Tryz.prog W base (fun _ => true) held 22 (.slice a0 len0 cap0) d0 p0)
  (hsz : (DataW.weightsEach Tryz.prog ts ds).all (· <= reachBytes) = true) : ∃ zs, IsRow W a0 len0 cap0 zs /\ cap0 <= 140737488351232 := by
 obtain ⟨fuel, hf⟩ := h0
 rcases open_ints Tryz.underlying22 Tryz.underlying5 (by kernel_rfl) hf with ⟨hcs, _⟩ | ⟨x, l, c, zs, hcs, _, hl, hm, hz, hx, hcell, hwz⟩
 ·simp [Value.cells] at hcs
  obtain ⟨rfl, rfl, rfl⟩ := hcs
  exact ⟨[], .inl ⟨rfl, rfl, rfl, rfl⟩, by omega⟩
 ·simp [Value.cells] at hcs
  obtain ⟨rfl, rfl, rfl⟩ := hcs
  simp only [Prod.mk.injEq] at hx
  have hzc : zs.length = cap0 := by simpa using hz
  refine ⟨zs, .inr ⟨_, rfl, hl, hzc, hcell, hwz⟩, ?_⟩
  have := sized_slice hsz (j := j) (t := 22) (e := 5) hj (by rw [hd, hx.1]) Tryz.underlying22
  rw [bytes5] at this
  simp only [lits, List.length_map, List.length_take, List.length_drop, reachBytes] at this
  omega
theorem byte_of {z : Int} (h : (Lit.int .u8 z).wf = true) : z = ((UInt8.ofNat z.toNat).toNat : Int) := by
 have bb : 0 <= z /\ z <= 255 := by simpa [Lit.wf, IntKind.min, IntKind.max, IntKind.signed, IntKind.bits] using h
 simp
 omega
end Go.Proofs.YteealihknndclabGreatDoor
