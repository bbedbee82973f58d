/- From a row's own conditions to the walks': a []byte that came in reads as bytes; the laid table is K0 to K63; one start fits. -/
import Derived.Test.YtkljajfgdelfgaaDoorSum
import Derived.Test.YtkljajfgdelfgaaDoorRows
import Derived.Lib.LaidTab
import Derived.ProofKit
import Derived.LaidMore
import Derived.OpenShut
import Derived.ShutString
import Derived.ChangeOld
import Derived.Stop.Joined
import Derived.SizedLaws
import Derived.Test.YtkljajfgdelfgaaDoorOg
import Derived.Deep.Slices
import Derived.Lib.SmallJoins
namespace Go.Proofs.YtkljajfgdelfgaaDoor
open Go.ChangeShapes Go.WideShapes Go.ChangeAt Go.RowKit
theorem own : ownKnob Tryd.prog.godebug = none := by kernel_rfl
theorem laidOut : laidOutB Tryd.prog = true := by kernel_rfl
theorem bytes5 : Tryd.prog.bytesOf 5 = 1 := by kernel_rfl
theorem gK : Tryd.prog.globalNamed "deponent/sha.roundWords" = some 0 := by kernel_rfl
theorem tK : (Tryd.prog.globals[0]?).map (·.type) = some 99 := by kernel_rfl
theorem cells74 : Tryd.prog.cellsOf 98 = 1 := by kernel_rfl
theorem cells75 : Tryd.prog.cellsOf 99 = 64 := by kernel_rfl
def laidK : List (String × DataW Unit) := [("deponent/sha.roundWords", Rows.laid_deponent_sha_roundWords)]
theorem K_of_laid {W : World} (h : laidMetH Tryd.prog laidK W) : KAt W := by
  rw [MakeChecks.laidMetH_plain _ _ _ (by kernel_rfl)] at h
  have ht : Lib.TabIs Tryd.prog W "deponent/sha.roundWords" .u32 (S.K.map fun x => (x.toNat : Int)) :=
    Lib.tabIs_of_head (rest := []) gK tK Tryd.underlying99 Tryd.underlying98 cells74 cells75 h
  intro j hj
  have := ht.cell gK j (by rw [List.length_map]; exact hj)
  rw [this]
  simp [List.getD_eq_getElem?_getD, show j < S.K.length from hj]
/-- The door's own heap meets the condition. -/
theorem door_met (os : Os) (args : Array Value) : laidMetH Tryd.prog laidK ((World.doorLaid Tryd.prog 400 os).forCall (fun _ _ => 0) ⟨#[], args, []⟩).memory :=
  laidMetH_of_parts3 (fuel := 8) (laidMet_of_run' 8 (by kernel_rfl) (by kernel_rfl)) (by kernel_rfl) (by kernel_rfl)
/-- What came in as a []byte. -/
def IsRow (w : World) (a : Option Addr) (len cap : Nat) (zs : List Int) : Prop :=
  (a = none ∧ len = 0 ∧ cap = 0 ∧ zs = []) ∨
  ∃ x, a = some x ∧ len ≤ cap ∧ zs.length = cap ∧ (∀ i, i < zs.length → w.cell? (x.add i) = some (.int .u8 (zs.getD i 0))) ∧ ∀ n ∈ zs, (Lit.int .u8 n).wf = true
theorem sliceAt_of {w : World} {a : Option Addr} {len cap : Nat} {zs : List Int} (h : IsRow w a len cap zs) (hr : cap ≤ 140737488355328) : ∃ bs : List UInt8, bs.length = len ∧ SliceAt w (.slice a len cap) bs := by
  rcases h with ⟨rfl, rfl, rfl, _⟩ | ⟨x, rfl, hl, hz, hc, hw⟩
  · exact ⟨[], rfl, Or.inl ⟨rfl, rfl⟩⟩
  · by_cases h0 : len = 0
    · subst h0
      exact ⟨[], rfl, Or.inr (Or.inl ⟨x, cap, rfl, Nat.zero_le _, rfl⟩)⟩
    · obtain ⟨b, off, rfl, hc'⟩ := ints_at hc (by omega)
      have hbl : ((zs.take len).map fun z => UInt8.ofNat z.toNat).length = len := by simp; omega
      refine ⟨(zs.take len).map fun z => UInt8.ofNat z.toNat, hbl, Or.inr (Or.inr ⟨b, off, cap, by rw [hbl], by omega, by omega, block_lt_of_cell (hc' 0 (by omega)), fun j hj => ?_⟩)⟩
      have hj' : j < len := by omega
      rw [hc' j (by omega)]
      have hb := range_u8 hw j
      have e1 : zs[j]? = some (zs[j]'(by omega)) := List.getElem?_eq_getElem (by omega)
      rw [e1] at hb
      simp only [Option.getD_some] at hb
      simp only [List.getD_eq_getElem?_getD, List.getElem?_map, List.getElem?_take, hj', if_true, e1, Option.map_some, Option.getD_some, UInt8.toNat_ofNat']
      congr 2
      omega
theorem wf_i64_ends {n : Int} (h : (Lit.int .i64 n).wf = true) : -9223372036854775808 ≤ n ∧ n ≤ 9223372036854775807 := by
  simp [Lit.wf, IntKind.min, IntKind.max, IntKind.signed, IntKind.bits] at h
  omega
/-- A []byte that came in at place j is a row of bytes, and within reach. -/
theorem open_bytes {H : Type} {enc : TypeId × Value → H} {W : World} {ts : List TypeId} {ds : List (DataW H)} {j : Nat} {a0 : Option Addr} {len0 cap0 : Nat} {d0 : DataW H} {p0 : List MemPlace} {base : Nat} {held : Bool}
    (hj : ts[j]? = some 60) (hd : ds[j]? = some d0) (h0 : DataW.Trod enc Tryd.prog W base (fun _ => true) held 60 (.slice a0 len0 cap0) d0 p0)
    (hsz : (DataW.weightsEach Tryd.prog ts ds).all (· ≤ reachBytes) = true) : ∃ zs, IsRow W a0 len0 cap0 zs ∧ cap0 ≤ 140737488351232 := by
  obtain ⟨fuel, hf⟩ := h0
  rcases open_ints Tryd.underlying60 Tryd.underlying5 (by kernel_rfl) hf with ⟨hcs, _⟩ | ⟨x, l, c, zs, hcs, _, hl, hm, hz, hx, hcell, hwz⟩
  · simp [Value.cells] at hcs
    obtain ⟨rfl, rfl, rfl⟩ := hcs
    exact ⟨[], .inl ⟨rfl, rfl, rfl, rfl⟩, by omega⟩
  · simp [Value.cells] at hcs
    obtain ⟨rfl, rfl, rfl⟩ := hcs
    simp only [Prod.mk.injEq] at hx
    have hzc : zs.length = cap0 := by simpa using hz
    refine ⟨zs, .inr ⟨_, rfl, hl, hzc, hcell, hwz⟩, ?_⟩
    have := sized_slice hsz (j := j) (t := 60) (e := 5) hj (by rw [hd, hx.1]) Tryd.underlying60
    rw [bytes5] at this
    simp only [lits, List.length_map, List.length_take, List.length_drop, reachBytes] at this
    omega
theorem wf_u8_ends {n : Int} (h : (Lit.int .u8 n).wf = true) : 0 ≤ n ∧ n < 256 := by
  simp [Lit.wf, IntKind.min, IntKind.max, IntKind.signed, IntKind.bits] at h
  omega
theorem wf_u64_ends {n : Int} (h : (Lit.int .u64 n).wf = true) : 0 ≤ n ∧ n < 18446744073709551616 := by
  simp [Lit.wf, IntKind.min, IntKind.max, IntKind.signed, IntKind.bits] at h
  omega
theorem byte_of {n : Int} (h : (Lit.int .u8 n).wf = true) : ∃ x : UInt8, Value.int .u8 n = .int .u8 (x.toNat : Int) := by
  have b := wf_u8_ends h
  refine ⟨UInt8.ofNat n.toNat, ?_⟩
  rw [UInt8.toNat_ofNat']
  congr 1
  omega
end Go.Proofs.YtkljajfgdelfgaaDoor
namespace Go.Proofs.YtkljajfgdelfgaaDoor
open Go.ChangeShapes Go.WideShapes Go.ChangeAt Go.RowKit
theorem mem_weightsAll {H : Type} {P : Program} {e : TypeId} {l : List (DataW H)} {d : DataW H} (hd : d ∈ l) : ∀ n ∈ d.weights P e, n ∈ DataW.weightsAll P e l := by
  intro n hn
  induction l with
  | nil => cases hd
  | cons x t ih =>
    rw [DataW.weightsAll]
    rcases List.mem_cons.1 hd with rfl | h
    · exact List.mem_append.2 (Or.inl hn)
    · exact List.mem_append.2 (Or.inr (ih h))
theorem cells34 : Tryd.prog.cellsOf 60 = 1 := by kernel_rfl
/-- A []byte in a cell, within reach. -/
theorem bytes_cell {H : Type} {enc : TypeId × Value → H} {W : World} {fuel : Nat} {c : Value} {y : DataW H × List MemPlace} {held : Bool}
    (h : DataW.trod enc Tryd.prog W 0 (fun _ => true) held fuel 60 [c] = some y) (hw : ∀ n ∈ y.1.weights Tryd.prog 60, n ≤ reachBytes) : ∃ bs : List UInt8, SliceAt W c bs ∧ bs.length + 80 ≤ 140737488355328 := by
  rcases open_ints Tryd.underlying60 Tryd.underlying5 (by kernel_rfl) h with ⟨hcs, _⟩ | ⟨x, l, cp, zs, hcs, _, hl, hm, hz, hx, hcell, hwz⟩
  · obtain rfl : c = .slice none 0 0 := by simpa using hcs
    exact ⟨[], Or.inl ⟨rfl, rfl⟩, by decide⟩
  · obtain rfl : c = .slice (some x) l cp := by simpa using hcs
    have hzc : zs.length = cp := by simpa using hz
    have hcap : cp ≤ 140737488351232 := by
      have h1 : y.1 = .slice _ _ := congrArg Prod.fst hx
      rw [h1] at hw
      have h2 := hw ((_ + _) * Tryd.prog.bytesOf 5) (by rw [DataW.weights, Tryd.underlying60]; exact List.mem_cons_self)
      rw [bytes5] at h2
      simp only [lits, List.length_map, List.length_take, List.length_drop, reachBytes] at h2
      omega
    obtain ⟨bs, hbs, hs⟩ := sliceAt_of (zs := zs) (.inr ⟨_, rfl, hl, hzc, hcell, hwz⟩) (by omega)
    exact ⟨bs, hs, by omega⟩
theorem bytes34 : Tryd.prog.bytesOf 60 = 24 := by kernel_rfl
set_option maxHeartbeats 800000 in
set_option maxRecDepth 100000 in
/-- A list of texts that came in. -/
theorem open_texts {H : Type} {enc : TypeId × Value → H} {W : World} {ts : List TypeId} {ds : List (DataW H)} {j : Nat} {a0 : Option Addr} {len0 cap0 : Nat} {d0 : DataW H} {p0 : List MemPlace} {held : Bool}
    (hj : ts[j]? = some 53) (hd : ds[j]? = some d0) (h0 : DataW.Trod enc Tryd.prog W 0 (fun _ => true) held 53 (.slice a0 len0 cap0) d0 p0)
    (hsz : (DataW.weightsEach Tryd.prog ts ds).all (· ≤ reachBytes) = true) : ∃ bss, BsAt W (.slice a0 len0 cap0) bss ∧ bss.length ≤ 140737488355328 := by
  obtain ⟨fuel, hf⟩ := h0
  rcases Go.Deep.open_slice1 Tryd.underlying53 cells34 hf with ⟨hcs, _⟩ | ⟨a, len, cap, m, n, V, D, Pl, hcs, _, hl, hm, hmm, hx, hel⟩
  · simp [Value.cells] at hcs
    obtain ⟨rfl, rfl, rfl⟩ := hcs
    exact ⟨[], BsAt.nil _, by simp⟩
  · simp [Value.cells] at hcs
    obtain ⟨rfl, rfl, rfl⟩ := hcs
    simp only [if_true] at hmm
    have hwt : ∀ k ∈ d0.weights Tryd.prog 53, k ≤ reachBytes := fun k hk => by
      have := List.all_eq_true.1 hsz k (DataW.weights_mem_each hj hd k hk)
      simpa using this
    have hd0 : d0 = .slice ((List.range len0).map D) ((List.range (m - len0)).map fun j => D (len0 + j)) := congrArg Prod.fst hx
    have hb : ∀ i, ∃ bs : List UInt8, i < len0 → SliceAt W (V i) bs := fun i => by
      by_cases hi : i < len0
      · have hw3 : ∀ k ∈ (D i).weights Tryd.prog 60, k ≤ reachBytes := fun k hk => by
          refine hwt k ?_
          rw [hd0, DataW.weights, Tryd.underlying53]
          exact List.mem_cons_of_mem _ (List.mem_append.2 (Or.inl (mem_weightsAll (d := D i) (List.mem_map.2 ⟨i, List.mem_range.2 hi, rfl⟩) k hk)))
        obtain ⟨bs, hs, _⟩ := bytes_cell (hel i (by omega)).2 hw3
        exact ⟨bs, fun _ => hs⟩
      · exact ⟨[], fun h => absurd h hi⟩
    obtain ⟨f, hfb⟩ := Classical.axiomOfChoice hb
    have hlen : len0 ≤ 140737488355328 := by
      rw [hd0] at hwt
      have h2 := hwt ((_ + _) * Tryd.prog.bytesOf 60) (by rw [DataW.weights, Tryd.underlying53]; exact List.mem_cons_self)
      rw [bytes34] at h2
      simp only [List.length_map, List.length_range, reachBytes] at h2
      omega
    refine ⟨(List.range len0).map f, ⟨some a, cap0, by simp, by simpa using hl, fun hp => ?_⟩, by simpa using hlen⟩
    have hp0 : 0 < len0 := by simpa using hp
    obtain ⟨b, off, spot⟩ := a
    have hspot : spot = none := by
      have h2 := (hel 0 (by omega)).1
      simpa [Addr.add] using World.cell?_spot h2
    subst hspot
    refine ⟨b, off, rfl, ?_, fun i hi => ?_⟩
    · have h2 := (hel 0 (by omega)).1
      rw [Addr.add_lit] at h2
      exact block_lt_of_cell (a := ⟨b, off + 0, none⟩) h2
    · have hi2 : i < len0 := by simpa using hi
      have h2 := (hel i (by omega)).1
      rw [Addr.add_lit] at h2
      refine ⟨V i, h2, ?_⟩
      have e : ((List.range len0).map f).getD i [] = f i := by simp [List.getD_eq_getElem?_getD, hi2]
      rw [e]
      exact hfb i hi2
end Go.Proofs.YtkljajfgdelfgaaDoor
