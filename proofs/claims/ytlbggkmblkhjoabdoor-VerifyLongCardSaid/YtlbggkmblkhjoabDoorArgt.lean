/- Arguments that came in: a list of texts. -/
import Derived.Test.YtlbggkmblkhjoabDoorOpn
import Derived.Test.YtlbggkmblkhjoabDoorOg
import Derived.Deep.Slices
import Derived.Lib.SmallJoins
namespace Go.Proofs.YtlbggkmblkhjoabDoor
open Go.ChangeShapes Go.WideShapes Go.ChangeAt Go.RowKit
theorem mem_weightsAll {H : Type} {P : Program} {e : TypeId} {l : List (DataW H)} {d : DataW H} (hd : d ∈ l) : ∀ n ∈ d.weights P e, n ∈ DataW.weightsAll P e l := by
  intro n hn
  induction l with
  | nil => cases hd
  | cons x t ih =>
    rw [DataW.weightsAll]
    rcases List.mem_cons.1 hd with rfl | h
    · exact List.mem_append.2 (Or.inl hn)
    · exact List.mem_append.2 (Or.inr (ih h))
theorem cells34 : Tryd.prog.cellsOf 22 = 1 := by kernel_rfl
/-- A []byte in a cell, within reach. -/
theorem bytes_cell {H : Type} {enc : TypeId × Value → H} {W : World} {fuel : Nat} {c : Value} {y : DataW H × List MemPlace} {held : Bool}
    (h : DataW.trod enc Tryd.prog W 0 (fun _ => true) held fuel 22 [c] = some y) (hw : ∀ n ∈ y.1.weights Tryd.prog 22, n ≤ reachBytes) : ∃ bs : List UInt8, SliceAt W c bs ∧ bs.length + 80 ≤ 140737488355328 := by
  rcases open_ints Tryd.underlying22 Tryd.underlying5 (by kernel_rfl) h with ⟨hcs, _⟩ | ⟨x, l, cp, zs, hcs, _, hl, hm, hz, hx, hcell, hwz⟩
  · obtain rfl : c = .slice none 0 0 := by simpa using hcs
    exact ⟨[], Or.inl ⟨rfl, rfl⟩, by decide⟩
  · obtain rfl : c = .slice (some x) l cp := by simpa using hcs
    have hzc : zs.length = cp := by simpa using hz
    have hcap : cp ≤ 140737488351232 := by
      have h1 : y.1 = .slice _ _ := congrArg Prod.fst hx
      rw [h1] at hw
      have h2 := hw ((_ + _) * Tryd.prog.bytesOf 5) (by rw [DataW.weights, Tryd.underlying22]; exact List.mem_cons_self)
      rw [bytes5] at h2
      simp only [lits, List.length_map, List.length_take, List.length_drop, reachBytes] at h2
      omega
    obtain ⟨bs, hbs, hs⟩ := sliceAt_of (zs := zs) (.inr ⟨_, rfl, hl, hzc, hcell, hwz⟩) (by omega)
    exact ⟨bs, hs, by omega⟩
theorem bytes34 : Tryd.prog.bytesOf 22 = 24 := by kernel_rfl
set_option maxHeartbeats 800000 in
set_option maxRecDepth 100000 in
/-- A list of texts that came in. -/
theorem open_texts {H : Type} {enc : TypeId × Value → H} {W : World} {ts : List TypeId} {ds : List (DataW H)} {j : Nat} {a0 : Option Addr} {len0 cap0 : Nat} {d0 : DataW H} {p0 : List MemPlace} {held : Bool}
    (hj : ts[j]? = some 39) (hd : ds[j]? = some d0) (h0 : DataW.Trod enc Tryd.prog W 0 (fun _ => true) held 39 (.slice a0 len0 cap0) d0 p0)
    (hsz : (DataW.weightsEach Tryd.prog ts ds).all (· ≤ reachBytes) = true) : ∃ bss, BsAt W (.slice a0 len0 cap0) bss ∧ bss.length ≤ 140737488355328 := by
  obtain ⟨fuel, hf⟩ := h0
  rcases Go.Deep.open_slice1 Tryd.underlying39 cells34 hf with ⟨hcs, _⟩ | ⟨a, len, cap, m, n, V, D, Pl, hcs, _, hl, hm, hmm, hx, hel⟩
  · simp [Value.cells] at hcs
    obtain ⟨rfl, rfl, rfl⟩ := hcs
    exact ⟨[], BsAt.nil _, by simp⟩
  · simp [Value.cells] at hcs
    obtain ⟨rfl, rfl, rfl⟩ := hcs
    simp only [if_true] at hmm
    have hwt : ∀ k ∈ d0.weights Tryd.prog 39, k ≤ reachBytes := fun k hk => by
      have := List.all_eq_true.1 hsz k (DataW.weights_mem_each hj hd k hk)
      simpa using this
    have hd0 : d0 = .slice ((List.range len0).map D) ((List.range (m - len0)).map fun j => D (len0 + j)) := congrArg Prod.fst hx
    have hb : ∀ i, ∃ bs : List UInt8, i < len0 → SliceAt W (V i) bs := fun i => by
      by_cases hi : i < len0
      · have hw3 : ∀ k ∈ (D i).weights Tryd.prog 22, k ≤ reachBytes := fun k hk => by
          refine hwt k ?_
          rw [hd0, DataW.weights, Tryd.underlying39]
          exact List.mem_cons_of_mem _ (List.mem_append.2 (Or.inl (mem_weightsAll (d := D i) (List.mem_map.2 ⟨i, List.mem_range.2 hi, rfl⟩) k hk)))
        obtain ⟨bs, hs, _⟩ := bytes_cell (hel i (by omega)).2 hw3
        exact ⟨bs, fun _ => hs⟩
      · exact ⟨[], fun h => absurd h hi⟩
    obtain ⟨f, hfb⟩ := Classical.axiomOfChoice hb
    have hlen : len0 ≤ 140737488355328 := by
      rw [hd0] at hwt
      have h2 := hwt ((_ + _) * Tryd.prog.bytesOf 22) (by rw [DataW.weights, Tryd.underlying39]; exact List.mem_cons_self)
      rw [bytes34] at h2
      simp only [List.length_map, List.length_range, reachBytes] at h2
      omega
    refine ⟨(List.range len0).map f, ⟨some a, cap0, by simp, by simpa using hl, fun hp => ?_⟩, by simpa using hlen⟩
    have hp0 : 0 < len0 := by simpa using hp
    obtain ⟨b, off, spot⟩ := a
    have hspot : spot = none := by
      have h2 := (hel 0 (by omega)).1
      simpa [Addr.add] using World.cell?_spot h2
    subst hspot
    refine ⟨b, off, rfl, ?_, fun i hi => ?_⟩
    · have h2 := (hel 0 (by omega)).1
      rw [Addr.add_lit] at h2
      exact block_lt_of_cell (a := ⟨b, off + 0, none⟩) h2
    · have hi2 : i < len0 := by simpa using hi
      have h2 := (hel i (by omega)).1
      rw [Addr.add_lit] at h2
      refine ⟨V i, h2, ?_⟩
      have e : ((List.range len0).map f).getD i [] = f i := by simp [List.getD_eq_getElem?_getD, hi2]
      rw [e]
      exact hfb i hi2
end Go.Proofs.YtlbggkmblkhjoabDoor
