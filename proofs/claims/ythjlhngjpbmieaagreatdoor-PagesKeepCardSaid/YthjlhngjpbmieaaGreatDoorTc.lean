/- SortFunc of a row of sheets. -/
import Derived.Test.YthjlhngjpbmieaaGreatDoorTb
namespace Go.Proofs.YthjlhngjpbmieaaGreatDoor
open Go.RowKit
open Go.Sort (flatK size_flatK get_flatK HoldsK)

theorem flatK_sh (d : List ShV) : (flatK encSh 2 d.toArray).toList = d.flatMap encSh := by
  apply List.ext_getElem?
  intro t
  by_cases ht : t < d.length * 2
  · obtain ⟨i, r, hr, rfl⟩ : ∃ i r, r < 2 ∧ t = i * 2 + r := ⟨t / 2, t % 2, by omega, by omega⟩
    have hi : i < d.length := by omega
    obtain ⟨e0, e1⟩ := flatSh_get d i d[i] (List.getElem?_eq_getElem hi)
    have hz : i * 2 + r < (flatK encSh 2 d.toArray).size := by simpa using ht
    have e := get_flatK encSh 2 d.toArray (i * 2 + r) (by simpa using ht)
    rw [show (i * 2 + r) / 2 = i by omega, show (i * 2 + r) % 2 = r by omega, getElem!_pos d.toArray i (by simpa using hi), List.getElem_toArray] at e
    have e3 : (flatK encSh 2 d.toArray).toList[i * 2 + r]? = some ((encSh d[i])[r]!) := by
      rw [Array.getElem?_toList, Array.getElem?_eq_getElem hz, ← getElem!_pos (flatK encSh 2 d.toArray) (i * 2 + r) hz, e]
    rw [e3]
    match r, hr with
    | 0, _ => exact e0.symm
    | 1, _ => exact e1.symm
  · rw [List.getElem?_eq_none (by simp; omega), List.getElem?_eq_none (by rw [flatSh_length]; omega)]

/-- SortFunc of a row of sheets: the same sheets, their pages ascending. -/
theorem sort_rows (g c : Nat) (d : List ShV) (w : World) (h : ShR w g d) (hl : d.length ≤ 100000) :
    Calls Tryz.prog 50 #[.slice (some ⟨g, 0, none⟩) d.length c, .func (.func 51) #[] #[]] w fun e w' => e = .returned (.tuple #[]) ∧ ∃ d' : List ShV, d'.Perm d ∧ d'.Pairwise (fun x y => x.1 ≤ y.1) ∧ ShR w' g d' ∧ ∀ B, B ≤ g → Below B w w' := by
  obtain ⟨cur, h1, h2⟩ := h.row
  have hgs := block_lt_of_row h1
  have hcs : d.length * 2 ≤ cur.size := by
    have := congrArg List.length h2
    rw [flatSh_length, List.length_take] at this
    have e : cur.toList.length = cur.size := Array.length_toList
    omega
  have hH : HoldsK encSh 2 w g 0 d.toArray := by
    intro j hj
    have hj2 := hj
    rw [size_flatK, List.size_toArray] at hj
    refine ⟨?_, frozen_of_row w g _ cur 37 h1⟩
    rw [cell_of_row w g _ _ 37 _ h1, Nat.zero_add]
    have e : (cur.toList.take (d.length * 2))[j]? = (flatK encSh 2 d.toArray).toList[j]? := by rw [h2, flatK_sh]
    rw [List.getElem?_take_of_lt hj, Array.getElem?_toList, Array.getElem?_toList] at e
    rw [e, Array.getElem?_eq_getElem hj2, getElem!_pos _ j hj2]
    rfl
  have hs := sort_any g 0 c d.toArray w hH hgs (by rw [List.size_toArray]; omega)
  rw [List.size_toArray] at hs
  refine hs.mono ?_
  rintro e w' ⟨rfl, d', n, os, ⟨hp1, _, hp2⟩, hso, rfl⟩
  have hp1 : d'.size = d.length := hp1
  have hp3 : d'.toList.length = d.length := hp1
  have hd' : d' = d'.toList.toArray := by simp
  refine ⟨rfl, d'.toList, ?_, ?_, ?_, ?_⟩
  · rw [← hp1] at hp2
    simp only [Array.extract_size] at hp2
    have e2 : d.toArray.extract 0 d'.size = d.toArray := by rw [hp1]; simp
    rw [e2] at hp2
    simpa using hp2
  · rw [List.pairwise_iff_getElem]
    intro i j hi hj hij
    have hj' : j < d'.size := by simpa using hj
    have hi' : i < d'.size := by omega
    have := hso i j (Nat.zero_le _) hij (by omega)
    rw [ltSh, getElem!_pos d' j hj', getElem!_pos d' i hi', decide_eq_false_iff_not] at this
    simp only [Array.getElem_toList]
    omega
  · refine ⟨Sort.putCells id 0 (flatK encSh 2 d') cur, ?_, ?_⟩
    · rw [show sortWorldK encSh 2 w g 0 n d' os = Sort.grow (Sort.putRow id (Sort.ahead w n) g 0 (flatK encSh 2 d')) os from rfl, Sort.heap_grow_old _ _ (by simpa using hgs)]
      simp [Sort.putRow, Sort.mapBlock, Sort.ahead, Array.getElem?_modify, h1, Sort.onCells]
    · rw [← flatK_sh, ← hd']
      apply List.ext_getElem?
      intro j
      have hz : (flatK encSh 2 d').size = d.length * 2 := by rw [size_flatK, hp1]
      by_cases hj : j < d'.toList.length * 2
      · have hj1 : j < d.length * 2 := by rw [hp3] at hj; exact hj
        rw [List.getElem?_take_of_lt hj, Array.getElem?_toList, Array.getElem?_toList]
        have hq : j < (flatK encSh 2 d').size := by omega
        rw [Array.getElem?_eq_getElem hq]
        simp only [Sort.putCells, Array.getElem?_mapIdx, Array.getElem?_eq_getElem (show j < cur.size by omega), Option.map_some]
        rw [if_pos ⟨Nat.zero_le _, by omega⟩, Nat.sub_zero, getElem!_pos _ j hq]
        rfl
      · rw [hp3] at hj
        have e : (flatK encSh 2 d').toList.length = (flatK encSh 2 d').size := Array.length_toList
        rw [List.getElem?_take_eq_none (by rw [hp3]; omega), List.getElem?_eq_none (by omega)]
  · intro B hB
    refine ⟨rfl, rfl, rfl, by simp [sortWorldK, Sort.putRowK, Sort.ahead], fun k hk => ?_⟩
    rw [show sortWorldK encSh 2 w g 0 n d' os = Sort.grow (Sort.putRow id (Sort.ahead w n) g 0 (flatK encSh 2 d')) os from rfl]
    have hks : k < w.heap.size := by omega
    rw [Sort.heap_grow_old _ _ (by simpa using hks)]
    have : g ≠ k := by omega
    simp [Sort.putRow, Sort.mapBlock, Sort.ahead, Array.getElem?_modify, this]
end Go.Proofs.YthjlhngjpbmieaaGreatDoor
