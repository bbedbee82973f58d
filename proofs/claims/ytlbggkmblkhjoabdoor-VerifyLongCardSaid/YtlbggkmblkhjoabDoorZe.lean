/- Rows of digests: others put behind them, noughts put behind them. -/
import Derived.Test.YtlbggkmblkhjoabDoorZa
import Derived.Test.YtlbggkmblkhjoabDoorPush
import Derived.Lib.AppendZerosOnto
namespace Go.Proofs.YtlbggkmblkhjoabDoor
open Go.RowKit

theorem zeroCells_dig (m : Nat) : Builtin.zeroCells (Value.agg (S.v8 (S.zeros 32))).cells m = (List.replicate (m * 32) (Value.int .u8 0)).toArray := by
  have hs : (Value.agg (S.v8 (S.zeros 32))).cells.size = 32 := by rw [Value.cells, S.v8_size, S.zeros_length]
  have h := made_zeros m
  apply Array.ext'
  rw [List.toList_toArray, ← h]
  unfold Builtin.zeroCells madeCells
  rw [hs]
  rfl
theorem dzeros_room (w : World) (g n cap m : Nat) (cur : Array Value) (hg : w.heap[g]? = some (.cells cur 31 (0, 0))) (ty : TypeId) (hm : m ≤ 65) (hm0 : ¬ m = 0) (hroom : n + m ≤ cap) (hfit : n * 32 + m * 32 ≤ cur.size) :
    (Builtin.append_ #[24, 3] ty #[.slice (some ⟨g, 0, none⟩) n cap, .int .i64 (m : Int)]).run Tryd.prog w =
      .ok (.slice (some ⟨g, 0, none⟩) (n + m) cap) (w.setRow g (cur.toList.take (n * 32) ++ List.replicate (m * 32) (Value.int .u8 0) ++ cur.toList.drop (n * 32 + m * 32)).toArray) := by
  have hw : IntKind.i64.wrap (m : Int) = (m : Int) := by rw [IntKind.wrap_i64]; omega
  have h1 : ¬ (m : Int) < 0 := by omega
  have h2 : ¬ 281474976710656 < (m : Int) * 32 := by omega
  obtain ⟨i, hi, hz0, hz1, hz2⟩ := info_parts info31
  have hst := run_storeCells_at Tryd.prog g (n * 32) 31 (List.replicate (m * 32) (Value.int .u8 0)) 0 cur w hg (by simpa using hfit) (by intro v hv; rw [List.eq_of_mem_replicate hv]; rfl)
  simp only [Nat.add_zero, List.length_replicate] at hst
  have ha := asInt_i64 w m
  simp [Builtin.append_, run_underlying Tryd.underlying24, run_underlying Tryd.underlying3, sizeOf, typeInfo, zeroValue, hi, hz0, hz1, hz2, ha, hw, h1, h2, hroom, zeroCells_dig, Addr.add_lit, hst]
  intro h
  omega
theorem run_append_dzeros {B : Nat} {w : World} {g cap : Nat} {ds : List (List UInt8)} (m : Nat) (ty : TypeId) (h : DgRow B w (.slice (some ⟨g, 0, none⟩) ds.length cap) ds) (hd : ∀ d ∈ ds, d.length = 32) (hm : m ≤ 65) (hm0 : ¬ m = 0) (hl : ds.length ≤ 1000) (hB : B ≤ w.heap.size) :
    ∃ v' w', (Builtin.append_ #[24, 3] ty #[.slice (some ⟨g, 0, none⟩) ds.length cap, .int .i64 (m : Int)]).run Tryd.prog w = .ok v' w' ∧ DgRow B w' v' (ds ++ List.replicate m (S.zeros 32)) ∧ Below B w w' := by
  have hlen : (ds ++ List.replicate m (S.zeros 32)).length = ds.length + m := by rw [List.length_append, List.length_replicate]
  have hfl : (ds.flatMap S.v8l).length = ds.length * 32 := flat_len ds hd
  have hF : (ds ++ List.replicate m (S.zeros 32)).flatMap S.v8l = ds.flatMap S.v8l ++ List.replicate (m * 32) (Value.int .u8 0) := by rw [List.flatMap_append, flat_zeros]
  have hFl : (ds.flatMap S.v8l ++ List.replicate (m * 32) (Value.int .u8 0)).length = (ds.length + m) * 32 := by rw [List.length_append, hfl, List.length_replicate]; omega
  rcases h.2 with ⟨e, _⟩ | ⟨g', cap', cur, e, hb, hr, h1, h2, h3, h4⟩
  · simp at e
  simp only [Value.slice.injEq, Option.some.injEq, Addr.mk.injEq, and_true] at e
  obtain ⟨⟨rfl, _⟩, _, rfl⟩ := e
  by_cases hroom : ds.length + m ≤ cap
  · refine ⟨_, _, dzeros_room w g ds.length cap m cur hr ty hm hm0 hroom (by omega), ?_, below_setRow (Below.refl _ _) hb _⟩
    unfold DgRow
    rw [hlen, hF]
    refine ⟨hFl, Or.inr ⟨g, cap, _, rfl, hb, setRow_heap _ _ _ _ _ _ hr, hroom, h2, ?_, ?_⟩⟩
    · simp only [List.size_toArray, List.length_append, List.length_take, List.length_drop, Array.length_toList, List.length_replicate]
      omega
    · rw [h4, List.toList_toArray, ← hFl]
      exact List.take_left
  · obtain ⟨i, hi, hz0, hz1, hz2⟩ := info_parts info31
    have hge := grownCap_ge w (ds.length + m) cap 31
    have hcm' : grownCap w (ds.length + m) cap 31 ≤ maxLen := grownCap_le_maxLen w (ds.length + m) cap 31 (by simp only [maxLen]; omega)
    have h48 := growslice_fits (need := ds.length + m) (old := cap) (bytes := 32) (by omega) (by omega)
    have holds : ∀ j v, (ds.flatMap S.v8l)[j]? = some v → w.cell? ((⟨g, 0, none⟩ : Addr).add j) = some v := fun j v hv => by
      rw [Addr.add_lit, Nat.zero_add, cell_of_row w g j _ _ _ hr]
      have hjl : j < ds.length * 32 := by rw [← hfl]; exact (List.getElem?_eq_some_iff.1 hv).1
      rw [← h4, List.getElem?_take, if_pos hjl] at hv
      simpa using hv
    have hfo := run_firstCells_some (P := Tryd.prog) w.drew 32 ds.length ⟨g, 0, none⟩ ds.length cap (ds.flatMap S.v8l) (by omega) (by simpa using holds)
    have hrun := Lib.run_append_grow_zeros (P := Tryd.prog) w 24 3 ty 31 i (.agg (S.v8 (S.zeros 32))) .i64 .i64 Tryd.underlying24 Tryd.underlying3 hi hz0 (some ⟨g, 0, none⟩) ds.length cap (ds.flatMap S.v8l) (by rw [hz1]; exact hfo) m (by omega) (by omega) (by omega) (by omega) (by rw [hz2]; omega) (by rw [hz2]; exact h48)
    refine ⟨_, _, hrun, ?_, ((Below.refl _ _).drew).alloc hB _⟩
    unfold DgRow
    rw [hlen, hF]
    refine ⟨hFl, Or.inr ⟨w.heap.size, _, _, rfl, hB, heap_alloc_new w.drew _, hge, hcm', ?_, ?_⟩⟩
    · simp only [Array.size_append, List.size_toArray, zeroCells_dig, hfl, List.length_replicate]
      omega
    · simp only [zeroCells_dig, Array.toList_append]
      rw [← hFl]
      exact List.take_left
/-- Digests that lie somewhere are put behind a row. -/
theorem run_append_digs {B : Nat} {w : World} {v u : Value} {ds ps : List (List UInt8)} (ty : TypeId) (h : DgRow B w v ds) (hu : DgAt w u ps) (hp0 : 0 < ps.length) (hl : ds.length ≤ 1000) (hl2 : ps.length ≤ 1000) (hB : B ≤ w.heap.size) :
    ∃ v' w', (Builtin.append_ #[24, 24] ty #[v, u]).run Tryd.prog w = .ok v' w' ∧ DgRow B w' v' (ds ++ ps) ∧ Below B w w' := by
  obtain ⟨ao, cp, rfl, _, hp, hs⟩ := hu
  obtain ⟨gs, off, rfl, _, hc⟩ := hs hp0
  obtain ⟨i, hi, hz0, hz1, hz2⟩ := info_parts info31
  have hfl : (ps.flatMap S.v8l).length = ps.length * 32 := flat_len ps hp
  have hsrc : ∀ j v, (ps.flatMap S.v8l)[j]? = some v → w.cell? ((⟨gs, off, none⟩ : Addr).add j) = some v := fun j v hv => by
    have hjl : j < ps.length * 32 := by rw [← hfl]; exact (List.getElem?_eq_some_iff.1 hv).1
    have hj : j = j / 32 * 32 + j % 32 := by omega
    rw [hj, flat_at ps hp (j / 32) (j % 32) (by omega) (by omega)] at hv
    rw [Addr.add_lit]
    have := hc (j / 32) (by omega) (j % 32) v hv
    rw [Nat.add_assoc, ← hj] at this
    exact this
  obtain ⟨v', w', h1, h2, h3, h4⟩ := run_append_own (P := Tryd.prog) w B 24 ty 31 i (.agg (S.v8 (S.zeros 32))) 32 32 Tryd.underlying24 hi hz0 hz1 hz2 (by rw [Value.cells, S.v8_size]; rfl) (by omega) v ds.length (ds.flatMap S.v8l) h ⟨gs, off, none⟩ ps.length cp (ps.flatMap S.v8l) hfl hsrc (flat_one ps) (by simp [maxLen]; omega) (by omega) hB
  have h2b : DgRow B w' v' (ds ++ ps) := by unfold DgRow; rw [List.length_append, List.flatMap_append]; exact h2
  exact ⟨v', w', h1, h2b, (Below.refl _ _).grown h3 hB (fun k hk => (DgRow.blk h hk).1)⟩
/-- No digest is put behind an empty row: it stays. -/
theorem run_append_nodigs {w : World} {g : Nat} {u : Value} (ty : TypeId) (hu : DgAt w u []) : (Builtin.append_ #[24, 24] ty #[.slice (some ⟨g, 0, none⟩) 0 0, u]).run Tryd.prog w = .ok (.slice (some ⟨g, 0, none⟩) 0 0) w := by
  obtain ⟨ao, cp, rfl, _, hp, hs⟩ := hu
  obtain ⟨i, hi, hz0, hz1, hz2⟩ := info_parts info31
  have hl0 : ∀ (x : Addr), (loadCells x 0).run Tryd.prog w = .ok #[] w := fun x => by simpa using run_loadCells_list (P := Tryd.prog) w x [] (by simp)
  cases ao with
  | none => simp [Builtin.append_, run_underlying Tryd.underlying24, Builtin.lenOf, Builtin.firstCells, sizeOf, typeInfo, hi, storeCells]
  | some x => simp [Builtin.append_, run_underlying Tryd.underlying24, Builtin.lenOf, Builtin.firstCells, sizeOf, typeInfo, hi, hl0, storeCells]
theorem DgRow.empty {w : World} {g : Nat} (h0 : w.heap[g]? = some (.cells #[] 31 (0, 0))) (B : Nat) (hB : B ≤ g) : DgRow B w (.slice (some ⟨g, 0, none⟩) 0 0) [] := ⟨rfl, Or.inr ⟨g, 0, #[], rfl, hB, h0, Nat.le_refl _, by simp [maxLen], rfl, rfl⟩⟩
/-- A copy of digests, behind an empty row. -/
theorem run_copied_digs {w : World} {g : Nat} {u : Value} {ps : List (List UInt8)} (ty : TypeId) (h0 : w.heap[g]? = some (.cells #[] 31 (0, 0))) (hu : DgAt w u ps) (hl : ps.length ≤ 1000) :
    ∃ v' w', (Builtin.append_ #[24, 24] ty #[.slice (some ⟨g, 0, none⟩) 0 0, u]).run Tryd.prog w = .ok v' w' ∧ (DgRow g w' v' ps ∧ (∃ g' c', v' = .slice (some ⟨g', 0, none⟩) ps.length c') ∧ Below g w w') := by
  have hrow := DgRow.empty h0 g (Nat.le_refl _)
  by_cases hp : ps.length = 0
  · have e : ps = [] := List.eq_nil_of_length_eq_zero hp
    subst e
    exact ⟨_, w, run_append_nodigs ty hu, hrow, ⟨g, 0, rfl⟩, Below.refl _ _⟩
  · obtain ⟨v', w', h1, h2, h3⟩ := run_append_digs ty hrow hu (by omega) (by simp) hl (Nat.le_of_lt (block_lt_of_row h0))
    rw [List.nil_append] at h2
    refine ⟨v', w', h1, h2, ?_, h3⟩
    rcases h2.2 with ⟨e, e2⟩ | ⟨g', c', _, e, _⟩
    · omega
    · exact ⟨g', c', e⟩
end Go.Proofs.YtlbggkmblkhjoabDoor
