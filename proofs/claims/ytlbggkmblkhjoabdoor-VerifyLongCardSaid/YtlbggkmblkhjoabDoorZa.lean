/- Rows of digests: made, copied into, one changed. -/
import Derived.Test.YtlbggkmblkhjoabDoorMi
import Derived.Test.YtlbggkmblkhjoabDoorWj
import Derived.Test.YtlbggkmblkhjoabDoorArgg
namespace Go.Proofs.YtlbggkmblkhjoabDoor
open Go.RowKit

theorem flat_zeros (N : Nat) : (List.replicate N (S.zeros 32)).flatMap S.v8l = List.replicate (N * 32) (.int .u8 0) := by
  induction N with
  | zero => rfl
  | succ n ih =>
    rw [List.replicate_succ, List.flatMap_cons, ih, show S.v8l (S.zeros 32) = List.replicate 32 (.int .u8 0) from rfl, List.replicate_append_replicate]
    congr 1
    omega
theorem made_zeros (N : Nat) : (madeCells (S.v8 (S.zeros 32)) (N * 32)).toList = List.replicate (N * 32) (.int .u8 0) := by
  apply List.ext_getElem?
  intro j
  by_cases hj : j < N * 32
  · have h32 : j % 32 < 32 := Nat.mod_lt _ (by omega)
    have hs : (S.v8 (S.zeros 32)).size = 32 := by rw [S.v8_size, S.zeros_length]
    have hz : ∀ k, k < 32 → (S.v8 (S.zeros 32))[k]! = .int .u8 0 := fun k hk => by
      rw [S.v8_eq, show S.v8l (S.zeros 32) = List.replicate 32 (.int .u8 0) from rfl]
      rw [getElem!_pos _ _ (by rw [List.size_toArray, List.length_replicate]; exact hk)]
      rw [List.getElem_toArray, List.getElem_replicate]
    have e1 : (madeCells (S.v8 (S.zeros 32)) (N * 32)).toList[j]? = some (.int .u8 0) := by
      simp only [madeCells, Array.toList_map, Array.toList_range, List.getElem?_map, List.getElem?_range hj, Option.map_some, hs, hz _ h32]
    rw [e1, List.getElem?_replicate, if_pos hj]
  · rw [List.getElem?_eq_none (by simp [madeCells]; omega), List.getElem?_eq_none (by rw [List.length_replicate]; omega)]
theorem make_digs (N : Nat) (hN : N ≤ 100000) (w : World) : (Instr.makeSlice 24 (.int .i64 (N : Int)) (.int .i64 (N : Int))).run Tryd.prog w = .ok (.slice (some ⟨w.heap.size, 0, none⟩) N N) (w.alloc (.cells (madeCells (S.v8 (S.zeros 32)) (N * 32)) 31)) := by
  obtain ⟨i, hi, hz0, hz1, hz2⟩ := info_parts info31
  have h := run_makeSlice (P := Tryd.prog) w 24 31 i (.agg (S.v8 (S.zeros 32))) Tryd.underlying24 hi hz0 .i64 .i64 (N : Int) (N : Int) (by omega) (Int.le_refl _) (by rw [hz1]; simp; omega) (by rw [hz2]; omega) (by omega)
  rw [hz1] at h
  simpa [Value.cells] using h
theorem DgRow.made (w : World) (N : Nat) (hN : N ≤ 100000) : DgRow w.heap.size (w.alloc (.cells (madeCells (S.v8 (S.zeros 32)) (N * 32)) 31)) (.slice (some ⟨w.heap.size, 0, none⟩) N N) (List.replicate N (S.zeros 32)) := by
  unfold DgRow
  rw [List.length_replicate, flat_zeros]
  refine ⟨by rw [List.length_replicate], Or.inr ⟨w.heap.size, N, _, rfl, Nat.le_refl _, heap_alloc_new _ _, Nat.le_refl _, by simp [maxLen]; omega, size_madeCells _ _, ?_⟩⟩
  rw [made_zeros, List.take_of_length_le (by rw [List.length_replicate]; exact Nat.le_refl _)]
theorem flat_take (ds : List (List UInt8)) (h : ∀ d ∈ ds, d.length = 32) (k : Nat) (hk : k ≤ ds.length) : (ds.flatMap S.v8l).take (k * 32) = (ds.take k).flatMap S.v8l := by
  have e : ds.flatMap S.v8l = (ds.take k).flatMap S.v8l ++ (ds.drop k).flatMap S.v8l := by rw [← List.flatMap_append, List.take_append_drop]
  have hl : ((ds.take k).flatMap S.v8l).length = k * 32 := by rw [flat_len _ (fun d hd => h d (List.mem_of_mem_take hd)), List.length_take]; congr 1; omega
  rw [e, List.take_append_of_le_length (by omega), List.take_of_length_le (by omega)]
theorem flat_drop (ds : List (List UInt8)) (h : ∀ d ∈ ds, d.length = 32) (k : Nat) (hk : k ≤ ds.length) : (ds.flatMap S.v8l).drop (k * 32) = (ds.drop k).flatMap S.v8l := by
  have e : ds.flatMap S.v8l = (ds.take k).flatMap S.v8l ++ (ds.drop k).flatMap S.v8l := by rw [← List.flatMap_append, List.take_append_drop]
  have hl : ((ds.take k).flatMap S.v8l).length = k * 32 := by rw [flat_len _ (fun d hd => h d (List.mem_of_mem_take hd)), List.length_take]; congr 1; omega
  rw [e, ← hl, List.drop_left]
/-- New digests es are laid over those from the place k on. -/
theorem flat_lay (xs : List Value) (ds es : List (List UInt8)) (hd : ∀ d ∈ ds, d.length = 32) (he : ∀ d ∈ es, d.length = 32) (k N : Nat) (hN : N = ds.length) (hk : k + es.length ≤ N) (hx : xs.take (N * 32) = ds.flatMap S.v8l) :
    (xs.take (k * 32) ++ es.flatMap S.v8l ++ xs.drop (k * 32 + es.length * 32)).take (N * 32) = (ds.take k ++ es ++ ds.drop (k + es.length)).flatMap S.v8l := by
  have e1 : xs.take (k * 32) = (ds.take k).flatMap S.v8l := by
    rw [← flat_take ds hd k (by omega), ← hx, List.take_take]; congr 1; omega
  have hl1 : ((ds.take k).flatMap S.v8l).length = k * 32 := by rw [flat_len _ (fun d hd' => hd d (List.mem_of_mem_take hd')), List.length_take]; congr 1; omega
  have hl2 : (es.flatMap S.v8l).length = es.length * 32 := flat_len es he
  have e3 : (xs.drop (k * 32 + es.length * 32)).take (N * 32 - (k * 32 + es.length * 32)) = (ds.drop (k + es.length)).flatMap S.v8l := by
    rw [← flat_drop ds hd (k + es.length) (by omega), ← hx, List.drop_take]
    congr 1
    · omega
    · congr 1; omega
  rw [e1, List.take_append, List.take_of_length_le (by rw [List.length_append]; omega), List.length_append, hl1, hl2, e3, List.flatMap_append, List.flatMap_append]
/-- A row of digests over which others are laid. -/
theorem DgRow.laid {B : Nat} {w : World} {g N cap : Nat} {ds es : List (List UInt8)} (h : DgRow B w (.slice (some ⟨g, 0, none⟩) N cap) ds) (hd : ∀ d ∈ ds, d.length = 32) (he : ∀ d ∈ es, d.length = 32) (k : Nat) (hk : k + es.length ≤ ds.length) :
    ∃ cur : Array Value, w.heap[g]? = some (.cells cur 31 (0, 0)) ∧ k * 32 + es.length * 32 ≤ cur.size ∧ DgRow B (w.setRow g (cur.toList.take (k * 32) ++ es.flatMap S.v8l ++ cur.toList.drop (k * 32 + es.length * 32)).toArray) (.slice (some ⟨g, 0, none⟩) N cap) (ds.take k ++ es ++ ds.drop (k + es.length)) ∧ Chg (fun j => j = g) w (w.setRow g (cur.toList.take (k * 32) ++ es.flatMap S.v8l ++ cur.toList.drop (k * 32 + es.length * 32)).toArray) := by
  rcases h.2 with ⟨e, _⟩ | ⟨g', cap', cur, e, hB, hr, h1, h2, h3, h4⟩
  · simp at e
  simp only [Value.slice.injEq, Option.some.injEq, Addr.mk.injEq, and_true] at e
  obtain ⟨⟨rfl, _⟩, rfl, rfl⟩ := e
  have hNN : (ds.take k ++ es ++ ds.drop (k + es.length)).length = ds.length := by simp only [List.length_append, List.length_take, List.length_drop]; omega
  have hall : ∀ d ∈ ds.take k ++ es ++ ds.drop (k + es.length), d.length = 32 := fun d hd' => by
    rw [List.mem_append, List.mem_append] at hd'
    rcases hd' with (h | h) | h
    · exact hd d (List.mem_of_mem_take h)
    · exact he d h
    · exact hd d (List.mem_of_mem_drop h)
  refine ⟨cur, hr, by omega, ⟨by rw [flat_len _ hall], Or.inr ⟨g, cap, _, by rw [hNN], hB, setRow_heap _ _ _ _ _ _ hr, by rw [hNN]; exact h1, h2, ?_, ?_⟩⟩, ⟨rfl, rfl, rfl, by simp, fun j _ hj => setRow_other _ _ _ _ hj⟩⟩
  · have hl2 : (es.flatMap S.v8l).length = es.length * 32 := flat_len es he
    simp only [List.size_toArray, List.length_append, List.length_take, List.length_drop, hl2, Array.length_toList]
    omega
  · rw [hNN, List.toList_toArray]
    exact flat_lay cur.toList ds es hd he k ds.length rfl hk h4
/-- One digest of a row is stored. -/
theorem DgRow.set {B : Nat} {w : World} {g N cap : Nat} {ds : List (List UInt8)} (h : DgRow B w (.slice (some ⟨g, 0, none⟩) N cap) ds) (hd : ∀ d ∈ ds, d.length = 32) (k : Nat) (hk : k < ds.length) (m : List UInt8) (hm : m.length = 32) :
    ∃ w', (Instr.storeAt 31 (.pointer (some ⟨g, k * 32, none⟩)) (.agg (S.v8 m))).run Tryd.prog w = .ok () w' ∧ DgRow B w' (.slice (some ⟨g, 0, none⟩) N cap) (ds.set k m) ∧ Chg (fun j => j = g) w w' := by
  obtain ⟨cur, hr, hsz, hrow, hch⟩ := DgRow.laid h hd (es := [m]) (fun d hd' => by simp only [List.mem_singleton] at hd'; rw [hd']; exact hm) k (by show k + 1 ≤ ds.length; omega)
  have e1 : ds.take k ++ [m] ++ ds.drop (k + 1) = ds.set k m := by rw [List.set_eq_take_append_cons_drop, if_pos hk]; simp
  have hml : (S.v8l m).length = 32 := by rw [S.v8l_length, hm]
  rw [show [m].length = 1 from rfl, e1] at hrow
  refine ⟨_, ?_, hrow, hch⟩
  have hst := run_storeCells_at Tryd.prog g (k * 32) 31 (S.v8l m) 0 cur w hr (by rw [hml]; simpa using hsz) (S.v8l_one m)
  have hi := size_dig m hm
  cases hq : Tryd.prog.info? 31 with
  | none => simp [hq] at hi
  | some i =>
    have hs : (S.v8 m).size = i.size := by simp [hq] at hi; omega
    have hl : (S.v8 m).toList = S.v8l m := by rw [S.v8_eq]
    simp only [Nat.add_zero] at hst
    simp [Instr.storeAt, Instr.sureAddr, storeVar, sizeOf, typeInfo, hq, Value.cells, hs, hl, hst, hml]
/-- Digests that lie somewhere are copied over the first ones of a row. -/
theorem run_copy_digs {B : Nat} {w : World} {g N cap : Nat} {ds ps : List (List UInt8)} {u : Value} (ty : TypeId) (h : DgRow B w (.slice (some ⟨g, 0, none⟩) N cap) ds) (hd : ∀ d ∈ ds, d.length = 32) (hN : N = ds.length) (hu : DgAt w u ps) (hl : ps.length ≤ ds.length) :
    ∃ v' w', (Builtin.copy_ #[24, 24] ty #[.slice (some ⟨g, 0, none⟩) N cap, u]).run Tryd.prog w = .ok v' w' ∧ DgRow B w' (.slice (some ⟨g, 0, none⟩) N cap) (ps ++ ds.drop ps.length) ∧ Chg (fun j => j = g) w w' := by
  obtain ⟨ao, cp, rfl, _, hp, hs⟩ := hu
  obtain ⟨cur, hr, hsz, hrow, hch⟩ := DgRow.laid h hd hp 0 (by omega)
  rw [show ds.take 0 ++ ps ++ ds.drop (0 + ps.length) = ps ++ ds.drop ps.length by simp] at hrow
  have hfl : (ps.flatMap S.v8l).length = ps.length * 32 := flat_len ps hp
  have hst := run_storeCells_at Tryd.prog g 0 31 (ps.flatMap S.v8l) 0 cur w hr (by rw [hfl]; omega) (flat_one ps)
  obtain ⟨i, hi, hz0, hz1, hz2⟩ := info_parts info31
  have hmin : Nat.min ps.length N = ps.length := Nat.min_eq_left (by omega)
  refine ⟨goInt ps.length, _, ?_, hrow, hch⟩
  by_cases hp0 : ps.length = 0
  · have hpe : ps = [] := List.eq_nil_of_length_eq_zero hp0
    subst hpe
    have hl0 : ∀ (x : Addr), (loadCells x 0).run Tryd.prog w = .ok #[] w := fun x => by simpa using run_loadCells_list (P := Tryd.prog) w x [] (by simp)
    simp only [List.flatMap_nil] at hst
    cases ao with
    | none => simpa [Builtin.copy_, run_underlying Tryd.underlying24, Builtin.lenOf, Builtin.firstCells, sizeOf, typeInfo, hi, hz1, storeCells] using hst
    | some x => simpa [Builtin.copy_, run_underlying Tryd.underlying24, Builtin.lenOf, Builtin.firstCells, sizeOf, typeInfo, hi, hz1, hl0, storeCells] using hst
  · obtain ⟨gs, off, rfl, _, hc⟩ := hs (by omega)
    have hsrc : ∀ j v, (ps.flatMap S.v8l)[j]? = some v → w.cell? ((⟨gs, off, none⟩ : Addr).add j) = some v := fun j v hv => by
      have hjl : j < ps.length * 32 := by rw [← hfl]; exact (List.getElem?_eq_some_iff.1 hv).1
      have hj : j = j / 32 * 32 + j % 32 := by omega
      rw [hj, flat_at ps hp (j / 32) (j % 32) (by omega) (by omega)] at hv
      rw [Addr.add_lit]
      have := hc (j / 32) (by omega) (j % 32) v hv
      rw [Nat.add_assoc, ← hj] at this
      exact this
    have hld := run_loadCells_list (P := Tryd.prog) w ⟨gs, off, none⟩ (ps.flatMap S.v8l) hsrc
    rw [hfl] at hld
    simp only [Nat.add_zero, Nat.zero_add, hfl] at hst
    simp only [List.take_zero, List.nil_append] at hst
    simp [Builtin.copy_, run_underlying Tryd.underlying24, Builtin.lenOf, Builtin.firstCells, sizeOf, typeInfo, hi, hz1]
    rw [hmin, hld]
    simp only [Result.andThen_ok, hst]
theorem DgAt.take {w : World} {ao : Option Addr} {n cap : Nat} {ds : List (List UInt8)} (h : DgAt w (.slice ao n cap) ds) (k : Nat) (hk : k ≤ n) : DgAt w (.slice ao k cap) (ds.take k) := by
  obtain ⟨ao', cap', e, h1, h2, h3⟩ := h
  simp only [Value.slice.injEq] at e
  obtain ⟨rfl, rfl, rfl⟩ := e
  have hl : (ds.take k).length = k := by rw [List.length_take]; omega
  refine ⟨ao, cap, by rw [hl], by omega, fun d hd => h2 d (List.mem_of_mem_take hd), fun hp => ?_⟩
  rw [hl] at hp
  obtain ⟨g, off, e2, h4, h5⟩ := h3 (by omega)
  refine ⟨g, off, e2, h4, fun j hj => ?_⟩
  rw [hl] at hj
  rw [List.getD_eq_getElem?_getD, List.getElem?_take, if_pos hj, ← List.getD_eq_getElem?_getD]
  exact h5 j (by omega)
end Go.Proofs.YtlbggkmblkhjoabDoor
