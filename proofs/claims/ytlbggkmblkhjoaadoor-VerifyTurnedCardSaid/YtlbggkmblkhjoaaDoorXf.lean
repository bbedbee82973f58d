/- Paths are no longer than the tree is deep. -/
import Derived.Test.YtlbggkmblkhjoaaDoorMg
import Derived.Test.YtlbggkmblkhjoaaDoorXe
import Derived.Test.YtlbggkmblkhjoaaDoorPush
import Derived.Lib.AppendZerosOnto
import Derived.Test.YtlbggkmblkhjoaaDoorWo
import Derived.Test.YtlbggkmblkhjoaaDoorWj
import Derived.Test.YtlbggkmblkhjoaaDoorMh
import Derived.Test.YtlbggkmblkhjoaaDoorWithin
import Derived.Deep.CutBlock
namespace Go.Proofs.YtlbggkmblkhjoaaDoor
open Go.RowKit

namespace S
theorem half_deep {n d : Nat} (h2 : 2 ≤ n) (h : n ≤ 2 ^ (d + 1)) : half n ≤ 2 ^ d ∧ n - half n ≤ 2 ^ d := by
  have hne : n - 1 ≠ 0 := by omega
  have hlt : (n - 1).log2 < d + 1 := (Nat.log2_lt hne).2 (by omega)
  have h3 : 2 ^ (n - 1).log2 ≤ 2 ^ d := Nat.pow_le_pow_right (by omega) (by omega)
  have h4 : n - 1 < 2 ^ ((n - 1).log2 + 1) := (Nat.log2_lt hne).1 (by omega)
  rw [Nat.pow_succ] at h4
  unfold half
  omega
theorem path_deep (a : Int) : ∀ d (l : List (List UInt8)) i, l.length ≤ 2 ^ d → (path a l i).length ≤ d := by
  intro d
  induction d with
  | zero => intro l i h; rw [path_one a l i (by simpa using h)]; simp
  | succ d ih =>
    intro l i h
    by_cases h1 : l.length ≤ 1
    · rw [path_one a l i h1]; simp
    · obtain ⟨e1, e2⟩ := half_deep (show 2 ≤ l.length by omega) h
      by_cases hi : i < half l.length
      · rw [path_left a l i (by omega) hi, List.length_append]
        have := ih (l.take (half l.length)) i (by rw [List.length_take]; omega)
        simp; omega
      · rw [path_right a l i (by omega) hi, List.length_append]
        have := ih (l.drop (half l.length)) (i - half l.length) (by rw [List.length_drop]; omega)
        simp; omega
theorem grow_deep (a : Int) : ∀ d (l : List (List UInt8)) m b, l.length ≤ 2 ^ d → (grow a l m b).length ≤ d + 1 := by
  intro d
  induction d with
  | zero =>
    intro l m b h
    have := (grow_ok a l m b).2
    by_cases hm : m = l.length
    · cases b
      · rw [grow_part a l m hm]; simp
      · rw [grow_all a l m hm]; simp
    · rw [grow, if_neg hm, dif_pos (by simpa using h)]; simp
  | succ d ih =>
    intro l m b h
    by_cases hm : m = l.length
    · cases b
      · rw [grow_part a l m hm]; simp
      · rw [grow_all a l m hm]; simp
    · by_cases h1 : l.length ≤ 1
      · rw [grow, if_neg hm, dif_pos h1]; simp
      · obtain ⟨e1, e2⟩ := half_deep (show 2 ≤ l.length by omega) h
        by_cases hi : m ≤ half l.length
        · rw [grow_left a l m b (by omega) hm hi, List.length_append]
          have := ih (l.take (half l.length)) m b (by rw [List.length_take]; omega)
          simp; omega
        · rw [grow_right a l m b (by omega) hm hi, List.length_append]
          have := ih (l.drop (half l.length)) (m - half l.length) false (by rw [List.length_drop]; omega)
          simp; omega
theorem prove_len (a : Int) (l : List (List UInt8)) (i d : Nat) (h : l.length ≤ 2 ^ d) : (prove a l i).length ≤ d := by
  unfold prove
  split
  · exact path_deep a d l i h
  · simp
theorem prove_len32 (a : Int) (l : List (List UInt8)) (i : Nat) : ∀ x ∈ prove a l i, x.length = 32 := by
  unfold prove
  split
  · exact path_len32 a l i
  · intro x hx; simp at hx
theorem comp_len (a : Int) (l : List (List UInt8)) (i d : Nat) (h : l.length ≤ 2 ^ d) : (comp_ a l i).length ≤ d + 1 := by
  unfold comp_
  split
  · simp
  · exact grow_deep a d l i true h
theorem comp_len32 (a : Int) (l : List (List UInt8)) (i : Nat) : ∀ x ∈ comp_ a l i, x.length = 32 := by
  unfold comp_
  split
  · intro x hx; simp at hx
  · exact (grow_ok a l i true).1
end S
end Go.Proofs.YtlbggkmblkhjoaaDoor
namespace Go.Proofs.YtlbggkmblkhjoaaDoor
open Go.RowKit

theorem zeroCells_dig (m : Nat) : Builtin.zeroCells (Value.agg (S.v8 (S.zeros 32))).cells m = (List.replicate (m * 32) (Value.int .u8 0)).toArray := by
  have hs : (Value.agg (S.v8 (S.zeros 32))).cells.size = 32 := by rw [Value.cells, S.v8_size, S.zeros_length]
  have h := made_zeros m
  apply Array.ext'
  rw [List.toList_toArray, ← h]
  unfold Builtin.zeroCells madeCells
  rw [hs]
  rfl
theorem dzeros_room (w : World) (g n cap m : Nat) (cur : Array Value) (hg : w.heap[g]? = some (.cells cur 23 (0, 0))) (ty : TypeId) (hm : m ≤ 65) (hm0 : ¬ m = 0) (hroom : n + m ≤ cap) (hfit : n * 32 + m * 32 ≤ cur.size) :
    (Builtin.append_ #[32, 3] ty #[.slice (some ⟨g, 0, none⟩) n cap, .int .i64 (m : Int)]).run Tryd.prog w =
      .ok (.slice (some ⟨g, 0, none⟩) (n + m) cap) (w.setRow g (cur.toList.take (n * 32) ++ List.replicate (m * 32) (Value.int .u8 0) ++ cur.toList.drop (n * 32 + m * 32)).toArray) := by
  have hw : IntKind.i64.wrap (m : Int) = (m : Int) := by rw [IntKind.wrap_i64]; omega
  have h1 : ¬ (m : Int) < 0 := by omega
  have h2 : ¬ 281474976710656 < (m : Int) * 32 := by omega
  obtain ⟨i, hi, hz0, hz1, hz2⟩ := info_parts info31
  have hst := run_storeCells_at Tryd.prog g (n * 32) 23 (List.replicate (m * 32) (Value.int .u8 0)) 0 cur w hg (by simpa using hfit) (by intro v hv; rw [List.eq_of_mem_replicate hv]; rfl)
  simp only [Nat.add_zero, List.length_replicate] at hst
  have ha := asInt_i64 w m
  simp [Builtin.append_, run_underlying Tryd.underlying32, run_underlying Tryd.underlying3, sizeOf, typeInfo, zeroValue, hi, hz0, hz1, hz2, ha, hw, h1, h2, hroom, zeroCells_dig, Addr.add_lit, hst]
  intro h
  omega
theorem run_append_dzeros {B : Nat} {w : World} {g cap : Nat} {ds : List (List UInt8)} (m : Nat) (ty : TypeId) (h : DgRow B w (.slice (some ⟨g, 0, none⟩) ds.length cap) ds) (hd : ∀ d ∈ ds, d.length = 32) (hm : m ≤ 65) (hm0 : ¬ m = 0) (hl : ds.length ≤ 1000) (hB : B ≤ w.heap.size) :
    ∃ v' w', (Builtin.append_ #[32, 3] ty #[.slice (some ⟨g, 0, none⟩) ds.length cap, .int .i64 (m : Int)]).run Tryd.prog w = .ok v' w' ∧ DgRow B w' v' (ds ++ List.replicate m (S.zeros 32)) ∧ Below B w w' := by
  have hlen : (ds ++ List.replicate m (S.zeros 32)).length = ds.length + m := by rw [List.length_append, List.length_replicate]
  have hfl : (ds.flatMap S.v8l).length = ds.length * 32 := flat_len ds hd
  have hF : (ds ++ List.replicate m (S.zeros 32)).flatMap S.v8l = ds.flatMap S.v8l ++ List.replicate (m * 32) (Value.int .u8 0) := by rw [List.flatMap_append, flat_zeros]
  have hFl : (ds.flatMap S.v8l ++ List.replicate (m * 32) (Value.int .u8 0)).length = (ds.length + m) * 32 := by rw [List.length_append, hfl, List.length_replicate]; omega
  rcases h.2 with ⟨e, _⟩ | ⟨g', cap', cur, e, hb, hr, h1, h2, h3, h4⟩
  · simp at e
  simp only [Value.slice.injEq, Option.some.injEq, Addr.mk.injEq, and_true] at e
  obtain ⟨⟨rfl, _⟩, _, rfl⟩ := e
  by_cases hroom : ds.length + m ≤ cap
  · refine ⟨_, _, dzeros_room w g ds.length cap m cur hr ty hm hm0 hroom (by omega), ?_, below_setRow (Below.refl _ _) hb _⟩
    unfold DgRow
    rw [hlen, hF]
    refine ⟨hFl, Or.inr ⟨g, cap, _, rfl, hb, setRow_heap _ _ _ _ _ _ hr, hroom, h2, ?_, ?_⟩⟩
    · simp only [List.size_toArray, List.length_append, List.length_take, List.length_drop, Array.length_toList, List.length_replicate]
      omega
    · rw [h4, List.toList_toArray, ← hFl]
      exact List.take_left
  · obtain ⟨i, hi, hz0, hz1, hz2⟩ := info_parts info31
    have hge := grownCap_ge w (ds.length + m) cap 23
    have hcm' : grownCap w (ds.length + m) cap 23 ≤ maxLen := grownCap_le_maxLen w (ds.length + m) cap 23 (by simp only [maxLen]; omega)
    have h48 := growslice_fits (need := ds.length + m) (old := cap) (bytes := 32) (by omega) (by omega)
    have holds : ∀ j v, (ds.flatMap S.v8l)[j]? = some v → w.cell? ((⟨g, 0, none⟩ : Addr).add j) = some v := fun j v hv => by
      rw [Addr.add_lit, Nat.zero_add, cell_of_row w g j _ _ _ hr]
      have hjl : j < ds.length * 32 := by rw [← hfl]; exact (List.getElem?_eq_some_iff.1 hv).1
      rw [← h4, List.getElem?_take, if_pos hjl] at hv
      simpa using hv
    have hfo := run_firstCells_some (P := Tryd.prog) w.drew 32 ds.length ⟨g, 0, none⟩ ds.length cap (ds.flatMap S.v8l) (by omega) (by simpa using holds)
    have hrun := Lib.run_append_grow_zeros (P := Tryd.prog) w 32 3 ty 23 i (.agg (S.v8 (S.zeros 32))) .i64 .i64 Tryd.underlying32 Tryd.underlying3 hi hz0 (some ⟨g, 0, none⟩) ds.length cap (ds.flatMap S.v8l) (by rw [hz1]; exact hfo) m (by omega) (by omega) (by omega) (by omega) (by rw [hz2]; omega) (by rw [hz2]; exact h48)
    refine ⟨_, _, hrun, ?_, ((Below.refl _ _).drew).alloc hB _⟩
    unfold DgRow
    rw [hlen, hF]
    refine ⟨hFl, Or.inr ⟨w.heap.size, _, _, rfl, hB, heap_alloc_new w.drew _, hge, hcm', ?_, ?_⟩⟩
    · simp only [Array.size_append, List.size_toArray, zeroCells_dig, hfl, List.length_replicate]
      omega
    · simp only [zeroCells_dig, Array.toList_append]
      rw [← hFl]
      exact List.take_left
/-- Digests that lie somewhere are put behind a row. -/
theorem run_append_digs {B : Nat} {w : World} {v u : Value} {ds ps : List (List UInt8)} (ty : TypeId) (h : DgRow B w v ds) (hu : DgAt w u ps) (hp0 : 0 < ps.length) (hl : ds.length ≤ 1000) (hl2 : ps.length ≤ 1000) (hB : B ≤ w.heap.size) :
    ∃ v' w', (Builtin.append_ #[32, 32] ty #[v, u]).run Tryd.prog w = .ok v' w' ∧ DgRow B w' v' (ds ++ ps) ∧ Below B w w' := by
  obtain ⟨ao, cp, rfl, _, hp, hs⟩ := hu
  obtain ⟨gs, off, rfl, _, hc⟩ := hs hp0
  obtain ⟨i, hi, hz0, hz1, hz2⟩ := info_parts info31
  have hfl : (ps.flatMap S.v8l).length = ps.length * 32 := flat_len ps hp
  have hsrc : ∀ j v, (ps.flatMap S.v8l)[j]? = some v → w.cell? ((⟨gs, off, none⟩ : Addr).add j) = some v := fun j v hv => by
    have hjl : j < ps.length * 32 := by rw [← hfl]; exact (List.getElem?_eq_some_iff.1 hv).1
    have hj : j = j / 32 * 32 + j % 32 := by omega
    rw [hj, flat_at ps hp (j / 32) (j % 32) (by omega) (by omega)] at hv
    rw [Addr.add_lit]
    have := hc (j / 32) (by omega) (j % 32) v hv
    rw [Nat.add_assoc, ← hj] at this
    exact this
  obtain ⟨v', w', h1, h2, h3, h4⟩ := run_append_own (P := Tryd.prog) w B 32 ty 23 i (.agg (S.v8 (S.zeros 32))) 32 32 Tryd.underlying32 hi hz0 hz1 hz2 (by rw [Value.cells, S.v8_size]; rfl) (by omega) v ds.length (ds.flatMap S.v8l) h ⟨gs, off, none⟩ ps.length cp (ps.flatMap S.v8l) hfl hsrc (flat_one ps) (by simp [maxLen]; omega) (by omega) hB
  have h2b : DgRow B w' v' (ds ++ ps) := by unfold DgRow; rw [List.length_append, List.flatMap_append]; exact h2
  exact ⟨v', w', h1, h2b, (Below.refl _ _).grown h3 hB (fun k hk => (DgRow.blk h hk).1)⟩
/-- No digest is put behind an empty row: it stays. -/
theorem run_append_nodigs {w : World} {g : Nat} {u : Value} (ty : TypeId) (hu : DgAt w u []) : (Builtin.append_ #[32, 32] ty #[.slice (some ⟨g, 0, none⟩) 0 0, u]).run Tryd.prog w = .ok (.slice (some ⟨g, 0, none⟩) 0 0) w := by
  obtain ⟨ao, cp, rfl, _, hp, hs⟩ := hu
  obtain ⟨i, hi, hz0, hz1, hz2⟩ := info_parts info31
  have hl0 : ∀ (x : Addr), (loadCells x 0).run Tryd.prog w = .ok #[] w := fun x => by simpa using run_loadCells_list (P := Tryd.prog) w x [] (by simp)
  cases ao with
  | none => simp [Builtin.append_, run_underlying Tryd.underlying32, Builtin.lenOf, Builtin.firstCells, sizeOf, typeInfo, hi, storeCells]
  | some x => simp [Builtin.append_, run_underlying Tryd.underlying32, Builtin.lenOf, Builtin.firstCells, sizeOf, typeInfo, hi, hl0, storeCells]
theorem DgRow.empty {w : World} {g : Nat} (h0 : w.heap[g]? = some (.cells #[] 23 (0, 0))) (B : Nat) (hB : B ≤ g) : DgRow B w (.slice (some ⟨g, 0, none⟩) 0 0) [] := ⟨rfl, Or.inr ⟨g, 0, #[], rfl, hB, h0, Nat.le_refl _, by simp [maxLen], rfl, rfl⟩⟩
/-- A copy of digests, behind an empty row. -/
theorem run_copied_digs {w : World} {g : Nat} {u : Value} {ps : List (List UInt8)} (ty : TypeId) (h0 : w.heap[g]? = some (.cells #[] 23 (0, 0))) (hu : DgAt w u ps) (hl : ps.length ≤ 1000) :
    ∃ v' w', (Builtin.append_ #[32, 32] ty #[.slice (some ⟨g, 0, none⟩) 0 0, u]).run Tryd.prog w = .ok v' w' ∧ (DgRow g w' v' ps ∧ (∃ g' c', v' = .slice (some ⟨g', 0, none⟩) ps.length c') ∧ Below g w w') := by
  have hrow := DgRow.empty h0 g (Nat.le_refl _)
  by_cases hp : ps.length = 0
  · have e : ps = [] := List.eq_nil_of_length_eq_zero hp
    subst e
    exact ⟨_, w, run_append_nodigs ty hu, hrow, ⟨g, 0, rfl⟩, Below.refl _ _⟩
  · obtain ⟨v', w', h1, h2, h3⟩ := run_append_digs ty hrow hu (by omega) (by simp) hl (Nat.le_of_lt (block_lt_of_row h0))
    rw [List.nil_append] at h2
    refine ⟨v', w', h1, h2, ?_, h3⟩
    rcases h2.2 with ⟨e, e2⟩ | ⟨g', c', _, e, _⟩
    · omega
    · exact ⟨g', c', e⟩
end Go.Proofs.YtlbggkmblkhjoaaDoor
namespace Go.Proofs.YtlbggkmblkhjoaaDoor
open Go.RowKit

theorem u8_xor_cast (x y : UInt8) : bits .xor .u8 (x.toNat : Int) (y.toNat : Int) = ((x ^^^ y).toNat : Int) := by
  rw [u8_xor_nat _ _ x.toNat_lt y.toNat_lt, UInt8.toNat_xor]

theorem bs46two (W : World) (a b : Option Addr) (i j k l : Nat) : (Instr.buildSlice 46 2 #[(0, .slice a i j), (1, .slice b k l)]).run Tryd.prog W = .ok (.slice (some ⟨W.heap.size, 0, none⟩) 2 2) (W.alloc (.cells #[.slice a i j, .slice b k l] 32)) := by
  go_simp
theorem v8l_set (d : List UInt8) (b : Nat) (y : UInt8) : (S.v8l d).set b (.int .u8 (y.toNat : Int)) = S.v8l (d.set b y) := by
  simp only [S.v8l, List.map_set]
theorem flat_set : ∀ (ds : List (List UInt8)) (k b : Nat) (y : UInt8), (∀ d ∈ ds, d.length = 32) → k < ds.length → b < 32 → (ds.flatMap S.v8l).set (k * 32 + b) (.int .u8 (y.toNat : Int)) = (ds.set k ((ds.getD k []).set b y)).flatMap S.v8l
  | [], k, b, y, _, hk, _ => absurd hk (by simp)
  | d :: ds, 0, b, y, h, _, hb => by
    have hl : (S.v8l d).length = 32 := by rw [S.v8l_length, h d (by simp)]
    rw [List.flatMap_cons, Nat.zero_mul, Nat.zero_add, List.set_append_left _ _ (by omega), v8l_set]
    rfl
  | d :: ds, k + 1, b, y, h, hk, hb => by
    have hl : (S.v8l d).length = 32 := by rw [S.v8l_length, h d (by simp)]
    rw [List.flatMap_cons, List.set_append_right _ _ (by omega), hl, show (k + 1) * 32 + b - 32 = k * 32 + b by omega, flat_set ds k b y (fun x hx => h x (by simp [hx])) (by simpa using hk) hb]
    rfl
theorem store_u8 {w : World} {g o : Nat} {z : Value} (y : Int) (hc : w.cell? ⟨g, o, none⟩ = some z) (hf : w.frozen? ⟨g, o, none⟩ = false) : (Instr.storeAt 5 (.pointer (some ⟨g, o, none⟩)) (.int .u8 y)).run Tryd.prog w = .ok () (w.setCell ⟨g, o, none⟩ (.int .u8 y)) := by
  go_simp
theorem load_u8 {w : World} {g o : Nat} {y : Int} (hc : w.cell? ⟨g, o, none⟩ = some (.int .u8 y)) : (Instr.loadAt 5 (.pointer (some ⟨g, o, none⟩))).run Tryd.prog w = .ok (.int .u8 y) w := by
  go_simp
theorem DgRow.cell {B : Nat} {w : World} {g N cap : Nat} {ds : List (List UInt8)} (h : DgRow B w (.slice (some ⟨g, 0, none⟩) N cap) ds) (hd : ∀ d ∈ ds, d.length = 32) (k b : Nat) (hk : k < ds.length) (hb : b < 32) : w.cell? ⟨g, k * 32 + b, none⟩ = some (.int .u8 (((ds.getD k []).getD b 0).toNat : Int)) ∧ w.frozen? ⟨g, k * 32 + b, none⟩ = false := by
  rcases h.2 with ⟨e, _⟩ | ⟨g', cap', cur, e, hB, hr, h1, h2, h3, h4⟩
  · simp at e
  simp only [Value.slice.injEq, Option.some.injEq, Addr.mk.injEq, and_true] at e
  obtain ⟨⟨rfl, _⟩, rfl, rfl⟩ := e
  have hdl : (ds.getD k []).length = 32 := hd _ (by rw [List.getD_eq_getElem?_getD, List.getElem?_eq_getElem hk]; exact List.getElem_mem hk)
  refine ⟨?_, frozen_of_row _ _ _ _ _ hr⟩
  rw [cell_of_row w g (k * 32 + b) _ _ _ hr]
  have e1 : (ds.flatMap S.v8l)[k * 32 + b]? = some (.int .u8 (((ds.getD k []).getD b 0).toNat : Int)) := by
    rw [flat_at ds hd k b hk hb]
    generalize ds.getD k [] = d at hdl ⊢
    rw [S.v8l, List.getElem?_map, List.getElem?_eq_getElem (by omega), List.getD_eq_getElem?_getD, List.getElem?_eq_getElem (by omega)]
    rfl
  rw [← h4, List.getElem?_take, if_pos (by omega)] at e1
  simpa using e1
/-- One byte of one digest of a row is stored. -/
theorem DgRow.flip {B : Nat} {w : World} {g N cap : Nat} {ds : List (List UInt8)} (h : DgRow B w (.slice (some ⟨g, 0, none⟩) N cap) ds) (hd : ∀ d ∈ ds, d.length = 32) (k b : Nat) (hk : k < ds.length) (hb : b < 32) (y : UInt8) :
    ∃ w', (Instr.storeAt 5 (.pointer (some ⟨g, k * 32 + b, none⟩)) (.int .u8 (y.toNat : Int))).run Tryd.prog w = .ok () w' ∧ DgRow B w' (.slice (some ⟨g, 0, none⟩) N cap) (ds.set k ((ds.getD k []).set b y)) ∧ Chg (fun j => j = g) w w' := by
  obtain ⟨hc, hf⟩ := DgRow.cell h hd k b hk hb
  refine ⟨_, store_u8 _ hc hf, ?_, (Chg.refl _ w).setCell g _ _ (fun _ => rfl)⟩
  rcases h.2 with ⟨e, _⟩ | ⟨g', cap', cur, e, hB, hr, h1, h2, h3, h4⟩
  · simp at e
  simp only [Value.slice.injEq, Option.some.injEq, Addr.mk.injEq, and_true] at e
  obtain ⟨⟨rfl, _⟩, rfl, rfl⟩ := e
  have hdl : (ds.getD k []).length = 32 := hd _ (by rw [List.getD_eq_getElem?_getD, List.getElem?_eq_getElem hk]; exact List.getElem_mem hk)
  have hall : ∀ d ∈ ds.set k ((ds.getD k []).set b y), d.length = 32 := fun d hd' => by
    rcases List.mem_or_eq_of_mem_set hd' with hd' | rfl
    · exact hd d hd'
    · rw [List.length_set]; exact hdl
  have hr2 := heap_setCell_same w g (k * 32 + b) cur 23 (.int .u8 (y.toNat : Int)) hr
  refine ⟨by rw [flat_len _ hall], Or.inr ⟨g, cap, _, by rw [List.length_set], hB, hr2, by rw [List.length_set]; exact h1, h2, by simpa using h3, ?_⟩⟩
  rw [List.length_set, Array.toList_setIfInBounds, List.take_set, h4]
  exact flat_set ds k b y hd hk hb
end Go.Proofs.YtlbggkmblkhjoaaDoor
namespace Go.Proofs.YtlbggkmblkhjoaaDoor
open Go.RowKit

theorem list_three (n : Nat) (z : Int) (hz : z = 3) (hn : n ≤ 1000) (w : World) :
   Calls Tryd.prog 20 #[.int .i64 (n : Int), .int .u8 z] w fun e w' => ∃ v, e = .returned v ∧ TxRow w.heap.size w' v (S.lst n 3) ∧ Below w.heap.size w w' := by
  rw [hz]
  exact list_any n 3 hn w
theorem dgat_of_set {ds : List (List UInt8)} (hd : ∀ d ∈ ds, d.length = 32) (k b : Nat) (y : UInt8) (hk : k < ds.length) : ∀ d ∈ ds.set k ((ds.getD k []).set b y), d.length = 32 := fun d hd' => by
  rcases List.mem_or_eq_of_mem_set hd' with hd' | rfl
  · exact hd d hd'
  · rw [List.length_set]; exact hd _ (by rw [List.getD_eq_getElem?_getD, List.getElem?_eq_getElem hk]; exact List.getElem_mem hk)
set_option maxHeartbeats 16000000 in
set_option maxRecDepth 10000 in
theorem verifyTurned_walk (a kk : Int) (ix fx : Nat) (at0 bt ct : Int) (w : World) (h1 : -9223372036854775808 ≤ kk) (h2 : kk ≤ 9223372036854775807) (hix : ix < 18446744073709551616) (hfx : fx < 18446744073709551616) (ha1 : -9223372036854775808 ≤ at0) (ha2 : at0 ≤ 9223372036854775807) (hb1 : -9223372036854775808 ≤ bt) (hb2 : bt ≤ 9223372036854775807) (hc1 : -9223372036854775808 ≤ ct) (hc2 : ct ≤ 9223372036854775807) (hK : KAt w) :
   Calls Tryd.prog 5 #[.int .i64 a, .int .i64 kk, .int .u64 (ix : Int), .int .u64 (fx : Int), .int .i64 at0, .int .i64 bt, .int .i64 ct] w fun e w' => e = .returned (.bool true) ∧ Below w.heap.size w w' := by
  have HK := hide hK
  have h0 := hK.pos
  clear hK
  go_enter Tryd.func5, Tryd.ntmps5
  go_wp2_with fail
  refine (within_any kk 60 w h1 h2 (by omega) (by omega)).mono ?_
  rintro e w0 ⟨rfl, rfl⟩
  have hkl := S.within_le kk 60 (by omega)
  obtain ⟨k0, hk0⟩ : ∃ k, k = S.within kk 60 := ⟨_, rfl⟩
  rw [← hk0] at hkl ⊢
  obtain ⟨n, hn⟩ : ∃ n, n = k0 + 1 := ⟨_, rfl⟩
  have q0 : IntKind.i64.wrap ((k0 : Int) + 1) = (n : Int) := by rw [IntKind.wrap_i64]; omega
  have hn61 : n ≤ 61 := by omega
  have hn1 : 1 ≤ n := by omega
  clear hk0 hkl hn
  go_wp2_with fail
  clear q0
  refine (list_three n 3 rfl (by omega) w).mono ?_
  rintro e w1 ⟨vl, rfl, t1, b1⟩
  obtain ⟨L, hL⟩ : ∃ L, L = S.lst n 3 := ⟨_, rfl⟩
  rw [← hL] at t1
  have hN : L.length = n := by rw [hL, S.lst_length]
  have HF := hide (show Fit L by rw [hL]; exact S.lst_fit n 3)
  obtain ⟨lo, lc, rfl⟩ := t1.form
  have V1 := hide t1.bsAt
  rw [hN] at V1 ⊢
  have HN := hide hN
  have B1 := hide b1
  clear t1 b1 hL hN
  go_wp2_with fail
  refine (hasher_any a w1).mono ?_
  rintro e w2 ⟨gh, gT, rfl, hs2, b2⟩
  have H2 := hide hs2
  have V2 := hide (V1.out.below b2 (Nat.le_refl _))
  have B2 := hide (B1.out.trans (b2.mono B1.out.size))
  obtain ⟨i, hi⟩ : ∃ i, i = ix % n := ⟨_, rfl⟩
  obtain ⟨f0, hf0⟩ : ∃ i, i = fx % n := ⟨_, rfl⟩
  obtain ⟨f, hf⟩ : ∃ i, i = f0 + 1 := ⟨_, rfl⟩
  have hin : i < n := by rw [hi]; exact Nat.mod_lt _ (by omega)
  have hfn : f0 < n := by rw [hf0]; exact Nat.mod_lt _ (by omega)
  have qn : IntKind.u64.wrap (n : Int) = (n : Int) := by rw [IntKind.wrap_u64]; omega
  have qi : (ix : Int) % (n : Int) = (i : Int) := by rw [hi]; rfl
  have qf : (fx : Int) % (n : Int) = (f0 : Int) := by rw [hf0]; rfl
  have qz : ((n : Int) == 0) = false := by simp; omega
  have qz2 : ¬ (n : Int) = 0 := by omega
  have qu : IntKind.u64.wrap (i : Int) = (i : Int) := by rw [IntKind.wrap_u64]; omega
  have qv : IntKind.u64.wrap (f0 : Int) = (f0 : Int) := by rw [IntKind.wrap_u64]; omega
  have qw : IntKind.u64.wrap ((f0 : Int) + 1) = (f : Int) := by rw [IntKind.wrap_u64]; omega
  have hf1 : 1 ≤ f ∧ f ≤ n := by omega
  clear hs2 b2 hi hf0 hf V1 B1
  go_wp2_with fail
  rw [qi]
  clear qi qf qz qz2 qu qv qw
  refine (hprove_any gh gT a L _ i w2 (by omega) (by rw [HN.out]; omega) V2.out HF.out H2.out).mono ?_
  rintro e w3 ⟨⟨vp, rfl, p3⟩, b3⟩
  obtain ⟨po, pc, rfl⟩ := p3.form
  have hpl := S.prove_len a L i 6 (by rw [HN.out]; omega)
  have P3 := hide (p3.dgAt (by omega) (S.prove_len32 a L i))
  obtain ⟨ps, hps⟩ : ∃ ps, ps = S.prove a L i := ⟨_, rfl⟩
  obtain ⟨pz, hpz⟩ : ∃ z, z = S.proveNo L i := ⟨_, rfl⟩
  rw [← hps] at P3 hpl
  rw [← hps, ← hpz]
  obtain ⟨pm, hpm⟩ : ∃ pm, pm = ps.length := ⟨_, rfl⟩
  rw [← hpm] at P3 hpl ⊢
  have PM := hide hpm
  have V3 := hide (V2.out.below b3 (Nat.le_refl _))
  have H3 := hide (H2.out.below b3 (Nat.le_refl _))
  have B3 := hide (B2.out.trans (b3.mono B2.out.size))
  clear p3 b3 hps hpz hpm V2 H2 B2
  go_wp2_with fail
  refine (hcompare_any gh gT a L _ f w3 (by omega) (by rw [HN.out]; omega) V3.out HF.out H3.out).mono ?_
  rintro e w4 ⟨⟨vq, rfl, q4⟩, b4⟩
  obtain ⟨qo, qc, rfl⟩ := q4.form
  have hql := S.comp_len a L f 6 (by rw [HN.out]; omega)
  have Q4 := hide (q4.dgAt (by omega) (S.comp_len32 a L f))
  obtain ⟨qs, hqs⟩ : ∃ ps, ps = S.comp_ a L f := ⟨_, rfl⟩
  obtain ⟨qz, hqz⟩ : ∃ z, z = S.compNo L f := ⟨_, rfl⟩
  rw [← hqs] at Q4 hql
  rw [← hqs, ← hqz]
  obtain ⟨qm, hqm⟩ : ∃ pm, pm = qs.length := ⟨_, rfl⟩
  rw [← hqm] at Q4 hql ⊢
  have QM := hide hqm
  have P4 := hide (P3.out.below b4)
  have V4 := hide (V3.out.below b4 (Nat.le_refl _))
  have H4 := hide (H3.out.below b4 (Nat.le_refl _))
  have B4 := hide (B3.out.trans (b4.mono B3.out.size))
  clear q4 b4 hqs hqz hqm V3 H3 B3 P3
  obtain ⟨bl, offl, cl, e9, e9', e9b, hcl⟩ := V4.out.src (by rw [HN.out]; omega)
  simp only [Value.slice.injEq] at e9
  obtain ⟨rfl, e9n, rfl⟩ := e9
  obtain ⟨x, hx9, hxs⟩ := hcl i (by rw [HN.out]; exact hin)
  obtain ⟨lxo, lxl, lxc, rfl, hxl9, hxm9⟩ := hxs.form
  have CX := hide hx9
  have XS := hide hxs
  have HBLT := hide e9b
  have HFX := hide (HF.out.at i (by rw [HN.out]; exact hin))
  clear e9n e9' e9b hcl hx9 hxs hxl9 hxm9
  go_wp2_with fail
  refine (hroot_any gh gT a n L _ w4 HN.out (by omega) V4.out HF.out H4.out).mono ?_
  rintro e w5 ⟨rfl, b5⟩
  obtain ⟨D1, hD1⟩ : ∃ D, D = S.root a L := ⟨_, rfl⟩
  have LD1 := hide (show D1.length = 32 by rw [hD1, S.root_length])
  rw [← hD1]
  obtain ⟨AL, Y1, hal, hst, ry, by1, sy⟩ := lay_dig w5 D1 LD1.out
  obtain ⟨g21, hg21⟩ : ∃ g, g = w5.heap.size := ⟨_, rfl⟩
  rw [← hg21] at hal hst ry
  have b4Y : Below w4.heap.size w4 Y1 := b5.trans (by1.mono b5.size)
  have BY1 := hide b4Y
  have RY1 := hide ry
  have G21 := hide (show w4.heap.size ≤ g21 by rw [hg21]; exact b5.size)
  have hlc : n ≤ lc := by obtain ⟨ao', cap', e, hcp, _⟩ := V4.out; simp only [Value.slice.injEq] at e; have := HN.out; omega
  have q1 : (0 : Int) ≤ (f : Int) := by omega
  have q2 : (f : Int) ≤ (lc : Int) := by omega
  have VT := hide ((V4.out.below b4Y (Nat.le_refl _)).take f (by rw [HN.out]; omega))
  clear hD1 b5 by1 sy hg21 ry b4Y hlc
  go_wp2_with (first | (with_reducible refine at_op { dst := some 21, op := Op.alloc 23, type := 0, pos := "law.go:71", after := #[], guard := none } ?_; refine wpList_alloc_known rfl 23 rfl (.pointer (some ⟨g21, 0, none⟩)) AL hal ?_) | (with_reducible refine at_op { dst := none, op := Op.store 23 (Operand.tmp 21) (Operand.tmp 59), type := 0, pos := "law.go:71", after := #[{ on := 3, ground := Ground.data }, { on := 2, ground := Ground.data }, { on := 2, ground := Ground.chain }, { on := 0, ground := Ground.phase }, { on := 1, ground := Ground.phase }, { on := 2, ground := Ground.phase }, { on := 3, ground := Ground.phase }], guard := none } ?_; refine wpList_store_as rfl 23 (.tmp 21) (.tmp 59) rfl (.pointer (some ⟨g21, 0, none⟩)) (.agg (S.v8 D1)) rfl rfl Y1 hst ?_))
  clear hal hst
  refine (hroot_any gh gT a f (L.take f) _ Y1 (by rw [List.length_take, HN.out]; omega) (by omega) VT.out (HF.out.take f) (H4.out.below BY1.out (Nat.le_refl _))).mono ?_
  rintro e w6 ⟨rfl, b6⟩
  obtain ⟨D2, hD2⟩ : ∃ D, D = S.root a (L.take f) := ⟨_, rfl⟩
  have LD2 := hide (show D2.length = 32 by rw [hD2, S.root_length])
  rw [← hD2]
  obtain ⟨AL, Y2, hal, hst, ry, by1, sy⟩ := lay_dig w6 D2 LD2.out
  obtain ⟨g22, hg22⟩ : ∃ g, g = w6.heap.size := ⟨_, rfl⟩
  rw [← hg22] at hal hst ry
  have bY2 : Below Y1.heap.size Y1 Y2 := b6.trans (by1.mono b6.size)
  have hbs := bs46two Y2 po qo pm pc qm qc
  obtain ⟨Y3, hY3⟩ : ∃ Y, Y = Y2.alloc (.cells #[.slice po pm pc, .slice qo qm qc] 32) := ⟨_, rfl⟩
  obtain ⟨gl, hgl⟩ : ∃ g, g = Y2.heap.size := ⟨_, rfl⟩
  have b23 : Below Y2.heap.size Y2 Y3 := by rw [hY3]; exact (Below.refl _ _).alloc (Nat.le_refl _) _
  have rl : Y3.heap[gl]? = some (.cells #[.slice po pm pc, .slice qo qm qc] 32 (0, 0)) := by rw [hY3, hgl]; exact heap_alloc_new _ _
  rw [← hY3, ← hgl] at hbs
  have bY3 : Below Y1.heap.size Y1 Y3 := bY2.trans (b23.mono bY2.size)
  have R1 : Hid (Y3.heap[g21]? = some (.cells (S.v8 D1) 23 (0, 0))) := (bY3.block _ (block_lt_of_row RY1.out)).trans RY1.out
  have R2 : Hid (Y3.heap[g22]? = some (.cells (S.v8 D2) 23 (0, 0))) := (b23.block _ (block_lt_of_row ry)).trans ry
  have R3 := hide rl
  have BY3 := hide (BY1.out.trans (bY3.mono BY1.out.size))
  have NE := hide (show g22 ≠ g21 ∧ gl ≠ g21 by have := block_lt_of_row RY1.out; have := b6.size; have := bY2.size; omega)
  have HQ := hide hf1
  clear hD2 b6 by1 sy hg22 ry bY2 hY3 hgl b23 rl bY3 RY1 BY1 VT hf1
  go_wp2_with (first | (with_reducible refine at_op { dst := some 22, op := Op.alloc 23, type := 0, pos := "law.go:72", after := #[], guard := none } ?_; refine wpList_alloc_known rfl 23 rfl (.pointer (some ⟨g22, 0, none⟩)) AL hal ?_) | (with_reducible refine at_op { dst := none, op := Op.store 23 (Operand.tmp 22) (Operand.tmp 64), type := 0, pos := "law.go:72", after := #[{ on := 5, ground := Ground.data }, { on := 4, ground := Ground.data }, { on := 4, ground := Ground.chain }, { on := 0, ground := Ground.phase }, { on := 1, ground := Ground.phase }, { on := 2, ground := Ground.phase }, { on := 3, ground := Ground.phase }, { on := 4, ground := Ground.phase }, { on := 5, ground := Ground.phase }], guard := none } ?_; refine wpList_store_as rfl 23 (.tmp 22) (.tmp 64) rfl (.pointer (some ⟨g22, 0, none⟩)) (.agg (S.v8 D2)) rfl rfl Y2 hst ?_) | (with_reducible refine at_op { dst := some 67, op := Op.buildSlice 46 2 #[(0, Operand.tmp 65), (1, Operand.tmp 66)], type := 46, pos := "law.go:73", after := #[{ on := 0, ground := Ground.data }, { on := 1, ground := Ground.data }], guard := none } ?_; refine wpList_buildSlice_as rfl 46 2 [(0, .tmp 65), (1, .tmp 66)] rfl [(0, .slice po pm pc), (1, .slice qo qm qc)] rfl _ _ hbs ?_))
  clear hal hst hbs q1 q2
  go_loopg [69] 2 (fun gk s69 wr => ∃ k : Nat, k + gk = 2 ∧ s69 = .int .i64 (k : Int) ∧ ∃ rt : List UInt8, Hid (rt.length = 32) ∧ Hid (wr.heap[g21]? = some (.cells (S.v8 rt) 23 (0, 0))) ∧ Hid (wr.heap[g22]? = some (.cells (S.v8 D2) 23 (0, 0))) ∧ Hid (wr.heap[gl]? = some (.cells #[.slice po pm pc, .slice qo qm qc] 32 (0, 0))) ∧ Hid (Below w4.heap.size w4 wr))
  case atStart => exact ⟨0, by omega, rfl, D1, LD1, R1, R2, R3, BY3⟩
  case round =>
    obtain ⟨k, hk, rfl, rt, LRT, RR1, RR2, RR3, BR⟩ := hrel
    rename World => W0
    clear R1 R2 R3 BY3
    have BW := hide (B4.out.trans (BR.out.mono B4.out.size))
    cases gk with
    | zero =>
      have qk : ¬ (k : Int) < 2 := by omega
      clear hk
      go_wp2_with fail
      refine (known9_any W0 (HK.out.below BW.out h0)).mono ?_
      rintro e wk ⟨rfl, bk⟩
      have BK := hide (BW.out.trans (bk.mono BW.out.size))
      clear bk
      go_wp2_with fail
      go_ret
      exact ⟨rfl, BK.out⟩
    | succ gO =>
      have qk : (k : Int) < 2 := by omega
      have qk0 : (0 : Int) ≤ (k : Int) := by omega
      have qk1 : IntKind.i64.wrap ((k : Int) + 1) = (k : Int) + 1 := by rw [IntKind.wrap_i64]; omega
      obtain ⟨xo, xn, xc, xs, c1, hxd, hxn, hxl⟩ : ∃ (xo : Option Addr) (xn xc : Nat) (xs : List (List UInt8)), W0.cell? ⟨gl, k, none⟩ = some (.slice xo xn xc) ∧ DgAt w4 (.slice xo xn xc) xs ∧ xn = xs.length ∧ xs.length ≤ 900 := by
        have : k = 0 ∨ k = 1 := by omega
        rcases this with rfl | rfl
        · exact ⟨po, pm, pc, ps, (cells2 RR3.out).1, P4.out, PM.out, by rw [← PM.out]; omega⟩
        · exact ⟨qo, qm, qc, qs, (cells2 RR3.out).2, Q4.out, QM.out, by rw [← QM.out]; omega⟩
      obtain ⟨X0, hX0⟩ : ∃ W, W = W0.alloc (.cells #[] 23) := ⟨_, rfl⟩
      have bX : Below W0.heap.size W0 X0 := by rw [hX0]; exact (Below.refl _ _).alloc (Nat.le_refl _) _
      have rX : X0.heap[W0.heap.size]? = some (.cells #[] 23 (0, 0)) := by rw [hX0]; exact heap_alloc_new _ _
      have KC := hide (run_copied_digs 32 rX ((hxd.below BR.out).below bX) (by omega))
      have H32 := hide (show ∀ d ∈ xs, d.length = 32 by obtain ⟨_, _, _, _, h, _⟩ := hxd; exact h)
      have XL := hide hxl
      rw [hX0] at KC
      have BX := hide bX
      have HX0 := hide hX0
      have HKK := hide hk
      clear hX0 bX rX hk hxd hxn hxl
      go_wp2_with (at_builtin; (refine wpList_append_known rfl (.tmp 74) (.tmp 75) 32 32 rfl _ _ rfl rfl KC.out ?_; rintro v8 w8 ⟨hr8, ⟨g8, c8, rfl⟩, hb8⟩; have R8 := hide hr8; have HB8 := hide hb8; clear hr8 hb8 c1))
      have b08 : Below W0.heap.size W0 w8 := BX.out.trans (by rw [HX0.out]; exact HB8.out)
      obtain ⟨xn', hxn'⟩ : ∃ m, m = xs.length := ⟨_, rfl⟩
      rw [← hxn'] at R8 ⊢
      have XN := hide hxn'
      have E1 : Hid (w8.heap[g21]? = some (.cells (S.v8 rt) 23 (0, 0))) := (b08.block _ (block_lt_of_row RR1.out)).trans RR1.out
      have E2 : Hid (w8.heap[g22]? = some (.cells (S.v8 D2) 23 (0, 0))) := (b08.block _ (block_lt_of_row RR2.out)).trans RR2.out
      have E3 : Hid (w8.heap[gl]? = some (.cells #[.slice po pm pc, .slice qo qm qc] 32 (0, 0))) := (b08.block _ (block_lt_of_row RR3.out)).trans RR3.out
      have E4 := hide (BR.out.trans (b08.mono BR.out.size))
      have G8 := hide (show W0.heap.size ≤ g8 from (DgRow.blk R8.out (k := g8) rfl).1)
      have GR := hide (show g21 < W0.heap.size ∧ g22 < W0.heap.size ∧ gl < W0.heap.size ∧ w4.heap.size ≤ W0.heap.size from ⟨block_lt_of_row RR1.out, block_lt_of_row RR2.out, block_lt_of_row RR3.out, BR.out.size⟩)
      have B08 := hide b08
      clear KC HX0 BX HB8 b08 hxn' RR1 RR2 RR3
      refine (within_any ct 4 w8 hc1 hc2 (by omega) (by omega)).mono ?_
      rintro e w8' ⟨rfl, rfl⟩
      have hcl := S.within_le ct 4 (by omega)
      obtain ⟨cc, hcc⟩ : ∃ k, k = S.within ct 4 := ⟨_, rfl⟩
      rw [← hcc] at hcl ⊢
      clear hcc
      go_upto_block 2 with fail
      go_cut [25, 26] from 79 to 122 (fun s25 s26 wc => ∃ (so : Option Addr) (sn sc : Nat) (ds : List (List UInt8)) (rt' : List UInt8), s25 = .slice so sn sc ∧ Hid (DgAt wc (.slice so sn sc) ds ∧ sn ≤ sc ∧ ds.length ≤ 1000) ∧ Hid (rt'.length = 32) ∧ Hid (wc.heap[g21]? = some (.cells (S.v8 rt') 23 (0, 0))) ∧ Hid (wc.heap[g22]? = some (.cells (S.v8 D2) 23 (0, 0))) ∧ Hid (wc.heap[gl]? = some (.cells #[.slice po pm pc, .slice qo qm qc] 32 (0, 0))) ∧ Hid (Below w4.heap.size w4 wc))
      case first =>
        have hcv : cc = 0 ∨ cc = 1 ∨ cc = 2 ∨ cc = 3 ∨ cc = 4 := by omega
        clear hcl
        have PLAIN := hide (show DgAt w8 (.slice (some ⟨g8, 0, none⟩) xn' c8) xs ∧ xn' ≤ c8 ∧ xs.length ≤ 1000 from ⟨R8.out.dgAt (by have := XL.out; omega) H32.out, R8.out.cap _ _ _ rfl, by have := XL.out; omega⟩)
        rcases hcv with rfl | rfl | rfl | rfl | rfl
        · by_cases hx0 : xn' = 0
          · have qx : ¬ (xn' : Int) > 0 := by omega
            have qx' : ¬ (0 : Int) < (xn' : Int) := by omega
            clear hx0
            go_wp2_with fail
            go_meet
            exact ⟨_, _, _, xs, rt, rfl, PLAIN, LRT, E1, E2, E3, E4⟩
          · have qx : (xn' : Int) > 0 := by omega
            have qx' : (0 : Int) < (xn' : Int) := by omega
            have qm : IntKind.i64.wrap ((xn' : Int) - 1) = (xn' : Int) - 1 := by rw [IntKind.wrap_i64]; have := XL.out; have := XN.out; omega
            go_wp2_with fail
            refine (within_any at0 ((xn' : Int) - 1) w8 ha1 ha2 (by omega) (by have := XL.out; have := XN.out; omega)).mono ?_
            rintro e w8' ⟨rfl, rfl⟩
            have hjl := S.within_le at0 ((xn' : Int) - 1) (by omega)
            obtain ⟨j, hj⟩ : ∃ k, k = S.within at0 ((xn' : Int) - 1) := ⟨_, rfl⟩
            rw [← hj] at hjl ⊢
            have qj : (j : Int) < (xn' : Int) := by omega
            have qj0 : (0 : Int) ≤ (j : Int) := by omega
            have HJ := hide (show j < xs.length by rw [← XN.out]; omega)
            clear hj hjl qm
            obtain ⟨bb, hbb⟩ : ∃ k, k = S.within bt 31 := ⟨_, rfl⟩
            have hbl := S.within_le bt 31 (by omega)
            rw [← hbb] at hbl
            have HBB := hide hbb
            have qb0 : (0 : Int) ≤ (bb : Int) := by omega
            have qb1 : (bb : Int) < 32 := by omega
            have HB3 := hide (show bb < 32 by omega)
            obtain ⟨y0, hy0⟩ : ∃ y, y = (xs.getD j []).getD bb 0 := ⟨_, rfl⟩
            have HY := hide hy0
            have hx1 : bits .xor .u8 (y0.toNat : Int) 1 = ((y0 ^^^ 1).toNat : Int) := u8_xor_cast y0 1
            clear hbb hbl hy0
            go_upto_region 18 with fail
            refine wp_region_noPanic ?_
            refine wp_region_held_drew (S := (fun W => Chg (fun k => k = g8) w8 W)) follows ((Chg.refl _ _).drew) (fun hHeld => ?_)
            clear hHeld
            have hHeld : Chg (fun k => k = g8) w8 w8.drew := (Chg.refl _ _).drew
            have CZ0 := hide hHeld
            have R8' : Hid (DgRow W0.heap.size w8.drew (.slice (some ⟨g8, 0, none⟩) xn' c8) xs) := (R8.out.below ((Below.refl _ _).drew))
            generalize w8.drew = Z0 at CZ0 hHeld R8' ⊢
            refine wpAnyH_take (i := 0) (oi := { dst := some 89, op := Op.move (Operand.tmp 25), type := 32, pos := "law.go:79", after := #[], guard := none }) (v := ?_) rfl (by kernel_rfl) (by kernel_rfl) (by kernel_rfl) (fun _ _ _ h => h) (Or.inl ⟨by rfl, ?_⟩) (by assumption) ?_
            rotate_left
            · intro w hSw
              clear hSw
              go_simp
              all_goals with_reducible rfl
            simp only [Act.put, List.setIfInBounds_toArray, List.set_cons_zero, List.set_cons_succ]
            refine wpAnyH_take (i := 1) (oi := { dst := some 90, op := Op.move (Operand.tmp 26), type := 3, pos := "law.go:79", after := #[], guard := none }) (v := ?_) rfl (by kernel_rfl) (by kernel_rfl) (by kernel_rfl) (fun _ _ _ h => h) (Or.inl ⟨by rfl, ?_⟩) (by assumption) ?_
            rotate_left
            · intro w hSw
              clear hSw
              go_simp
              all_goals with_reducible rfl
            simp only [Act.put, List.setIfInBounds_toArray, List.set_cons_zero, List.set_cons_succ]
            refine wpAnyH_take (i := 2) (oi := { dst := some 91, op := Op.move (Operand.tmp 5), type := 3, pos := "law.go:79", after := #[], guard := none }) (v := ?_) rfl (by kernel_rfl) (by kernel_rfl) (by kernel_rfl) (fun _ _ _ h => h) (Or.inl ⟨by rfl, ?_⟩) (by assumption) ?_
            rotate_left
            · intro w hSw
              clear hSw
              go_simp
              all_goals with_reducible rfl
            simp only [Act.put, List.setIfInBounds_toArray, List.set_cons_zero, List.set_cons_succ]
            refine wpAnyH_take (i := 4) (oi := { dst := some 93, op := Op.indexAddr 32 (Operand.tmp 89) (Operand.tmp 90), type := 0, pos := "law.go:79", after := #[{ on := 0, ground := Ground.data }, { on := 1, ground := Ground.data }], guard := none }) (v := ?_) rfl (by kernel_rfl) (by kernel_rfl) (by kernel_rfl) (fun _ _ _ h => h) (Or.inl ⟨by rfl, ?_⟩) (by assumption) ?_
            rotate_left
            · intro w hSw
              clear hSw
              go_simp
              all_goals with_reducible rfl
            simp only [Act.put, List.setIfInBounds_toArray, List.set_cons_zero, List.set_cons_succ]
            refine wpAnyH_take (i := 8) (oi := { dst := some 97, op := Op.indexAddr 32 (Operand.tmp 89) (Operand.tmp 90), type := 0, pos := "law.go:79", after := #[{ on := 0, ground := Ground.data }, { on := 1, ground := Ground.data }], guard := none }) (v := ?_) rfl (by kernel_rfl) (by kernel_rfl) (by kernel_rfl) (fun _ _ _ h => h) (Or.inl ⟨by rfl, ?_⟩) (by assumption) ?_
            rotate_left
            · intro w hSw
              clear hSw
              go_simp
              all_goals with_reducible rfl
            simp only [Act.put, List.setIfInBounds_toArray, List.set_cons_zero, List.set_cons_succ]
            refine wpAnyH_ready (rs := [3]) (by kernel_rfl) (by simp) ?_
            refine AllReadyH.cons (o := { dst := some 92, op := Op.call { callee := Callee.value (Operand.func 19), args := #[Operand.tmp 91, Operand.const (Value.int IntKind.i64 0), Operand.const (Value.int IntKind.i64 31)], argTypes := #[3, 3, 3] }, type := 3, pos := "law.go:79", after := #[{ on := 2, ground := Ground.data }], guard := none }) rfl (fun K hK => ?_) AllReadyH.nil
            go_simp
            refine (within_any bt 31 Z0 hb1 hb2 (by omega) (by omega)).mono ?_
            rintro e Zx ⟨rfl, rfl⟩
            rw [← HBB.out]
            clear hHeld
            refine hK.out _ _ CZ0.out (fun hHeld => ?_)
            clear hK K
            try simp only [Act.put, List.setIfInBounds_toArray, List.set_cons_zero, List.set_cons_succ]
            refine wpAnyH_take (i := 5) (oi := { dst := some 94, op := Op.indexAddr 23 (Operand.tmp 93) (Operand.tmp 92), type := 0, pos := "law.go:79", after := #[{ on := 4, ground := Ground.data }, { on := 3, ground := Ground.data }], guard := none }) (v := ?_) rfl (by kernel_rfl) (by kernel_rfl) (by kernel_rfl) (fun _ _ _ h => h) (Or.inl ⟨by rfl, ?_⟩) (by assumption) ?_
            rotate_left
            · intro w hSw
              clear hSw
              go_simp
              all_goals with_reducible rfl
            simp only [Act.put, List.setIfInBounds_toArray, List.set_cons_zero, List.set_cons_succ]
            refine wpAnyH_ready (rs := [6]) (by kernel_rfl) (by simp) ?_
            refine step_load (o := { dst := some 95, op := Op.load 5 (Operand.tmp 94), type := 5, pos := "law.go:79", after := #[{ on := 5, ground := Ground.data }], guard := none }) rfl rfl 5 (.tmp 94) rfl (.int .u8 (y0.toNat : Int)) (load_u8 (by rw [HY.out]; exact (DgRow.cell R8'.out H32.out j bb HJ.out HB3.out).1)) AllReadyH.nil ⟨CZ0.out, fun hHeld => ?_⟩
            simp only [Act.put, List.setIfInBounds_toArray, List.set_cons_zero, List.set_cons_succ]
            refine wpAnyH_take (i := 7) (oi := { dst := some 96, op := Op.binOp BinOp.xor 5 (Operand.tmp 95) (Operand.const (Value.int IntKind.u8 1)) 5, type := 5, pos := "law.go:79", after := #[{ on := 6, ground := Ground.data }], guard := none }) (v := ?_) rfl (by kernel_rfl) (by kernel_rfl) (by kernel_rfl) (fun _ _ _ h => h) (Or.inl ⟨by rfl, ?_⟩) (by assumption) ?_
            rotate_left
            · intro w hSw
              clear hSw
              go_simp
              all_goals with_reducible rfl
            simp only [Act.put, List.setIfInBounds_toArray, List.set_cons_zero, List.set_cons_succ]
            refine wpAnyH_take (i := 9) (oi := { dst := some 98, op := Op.indexAddr 23 (Operand.tmp 97) (Operand.tmp 92), type := 0, pos := "law.go:79", after := #[{ on := 8, ground := Ground.data }, { on := 3, ground := Ground.data }, { on := 0, ground := Ground.phase }, { on := 1, ground := Ground.phase }, { on := 2, ground := Ground.phase }, { on := 3, ground := Ground.phase }, { on := 4, ground := Ground.phase }, { on := 5, ground := Ground.phase }, { on := 6, ground := Ground.phase }, { on := 7, ground := Ground.phase }], guard := none }) (v := ?_) rfl (by kernel_rfl) (by kernel_rfl) (by kernel_rfl) (fun _ _ _ h => h) (Or.inl ⟨by rfl, ?_⟩) (by assumption) ?_
            rotate_left
            · intro w hSw
              clear hSw
              go_simp
              all_goals with_reducible rfl
            simp only [Act.put, List.setIfInBounds_toArray, List.set_cons_zero, List.set_cons_succ]
            refine wpAnyH_ready (rs := [10]) (by kernel_rfl) (by simp) ?_
            obtain ⟨Z1, hst, r6, C6⟩ := DgRow.flip R8'.out H32.out j bb HJ.out HB3.out (y0 ^^^ 1)
            refine step_store_as (o := { dst := none, op := Op.store 5 (Operand.tmp 98) (Operand.tmp 96), type := 0, pos := "law.go:79", after := #[{ on := 9, ground := Ground.data }, { on := 7, ground := Ground.data }, { on := 3, ground := Ground.chain }, { on := 0, ground := Ground.phase }, { on := 1, ground := Ground.phase }, { on := 2, ground := Ground.phase }, { on := 3, ground := Ground.phase }, { on := 4, ground := Ground.phase }, { on := 5, ground := Ground.phase }, { on := 6, ground := Ground.phase }, { on := 7, ground := Ground.phase }], guard := none }) rfl rfl 5 (.tmp 98) (.tmp 96) rfl _ _ rfl rfl Z1 hst AllReadyH.nil ⟨CZ0.out.trans C6 (fun k hk e => e), fun hHeld => ?_⟩
            have CZ1 : Hid (Chg (fun k => k = g8) w8 Z1) := CZ0.out.trans C6 (fun k hk e => e)
            have R9 := hide r6
            clear hst r6 C6 CZ0
            simp only [Act.put]
            refine wpAnyH_done (by kernel_rfl) ?_ _
            refine NoPanic.normal ?_
            clear hHeld
            go_wp2_with fail
            go_meet
            have g1 := GR.out
            have g2 := G8.out
            exact ⟨_, _, _, _, rt, rfl, hide ⟨R9.out.dgAt (by rw [List.length_set]; have := XL.out; omega) (dgat_of_set H32.out j bb (y0 ^^^ 1) HJ.out), R9.out.cap _ _ _ rfl, by rw [List.length_set]; have := XL.out; omega⟩, LRT, hide (CZ1.out.row E1.out (by omega)), hide (CZ1.out.row E2.out (by omega)), hide (CZ1.out.row E3.out (by omega)), hide (E4.out.trans (CZ1.out.below _ E4.out.size (fun k hk e => by omega)))⟩
        · have b0x : Below w8.heap.size w8 (w8.alloc (.cells (S.v8 rt) 23)) := (Below.refl _ _).alloc (Nat.le_refl _) _
          have KA := hide (run_append_dig (w8.alloc (.cells (S.v8 rt) 23)) W0.heap.size w8.heap.size (.slice (some ⟨g8, 0, none⟩) xn' c8) xs rt 32 (R8.out.below b0x) LRT.out (heap_alloc_new _ _) (by have := XL.out; omega) (Nat.le_trans B08.out.size b0x.size))
          have hbs := bs24one w8 rt LRT.out
          have B0X := hide b0x
          clear b0x
          go_wp2_with (first | (with_reducible refine at_op { dst := some 102, op := Op.load 23 (Operand.tmp 21), type := 23, pos := "law.go:82", after := #[], guard := none } ?_; refine load_dig_when rfl (.tmp 21) rfl g21 rfl rt E1.out LRT.out ?_) | (with_reducible refine at_op { dst := some 103, op := Op.buildSlice 32 1 #[(0, Operand.tmp 102)], type := 32, pos := "law.go:82", after := #[{ on := 1, ground := Ground.data }], guard := none } ?_; refine wpList_buildSlice_as rfl 32 1 [(0, .tmp 102)] rfl [(0, .agg (S.v8 rt))] rfl _ _ hbs ?_) | (at_builtin; (refine wpList_append_known rfl (.tmp 101) (.tmp 103) 32 32 rfl _ _ rfl rfl KA.out ?_; rintro v9 w9 ⟨hr9, hb9⟩; obtain ⟨o9, c9, rfl⟩ := hr9.form; obtain ⟨q9, hq9⟩ : ∃ q, q = (xs ++ [rt]).length := ⟨_, rfl⟩; rw [← hq9] at hr9 ⊢; have R9 := hide hr9; have HB9 := hide hb9; clear hr9 hb9 hq9)))
          go_meet
          have b89 : Below W0.heap.size w8 w9 := (B0X.out.mono B08.out.size).trans HB9.out
          have g1 := GR.out
          exact ⟨_, _, _, xs ++ [rt], rt, rfl, hide ⟨R9.out.dgAt (by rw [List.length_append]; have := XL.out; simp; omega) (fun d hd => by
            rw [List.mem_append, List.mem_singleton] at hd
            rcases hd with hd | rfl
            · exact H32.out d hd
            · exact LRT.out), R9.out.cap _ _ _ rfl, by rw [List.length_append]; have := XL.out; simp; omega⟩, LRT, hide ((b89.block _ g1.1).trans E1.out), hide ((b89.block _ g1.2.1).trans E2.out), hide ((b89.block _ g1.2.2.1).trans E3.out), hide (E4.out.trans (b89.mono g1.2.2.2))⟩
        · by_cases hx0 : xn' = 0
          · have qx : ¬ (xn' : Int) > 0 := by omega
            have qx' : ¬ (0 : Int) < (xn' : Int) := by omega
            clear hx0
            go_wp2_with fail
            go_meet
            exact ⟨_, _, _, xs, rt, rfl, PLAIN, LRT, E1, E2, E3, E4⟩
          · have qx : (xn' : Int) > 0 := by omega
            have qx' : (0 : Int) < (xn' : Int) := by omega
            obtain ⟨x1, hx1⟩ : ∃ x, x + 1 = xn' := ⟨xn' - 1, by omega⟩
            have qm : IntKind.i64.wrap ((xn' : Int) - 1) = (x1 : Int) := by rw [IntKind.wrap_i64]; have := XL.out; have := XN.out; omega
            have qa : (0 : Int) ≤ (x1 : Int) := by omega
            have qb : (x1 : Int) ≤ (c8 : Int) := by have := PLAIN.out.2.1; omega
            have CUTP := hide (show DgAt w8 (.slice (some ⟨g8, 0, none⟩) x1 c8) (xs.take x1) ∧ x1 ≤ c8 ∧ (xs.take x1).length ≤ 1000 from ⟨PLAIN.out.1.take x1 (by omega), by have := PLAIN.out.2.1; omega, by rw [List.length_take]; have := XL.out; omega⟩)
            clear hx0 hx1
            go_wp2_with fail
            go_meet
            exact ⟨_, _, _, xs.take x1, rt, rfl, CUTP, LRT, E1, E2, E3, E4⟩
        · go_wp2_with fail
          refine (within_any bt 31 w8 hb1 hb2 (by omega) (by omega)).mono ?_
          rintro e w8' ⟨rfl, rfl⟩
          have hbl := S.within_le bt 31 (by omega)
          obtain ⟨bb, hbb⟩ : ∃ k, k = S.within bt 31 := ⟨_, rfl⟩
          rw [← hbb] at hbl ⊢
          have qb0 : (0 : Int) ≤ (bb : Int) := by omega
          have qb1 : (bb : Int) < 32 := by omega
          obtain ⟨y0, hy0⟩ : ∃ y, y = rt.getD bb 0 := ⟨_, rfl⟩
          have c1 : w8.cell? ⟨g21, bb, none⟩ = some (.int .u8 (y0.toNat : Int)) := by rw [hy0]; exact v8_cell E1.out bb (by rw [LRT.out]; omega)
          have cf : w8.frozen? ⟨g21, bb, none⟩ = false := frozen_of_row _ _ bb _ _ E1.out
          have hx4 : bits .xor .u8 (y0.toNat : Int) 4 = ((y0 ^^^ 4).toNat : Int) := u8_xor_cast y0 4
          obtain ⟨y1, hy1⟩ : ∃ y, y = y0 ^^^ 4 := ⟨_, rfl⟩
          rw [← hy1] at hx4
          obtain ⟨W9, hW9⟩ : ∃ W, W = w8.setCell ⟨g21, bb, none⟩ (.int .u8 (y1.toNat : Int)) := ⟨_, rfl⟩
          have hch : Chg (fun k => k = g21) w8 W9 := by rw [hW9]; exact (Chg.refl _ w8).setCell g21 _ _ (fun _ => rfl)
          have F1 : Hid (W9.heap[g21]? = some (.cells (S.v8 (rt.set bb y1)) 23 (0, 0))) := by rw [hW9]; exact v8_set E1.out bb y1
          have F2 : Hid (W9.heap[g22]? = some (.cells (S.v8 D2) 23 (0, 0))) := hch.row E2.out NE.out.1
          have F3 : Hid (W9.heap[gl]? = some (.cells #[.slice po pm pc, .slice qo qm qc] 32 (0, 0))) := hch.row E3.out NE.out.2
          have F4 := hide (E4.out.trans (hch.below _ E4.out.size (fun k hk e => by have := G21.out; omega)))
          have FP := hide (show DgAt W9 (.slice (some ⟨g8, 0, none⟩) xn' c8) xs ∧ xn' ≤ c8 ∧ xs.length ≤ 1000 from ⟨(R8.out.chg hch (fun k hk e => by simp only [Value.ownBlock, Option.some.injEq] at hk; have := GR.out.1; have := G8.out; omega)).dgAt (by have := XL.out; omega) H32.out, PLAIN.out.2⟩)
          have FL := hide (show (rt.set bb y1).length = 32 by rw [List.length_set]; exact LRT.out)
          have HW9 := hide hW9
          clear hbb hbl hy0 hy1 hW9 hch
          go_wp2_with fail
          rw [← HW9.out]
          go_meet
          exact ⟨_, _, _, xs, rt.set bb y1, rfl, FP, FL, F1, F2, F3, F4⟩
        · go_wp2_with fail
          go_meet
          exact ⟨_, _, _, xs, rt, rfl, PLAIN, LRT, E1, E2, E3, E4⟩
      case rest =>
      obtain ⟨so, sn, sc, ds, rt', rfl, DS, LRT', C1, C2, C3, C4⟩ := hcut
      clear E1 E2 E3 E4 R8 LRT
      have BC := hide (B4.out.trans (C4.out.mono B4.out.size))
      have HC := hide (H4.out.below C4.out (Nat.le_refl _))
      have XC := hide (XS.out.below C4.out (Nat.le_refl _))
      have cX : Hid (wc.cell? ⟨bl, offl + i, none⟩ = some (.slice lxo lxl lxc)) := (C4.out.cell (p := ⟨bl, offl + i, none⟩) HBLT.out).trans CX.out
      have HBC := hide (Nat.lt_of_lt_of_le HBLT.out C4.out.size)
      have hsr := size_dig rt' LRT'.out
      have hso := size_dig D2 LD2.out
      obtain ⟨Q1, hQ1⟩ : ∃ R, R = S.vLeaf a (L.getD i []) i n ds rt' := ⟨_, rfl⟩
      obtain ⟨Q2, hQ2⟩ : ∃ R, R = S.vPre a f n D2 rt' ds := ⟨_, rfl⟩
      have HQ1 := hide hQ1
      have HQ2 := hide hQ2
      have hi0 : (0 : Int) ≤ (i : Int) := by omega
      have hi1 : (i : Int) < (n : Int) := by omega
      have HCS := hide (show ∀ ao n c, Value.slice so sn sc = .slice ao n c → n ≤ c from fun ao n c e => by simp only [Value.slice.injEq] at e; have := DS.out.2.1; omega)
      have hkv : k = 0 ∨ k = 1 := by have := HKK.out; omega
      clear hQ1 hQ2 qk qk0
      rcases hkv with rfl | rfl
      · go_upto_region 26 with fail
        refine wp_region_noPanic ?_
        refine wp_region_held_drew (S := (fun W => Chg (fun _ => False) wc W)) follows ((Chg.refl _ _).drew) (fun hHeld => ?_)
        clear hHeld
        have hHeld : Chg (fun _ => False) wc wc.drew := (Chg.refl _ _).drew
        have CZ0 := hide hHeld
        generalize wc.drew = Z0 at CZ0 hHeld ⊢
        refine wpAnyH_take (i := 0) (oi := { dst := some 123, op := Op.move (Operand.tmp 23), type := 3, pos := "law.go:90", after := #[], guard := none }) (v := ?_) rfl (by kernel_rfl) (by kernel_rfl) (by kernel_rfl) (fun _ _ _ h => h) (Or.inl ⟨by rfl, ?_⟩) (by assumption) ?_
        rotate_left
        · intro w hSw
          clear hSw
          go_simp
          all_goals with_reducible rfl
        simp only [Act.put, List.setIfInBounds_toArray, List.set_cons_zero, List.set_cons_succ]
        refine wpAnyH_take (i := 1) (oi := { dst := some 124, op := Op.binOp BinOp.eql 3 (Operand.tmp 123) (Operand.const (Value.int IntKind.i64 0)) 3, type := 4, pos := "law.go:90", after := #[{ on := 0, ground := Ground.data }], guard := none }) (v := ?_) rfl (by kernel_rfl) (by kernel_rfl) (by kernel_rfl) (fun _ _ _ h => h) (Or.inl ⟨by rfl, ?_⟩) (by assumption) ?_
        rotate_left
        · intro w hSw
          clear hSw
          go_simp
          all_goals with_reducible rfl
        simp only [Act.put, List.setIfInBounds_toArray, List.set_cons_zero, List.set_cons_succ]
        refine wpAnyH_take (i := 2) (oi := { dst := some 125, op := Op.move (Operand.tmp 124), type := 4, pos := "law.go:90", after := #[{ on := 1, ground := Ground.data }], guard := none }) (v := ?_) rfl (by kernel_rfl) (by kernel_rfl) (by kernel_rfl) (fun _ _ _ h => h) (Or.inl ⟨by rfl, ?_⟩) (by assumption) ?_
        rotate_left
        · intro w hSw
          clear hSw
          go_simp
          all_goals with_reducible rfl
        simp only [Act.put, List.setIfInBounds_toArray, List.set_cons_zero, List.set_cons_succ]
        refine wpAnyH_take (i := 3) (oi := { dst := some 126, op := Op.move (Operand.tmp 0), type := 3, pos := "law.go:90", after := #[{ on := 2, ground := Ground.guard }], guard := some (2, true) }) (v := ?_) rfl (by kernel_rfl) (by kernel_rfl) (by kernel_rfl) (fun _ _ _ h => h) (Or.inl ⟨by rfl, ?_⟩) (by assumption) ?_
        rotate_left
        · intro w hSw
          clear hSw
          go_simp
          all_goals with_reducible rfl
        simp only [Act.put, List.setIfInBounds_toArray, List.set_cons_zero, List.set_cons_succ]
        refine wpAnyH_take (i := 4) (oi := { dst := some 127, op := Op.move (Operand.tmp 15), type := 41, pos := "law.go:90", after := #[{ on := 2, ground := Ground.guard }], guard := some (2, true) }) (v := ?_) rfl (by kernel_rfl) (by kernel_rfl) (by kernel_rfl) (fun _ _ _ h => h) (Or.inl ⟨by rfl, ?_⟩) (by assumption) ?_
        rotate_left
        · intro w hSw
          clear hSw
          go_simp
          all_goals with_reducible rfl
        simp only [Act.put, List.setIfInBounds_toArray, List.set_cons_zero, List.set_cons_succ]
        refine wpAnyH_take (i := 5) (oi := { dst := some 128, op := Op.move (Operand.tmp 2), type := 28, pos := "law.go:90", after := #[{ on := 2, ground := Ground.guard }], guard := some (2, true) }) (v := ?_) rfl (by kernel_rfl) (by kernel_rfl) (by kernel_rfl) (fun _ _ _ h => h) (Or.inl ⟨by rfl, ?_⟩) (by assumption) ?_
        rotate_left
        · intro w hSw
          clear hSw
          go_simp
          all_goals with_reducible rfl
        simp only [Act.put, List.setIfInBounds_toArray, List.set_cons_zero, List.set_cons_succ]
        refine wpAnyH_take (i := 6) (oi := { dst := some 129, op := Op.indexAddr 41 (Operand.tmp 127) (Operand.tmp 128), type := 0, pos := "law.go:90", after := #[{ on := 4, ground := Ground.data }, { on := 5, ground := Ground.data }, { on := 2, ground := Ground.guard }], guard := some (2, true) }) (v := ?_) rfl (by kernel_rfl) (by kernel_rfl) (by kernel_rfl) (fun _ _ _ h => h) (Or.inl ⟨by rfl, ?_⟩) (by assumption) ?_
        rotate_left
        · intro w hSw
          clear hSw
          go_simp
          all_goals with_reducible rfl
        simp only [Act.put, List.setIfInBounds_toArray, List.set_cons_zero, List.set_cons_succ]
        refine wpAnyH_take (i := 7) (oi := { dst := some 130, op := Op.load 25 (Operand.tmp 129), type := 25, pos := "law.go:90", after := #[{ on := 6, ground := Ground.data }, { on := 2, ground := Ground.guard }], guard := some (2, true) }) (v := ?_) rfl (by kernel_rfl) (by kernel_rfl) (by kernel_rfl) (fun _ _ _ h => h) (Or.inl ⟨by rfl, ?_⟩) (by assumption) ?_
        rotate_left
        · intro w hSw
          have c4 := ((hSw.below _ (Nat.le_refl _) (fun _ _ e => e)).cell (p := ⟨bl, offl + i, none⟩) HBC.out).trans cX.out
          clear hSw
          go_simp
          all_goals with_reducible rfl
        simp only [Act.put, List.setIfInBounds_toArray, List.set_cons_zero, List.set_cons_succ]
        refine wpAnyH_take (i := 8) (oi := { dst := some 131, op := Op.move (Operand.tmp 2), type := 28, pos := "law.go:90", after := #[{ on := 2, ground := Ground.guard }], guard := some (2, true) }) (v := ?_) rfl (by kernel_rfl) (by kernel_rfl) (by kernel_rfl) (fun _ _ _ h => h) (Or.inl ⟨by rfl, ?_⟩) (by assumption) ?_
        rotate_left
        · intro w hSw
          clear hSw
          go_simp
          all_goals with_reducible rfl
        simp only [Act.put, List.setIfInBounds_toArray, List.set_cons_zero, List.set_cons_succ]
        refine wpAnyH_take (i := 9) (oi := { dst := some 132, op := Op.move (Operand.tmp 1), type := 3, pos := "law.go:90", after := #[{ on := 2, ground := Ground.guard }], guard := some (2, true) }) (v := ?_) rfl (by kernel_rfl) (by kernel_rfl) (by kernel_rfl) (fun _ _ _ h => h) (Or.inl ⟨by rfl, ?_⟩) (by assumption) ?_
        rotate_left
        · intro w hSw
          clear hSw
          go_simp
          all_goals with_reducible rfl
        simp only [Act.put, List.setIfInBounds_toArray, List.set_cons_zero, List.set_cons_succ]
        refine wpAnyH_take (i := 10) (oi := { dst := some 133, op := Op.convert 3 28 (Operand.tmp 132), type := 28, pos := "law.go:90", after := #[{ on := 9, ground := Ground.data }, { on := 2, ground := Ground.guard }], guard := some (2, true) }) (v := ?_) rfl (by kernel_rfl) (by kernel_rfl) (by kernel_rfl) (fun _ _ _ h => h) (Or.inl ⟨by rfl, ?_⟩) (by assumption) ?_
        rotate_left
        · intro w hSw
          clear hSw
          go_simp
          all_goals with_reducible rfl
        simp only [Act.put, List.setIfInBounds_toArray, List.set_cons_zero, List.set_cons_succ]
        refine wpAnyH_take (i := 11) (oi := { dst := some 134, op := Op.move (Operand.tmp 25), type := 32, pos := "law.go:90", after := #[{ on := 2, ground := Ground.guard }], guard := some (2, true) }) (v := ?_) rfl (by kernel_rfl) (by kernel_rfl) (by kernel_rfl) (fun _ _ _ h => h) (Or.inl ⟨by rfl, ?_⟩) (by assumption) ?_
        rotate_left
        · intro w hSw
          clear hSw
          go_simp
          all_goals with_reducible rfl
        simp only [Act.put, List.setIfInBounds_toArray, List.set_cons_zero, List.set_cons_succ]
        refine wpAnyH_take (i := 12) (oi := { dst := some 135, op := Op.load 23 (Operand.tmp 21), type := 23, pos := "law.go:90", after := #[{ on := 2, ground := Ground.guard }], guard := some (2, true) }) (v := .agg (S.v8l rt').toArray) rfl (by kernel_rfl) (by kernel_rfl) (by kernel_rfl) (fun _ _ _ h => h) (yieldsIf_load_mid (by rfl) _ _ rfl g21 0 rfl (S.v8l rt') _ (fun _ hSw => rangeAt_row (hSw.row C1.out (fun e => e))) Tryd.underlying23 rfl hsr) (by assumption) ?_
        simp only [Act.put, List.setIfInBounds_toArray, List.set_cons_zero, List.set_cons_succ]
        refine wpAnyH_take (i := 14) (oi := { dst := some 137, op := Op.move (Operand.tmp 16), type := 33, pos := "law.go:90", after := #[{ on := 2, ground := Ground.guard }], guard := some (2, true) }) (v := ?_) rfl (by kernel_rfl) (by kernel_rfl) (by kernel_rfl) (fun _ _ _ h => h) (Or.inl ⟨by rfl, ?_⟩) (by assumption) ?_
        rotate_left
        · intro w hSw
          clear hSw
          go_simp
          all_goals with_reducible rfl
        simp only [Act.put, List.setIfInBounds_toArray, List.set_cons_zero, List.set_cons_succ]
        refine wpAnyH_take (i := 15) (oi := { dst := some 138, op := Op.move (Operand.tmp 15), type := 41, pos := "law.go:90", after := #[{ on := 2, ground := Ground.guard }], guard := some (2, true) }) (v := ?_) rfl (by kernel_rfl) (by kernel_rfl) (by kernel_rfl) (fun _ _ _ h => h) (Or.inl ⟨by rfl, ?_⟩) (by assumption) ?_
        rotate_left
        · intro w hSw
          clear hSw
          go_simp
          all_goals with_reducible rfl
        simp only [Act.put, List.setIfInBounds_toArray, List.set_cons_zero, List.set_cons_succ]
        refine wpAnyH_take (i := 16) (oi := { dst := some 139, op := Op.move (Operand.tmp 2), type := 28, pos := "law.go:90", after := #[{ on := 2, ground := Ground.guard }], guard := some (2, true) }) (v := ?_) rfl (by kernel_rfl) (by kernel_rfl) (by kernel_rfl) (fun _ _ _ h => h) (Or.inl ⟨by rfl, ?_⟩) (by assumption) ?_
        rotate_left
        · intro w hSw
          clear hSw
          go_simp
          all_goals with_reducible rfl
        simp only [Act.put, List.setIfInBounds_toArray, List.set_cons_zero, List.set_cons_succ]
        refine wpAnyH_take (i := 17) (oi := { dst := some 140, op := Op.indexAddr 41 (Operand.tmp 138) (Operand.tmp 139), type := 0, pos := "law.go:90", after := #[{ on := 15, ground := Ground.data }, { on := 16, ground := Ground.data }, { on := 2, ground := Ground.guard }], guard := some (2, true) }) (v := ?_) rfl (by kernel_rfl) (by kernel_rfl) (by kernel_rfl) (fun _ _ _ h => h) (Or.inl ⟨by rfl, ?_⟩) (by assumption) ?_
        rotate_left
        · intro w hSw
          clear hSw
          go_simp
          all_goals with_reducible rfl
        simp only [Act.put, List.setIfInBounds_toArray, List.set_cons_zero, List.set_cons_succ]
        refine wpAnyH_take (i := 18) (oi := { dst := some 141, op := Op.load 25 (Operand.tmp 140), type := 25, pos := "law.go:90", after := #[{ on := 17, ground := Ground.data }, { on := 2, ground := Ground.guard }], guard := some (2, true) }) (v := ?_) rfl (by kernel_rfl) (by kernel_rfl) (by kernel_rfl) (fun _ _ _ h => h) (Or.inl ⟨by rfl, ?_⟩) (by assumption) ?_
        rotate_left
        · intro w hSw
          have c4 := ((hSw.below _ (Nat.le_refl _) (fun _ _ e => e)).cell (p := ⟨bl, offl + i, none⟩) HBC.out).trans cX.out
          clear hSw
          go_simp
          all_goals with_reducible rfl
        simp only [Act.put, List.setIfInBounds_toArray, List.set_cons_zero, List.set_cons_succ]
        refine wpAnyH_take (i := 19) (oi := { dst := some 142, op := Op.move (Operand.tmp 2), type := 28, pos := "law.go:90", after := #[{ on := 2, ground := Ground.guard }], guard := some (2, true) }) (v := ?_) rfl (by kernel_rfl) (by kernel_rfl) (by kernel_rfl) (fun _ _ _ h => h) (Or.inl ⟨by rfl, ?_⟩) (by assumption) ?_
        rotate_left
        · intro w hSw
          clear hSw
          go_simp
          all_goals with_reducible rfl
        simp only [Act.put, List.setIfInBounds_toArray, List.set_cons_zero, List.set_cons_succ]
        refine wpAnyH_take (i := 20) (oi := { dst := some 143, op := Op.move (Operand.tmp 1), type := 3, pos := "law.go:90", after := #[{ on := 2, ground := Ground.guard }], guard := some (2, true) }) (v := ?_) rfl (by kernel_rfl) (by kernel_rfl) (by kernel_rfl) (fun _ _ _ h => h) (Or.inl ⟨by rfl, ?_⟩) (by assumption) ?_
        rotate_left
        · intro w hSw
          clear hSw
          go_simp
          all_goals with_reducible rfl
        simp only [Act.put, List.setIfInBounds_toArray, List.set_cons_zero, List.set_cons_succ]
        refine wpAnyH_take (i := 21) (oi := { dst := some 144, op := Op.convert 3 28 (Operand.tmp 143), type := 28, pos := "law.go:90", after := #[{ on := 20, ground := Ground.data }, { on := 2, ground := Ground.guard }], guard := some (2, true) }) (v := ?_) rfl (by kernel_rfl) (by kernel_rfl) (by kernel_rfl) (fun _ _ _ h => h) (Or.inl ⟨by rfl, ?_⟩) (by assumption) ?_
        rotate_left
        · intro w hSw
          clear hSw
          go_simp
          all_goals with_reducible rfl
        simp only [Act.put, List.setIfInBounds_toArray, List.set_cons_zero, List.set_cons_succ]
        refine wpAnyH_take (i := 22) (oi := { dst := some 145, op := Op.move (Operand.tmp 25), type := 32, pos := "law.go:90", after := #[{ on := 2, ground := Ground.guard }], guard := some (2, true) }) (v := ?_) rfl (by kernel_rfl) (by kernel_rfl) (by kernel_rfl) (fun _ _ _ h => h) (Or.inl ⟨by rfl, ?_⟩) (by assumption) ?_
        rotate_left
        · intro w hSw
          clear hSw
          go_simp
          all_goals with_reducible rfl
        simp only [Act.put, List.setIfInBounds_toArray, List.set_cons_zero, List.set_cons_succ]
        refine wpAnyH_take (i := 23) (oi := { dst := some 146, op := Op.load 23 (Operand.tmp 21), type := 23, pos := "law.go:90", after := #[{ on := 2, ground := Ground.guard }], guard := some (2, true) }) (v := .agg (S.v8l rt').toArray) rfl (by kernel_rfl) (by kernel_rfl) (by kernel_rfl) (fun _ _ _ h => h) (yieldsIf_load_mid (by rfl) _ _ rfl g21 0 rfl (S.v8l rt') _ (fun _ hSw => rangeAt_row (hSw.row C1.out (fun e => e))) Tryd.underlying23 rfl hsr) (by assumption) ?_
        simp only [Act.put, List.setIfInBounds_toArray, List.set_cons_zero, List.set_cons_succ]
        refine wpAnyH_ready (rs := [13]) (by kernel_rfl) (by simp) ?_
        refine AllReadyH.cons (o := { dst := some 136, op := Op.call { callee := Callee.value (Operand.func 11), args := #[Operand.tmp 126, Operand.tmp 130, Operand.tmp 131, Operand.tmp 133, Operand.tmp 134, Operand.tmp 135], argTypes := #[3, 25, 28, 28, 32, 23] }, type := 4, pos := "law.go:90", after := #[{ on := 3, ground := Ground.data }, { on := 7, ground := Ground.data }, { on := 8, ground := Ground.data }, { on := 10, ground := Ground.data }, { on := 11, ground := Ground.data }, { on := 12, ground := Ground.data }, { on := 2, ground := Ground.chain }, { on := 2, ground := Ground.guard }], guard := some (2, true) }) rfl (fun K hK => ?_) AllReadyH.nil
        go_simp
        refine (leafv_any a _ _ (L.getD i []) i n ds rt' LRT'.out Z0 (by omega) (by omega) (XC.out.below (CZ0.out.below _ (Nat.le_refl _) (fun _ _ e => e)) (Nat.le_refl _)) (by have := HFX.out; omega) (DS.out.1.below (CZ0.out.below _ (Nat.le_refl _) (fun _ _ e => e))) (by have := DS.out.2.2; omega) (HK.out.below (BC.out.trans (CZ0.out.below w.heap.size BC.out.size (fun k hk e => e))) h0)).mono ?_
        rintro e Z1 ⟨rfl, hb2⟩
        rw [← HQ1.out]
        have CZ1 : Hid (Chg (fun _ => False) wc Z1) := CZ0.out.then hb2
        clear hb2 CZ0
        clear hHeld
        refine hK.out _ _ CZ1.out (fun hHeld => ?_)
        clear hK K
        try simp only [Act.put, List.setIfInBounds_toArray, List.set_cons_zero, List.set_cons_succ]
        refine wpAnyH_ready (rs := [24]) (by kernel_rfl) (by simp) ?_
        refine AllReadyH.cons (o := { dst := some 147, op := Op.call { callee := Callee.value (Operand.func 16), args := #[Operand.tmp 137, Operand.tmp 141, Operand.tmp 142, Operand.tmp 144, Operand.tmp 145, Operand.tmp 146], argTypes := #[33, 25, 28, 28, 32, 23] }, type := 4, pos := "law.go:90", after := #[{ on := 14, ground := Ground.data }, { on := 18, ground := Ground.data }, { on := 19, ground := Ground.data }, { on := 21, ground := Ground.data }, { on := 22, ground := Ground.data }, { on := 23, ground := Ground.data }, { on := 13, ground := Ground.chain }, { on := 2, ground := Ground.guard }], guard := some (2, true) }) rfl (fun K hK => ?_) AllReadyH.nil
        go_simp
        refine (rleaf_any gh gT a _ _ (L.getD i []) i n ds rt' LRT'.out Z1 (by omega) (by omega) (HC.out.below (CZ1.out.below _ (Nat.le_refl _) (fun _ _ e => e)) (Nat.le_refl _)) (XC.out.below (CZ1.out.below _ (Nat.le_refl _) (fun _ _ e => e)) (Nat.le_refl _)) (by have := HFX.out; omega) (DS.out.1.below (CZ1.out.below _ (Nat.le_refl _) (fun _ _ e => e))) (by have := DS.out.2.2; omega)).mono ?_
        rintro e Z2 ⟨rfl, hb2⟩
        rw [← HQ1.out]
        have CZ2 : Hid (Chg (fun _ => False) wc Z2) := CZ1.out.then hb2
        clear hb2 CZ1
        clear hHeld
        refine hK.out _ _ CZ2.out (fun hHeld => ?_)
        clear hK K
        try simp only [Act.put, List.setIfInBounds_toArray, List.set_cons_zero, List.set_cons_succ]
        refine wpAnyH_take (i := 25) (oi := { dst := some 148, op := Op.binOp BinOp.neq 4 (Operand.tmp 136) (Operand.tmp 147) 4, type := 4, pos := "law.go:90", after := #[{ on := 13, ground := Ground.data }, { on := 24, ground := Ground.data }, { on := 2, ground := Ground.guard }], guard := some (2, true) }) (v := ?_) rfl (by kernel_rfl) (by kernel_rfl) (by kernel_rfl) (fun _ _ _ h => h) (Or.inl ⟨by rfl, ?_⟩) (by assumption) ?_
        rotate_left
        · intro w hSw
          clear hSw
          go_simp
          all_goals with_reducible rfl
        simp only [Act.put, List.setIfInBounds_toArray, List.set_cons_zero, List.set_cons_succ]
        refine wpAnyH_take (i := 26) (oi := { dst := some 149, op := Op.pick (Operand.tmp 125) (Operand.tmp 148) (Operand.const (Value.bool false)), type := 4, pos := "law.go:90", after := #[{ on := 2, ground := Ground.data }, { on := 25, ground := Ground.data }], guard := none }) (v := ?_) rfl (by kernel_rfl) (by kernel_rfl) (by kernel_rfl) (fun _ _ _ h => h) (Or.inl ⟨by rfl, ?_⟩) (by assumption) ?_
        rotate_left
        · intro w hSw
          clear hSw
          go_simp
          all_goals with_reducible rfl
        simp only [Act.put, List.setIfInBounds_toArray, List.set_cons_zero, List.set_cons_succ]
        refine wpAnyH_done (by kernel_rfl) ?_ _
        refine NoPanic.normal ?_
        clear hHeld
        obtain ⟨Zf, hZf⟩ : ∃ Z, Z = Z2 := ⟨_, rfl⟩
        rw [← hZf] at CZ2 ⊢
        clear hZf
        have BZf : Hid (Below wc.heap.size wc Zf) := (CZ2.out.below _ (Nat.le_refl _) (fun _ _ e => e))
        have FZf := hide (BC.out.trans (CZ2.out.below w.heap.size BC.out.size (fun k hk e => e)))
        clear CZ2
        have K1 : Hid (Zf.heap[g21]? = some (.cells (S.v8 rt') 23 (0, 0))) := (BZf.out.block _ (block_lt_of_row C1.out)).trans C1.out
        have K2 : Hid (Zf.heap[g22]? = some (.cells (S.v8 D2) 23 (0, 0))) := (BZf.out.block _ (block_lt_of_row C2.out)).trans C2.out
        have K3 : Hid (Zf.heap[gl]? = some (.cells #[.slice po pm pc, .slice qo qm qc] 32 (0, 0))) := (BZf.out.block _ (block_lt_of_row C3.out)).trans C3.out
        have K4 := hide (C4.out.trans (BZf.out.mono C4.out.size))
        have DK := hide (DS.out.1.below BZf.out)
        have HCK := hide (HC.out.below BZf.out (Nat.le_refl _))
        clear C1 C2 C3 C4 HC XC cX BC
        go_upto_region 28 with fail
        refine wp_region_noPanic ?_
        refine wp_region_held_drew (S := (fun W => Chg (fun _ => False) Zf W)) follows ((Chg.refl _ _).drew) (fun hHeld => ?_)
        clear hHeld
        have hHeld : Chg (fun _ => False) Zf Zf.drew := (Chg.refl _ _).drew
        have CZ0 := hide hHeld
        generalize Zf.drew = Z0 at CZ0 hHeld ⊢
        refine wpAnyH_take (i := 0) (oi := { dst := some 150, op := Op.move (Operand.tmp 23), type := 3, pos := "law.go:93", after := #[], guard := none }) (v := ?_) rfl (by kernel_rfl) (by kernel_rfl) (by kernel_rfl) (fun _ _ _ h => h) (Or.inl ⟨by rfl, ?_⟩) (by assumption) ?_
        rotate_left
        · intro w hSw
          clear hSw
          go_simp
          all_goals with_reducible rfl
        simp only [Act.put, List.setIfInBounds_toArray, List.set_cons_zero, List.set_cons_succ]
        refine wpAnyH_take (i := 1) (oi := { dst := some 151, op := Op.binOp BinOp.eql 3 (Operand.tmp 150) (Operand.const (Value.int IntKind.i64 1)) 3, type := 4, pos := "law.go:93", after := #[{ on := 0, ground := Ground.data }], guard := none }) (v := ?_) rfl (by kernel_rfl) (by kernel_rfl) (by kernel_rfl) (fun _ _ _ h => h) (Or.inl ⟨by rfl, ?_⟩) (by assumption) ?_
        rotate_left
        · intro w hSw
          clear hSw
          go_simp
          all_goals with_reducible rfl
        simp only [Act.put, List.setIfInBounds_toArray, List.set_cons_zero, List.set_cons_succ]
        refine wpAnyH_take (i := 2) (oi := { dst := some 152, op := Op.move (Operand.tmp 151), type := 4, pos := "law.go:93", after := #[{ on := 1, ground := Ground.data }], guard := none }) (v := ?_) rfl (by kernel_rfl) (by kernel_rfl) (by kernel_rfl) (fun _ _ _ h => h) (Or.inl ⟨by rfl, ?_⟩) (by assumption) ?_
        rotate_left
        · intro w hSw
          clear hSw
          go_simp
          all_goals with_reducible rfl
        simp only [Act.put, List.setIfInBounds_toArray, List.set_cons_zero, List.set_cons_succ]
        refine wpAnyH_take (i := 3) (oi := { dst := some 153, op := Op.move (Operand.tmp 0), type := 3, pos := "law.go:93", after := #[{ on := 2, ground := Ground.guard }], guard := some (2, true) }) (v := undef) rfl (by kernel_rfl) (by kernel_rfl) (by kernel_rfl) (fun _ _ _ h => h) (Or.inr ⟨by rfl, rfl⟩) (by assumption) ?_
        simp only [Act.put, List.setIfInBounds_toArray, List.set_cons_zero, List.set_cons_succ]
        refine wpAnyH_take (i := 4) (oi := { dst := some 154, op := Op.move (Operand.tmp 3), type := 28, pos := "law.go:93", after := #[{ on := 2, ground := Ground.guard }], guard := some (2, true) }) (v := undef) rfl (by kernel_rfl) (by kernel_rfl) (by kernel_rfl) (fun _ _ _ h => h) (Or.inr ⟨by rfl, rfl⟩) (by assumption) ?_
        simp only [Act.put, List.setIfInBounds_toArray, List.set_cons_zero, List.set_cons_succ]
        refine wpAnyH_take (i := 5) (oi := { dst := some 155, op := Op.move (Operand.tmp 1), type := 3, pos := "law.go:93", after := #[{ on := 2, ground := Ground.guard }], guard := some (2, true) }) (v := undef) rfl (by kernel_rfl) (by kernel_rfl) (by kernel_rfl) (fun _ _ _ h => h) (Or.inr ⟨by rfl, rfl⟩) (by assumption) ?_
        simp only [Act.put, List.setIfInBounds_toArray, List.set_cons_zero, List.set_cons_succ]
        refine wpAnyH_take (i := 6) (oi := { dst := some 156, op := Op.convert 3 28 (Operand.tmp 155), type := 28, pos := "law.go:93", after := #[{ on := 5, ground := Ground.data }, { on := 2, ground := Ground.guard }], guard := some (2, true) }) (v := undef) rfl (by kernel_rfl) (by kernel_rfl) (by kernel_rfl) (fun _ _ _ h => h) (Or.inr ⟨by rfl, rfl⟩) (by assumption) ?_
        simp only [Act.put, List.setIfInBounds_toArray, List.set_cons_zero, List.set_cons_succ]
        refine wpAnyH_take (i := 7) (oi := { dst := some 157, op := Op.load 23 (Operand.tmp 22), type := 23, pos := "law.go:93", after := #[{ on := 2, ground := Ground.guard }], guard := some (2, true) }) (v := undef) rfl (by kernel_rfl) (by kernel_rfl) (by kernel_rfl) (fun _ _ _ h => h) (Or.inr ⟨by rfl, rfl⟩) (by assumption) ?_
        simp only [Act.put, List.setIfInBounds_toArray, List.set_cons_zero, List.set_cons_succ]
        refine wpAnyH_take (i := 8) (oi := { dst := some 158, op := Op.load 23 (Operand.tmp 21), type := 23, pos := "law.go:93", after := #[{ on := 2, ground := Ground.guard }], guard := some (2, true) }) (v := undef) rfl (by kernel_rfl) (by kernel_rfl) (by kernel_rfl) (fun _ _ _ h => h) (Or.inr ⟨by rfl, rfl⟩) (by assumption) ?_
        simp only [Act.put, List.setIfInBounds_toArray, List.set_cons_zero, List.set_cons_succ]
        refine wpAnyH_take (i := 9) (oi := { dst := some 159, op := Op.move (Operand.tmp 25), type := 32, pos := "law.go:93", after := #[{ on := 2, ground := Ground.guard }], guard := some (2, true) }) (v := undef) rfl (by kernel_rfl) (by kernel_rfl) (by kernel_rfl) (fun _ _ _ h => h) (Or.inr ⟨by rfl, rfl⟩) (by assumption) ?_
        simp only [Act.put, List.setIfInBounds_toArray, List.set_cons_zero, List.set_cons_succ]
        refine wpAnyH_take (i := 10) (oi := { dst := some 160, op := Op.call { callee := Callee.value (Operand.func 12), args := #[Operand.tmp 153, Operand.tmp 154, Operand.tmp 156, Operand.tmp 157, Operand.tmp 158, Operand.tmp 159], argTypes := #[3, 28, 28, 23, 23, 32] }, type := 4, pos := "law.go:93", after := #[{ on := 3, ground := Ground.data }, { on := 4, ground := Ground.data }, { on := 6, ground := Ground.data }, { on := 7, ground := Ground.data }, { on := 8, ground := Ground.data }, { on := 9, ground := Ground.data }, { on := 2, ground := Ground.chain }, { on := 2, ground := Ground.guard }], guard := some (2, true) }) (v := undef) rfl (by kernel_rfl) (by kernel_rfl) (by kernel_rfl) (fun _ _ _ h => h) (Or.inr ⟨by rfl, rfl⟩) (by assumption) ?_
        simp only [Act.put, List.setIfInBounds_toArray, List.set_cons_zero, List.set_cons_succ]
        refine wpAnyH_take (i := 11) (oi := { dst := some 161, op := Op.move (Operand.tmp 16), type := 33, pos := "law.go:93", after := #[{ on := 2, ground := Ground.guard }], guard := some (2, true) }) (v := undef) rfl (by kernel_rfl) (by kernel_rfl) (by kernel_rfl) (fun _ _ _ h => h) (Or.inr ⟨by rfl, rfl⟩) (by assumption) ?_
        simp only [Act.put, List.setIfInBounds_toArray, List.set_cons_zero, List.set_cons_succ]
        refine wpAnyH_take (i := 12) (oi := { dst := some 162, op := Op.move (Operand.tmp 3), type := 28, pos := "law.go:93", after := #[{ on := 2, ground := Ground.guard }], guard := some (2, true) }) (v := undef) rfl (by kernel_rfl) (by kernel_rfl) (by kernel_rfl) (fun _ _ _ h => h) (Or.inr ⟨by rfl, rfl⟩) (by assumption) ?_
        simp only [Act.put, List.setIfInBounds_toArray, List.set_cons_zero, List.set_cons_succ]
        refine wpAnyH_take (i := 13) (oi := { dst := some 163, op := Op.move (Operand.tmp 1), type := 3, pos := "law.go:93", after := #[{ on := 2, ground := Ground.guard }], guard := some (2, true) }) (v := undef) rfl (by kernel_rfl) (by kernel_rfl) (by kernel_rfl) (fun _ _ _ h => h) (Or.inr ⟨by rfl, rfl⟩) (by assumption) ?_
        simp only [Act.put, List.setIfInBounds_toArray, List.set_cons_zero, List.set_cons_succ]
        refine wpAnyH_take (i := 14) (oi := { dst := some 164, op := Op.convert 3 28 (Operand.tmp 163), type := 28, pos := "law.go:93", after := #[{ on := 13, ground := Ground.data }, { on := 2, ground := Ground.guard }], guard := some (2, true) }) (v := undef) rfl (by kernel_rfl) (by kernel_rfl) (by kernel_rfl) (fun _ _ _ h => h) (Or.inr ⟨by rfl, rfl⟩) (by assumption) ?_
        simp only [Act.put, List.setIfInBounds_toArray, List.set_cons_zero, List.set_cons_succ]
        refine wpAnyH_take (i := 15) (oi := { dst := some 165, op := Op.load 23 (Operand.tmp 22), type := 23, pos := "law.go:93", after := #[{ on := 2, ground := Ground.guard }], guard := some (2, true) }) (v := undef) rfl (by kernel_rfl) (by kernel_rfl) (by kernel_rfl) (fun _ _ _ h => h) (Or.inr ⟨by rfl, rfl⟩) (by assumption) ?_
        simp only [Act.put, List.setIfInBounds_toArray, List.set_cons_zero, List.set_cons_succ]
        refine wpAnyH_take (i := 16) (oi := { dst := some 166, op := Op.load 23 (Operand.tmp 21), type := 23, pos := "law.go:93", after := #[{ on := 2, ground := Ground.guard }], guard := some (2, true) }) (v := undef) rfl (by kernel_rfl) (by kernel_rfl) (by kernel_rfl) (fun _ _ _ h => h) (Or.inr ⟨by rfl, rfl⟩) (by assumption) ?_
        simp only [Act.put, List.setIfInBounds_toArray, List.set_cons_zero, List.set_cons_succ]
        refine wpAnyH_take (i := 17) (oi := { dst := some 167, op := Op.move (Operand.tmp 25), type := 32, pos := "law.go:93", after := #[{ on := 2, ground := Ground.guard }], guard := some (2, true) }) (v := undef) rfl (by kernel_rfl) (by kernel_rfl) (by kernel_rfl) (fun _ _ _ h => h) (Or.inr ⟨by rfl, rfl⟩) (by assumption) ?_
        simp only [Act.put, List.setIfInBounds_toArray, List.set_cons_zero, List.set_cons_succ]
        refine wpAnyH_take (i := 18) (oi := { dst := some 168, op := Op.call { callee := Callee.value (Operand.func 17), args := #[Operand.tmp 161, Operand.tmp 162, Operand.tmp 164, Operand.tmp 165, Operand.tmp 166, Operand.tmp 167], argTypes := #[33, 28, 28, 23, 23, 32] }, type := 4, pos := "law.go:93", after := #[{ on := 11, ground := Ground.data }, { on := 12, ground := Ground.data }, { on := 14, ground := Ground.data }, { on := 15, ground := Ground.data }, { on := 16, ground := Ground.data }, { on := 17, ground := Ground.data }, { on := 10, ground := Ground.chain }, { on := 2, ground := Ground.guard }], guard := some (2, true) }) (v := undef) rfl (by kernel_rfl) (by kernel_rfl) (by kernel_rfl) (fun _ _ _ h => h) (Or.inr ⟨by rfl, rfl⟩) (by assumption) ?_
        simp only [Act.put, List.setIfInBounds_toArray, List.set_cons_zero, List.set_cons_succ]
        refine wpAnyH_take (i := 19) (oi := { dst := some 169, op := Op.binOp BinOp.neq 4 (Operand.tmp 160) (Operand.tmp 168) 4, type := 4, pos := "law.go:93", after := #[{ on := 10, ground := Ground.data }, { on := 18, ground := Ground.data }, { on := 2, ground := Ground.guard }], guard := some (2, true) }) (v := undef) rfl (by kernel_rfl) (by kernel_rfl) (by kernel_rfl) (fun _ _ _ h => h) (Or.inr ⟨by rfl, rfl⟩) (by assumption) ?_
        simp only [Act.put, List.setIfInBounds_toArray, List.set_cons_zero, List.set_cons_succ]
        refine wpAnyH_take (i := 20) (oi := { dst := some 170, op := Op.pick (Operand.tmp 152) (Operand.tmp 169) (Operand.const (Value.bool false)), type := 4, pos := "law.go:93", after := #[{ on := 2, ground := Ground.data }, { on := 19, ground := Ground.data }], guard := none }) (v := ?_) rfl (by kernel_rfl) (by kernel_rfl) (by kernel_rfl) (fun _ _ _ h => h) (Or.inl ⟨by rfl, ?_⟩) (by assumption) ?_
        rotate_left
        · intro w hSw
          clear hSw
          go_simp
          all_goals with_reducible rfl
        simp only [Act.put, List.setIfInBounds_toArray, List.set_cons_zero, List.set_cons_succ]
        refine wpAnyH_done (by kernel_rfl) ?_ _
        refine NoPanic.normal ?_
        clear hHeld
        obtain ⟨Zg, hZg⟩ : ∃ Z, Z = Z0 := ⟨_, rfl⟩
        rw [← hZg] at CZ0 ⊢
        clear hZg
        have BZg : Hid (Below Zf.heap.size Zf Zg) := (CZ0.out.below _ (Nat.le_refl _) (fun _ _ e => e))
        have FZg := hide (FZf.out.trans (CZ0.out.below w.heap.size FZf.out.size (fun k hk e => e)))
        clear CZ0
        go_wp2_with fail
        go_roundg gO
        case measure => omega
        case rel => exact ⟨0 + 1, by have := HKK.out; omega, by first | rfl | simp, rt', LRT', hide ((BZg.out.block _ (block_lt_of_row K1.out)).trans K1.out), hide ((BZg.out.block _ (block_lt_of_row K2.out)).trans K2.out), hide ((BZg.out.block _ (block_lt_of_row K3.out)).trans K3.out), hide (K4.out.trans (BZg.out.mono K4.out.size))⟩
      · go_upto_region 26 with fail
        refine wp_region_noPanic ?_
        refine wp_region_held_drew (S := (fun W => Chg (fun _ => False) wc W)) follows ((Chg.refl _ _).drew) (fun hHeld => ?_)
        clear hHeld
        have hHeld : Chg (fun _ => False) wc wc.drew := (Chg.refl _ _).drew
        have CZ0 := hide hHeld
        generalize wc.drew = Z0 at CZ0 hHeld ⊢
        refine wpAnyH_take (i := 0) (oi := { dst := some 123, op := Op.move (Operand.tmp 23), type := 3, pos := "law.go:90", after := #[], guard := none }) (v := ?_) rfl (by kernel_rfl) (by kernel_rfl) (by kernel_rfl) (fun _ _ _ h => h) (Or.inl ⟨by rfl, ?_⟩) (by assumption) ?_
        rotate_left
        · intro w hSw
          clear hSw
          go_simp
          all_goals with_reducible rfl
        simp only [Act.put, List.setIfInBounds_toArray, List.set_cons_zero, List.set_cons_succ]
        refine wpAnyH_take (i := 1) (oi := { dst := some 124, op := Op.binOp BinOp.eql 3 (Operand.tmp 123) (Operand.const (Value.int IntKind.i64 0)) 3, type := 4, pos := "law.go:90", after := #[{ on := 0, ground := Ground.data }], guard := none }) (v := ?_) rfl (by kernel_rfl) (by kernel_rfl) (by kernel_rfl) (fun _ _ _ h => h) (Or.inl ⟨by rfl, ?_⟩) (by assumption) ?_
        rotate_left
        · intro w hSw
          clear hSw
          go_simp
          all_goals with_reducible rfl
        simp only [Act.put, List.setIfInBounds_toArray, List.set_cons_zero, List.set_cons_succ]
        refine wpAnyH_take (i := 2) (oi := { dst := some 125, op := Op.move (Operand.tmp 124), type := 4, pos := "law.go:90", after := #[{ on := 1, ground := Ground.data }], guard := none }) (v := ?_) rfl (by kernel_rfl) (by kernel_rfl) (by kernel_rfl) (fun _ _ _ h => h) (Or.inl ⟨by rfl, ?_⟩) (by assumption) ?_
        rotate_left
        · intro w hSw
          clear hSw
          go_simp
          all_goals with_reducible rfl
        simp only [Act.put, List.setIfInBounds_toArray, List.set_cons_zero, List.set_cons_succ]
        refine wpAnyH_take (i := 3) (oi := { dst := some 126, op := Op.move (Operand.tmp 0), type := 3, pos := "law.go:90", after := #[{ on := 2, ground := Ground.guard }], guard := some (2, true) }) (v := undef) rfl (by kernel_rfl) (by kernel_rfl) (by kernel_rfl) (fun _ _ _ h => h) (Or.inr ⟨by rfl, rfl⟩) (by assumption) ?_
        simp only [Act.put, List.setIfInBounds_toArray, List.set_cons_zero, List.set_cons_succ]
        refine wpAnyH_take (i := 4) (oi := { dst := some 127, op := Op.move (Operand.tmp 15), type := 41, pos := "law.go:90", after := #[{ on := 2, ground := Ground.guard }], guard := some (2, true) }) (v := undef) rfl (by kernel_rfl) (by kernel_rfl) (by kernel_rfl) (fun _ _ _ h => h) (Or.inr ⟨by rfl, rfl⟩) (by assumption) ?_
        simp only [Act.put, List.setIfInBounds_toArray, List.set_cons_zero, List.set_cons_succ]
        refine wpAnyH_take (i := 5) (oi := { dst := some 128, op := Op.move (Operand.tmp 2), type := 28, pos := "law.go:90", after := #[{ on := 2, ground := Ground.guard }], guard := some (2, true) }) (v := undef) rfl (by kernel_rfl) (by kernel_rfl) (by kernel_rfl) (fun _ _ _ h => h) (Or.inr ⟨by rfl, rfl⟩) (by assumption) ?_
        simp only [Act.put, List.setIfInBounds_toArray, List.set_cons_zero, List.set_cons_succ]
        refine wpAnyH_take (i := 6) (oi := { dst := some 129, op := Op.indexAddr 41 (Operand.tmp 127) (Operand.tmp 128), type := 0, pos := "law.go:90", after := #[{ on := 4, ground := Ground.data }, { on := 5, ground := Ground.data }, { on := 2, ground := Ground.guard }], guard := some (2, true) }) (v := undef) rfl (by kernel_rfl) (by kernel_rfl) (by kernel_rfl) (fun _ _ _ h => h) (Or.inr ⟨by rfl, rfl⟩) (by assumption) ?_
        simp only [Act.put, List.setIfInBounds_toArray, List.set_cons_zero, List.set_cons_succ]
        refine wpAnyH_take (i := 7) (oi := { dst := some 130, op := Op.load 25 (Operand.tmp 129), type := 25, pos := "law.go:90", after := #[{ on := 6, ground := Ground.data }, { on := 2, ground := Ground.guard }], guard := some (2, true) }) (v := undef) rfl (by kernel_rfl) (by kernel_rfl) (by kernel_rfl) (fun _ _ _ h => h) (Or.inr ⟨by rfl, rfl⟩) (by assumption) ?_
        simp only [Act.put, List.setIfInBounds_toArray, List.set_cons_zero, List.set_cons_succ]
        refine wpAnyH_take (i := 8) (oi := { dst := some 131, op := Op.move (Operand.tmp 2), type := 28, pos := "law.go:90", after := #[{ on := 2, ground := Ground.guard }], guard := some (2, true) }) (v := undef) rfl (by kernel_rfl) (by kernel_rfl) (by kernel_rfl) (fun _ _ _ h => h) (Or.inr ⟨by rfl, rfl⟩) (by assumption) ?_
        simp only [Act.put, List.setIfInBounds_toArray, List.set_cons_zero, List.set_cons_succ]
        refine wpAnyH_take (i := 9) (oi := { dst := some 132, op := Op.move (Operand.tmp 1), type := 3, pos := "law.go:90", after := #[{ on := 2, ground := Ground.guard }], guard := some (2, true) }) (v := undef) rfl (by kernel_rfl) (by kernel_rfl) (by kernel_rfl) (fun _ _ _ h => h) (Or.inr ⟨by rfl, rfl⟩) (by assumption) ?_
        simp only [Act.put, List.setIfInBounds_toArray, List.set_cons_zero, List.set_cons_succ]
        refine wpAnyH_take (i := 10) (oi := { dst := some 133, op := Op.convert 3 28 (Operand.tmp 132), type := 28, pos := "law.go:90", after := #[{ on := 9, ground := Ground.data }, { on := 2, ground := Ground.guard }], guard := some (2, true) }) (v := undef) rfl (by kernel_rfl) (by kernel_rfl) (by kernel_rfl) (fun _ _ _ h => h) (Or.inr ⟨by rfl, rfl⟩) (by assumption) ?_
        simp only [Act.put, List.setIfInBounds_toArray, List.set_cons_zero, List.set_cons_succ]
        refine wpAnyH_take (i := 11) (oi := { dst := some 134, op := Op.move (Operand.tmp 25), type := 32, pos := "law.go:90", after := #[{ on := 2, ground := Ground.guard }], guard := some (2, true) }) (v := undef) rfl (by kernel_rfl) (by kernel_rfl) (by kernel_rfl) (fun _ _ _ h => h) (Or.inr ⟨by rfl, rfl⟩) (by assumption) ?_
        simp only [Act.put, List.setIfInBounds_toArray, List.set_cons_zero, List.set_cons_succ]
        refine wpAnyH_take (i := 12) (oi := { dst := some 135, op := Op.load 23 (Operand.tmp 21), type := 23, pos := "law.go:90", after := #[{ on := 2, ground := Ground.guard }], guard := some (2, true) }) (v := undef) rfl (by kernel_rfl) (by kernel_rfl) (by kernel_rfl) (fun _ _ _ h => h) (Or.inr ⟨by rfl, rfl⟩) (by assumption) ?_
        simp only [Act.put, List.setIfInBounds_toArray, List.set_cons_zero, List.set_cons_succ]
        refine wpAnyH_take (i := 13) (oi := { dst := some 136, op := Op.call { callee := Callee.value (Operand.func 11), args := #[Operand.tmp 126, Operand.tmp 130, Operand.tmp 131, Operand.tmp 133, Operand.tmp 134, Operand.tmp 135], argTypes := #[3, 25, 28, 28, 32, 23] }, type := 4, pos := "law.go:90", after := #[{ on := 3, ground := Ground.data }, { on := 7, ground := Ground.data }, { on := 8, ground := Ground.data }, { on := 10, ground := Ground.data }, { on := 11, ground := Ground.data }, { on := 12, ground := Ground.data }, { on := 2, ground := Ground.chain }, { on := 2, ground := Ground.guard }], guard := some (2, true) }) (v := undef) rfl (by kernel_rfl) (by kernel_rfl) (by kernel_rfl) (fun _ _ _ h => h) (Or.inr ⟨by rfl, rfl⟩) (by assumption) ?_
        simp only [Act.put, List.setIfInBounds_toArray, List.set_cons_zero, List.set_cons_succ]
        refine wpAnyH_take (i := 14) (oi := { dst := some 137, op := Op.move (Operand.tmp 16), type := 33, pos := "law.go:90", after := #[{ on := 2, ground := Ground.guard }], guard := some (2, true) }) (v := undef) rfl (by kernel_rfl) (by kernel_rfl) (by kernel_rfl) (fun _ _ _ h => h) (Or.inr ⟨by rfl, rfl⟩) (by assumption) ?_
        simp only [Act.put, List.setIfInBounds_toArray, List.set_cons_zero, List.set_cons_succ]
        refine wpAnyH_take (i := 15) (oi := { dst := some 138, op := Op.move (Operand.tmp 15), type := 41, pos := "law.go:90", after := #[{ on := 2, ground := Ground.guard }], guard := some (2, true) }) (v := undef) rfl (by kernel_rfl) (by kernel_rfl) (by kernel_rfl) (fun _ _ _ h => h) (Or.inr ⟨by rfl, rfl⟩) (by assumption) ?_
        simp only [Act.put, List.setIfInBounds_toArray, List.set_cons_zero, List.set_cons_succ]
        refine wpAnyH_take (i := 16) (oi := { dst := some 139, op := Op.move (Operand.tmp 2), type := 28, pos := "law.go:90", after := #[{ on := 2, ground := Ground.guard }], guard := some (2, true) }) (v := undef) rfl (by kernel_rfl) (by kernel_rfl) (by kernel_rfl) (fun _ _ _ h => h) (Or.inr ⟨by rfl, rfl⟩) (by assumption) ?_
        simp only [Act.put, List.setIfInBounds_toArray, List.set_cons_zero, List.set_cons_succ]
        refine wpAnyH_take (i := 17) (oi := { dst := some 140, op := Op.indexAddr 41 (Operand.tmp 138) (Operand.tmp 139), type := 0, pos := "law.go:90", after := #[{ on := 15, ground := Ground.data }, { on := 16, ground := Ground.data }, { on := 2, ground := Ground.guard }], guard := some (2, true) }) (v := undef) rfl (by kernel_rfl) (by kernel_rfl) (by kernel_rfl) (fun _ _ _ h => h) (Or.inr ⟨by rfl, rfl⟩) (by assumption) ?_
        simp only [Act.put, List.setIfInBounds_toArray, List.set_cons_zero, List.set_cons_succ]
        refine wpAnyH_take (i := 18) (oi := { dst := some 141, op := Op.load 25 (Operand.tmp 140), type := 25, pos := "law.go:90", after := #[{ on := 17, ground := Ground.data }, { on := 2, ground := Ground.guard }], guard := some (2, true) }) (v := undef) rfl (by kernel_rfl) (by kernel_rfl) (by kernel_rfl) (fun _ _ _ h => h) (Or.inr ⟨by rfl, rfl⟩) (by assumption) ?_
        simp only [Act.put, List.setIfInBounds_toArray, List.set_cons_zero, List.set_cons_succ]
        refine wpAnyH_take (i := 19) (oi := { dst := some 142, op := Op.move (Operand.tmp 2), type := 28, pos := "law.go:90", after := #[{ on := 2, ground := Ground.guard }], guard := some (2, true) }) (v := undef) rfl (by kernel_rfl) (by kernel_rfl) (by kernel_rfl) (fun _ _ _ h => h) (Or.inr ⟨by rfl, rfl⟩) (by assumption) ?_
        simp only [Act.put, List.setIfInBounds_toArray, List.set_cons_zero, List.set_cons_succ]
        refine wpAnyH_take (i := 20) (oi := { dst := some 143, op := Op.move (Operand.tmp 1), type := 3, pos := "law.go:90", after := #[{ on := 2, ground := Ground.guard }], guard := some (2, true) }) (v := undef) rfl (by kernel_rfl) (by kernel_rfl) (by kernel_rfl) (fun _ _ _ h => h) (Or.inr ⟨by rfl, rfl⟩) (by assumption) ?_
        simp only [Act.put, List.setIfInBounds_toArray, List.set_cons_zero, List.set_cons_succ]
        refine wpAnyH_take (i := 21) (oi := { dst := some 144, op := Op.convert 3 28 (Operand.tmp 143), type := 28, pos := "law.go:90", after := #[{ on := 20, ground := Ground.data }, { on := 2, ground := Ground.guard }], guard := some (2, true) }) (v := undef) rfl (by kernel_rfl) (by kernel_rfl) (by kernel_rfl) (fun _ _ _ h => h) (Or.inr ⟨by rfl, rfl⟩) (by assumption) ?_
        simp only [Act.put, List.setIfInBounds_toArray, List.set_cons_zero, List.set_cons_succ]
        refine wpAnyH_take (i := 22) (oi := { dst := some 145, op := Op.move (Operand.tmp 25), type := 32, pos := "law.go:90", after := #[{ on := 2, ground := Ground.guard }], guard := some (2, true) }) (v := undef) rfl (by kernel_rfl) (by kernel_rfl) (by kernel_rfl) (fun _ _ _ h => h) (Or.inr ⟨by rfl, rfl⟩) (by assumption) ?_
        simp only [Act.put, List.setIfInBounds_toArray, List.set_cons_zero, List.set_cons_succ]
        refine wpAnyH_take (i := 23) (oi := { dst := some 146, op := Op.load 23 (Operand.tmp 21), type := 23, pos := "law.go:90", after := #[{ on := 2, ground := Ground.guard }], guard := some (2, true) }) (v := undef) rfl (by kernel_rfl) (by kernel_rfl) (by kernel_rfl) (fun _ _ _ h => h) (Or.inr ⟨by rfl, rfl⟩) (by assumption) ?_
        simp only [Act.put, List.setIfInBounds_toArray, List.set_cons_zero, List.set_cons_succ]
        refine wpAnyH_take (i := 24) (oi := { dst := some 147, op := Op.call { callee := Callee.value (Operand.func 16), args := #[Operand.tmp 137, Operand.tmp 141, Operand.tmp 142, Operand.tmp 144, Operand.tmp 145, Operand.tmp 146], argTypes := #[33, 25, 28, 28, 32, 23] }, type := 4, pos := "law.go:90", after := #[{ on := 14, ground := Ground.data }, { on := 18, ground := Ground.data }, { on := 19, ground := Ground.data }, { on := 21, ground := Ground.data }, { on := 22, ground := Ground.data }, { on := 23, ground := Ground.data }, { on := 13, ground := Ground.chain }, { on := 2, ground := Ground.guard }], guard := some (2, true) }) (v := undef) rfl (by kernel_rfl) (by kernel_rfl) (by kernel_rfl) (fun _ _ _ h => h) (Or.inr ⟨by rfl, rfl⟩) (by assumption) ?_
        simp only [Act.put, List.setIfInBounds_toArray, List.set_cons_zero, List.set_cons_succ]
        refine wpAnyH_take (i := 25) (oi := { dst := some 148, op := Op.binOp BinOp.neq 4 (Operand.tmp 136) (Operand.tmp 147) 4, type := 4, pos := "law.go:90", after := #[{ on := 13, ground := Ground.data }, { on := 24, ground := Ground.data }, { on := 2, ground := Ground.guard }], guard := some (2, true) }) (v := undef) rfl (by kernel_rfl) (by kernel_rfl) (by kernel_rfl) (fun _ _ _ h => h) (Or.inr ⟨by rfl, rfl⟩) (by assumption) ?_
        simp only [Act.put, List.setIfInBounds_toArray, List.set_cons_zero, List.set_cons_succ]
        refine wpAnyH_take (i := 26) (oi := { dst := some 149, op := Op.pick (Operand.tmp 125) (Operand.tmp 148) (Operand.const (Value.bool false)), type := 4, pos := "law.go:90", after := #[{ on := 2, ground := Ground.data }, { on := 25, ground := Ground.data }], guard := none }) (v := ?_) rfl (by kernel_rfl) (by kernel_rfl) (by kernel_rfl) (fun _ _ _ h => h) (Or.inl ⟨by rfl, ?_⟩) (by assumption) ?_
        rotate_left
        · intro w hSw
          clear hSw
          go_simp
          all_goals with_reducible rfl
        simp only [Act.put, List.setIfInBounds_toArray, List.set_cons_zero, List.set_cons_succ]
        refine wpAnyH_done (by kernel_rfl) ?_ _
        refine NoPanic.normal ?_
        clear hHeld
        obtain ⟨Zf, hZf⟩ : ∃ Z, Z = Z0 := ⟨_, rfl⟩
        rw [← hZf] at CZ0 ⊢
        clear hZf
        have BZf : Hid (Below wc.heap.size wc Zf) := (CZ0.out.below _ (Nat.le_refl _) (fun _ _ e => e))
        have FZf := hide (BC.out.trans (CZ0.out.below w.heap.size BC.out.size (fun k hk e => e)))
        clear CZ0
        have K1 : Hid (Zf.heap[g21]? = some (.cells (S.v8 rt') 23 (0, 0))) := (BZf.out.block _ (block_lt_of_row C1.out)).trans C1.out
        have K2 : Hid (Zf.heap[g22]? = some (.cells (S.v8 D2) 23 (0, 0))) := (BZf.out.block _ (block_lt_of_row C2.out)).trans C2.out
        have K3 : Hid (Zf.heap[gl]? = some (.cells #[.slice po pm pc, .slice qo qm qc] 32 (0, 0))) := (BZf.out.block _ (block_lt_of_row C3.out)).trans C3.out
        have K4 := hide (C4.out.trans (BZf.out.mono C4.out.size))
        have DK := hide (DS.out.1.below BZf.out)
        have HCK := hide (HC.out.below BZf.out (Nat.le_refl _))
        clear C1 C2 C3 C4 HC XC cX BC
        go_upto_region 28 with fail
        refine wp_region_noPanic ?_
        refine wp_region_held_drew (S := (fun W => Chg (fun _ => False) Zf W)) follows ((Chg.refl _ _).drew) (fun hHeld => ?_)
        clear hHeld
        have hHeld : Chg (fun _ => False) Zf Zf.drew := (Chg.refl _ _).drew
        have CZ0 := hide hHeld
        generalize Zf.drew = Z0 at CZ0 hHeld ⊢
        refine wpAnyH_take (i := 0) (oi := { dst := some 150, op := Op.move (Operand.tmp 23), type := 3, pos := "law.go:93", after := #[], guard := none }) (v := ?_) rfl (by kernel_rfl) (by kernel_rfl) (by kernel_rfl) (fun _ _ _ h => h) (Or.inl ⟨by rfl, ?_⟩) (by assumption) ?_
        rotate_left
        · intro w hSw
          clear hSw
          go_simp
          all_goals with_reducible rfl
        simp only [Act.put, List.setIfInBounds_toArray, List.set_cons_zero, List.set_cons_succ]
        refine wpAnyH_take (i := 1) (oi := { dst := some 151, op := Op.binOp BinOp.eql 3 (Operand.tmp 150) (Operand.const (Value.int IntKind.i64 1)) 3, type := 4, pos := "law.go:93", after := #[{ on := 0, ground := Ground.data }], guard := none }) (v := ?_) rfl (by kernel_rfl) (by kernel_rfl) (by kernel_rfl) (fun _ _ _ h => h) (Or.inl ⟨by rfl, ?_⟩) (by assumption) ?_
        rotate_left
        · intro w hSw
          clear hSw
          go_simp
          all_goals with_reducible rfl
        simp only [Act.put, List.setIfInBounds_toArray, List.set_cons_zero, List.set_cons_succ]
        refine wpAnyH_take (i := 2) (oi := { dst := some 152, op := Op.move (Operand.tmp 151), type := 4, pos := "law.go:93", after := #[{ on := 1, ground := Ground.data }], guard := none }) (v := ?_) rfl (by kernel_rfl) (by kernel_rfl) (by kernel_rfl) (fun _ _ _ h => h) (Or.inl ⟨by rfl, ?_⟩) (by assumption) ?_
        rotate_left
        · intro w hSw
          clear hSw
          go_simp
          all_goals with_reducible rfl
        simp only [Act.put, List.setIfInBounds_toArray, List.set_cons_zero, List.set_cons_succ]
        refine wpAnyH_take (i := 3) (oi := { dst := some 153, op := Op.move (Operand.tmp 0), type := 3, pos := "law.go:93", after := #[{ on := 2, ground := Ground.guard }], guard := some (2, true) }) (v := ?_) rfl (by kernel_rfl) (by kernel_rfl) (by kernel_rfl) (fun _ _ _ h => h) (Or.inl ⟨by rfl, ?_⟩) (by assumption) ?_
        rotate_left
        · intro w hSw
          clear hSw
          go_simp
          all_goals with_reducible rfl
        simp only [Act.put, List.setIfInBounds_toArray, List.set_cons_zero, List.set_cons_succ]
        refine wpAnyH_take (i := 4) (oi := { dst := some 154, op := Op.move (Operand.tmp 3), type := 28, pos := "law.go:93", after := #[{ on := 2, ground := Ground.guard }], guard := some (2, true) }) (v := ?_) rfl (by kernel_rfl) (by kernel_rfl) (by kernel_rfl) (fun _ _ _ h => h) (Or.inl ⟨by rfl, ?_⟩) (by assumption) ?_
        rotate_left
        · intro w hSw
          clear hSw
          go_simp
          all_goals with_reducible rfl
        simp only [Act.put, List.setIfInBounds_toArray, List.set_cons_zero, List.set_cons_succ]
        refine wpAnyH_take (i := 5) (oi := { dst := some 155, op := Op.move (Operand.tmp 1), type := 3, pos := "law.go:93", after := #[{ on := 2, ground := Ground.guard }], guard := some (2, true) }) (v := ?_) rfl (by kernel_rfl) (by kernel_rfl) (by kernel_rfl) (fun _ _ _ h => h) (Or.inl ⟨by rfl, ?_⟩) (by assumption) ?_
        rotate_left
        · intro w hSw
          clear hSw
          go_simp
          all_goals with_reducible rfl
        simp only [Act.put, List.setIfInBounds_toArray, List.set_cons_zero, List.set_cons_succ]
        refine wpAnyH_take (i := 6) (oi := { dst := some 156, op := Op.convert 3 28 (Operand.tmp 155), type := 28, pos := "law.go:93", after := #[{ on := 5, ground := Ground.data }, { on := 2, ground := Ground.guard }], guard := some (2, true) }) (v := ?_) rfl (by kernel_rfl) (by kernel_rfl) (by kernel_rfl) (fun _ _ _ h => h) (Or.inl ⟨by rfl, ?_⟩) (by assumption) ?_
        rotate_left
        · intro w hSw
          clear hSw
          go_simp
          all_goals with_reducible rfl
        simp only [Act.put, List.setIfInBounds_toArray, List.set_cons_zero, List.set_cons_succ]
        refine wpAnyH_take (i := 7) (oi := { dst := some 157, op := Op.load 23 (Operand.tmp 22), type := 23, pos := "law.go:93", after := #[{ on := 2, ground := Ground.guard }], guard := some (2, true) }) (v := .agg (S.v8l D2).toArray) rfl (by kernel_rfl) (by kernel_rfl) (by kernel_rfl) (fun _ _ _ h => h) (yieldsIf_load_mid (by rfl) _ _ rfl g22 0 rfl (S.v8l D2) _ (fun _ hSw => rangeAt_row (hSw.row K2.out (fun e => e))) Tryd.underlying23 rfl hso) (by assumption) ?_
        simp only [Act.put, List.setIfInBounds_toArray, List.set_cons_zero, List.set_cons_succ]
        refine wpAnyH_take (i := 8) (oi := { dst := some 158, op := Op.load 23 (Operand.tmp 21), type := 23, pos := "law.go:93", after := #[{ on := 2, ground := Ground.guard }], guard := some (2, true) }) (v := .agg (S.v8l rt').toArray) rfl (by kernel_rfl) (by kernel_rfl) (by kernel_rfl) (fun _ _ _ h => h) (yieldsIf_load_mid (by rfl) _ _ rfl g21 0 rfl (S.v8l rt') _ (fun _ hSw => rangeAt_row (hSw.row K1.out (fun e => e))) Tryd.underlying23 rfl hsr) (by assumption) ?_
        simp only [Act.put, List.setIfInBounds_toArray, List.set_cons_zero, List.set_cons_succ]
        refine wpAnyH_take (i := 9) (oi := { dst := some 159, op := Op.move (Operand.tmp 25), type := 32, pos := "law.go:93", after := #[{ on := 2, ground := Ground.guard }], guard := some (2, true) }) (v := ?_) rfl (by kernel_rfl) (by kernel_rfl) (by kernel_rfl) (fun _ _ _ h => h) (Or.inl ⟨by rfl, ?_⟩) (by assumption) ?_
        rotate_left
        · intro w hSw
          clear hSw
          go_simp
          all_goals with_reducible rfl
        simp only [Act.put, List.setIfInBounds_toArray, List.set_cons_zero, List.set_cons_succ]
        refine wpAnyH_take (i := 11) (oi := { dst := some 161, op := Op.move (Operand.tmp 16), type := 33, pos := "law.go:93", after := #[{ on := 2, ground := Ground.guard }], guard := some (2, true) }) (v := ?_) rfl (by kernel_rfl) (by kernel_rfl) (by kernel_rfl) (fun _ _ _ h => h) (Or.inl ⟨by rfl, ?_⟩) (by assumption) ?_
        rotate_left
        · intro w hSw
          clear hSw
          go_simp
          all_goals with_reducible rfl
        simp only [Act.put, List.setIfInBounds_toArray, List.set_cons_zero, List.set_cons_succ]
        refine wpAnyH_take (i := 12) (oi := { dst := some 162, op := Op.move (Operand.tmp 3), type := 28, pos := "law.go:93", after := #[{ on := 2, ground := Ground.guard }], guard := some (2, true) }) (v := ?_) rfl (by kernel_rfl) (by kernel_rfl) (by kernel_rfl) (fun _ _ _ h => h) (Or.inl ⟨by rfl, ?_⟩) (by assumption) ?_
        rotate_left
        · intro w hSw
          clear hSw
          go_simp
          all_goals with_reducible rfl
        simp only [Act.put, List.setIfInBounds_toArray, List.set_cons_zero, List.set_cons_succ]
        refine wpAnyH_take (i := 13) (oi := { dst := some 163, op := Op.move (Operand.tmp 1), type := 3, pos := "law.go:93", after := #[{ on := 2, ground := Ground.guard }], guard := some (2, true) }) (v := ?_) rfl (by kernel_rfl) (by kernel_rfl) (by kernel_rfl) (fun _ _ _ h => h) (Or.inl ⟨by rfl, ?_⟩) (by assumption) ?_
        rotate_left
        · intro w hSw
          clear hSw
          go_simp
          all_goals with_reducible rfl
        simp only [Act.put, List.setIfInBounds_toArray, List.set_cons_zero, List.set_cons_succ]
        refine wpAnyH_take (i := 14) (oi := { dst := some 164, op := Op.convert 3 28 (Operand.tmp 163), type := 28, pos := "law.go:93", after := #[{ on := 13, ground := Ground.data }, { on := 2, ground := Ground.guard }], guard := some (2, true) }) (v := ?_) rfl (by kernel_rfl) (by kernel_rfl) (by kernel_rfl) (fun _ _ _ h => h) (Or.inl ⟨by rfl, ?_⟩) (by assumption) ?_
        rotate_left
        · intro w hSw
          clear hSw
          go_simp
          all_goals with_reducible rfl
        simp only [Act.put, List.setIfInBounds_toArray, List.set_cons_zero, List.set_cons_succ]
        refine wpAnyH_take (i := 15) (oi := { dst := some 165, op := Op.load 23 (Operand.tmp 22), type := 23, pos := "law.go:93", after := #[{ on := 2, ground := Ground.guard }], guard := some (2, true) }) (v := .agg (S.v8l D2).toArray) rfl (by kernel_rfl) (by kernel_rfl) (by kernel_rfl) (fun _ _ _ h => h) (yieldsIf_load_mid (by rfl) _ _ rfl g22 0 rfl (S.v8l D2) _ (fun _ hSw => rangeAt_row (hSw.row K2.out (fun e => e))) Tryd.underlying23 rfl hso) (by assumption) ?_
        simp only [Act.put, List.setIfInBounds_toArray, List.set_cons_zero, List.set_cons_succ]
        refine wpAnyH_take (i := 16) (oi := { dst := some 166, op := Op.load 23 (Operand.tmp 21), type := 23, pos := "law.go:93", after := #[{ on := 2, ground := Ground.guard }], guard := some (2, true) }) (v := .agg (S.v8l rt').toArray) rfl (by kernel_rfl) (by kernel_rfl) (by kernel_rfl) (fun _ _ _ h => h) (yieldsIf_load_mid (by rfl) _ _ rfl g21 0 rfl (S.v8l rt') _ (fun _ hSw => rangeAt_row (hSw.row K1.out (fun e => e))) Tryd.underlying23 rfl hsr) (by assumption) ?_
        simp only [Act.put, List.setIfInBounds_toArray, List.set_cons_zero, List.set_cons_succ]
        refine wpAnyH_take (i := 17) (oi := { dst := some 167, op := Op.move (Operand.tmp 25), type := 32, pos := "law.go:93", after := #[{ on := 2, ground := Ground.guard }], guard := some (2, true) }) (v := ?_) rfl (by kernel_rfl) (by kernel_rfl) (by kernel_rfl) (fun _ _ _ h => h) (Or.inl ⟨by rfl, ?_⟩) (by assumption) ?_
        rotate_left
        · intro w hSw
          clear hSw
          go_simp
          all_goals with_reducible rfl
        simp only [Act.put, List.setIfInBounds_toArray, List.set_cons_zero, List.set_cons_succ]
        refine wpAnyH_ready (rs := [10]) (by kernel_rfl) (by simp) ?_
        refine AllReadyH.cons (o := { dst := some 160, op := Op.call { callee := Callee.value (Operand.func 12), args := #[Operand.tmp 153, Operand.tmp 154, Operand.tmp 156, Operand.tmp 157, Operand.tmp 158, Operand.tmp 159], argTypes := #[3, 28, 28, 23, 23, 32] }, type := 4, pos := "law.go:93", after := #[{ on := 3, ground := Ground.data }, { on := 4, ground := Ground.data }, { on := 6, ground := Ground.data }, { on := 7, ground := Ground.data }, { on := 8, ground := Ground.data }, { on := 9, ground := Ground.data }, { on := 2, ground := Ground.chain }, { on := 2, ground := Ground.guard }], guard := some (2, true) }) rfl (fun K hK => ?_) AllReadyH.nil
        go_simp
        refine (prefix_any a _ f n D2 rt' LD2.out LRT'.out ds Z0 (by have := HQ.out; omega) (by omega) (DK.out.below (CZ0.out.below _ (Nat.le_refl _) (fun _ _ e => e))) HCS.out (HK.out.below (FZf.out.trans (CZ0.out.below w.heap.size FZf.out.size (fun k hk e => e))) h0)).mono ?_
        rintro e Z1 ⟨rfl, hb2⟩
        rw [← HQ2.out]
        have CZ1 : Hid (Chg (fun _ => False) Zf Z1) := CZ0.out.then hb2
        clear hb2 CZ0
        clear hHeld
        refine hK.out _ _ CZ1.out (fun hHeld => ?_)
        clear hK K
        try simp only [Act.put, List.setIfInBounds_toArray, List.set_cons_zero, List.set_cons_succ]
        refine wpAnyH_ready (rs := [18]) (by kernel_rfl) (by simp) ?_
        refine AllReadyH.cons (o := { dst := some 168, op := Op.call { callee := Callee.value (Operand.func 17), args := #[Operand.tmp 161, Operand.tmp 162, Operand.tmp 164, Operand.tmp 165, Operand.tmp 166, Operand.tmp 167], argTypes := #[33, 28, 28, 23, 23, 32] }, type := 4, pos := "law.go:93", after := #[{ on := 11, ground := Ground.data }, { on := 12, ground := Ground.data }, { on := 14, ground := Ground.data }, { on := 15, ground := Ground.data }, { on := 16, ground := Ground.data }, { on := 17, ground := Ground.data }, { on := 10, ground := Ground.chain }, { on := 2, ground := Ground.guard }], guard := some (2, true) }) rfl (fun K hK => ?_) AllReadyH.nil
        go_simp
        refine (rprefix_any gh gT a _ f n D2 rt' LD2.out LRT'.out ds Z1 (by have := HQ.out; omega) (by omega) (HCK.out.below (CZ1.out.below _ (Nat.le_refl _) (fun _ _ e => e)) (Nat.le_refl _)) (DK.out.below (CZ1.out.below _ (Nat.le_refl _) (fun _ _ e => e))) (by have := DS.out.2.2; omega)).mono ?_
        rintro e Z2 ⟨rfl, hb2⟩
        rw [← HQ2.out]
        have CZ2 : Hid (Chg (fun _ => False) Zf Z2) := CZ1.out.then hb2
        clear hb2 CZ1
        clear hHeld
        refine hK.out _ _ CZ2.out (fun hHeld => ?_)
        clear hK K
        try simp only [Act.put, List.setIfInBounds_toArray, List.set_cons_zero, List.set_cons_succ]
        refine wpAnyH_take (i := 19) (oi := { dst := some 169, op := Op.binOp BinOp.neq 4 (Operand.tmp 160) (Operand.tmp 168) 4, type := 4, pos := "law.go:93", after := #[{ on := 10, ground := Ground.data }, { on := 18, ground := Ground.data }, { on := 2, ground := Ground.guard }], guard := some (2, true) }) (v := ?_) rfl (by kernel_rfl) (by kernel_rfl) (by kernel_rfl) (fun _ _ _ h => h) (Or.inl ⟨by rfl, ?_⟩) (by assumption) ?_
        rotate_left
        · intro w hSw
          clear hSw
          go_simp
          all_goals with_reducible rfl
        simp only [Act.put, List.setIfInBounds_toArray, List.set_cons_zero, List.set_cons_succ]
        refine wpAnyH_take (i := 20) (oi := { dst := some 170, op := Op.pick (Operand.tmp 152) (Operand.tmp 169) (Operand.const (Value.bool false)), type := 4, pos := "law.go:93", after := #[{ on := 2, ground := Ground.data }, { on := 19, ground := Ground.data }], guard := none }) (v := ?_) rfl (by kernel_rfl) (by kernel_rfl) (by kernel_rfl) (fun _ _ _ h => h) (Or.inl ⟨by rfl, ?_⟩) (by assumption) ?_
        rotate_left
        · intro w hSw
          clear hSw
          go_simp
          all_goals with_reducible rfl
        simp only [Act.put, List.setIfInBounds_toArray, List.set_cons_zero, List.set_cons_succ]
        refine wpAnyH_done (by kernel_rfl) ?_ _
        refine NoPanic.normal ?_
        clear hHeld
        obtain ⟨Zg, hZg⟩ : ∃ Z, Z = Z2 := ⟨_, rfl⟩
        rw [← hZg] at CZ2 ⊢
        clear hZg
        have BZg : Hid (Below Zf.heap.size Zf Zg) := (CZ2.out.below _ (Nat.le_refl _) (fun _ _ e => e))
        have FZg := hide (FZf.out.trans (CZ2.out.below w.heap.size FZf.out.size (fun k hk e => e)))
        clear CZ2
        go_wp2_with fail
        go_roundg gO
        case measure => omega
        case rel => exact ⟨1 + 1, by have := HKK.out; omega, by first | rfl | simp, rt', LRT', hide ((BZg.out.block _ (block_lt_of_row K1.out)).trans K1.out), hide ((BZg.out.block _ (block_lt_of_row K2.out)).trans K2.out), hide ((BZg.out.block _ (block_lt_of_row K3.out)).trans K3.out), hide (K4.out.trans (BZg.out.mono K4.out.size))⟩
end Go.Proofs.YtlbggkmblkhjoaaDoor
