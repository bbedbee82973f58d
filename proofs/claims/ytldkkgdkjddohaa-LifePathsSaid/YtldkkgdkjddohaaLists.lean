/- A slice of slices of the call's own: what it holds, a slice behind it, its first slice let go. -/
import Derived.Test.YtldkkgdkjddohaaSame
namespace Go.Proofs.Ytldkkgdkjddohaa
open Go.RowKit
/-- The value v is a [][]byte of the call's own that holds the values vs. -/
def Lists (w : World) (v : Value) (vs : List Value) : Prop :=
  (v = .slice none 0 0 ∧ vs = []) ∨
  ∃ g off c cur, v = .slice (some ⟨g, off, none⟩) vs.length c ∧ w.heap[g]? = some (.cells cur 22 (0, 0)) ∧ off + c ≤ cur.size ∧ vs.length ≤ c ∧ ∀ j x, vs[j]? = some x → cur[off + j]? = some x
theorem Lists.shape {w : World} {v : Value} {vs : List Value} (h : Lists w v vs) : ∃ ao c, v = .slice ao vs.length c := by
  rcases h with ⟨rfl, rfl⟩ | ⟨g, off, c, cur, rfl, _⟩
  · exact ⟨_, _, rfl⟩
  · exact ⟨_, _, rfl⟩
theorem Lists.lt {w : World} {v : Value} {vs : List Value} (h : Lists w v vs) {k : Nat} (hk : v.ownBlock = some k) : k < w.heap.size := by
  rcases h with ⟨rfl, rfl⟩ | ⟨g, off, c, cur, rfl, h1, _⟩
  · simp [Value.ownBlock] at hk
  · simp [Value.ownBlock] at hk
    subst hk
    exact block_lt_of_row h1
theorem Lists.kept {w w' : World} {v : Value} {vs : List Value} (h : Lists w v vs) (hb : ∀ k, v.ownBlock = some k → w'.heap[k]? = w.heap[k]?) : Lists w' v vs := by
  rcases h with h | ⟨g, off, c, cur, rfl, h1, h2⟩
  · exact Or.inl h
  · exact Or.inr ⟨g, off, c, cur, rfl, (hb g rfl).trans h1, h2⟩
theorem Lists.at {w : World} {v : Value} {vs : List Value} (h : Lists w v vs) (k : Nat) (hk : k < vs.length) :
    ∃ g off c, v = .slice (some ⟨g, off, none⟩) vs.length c ∧ vs.length ≤ c ∧ w.cell? ⟨g, off + k, none⟩ = some (vs.getD k default) := by
  rcases h with ⟨_, rfl⟩ | ⟨g, off, c, cur, rfl, h1, h2, h3, h4⟩
  · simp at hk
  · refine ⟨g, off, c, rfl, h3, ?_⟩
    rw [cell_of_row w g (off + k) cur 22 (0, 0) h1]
    exact h4 k _ (by rw [List.getElem?_eq_getElem hk, List.getD_eq_getElem?_getD, List.getElem?_eq_getElem hk]; rfl)
/-- lists[1:]. -/
theorem Lists.tail {w : World} {g off c : Nat} {x : Value} {vs : List Value} (h : Lists w (.slice (some ⟨g, off, none⟩) (vs.length + 1) c) (x :: vs)) :
    Lists w (.slice (if c = 1 then some ⟨g, off, none⟩ else some ⟨g, off + 1, none⟩) vs.length (c - 1)) vs := by
  rcases h with ⟨h, _⟩ | ⟨g', off', c', cur, h, h1, h2, h3, h4⟩
  · simp at h
  · simp only [Value.slice.injEq, Option.some.injEq, Addr.mk.injEq, and_true, List.length_cons, true_and] at h
    obtain ⟨⟨rfl, rfl⟩, rfl⟩ := h
    simp only [List.length_cons] at h3
    by_cases hc : c = 1
    · subst hc
      obtain rfl : vs = [] := List.eq_nil_of_length_eq_zero (by omega)
      exact Or.inr ⟨g, off, 0, cur, by simp, h1, by omega, by simp, by simp⟩
    · rw [if_neg hc]
      refine Or.inr ⟨g, off + 1, c - 1, cur, rfl, h1, by omega, by omega, fun j y hy => ?_⟩
      have := h4 (j + 1) y (by simpa using hy)
      rw [← this]
      congr 1
      omega
theorem infoS : (Try.prog.info? 22).map (fun i => (i.zero, i.size, i.bytes)) = some (some (.slice none 0 0), 1, 24) := by kernel_rfl
/-- append of one slice: in its room, or in a new block. -/
theorem run_append_list (w : World) (v x : Value) (gx : Nat) (vs : List Value) (ty : TypeId) (h : Lists w v vs) (hx : w.heap[gx]? = some (.cells #[x] 22 (0, 0))) (hx1 : x.oneCell' = true) (hlen : vs.length ≤ 1000000) :
    ∃ v' w', (Builtin.append_ #[29, 29] ty #[v, .slice (some ⟨gx, 0, none⟩) 1 1]).run Try.prog w = .ok v' w' ∧ (Lists w' v' (vs ++ [x]) ∧ w.grownBy w' v.ownBlock ∧ (v'.ownBlock = v.ownBlock ∨ v'.ownBlock = some w.heap.size)) := by
  obtain ⟨i, hi, hz0, hz1, hz2⟩ := info_parts infoS
  have hnews : ∀ j u, [x][j]? = some u → w.cell? ((⟨gx, 0, none⟩ : Addr).add j) = some u := by
    intro j u hu
    rw [Addr.add_lit, Nat.zero_add, cell_of_row w gx j _ 22 (0, 0) hx]
    simpa using hu
  have hone : ∀ u ∈ [x], u.oneCell' = true := by intro u hu; rw [List.mem_singleton.1 hu]; exact hx1
  rcases h with ⟨rfl, rfl⟩ | ⟨g, off, c, cur, rfl, h1, h2, h3, h4⟩
  · have hr := run_append_nil (P := Try.prog) w 29 ty 22 i (.slice none 0 0) Try.underlying29 hi hz0 ⟨gx, 0, none⟩ 1 1 [x] (by rw [hz1]; rfl) hnews (by omega) (by omega) (by rw [hz2]; omega)
    refine ⟨_, _, hr, Or.inr ⟨w.heap.size, 0, _, _, rfl, heap_alloc_new w.drew _, ?_, ?_, ?_⟩, ⟨rfl, rfl, rfl, by simp, fun k hk _ => heap_alloc_old w.drew _ hk⟩, Or.inr rfl⟩
    · have hge := grownCap_ge w 1 0 22
      simp only [Array.size_append, List.size_toArray, size_zeroCells, List.length_singleton]
      have : (Value.slice none 0 0).cells.size = 1 := rfl
      rw [this]
      omega
    · exact grownCap_ge w 1 0 22
    · intro j y hy
      rw [Nat.zero_add, Array.getElem?_append_left (by have := (List.getElem?_eq_some_iff.1 hy).1; simpa using this)]
      simpa using hy
  · by_cases hroom : vs.length + 1 ≤ c
    · have hf := run_firstCells_some (P := Try.prog) w i.size 1 ⟨gx, 0, none⟩ 1 1 [x] (by rw [hz1]; rfl) hnews
      have hst := run_storeCells_at Try.prog g (off + vs.length) 22 [x] 0 cur w h1 (by simp; omega) hone
      simp only [Nat.add_zero] at hst
      rw [hz1] at hf
      have hr : (Builtin.append_ #[29, 29] ty #[.slice (some ⟨g, off, none⟩) vs.length c, .slice (some ⟨gx, 0, none⟩) 1 1]).run Try.prog w = .ok (.slice (some ⟨g, off, none⟩) (vs.length + 1) c) (w.setRow g (cur.toList.take (off + vs.length) ++ [x] ++ cur.toList.drop (off + vs.length + 1)).toArray) := by
        simp [Builtin.append_, run_underlying Try.underlying29, sizeOf, typeInfo, hi, hz1, Builtin.lenOf, hroom, hf, Addr.add_lit]
        have hst' := hst
        simp only [List.length_singleton, List.append_assoc, List.cons_append, List.nil_append] at hst'
        rw [hst']
        rfl
      refine ⟨_, _, hr, Or.inr ⟨g, off, c, _, by rw [List.length_append, List.length_singleton], setRow_heap w g cur _ 22 _ h1, ?_, by rw [List.length_append]; exact hroom, ?_⟩, ⟨rfl, rfl, rfl, by simp, fun k _ hk => setRow_other w g k _ (fun e => hk (by simp [Value.ownBlock, e]))⟩, Or.inl rfl⟩
      · simp only [List.size_toArray, List.length_append, List.length_take, List.length_drop, Array.length_toList, List.length_singleton]
        omega
      · intro j y hy
        have hlt : (cur.toList.take (off + vs.length)).length = off + vs.length := by rw [List.length_take]; have : cur.toList.length = cur.size := Array.length_toList; omega
        rw [List.getElem?_toArray, List.append_assoc]
        by_cases hj : j < vs.length
        · rw [List.getElem?_append_left (by rw [hlt]; omega), List.getElem?_take, if_pos (by omega)]
          rw [List.getElem?_append_left hj] at hy
          simpa using h4 j y hy
        · rw [List.getElem?_append_right (by omega)] at hy
          rw [List.getElem?_append_right (by rw [hlt]; omega), hlt]
          have hj0 : j - vs.length = 0 := by have := (List.getElem?_eq_some_iff.1 hy).1; simpa using this
          have hj1 : off + j - (off + vs.length) = 0 := by omega
          rw [hj0] at hy
          rw [hj1]
          simpa using hy
    · have holds : ∀ j u, vs[j]? = some u → w.cell? ((⟨g, off, none⟩ : Addr).add j) = some u := by
        intro j u hu
        rw [Addr.add_lit, cell_of_row w g (off + j) _ 22 (0, 0) h1]
        exact h4 j u hu
      have hr := run_append_grow (P := Try.prog) w 29 ty 22 i (.slice none 0 0) Try.underlying29 hi hz0 ⟨g, off, none⟩ vs.length c vs (by rw [hz1]; omega) holds ⟨gx, 0, none⟩ 1 1 [x] (by rw [hz1]; rfl) hnews (by omega) (by omega) (growslice_fits (by omega) (by rw [hz2]; omega))
      have hge := grownCap_ge w (vs.length + 1) c 22
      refine ⟨_, _, hr, Or.inr ⟨w.heap.size, 0, _, _, by rw [List.length_append, List.length_singleton], heap_alloc_new w.drew _, ?_, by rw [List.length_append]; exact hge, ?_⟩, ⟨rfl, rfl, rfl, by simp, fun k hk _ => heap_alloc_old w.drew _ hk⟩, Or.inr rfl⟩
      · simp only [Array.size_append, List.size_toArray, size_zeroCells, List.length_singleton]
        have : (Value.slice none 0 0).cells.size = 1 := rfl
        rw [this]
        omega
      · intro j y hy
        have hj := (List.getElem?_eq_some_iff.1 hy).1
        rw [Nat.zero_add, Array.getElem?_append_left (by simpa using hj)]
        simpa using hy
end Go.Proofs.Ytldkkgdkjddohaa
