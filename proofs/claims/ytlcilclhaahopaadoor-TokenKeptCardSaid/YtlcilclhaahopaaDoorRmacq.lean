/- The plain side of the document's own tag: a hash behind one whole block; lists that are built byte by byte. -/
import Derived.Test.YtlcilclhaahopaaDoorMac
import Derived.Test.YtlcilclhaahopaaDoorPush
import Derived.Test.YtlcilclhaahopaaDoorLongs
namespace Go.Proofs.YtlcilclhaahopaaDoor
open Go.RowKit
theorem S.sum_behind (blk bs : List UInt8) (h : blk.length = 64) : S.sum (blk ++ bs) = S.fin (S.comp S.H0 blk) 64 bs := by
  have hq : (blk ++ bs).length / 64 = 1 + bs.length / 64 := by rw [List.length_append, h]; omega
  have hd : ∀ m, (blk ++ bs).drop (64 * (1 + m)) = bs.drop (64 * m) := by
    intro m
    rw [show 64 * (1 + m) = blk.length + 64 * m by omega, List.drop_append]
    simp
  rw [S.sum, S.fin, S.fin, hq, hd]
  have hb : S.blocks S.H0 (blk ++ bs) (1 + bs.length / 64) = S.blocks (S.comp S.H0 blk) bs (bs.length / 64) := by
    rw [S.blocks_add]
    have h1 : S.blocks S.H0 (blk ++ bs) 1 = S.comp S.H0 blk := by
      show S.comp S.H0 ((blk ++ bs).drop (64 * 0)) = _
      refine S.comp_congr _ (fun j hj => ?_)
      rw [Nat.mul_zero, List.drop_zero, List.getD_eq_getElem?_getD, List.getD_eq_getElem?_getD, List.getElem?_append_left (by omega)]
    rw [h1]
    have := hd 0
    rw [Nat.add_zero, Nat.mul_zero, List.drop_zero] at this
    rw [this]
  rw [hb, List.length_append, h, Nat.zero_add]
/-- The value v is a []byte of the call's own that holds the values vs. -/
def Bytl (w : World) (v : Value) (vs : List Value) : Prop :=
  (v = .slice none 0 0 ∧ vs = []) ∨
  ∃ g off c cur, v = .slice (some ⟨g, off, none⟩) vs.length c ∧ w.heap[g]? = some (.cells cur 5 (0, 0)) ∧ off + c ≤ cur.size ∧ vs.length ≤ c ∧ ∀ j x, vs[j]? = some x → cur[off + j]? = some x
theorem Bytl.shape {w : World} {v : Value} {vs : List Value} (h : Bytl w v vs) : ∃ ao c, v = .slice ao vs.length c := by
  rcases h with ⟨rfl, rfl⟩ | ⟨g, off, c, cur, rfl, _⟩
  · exact ⟨_, _, rfl⟩
  · exact ⟨_, _, rfl⟩
theorem Bytl.lt {w : World} {v : Value} {vs : List Value} (h : Bytl w v vs) {k : Nat} (hk : v.ownBlock = some k) : k < w.heap.size := by
  rcases h with ⟨rfl, rfl⟩ | ⟨g, off, c, cur, rfl, h1, _⟩
  · simp [Value.ownBlock] at hk
  · simp [Value.ownBlock] at hk
    subst hk
    exact block_lt_of_row h1
theorem Bytl.kept {w w' : World} {v : Value} {vs : List Value} (h : Bytl w v vs) (hb : ∀ k, v.ownBlock = some k → w'.heap[k]? = w.heap[k]?) : Bytl w' v vs := by
  rcases h with h | ⟨g, off, c, cur, rfl, h1, h2⟩
  · exact Or.inl h
  · exact Or.inr ⟨g, off, c, cur, rfl, (hb g rfl).trans h1, h2⟩
theorem Bytl.at {w : World} {v : Value} {vs : List Value} (h : Bytl w v vs) (k : Nat) (hk : k < vs.length) :
    ∃ g off c, v = .slice (some ⟨g, off, none⟩) vs.length c ∧ vs.length ≤ c ∧ w.cell? ⟨g, off + k, none⟩ = some (vs.getD k default) := by
  rcases h with ⟨_, rfl⟩ | ⟨g, off, c, cur, rfl, h1, h2, h3, h4⟩
  · simp at hk
  · refine ⟨g, off, c, rfl, h3, ?_⟩
    rw [cell_of_row w g (off + k) cur 5 (0, 0) h1]
    exact h4 k _ (by rw [List.getElem?_eq_getElem hk, List.getD_eq_getElem?_getD, List.getElem?_eq_getElem hk]; rfl)
/-- append of one slice: in its room, or in a new block. -/
theorem run_append_byte (w : World) (v x : Value) (gx : Nat) (vs : List Value) (ty : TypeId) (h : Bytl w v vs) (hx : w.heap[gx]? = some (.cells #[x] 5 (0, 0))) (hx1 : x.oneCell' = true) (hlen : vs.length ≤ 1000000) :
    ∃ v' w', (Builtin.append_ #[30, 30] ty #[v, .slice (some ⟨gx, 0, none⟩) 1 1]).run Tryd.prog w = .ok v' w' ∧ (Bytl w' v' (vs ++ [x]) ∧ w.grownBy w' v.ownBlock ∧ (v'.ownBlock = v.ownBlock ∨ v'.ownBlock = some w.heap.size)) := by
  obtain ⟨i, hi, hz0, hz1, hz2⟩ := info_parts info5
  have hnews : ∀ j u, [x][j]? = some u → w.cell? ((⟨gx, 0, none⟩ : Addr).add j) = some u := by
    intro j u hu
    rw [Addr.add_lit, Nat.zero_add, cell_of_row w gx j _ 5 (0, 0) hx]
    simpa using hu
  have hone : ∀ u ∈ [x], u.oneCell' = true := by intro u hu; rw [List.mem_singleton.1 hu]; exact hx1
  rcases h with ⟨rfl, rfl⟩ | ⟨g, off, c, cur, rfl, h1, h2, h3, h4⟩
  · have hr := run_append_nil (P := Tryd.prog) w 30 ty 5 i (.int .u8 0) Tryd.underlying30 hi hz0 ⟨gx, 0, none⟩ 1 1 [x] (by rw [hz1]; rfl) hnews (by omega) (by omega) (by rw [hz2]; omega)
    refine ⟨_, _, hr, Or.inr ⟨w.heap.size, 0, _, _, rfl, heap_alloc_new w.drew _, ?_, ?_, ?_⟩, ⟨rfl, rfl, rfl, by simp, fun k hk _ => heap_alloc_old w.drew _ hk⟩, Or.inr rfl⟩
    · have hge := grownCap_ge w 1 0 5
      simp only [Array.size_append, List.size_toArray, size_zeroCells, List.length_singleton]
      have : (Value.int .u8 0).cells.size = 1 := rfl
      rw [this]
      omega
    · exact grownCap_ge w 1 0 5
    · intro j y hy
      rw [Nat.zero_add, Array.getElem?_append_left (by have := (List.getElem?_eq_some_iff.1 hy).1; simpa using this)]
      simpa using hy
  · by_cases hroom : vs.length + 1 ≤ c
    · have hf := run_firstCells_some (P := Tryd.prog) w i.size 1 ⟨gx, 0, none⟩ 1 1 [x] (by rw [hz1]; rfl) hnews
      have hst := run_storeCells_at Tryd.prog g (off + vs.length) 5 [x] 0 cur w h1 (by simp; omega) hone
      simp only [Nat.add_zero] at hst
      rw [hz1] at hf
      have hr : (Builtin.append_ #[30, 30] ty #[.slice (some ⟨g, off, none⟩) vs.length c, .slice (some ⟨gx, 0, none⟩) 1 1]).run Tryd.prog w = .ok (.slice (some ⟨g, off, none⟩) (vs.length + 1) c) (w.setRow g (cur.toList.take (off + vs.length) ++ [x] ++ cur.toList.drop (off + vs.length + 1)).toArray) := by
        simp [Builtin.append_, run_underlying Tryd.underlying30, sizeOf, typeInfo, hi, hz1, Builtin.lenOf, hroom, hf, Addr.add_lit]
        have hst' := hst
        simp only [List.length_singleton, List.append_assoc, List.cons_append, List.nil_append] at hst'
        rw [hst']
        rfl
      refine ⟨_, _, hr, Or.inr ⟨g, off, c, _, by rw [List.length_append, List.length_singleton], setRow_heap w g cur _ 5 _ h1, ?_, by rw [List.length_append]; exact hroom, ?_⟩, ⟨rfl, rfl, rfl, by simp, fun k _ hk => setRow_other w g k _ (fun e => hk (by simp [Value.ownBlock, e]))⟩, Or.inl rfl⟩
      · simp only [List.size_toArray, List.length_append, List.length_take, List.length_drop, Array.length_toList, List.length_singleton]
        omega
      · intro j y hy
        have hlt : (cur.toList.take (off + vs.length)).length = off + vs.length := by rw [List.length_take]; have : cur.toList.length = cur.size := Array.length_toList; omega
        rw [List.getElem?_toArray, List.append_assoc]
        by_cases hj : j < vs.length
        · rw [List.getElem?_append_left (by rw [hlt]; omega), List.getElem?_take, if_pos (by omega)]
          rw [List.getElem?_append_left hj] at hy
          simpa using h4 j y hy
        · rw [List.getElem?_append_right (by omega)] at hy
          rw [List.getElem?_append_right (by rw [hlt]; omega), hlt]
          have hj0 : j - vs.length = 0 := by have := (List.getElem?_eq_some_iff.1 hy).1; simpa using this
          have hj1 : off + j - (off + vs.length) = 0 := by omega
          rw [hj0] at hy
          rw [hj1]
          simpa using hy
    · have holds : ∀ j u, vs[j]? = some u → w.cell? ((⟨g, off, none⟩ : Addr).add j) = some u := by
        intro j u hu
        rw [Addr.add_lit, cell_of_row w g (off + j) _ 5 (0, 0) h1]
        exact h4 j u hu
      have hr := run_append_grow (P := Tryd.prog) w 30 ty 5 i (.int .u8 0) Tryd.underlying30 hi hz0 ⟨g, off, none⟩ vs.length c vs (by rw [hz1]; omega) holds ⟨gx, 0, none⟩ 1 1 [x] (by rw [hz1]; rfl) hnews (by omega) (by omega) (growslice_fits (by omega) (by rw [hz2]; omega))
      have hge := grownCap_ge w (vs.length + 1) c 5
      refine ⟨_, _, hr, Or.inr ⟨w.heap.size, 0, _, _, by rw [List.length_append, List.length_singleton], heap_alloc_new w.drew _, ?_, by rw [List.length_append]; exact hge, ?_⟩, ⟨rfl, rfl, rfl, by simp, fun k hk _ => heap_alloc_old w.drew _ hk⟩, Or.inr rfl⟩
      · simp only [Array.size_append, List.size_toArray, size_zeroCells, List.length_singleton]
        have : (Value.int .u8 0).cells.size = 1 := rfl
        rw [this]
        omega
      · intro j y hy
        have hj := (List.getElem?_eq_some_iff.1 hy).1
        rw [Nat.zero_add, Array.getElem?_append_left (by simpa using hj)]
        simpa using hy
theorem Bytl.sliceAt {w : World} {v : Value} {bs : List UInt8} (h : Bytl w v (S.v8l bs)) (hr : bs.length ≤ 140737488355328) : SliceAt w v bs := by
  rcases h with ⟨rfl, h⟩ | ⟨g, off, c, cur, rfl, h1, h2, h3, h4⟩
  · exact Or.inl ⟨rfl, by simpa [S.v8l] using h⟩
  · rw [S.v8l_length] at h3 ⊢
    refine Or.inr (Or.inr ⟨g, off, c, rfl, h3, hr, block_lt_of_row h1, fun j hj => ?_⟩)
    rw [cell_of_row w g (off + j) cur 5 (0, 0) h1]
    exact h4 j _ (by simp [S.v8l, List.getElem?_map, List.getElem?_eq_getElem hj, List.getD_eq_getElem?_getD])
/-- One byte behind a []byte of the call's own, nil or not: only its own block changes. -/
theorem run_pushB (w : World) (v : Value) (bs : List UInt8) (x : UInt8) (c : Int) (hc : c = (x.toNat : Int)) (ty : TypeId) (h : Bytl w v (S.v8l bs)) (hb : bs.length ≤ 1000000) :
    ∃ v' w', (Builtin.append_ #[30, 30] ty #[v, .slice (some ⟨w.heap.size, 0, none⟩) 1 1]).run Tryd.prog (w.alloc (.cells #[.int .u8 c] 5)) = .ok v' w' ∧ (Bytl w' v' (S.v8l (bs ++ [x])) ∧ w.grownBy w' v.ownBlock ∧ (v'.ownBlock = v.ownBlock ∨ ∃ k, v'.ownBlock = some k ∧ w.heap.size ≤ k)) := by
  have hA : Bytl (w.alloc (.cells #[.int .u8 c] 5)) v (S.v8l bs) := h.kept fun k hk => heap_alloc_old _ _ (h.lt hk)
  obtain ⟨v', w', h1, h2, h3, h4⟩ := run_append_byte (w.alloc (.cells #[.int .u8 c] 5)) v (.int .u8 c) w.heap.size (S.v8l bs) ty hA (heap_alloc_new _ _) rfl (by rw [S.v8l_length]; exact hb)
  refine ⟨v', w', h1, ?_, ⟨h3.os, h3.tape, h3.output, Nat.le_trans (by simp) h3.size, fun k hk hne => (h3.block k (by simp; omega) hne).trans (heap_alloc_old _ _ hk)⟩, ?_⟩
  · rw [v8l_append]
    have e : S.v8l [x] = [.int .u8 c] := by rw [hc]; rfl
    rw [e]
    exact h2
  · rcases h4 with h4 | h4
    · exact Or.inl h4
    · exact Or.inr ⟨_, h4, by simp⟩
end Go.Proofs.YtlcilclhaahopaaDoor
namespace Go.Proofs.YtlcilclhaahopaaDoor
open Go.RowKit
theorem run_append_bytl (w : World) (v : Value) (ad : Addr) (m c' : Nat) (vs news : List Value) (ty : TypeId) (h : Bytl w v vs) (hm : news.length = m) (hnews : ∀ j u, news[j]? = some u → w.cell? (ad.add j) = some u) (hone : ∀ u ∈ news, u.oneCell' = true) (hb : vs.length + m ≤ 1000000) (hp : 0 < vs.length) :
    ∃ v' w', (Builtin.append_ #[30, 30] ty #[v, .slice (some ad) m c']).run Tryd.prog w = .ok v' w' ∧ (Bytl w' v' (vs ++ news) ∧ w.grownBy w' v.ownBlock) := by
  obtain ⟨i, hi, hz0, hz1, hz2⟩ := info_parts info5
  rcases h with ⟨rfl, rfl⟩ | ⟨g, off, c, cur, rfl, h1, h2, h3, h4⟩
  · simp at hp
  · by_cases hroom : vs.length + m ≤ c
    · have hf := run_firstCells_some (P := Tryd.prog) w i.size m ad m c' news (by rw [hz1]; omega) hnews
      have hst := run_storeCells_at Tryd.prog g (off + vs.length) 5 news 0 cur w h1 (by rw [Nat.add_zero]; omega) hone
      simp only [Nat.add_zero] at hst
      rw [hz1] at hf
      have hr : (Builtin.append_ #[30, 30] ty #[.slice (some ⟨g, off, none⟩) vs.length c, .slice (some ad) m c']).run Tryd.prog w = .ok (.slice (some ⟨g, off, none⟩) (vs.length + m) c) (w.setRow g (cur.toList.take (off + vs.length) ++ news ++ cur.toList.drop (off + vs.length + news.length)).toArray) := by
        simp [Builtin.append_, run_underlying Tryd.underlying30, sizeOf, typeInfo, hi, hz1, Builtin.lenOf, hroom, hf, Addr.add_lit]
        rw [List.append_assoc] at hst
        rw [hst]
        rfl
      refine ⟨_, _, hr, Or.inr ⟨g, off, c, _, by rw [List.length_append, hm], setRow_heap w g cur _ 5 _ h1, ?_, by rw [List.length_append, hm]; exact hroom, ?_⟩, ⟨rfl, rfl, rfl, by simp, fun k _ hk => setRow_other w g k _ (fun e => hk (by simp [Value.ownBlock, e]))⟩⟩
      · simp only [List.size_toArray, List.length_append, List.length_take, List.length_drop, Array.length_toList]
        omega
      · intro j y hy
        have hlt : (cur.toList.take (off + vs.length)).length = off + vs.length := by rw [List.length_take]; have : cur.toList.length = cur.size := Array.length_toList; omega
        rw [List.getElem?_toArray, List.append_assoc]
        by_cases hj : j < vs.length
        · rw [List.getElem?_append_left (by rw [hlt]; omega), List.getElem?_take, if_pos (by omega)]
          rw [List.getElem?_append_left hj] at hy
          simpa using h4 j y hy
        · rw [List.getElem?_append_right (by omega)] at hy
          rw [List.getElem?_append_right (by rw [hlt]; omega), hlt, List.getElem?_append_left (by have := (List.getElem?_eq_some_iff.1 hy).1; omega)]
          rw [show off + j - (off + vs.length) = j - vs.length by omega]
          exact hy
    · have holds : ∀ j u, vs[j]? = some u → w.cell? ((⟨g, off, none⟩ : Addr).add j) = some u := by
        intro j u hu
        rw [Addr.add_lit, cell_of_row w g (off + j) _ 5 (0, 0) h1]
        exact h4 j u hu
      have hr := run_append_grow (P := Tryd.prog) w 30 ty 5 i (.int .u8 0) Tryd.underlying30 hi hz0 ⟨g, off, none⟩ vs.length c vs (by rw [hz1]; omega) holds ad m c' news (by rw [hz1]; omega) hnews (by omega) (by omega) (growslice_fits (by omega) (by rw [hz2]; omega))
      have hge := grownCap_ge w (vs.length + m) c 5
      refine ⟨_, _, hr, Or.inr ⟨w.heap.size, 0, _, _, by rw [List.length_append, hm], heap_alloc_new w.drew _, ?_, by rw [List.length_append, hm]; exact hge, ?_⟩, ⟨rfl, rfl, rfl, by simp, fun k hk _ => heap_alloc_old w.drew _ hk⟩⟩
      · simp only [Array.size_append, List.size_toArray, size_zeroCells]
        have : (Value.int .u8 0).cells.size = 1 := rfl
        rw [this]
        omega
      · intro j y hy
        have hj := (List.getElem?_eq_some_iff.1 hy).1
        rw [Nat.zero_add, Array.getElem?_append_left (by simpa using hj)]
        simpa using hy
theorem run_append_text (w : World) (v u : Value) (xs bs : List UInt8) (ty : TypeId) (h : Bytl w v (S.v8l xs)) (hu : SliceAt w u bs) (hb : xs.length + bs.length ≤ 1000000) (hp : 0 < xs.length) :
    ∃ v' w', (Builtin.append_ #[30, 30] ty #[v, u]).run Tryd.prog w = .ok v' w' ∧ (Bytl w' v' (S.v8l (xs ++ bs)) ∧ w.grownBy w' v.ownBlock) := by
  obtain ⟨i, hi, hz0, hz1, hz2⟩ := info_parts info5
  have hp' : 0 < (S.v8l xs).length := by rw [S.v8l_length]; exact hp
  rcases hu with ⟨rfl, rfl⟩ | ⟨a, cap, rfl, _, rfl⟩ | ⟨b, off, cap, rfl, h1, h2, h3, h4⟩
  · refine ⟨v, w, ?_, by rw [List.append_nil]; exact h, ⟨rfl, rfl, rfl, Nat.le_refl _, fun _ _ _ => rfl⟩⟩
    rcases h with ⟨rfl, h⟩ | ⟨g, off, c, cur, rfl, q1, q2, q3, q4⟩
    · rw [h] at hp'; simp at hp'
    · simp [Builtin.append_, run_underlying Tryd.underlying30, sizeOf, typeInfo, hi, Builtin.lenOf, Builtin.firstCells, q3, storeCells]
  · have := run_append_bytl w v a 0 cap (S.v8l xs) [] ty h rfl (fun j u hu => by simp at hu) (fun u hu => by simp at hu) (by rw [S.v8l_length]; omega) hp'
    rw [List.append_nil] at this ⊢
    exact this
  · rw [v8l_append]
    refine run_append_bytl w v ⟨b, off, none⟩ bs.length cap (S.v8l xs) (S.v8l bs) ty h (S.v8l_length _) (fun j x hx => ?_) (S.v8l_one _) (by rw [S.v8l_length]; omega) hp'
    obtain ⟨rfl, hj⟩ := S.v8l_at bs j x hx
    rw [Addr.add_lit]
    exact h4 j hj
theorem S.xorTo_get (l : List UInt8) (p : UInt8) (n j : Nat) : (S.xorTo l p n)[j]? = if j < n then (l[j]?).map (· ^^^ p) else l[j]? := by
  induction n with
  | zero => simp [S.xorTo]
  | succ n ih =>
    rw [S.xorTo, List.getElem?_set, S.xorTo_length]
    by_cases h1 : n = j
    · subst h1
      rw [if_pos rfl, if_pos (show n < n + 1 by omega)]
      by_cases h2 : n < l.length
      · rw [if_pos h2, List.getD_eq_getElem?_getD, ih, if_neg (by omega), List.getElem?_eq_getElem h2]
        rfl
      · rw [if_neg h2, List.getElem?_eq_none (by omega)]
        rfl
    · rw [if_neg h1, ih]
      by_cases h2 : j < n
      · rw [if_pos h2, if_pos (by omega)]
      · rw [if_neg h2, if_neg (by omega)]
theorem S.xorTo_map (l : List UInt8) (p : UInt8) (h : l.length = 64) : S.xorTo l p 64 = l.map (· ^^^ p) := by
  apply List.ext_getElem?
  intro j
  rw [S.xorTo_get, List.getElem?_map]
  by_cases hj : j < 64
  · rw [if_pos hj]
  · rw [if_neg hj, List.getElem?_eq_none (by omega)]
    rfl
end Go.Proofs.YtlcilclhaahopaaDoor
