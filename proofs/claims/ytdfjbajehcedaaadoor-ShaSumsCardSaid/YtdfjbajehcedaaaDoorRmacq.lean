/- A text behind a []byte of the call's own, nil or not: only its own block changes. -/
import Derived.Test.YtdfjbajehcedaaaDoorRmacp
namespace Go.Proofs.YtdfjbajehcedaaaDoor
open Go.RowKit
theorem run_append_bytl (w : World) (v : Value) (ad : Addr) (m c' : Nat) (vs news : List Value) (ty : TypeId) (h : Bytl w v vs) (hm : news.length = m) (hnews : ∀ j u, news[j]? = some u → w.cell? (ad.add j) = some u) (hone : ∀ u ∈ news, u.oneCell' = true) (hb : vs.length + m ≤ 1000000) (hp : 0 < vs.length) :
    ∃ v' w', (Builtin.append_ #[26, 26] ty #[v, .slice (some ad) m c']).run Tryd.prog w = .ok v' w' ∧ (Bytl w' v' (vs ++ news) ∧ w.grownBy w' v.ownBlock) := by
  obtain ⟨i, hi, hz0, hz1, hz2⟩ := info_parts info5
  rcases h with ⟨rfl, rfl⟩ | ⟨g, off, c, cur, rfl, h1, h2, h3, h4⟩
  · simp at hp
  · by_cases hroom : vs.length + m ≤ c
    · have hf := run_firstCells_some (P := Tryd.prog) w i.size m ad m c' news (by rw [hz1]; omega) hnews
      have hst := run_storeCells_at Tryd.prog g (off + vs.length) 5 news 0 cur w h1 (by rw [Nat.add_zero]; omega) hone
      simp only [Nat.add_zero] at hst
      rw [hz1] at hf
      have hr : (Builtin.append_ #[26, 26] ty #[.slice (some ⟨g, off, none⟩) vs.length c, .slice (some ad) m c']).run Tryd.prog w = .ok (.slice (some ⟨g, off, none⟩) (vs.length + m) c) (w.setRow g (cur.toList.take (off + vs.length) ++ news ++ cur.toList.drop (off + vs.length + news.length)).toArray) := by
        simp [Builtin.append_, run_underlying Tryd.underlying26, sizeOf, typeInfo, hi, hz1, Builtin.lenOf, hroom, hf, Addr.add_lit]
        rw [List.append_assoc] at hst
        rw [hst]
        rfl
      refine ⟨_, _, hr, Or.inr ⟨g, off, c, _, by rw [List.length_append, hm], setRow_heap w g cur _ 5 _ h1, ?_, by rw [List.length_append, hm]; exact hroom, ?_⟩, ⟨rfl, rfl, rfl, by simp, fun k _ hk => setRow_other w g k _ (fun e => hk (by simp [Value.ownBlock, e]))⟩⟩
      · simp only [List.size_toArray, List.length_append, List.length_take, List.length_drop, Array.length_toList]
        omega
      · intro j y hy
        have hlt : (cur.toList.take (off + vs.length)).length = off + vs.length := by rw [List.length_take]; have : cur.toList.length = cur.size := Array.length_toList; omega
        rw [List.getElem?_toArray, List.append_assoc]
        by_cases hj : j < vs.length
        · rw [List.getElem?_append_left (by rw [hlt]; omega), List.getElem?_take, if_pos (by omega)]
          rw [List.getElem?_append_left hj] at hy
          simpa using h4 j y hy
        · rw [List.getElem?_append_right (by omega)] at hy
          rw [List.getElem?_append_right (by rw [hlt]; omega), hlt, List.getElem?_append_left (by have := (List.getElem?_eq_some_iff.1 hy).1; omega)]
          rw [show off + j - (off + vs.length) = j - vs.length by omega]
          exact hy
    · have holds : ∀ j u, vs[j]? = some u → w.cell? ((⟨g, off, none⟩ : Addr).add j) = some u := by
        intro j u hu
        rw [Addr.add_lit, cell_of_row w g (off + j) _ 5 (0, 0) h1]
        exact h4 j u hu
      have hr := run_append_grow (P := Tryd.prog) w 26 ty 5 i (.int .u8 0) Tryd.underlying26 hi hz0 ⟨g, off, none⟩ vs.length c vs (by rw [hz1]; omega) holds ad m c' news (by rw [hz1]; omega) hnews (by omega) (by omega) (growslice_fits (by omega) (by rw [hz2]; omega))
      have hge := grownCap_ge w (vs.length + m) c 5
      refine ⟨_, _, hr, Or.inr ⟨w.heap.size, 0, _, _, by rw [List.length_append, hm], heap_alloc_new w.drew _, ?_, by rw [List.length_append, hm]; exact hge, ?_⟩, ⟨rfl, rfl, rfl, by simp, fun k hk _ => heap_alloc_old w.drew _ hk⟩⟩
      · simp only [Array.size_append, List.size_toArray, size_zeroCells]
        have : (Value.int .u8 0).cells.size = 1 := rfl
        rw [this]
        omega
      · intro j y hy
        have hj := (List.getElem?_eq_some_iff.1 hy).1
        rw [Nat.zero_add, Array.getElem?_append_left (by simpa using hj)]
        simpa using hy
theorem run_append_text (w : World) (v u : Value) (xs bs : List UInt8) (ty : TypeId) (h : Bytl w v (S.v8l xs)) (hu : SliceAt w u bs) (hb : xs.length + bs.length ≤ 1000000) (hp : 0 < xs.length) :
    ∃ v' w', (Builtin.append_ #[26, 26] ty #[v, u]).run Tryd.prog w = .ok v' w' ∧ (Bytl w' v' (S.v8l (xs ++ bs)) ∧ w.grownBy w' v.ownBlock) := by
  obtain ⟨i, hi, hz0, hz1, hz2⟩ := info_parts info5
  have hp' : 0 < (S.v8l xs).length := by rw [S.v8l_length]; exact hp
  rcases hu with ⟨rfl, rfl⟩ | ⟨a, cap, rfl, _, rfl⟩ | ⟨b, off, cap, rfl, h1, h2, h3, h4⟩
  · refine ⟨v, w, ?_, by rw [List.append_nil]; exact h, ⟨rfl, rfl, rfl, Nat.le_refl _, fun _ _ _ => rfl⟩⟩
    rcases h with ⟨rfl, h⟩ | ⟨g, off, c, cur, rfl, q1, q2, q3, q4⟩
    · rw [h] at hp'; simp at hp'
    · simp [Builtin.append_, run_underlying Tryd.underlying26, sizeOf, typeInfo, hi, Builtin.lenOf, Builtin.firstCells, q3, storeCells]
  · have := run_append_bytl w v a 0 cap (S.v8l xs) [] ty h rfl (fun j u hu => by simp at hu) (fun u hu => by simp at hu) (by rw [S.v8l_length]; omega) hp'
    rw [List.append_nil] at this ⊢
    exact this
  · rw [v8l_append]
    refine run_append_bytl w v ⟨b, off, none⟩ bs.length cap (S.v8l xs) (S.v8l bs) ty h (S.v8l_length _) (fun j x hx => ?_) (S.v8l_one _) (by rw [S.v8l_length]; omega) hp'
    obtain ⟨rfl, hj⟩ := S.v8l_at bs j x hx
    rw [Addr.add_lit]
    exact h4 j hj
theorem S.xorTo_get (l : List UInt8) (p : UInt8) (n j : Nat) : (S.xorTo l p n)[j]? = if j < n then (l[j]?).map (· ^^^ p) else l[j]? := by
  induction n with
  | zero => simp [S.xorTo]
  | succ n ih =>
    rw [S.xorTo, List.getElem?_set, S.xorTo_length]
    by_cases h1 : n = j
    · subst h1
      rw [if_pos rfl, if_pos (show n < n + 1 by omega)]
      by_cases h2 : n < l.length
      · rw [if_pos h2, List.getD_eq_getElem?_getD, ih, if_neg (by omega), List.getElem?_eq_getElem h2]
        rfl
      · rw [if_neg h2, List.getElem?_eq_none (by omega)]
        rfl
    · rw [if_neg h1, ih]
      by_cases h2 : j < n
      · rw [if_pos h2, if_pos (by omega)]
      · rw [if_neg h2, if_neg (by omega)]
theorem S.xorTo_map (l : List UInt8) (p : UInt8) (h : l.length = 64) : S.xorTo l p 64 = l.map (· ^^^ p) := by
  apply List.ext_getElem?
  intro j
  rw [S.xorTo_get, List.getElem?_map]
  by_cases hj : j < 64
  · rw [if_pos hj]
  · rw [if_neg hj, List.getElem?_eq_none (by omega)]
    rfl
end Go.Proofs.YtdfjbajehcedaaaDoor
