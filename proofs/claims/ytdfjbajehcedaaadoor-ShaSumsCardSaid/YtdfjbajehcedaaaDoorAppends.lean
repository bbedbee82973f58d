/- append of bytes, and of noughts, onto a []byte of the call's own: the answer reads as both, one behind the other; nothing that was there changes. -/
import Derived.Test.YtdfjbajehcedaaaDoorZeros
import Derived.Laws.OwnMore
import Derived.Lib.AppendZeros
namespace Go.Proofs.YtdfjbajehcedaaaDoor
open Go.RowKit
/-- A []byte of the call's own that reads as bs: it lies at the start of a block that is not below base. -/
def Own (w : World) (base : Nat) (v : Value) (bs : List UInt8) : Prop :=
  w.ownsRow base 5 1 v bs.length (S.v8l bs) ∧ ∃ g cap, v = .slice (some ⟨g, 0, none⟩) bs.length cap
theorem Own.sliceAt {w : World} {base : Nat} {v : Value} {bs : List UInt8} (h : Own w base v bs) (hr : bs.length ≤ 140737488355328) : SliceAt w v bs := by
  obtain ⟨h1, g, cap, rfl⟩ := h
  have hc := h1.cells (g := g) rfl
  have hlt := (h1.lt g rfl).2
  rcases h1.2 with ⟨h2, _⟩ | ⟨g', cap', cur, h2, _, _, hn, _⟩
  · simp at h2
  · simp only [Value.slice.injEq, Option.some.injEq, Addr.mk.injEq, and_true, true_and] at h2
    obtain ⟨rfl, rfl⟩ := h2
    refine Or.inr (Or.inr ⟨g, 0, cap, rfl, hn, hr, hlt, fun j hj => ?_⟩)
    have := hc j (.int .u8 ((bs.getD j 0).toNat : Int)) (by simp [S.v8l, List.getElem?_map, List.getElem?_eq_getElem hj, List.getD_eq_getElem?_getD])
    rw [Addr.add_lit] at this
    exact this
theorem Own.below {w w' : World} {base B : Nat} {v : Value} {bs : List UInt8} (h : Own w base v bs) (hb : Below B w w') (hB : w.heap.size ≤ B) : Own w' base v bs := by
  obtain ⟨h1, g, cap, rfl⟩ := h
  have hlt := (h1.lt g rfl).2
  refine ⟨⟨h1.1, ?_⟩, g, cap, rfl⟩
  rcases h1.2 with ⟨h2, _⟩ | ⟨g', cap', cur, h2, h3, h4, h5⟩
  · simp at h2
  · refine Or.inr ⟨g', cap', cur, h2, h3, ?_, h5⟩
    simp only [Value.slice.injEq, Option.some.injEq, Addr.mk.injEq, and_true, true_and] at h2
    rw [hb.block g' (by omega)]
    exact h4
theorem v8l_append (a b : List UInt8) : S.v8l (a ++ b) = S.v8l a ++ S.v8l b := by simp [S.v8l]
theorem v8l_zeros (m : Nat) : S.v8l (S.zeros m) = List.replicate m (Value.int .u8 0) := by simp [S.v8l, S.zeros]
theorem run_append_bytes (w : World) (base : Nat) (v u : Value) (bs xs : List UInt8) (ty : TypeId) (hown : Own w base v bs) (hu : SliceAt w u xs) (hb : bs.length + xs.length ≤ 140737488355328) (hbase : base ≤ w.heap.size) :
    ∃ v' w', (Builtin.append_ #[26, 26] ty #[v, u]).run Tryd.prog w = .ok v' w' ∧ Own w' base v' (bs ++ xs) ∧ Below base w w' := by
  obtain ⟨i, hi, hz0, hz1, hz2⟩ := info_parts info5
  have key : ∀ (ad : Addr) (c : Nat), (∀ j x, (S.v8l xs)[j]? = some x → w.cell? (ad.add j) = some x) → u = .slice (some ad) xs.length c → ∃ v' w', (Builtin.append_ #[26, 26] ty #[v, u]).run Tryd.prog w = .ok v' w' ∧ Own w' base v' (bs ++ xs) ∧ Below base w w' := by
    rintro ad c hc rfl
    obtain ⟨v', w', hr, ho, hg, hiff⟩ := run_append_own (P := Tryd.prog) w base 26 ty 5 i (.int .u8 0) 1 1 Tryd.underlying26 hi hz0 hz1 hz2 rfl (by omega) v bs.length (S.v8l bs) hown.1 ad xs.length c (S.v8l xs) (by rw [S.v8l_length]; omega) hc (S.v8l_one _) (by simp only [maxLen]; omega) (by omega) hbase
    have hown' := hown
    obtain ⟨h1, g, cap, rfl⟩ := hown'
    refine ⟨v', w', hr, ⟨by rw [v8l_append, List.length_append]; exact ho, ?_⟩, (Below.refl _ _).grown hg hbase (fun k hk => (h1.lt k hk).1)⟩
    rcases ho.2 with ⟨h2, _⟩ | ⟨g', cap', cur, h2, _⟩
    · have := (hiff.1 h2).1
      simp at this
    · exact ⟨g', cap', by rw [List.length_append]; exact h2⟩
  rcases hu with ⟨rfl, rfl⟩ | ⟨a, cap, rfl, _, rfl⟩ | ⟨b, off, cap, rfl, h1, h2, h3, h4⟩
  · exact ⟨v, w, run_append_owned_none (P := Tryd.prog) (w := w) base 26 ty 5 i 1 Tryd.underlying26 hi v bs.length (S.v8l bs) hown.1, by rw [List.append_nil]; exact hown, Below.refl _ _⟩
  · exact key a cap (fun j x h => by simp [S.v8l] at h) rfl
  · refine key ⟨b, off, none⟩ cap (fun j x h => ?_) rfl
    obtain ⟨rfl, hj⟩ := S.v8l_at xs j x h
    rw [Addr.add_lit]
    exact h4 j hj
theorem run_append_zeros (w : World) (base : Nat) (v : Value) (bs : List UInt8) (m : Nat) (ty : TypeId) (hown : Own w base v bs) (hm : m ≤ 65) (hb : bs.length + 65 ≤ 140737488355328) (hbase : base ≤ w.heap.size) :
    ∃ v' w', (Builtin.append_ #[26, 3] ty #[v, .int .i64 (m : Int)]).run Tryd.prog w = .ok v' w' ∧ Own w' base v' (bs ++ S.zeros m) ∧ Below base w w' := by
  obtain ⟨h1, g, cap, rfl⟩ := hown
  have hlt := h1.lt g rfl
  have hcells := h1.cells (g := g) rfl
  obtain ⟨cur, hg0, hn, hcm, hcs, ht⟩ : ∃ cur, w.heap[g]? = some (.cells cur 5 (0, 0)) ∧ bs.length ≤ cap ∧ cap ≤ maxLen ∧ cur.size = cap * 1 ∧ cur.toList.take (bs.length * 1) = S.v8l bs := by
    rcases h1.2 with ⟨h2, _⟩ | ⟨g', cap', cur, h2, _, h3, h4⟩
    · simp at h2
    · simp only [Value.slice.injEq, Option.some.injEq, Addr.mk.injEq, and_true, true_and] at h2
      obtain ⟨rfl, rfl⟩ := h2
      exact ⟨cur, h3, h4⟩
  have hlen : (S.v8l bs ++ S.v8l (S.zeros m)).length = (bs ++ S.zeros m).length * 1 := by rw [List.length_append, List.length_append, S.v8l_length, S.v8l_length]; omega
  have hbl : (bs ++ S.zeros m).length = bs.length + m := by rw [List.length_append, S.zeros_length]
  by_cases hm0 : m = 0
  · subst hm0
    refine ⟨_, w, append_zeros_none w (some ⟨g, 0, none⟩) bs.length cap ty hn, ?_, Below.refl _ _⟩
    have e : bs ++ S.zeros 0 = bs := by simp [S.zeros]
    rw [e]
    exact ⟨h1, g, cap, rfl⟩
  · by_cases hroom : bs.length + m ≤ cap
    · refine ⟨_, _, append_zeros_room w g bs.length cap m cur hg0 ty hm hm0 hroom (by omega), ⟨⟨by rw [v8l_append]; exact hlen, Or.inr ⟨g, cap, _, by rw [hbl], hlt.1, setRow_heap w g cur _ 5 _ hg0, by omega, hcm, ?_, ?_⟩⟩, g, cap, by rw [hbl]⟩, below_setRow (Below.refl _ _) hlt.1 _⟩
      · simp only [List.size_toArray, List.length_append, List.length_take, List.length_drop, Array.length_toList, List.length_replicate]
        omega
      · have e : cur.toList.take bs.length = S.v8l bs := by rw [← ht, Nat.mul_one]
        rw [e, v8l_append, v8l_zeros, hbl]
        have hl : (S.v8l bs ++ List.replicate m (Value.int IntKind.u8 0)).length = (bs.length + m) * 1 := by rw [List.length_append, S.v8l_length, List.length_replicate]; omega
        rw [← hl]
        exact List.take_left
    · have hge := grownCap_ge w (bs.length + m) cap 5
      have hcm' : grownCap w (bs.length + m) cap 5 ≤ maxLen := grownCap_le_maxLen w (bs.length + m) cap 5 (by simp only [maxLen]; omega)
      refine ⟨_, _, append_zeros_grow w ⟨g, 0, none⟩ bs.length cap m (S.v8l bs) (S.v8l_length _) hcells ty hm hm0 (by omega) (by omega), ⟨⟨by rw [v8l_append]; exact hlen, Or.inr ⟨w.heap.size, _, _, by rw [hbl], hbase, heap_alloc_new w.drew _, by rw [hbl]; exact hge, hcm', ?_, ?_⟩⟩, w.heap.size, _, by rw [hbl]⟩, ((Below.refl _ _).drew).alloc hbase _⟩
      · simp only [Array.size_append, List.size_toArray, size_zeroCells, S.v8l_length, List.length_replicate]
        have : (Value.int IntKind.u8 0).cells.size = 1 := rfl
        rw [this]
        omega
      · rw [v8l_append, v8l_zeros, hbl]
        have hl : (S.v8l bs ++ List.replicate m (Value.int IntKind.u8 0)).length = (bs.length + m) * 1 := by rw [List.length_append, S.v8l_length, List.length_replicate]; omega
        rw [← hl]
        simp only [Array.toList_append]
        exact List.take_left
/-- The walk's step at an append whose run is known to answer some v' in some w'. -/
theorem wpList_append_some {w : World} {ops : Array Oper} {rest : List Oper} {o : Oper} {a : Act} {Q : Exit → Act → World → Prop} (hgd : o.guard = none) (s x : Operand) (t tn : TypeId)
    (ho : o.op = .call { callee := .builtin .append, args := #[s, x], argTypes := #[t, tn] }) (vs vx : Value) (hs : a.eval s = vs) (hx : a.eval x = vx) {R : Value → World → Prop}
    (hr : ∃ v' w', (Builtin.append_ #[t, tn] o.type #[vs, vx]).run Tryd.prog w = .ok v' w' ∧ R v' w')
    (h : ∀ v' w', R v' w' → wpList Tryd.prog ops Q rest (a.put o.dst v') w') : wpList Tryd.prog ops Q (o :: rest) a w := by
  obtain ⟨v', w', hr, hR⟩ := hr
  exact wpList_plain hgd fun _ hK => Lib.wp_append_run w s x t tn ho vs vx hs hx v' w' hr (hK _ _ (h v' w' hR))
end Go.Proofs.YtdfjbajehcedaaaDoor
