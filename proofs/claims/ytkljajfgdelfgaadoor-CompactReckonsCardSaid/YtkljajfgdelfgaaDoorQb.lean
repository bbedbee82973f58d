/- Rows of digests in memory, and rows of such rows. -/
import Derived.Test.YtkljajfgdelfgaaDoorMj
import Derived.Test.YtkljajfgdelfgaaDoorLists
namespace Go.Proofs.YtkljajfgdelfgaaDoor
open Go.RowKit
namespace Dg
/-- The value v is a [][]byte of the call's own that holds the values vs. -/
def Lists (w : World) (v : Value) (vs : List Value) : Prop :=
  (v = .slice none 0 0 ∧ vs = []) ∨
  ∃ g off c cur, v = .slice (some ⟨g, off, none⟩) vs.length c ∧ w.heap[g]? = some (.cells cur 28 (0, 0)) ∧ off + c ≤ cur.size ∧ vs.length ≤ c ∧ ∀ j x, vs[j]? = some x → cur[off + j]? = some x
theorem Lists.shape {w : World} {v : Value} {vs : List Value} (h : Lists w v vs) : ∃ ao c, v = .slice ao vs.length c := by
  rcases h with ⟨rfl, rfl⟩ | ⟨g, off, c, cur, rfl, _⟩
  · exact ⟨_, _, rfl⟩
  · exact ⟨_, _, rfl⟩
theorem Lists.lt {w : World} {v : Value} {vs : List Value} (h : Lists w v vs) {k : Nat} (hk : v.ownBlock = some k) : k < w.heap.size := by
  rcases h with ⟨rfl, rfl⟩ | ⟨g, off, c, cur, rfl, h1, _⟩
  · simp [Value.ownBlock] at hk
  · simp [Value.ownBlock] at hk
    subst hk
    exact block_lt_of_row h1
theorem Lists.kept {w w' : World} {v : Value} {vs : List Value} (h : Lists w v vs) (hb : ∀ k, v.ownBlock = some k → w'.heap[k]? = w.heap[k]?) : Lists w' v vs := by
  rcases h with h | ⟨g, off, c, cur, rfl, h1, h2⟩
  · exact Or.inl h
  · exact Or.inr ⟨g, off, c, cur, rfl, (hb g rfl).trans h1, h2⟩
theorem Lists.at {w : World} {v : Value} {vs : List Value} (h : Lists w v vs) (k : Nat) (hk : k < vs.length) :
    ∃ g off c, v = .slice (some ⟨g, off, none⟩) vs.length c ∧ vs.length ≤ c ∧ w.cell? ⟨g, off + k, none⟩ = some (vs.getD k default) := by
  rcases h with ⟨_, rfl⟩ | ⟨g, off, c, cur, rfl, h1, h2, h3, h4⟩
  · simp at hk
  · refine ⟨g, off, c, rfl, h3, ?_⟩
    rw [cell_of_row w g (off + k) cur 28 (0, 0) h1]
    exact h4 k _ (by rw [List.getElem?_eq_getElem hk, List.getD_eq_getElem?_getD, List.getElem?_eq_getElem hk]; rfl)
/-- lists[1:]. -/
theorem Lists.tail {w : World} {g off c : Nat} {x : Value} {vs : List Value} (h : Lists w (.slice (some ⟨g, off, none⟩) (vs.length + 1) c) (x :: vs)) :
    Lists w (.slice (if c = 1 then some ⟨g, off, none⟩ else some ⟨g, off + 1, none⟩) vs.length (c - 1)) vs := by
  rcases h with ⟨h, _⟩ | ⟨g', off', c', cur, h, h1, h2, h3, h4⟩
  · simp at h
  · simp only [Value.slice.injEq, Option.some.injEq, Addr.mk.injEq, and_true, List.length_cons, true_and] at h
    obtain ⟨⟨rfl, rfl⟩, rfl⟩ := h
    simp only [List.length_cons] at h3
    by_cases hc : c = 1
    · subst hc
      obtain rfl : vs = [] := List.eq_nil_of_length_eq_zero (by omega)
      exact Or.inr ⟨g, off, 0, cur, by simp, h1, by omega, by simp, by simp⟩
    · rw [if_neg hc]
      refine Or.inr ⟨g, off + 1, c - 1, cur, rfl, h1, by omega, by omega, fun j y hy => ?_⟩
      have := h4 (j + 1) y (by simpa using hy)
      rw [← this]
      congr 1
      omega
theorem infoS : (Tryd.prog.info? 28).map (fun i => (i.zero, i.size, i.bytes)) = some (some (.slice none 0 0), 1, 24) := by kernel_rfl
/-- append of one slice: in its room, or in a new block. -/
theorem run_append_list (w : World) (v x : Value) (gx : Nat) (vs : List Value) (ty : TypeId) (h : Lists w v vs) (hx : w.heap[gx]? = some (.cells #[x] 28 (0, 0))) (hx1 : x.oneCell' = true) (hlen : vs.length ≤ 1000000) :
    ∃ v' w', (Builtin.append_ #[64, 64] ty #[v, .slice (some ⟨gx, 0, none⟩) 1 1]).run Tryd.prog w = .ok v' w' ∧ (Lists w' v' (vs ++ [x]) ∧ w.grownBy w' v.ownBlock ∧ (v'.ownBlock = v.ownBlock ∨ v'.ownBlock = some w.heap.size)) := by
  obtain ⟨i, hi, hz0, hz1, hz2⟩ := info_parts infoS
  have hnews : ∀ j u, [x][j]? = some u → w.cell? ((⟨gx, 0, none⟩ : Addr).add j) = some u := by
    intro j u hu
    rw [Addr.add_lit, Nat.zero_add, cell_of_row w gx j _ 28 (0, 0) hx]
    simpa using hu
  have hone : ∀ u ∈ [x], u.oneCell' = true := by intro u hu; rw [List.mem_singleton.1 hu]; exact hx1
  rcases h with ⟨rfl, rfl⟩ | ⟨g, off, c, cur, rfl, h1, h2, h3, h4⟩
  · have hr := run_append_nil (P := Tryd.prog) w 64 ty 28 i (.slice none 0 0) Tryd.underlying64 hi hz0 ⟨gx, 0, none⟩ 1 1 [x] (by rw [hz1]; rfl) hnews (by omega) (by omega) (by rw [hz2]; omega)
    refine ⟨_, _, hr, Or.inr ⟨w.heap.size, 0, _, _, rfl, heap_alloc_new w.drew _, ?_, ?_, ?_⟩, ⟨rfl, rfl, rfl, by simp, fun k hk _ => heap_alloc_old w.drew _ hk⟩, Or.inr rfl⟩
    · have hge := grownCap_ge w 1 0 28
      simp only [Array.size_append, List.size_toArray, size_zeroCells, List.length_singleton]
      have : (Value.slice none 0 0).cells.size = 1 := rfl
      rw [this]
      omega
    · exact grownCap_ge w 1 0 28
    · intro j y hy
      rw [Nat.zero_add, Array.getElem?_append_left (by have := (List.getElem?_eq_some_iff.1 hy).1; simpa using this)]
      simpa using hy
  · by_cases hroom : vs.length + 1 ≤ c
    · have hf := run_firstCells_some (P := Tryd.prog) w i.size 1 ⟨gx, 0, none⟩ 1 1 [x] (by rw [hz1]; rfl) hnews
      have hst := run_storeCells_at Tryd.prog g (off + vs.length) 28 [x] 0 cur w h1 (by simp; omega) hone
      simp only [Nat.add_zero] at hst
      rw [hz1] at hf
      have hr : (Builtin.append_ #[64, 64] ty #[.slice (some ⟨g, off, none⟩) vs.length c, .slice (some ⟨gx, 0, none⟩) 1 1]).run Tryd.prog w = .ok (.slice (some ⟨g, off, none⟩) (vs.length + 1) c) (w.setRow g (cur.toList.take (off + vs.length) ++ [x] ++ cur.toList.drop (off + vs.length + 1)).toArray) := by
        simp [Builtin.append_, run_underlying Tryd.underlying64, sizeOf, typeInfo, hi, hz1, Builtin.lenOf, hroom, hf, Addr.add_lit]
        have hst' := hst
        simp only [List.length_singleton, List.append_assoc, List.cons_append, List.nil_append] at hst'
        rw [hst']
        rfl
      refine ⟨_, _, hr, Or.inr ⟨g, off, c, _, by rw [List.length_append, List.length_singleton], setRow_heap w g cur _ 28 _ h1, ?_, by rw [List.length_append]; exact hroom, ?_⟩, ⟨rfl, rfl, rfl, by simp, fun k _ hk => setRow_other w g k _ (fun e => hk (by simp [Value.ownBlock, e]))⟩, Or.inl rfl⟩
      · simp only [List.size_toArray, List.length_append, List.length_take, List.length_drop, Array.length_toList, List.length_singleton]
        omega
      · intro j y hy
        have hlt : (cur.toList.take (off + vs.length)).length = off + vs.length := by rw [List.length_take]; have : cur.toList.length = cur.size := Array.length_toList; omega
        rw [List.getElem?_toArray, List.append_assoc]
        by_cases hj : j < vs.length
        · rw [List.getElem?_append_left (by rw [hlt]; omega), List.getElem?_take, if_pos (by omega)]
          rw [List.getElem?_append_left hj] at hy
          simpa using h4 j y hy
        · rw [List.getElem?_append_right (by omega)] at hy
          rw [List.getElem?_append_right (by rw [hlt]; omega), hlt]
          have hj0 : j - vs.length = 0 := by have := (List.getElem?_eq_some_iff.1 hy).1; simpa using this
          have hj1 : off + j - (off + vs.length) = 0 := by omega
          rw [hj0] at hy
          rw [hj1]
          simpa using hy
    · have holds : ∀ j u, vs[j]? = some u → w.cell? ((⟨g, off, none⟩ : Addr).add j) = some u := by
        intro j u hu
        rw [Addr.add_lit, cell_of_row w g (off + j) _ 28 (0, 0) h1]
        exact h4 j u hu
      have hr := run_append_grow (P := Tryd.prog) w 64 ty 28 i (.slice none 0 0) Tryd.underlying64 hi hz0 ⟨g, off, none⟩ vs.length c vs (by rw [hz1]; omega) holds ⟨gx, 0, none⟩ 1 1 [x] (by rw [hz1]; rfl) hnews (by omega) (by omega) (growslice_fits (by omega) (by rw [hz2]; omega))
      have hge := grownCap_ge w (vs.length + 1) c 28
      refine ⟨_, _, hr, Or.inr ⟨w.heap.size, 0, _, _, by rw [List.length_append, List.length_singleton], heap_alloc_new w.drew _, ?_, by rw [List.length_append]; exact hge, ?_⟩, ⟨rfl, rfl, rfl, by simp, fun k hk _ => heap_alloc_old w.drew _ hk⟩, Or.inr rfl⟩
      · simp only [Array.size_append, List.size_toArray, size_zeroCells, List.length_singleton]
        have : (Value.slice none 0 0).cells.size = 1 := rfl
        rw [this]
        omega
      · intro j y hy
        have hj := (List.getElem?_eq_some_iff.1 hy).1
        rw [Nat.zero_add, Array.getElem?_append_left (by simpa using hj)]
        simpa using hy

/-- Block g is a row of cap digests that begins with ds. -/
def Room (w : World) (g cap : Nat) (ds : List (List UInt8)) : Prop :=
  ∃ cur, w.heap[g]? = some (.cells cur 23 (0, 0)) ∧ cur.size = cap * 32 ∧ ds.length ≤ cap ∧ cur.toList.take (ds.length * 32) = ds.flatMap S.v8l ∧ (∀ d ∈ ds, d.length = 32) ∧ ds.length ≤ 1000
theorem Room.below {w w' : World} {g cap B : Nat} {bs : List (List UInt8)} (h : Room w g cap bs) (hb : Below B w w') (hB : g < B) : Room w' g cap bs := by
  obtain ⟨cur, h1, h2⟩ := h
  exact ⟨cur, (hb.block g hB).trans h1, h2⟩
theorem rows_dgAt {w : World} {g cap : Nat} {cur : Array Value} {ds : List (List UInt8)} (hr : w.heap[g]? = some (.cells cur 23 (0, 0))) (h4 : cur.toList.take (ds.length * 32) = ds.flatMap S.v8l) (hd : ∀ d ∈ ds, d.length = 32) (hl : ds.length ≤ 1000000) : DgAt w (.slice (some ⟨g, 0, none⟩) ds.length cap) ds := by
  refine ⟨_, cap, rfl, hl, hd, fun hp => ⟨g, 0, rfl, block_lt_of_row hr, fun j hj k u hu => ?_⟩⟩
  have hk : k < 32 := by
    have := (List.getElem?_eq_some_iff.1 hu).1
    rw [S.v8l_length, List.getD_eq_getElem?_getD, List.getElem?_eq_getElem hj] at this
    have h5 := hd _ (List.getElem_mem hj)
    simp only [Option.getD_some] at this
    omega
  rw [← flat_at ds hd j k hj hk, ← h4, List.getElem?_take, if_pos (by omega)] at hu
  rw [Nat.zero_add, cell_of_row w g (j * 32 + k) _ _ _ hr]
  simpa using hu
theorem Room.sliceAt {w : World} {g cap : Nat} {bs : List (List UInt8)} (h : Room w g cap bs) (_hr : bs.length ≤ 1000) : DgAt w (.slice (some ⟨g, 0, none⟩) bs.length cap) bs := by
  obtain ⟨cur, h1, h2, h3, h4, h5, h6⟩ := h
  exact rows_dgAt h1 h4 h5 (by omega)
/-- The value u is a copy of the call's own that reads as ds. -/
def URow (w : World) (u : Value) (ds : List (List UInt8)) : Prop := DgRow 0 w u ds ∧ (∀ d ∈ ds, d.length = 32) ∧ ds.length ≤ 1000
theorem URow.kept {w w' : World} {u : Value} {bs : List (List UInt8)} (h : URow w u bs) (hb : ∀ k, u.ownBlock = some k → w'.heap[k]? = w.heap[k]?) : URow w' u bs := by
  obtain ⟨⟨h1, h2⟩, h3⟩ := h
  refine ⟨⟨h1, ?_⟩, h3⟩
  rcases h2 with h2 | ⟨g, cap, cur, rfl, h3, h4, h5⟩
  · exact Or.inl h2
  · exact Or.inr ⟨g, cap, cur, rfl, h3, (hb g rfl).trans h4, h5⟩
theorem URow.lt {w : World} {u : Value} {bs : List (List UInt8)} (h : URow w u bs) {k : Nat} (hk : u.ownBlock = some k) : k < w.heap.size := (h.1.blk hk).2.1
theorem URow.sliceAt {w : World} {u : Value} {bs : List (List UInt8)} (h : URow w u bs) (_hr : bs.length ≤ 1000) : DgAt w u bs := h.1.dgAt (by have := h.2.2; omega) h.2.1
theorem URow.one {w : World} {u : Value} {bs : List (List UInt8)} (h : URow w u bs) : u.oneCell' = true := by
  obtain ⟨ao, c, rfl⟩ := h.1.form
  rfl
theorem URow.shape {w : World} {u : Value} {bs : List (List UInt8)} (h : URow w u bs) : ∃ ao c, u = .slice ao bs.length c := h.1.form
/-- append([]Digest(nil), l...): a copy of l. -/
theorem run_copy_nil (w : World) (v : Value) (bs : List (List UInt8)) (ty : TypeId) (hv : DgAt w v bs) (hb : bs.length ≤ 1000) :
    ∃ v' w', (Builtin.append_ #[28, 28] ty #[.slice none 0 0, v]).run Tryd.prog w = .ok v' w' ∧ (URow w' v' bs ∧ w.grownBy w' none ∧ ∀ k, v'.ownBlock = some k → w.heap.size ≤ k) := by
  obtain ⟨i, hi, hz0, hz1, hz2⟩ := info_parts info31
  obtain ⟨ao, cap, rfl, h1, h2, h3⟩ := hv
  by_cases h0 : bs.length = 0
  · obtain rfl : bs = [] := List.eq_nil_of_length_eq_zero h0
    cases ao with
    | none => exact ⟨_, w, by simp [Builtin.append_, run_underlying Tryd.underlying28, sizeOf, typeInfo, hi, Builtin.lenOf, Builtin.firstCells], ⟨DgRow.nil _ _, fun d hd => by simp at hd, by simp⟩, ⟨rfl, rfl, rfl, Nat.le_refl _, fun _ _ _ => rfl⟩, fun k hk => by simp [Value.ownBlock] at hk⟩
    | some a =>
      obtain ⟨v', w', hr, ho, hg, hn⟩ := run_append_own (P := Tryd.prog) w w.heap.size 28 ty 23 i (.agg (S.v8 (S.zeros 32))) 32 32 Tryd.underlying28 hi hz0 hz1 hz2 (by rw [Value.cells, S.v8_size]; rfl) (by omega) (.slice none 0 0) 0 [] (World.ownsRow_nil w w.heap.size 23 32) a 0 cap [] (by simp) (fun j x h => by simp at h) (fun u hu => by simp at hu) (by simp [maxLen]) (by omega) (Nat.le_refl _)
      obtain rfl : v' = .slice none 0 0 := hn.2 ⟨rfl, rfl⟩
      exact ⟨_, w', hr, ⟨DgRow.nil _ _, fun d hd => by simp at hd, by simp⟩, hg, fun k hk => by simp [Value.ownBlock] at hk⟩
  · obtain ⟨b, off, rfl, h4, h5⟩ := h3 (by omega)
    obtain ⟨v', w', hr, ho, hg, _⟩ := run_append_own (P := Tryd.prog) w w.heap.size 28 ty 23 i (.agg (S.v8 (S.zeros 32))) 32 32 Tryd.underlying28 hi hz0 hz1 hz2 (by rw [Value.cells, S.v8_size]; rfl) (by omega) (.slice none 0 0) 0 [] (World.ownsRow_nil w w.heap.size 23 32) ⟨b, off, none⟩ bs.length cap (bs.flatMap S.v8l) (flat_len bs h2) (fun j x h => by
      have hj : j < bs.length * 32 := by have := (List.getElem?_eq_some_iff.1 h).1; rw [flat_len bs h2] at this; exact this
      have e := flat_at bs h2 (j / 32) (j % 32) (by omega) (by omega)
      rw [show j / 32 * 32 + j % 32 = j by omega, h] at e
      have := h5 (j / 32) (by omega) (j % 32) x e.symm
      rw [show off + j / 32 * 32 + j % 32 = off + j by omega] at this
      rw [Addr.add_lit, this]) (flat_one bs) (by simp only [maxLen]; omega) (by omega) (Nat.le_refl _)
    rw [Nat.zero_add, List.nil_append] at ho
    have ho0 : DgRow 0 w' v' bs := (show DgRow w.heap.size w' v' bs from ho).mono (Nat.zero_le _)
    exact ⟨v', w', hr, ⟨ho0, h2, hb⟩, hg, fun k hk => (ho.lt k hk).1⟩
theorem same_any (v u : Value) (bs : List (List UInt8)) (w : World) (hv : DgAt w v bs) (hu : DgAt w u bs) :
   Calls Tryd.prog 39 #[v, u] w fun e w' => e = .returned (.bool true) ∧ Still w w' := same_dg v u bs w hv hu
end Dg
end Go.Proofs.YtkljajfgdelfgaaDoor
namespace Go.Proofs.YtkljajfgdelfgaaDoor
namespace Dg
open Go.RowKit
/-- A list that was kept: its block, its room, its bytes; and the copy. -/
structure Entry where
  g : Nat
  cap : Nat
  bs : List (List UInt8)
  u : Value
def Entry.val (e : Entry) : Value := .slice (some ⟨e.g, 0, none⟩) e.bs.length e.cap
theorem Entry.one (e : Entry) : e.val.oneCell' = true := rfl
def heldOf (es : List Entry) : Nat := (es.map fun e => e.cap + 1).sum
/-- What a book counts as held, in an int. -/
def hw (es : List Entry) : Int := IntKind.i64.wrap (heldOf es : Int)
/-- What a kept list and its copy are, beside the book's own blocks. -/
def EntryAt (w : World) (gB base top : Nat) (vl vw : Value) (e : Entry) : Prop :=
  Room w e.g e.cap e.bs ∧ base ≤ e.g ∧ e.g < top ∧ e.g ≠ gB ∧ vl.ownBlock ≠ some e.g ∧ vw.ownBlock ≠ some e.g ∧ URow w e.u e.bs ∧ (∀ k, e.u.ownBlock = some k → k < top ∧ k ≠ gB ∧ vl.ownBlock ≠ some k ∧ vw.ownBlock ≠ some k) ∧ e.cap ≤ 9223372036854775807 ∧ e.bs.length ≤ 1000
/-- The book in block gB, its lists and copies in vl and vw. -/
structure BookIs (w : World) (gB base top : Nat) (vl vw : Value) (es : List Entry) : Prop where
  row : w.heap[gB]? = some (.cells #[vl, vw, .int .i64 (hw es), .bool false] 66 (0, 0))
  lo : base ≤ gB
  hi : gB < top
  top_le : top ≤ w.heap.size
  lists : Lists w vl (es.map Entry.val)
  was : Lists w vw (es.map Entry.u)
  vlSep : ∀ k, vl.ownBlock = some k → base ≤ k ∧ k < top ∧ k ≠ gB
  vwSep : ∀ k, vw.ownBlock = some k → base ≤ k ∧ k < top ∧ k ≠ gB ∧ vl.ownBlock ≠ some k
  ents : ∀ e ∈ es, EntryAt w gB base top vl vw e
  nodup : (es.map Entry.g).Nodup
  few : es.length ≤ 100
/-- All that was there but the book's own blocks is as it was. -/
structure Fr (gB : Nat) (vl vw : Value) (w W : World) : Prop where
  os : W.os = w.os
  tape : W.tape = w.tape
  output : W.output = w.output
  size : w.heap.size ≤ W.heap.size
  block : ∀ k, k < w.heap.size → k ≠ gB → vl.ownBlock ≠ some k → vw.ownBlock ≠ some k → W.heap[k]? = w.heap[k]?
theorem Fr.refl (gB : Nat) (vl vw : Value) (w : World) : Fr gB vl vw w w := ⟨rfl, rfl, rfl, Nat.le_refl _, fun _ _ _ _ _ => rfl⟩
theorem Fr.drew {gB : Nat} {vl vw : Value} {w W : World} (h : Fr gB vl vw w W) : Fr gB vl vw w W.drew := ⟨h.os, h.tape, h.output, h.size, h.block⟩
theorem Fr.alloc {gB : Nat} {vl vw : Value} {w W : World} (h : Fr gB vl vw w W) (o : Obj) : Fr gB vl vw w (W.alloc o) :=
  ⟨h.os, h.tape, h.output, Nat.le_trans h.size (by simp), fun k hk h1 h2 h3 => (heap_alloc_old W o (Nat.lt_of_lt_of_le hk h.size)).trans (h.block k hk h1 h2 h3)⟩
theorem Fr.setCell {gB : Nat} {vl vw : Value} {w W : World} (h : Fr gB vl vw w W) (i : Nat) (v : Value) : Fr gB vl vw w (W.setCell ⟨gB, i, none⟩ v) :=
  have hb := (Below.refl 0 W).setCell (p := ⟨gB, i, none⟩) (Nat.zero_le _) v
  ⟨hb.os.trans h.os, hb.tape.trans h.tape, hb.output.trans h.output, Nat.le_trans h.size hb.size, fun k hk h1 h2 h3 => (heap_setCell_other W ⟨gB, i, none⟩ k v h1).trans (h.block k hk h1 h2 h3)⟩
theorem Fr.grown {gB : Nat} {vl vw : Value} {w W W' : World} {row : Option Nat} (h : Fr gB vl vw w W) (hg : W.grownBy W' row) (hrow : ∀ k, k < w.heap.size → row = some k → vl.ownBlock = some k ∨ vw.ownBlock = some k) : Fr gB vl vw w W' :=
  ⟨hg.os.trans h.os, hg.tape.trans h.tape, hg.output.trans h.output, Nat.le_trans h.size hg.size, fun k hk h1 h2 h3 => (hg.block k (Nat.lt_of_lt_of_le hk h.size) (fun e => by rcases hrow k hk e.symm with h' | h'; exact h2 h'; exact h3 h')).trans (h.block k hk h1 h2 h3)⟩
theorem Fr.below {gB base top : Nat} {vl vw : Value} {es : List Entry} {w W : World} (h : Fr gB vl vw w W) (hb : BookIs w gB base top vl vw es) : Below base w W :=
  ⟨h.os, h.tape, h.output, h.size, fun k hk => h.block k (by have := hb.lo; have := hb.hi; have := hb.top_le; omega) (by have := hb.lo; omega) (fun e => by have := (hb.vlSep k e).1; omega) (fun e => by have := (hb.vwSep k e).1; omega)⟩
theorem EntryAt.kept {w W : World} {gB base top top' : Nat} {vl vw vl' vw' : Value} {e : Entry} (h : EntryAt w gB base top vl vw e) (hf : Fr gB vl vw w W) (ht : top ≤ w.heap.size) (ht' : top ≤ top')
    (hvl : ∀ k, vl'.ownBlock = some k → vl.ownBlock = some k ∨ w.heap.size ≤ k) (hvw : ∀ k, vw'.ownBlock = some k → vw.ownBlock = some k ∨ w.heap.size ≤ k) : EntryAt W gB base top' vl' vw' e := by
  obtain ⟨h1, h2, h3, h4, h5, h6, h7, h8, h9⟩ := h
  have hk : ∀ k, k < top → vl.ownBlock ≠ some k → vl'.ownBlock ≠ some k := fun k hk h e => by rcases hvl k e with h' | h'; exact h h'; omega
  have hk' : ∀ k, k < top → vw.ownBlock ≠ some k → vw'.ownBlock ≠ some k := fun k hk h e => by rcases hvw k e with h' | h'; exact h h'; omega
  refine ⟨?_, h2, by omega, h4, hk _ h3 h5, hk' _ h3 h6, h7.kept fun k hk0 => ?_, fun k hk0 => ?_, h9⟩
  · obtain ⟨cur, q1, q2⟩ := h1
    exact ⟨cur, (hf.block e.g (by omega) h4 h5 h6).trans q1, q2⟩
  · obtain ⟨q1, q2, q3, q4⟩ := h8 k hk0
    exact hf.block k (by omega) q2 q3 q4
  · obtain ⟨q1, q2, q3, q4⟩ := h8 k hk0
    exact ⟨by omega, q2, hk k q1 q3, hk' k q1 q4⟩
theorem heldOf_append (es : List Entry) (e : Entry) : heldOf (es ++ [e]) = heldOf es + (e.cap + 1) := by simp [heldOf]
/-- Block g is none of the book's. -/
structure BookNew (g gB : Nat) (vl vw : Value) (es : List Entry) : Prop where
  ne : g ≠ gB
  vl : vl.ownBlock ≠ some g
  vw : vw.ownBlock ≠ some g
  ents : ∀ e ∈ es, e.g ≠ g
/-- The book behind a list that was kept. -/
theorem BookIs.more {w W : World} {gB base top g cap : Nat} {vl vw vl' vw' u : Value} {bs : List (List UInt8)} {es : List Entry} (h : BookIs w gB base top vl vw es) (hr : Room w g cap bs) (htop : BookNew g gB vl vw es) (hbase : base ≤ g) (hcap : cap ≤ 9223372036854775807) (hbl : bs.length ≤ 1000)
    (hrow : W.heap[gB]? = some (.cells #[vl', vw', .int .i64 (hw (es ++ [⟨g, cap, bs, u⟩])), .bool false] 66 (0, 0))) (hf : Fr gB vl vw w W)
    (hL : Lists W vl' (es.map Entry.val ++ [.slice (some ⟨g, 0, none⟩) bs.length cap])) (hW : Lists W vw' (es.map Entry.u ++ [u]))
    (hvl : ∀ k, vl'.ownBlock = some k → vl.ownBlock = some k ∨ w.heap.size ≤ k) (hvw : ∀ k, vw'.ownBlock = some k → vw.ownBlock = some k ∨ w.heap.size ≤ k) (hsep : ∀ k, vw'.ownBlock = some k → vl'.ownBlock ≠ some k)
    (hu : URow W u bs) (hub : ∀ k, u.ownBlock = some k → w.heap.size ≤ k ∧ vl'.ownBlock ≠ some k ∧ vw'.ownBlock ≠ some k)
    (hfew : es.length < 100) : BookIs W gB base W.heap.size vl' vw' (es ++ [⟨g, cap, bs, u⟩]) := by
  have hgw : g < w.heap.size := by obtain ⟨cur, q1, _⟩ := hr; exact block_lt_of_row q1
  have hgB : g ≠ gB := htop.ne
  have hgl : vl.ownBlock ≠ some g := htop.vl
  have hgv : vw.ownBlock ≠ some g := htop.vw
  have hts := h.top_le
  refine ⟨hrow, h.lo, Nat.lt_of_lt_of_le h.hi (Nat.le_trans hts hf.size), Nat.le_refl _, by rw [List.map_append]; exact hL, by rw [List.map_append]; exact hW, fun k hk => ?_, fun k hk => ?_, fun e he => ?_, ?_, by simp; omega⟩
  · refine ⟨?_, hL.lt hk, ?_⟩
    · rcases hvl k hk with h' | h'
      · exact (h.vlSep k h').1
      · have := h.lo; have := h.hi; omega
    · rcases hvl k hk with h' | h'
      · exact (h.vlSep k h').2.2
      · have := h.hi; omega
  · refine ⟨?_, hW.lt hk, ?_, hsep k hk⟩
    · rcases hvw k hk with h' | h'
      · exact (h.vwSep k h').1
      · have := h.lo; have := h.hi; omega
    · rcases hvw k hk with h' | h'
      · exact (h.vwSep k h').2.2.1
      · have := h.hi; omega
  · rcases List.mem_append.1 he with he | he
    · exact (h.ents e he).kept hf hts (Nat.le_trans hts hf.size) hvl hvw
    · obtain rfl := List.mem_singleton.1 he
      refine ⟨?_, hbase, Nat.lt_of_lt_of_le hgw hf.size, hgB, ?_, ?_, hu, fun k hk => ?_, hcap, hbl⟩
      · obtain ⟨cur, q1, q2⟩ := hr
        exact ⟨cur, (hf.block g hgw hgB hgl hgv).trans q1, q2⟩
      · intro e; rcases hvl g e with h' | h'; exact hgl h'; omega
      · intro e; rcases hvw g e with h' | h'; exact hgv h'; omega
      · obtain ⟨q1, q2, q3⟩ := hub k hk
        exact ⟨hu.lt hk, by have := h.hi; omega, q2, q3⟩
  · rw [List.map_append, List.nodup_append]
    refine ⟨h.nodup, by simp, fun a ha b hb => ?_⟩
    obtain ⟨e, he, rfl⟩ := List.mem_map.1 ha
    obtain rfl : b = g := by simpa using hb
    exact htop.ents e he
end Dg
end Go.Proofs.YtkljajfgdelfgaaDoor
