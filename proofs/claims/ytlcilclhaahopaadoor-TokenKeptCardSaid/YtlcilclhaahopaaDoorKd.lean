/- Rows of digests in memory, and rows of such rows. -/
import Derived.Test.YtlcilclhaahopaaDoorTp
import Derived.Test.YtlcilclhaahopaaDoorTg
import Derived.Test.YtlcilclhaahopaaDoorLists
import Derived.Deep.MidRow
import Derived.Lib.JoinLaws
namespace Go.Proofs.YtlcilclhaahopaaDoor
open Go.RowKit
namespace Dg
/-- The value v is a [][]byte of the call's own that holds the values vs. -/
def Lists (w : World) (v : Value) (vs : List Value) : Prop :=
  (v = .slice none 0 0 ∧ vs = []) ∨
  ∃ g off c cur, v = .slice (some ⟨g, off, none⟩) vs.length c ∧ w.heap[g]? = some (.cells cur 23 (0, 0)) ∧ off + c ≤ cur.size ∧ vs.length ≤ c ∧ ∀ j x, vs[j]? = some x → cur[off + j]? = some x
theorem Lists.shape {w : World} {v : Value} {vs : List Value} (h : Lists w v vs) : ∃ ao c, v = .slice ao vs.length c := by
  rcases h with ⟨rfl, rfl⟩ | ⟨g, off, c, cur, rfl, _⟩
  · exact ⟨_, _, rfl⟩
  · exact ⟨_, _, rfl⟩
theorem Lists.lt {w : World} {v : Value} {vs : List Value} (h : Lists w v vs) {k : Nat} (hk : v.ownBlock = some k) : k < w.heap.size := by
  rcases h with ⟨rfl, rfl⟩ | ⟨g, off, c, cur, rfl, h1, _⟩
  · simp [Value.ownBlock] at hk
  · simp [Value.ownBlock] at hk
    subst hk
    exact block_lt_of_row h1
theorem Lists.kept {w w' : World} {v : Value} {vs : List Value} (h : Lists w v vs) (hb : ∀ k, v.ownBlock = some k → w'.heap[k]? = w.heap[k]?) : Lists w' v vs := by
  rcases h with h | ⟨g, off, c, cur, rfl, h1, h2⟩
  · exact Or.inl h
  · exact Or.inr ⟨g, off, c, cur, rfl, (hb g rfl).trans h1, h2⟩
theorem Lists.at {w : World} {v : Value} {vs : List Value} (h : Lists w v vs) (k : Nat) (hk : k < vs.length) :
    ∃ g off c, v = .slice (some ⟨g, off, none⟩) vs.length c ∧ vs.length ≤ c ∧ w.cell? ⟨g, off + k, none⟩ = some (vs.getD k default) := by
  rcases h with ⟨_, rfl⟩ | ⟨g, off, c, cur, rfl, h1, h2, h3, h4⟩
  · simp at hk
  · refine ⟨g, off, c, rfl, h3, ?_⟩
    rw [cell_of_row w g (off + k) cur 23 (0, 0) h1]
    exact h4 k _ (by rw [List.getElem?_eq_getElem hk, List.getD_eq_getElem?_getD, List.getElem?_eq_getElem hk]; rfl)
/-- lists[1:]. -/
theorem Lists.tail {w : World} {g off c : Nat} {x : Value} {vs : List Value} (h : Lists w (.slice (some ⟨g, off, none⟩) (vs.length + 1) c) (x :: vs)) :
    Lists w (.slice (if c = 1 then some ⟨g, off, none⟩ else some ⟨g, off + 1, none⟩) vs.length (c - 1)) vs := by
  rcases h with ⟨h, _⟩ | ⟨g', off', c', cur, h, h1, h2, h3, h4⟩
  · simp at h
  · simp only [Value.slice.injEq, Option.some.injEq, Addr.mk.injEq, and_true, List.length_cons, true_and] at h
    obtain ⟨⟨rfl, rfl⟩, rfl⟩ := h
    simp only [List.length_cons] at h3
    by_cases hc : c = 1
    · subst hc
      obtain rfl : vs = [] := List.eq_nil_of_length_eq_zero (by omega)
      exact Or.inr ⟨g, off, 0, cur, by simp, h1, by omega, by simp, by simp⟩
    · rw [if_neg hc]
      refine Or.inr ⟨g, off + 1, c - 1, cur, rfl, h1, by omega, by omega, fun j y hy => ?_⟩
      have := h4 (j + 1) y (by simpa using hy)
      rw [← this]
      congr 1
      omega
theorem infoS : (Tryd.prog.info? 23).map (fun i => (i.zero, i.size, i.bytes)) = some (some (.slice none 0 0), 1, 24) := by kernel_rfl
/-- append of one slice: in its room, or in a new block. -/
theorem run_append_list (w : World) (v x : Value) (gx : Nat) (vs : List Value) (ty : TypeId) (h : Lists w v vs) (hx : w.heap[gx]? = some (.cells #[x] 23 (0, 0))) (hx1 : x.oneCell' = true) (hlen : vs.length ≤ 1000000) :
    ∃ v' w', (Builtin.append_ #[67, 67] ty #[v, .slice (some ⟨gx, 0, none⟩) 1 1]).run Tryd.prog w = .ok v' w' ∧ (Lists w' v' (vs ++ [x]) ∧ w.grownBy w' v.ownBlock ∧ (v'.ownBlock = v.ownBlock ∨ v'.ownBlock = some w.heap.size)) := by
  obtain ⟨i, hi, hz0, hz1, hz2⟩ := info_parts infoS
  have hnews : ∀ j u, [x][j]? = some u → w.cell? ((⟨gx, 0, none⟩ : Addr).add j) = some u := by
    intro j u hu
    rw [Addr.add_lit, Nat.zero_add, cell_of_row w gx j _ 23 (0, 0) hx]
    simpa using hu
  have hone : ∀ u ∈ [x], u.oneCell' = true := by intro u hu; rw [List.mem_singleton.1 hu]; exact hx1
  rcases h with ⟨rfl, rfl⟩ | ⟨g, off, c, cur, rfl, h1, h2, h3, h4⟩
  · have hr := run_append_nil (P := Tryd.prog) w 67 ty 23 i (.slice none 0 0) Tryd.underlying67 hi hz0 ⟨gx, 0, none⟩ 1 1 [x] (by rw [hz1]; rfl) hnews (by omega) (by omega) (by rw [hz2]; omega)
    refine ⟨_, _, hr, Or.inr ⟨w.heap.size, 0, _, _, rfl, heap_alloc_new w.drew _, ?_, ?_, ?_⟩, ⟨rfl, rfl, rfl, by simp, fun k hk _ => heap_alloc_old w.drew _ hk⟩, Or.inr rfl⟩
    · have hge := grownCap_ge w 1 0 23
      simp only [Array.size_append, List.size_toArray, size_zeroCells, List.length_singleton]
      have : (Value.slice none 0 0).cells.size = 1 := rfl
      rw [this]
      omega
    · exact grownCap_ge w 1 0 23
    · intro j y hy
      rw [Nat.zero_add, Array.getElem?_append_left (by have := (List.getElem?_eq_some_iff.1 hy).1; simpa using this)]
      simpa using hy
  · by_cases hroom : vs.length + 1 ≤ c
    · have hf := run_firstCells_some (P := Tryd.prog) w i.size 1 ⟨gx, 0, none⟩ 1 1 [x] (by rw [hz1]; rfl) hnews
      have hst := run_storeCells_at Tryd.prog g (off + vs.length) 23 [x] 0 cur w h1 (by simp; omega) hone
      simp only [Nat.add_zero] at hst
      rw [hz1] at hf
      have hr : (Builtin.append_ #[67, 67] ty #[.slice (some ⟨g, off, none⟩) vs.length c, .slice (some ⟨gx, 0, none⟩) 1 1]).run Tryd.prog w = .ok (.slice (some ⟨g, off, none⟩) (vs.length + 1) c) (w.setRow g (cur.toList.take (off + vs.length) ++ [x] ++ cur.toList.drop (off + vs.length + 1)).toArray) := by
        simp [Builtin.append_, run_underlying Tryd.underlying67, sizeOf, typeInfo, hi, hz1, Builtin.lenOf, hroom, hf, Addr.add_lit]
        have hst' := hst
        simp only [List.length_singleton, List.append_assoc, List.cons_append, List.nil_append] at hst'
        rw [hst']
        rfl
      refine ⟨_, _, hr, Or.inr ⟨g, off, c, _, by rw [List.length_append, List.length_singleton], setRow_heap w g cur _ 23 _ h1, ?_, by rw [List.length_append]; exact hroom, ?_⟩, ⟨rfl, rfl, rfl, by simp, fun k _ hk => setRow_other w g k _ (fun e => hk (by simp [Value.ownBlock, e]))⟩, Or.inl rfl⟩
      · simp only [List.size_toArray, List.length_append, List.length_take, List.length_drop, Array.length_toList, List.length_singleton]
        omega
      · intro j y hy
        have hlt : (cur.toList.take (off + vs.length)).length = off + vs.length := by rw [List.length_take]; have : cur.toList.length = cur.size := Array.length_toList; omega
        rw [List.getElem?_toArray, List.append_assoc]
        by_cases hj : j < vs.length
        · rw [List.getElem?_append_left (by rw [hlt]; omega), List.getElem?_take, if_pos (by omega)]
          rw [List.getElem?_append_left hj] at hy
          simpa using h4 j y hy
        · rw [List.getElem?_append_right (by omega)] at hy
          rw [List.getElem?_append_right (by rw [hlt]; omega), hlt]
          have hj0 : j - vs.length = 0 := by have := (List.getElem?_eq_some_iff.1 hy).1; simpa using this
          have hj1 : off + j - (off + vs.length) = 0 := by omega
          rw [hj0] at hy
          rw [hj1]
          simpa using hy
    · have holds : ∀ j u, vs[j]? = some u → w.cell? ((⟨g, off, none⟩ : Addr).add j) = some u := by
        intro j u hu
        rw [Addr.add_lit, cell_of_row w g (off + j) _ 23 (0, 0) h1]
        exact h4 j u hu
      have hr := run_append_grow (P := Tryd.prog) w 67 ty 23 i (.slice none 0 0) Tryd.underlying67 hi hz0 ⟨g, off, none⟩ vs.length c vs (by rw [hz1]; omega) holds ⟨gx, 0, none⟩ 1 1 [x] (by rw [hz1]; rfl) hnews (by omega) (by omega) (growslice_fits (by omega) (by rw [hz2]; omega))
      have hge := grownCap_ge w (vs.length + 1) c 23
      refine ⟨_, _, hr, Or.inr ⟨w.heap.size, 0, _, _, by rw [List.length_append, List.length_singleton], heap_alloc_new w.drew _, ?_, by rw [List.length_append]; exact hge, ?_⟩, ⟨rfl, rfl, rfl, by simp, fun k hk _ => heap_alloc_old w.drew _ hk⟩, Or.inr rfl⟩
      · simp only [Array.size_append, List.size_toArray, size_zeroCells, List.length_singleton]
        have : (Value.slice none 0 0).cells.size = 1 := rfl
        rw [this]
        omega
      · intro j y hy
        have hj := (List.getElem?_eq_some_iff.1 hy).1
        rw [Nat.zero_add, Array.getElem?_append_left (by simpa using hj)]
        simpa using hy

/-- Block g is a row of cap caveats that begins with ds. -/
def Room (w : World) (g cap : Nat) (ds : List S.Cv) : Prop :=
  ∃ cur, w.heap[g]? = some (.cells cur 42 (0, 0)) ∧ cur.size = cap * 2 ∧ ds.length ≤ cap ∧ cur.toList.take (ds.length * 2) = ds.flatMap encC ∧ ds.length ≤ 1000
theorem Room.below {w w' : World} {g cap B : Nat} {bs : List S.Cv} (h : Room w g cap bs) (hb : Below B w w') (hB : g < B) : Room w' g cap bs := by
  obtain ⟨cur, h1, h2⟩ := h
  exact ⟨cur, (hb.block g hB).trans h1, h2⟩
theorem Room.sliceAt {w : World} {g cap : Nat} {bs : List S.Cv} (h : Room w g cap bs) (_hr : bs.length ≤ 1000) : CvAt w (.slice (some ⟨g, 0, none⟩) bs.length cap) bs := by
  obtain ⟨cur, h1, h2, h3, h4, h5⟩ := h
  refine ⟨_, cap, rfl, h3, fun e => by simp at e, fun _ => ⟨g, 0, rfl, block_lt_of_row h1, fun j x hx i u hu => ?_⟩⟩
  obtain ⟨hj, hxe⟩ := List.getElem?_eq_some_iff.1 hx
  have hi : i < 2 := by have := (List.getElem?_eq_some_iff.1 hu).1; rwa [encC_length] at this
  rw [Nat.zero_add, cell_of_row w g _ cur _ _ h1]
  rw [← hxe, ← flat_get bs (fun y _ => encC_length y) j i hj hi, ← h4, List.getElem?_take, if_pos (by omega)] at hu
  simpa using hu
/-- The value u is a copy of the call's own that reads as ds. -/
def URow (w : World) (u : Value) (ds : List S.Cv) : Prop := CRow 0 w u ds ∧ ds.length ≤ 1000
theorem URow.kept {w w' : World} {u : Value} {bs : List S.Cv} (h : URow w u bs) (hb : ∀ k, u.ownBlock = some k → w'.heap[k]? = w.heap[k]?) : URow w' u bs := by
  obtain ⟨⟨h1, h2⟩, h3⟩ := h
  refine ⟨⟨h1, ?_⟩, h3⟩
  rcases h2 with h2 | ⟨g, cap, cur, rfl, h3, h4, h5⟩
  · exact Or.inl h2
  · exact Or.inr ⟨g, cap, cur, rfl, h3, (hb g rfl).trans h4, h5⟩
theorem URow.lt {w : World} {u : Value} {bs : List S.Cv} (h : URow w u bs) {k : Nat} (hk : u.ownBlock = some k) : k < w.heap.size := (h.1.blk hk).2.1
theorem URow.sliceAt {w : World} {u : Value} {bs : List S.Cv} (h : URow w u bs) (_hr : bs.length ≤ 1000) : CvAt w u bs := CRow.at h.1
theorem URow.one {w : World} {u : Value} {bs : List S.Cv} (h : URow w u bs) : u.oneCell' = true := by
  obtain ⟨ao, c, rfl⟩ := h.1.form
  rfl
theorem URow.shape {w : World} {u : Value} {bs : List S.Cv} (h : URow w u bs) : ∃ ao c, u = .slice ao bs.length c := h.1.form
/-- append([]Caveat(nil), l...): a copy of l. -/
theorem run_copy_nil (w : World) (v : Value) (bs : List S.Cv) (ty : TypeId) (hv : CvAt w v bs) (hb : bs.length ≤ 1000) :
    ∃ v' w', (Builtin.append_ #[23, 23] ty #[.slice none 0 0, v]).run Tryd.prog w = .ok v' w' ∧ (URow w' v' bs ∧ w.grownBy w' none ∧ ∀ k, v'.ownBlock = some k → w.heap.size ≤ k) := by
  obtain ⟨v', w', hr, h1, h2⟩ := Rw.append kdC ty (Rw.nil 42 2 encC w.heap.size w) hv.src (fun y _ => encC_length y) (by simp; omega) (Nat.le_refl _)
  rw [List.nil_append] at h1
  exact ⟨v', w', hr, ⟨h1.mono (Nat.zero_le _), hb⟩, ⟨h2.os, h2.tape, h2.output, h2.size, fun k hk _ => h2.block k hk (by simp [Value.ownBlock])⟩, fun k hk => (h1.blk hk).1⟩
theorem _root_.Go.Proofs.YtlcilclhaahopaaDoor.CvAt.of_heap {w W : World} {v : Value} {l : List S.Cv} (h : CvAt w v l) (e : W.heap = w.heap) : CvAt W v l := by
  obtain ⟨ao, cap, h1, h2, h3, h4⟩ := h
  refine ⟨ao, cap, h1, h2, h3, fun hp0 => ?_⟩
  obtain ⟨g, off, e1, hg, hc⟩ := h4 hp0
  exact ⟨g, off, e1, by rw [e]; exact hg, fun j x hx i u hu => (World.cell?_of_block (a := ⟨g, off + j * 2 + i, none⟩) (by rw [e])).trans (hc j x hx i u hu)⟩
theorem same_any (v u : Value) (bs : List S.Cv) (w : World) (hb : bs.length ≤ 1000) (hv : CvAt w v bs) (hu : CvAt w u bs) :
   Calls Tryd.prog 48 #[v, u] w fun e w' => e = .returned (.bool true) ∧ Still w w' := same_c v u bs w (by omega) hv hu
end Dg
end Go.Proofs.YtlcilclhaahopaaDoor
namespace Go.Proofs.YtlcilclhaahopaaDoor
namespace Dg
open Go.RowKit
/-- A list that was kept: its block, its room, its bytes; and the copy. -/
structure Entry where
  g : Nat
  cap : Nat
  bs : List S.Cv
  u : Value
def Entry.val (e : Entry) : Value := .slice (some ⟨e.g, 0, none⟩) e.bs.length e.cap
theorem Entry.one (e : Entry) : e.val.oneCell' = true := rfl
def heldOf (es : List Entry) : Nat := (es.map fun e => e.cap + 1).sum
/-- What a book counts as held, in an int. -/
def hw (es : List Entry) : Int := IntKind.i64.wrap (heldOf es : Int)
/-- What a kept list and its copy are, beside the book's own blocks. -/
def EntryAt (w : World) (gB base top : Nat) (vl vw : Value) (e : Entry) : Prop :=
  Room w e.g e.cap e.bs ∧ base ≤ e.g ∧ e.g < top ∧ e.g ≠ gB ∧ vl.ownBlock ≠ some e.g ∧ vw.ownBlock ≠ some e.g ∧ URow w e.u e.bs ∧ (∀ k, e.u.ownBlock = some k → k < top ∧ k ≠ gB ∧ vl.ownBlock ≠ some k ∧ vw.ownBlock ≠ some k) ∧ e.cap ≤ 9223372036854775807 ∧ e.bs.length ≤ 1000
/-- The book in block gB, its lists and copies in vl and vw. -/
structure BookIs (w : World) (gB base top : Nat) (vl vw : Value) (es : List Entry) : Prop where
  row : w.heap[gB]? = some (.cells #[vl, vw, .int .i64 (hw es), .bool false] 69 (0, 0))
  lo : base ≤ gB
  hi : gB < top
  top_le : top ≤ w.heap.size
  lists : Lists w vl (es.map Entry.val)
  was : Lists w vw (es.map Entry.u)
  vlSep : ∀ k, vl.ownBlock = some k → base ≤ k ∧ k < top ∧ k ≠ gB
  vwSep : ∀ k, vw.ownBlock = some k → base ≤ k ∧ k < top ∧ k ≠ gB ∧ vl.ownBlock ≠ some k
  ents : ∀ e ∈ es, EntryAt w gB base top vl vw e
  nodup : (es.map Entry.g).Nodup
  few : es.length ≤ 100
/-- All that was there but the book's own blocks is as it was. -/
structure Fr (gB : Nat) (vl vw : Value) (w W : World) : Prop where
  os : W.os = w.os
  tape : W.tape = w.tape
  output : W.output = w.output
  size : w.heap.size ≤ W.heap.size
  block : ∀ k, k < w.heap.size → k ≠ gB → vl.ownBlock ≠ some k → vw.ownBlock ≠ some k → W.heap[k]? = w.heap[k]?
theorem Fr.refl (gB : Nat) (vl vw : Value) (w : World) : Fr gB vl vw w w := ⟨rfl, rfl, rfl, Nat.le_refl _, fun _ _ _ _ _ => rfl⟩
theorem Fr.drew {gB : Nat} {vl vw : Value} {w W : World} (h : Fr gB vl vw w W) : Fr gB vl vw w W.drew := ⟨h.os, h.tape, h.output, h.size, h.block⟩
theorem Fr.alloc {gB : Nat} {vl vw : Value} {w W : World} (h : Fr gB vl vw w W) (o : Obj) : Fr gB vl vw w (W.alloc o) :=
  ⟨h.os, h.tape, h.output, Nat.le_trans h.size (by simp), fun k hk h1 h2 h3 => (heap_alloc_old W o (Nat.lt_of_lt_of_le hk h.size)).trans (h.block k hk h1 h2 h3)⟩
theorem Fr.setCell {gB : Nat} {vl vw : Value} {w W : World} (h : Fr gB vl vw w W) (i : Nat) (v : Value) : Fr gB vl vw w (W.setCell ⟨gB, i, none⟩ v) :=
  have hb := (Below.refl 0 W).setCell (p := ⟨gB, i, none⟩) (Nat.zero_le _) v
  ⟨hb.os.trans h.os, hb.tape.trans h.tape, hb.output.trans h.output, Nat.le_trans h.size hb.size, fun k hk h1 h2 h3 => (heap_setCell_other W ⟨gB, i, none⟩ k v h1).trans (h.block k hk h1 h2 h3)⟩
theorem Fr.grown {gB : Nat} {vl vw : Value} {w W W' : World} {row : Option Nat} (h : Fr gB vl vw w W) (hg : W.grownBy W' row) (hrow : ∀ k, k < w.heap.size → row = some k → vl.ownBlock = some k ∨ vw.ownBlock = some k) : Fr gB vl vw w W' :=
  ⟨hg.os.trans h.os, hg.tape.trans h.tape, hg.output.trans h.output, Nat.le_trans h.size hg.size, fun k hk h1 h2 h3 => (hg.block k (Nat.lt_of_lt_of_le hk h.size) (fun e => by rcases hrow k hk e.symm with h' | h'; exact h2 h'; exact h3 h')).trans (h.block k hk h1 h2 h3)⟩
theorem Fr.below {gB base top : Nat} {vl vw : Value} {es : List Entry} {w W : World} (h : Fr gB vl vw w W) (hb : BookIs w gB base top vl vw es) : Below base w W :=
  ⟨h.os, h.tape, h.output, h.size, fun k hk => h.block k (by have := hb.lo; have := hb.hi; have := hb.top_le; omega) (by have := hb.lo; omega) (fun e => by have := (hb.vlSep k e).1; omega) (fun e => by have := (hb.vwSep k e).1; omega)⟩
theorem EntryAt.kept {w W : World} {gB base top top' : Nat} {vl vw vl' vw' : Value} {e : Entry} (h : EntryAt w gB base top vl vw e) (hf : Fr gB vl vw w W) (ht : top ≤ w.heap.size) (ht' : top ≤ top')
    (hvl : ∀ k, vl'.ownBlock = some k → vl.ownBlock = some k ∨ w.heap.size ≤ k) (hvw : ∀ k, vw'.ownBlock = some k → vw.ownBlock = some k ∨ w.heap.size ≤ k) : EntryAt W gB base top' vl' vw' e := by
  obtain ⟨h1, h2, h3, h4, h5, h6, h7, h8, h9⟩ := h
  have hk : ∀ k, k < top → vl.ownBlock ≠ some k → vl'.ownBlock ≠ some k := fun k hk h e => by rcases hvl k e with h' | h'; exact h h'; omega
  have hk' : ∀ k, k < top → vw.ownBlock ≠ some k → vw'.ownBlock ≠ some k := fun k hk h e => by rcases hvw k e with h' | h'; exact h h'; omega
  refine ⟨?_, h2, by omega, h4, hk _ h3 h5, hk' _ h3 h6, h7.kept fun k hk0 => ?_, fun k hk0 => ?_, h9⟩
  · obtain ⟨cur, q1, q2⟩ := h1
    exact ⟨cur, (hf.block e.g (by omega) h4 h5 h6).trans q1, q2⟩
  · obtain ⟨q1, q2, q3, q4⟩ := h8 k hk0
    exact hf.block k (by omega) q2 q3 q4
  · obtain ⟨q1, q2, q3, q4⟩ := h8 k hk0
    exact ⟨by omega, q2, hk k q1 q3, hk' k q1 q4⟩
theorem heldOf_append (es : List Entry) (e : Entry) : heldOf (es ++ [e]) = heldOf es + (e.cap + 1) := by simp [heldOf]
/-- Block g is none of the book's. -/
structure BookNew (g gB : Nat) (vl vw : Value) (es : List Entry) : Prop where
  ne : g ≠ gB
  vl : vl.ownBlock ≠ some g
  vw : vw.ownBlock ≠ some g
  ents : ∀ e ∈ es, e.g ≠ g
/-- The book behind a list that was kept. -/
theorem BookIs.more {w W : World} {gB base top g cap : Nat} {vl vw vl' vw' u : Value} {bs : List S.Cv} {es : List Entry} (h : BookIs w gB base top vl vw es) (hr : Room w g cap bs) (htop : BookNew g gB vl vw es) (hbase : base ≤ g) (hcap : cap ≤ 9223372036854775807) (hbl : bs.length ≤ 1000)
    (hrow : W.heap[gB]? = some (.cells #[vl', vw', .int .i64 (hw (es ++ [⟨g, cap, bs, u⟩])), .bool false] 69 (0, 0))) (hf : Fr gB vl vw w W)
    (hL : Lists W vl' (es.map Entry.val ++ [.slice (some ⟨g, 0, none⟩) bs.length cap])) (hW : Lists W vw' (es.map Entry.u ++ [u]))
    (hvl : ∀ k, vl'.ownBlock = some k → vl.ownBlock = some k ∨ w.heap.size ≤ k) (hvw : ∀ k, vw'.ownBlock = some k → vw.ownBlock = some k ∨ w.heap.size ≤ k) (hsep : ∀ k, vw'.ownBlock = some k → vl'.ownBlock ≠ some k)
    (hu : URow W u bs) (hub : ∀ k, u.ownBlock = some k → w.heap.size ≤ k ∧ vl'.ownBlock ≠ some k ∧ vw'.ownBlock ≠ some k)
    (hfew : es.length < 100) : BookIs W gB base W.heap.size vl' vw' (es ++ [⟨g, cap, bs, u⟩]) := by
  have hgw : g < w.heap.size := by obtain ⟨cur, q1, _⟩ := hr; exact block_lt_of_row q1
  have hgB : g ≠ gB := htop.ne
  have hgl : vl.ownBlock ≠ some g := htop.vl
  have hgv : vw.ownBlock ≠ some g := htop.vw
  have hts := h.top_le
  refine ⟨hrow, h.lo, Nat.lt_of_lt_of_le h.hi (Nat.le_trans hts hf.size), Nat.le_refl _, by rw [List.map_append]; exact hL, by rw [List.map_append]; exact hW, fun k hk => ?_, fun k hk => ?_, fun e he => ?_, ?_, by simp; omega⟩
  · refine ⟨?_, hL.lt hk, ?_⟩
    · rcases hvl k hk with h' | h'
      · exact (h.vlSep k h').1
      · have := h.lo; have := h.hi; omega
    · rcases hvl k hk with h' | h'
      · exact (h.vlSep k h').2.2
      · have := h.hi; omega
  · refine ⟨?_, hW.lt hk, ?_, hsep k hk⟩
    · rcases hvw k hk with h' | h'
      · exact (h.vwSep k h').1
      · have := h.lo; have := h.hi; omega
    · rcases hvw k hk with h' | h'
      · exact (h.vwSep k h').2.2.1
      · have := h.hi; omega
  · rcases List.mem_append.1 he with he | he
    · exact (h.ents e he).kept hf hts (Nat.le_trans hts hf.size) hvl hvw
    · obtain rfl := List.mem_singleton.1 he
      refine ⟨?_, hbase, Nat.lt_of_lt_of_le hgw hf.size, hgB, ?_, ?_, hu, fun k hk => ?_, hcap, hbl⟩
      · obtain ⟨cur, q1, q2⟩ := hr
        exact ⟨cur, (hf.block g hgw hgB hgl hgv).trans q1, q2⟩
      · intro e; rcases hvl g e with h' | h'; exact hgl h'; omega
      · intro e; rcases hvw g e with h' | h'; exact hgv h'; omega
      · obtain ⟨q1, q2, q3⟩ := hub k hk
        exact ⟨hu.lt hk, by have := h.hi; omega, q2, q3⟩
  · rw [List.map_append, List.nodup_append]
    refine ⟨h.nodup, by simp, fun a ha b hb => ?_⟩
    obtain ⟨e, he, rfl⟩ := List.mem_map.1 ha
    obtain rfl : b = g := by simpa using hb
    exact htop.ents e he
end Dg
end Go.Proofs.YtlcilclhaahopaaDoor
namespace Go.Proofs.YtlcilclhaahopaaDoor
namespace Dg
open Go.RowKit
/-- Only block gB has changed. -/
structure Only (gB : Nat) (w W : World) : Prop where
  os : W.os = w.os
  tape : W.tape = w.tape
  output : W.output = w.output
  size : W.heap.size = w.heap.size
  block : ∀ k, k ≠ gB → W.heap[k]? = w.heap[k]?
theorem Only.refl (gB : Nat) (w : World) : Only gB w w := ⟨rfl, rfl, rfl, rfl, fun _ _ => rfl⟩
theorem Only.trans {gB : Nat} {a b c : World} (h : Only gB a b) (k : Only gB b c) : Only gB a c := ⟨k.os.trans h.os, k.tape.trans h.tape, k.output.trans h.output, k.size.trans h.size, fun j hj => (k.block j hj).trans (h.block j hj)⟩
theorem Only.drew {gB : Nat} {w W : World} (h : Only gB w W) : Only gB w W.drew := ⟨h.os, h.tape, h.output, h.size, h.block⟩
theorem size_setCell (W : World) (a : Addr) (v : Value) : (W.setCell a v).heap.size = W.heap.size := by simp
theorem Only.setCell {gB : Nat} {w W : World} (h : Only gB w W) (i : Nat) (v : Value) : Only gB w (W.setCell ⟨gB, i, none⟩ v) :=
  have hb := (Below.refl 0 W).setCell (p := ⟨gB, i, none⟩) (Nat.zero_le _) v
  ⟨hb.os.trans h.os, hb.tape.trans h.tape, hb.output.trans h.output, (size_setCell W _ v).trans h.size, fun k hk => (heap_setCell_other W ⟨gB, i, none⟩ k v hk).trans (h.block k hk)⟩
theorem _root_.Go.Proofs.YtlcilclhaahopaaDoor.Still.only {gB : Nat} {w W : World} (h : Still w W) : Only gB w W := ⟨h.2.1, h.2.2.1, h.2.2.2, by rw [h.1], fun _ _ => by rw [h.1]⟩
theorem Only.below {gB base : Nat} {w W : World} (h : Only gB w W) (hb : base ≤ gB) : Below base w W := ⟨h.os, h.tape, h.output, by rw [h.size]; exact Nat.le_refl _, fun k hk => h.block k (by omega)⟩
/-- Writing what is there changes nothing. -/
theorem still_setCell {w : World} {g i : Nat} {cs : Array Value} {t : TypeId} {v : Value} (h : w.heap[g]? = some (.cells cs t (0, 0))) (hv : cs[i]? = some v) : Still w (w.setCell ⟨g, i, none⟩ v) := by
  have hb := (Below.refl 0 w).setCell (p := ⟨g, i, none⟩) (Nat.zero_le _) v
  refine ⟨?_, hb.os, hb.tape, hb.output⟩
  apply Array.ext_getElem?
  intro k
  by_cases hk : k = g
  · subst hk
    rw [heap_setCell_same _ _ _ _ _ _ h, h]
    congr 2
    apply Array.ext_getElem?
    intro j
    rw [Array.getElem?_setIfInBounds]
    split
    · rename_i hj
      subst hj
      have := (Array.getElem?_eq_some_iff.1 hv).1
      rw [if_pos this, hv]
    · rfl
  · exact heap_setCell_other w ⟨g, i, none⟩ k v hk
theorem _root_.Go.Proofs.YtlcilclhaahopaaDoor.Still.cell {w W : World} (h : Still w W) {a : Addr} {v : Value} (hc : w.cell? a = some v) : W.cell? a = some v := (World.cell?_of_block (w := w) (by rw [h.1])).trans hc
theorem Only.cell {gB : Nat} {w W : World} (h : Only gB w W) {a : Addr} {v : Value} (hc : w.cell? a = some v) (ha : a.block ≠ gB) : W.cell? a = some v := (World.cell?_of_block (w := w) (h.block _ ha)).trans hc
theorem EntryAt.only {w W : World} {gB base top : Nat} {vl vw vl' vw' : Value} {e : Entry} (h : EntryAt w gB base top vl vw e) (hf : Only gB w W) (hl : vl'.ownBlock = vl.ownBlock) (hw : vw'.ownBlock = vw.ownBlock) : EntryAt W gB base top vl' vw' e := by
  obtain ⟨h1, h2, h3, h4, h5, h6, h7, h8, h9⟩ := h
  refine ⟨?_, h2, h3, h4, by rw [hl]; exact h5, by rw [hw]; exact h6, h7.kept fun k hk => hf.block k (h8 k hk).2.1, fun k hk => ?_, h9⟩
  · obtain ⟨cur, q1, q2⟩ := h1
    exact ⟨cur, (hf.block e.g h4).trans q1, q2⟩
  · rw [hl, hw]; exact h8 k hk
theorem heldOf_cons (e : Entry) (es : List Entry) : heldOf (e :: es) = (e.cap + 1) + heldOf es := by simp [heldOf]
/-- The book without its first list. -/
theorem BookIs.drop {w W : World} {gB base top gl ol cl gw ow cw : Nat} {e : Entry} {es : List Entry}
    (h : BookIs w gB base top (.slice (some ⟨gl, ol, none⟩) (es.length + 1) cl) (.slice (some ⟨gw, ow, none⟩) (es.length + 1) cw) (e :: es)) (hcl : ¬ cl = 1) (hcw : ¬ cw = 1) (hf : Only gB w W)
    (hrow : W.heap[gB]? = some (.cells #[.slice (some ⟨gl, ol + 1, none⟩) es.length (cl - 1), .slice (some ⟨gw, ow + 1, none⟩) es.length (cw - 1), .int .i64 (hw es), .bool false] 69 (0, 0))) :
    BookIs W gB base top (.slice (some ⟨gl, ol + 1, none⟩) es.length (cl - 1)) (.slice (some ⟨gw, ow + 1, none⟩) es.length (cw - 1)) es := by
  have hl := h.lists
  have hw := h.was
  rw [List.map_cons, ← List.length_map (f := Entry.val)] at hl
  rw [List.map_cons, ← List.length_map (f := Entry.u)] at hw
  have hl2 := hl.tail
  have hw2 := hw.tail
  rw [if_neg hcl, List.length_map] at hl2
  rw [if_neg hcw, List.length_map] at hw2
  refine ⟨hrow, h.lo, h.hi, by rw [hf.size]; exact h.top_le, hl2.kept fun k hk => hf.block k (h.vlSep k hk).2.2, hw2.kept fun k hk => hf.block k (h.vwSep k hk).2.2.1, fun k hk => h.vlSep k hk, fun k hk => h.vwSep k hk, fun e' he => (h.ents e' (List.mem_cons_of_mem _ he)).only hf rfl rfl, ?_, ?_⟩
  · have := h.nodup
    rw [List.map_cons, List.nodup_cons] at this
    exact this.2
  · have := h.few
    rw [List.length_cons] at this
    omega
theorem BookIs.raise {w : World} {gB base top top' : Nat} {vl vw : Value} {es : List Entry} (h : BookIs w gB base top vl vw es) (ht : top ≤ top') (ht' : top' ≤ w.heap.size) : BookIs w gB base top' vl vw es :=
  ⟨h.row, h.lo, Nat.lt_of_lt_of_le h.hi ht, ht', h.lists, h.was, fun k hk => ⟨(h.vlSep k hk).1, Nat.lt_of_lt_of_le (h.vlSep k hk).2.1 ht, (h.vlSep k hk).2.2⟩, fun k hk => ⟨(h.vwSep k hk).1, Nat.lt_of_lt_of_le (h.vwSep k hk).2.1 ht, (h.vwSep k hk).2.2⟩,
   fun e he => by
    obtain ⟨h1, h2, h3, h4, h5, h6, h7, h8, h9⟩ := h.ents e he
    exact ⟨h1, h2, Nat.lt_of_lt_of_le h3 ht, h4, h5, h6, h7, fun k hk => ⟨Nat.lt_of_lt_of_le (h8 k hk).1 ht, (h8 k hk).2⟩, h9⟩, h.nodup, h.few⟩
theorem BookIs.still {w W : World} {gB base top : Nat} {vl vw : Value} {es : List Entry} (h : BookIs w gB base top vl vw es) (hs : Still w W) : BookIs W gB base top vl vw es :=
  ⟨by rw [hs.1]; exact h.row, h.lo, h.hi, by rw [hs.1]; exact h.top_le, h.lists.kept fun k _ => by rw [hs.1], h.was.kept fun k _ => by rw [hs.1], h.vlSep, h.vwSep, fun e he => (h.ents e he).only hs.only rfl rfl, h.nodup, h.few⟩
/-- How many lists the book in block gB has. -/
def lenAt (w : World) (gB : Nat) : Nat := match w.cell? ⟨gB, 0, none⟩ with | some (.slice _ n _) => n | _ => 0
theorem lenAt_of {w : World} {gB n c : Nat} {ao : Option Addr} (h : w.cell? ⟨gB, 0, none⟩ = some (.slice ao n c)) : lenAt w gB = n := by rw [lenAt, h]
end Dg
end Go.Proofs.YtlcilclhaahopaaDoor
namespace Go.Proofs.YtlcilclhaahopaaDoor
namespace Dg
theorem wrap_more (x y : Int) : IntKind.i64.wrap (IntKind.i64.wrap (IntKind.i64.wrap x + y) + 1) = IntKind.i64.wrap (x + (y + 1)) := by
  simp only [IntKind.wrap_i64]
  omega
theorem wrap_less (x y : Int) : IntKind.i64.wrap (IntKind.i64.wrap (IntKind.i64.wrap (y + 1 + x) - y) - 1) = IntKind.i64.wrap x := by
  simp only [IntKind.wrap_i64]
  omega
theorem hw_more (es : List Entry) (e : Entry) : hw (es ++ [e]) = IntKind.i64.wrap (IntKind.i64.wrap (hw es + (e.cap : Int)) + 1) := by
  unfold hw
  rw [wrap_more, heldOf_append]
  congr 1
theorem hw_less (es : List Entry) (e : Entry) : hw es = IntKind.i64.wrap (IntKind.i64.wrap (hw (e :: es) - (e.cap : Int)) - 1) := by
  unfold hw
  have h : ((heldOf (e :: es) : Nat) : Int) = (e.cap : Int) + 1 + (heldOf es : Int) := by rw [heldOf_cons]; omega
  rw [h, wrap_less]
end Dg
end Go.Proofs.YtlcilclhaahopaaDoor
