/- What a Book of lists of bytes holds in memory; steps inside a drawn region. -/
import Derived.Test.YtnplijgdklnipaaKa
namespace Go.Proofs.Ytnplijgdklnipaa
namespace Dg
open Go.RowKit
/-- A list that was kept: its block, its room, its bytes; and the copy. -/
structure Entry where
  g : Nat
  cap : Nat
  bs : List S.Ln
  u : Value
def Entry.val (e : Entry) : Value := .slice (some ⟨e.g, 0, none⟩) e.bs.length e.cap
theorem Entry.one (e : Entry) : e.val.oneCell' = true := rfl
def heldOf (es : List Entry) : Nat := (es.map fun e => e.cap + 1).sum
/-- What a book counts as held, in an int. -/
def hw (es : List Entry) : Int := IntKind.i64.wrap (heldOf es : Int)
/-- What a kept list and its copy are, beside the book's own blocks. -/
def EntryAt (w : World) (gB base top : Nat) (vl vw : Value) (e : Entry) : Prop :=
  Room w e.g e.cap e.bs ∧ base ≤ e.g ∧ e.g < top ∧ e.g ≠ gB ∧ vl.ownBlock ≠ some e.g ∧ vw.ownBlock ≠ some e.g ∧ URow w e.u e.bs ∧ (∀ k, e.u.ownBlock = some k → k < top ∧ k ≠ gB ∧ vl.ownBlock ≠ some k ∧ vw.ownBlock ≠ some k) ∧ e.cap ≤ 9223372036854775807 ∧ e.bs.length ≤ 1000
/-- The book in block gB, its lists and copies in vl and vw. -/
structure BookIs (w : World) (gB base top : Nat) (vl vw : Value) (es : List Entry) : Prop where
  row : w.heap[gB]? = some (.cells #[vl, vw, .int .i64 (hw es), .bool false] 49 (0, 0))
  lo : base ≤ gB
  hi : gB < top
  top_le : top ≤ w.heap.size
  lists : Lists w vl (es.map Entry.val)
  was : Lists w vw (es.map Entry.u)
  vlSep : ∀ k, vl.ownBlock = some k → base ≤ k ∧ k < top ∧ k ≠ gB
  vwSep : ∀ k, vw.ownBlock = some k → base ≤ k ∧ k < top ∧ k ≠ gB ∧ vl.ownBlock ≠ some k
  ents : ∀ e ∈ es, EntryAt w gB base top vl vw e
  nodup : (es.map Entry.g).Nodup
  few : es.length ≤ 100
/-- All that was there but the book's own blocks is as it was. -/
structure Fr (gB : Nat) (vl vw : Value) (w W : World) : Prop where
  os : W.os = w.os
  tape : W.tape = w.tape
  output : W.output = w.output
  size : w.heap.size ≤ W.heap.size
  block : ∀ k, k < w.heap.size → k ≠ gB → vl.ownBlock ≠ some k → vw.ownBlock ≠ some k → W.heap[k]? = w.heap[k]?
theorem Fr.refl (gB : Nat) (vl vw : Value) (w : World) : Fr gB vl vw w w := ⟨rfl, rfl, rfl, Nat.le_refl _, fun _ _ _ _ _ => rfl⟩
theorem Fr.drew {gB : Nat} {vl vw : Value} {w W : World} (h : Fr gB vl vw w W) : Fr gB vl vw w W.drew := ⟨h.os, h.tape, h.output, h.size, h.block⟩
theorem Fr.alloc {gB : Nat} {vl vw : Value} {w W : World} (h : Fr gB vl vw w W) (o : Obj) : Fr gB vl vw w (W.alloc o) :=
  ⟨h.os, h.tape, h.output, Nat.le_trans h.size (by simp), fun k hk h1 h2 h3 => (heap_alloc_old W o (Nat.lt_of_lt_of_le hk h.size)).trans (h.block k hk h1 h2 h3)⟩
theorem Fr.setCell {gB : Nat} {vl vw : Value} {w W : World} (h : Fr gB vl vw w W) (i : Nat) (v : Value) : Fr gB vl vw w (W.setCell ⟨gB, i, none⟩ v) :=
  have hb := (Below.refl 0 W).setCell (p := ⟨gB, i, none⟩) (Nat.zero_le _) v
  ⟨hb.os.trans h.os, hb.tape.trans h.tape, hb.output.trans h.output, Nat.le_trans h.size hb.size, fun k hk h1 h2 h3 => (heap_setCell_other W ⟨gB, i, none⟩ k v h1).trans (h.block k hk h1 h2 h3)⟩
theorem Fr.grown {gB : Nat} {vl vw : Value} {w W W' : World} {row : Option Nat} (h : Fr gB vl vw w W) (hg : W.grownBy W' row) (hrow : ∀ k, k < w.heap.size → row = some k → vl.ownBlock = some k ∨ vw.ownBlock = some k) : Fr gB vl vw w W' :=
  ⟨hg.os.trans h.os, hg.tape.trans h.tape, hg.output.trans h.output, Nat.le_trans h.size hg.size, fun k hk h1 h2 h3 => (hg.block k (Nat.lt_of_lt_of_le hk h.size) (fun e => by rcases hrow k hk e.symm with h' | h'; exact h2 h'; exact h3 h')).trans (h.block k hk h1 h2 h3)⟩
theorem Fr.below {gB base top : Nat} {vl vw : Value} {es : List Entry} {w W : World} (h : Fr gB vl vw w W) (hb : BookIs w gB base top vl vw es) : Below base w W :=
  ⟨h.os, h.tape, h.output, h.size, fun k hk => h.block k (by have := hb.lo; have := hb.hi; have := hb.top_le; omega) (by have := hb.lo; omega) (fun e => by have := (hb.vlSep k e).1; omega) (fun e => by have := (hb.vwSep k e).1; omega)⟩
theorem EntryAt.kept {w W : World} {gB base top top' : Nat} {vl vw vl' vw' : Value} {e : Entry} (h : EntryAt w gB base top vl vw e) (hf : Fr gB vl vw w W) (ht : top ≤ w.heap.size) (ht' : top ≤ top')
    (hvl : ∀ k, vl'.ownBlock = some k → vl.ownBlock = some k ∨ w.heap.size ≤ k) (hvw : ∀ k, vw'.ownBlock = some k → vw.ownBlock = some k ∨ w.heap.size ≤ k) : EntryAt W gB base top' vl' vw' e := by
  obtain ⟨h1, h2, h3, h4, h5, h6, h7, h8, h9⟩ := h
  have hk : ∀ k, k < top → vl.ownBlock ≠ some k → vl'.ownBlock ≠ some k := fun k hk h e => by rcases hvl k e with h' | h'; exact h h'; omega
  have hk' : ∀ k, k < top → vw.ownBlock ≠ some k → vw'.ownBlock ≠ some k := fun k hk h e => by rcases hvw k e with h' | h'; exact h h'; omega
  refine ⟨?_, h2, by omega, h4, hk _ h3 h5, hk' _ h3 h6, h7.kept fun k hk0 => ?_, fun k hk0 => ?_, h9⟩
  · obtain ⟨cur, q1, q2⟩ := h1
    exact ⟨cur, (hf.block e.g (by omega) h4 h5 h6).trans q1, q2⟩
  · obtain ⟨q1, q2, q3, q4⟩ := h8 k hk0
    exact hf.block k (by omega) q2 q3 q4
  · obtain ⟨q1, q2, q3, q4⟩ := h8 k hk0
    exact ⟨by omega, q2, hk k q1 q3, hk' k q1 q4⟩
theorem heldOf_append (es : List Entry) (e : Entry) : heldOf (es ++ [e]) = heldOf es + (e.cap + 1) := by simp [heldOf]
/-- Block g is none of the book's. -/
structure BookNew (g gB : Nat) (vl vw : Value) (es : List Entry) : Prop where
  ne : g ≠ gB
  vl : vl.ownBlock ≠ some g
  vw : vw.ownBlock ≠ some g
  ents : ∀ e ∈ es, e.g ≠ g
/-- The book behind a list that was kept. -/
theorem BookIs.more {w W : World} {gB base top g cap : Nat} {vl vw vl' vw' u : Value} {bs : List S.Ln} {es : List Entry} (h : BookIs w gB base top vl vw es) (hr : Room w g cap bs) (htop : BookNew g gB vl vw es) (hbase : base ≤ g) (hcap : cap ≤ 9223372036854775807) (hbl : bs.length ≤ 1000)
    (hrow : W.heap[gB]? = some (.cells #[vl', vw', .int .i64 (hw (es ++ [⟨g, cap, bs, u⟩])), .bool false] 49 (0, 0))) (hf : Fr gB vl vw w W)
    (hL : Lists W vl' (es.map Entry.val ++ [.slice (some ⟨g, 0, none⟩) bs.length cap])) (hW : Lists W vw' (es.map Entry.u ++ [u]))
    (hvl : ∀ k, vl'.ownBlock = some k → vl.ownBlock = some k ∨ w.heap.size ≤ k) (hvw : ∀ k, vw'.ownBlock = some k → vw.ownBlock = some k ∨ w.heap.size ≤ k) (hsep : ∀ k, vw'.ownBlock = some k → vl'.ownBlock ≠ some k)
    (hu : URow W u bs) (hub : ∀ k, u.ownBlock = some k → w.heap.size ≤ k ∧ vl'.ownBlock ≠ some k ∧ vw'.ownBlock ≠ some k)
    (hfew : es.length < 100) : BookIs W gB base W.heap.size vl' vw' (es ++ [⟨g, cap, bs, u⟩]) := by
  have hgw : g < w.heap.size := by obtain ⟨cur, q1, _⟩ := hr; exact block_lt_of_row q1
  have hgB : g ≠ gB := htop.ne
  have hgl : vl.ownBlock ≠ some g := htop.vl
  have hgv : vw.ownBlock ≠ some g := htop.vw
  have hts := h.top_le
  refine ⟨hrow, h.lo, Nat.lt_of_lt_of_le h.hi (Nat.le_trans hts hf.size), Nat.le_refl _, by rw [List.map_append]; exact hL, by rw [List.map_append]; exact hW, fun k hk => ?_, fun k hk => ?_, fun e he => ?_, ?_, by simp; omega⟩
  · refine ⟨?_, hL.lt hk, ?_⟩
    · rcases hvl k hk with h' | h'
      · exact (h.vlSep k h').1
      · have := h.lo; have := h.hi; omega
    · rcases hvl k hk with h' | h'
      · exact (h.vlSep k h').2.2
      · have := h.hi; omega
  · refine ⟨?_, hW.lt hk, ?_, hsep k hk⟩
    · rcases hvw k hk with h' | h'
      · exact (h.vwSep k h').1
      · have := h.lo; have := h.hi; omega
    · rcases hvw k hk with h' | h'
      · exact (h.vwSep k h').2.2.1
      · have := h.hi; omega
  · rcases List.mem_append.1 he with he | he
    · exact (h.ents e he).kept hf hts (Nat.le_trans hts hf.size) hvl hvw
    · obtain rfl := List.mem_singleton.1 he
      refine ⟨?_, hbase, Nat.lt_of_lt_of_le hgw hf.size, hgB, ?_, ?_, hu, fun k hk => ?_, hcap, hbl⟩
      · obtain ⟨cur, q1, q2⟩ := hr
        exact ⟨cur, (hf.block g hgw hgB hgl hgv).trans q1, q2⟩
      · intro e; rcases hvl g e with h' | h'; exact hgl h'; omega
      · intro e; rcases hvw g e with h' | h'; exact hgv h'; omega
      · obtain ⟨q1, q2, q3⟩ := hub k hk
        exact ⟨hu.lt hk, by have := h.hi; omega, q2, q3⟩
  · rw [List.map_append, List.nodup_append]
    refine ⟨h.nodup, by simp, fun a ha b hb => ?_⟩
    obtain ⟨e, he, rfl⟩ := List.mem_map.1 ha
    obtain rfl : b = g := by simpa using hb
    exact htop.ents e he
end Dg
end Go.Proofs.Ytnplijgdklnipaa
