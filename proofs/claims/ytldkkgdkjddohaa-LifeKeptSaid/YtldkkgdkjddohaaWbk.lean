/- What a Book of lists of bytes holds in memory; steps inside a drawn region. -/
import Derived.Test.YtldkkgdkjddohaaLists
namespace Go.Proofs.Ytldkkgdkjddohaa
open Go.RowKit
/-- A list that was kept: its block, its room, its bytes; and the copy. -/
structure Entry where
  g : Option Nat
  cap : Nat
  bs : List Int
  u : Value
def aoOf (g : Option Nat) : Option Addr := g.map fun b => ⟨b, 0, none⟩
def Entry.val (e : Entry) : Value := .slice (aoOf e.g) e.bs.length e.cap
theorem Entry.one (e : Entry) : e.val.oneCell' = true := rfl
/-- append([]byte(nil), l...): a copy of l. -/
theorem run_copy_nil (w : World) (v : Value) (bs : List Int) (ty : TypeId) (hv : SliceAt w v bs) (hb : bs.length ≤ 100000) :
    ∃ v' w', (Builtin.append_ #[22, 22] ty #[.slice none 0 0, v]).run Try.prog w = .ok v' w' ∧ (URow w' v' bs ∧ w.grownBy w' none ∧ ∀ k, v'.ownBlock = some k → w.heap.size ≤ k) := by
  obtain ⟨i, hi, hz0, hz1, hz2⟩ := info_parts infoB
  have key : ∀ (ad : Addr) (c : Nat), (∀ j x, (S.v8l bs)[j]? = some x → w.cell? (ad.add j) = some x) → v = .slice (some ad) bs.length c → ∃ v' w', (Builtin.append_ #[22, 22] ty #[.slice none 0 0, v]).run Try.prog w = .ok v' w' ∧ (URow w' v' bs ∧ w.grownBy w' none ∧ ∀ k, v'.ownBlock = some k → w.heap.size ≤ k) := by
    rintro ad c hc rfl
    obtain ⟨v', w', hr, ho, hg, _⟩ := run_append_own (P := Try.prog) w w.heap.size 22 ty 3 i (.int .i64 0) 1 8 Try.underlying22 hi hz0 hz1 hz2 rfl (by omega) (.slice none 0 0) 0 [] (World.ownsRow_nil w w.heap.size 3 1) ad bs.length c (S.v8l bs) (by rw [S.v8l_length]; omega) hc (S.v8l_one _) (by simp only [maxLen]; omega) (by omega) (Nat.le_refl _)
    rw [Nat.zero_add, List.nil_append] at ho
    refine ⟨v', w', hr, ⟨ho.1, ?_⟩, hg, fun k hk => (ho.lt k hk).1⟩
    rcases ho.2 with h2 | ⟨g, cap, cur, h2, _, h3⟩
    · exact Or.inl h2
    · exact Or.inr ⟨g, cap, cur, h2, Nat.zero_le _, h3⟩
  rcases hv with ⟨rfl, rfl⟩ | ⟨a, cap, rfl, _, rfl⟩ | ⟨b, off, cap, rfl, h1, h2, h3, h4⟩
  · exact ⟨_, w, run_append_owned_none (P := Try.prog) (w := w) 0 22 ty 3 i 1 Try.underlying22 hi (.slice none 0 0) 0 [] (World.ownsRow_nil w 0 3 1), World.ownsRow_nil w 0 3 1, ⟨rfl, rfl, rfl, Nat.le_refl _, fun _ _ _ => rfl⟩, fun k hk => by simp [Value.ownBlock] at hk⟩
  · exact key a cap (fun j x h => by simp [S.v8l] at h) rfl
  · refine key ⟨b, off, none⟩ cap (fun j x h => ?_) rfl
    obtain ⟨rfl, hj⟩ := S.v8l_at bs j x h
    rw [Addr.add_lit]
    exact h4 j hj
def heldOf (es : List Entry) : Nat := (es.map fun e => e.cap + 1).sum
/-- What a book counts as held, in an int. -/
def hw (es : List Entry) : Int := IntKind.i64.wrap (heldOf es : Int)
/-- A list in a block of its own, or one that is nil. -/
def Ed (w : World) (g : Option Nat) (cap : Nat) (bs : List Int) : Prop := (∀ b, g = some b → Room w b cap bs) ∧ (g = none → cap = 0 ∧ bs = [])
theorem Ed.le {w : World} {g : Option Nat} {cap : Nat} {bs : List Int} (h : Ed w g cap bs) : bs.length ≤ cap := by
  cases g with
  | none => have := h.2 rfl; rw [this.2]; simp
  | some b => obtain ⟨_, _, _, h3, _⟩ := h.1 b rfl; exact h3
theorem Ed.sliceAt {w : World} {g : Option Nat} {cap : Nat} {bs : List Int} {ao : Option Addr} (h : Ed w g cap bs) (hao : ao = aoOf g) (hr : bs.length ≤ 100000) : SliceAt w (.slice ao bs.length cap) bs := by
  subst hao
  cases g with
  | none => obtain ⟨rfl, rfl⟩ := h.2 rfl; exact Or.inl ⟨rfl, rfl⟩
  | some b => exact (h.1 b rfl).sliceAt hr
theorem Ed.same {w W : World} {g : Option Nat} {cap : Nat} {bs : List Int} (h : Ed w g cap bs) (hb : ∀ b, g = some b → W.heap[b]? = w.heap[b]?) : Ed W g cap bs :=
  ⟨fun b e => by obtain ⟨cur, q1, q2⟩ := h.1 b e; exact ⟨cur, (hb b e).trans q1, q2⟩, h.2⟩
theorem Ed.kept {w W : World} {g : Option Nat} {cap : Nat} {bs : List Int} (h : Ed w g cap bs) (hb : ∀ k, k < w.heap.size → W.heap[k]? = w.heap[k]?) : Ed W g cap bs :=
  h.same fun b e => by obtain ⟨cur, q1, _⟩ := h.1 b e; exact hb b (block_lt_of_row q1)
/-- What a kept list and its copy are, beside the book's own blocks. -/
structure EntryAt (w : World) (gB base top : Nat) (vl vw : Value) (e : Entry) : Prop where
  ed : Ed w e.g e.cap e.bs
  at_ : ∀ b, e.g = some b → base ≤ b ∧ b < top ∧ b ≠ gB ∧ vl.ownBlock ≠ some b ∧ vw.ownBlock ≠ some b
  cp : URow w e.u e.bs
  cpAt : ∀ k, e.u.ownBlock = some k → k < top ∧ k ≠ gB ∧ vl.ownBlock ≠ some k ∧ vw.ownBlock ≠ some k
  cpLo : ∀ k, e.u.ownBlock = some k → base ≤ k
  capl : e.cap ≤ 9223372036854775807
  bsl : e.bs.length ≤ 100000
/-- The book in block gB, its lists and copies in vl and vw. -/
structure BookIs (w : World) (gB base top : Nat) (vl vw : Value) (es : List Entry) : Prop where
  row : w.heap[gB]? = some (.cells #[vl, vw, .int .i64 (hw es), .bool false] 31 (0, 0))
  lo : base ≤ gB
  hi : gB < top
  top_le : top ≤ w.heap.size
  lists : Lists w vl (es.map Entry.val)
  was : Lists w vw (es.map Entry.u)
  vlSep : ∀ k, vl.ownBlock = some k → base ≤ k ∧ k < top ∧ k ≠ gB
  vwSep : ∀ k, vw.ownBlock = some k → base ≤ k ∧ k < top ∧ k ≠ gB ∧ vl.ownBlock ≠ some k
  ents : ∀ e ∈ es, EntryAt w gB base top vl vw e
  nodup : (es.filterMap Entry.g).Nodup
  few : es.length ≤ 100
/-- All that was there but the book's own blocks is as it was. -/
structure Fr (gB : Nat) (vl vw : Value) (w W : World) : Prop where
  os : W.os = w.os
  tape : W.tape = w.tape
  output : W.output = w.output
  size : w.heap.size ≤ W.heap.size
  block : ∀ k, k < w.heap.size → k ≠ gB → vl.ownBlock ≠ some k → vw.ownBlock ≠ some k → W.heap[k]? = w.heap[k]?
theorem Fr.refl (gB : Nat) (vl vw : Value) (w : World) : Fr gB vl vw w w := ⟨rfl, rfl, rfl, Nat.le_refl _, fun _ _ _ _ _ => rfl⟩
theorem Fr.drew {gB : Nat} {vl vw : Value} {w W : World} (h : Fr gB vl vw w W) : Fr gB vl vw w W.drew := ⟨h.os, h.tape, h.output, h.size, h.block⟩
theorem Fr.alloc {gB : Nat} {vl vw : Value} {w W : World} (h : Fr gB vl vw w W) (o : Obj) : Fr gB vl vw w (W.alloc o) :=
  ⟨h.os, h.tape, h.output, Nat.le_trans h.size (by simp), fun k hk h1 h2 h3 => (heap_alloc_old W o (Nat.lt_of_lt_of_le hk h.size)).trans (h.block k hk h1 h2 h3)⟩
theorem Fr.setCell {gB : Nat} {vl vw : Value} {w W : World} (h : Fr gB vl vw w W) (i : Nat) (v : Value) : Fr gB vl vw w (W.setCell ⟨gB, i, none⟩ v) :=
  have hb := (Below.refl 0 W).setCell (p := ⟨gB, i, none⟩) (Nat.zero_le _) v
  ⟨hb.os.trans h.os, hb.tape.trans h.tape, hb.output.trans h.output, Nat.le_trans h.size hb.size, fun k hk h1 h2 h3 => (heap_setCell_other W ⟨gB, i, none⟩ k v h1).trans (h.block k hk h1 h2 h3)⟩
theorem Fr.grown {gB : Nat} {vl vw : Value} {w W W' : World} {row : Option Nat} (h : Fr gB vl vw w W) (hg : W.grownBy W' row) (hrow : ∀ k, k < w.heap.size → row = some k → vl.ownBlock = some k ∨ vw.ownBlock = some k) : Fr gB vl vw w W' :=
  ⟨hg.os.trans h.os, hg.tape.trans h.tape, hg.output.trans h.output, Nat.le_trans h.size hg.size, fun k hk h1 h2 h3 => (hg.block k (Nat.lt_of_lt_of_le hk h.size) (fun e => by rcases hrow k hk e.symm with h' | h'; exact h2 h'; exact h3 h')).trans (h.block k hk h1 h2 h3)⟩
theorem Fr.below {gB base top : Nat} {vl vw : Value} {es : List Entry} {w W : World} (h : Fr gB vl vw w W) (hb : BookIs w gB base top vl vw es) : Below base w W :=
  ⟨h.os, h.tape, h.output, h.size, fun k hk => h.block k (by have := hb.lo; have := hb.hi; have := hb.top_le; omega) (by have := hb.lo; omega) (fun e => by have := (hb.vlSep k e).1; omega) (fun e => by have := (hb.vwSep k e).1; omega)⟩
theorem EntryAt.kept {w W : World} {gB base top top' : Nat} {vl vw vl' vw' : Value} {e : Entry} (h : EntryAt w gB base top vl vw e) (hf : Fr gB vl vw w W) (ht : top ≤ w.heap.size) (ht' : top ≤ top')
    (hvl : ∀ k, vl'.ownBlock = some k → vl.ownBlock = some k ∨ w.heap.size ≤ k) (hvw : ∀ k, vw'.ownBlock = some k → vw.ownBlock = some k ∨ w.heap.size ≤ k) : EntryAt W gB base top' vl' vw' e := by
  have hk : ∀ k, k < top → vl.ownBlock ≠ some k → vl'.ownBlock ≠ some k := fun k hk h e => by rcases hvl k e with h' | h'; exact h h'; omega
  have hk' : ∀ k, k < top → vw.ownBlock ≠ some k → vw'.ownBlock ≠ some k := fun k hk h e => by rcases hvw k e with h' | h'; exact h h'; omega
  refine ⟨h.ed.same fun b e => ?_, fun b e => ?_, h.cp.kept fun k hk0 => ?_, fun k hk0 => ?_, h.cpLo, h.capl, h.bsl⟩
  · obtain ⟨_, q1, q2, q3, q4⟩ := h.at_ b e
    exact hf.block b (by omega) q2 q3 q4
  · obtain ⟨q0, q1, q2, q3, q4⟩ := h.at_ b e
    exact ⟨q0, by omega, q2, hk b q1 q3, hk' b q1 q4⟩
  · obtain ⟨q1, q2, q3, q4⟩ := h.cpAt k hk0
    exact hf.block k (by omega) q2 q3 q4
  · obtain ⟨q1, q2, q3, q4⟩ := h.cpAt k hk0
    exact ⟨by omega, q2, hk k q1 q3, hk' k q1 q4⟩
theorem heldOf_append (es : List Entry) (e : Entry) : heldOf (es ++ [e]) = heldOf es + (e.cap + 1) := by simp [heldOf]
/-- The book behind a list that was kept. -/
theorem BookIs.more {w W : World} {gB base top cap : Nat} {g : Option Nat} {ao : Option Addr} {vl vw vl' vw' u : Value} {bs : List Int} {es : List Entry} (h : BookIs w gB base top vl vw es) (hr : Ed w g cap bs) (hao : ao = aoOf g) (htop : ∀ b, g = some b → top ≤ b) (hbase : ∀ b, g = some b → base ≤ b) (hcap : cap ≤ 9223372036854775807) (hbl : bs.length ≤ 100000)
    (hrow : W.heap[gB]? = some (.cells #[vl', vw', .int .i64 (hw (es ++ [⟨g, cap, bs, u⟩])), .bool false] 31 (0, 0))) (hf : Fr gB vl vw w W)
    (hL : Lists W vl' (es.map Entry.val ++ [.slice ao bs.length cap])) (hW : Lists W vw' (es.map Entry.u ++ [u]))
    (hvl : ∀ k, vl'.ownBlock = some k → vl.ownBlock = some k ∨ w.heap.size ≤ k) (hvw : ∀ k, vw'.ownBlock = some k → vw.ownBlock = some k ∨ w.heap.size ≤ k) (hsep : ∀ k, vw'.ownBlock = some k → vl'.ownBlock ≠ some k)
    (hu : URow W u bs) (hub : ∀ k, u.ownBlock = some k → w.heap.size ≤ k ∧ vl'.ownBlock ≠ some k ∧ vw'.ownBlock ≠ some k)
    (hfew : es.length < 100) : BookIs W gB base W.heap.size vl' vw' (es ++ [⟨g, cap, bs, u⟩]) := by
  subst hao
  have hgw : ∀ b, g = some b → b < w.heap.size := fun b e => by obtain ⟨cur, q1, _⟩ := hr.1 b e; exact block_lt_of_row q1
  have hgB : ∀ b, g = some b → b ≠ gB := fun b e => by have := h.hi; have := htop b e; omega
  have hgl : ∀ b, g = some b → vl.ownBlock ≠ some b := fun b e c => by have := (h.vlSep b c).2.1; have := htop b e; omega
  have hgv : ∀ b, g = some b → vw.ownBlock ≠ some b := fun b e c => by have := (h.vwSep b c).2.1; have := htop b e; omega
  have hts := h.top_le
  refine ⟨hrow, h.lo, Nat.lt_of_lt_of_le h.hi (Nat.le_trans hts hf.size), Nat.le_refl _, by rw [List.map_append]; exact hL, by rw [List.map_append]; exact hW, fun k hk => ?_, fun k hk => ?_, fun e he => ?_, ?_, by simp; omega⟩
  · refine ⟨?_, hL.lt hk, ?_⟩
    · rcases hvl k hk with h' | h'
      · exact (h.vlSep k h').1
      · have := h.lo; have := h.hi; omega
    · rcases hvl k hk with h' | h'
      · exact (h.vlSep k h').2.2
      · have := h.hi; omega
  · refine ⟨?_, hW.lt hk, ?_, hsep k hk⟩
    · rcases hvw k hk with h' | h'
      · exact (h.vwSep k h').1
      · have := h.lo; have := h.hi; omega
    · rcases hvw k hk with h' | h'
      · exact (h.vwSep k h').2.2.1
      · have := h.hi; omega
  · rcases List.mem_append.1 he with he | he
    · exact (h.ents e he).kept hf hts (Nat.le_trans hts hf.size) hvl hvw
    · obtain rfl := List.mem_singleton.1 he
      refine ⟨hr.same fun b e => hf.block b (hgw b e) (hgB b e) (hgl b e) (hgv b e), fun b e => ⟨hbase b e, Nat.lt_of_lt_of_le (hgw b e) hf.size, hgB b e, fun c => ?_, fun c => ?_⟩, hu, fun k hk => ?_, fun k hk => by have := (hub k hk).1; have := h.lo; have := h.hi; omega, hcap, hbl⟩
      · have := hgw b e; rcases hvl b c with h' | h'; exact hgl b e h'; omega
      · have := hgw b e; rcases hvw b c with h' | h'; exact hgv b e h'; omega
      · obtain ⟨q1, q2, q3⟩ := hub k hk
        exact ⟨hu.lt hk, by have := h.hi; omega, q2, q3⟩
  · rw [List.filterMap_append, List.nodup_append]
    refine ⟨h.nodup, ?_, fun a ha b hb => ?_⟩
    · cases g <;> simp
    · obtain ⟨e, he, hea⟩ := List.mem_filterMap.1 ha
      have hgb : g = some b := by cases g <;> simp_all
      have := ((h.ents e he).at_ a hea).2.1
      have := htop b hgb
      omega
end Go.Proofs.Ytldkkgdkjddohaa
