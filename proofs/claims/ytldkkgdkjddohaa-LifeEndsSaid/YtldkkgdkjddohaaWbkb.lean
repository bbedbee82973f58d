/- The book without its first list; what stays where only the book's own block is written. -/
import Derived.Test.YtldkkgdkjddohaaWbk
namespace Go.Proofs.Ytldkkgdkjddohaa
open Go.RowKit
/-- Only block gB has changed. -/
structure Only (gB : Nat) (w W : World) : Prop where
  os : W.os = w.os
  tape : W.tape = w.tape
  output : W.output = w.output
  size : W.heap.size = w.heap.size
  block : ∀ k, k ≠ gB → W.heap[k]? = w.heap[k]?
theorem Only.refl (gB : Nat) (w : World) : Only gB w w := ⟨rfl, rfl, rfl, rfl, fun _ _ => rfl⟩
theorem Only.trans {gB : Nat} {a b c : World} (h : Only gB a b) (k : Only gB b c) : Only gB a c := ⟨k.os.trans h.os, k.tape.trans h.tape, k.output.trans h.output, k.size.trans h.size, fun j hj => (k.block j hj).trans (h.block j hj)⟩
theorem Only.drew {gB : Nat} {w W : World} (h : Only gB w W) : Only gB w W.drew := ⟨h.os, h.tape, h.output, h.size, h.block⟩
theorem size_setCell (W : World) (a : Addr) (v : Value) : (W.setCell a v).heap.size = W.heap.size := by simp
theorem Only.setCell {gB : Nat} {w W : World} (h : Only gB w W) (i : Nat) (v : Value) : Only gB w (W.setCell ⟨gB, i, none⟩ v) :=
  have hb := (Below.refl 0 W).setCell (p := ⟨gB, i, none⟩) (Nat.zero_le _) v
  ⟨hb.os.trans h.os, hb.tape.trans h.tape, hb.output.trans h.output, (size_setCell W _ v).trans h.size, fun k hk => (heap_setCell_other W ⟨gB, i, none⟩ k v hk).trans (h.block k hk)⟩
theorem Still.only {gB : Nat} {w W : World} (h : Still w W) : Only gB w W := ⟨h.2.1, h.2.2.1, h.2.2.2, by rw [h.1], fun _ _ => by rw [h.1]⟩
theorem Only.below {gB base : Nat} {w W : World} (h : Only gB w W) (hb : base ≤ gB) : Below base w W := ⟨h.os, h.tape, h.output, by rw [h.size]; exact Nat.le_refl _, fun k hk => h.block k (by omega)⟩
/-- Writing what is there changes nothing. -/
theorem still_setCell {w : World} {g i : Nat} {cs : Array Value} {t : TypeId} {v : Value} (h : w.heap[g]? = some (.cells cs t (0, 0))) (hv : cs[i]? = some v) : Still w (w.setCell ⟨g, i, none⟩ v) := by
  have hb := (Below.refl 0 w).setCell (p := ⟨g, i, none⟩) (Nat.zero_le _) v
  refine ⟨?_, hb.os, hb.tape, hb.output⟩
  apply Array.ext_getElem?
  intro k
  by_cases hk : k = g
  · subst hk
    rw [heap_setCell_same _ _ _ _ _ _ h, h]
    congr 2
    apply Array.ext_getElem?
    intro j
    rw [Array.getElem?_setIfInBounds]
    split
    · rename_i hj
      subst hj
      have := (Array.getElem?_eq_some_iff.1 hv).1
      rw [if_pos this, hv]
    · rfl
  · exact heap_setCell_other w ⟨g, i, none⟩ k v hk
theorem Still.cell {w W : World} (h : Still w W) {a : Addr} {v : Value} (hc : w.cell? a = some v) : W.cell? a = some v := (World.cell?_of_block (w := w) (by rw [h.1])).trans hc
theorem Only.cell {gB : Nat} {w W : World} (h : Only gB w W) {a : Addr} {v : Value} (hc : w.cell? a = some v) (ha : a.block ≠ gB) : W.cell? a = some v := (World.cell?_of_block (w := w) (h.block _ ha)).trans hc
theorem EntryAt.only {w W : World} {gB base top : Nat} {vl vw vl' vw' : Value} {e : Entry} (h : EntryAt w gB base top vl vw e) (hf : Only gB w W) (hl : vl'.ownBlock = vl.ownBlock) (hw : vw'.ownBlock = vw.ownBlock) : EntryAt W gB base top vl' vw' e := by
  refine ⟨h.ed.same fun b e => hf.block b (h.at_ b e).2.2.1, fun b e => ?_, h.cp.kept fun k hk => hf.block k (h.cpAt k hk).2.1, fun k hk => ?_, h.cpLo, h.capl, h.bsl⟩
  · rw [hl, hw]; exact h.at_ b e
  · rw [hl, hw]; exact h.cpAt k hk
theorem heldOf_cons (e : Entry) (es : List Entry) : heldOf (e :: es) = (e.cap + 1) + heldOf es := by simp [heldOf]
/-- The book without its first list. -/
theorem BookIs.drop {w W : World} {gB base top gl ol cl gw ow cw : Nat} {e : Entry} {es : List Entry}
    (h : BookIs w gB base top (.slice (some ⟨gl, ol, none⟩) (es.length + 1) cl) (.slice (some ⟨gw, ow, none⟩) (es.length + 1) cw) (e :: es)) (hcl : ¬ cl = 1) (hcw : ¬ cw = 1) (hf : Only gB w W)
    (hrow : W.heap[gB]? = some (.cells #[.slice (some ⟨gl, ol + 1, none⟩) es.length (cl - 1), .slice (some ⟨gw, ow + 1, none⟩) es.length (cw - 1), .int .i64 (hw es), .bool false] 31 (0, 0))) :
    BookIs W gB base top (.slice (some ⟨gl, ol + 1, none⟩) es.length (cl - 1)) (.slice (some ⟨gw, ow + 1, none⟩) es.length (cw - 1)) es := by
  have hl := h.lists
  have hw := h.was
  rw [List.map_cons, ← List.length_map (f := Entry.val)] at hl
  rw [List.map_cons, ← List.length_map (f := Entry.u)] at hw
  have hl2 := hl.tail
  have hw2 := hw.tail
  rw [if_neg hcl, List.length_map] at hl2
  rw [if_neg hcw, List.length_map] at hw2
  refine ⟨hrow, h.lo, h.hi, by rw [hf.size]; exact h.top_le, hl2.kept fun k hk => hf.block k (h.vlSep k hk).2.2, hw2.kept fun k hk => hf.block k (h.vwSep k hk).2.2.1, fun k hk => h.vlSep k hk, fun k hk => h.vwSep k hk, fun e' he => (h.ents e' (List.mem_cons_of_mem _ he)).only hf rfl rfl, ?_, ?_⟩
  · have := h.nodup
    rw [List.filterMap_cons] at this
    split at this
    · exact this
    · exact (List.nodup_cons.1 this).2
  · have := h.few
    rw [List.length_cons] at this
    omega
theorem BookIs.raise {w : World} {gB base top top' : Nat} {vl vw : Value} {es : List Entry} (h : BookIs w gB base top vl vw es) (ht : top ≤ top') (ht' : top' ≤ w.heap.size) : BookIs w gB base top' vl vw es :=
  ⟨h.row, h.lo, Nat.lt_of_lt_of_le h.hi ht, ht', h.lists, h.was, fun k hk => ⟨(h.vlSep k hk).1, Nat.lt_of_lt_of_le (h.vlSep k hk).2.1 ht, (h.vlSep k hk).2.2⟩, fun k hk => ⟨(h.vwSep k hk).1, Nat.lt_of_lt_of_le (h.vwSep k hk).2.1 ht, (h.vwSep k hk).2.2⟩,
   fun e he => by
    have q := h.ents e he
    exact ⟨q.ed, fun b c => ⟨(q.at_ b c).1, Nat.lt_of_lt_of_le (q.at_ b c).2.1 ht, (q.at_ b c).2.2⟩, q.cp, fun k hk => ⟨Nat.lt_of_lt_of_le (q.cpAt k hk).1 ht, (q.cpAt k hk).2⟩, q.cpLo, q.capl, q.bsl⟩, h.nodup, h.few⟩
theorem BookIs.still {w W : World} {gB base top : Nat} {vl vw : Value} {es : List Entry} (h : BookIs w gB base top vl vw es) (hs : Still w W) : BookIs W gB base top vl vw es :=
  ⟨by rw [hs.1]; exact h.row, h.lo, h.hi, by rw [hs.1]; exact h.top_le, h.lists.kept fun k _ => by rw [hs.1], h.was.kept fun k _ => by rw [hs.1], h.vlSep, h.vwSep, fun e he => (h.ents e he).only hs.only rfl rfl, h.nodup, h.few⟩
/-- How many lists the book in block gB has. -/
def lenAt (w : World) (gB : Nat) : Nat := match w.cell? ⟨gB, 0, none⟩ with | some (.slice _ n _) => n | _ => 0
theorem lenAt_of {w : World} {gB n c : Nat} {ao : Option Addr} (h : w.cell? ⟨gB, 0, none⟩ = some (.slice ao n c)) : lenAt w gB = n := by rw [lenAt, h]
end Go.Proofs.Ytldkkgdkjddohaa
