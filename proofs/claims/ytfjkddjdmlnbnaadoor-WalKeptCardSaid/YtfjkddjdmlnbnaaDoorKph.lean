/- A log and a book over changes of blocks that are none of theirs. -/
import Derived.Test.YtfjkddjdmlnbnaaDoorRcc
import Derived.Test.YtfjkddjdmlnbnaaDoorWap
namespace Go.Proofs.YtfjkddjdmlnbnaaDoor
open Go.RowKit

theorem Lo.chg {q : Nat → Prop} {w0 w W : World} {o : Ow} {d : S.Dk} {g f c p t : Nat} {rs : List (List UInt8)} {tv : Value} (h : Lo w0 w o d g f c p t rs tv) (hc : Chg q w W) (hq : ∀ k, (o.has k ∨ k = g ∨ tv.ownBlock = some k ∨ k < w0.heap.size) → ¬ q k) : Lo w0 W o d g f c p t rs tv :=
  ⟨⟨⟨h.log.dk.dk.chg hc (fun k hk => hq k (Or.inl hk)), h.log.dk.k.chg hc (hq 0 (Or.inr (Or.inr (Or.inr h.pos)))), h.log.dk.no⟩, h.log.pend, h.log.good, h.log.lg.chg hc (hq g (Or.inr (Or.inl rfl))) (fun k hk => hq k (Or.inr (Or.inr (Or.inl hk)))), h.log.no, h.log.pos, h.log.far, h.log.tpos⟩, h.ob, h.gb, h.tb, h.below.trans (hc.below _ h.below.size (fun k hk => hq k (Or.inr (Or.inr (Or.inr hk))))), h.pos⟩
/-- A log over a change of blocks from B on. -/
theorem Lo.low {w0 w W : World} {o : Ow} {d : S.Dk} {g f c p t B : Nat} {rs : List (List UInt8)} {tv : Value} (h : Lo w0 w o d g f c p t rs tv) (hb : Below B w W) (ho : ∀ k, o.has k → k < B) (hg : g < B) (ht : ∀ k, tv.ownBlock = some k → k < B) (hB : w0.heap.size ≤ B) : Lo w0 W o d g f c p t rs tv :=
  h.chg (Chg.ofBelow (p := fun k => B ≤ k) hb (fun _ _ e => e)) (fun k hk e => by
    rcases hk with hk | hk | hk | hk
    · have := ho k hk; omega
    · omega
    · have := ht k hk; omega
    · omega)
theorem BookIs.below {w W : World} {gB base top : Nat} {vl vw : Value} {es : List Entry} (h : BookIs w gB base top vl vw es) (hb : Below w.heap.size w W) : BookIs W gB base top vl vw es := by
  have ht := h.top_le
  have hf : Fr gB vl vw w W := ⟨hb.os, hb.tape, hb.output, hb.size, fun k hk _ _ _ => hb.block k hk⟩
  exact ⟨(hb.block gB (Nat.lt_of_lt_of_le h.hi ht)).trans h.row, h.lo, h.hi, Nat.le_trans ht hb.size, h.lists.kept fun k hk => hb.block k (h.lists.lt hk), h.was.kept fun k hk => hb.block k (h.was.lt hk), h.vlSep, h.vwSep,
    fun e he => (h.ents e he).kept hf ht (Nat.le_refl _) (fun k hk => Or.inl hk) (fun k hk => Or.inl hk), h.nodup, h.few⟩
theorem book_none (vl vw : Value) (es : List Entry) : BookNo (fun _ => False) vl vw es := ⟨fun _ _ e => e, fun _ _ e => e, fun _ _ => ⟨fun e => e, fun _ _ e => e⟩⟩
theorem book_new {w : World} {g : Nat} (h : w.heap[g]? = some (.cells #[.slice none 0 0, .slice none 0 0, .int .i64 0, .bool false] 61 (0, 0))) : BookIs w g g (g + 1) (.slice none 0 0) (.slice none 0 0) [] := by
  have hlt := block_lt_of_row h
  exact ⟨h, Nat.le_refl _, Nat.lt_succ_self _, hlt, Or.inl ⟨rfl, rfl⟩, Or.inl ⟨rfl, rfl⟩, fun k hk => by simp [Value.ownBlock] at hk, fun k hk => by simp [Value.ownBlock] at hk, fun e he => by simp at he, by simp, by simp⟩
/-- A text of the call's own that is not empty lies in a block. -/
theorem URow.lies {w : World} {u : Value} {bs : List UInt8} (h : URow w u bs) (hb : bs ≠ []) : ∃ g c cur, u = .slice (some ⟨g, 0, none⟩) bs.length c ∧ w.heap[g]? = some (.cells cur 5 (0, 0)) ∧ bs.length ≤ cur.size ∧ bs.length ≤ c := by
  have hp := List.length_pos_iff.2 hb
  obtain ⟨h1, h2⟩ := h
  rcases h2 with ⟨h3, h4⟩ | ⟨g', cap', cur, h3, h4, h5, h6, h7, h8, h9⟩
  · omega
  · exact ⟨g', cap', cur, h3, h5, by omega, h6⟩
/-- A row of bytes of the call's own that is written, and nothing else. -/
structure Wrote (g n : Nat) (w W : World) : Prop where
  row : ∃ cur, W.heap[g]? = some (.cells cur 5 (0, 0)) ∧ n ≤ cur.size
  chg : Chg (fun k => k = g) w W
theorem Wrote.cell {g n : Nat} {w W : World} (h : Wrote g n w W) (j : Nat) (hj : j < n) : ∃ v, W.cell? ⟨g, j, none⟩ = some v := by
  obtain ⟨cur, h1, h2⟩ := h.row
  exact ⟨cur[j]'(by omega), by rw [cell_of_row W g j _ 5 _ h1]; simp [show j < cur.size by omega]⟩
theorem Wrote.frozen {g n : Nat} {w W : World} (h : Wrote g n w W) (j : Nat) : W.frozen? ⟨g, j, none⟩ = false := by
  obtain ⟨cur, h1, h2⟩ := h.row
  exact frozen_of_row _ _ j _ _ h1
theorem Wrote.put {g n : Nat} {w W : World} (h : Wrote g n w W) (j : Nat) (v : Value) : Wrote g n w (W.setCell ⟨g, j, none⟩ v) := by
  obtain ⟨cur, h1, h2⟩ := h.row
  exact ⟨⟨_, heap_setCell_same _ _ _ _ _ _ h1, by rw [Array.size_setIfInBounds]; exact h2⟩, h.chg.setCell g j v (fun _ => rfl)⟩
/-- One record, as Records hands it out. -/
theorem RecsC.one {w0 w : World} {lv : Value} {us : List Value} {r : List UInt8} (h : RecsC w0 w lv us [r]) : ∃ gl off cl gj cj, lv = .slice (some ⟨gl, off, none⟩) 1 cl ∧ w.cell? ⟨gl, off, none⟩ = some (.slice (some ⟨gj, 0, none⟩) r.length cj) ∧ Room w gj cj r ∧ w0.heap.size ≤ gj ∧ w0.heap.size ≤ gl ∧ gl < w.heap.size ∧ cj ≤ 9223372036854775807 := by
  have hul : us.length = 1 := h.copies.len
  obtain ⟨gl, off, cc, hlv, hcap, hcell⟩ := h.lists.at 0 (by omega)
  obtain ⟨gj, cj, e, hr, hge, hcj⟩ := h.copies.new 0 (by simp)
  rw [hul] at hlv
  have e2 : us.getD 0 default = .slice (some ⟨gj, 0, none⟩) r.length cj := e
  rw [e2] at hcell
  have hgl : lv.ownBlock = some gl := by rw [hlv]; rfl
  exact ⟨gl, off, cc, gj, cj, hlv, hcell, hr, hge, h.own gl hgl, h.lists.lt hgl, hcj⟩
end Go.Proofs.YtfjkddjdmlnbnaaDoor
