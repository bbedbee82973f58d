/- TokenKept: tokens are new memory each time. -/
import Derived.Test.YtlcilclhaahopaaDoorKg
import Derived.Test.YtlcilclhaahopaaDoorDe
import Derived.Test.YtlcilclhaahopaaDoorDf
import Derived.Deep.CutBlock
namespace Go.Proofs.YtlcilclhaahopaaDoor
open Go.RowKit

namespace S
theorem narrow_zero (t : Tk) (c : Cv) (h : (narrow t c).2 = 0) : odd c = false ∧ t.cs.length < 4 ∧ (narrow t c).1.cs = t.cs ++ [c] := by
  unfold narrow at h ⊢
  by_cases h1 : odd c = true
  · rw [if_pos h1] at h; cases h
  · rw [if_neg h1] at h ⊢
    by_cases h2 : 4 ≤ t.cs.length
    · rw [if_pos h2] at h; cases h
    · rw [if_neg h2]
      exact ⟨by simpa using h1, by omega, rfl⟩
theorem encode_fine (t : Tk) (hl : t.cs.length ≤ 4) (ho : ∀ c ∈ t.cs, odd c = false) : (encode t).2 = 0 := by
  unfold encode
  rw [if_neg (by omega), if_neg (by
    intro ha
    obtain ⟨c, hc, h⟩ := List.any_eq_true.1 ha
    rw [ho c hc] at h
    cases h)]
end S
namespace Dg
theorem BookIs.below {w W : World} {gB base top : Nat} {vl vw : Value} {es : List Entry} (h : BookIs w gB base top vl vw es) (hb : Below w.heap.size w W) : BookIs W gB base top vl vw es := by
  have ht := h.top_le
  have hf : Fr gB vl vw w W := ⟨hb.os, hb.tape, hb.output, hb.size, fun k hk _ _ _ => hb.block k hk⟩
  exact ⟨(hb.block gB (Nat.lt_of_lt_of_le h.hi ht)).trans h.row, h.lo, h.hi, Nat.le_trans ht hb.size, h.lists.kept fun k hk => hb.block k (h.lists.lt hk), h.was.kept fun k hk => hb.block k (h.was.lt hk), h.vlSep, h.vwSep,
    fun e he => (h.ents e he).kept hf ht (Nat.le_refl _) (fun k hk => Or.inl hk) (fun k hk => Or.inl hk), h.nodup, h.few⟩
/-- A list that lies behind all of the book. -/
theorem BookIs.new {w : World} {gB base top g : Nat} {vl vw : Value} {es : List Entry} (h : BookIs w gB base top vl vw es) (hg : top ≤ g) : BookNew g gB vl vw es :=
  ⟨by have := h.hi; omega, fun e => by have := (h.vlSep g e).2.1; omega, fun e => by have := (h.vwSep g e).2.1; omega, fun e he e2 => by have := (h.ents e he).2.2.1; omega⟩
theorem BookIs.nos {w : World} {gB base top : Nat} {vl vw : Value} {es : List Entry} (H G : Nat → Prop) (h : BookIs w gB base top vl vw es) (hH : ∀ k, H k → top ≤ k) (hG : ∀ k, G k → top ≤ k) : BookNo H G vl vw es :=
  ⟨fun k e e2 => by have := (h.vlSep k e).2.1; have := hH k e2; omega, fun k e e2 => by have := (h.vwSep k e).2.1; have := hH k e2; omega, fun e he => ⟨fun e2 => by have := (h.ents e he).2.2.1; have := hG _ e2; omega, fun k hk e2 => by have := ((h.ents e he).2.2.2.2.2.2.2.1 k hk).1; have := hH k e2; omega⟩⟩
theorem BookNo.mono {H H' G G' : Nat → Prop} {vl vw : Value} {es : List Entry} (h : BookNo H G vl vw es) (hH : ∀ k, H' k → H k) (hG : ∀ k, G' k → G k) : BookNo H' G' vl vw es :=
  ⟨fun k e e2 => h.vl k e (hH k e2), fun k e e2 => h.vw k e (hH k e2), fun e he => ⟨fun e2 => (h.ents e he).1 (hG _ e2), fun k hk e2 => (h.ents e he).2 k hk (hH k e2)⟩⟩
theorem BookNo.new {H G : Nat → Prop} {g gB : Nat} {vl vw : Value} {es : List Entry} (h : BookNo H G vl vw es) (hg : g ≠ gB) (h1 : H g) (h2 : G g) : BookNew g gB vl vw es :=
  ⟨hg, fun e => h.vl g e h1, fun e => h.vw g e h1, fun e he e2 => (h.ents e he).1 (e2 ▸ h2)⟩
theorem book_empty {w : World} {gB : Nat} (h : w.heap[gB]? = some (.cells #[.slice none 0 0, .slice none 0 0, .int .i64 0, .bool false] 69 (0, 0))) : BookIs w gB gB (gB + 1) (.slice none 0 0) (.slice none 0 0) [] :=
  ⟨h, Nat.le_refl _, Nat.lt_succ_self _, block_lt_of_row h, Or.inl ⟨rfl, rfl⟩, Or.inl ⟨rfl, rfl⟩, fun k hk => by simp [Value.ownBlock] at hk, fun k hk => by simp [Value.ownBlock] at hk, fun e he => by simp at he, by simp, by simp⟩
/-- The book where a block below it changes. -/
theorem book_near {w W : World} {gB base top g : Nat} {vl vw : Value} {es : List Entry} (h : BookIs w gB base top vl vw es) (hc : Chg (fun k => k = g) w W) (hg : g < base) {cs : Array Value} (hrow : w.heap[g]? = some (.cells cs 27 (0, 0))) : BookIs W gB base top vl vw es := by
  have ht := h.top_le
  have hlo : ∀ k, base ≤ k → k < w.heap.size → W.heap[k]? = w.heap[k]? := fun k hk hk2 => hc.block k hk2 (by omega)
  refine ⟨(hlo gB h.lo (Nat.lt_of_lt_of_le h.hi ht)).trans h.row, h.lo, h.hi, Nat.le_trans ht hc.size, h.lists.kept fun k hk => hlo k (h.vlSep k hk).1 (h.lists.lt hk), h.was.kept fun k hk => hlo k (h.vwSep k hk).1 (h.was.lt hk), h.vlSep, h.vwSep, fun e he => ?_, h.nodup, h.few⟩
  obtain ⟨r1, r2, r3, r4, r5, r6, r7, r8, r9⟩ := h.ents e he
  refine ⟨?_, r2, r3, r4, r5, r6, r7.kept fun k hk => hc.block k (r7.lt hk) (fun e3 => ?_), r8, r9⟩
  · obtain ⟨cur, q1, q2⟩ := r1
    exact ⟨cur, (hlo _ r2 (by omega)).trans q1, q2⟩
  · exact r7.1.apart hrow (by decide) (e3 ▸ hk)
/-- A row of caveats that is not empty is a room. -/
theorem crow_room {B : Nat} {w : World} {v : Value} {ds : List S.Cv} (h : CRow B w v ds) (hp : 0 < ds.length) (hl : ds.length ≤ 1000) : ∃ g cap, v = .slice (some ⟨g, 0, none⟩) ds.length cap ∧ Room w g cap ds ∧ B ≤ g ∧ cap ≤ 9223372036854775807 := by
  rcases h.2 with ⟨rfl, h0⟩ | ⟨g, cap, cur, rfl, hB, hr, h1, h2, h3, h4⟩
  · omega
  · exact ⟨g, cap, rfl, ⟨cur, hr, h3, h1, h4, hl⟩, hB, by simp only [maxLen] at h2; omega⟩
end Dg
end Go.Proofs.YtlcilclhaahopaaDoor
