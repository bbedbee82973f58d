/- Caveats in a block of one's own, changed. What narrowing gives. -/
import Derived.Test.YtlcilclhaahopaaDoorTk
namespace Go.Proofs.YtlcilclhaahopaaDoor
open Go.RowKit

theorem S.narrow_no {t : S.Tk} {c : S.Cv} (h : (S.narrow t c).2 ≠ 0) : (S.narrow t c).1.cs = [] := by
  unfold S.narrow at h ⊢
  split
  · rfl
  · rename_i h1
    split
    · rfl
    · rename_i h2
      rw [if_neg h1, if_neg h2] at h
      exact absurd rfl h
theorem S.narrow_cs {t : S.Tk} {c : S.Cv} (h : (S.narrow t c).2 = 0) : (S.narrow t c).1.cs = t.cs ++ [c] := by
  obtain ⟨h1, h2⟩ := S.narrow_was h
  rw [S.narrow_yes t c h1 h2]
theorem S.narrow_len {t : S.Tk} {c : S.Cv} (h : (S.narrow t c).2 = 0) : (S.narrow t c).1.cs.length ≤ 4 := by
  rw [S.narrow_cs h, List.length_append]
  have := (S.narrow_was h).2
  simp; omega
theorem S.holds_narrow {t : S.Tk} {c : S.Cv} (h : (S.narrow t c).2 = 0) (op tree : Int) (clock : Nat) (hh : S.holds (S.narrow t c).1.cs op tree clock = true) : S.holds t.cs op tree clock = true := by
  rw [S.narrow_cs h, S.holds, List.all_append, Bool.and_eq_true] at hh
  exact hh.1
theorem S.Tk.Ok.of {t : S.Tk} (h : t.Ok) (l : List S.Cv) (hl : l.length ≤ t.cs.length) (hc : ∀ c ∈ l, c.Ok) : S.Tk.Ok ⟨t.id, l, t.tag⟩ := ⟨h.id2, h.tl, hc, Nat.le_trans hl h.len⟩
theorem S.ok_set {l : List S.Cv} (h : ∀ c ∈ l, c.Ok) (j : Nat) (x : S.Cv) (hx : x.Ok) : ∀ c ∈ l.set j x, c.Ok := fun c hc => by
  rcases List.mem_or_eq_of_mem_set hc with h1 | rfl
  · exact h c h1
  · exact hx
/-- Caveats in a block of one's own. -/
def CvIn (w : World) (g n cap : Nat) (l : List S.Cv) : Prop := ∃ cur, w.heap[g]? = some (.cells cur 42 (0, 0)) ∧ l.length = n ∧ n ≤ cap ∧ cap ≤ maxLen ∧ cur.size = cap * 2 ∧ ∀ j x, l[j]? = some x → cur[j * 2]? = some (.int .i64 x.k) ∧ cur[j * 2 + 1]? = some (.int .u32 (x.n : Int))
theorem CRow.isIn {B : Nat} {w : World} {ao : Option Addr} {n cap : Nat} {l : List S.Cv} (h : CRow B w (.slice ao n cap) l) (hn : 0 < n) : ∃ g, ao = some ⟨g, 0, none⟩ ∧ B ≤ g ∧ g < w.heap.size ∧ CvIn w g n cap l := by
  rcases h.2 with ⟨e, h0⟩ | ⟨g, cap', cur, e, hB, hr, q1, q2, q3, q4⟩
  · simp only [Value.slice.injEq] at e; omega
  · simp only [Value.slice.injEq] at e
    obtain ⟨rfl, hnl, rfl⟩ := e
    refine ⟨g, rfl, hB, block_lt_of_row hr, cur, hr, hnl.symm, by omega, q2, q3, fun j x hx => ?_⟩
    obtain ⟨g', cap', e, _, _, hr'⟩ := Rw.at_ h (fun y _ => encC_length y) j x hx
    simp only [Value.slice.injEq, Option.some.injEq, Addr.mk.injEq] at e
    obtain ⟨⟨rfl, _, _⟩, _, rfl⟩ := e
    have h0 := hr' 0 (.int .i64 x.k) rfl
    have h1 := hr' 1 (.int .u32 (x.n : Int)) rfl
    rw [cell_of_row _ _ _ _ _ _ hr] at h0 h1
    exact ⟨h0, h1⟩
theorem CvIn.at_ {w : World} {g n cap : Nat} {l : List S.Cv} (h : CvIn w g n cap l) : CvAt w (.slice (some ⟨g, 0, none⟩) n cap) l := by
  obtain ⟨cur, hr, rfl, q1, _, q3, q4⟩ := h
  refine ⟨_, cap, rfl, q1, fun e => by simp at e, fun _ => ⟨g, 0, rfl, block_lt_of_row hr, fun j x hx i u hu => ?_⟩⟩
  obtain ⟨h0, h1⟩ := q4 j x hx
  rw [cell_of_row _ _ _ _ _ _ hr]
  match i, hu with
  | 0, hu => rw [Nat.zero_add, Nat.add_zero, h0]; exact hu
  | 1, hu => rw [Nat.zero_add, h1]; exact hu
  | i + 2, hu => simp [encC] at hu
theorem CvIn.chg {p : Nat → Prop} {w W : World} {g n cap : Nat} {l : List S.Cv} (h : CvIn w g n cap l) (hc : Chg p w W) (hp : ¬ p g) : CvIn W g n cap l := by
  obtain ⟨cur, hr, q⟩ := h
  exact ⟨cur, hc.row hr hp, q⟩
theorem CvIn.below {w W : World} {g n cap : Nat} {l : List S.Cv} (h : CvIn w g n cap l) (hb : Below w.heap.size w W) : CvIn W g n cap l := h.chg (p := fun _ => False) (Chg.ofBelow' hb) (fun e => e)
theorem CvIn.lt {w : World} {g n cap : Nat} {l : List S.Cv} (h : CvIn w g n cap l) : g < w.heap.size := by
  obtain ⟨cur, hr, _⟩ := h
  exact block_lt_of_row hr
theorem CvIn.cells {w : World} {g n cap : Nat} {l : List S.Cv} (h : CvIn w g n cap l) (j : Nat) (c : S.Cv) (hc : l[j]? = some c) : w.rangeAt g (j * 2) (encC c) ∧ w.cell? ⟨g, j * 2 + 1, none⟩ = some (.int .u32 (c.n : Int)) ∧ w.frozen? ⟨g, j * 2 + 1, none⟩ = false := by
  obtain ⟨cur, hr, _, _, _, _, q4⟩ := h
  obtain ⟨h0, h1⟩ := q4 j c hc
  refine ⟨fun i u hu => ?_, by rw [cell_of_row _ _ _ _ _ _ hr]; exact h1, frozen_of_row _ _ _ _ _ hr⟩
  rw [cell_of_row _ _ _ _ _ _ hr]
  match i, hu with
  | 0, hu => rw [Nat.add_zero, h0]; exact hu
  | 1, hu => rw [h1]; exact hu
  | i + 2, hu => simp [encC] at hu
/-- One caveat's number is written. -/
theorem CvIn.set1 {w : World} {g n cap : Nat} {l : List S.Cv} (h : CvIn w g n cap l) (j : Nat) (c : S.Cv) (hc : l[j]? = some c) (N : Nat) : CvIn (w.setCell ⟨g, j * 2 + 1, none⟩ (.int .u32 (N : Int))) g n cap (l.set j ⟨c.k, N⟩) := by
  obtain ⟨cur, hr, q0, q1, q2, q3, q4⟩ := h
  refine ⟨_, heap_setCell_same _ _ _ _ _ _ hr, by rw [List.length_set]; exact q0, q1, q2, by simpa using q3, fun i x hx => ?_⟩
  have hj := (List.getElem?_eq_some_iff.1 hc).1
  by_cases e : i = j
  · subst e
    rw [List.getElem?_set_self hj] at hx
    cases hx
    obtain ⟨h0, h1⟩ := q4 i c hc
    have h2 := (Array.getElem?_eq_some_iff.1 h1).1
    refine ⟨?_, ?_⟩
    · rw [Array.getElem?_setIfInBounds_ne (by omega)]; exact h0
    · rw [Array.getElem?_setIfInBounds_self_of_lt h2]
  · rw [List.getElem?_set_ne (fun e2 => e e2.symm)] at hx
    obtain ⟨h0, h1⟩ := q4 i x hx
    refine ⟨?_, ?_⟩
    · rw [Array.getElem?_setIfInBounds_ne (by omega)]; exact h0
    · rw [Array.getElem?_setIfInBounds_ne (by omega)]; exact h1
/-- One caveat is written whole. -/
theorem CvIn.store {w : World} {g n cap : Nat} {l : List S.Cv} (h : CvIn w g n cap l) (j : Nat) (hj : j < n) (c : S.Cv) :
    ∃ w', (Instr.storeAt 42 (.pointer (some ⟨g, j * 2, none⟩)) (.agg (encC c).toArray)).run Tryd.prog w = .ok () w' ∧ CvIn w' g n cap (l.set j c) ∧ Chg (fun k => k = g) w w' ∧ w'.heap.size = w.heap.size := by
  obtain ⟨cur, hr, q0, q1, q2, q3, q4⟩ := h
  have hth : w.there g (j * 2) (encC c).toArray.size := fun i hi => by
    have hi : i < 2 := hi
    refine ⟨?_, frozen_of_row _ _ _ _ _ hr⟩
    rw [cell_of_row _ _ _ _ _ _ hr, Array.getElem?_eq_getElem (by omega)]
    rfl
  have hrun := run_storeAt_mid (P := Tryd.prog) w g (j * 2) 42 (encC c).toArray hth (size_c c) (all_oneCell_toArray (encC_one c))
  have e : w.setCells g (j * 2) (encC c).toArray.toList = (w.setCell ⟨g, j * 2, none⟩ (.int .i64 c.k)).setCell ⟨g, j * 2 + 1, none⟩ (.int .u32 (c.n : Int)) := rfl
  rw [e] at hrun
  have r1 := heap_setCell_same w g (j * 2) _ _ (.int .i64 c.k) hr
  have r2 := heap_setCell_same _ g (j * 2 + 1) _ _ (.int .u32 (c.n : Int)) r1
  refine ⟨_, hrun, ⟨_, r2, by rw [List.length_set]; exact q0, q1, q2, by simpa using q3, fun i x hx => ?_⟩, ((Chg.refl (fun k => k = g) w).setCell g _ _ (fun _ => rfl)).setCell g _ _ (fun _ => rfl), by simp⟩
  by_cases e2 : i = j
  · subst e2
    rw [List.getElem?_set_self (by omega)] at hx
    cases hx
    refine ⟨?_, ?_⟩
    · rw [Array.getElem?_setIfInBounds_ne (by omega), Array.getElem?_setIfInBounds_self_of_lt (by omega)]
    · rw [Array.getElem?_setIfInBounds_self_of_lt (by simp; omega)]
  · rw [List.getElem?_set_ne (fun e3 => e2 e3.symm)] at hx
    obtain ⟨h0, h1⟩ := q4 i x hx
    refine ⟨?_, ?_⟩
    · rw [Array.getElem?_setIfInBounds_ne (by omega), Array.getElem?_setIfInBounds_ne (by omega)]; exact h0
    · rw [Array.getElem?_setIfInBounds_ne (by omega), Array.getElem?_setIfInBounds_ne (by omega)]; exact h1
/-- The first ones of a row of caveats. -/
theorem CvAt.upto {w : World} {ao : Option Addr} {n cap : Nat} {l : List S.Cv} (h : CvAt w (.slice ao n cap) l) (m : Nat) (hm : m ≤ n) : CvAt w (.slice ao m cap) (l.take m) := by
  obtain ⟨ao', cap', e, h2, h3, h4⟩ := h
  simp only [Value.slice.injEq] at e
  obtain ⟨rfl, rfl, rfl⟩ := e
  have hl : (l.take m).length = m := by rw [List.length_take]; omega
  refine ⟨ao, cap, by rw [hl], by omega, h3, fun hp => ?_⟩
  obtain ⟨g, off, e, hg, hc⟩ := h4 (by omega)
  refine ⟨g, off, e, hg, fun j x hx => hc j x ?_⟩
  rw [List.getElem?_take] at hx
  split at hx
  · exact hx
  · simp at hx
end Go.Proofs.YtlcilclhaahopaaDoor
