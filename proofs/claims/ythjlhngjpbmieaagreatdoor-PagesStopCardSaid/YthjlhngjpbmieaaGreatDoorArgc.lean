/- Arguments that came in: a list of bools, a cut. -/
import Derived.Test.YthjlhngjpbmieaaGreatDoorOpn
import Derived.Test.YthjlhngjpbmieaaGreatDoorGj
import Derived.Deep.Slices
import Derived.Deep.Strs
namespace Go.Proofs.YthjlhngjpbmieaaGreatDoor
open Go.ChangeShapes Go.WideShapes Go.ChangeAt Go.RowKit
theorem cellsOf4 : Tryz.prog.cellsOf 4 = 1 := by kernel_rfl
theorem cellsOf3 : Tryz.prog.cellsOf 3 = 1 := by kernel_rfl
theorem cellsOf43 : Tryz.prog.cellsOf 43 = 1 := by kernel_rfl
theorem cellsOf45 : Tryz.prog.cellsOf 45 = 3 := by kernel_rfl
theorem list_of {α : Type} (d : α) {P : Nat → α → Prop} (n : Nat) (h : ∀ i, i < n → ∃ x, P i x) : ∃ l : List α, l.length = n ∧ ∀ i, i < n → P i (l.getD i d) := by
  induction n with
  | zero => exact ⟨[], rfl, fun i hi => absurd hi (Nat.not_lt_zero _)⟩
  | succ n ih =>
    obtain ⟨l, hl, hp⟩ := ih (fun i hi => h i (by omega))
    obtain ⟨x, hx⟩ := h n (by omega)
    refine ⟨l ++ [x], by simp [hl], fun i hi => ?_⟩
    rcases Nat.lt_succ_iff_lt_or_eq.1 hi with hi' | rfl
    · have := hp i hi'
      simp only [List.getD_eq_getElem?_getD] at this ⊢
      rw [List.getElem?_append_left (by omega)]
      exact this
    · simpa [List.getD_eq_getElem?_getD, hl] using hx
/-- A list of bools in a cell. -/
theorem bools_cell {H : Type} {enc : TypeId × Value → H} {W : World} {base fuel : Nat} {c : Value} {y : DataW H × List MemPlace} {held : Bool}
    (h : DataW.trod enc Tryz.prog W base (fun _ => true) held fuel 43 [c] = some y) : ∃ ks : List Bool, BoolsAt W c ks := by
  rcases Go.Deep.open_slice1 Tryz.underlying43 cellsOf4 h with ⟨hcs, _⟩ | ⟨a, len, cap, m, n, V, D, Pl, hcs, _, hl, hm, hmm, _, hel⟩
  · obtain rfl : c = .slice none 0 0 := by simpa using hcs
    exact ⟨[], bools_nil W⟩
  · obtain rfl : c = .slice (some a) len cap := by simpa using hcs
    simp only [if_true] at hmm
    have hb : ∀ i, i < len → ∃ b : Bool, W.cell? (a.add i) = some (.bool b) := fun i hi => by
      obtain ⟨h1, h2⟩ := hel i (by omega)
      obtain ⟨b, hb, _⟩ := DataW.trod_bool Tryz.underlying4 h2
      simp only [List.cons.injEq, and_true] at hb
      exact ⟨b, by rw [h1, hb]⟩
    obtain ⟨ks, hk, hp⟩ := list_of false len hb
    refine ⟨ks, some a, cap, by rw [hk], by simp only [maxLen] at hm; omega, fun hp0 => ?_⟩
    obtain ⟨b, off, spot⟩ := a
    have hspot : spot = none := by
      have := hp 0 (by omega)
      simpa [Addr.add] using World.cell?_spot this
    subst hspot
    refine ⟨b, off, rfl, ?_, fun j hj => ?_⟩
    · have := hp 0 (by omega)
      rw [Addr.add_lit] at this
      exact World.block_lt_of_cell? W _ this
    · have := hp j (by omega)
      rw [Addr.add_lit] at this
      exact this

set_option maxRecDepth 100000 in
theorem open_cut {H : Type} {enc : TypeId × Value → H} {W : World} {r : Reach} {b0 base : Nat} {held : Bool} {v : Value} {d : DataW H} {p : List MemPlace}
    (hv : Value.okWide Tryz.prog W r b0 45 v) (h : DataW.Trod enc Tryz.prog W base (fun _ => true) held 45 v d p) : ∃ (v0 : Value) (c : S.Cut), v = .agg #[v0, .int .i64 c.torn, .int .i64 c.bytes] ∧ BoolsAt W v0 c.keep := by
  have hs : ∃ cs, v = .agg cs ∧ cs.size = Tryz.prog.cellsOf 45 := by
    simp only [Value.okWide, Tryz.underlying45] at hv
    obtain ⟨cs, h1, h2, _⟩ := hv
    exact ⟨cs, h1, h2⟩
  obtain ⟨cs, rfl, hsz⟩ := hs
  rw [cellsOf45] at hsz
  obtain ⟨fuel, hf⟩ := h
  obtain ⟨l⟩ := cs
  match l, hsz with
  | [c0, c1, c2], _ =>
    obtain ⟨y0, y1, y2, k, _, _, t0, t1, t2⟩ := Go.Deep.trod_struct3 Tryz.underlying45 hf
    simp [Value.cells, cellsOf43, cellsOf3] at t0 t1 t2
    obtain ⟨ks, hks⟩ := bools_cell t0
    obtain ⟨z1, e1, _, _⟩ := DataW.trod_int Tryz.underlying3 t1
    obtain ⟨z2, e2, _, _⟩ := DataW.trod_int Tryz.underlying3 t2
    simp at e1 e2
    subst e1 e2
    exact ⟨c0, ⟨ks, z1, z2⟩, rfl, hks⟩
end Go.Proofs.YthjlhngjpbmieaaGreatDoor
