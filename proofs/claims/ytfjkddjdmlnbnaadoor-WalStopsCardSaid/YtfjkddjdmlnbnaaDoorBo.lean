/- A []bool of the call's own: it grows by append; a Cut in memory. -/
import Derived.Test.YtfjkddjdmlnbnaaDoorSt
import Derived.Test.YtfjkddjdmlnbnaaDoorGa
namespace Go.Proofs.YtfjkddjdmlnbnaaDoor
open Go.RowKit

def BRow (w : World) (B : Nat) (v : Value) (ks : List Bool) : Prop := w.ownsRow B 4 1 v ks.length (ks.map Value.bool)
theorem info4 : (Tryd.prog.info? 4).map (fun i => (i.zero, i.size, i.bytes)) = some (some (.bool false), 1, 1) := by kernel_rfl
theorem BRow.nil (w : World) (B : Nat) : BRow w B (.slice none 0 0) [] := World.ownsRow_nil w B 4 1
theorem BRow.bools {w : World} {B : Nat} {v : Value} {ks : List Bool} (h : BRow w B v ks) (hl : ks.length ≤ 1000) : BoolsAt w v ks := by
  rcases h.2 with ⟨rfl, h3⟩ | ⟨g, cap, cur, rfl, _, h4, h5, _, h6, h7⟩
  · have e : ks = [] := List.eq_nil_of_length_eq_zero h3
    subst e
    exact bools_nil w
  · refine ⟨_, cap, rfl, by omega, fun _ => ⟨g, 0, rfl, block_lt_of_row h4, fun j hj => ?_⟩⟩
    rw [Nat.zero_add, cell_of_row w g j _ 4 (0, 0) h4]
    have e : (cur.toList.take (ks.length * 1))[j]? = (ks.map Value.bool)[j]? := by rw [h7]
    rw [List.getElem?_take_of_lt (by omega), List.getElem?_map] at e
    simpa [List.getD_eq_getElem?_getD, hj] using e
theorem BRow.kept {w w' : World} {B : Nat} {v : Value} {ks : List Bool} (h : BRow w B v ks) (hb : ∀ k, v.ownBlock = some k → w'.heap[k]? = w.heap[k]?) : BRow w' B v ks := by
  refine ⟨h.1, ?_⟩
  rcases h.2 with h2 | ⟨g, cap, cur, rfl, h3, h4, h5⟩
  · exact Or.inl h2
  · exact Or.inr ⟨g, cap, cur, rfl, h3, (hb g rfl).trans h4, h5⟩
theorem BRow.lt {w : World} {B : Nat} {v : Value} {ks : List Bool} (h : BRow w B v ks) {k : Nat} (hk : v.ownBlock = some k) : B ≤ k ∧ k < w.heap.size := World.ownsRow.lt h k hk
theorem BRow.one {w : World} {B : Nat} {v : Value} {ks : List Bool} (h : BRow w B v ks) : v.oneCell' = true := by
  rcases h.2 with ⟨rfl, _⟩ | ⟨g, cap, cur, rfl, _⟩
  · rfl
  · rfl
theorem run_append_bool (w : World) (B : Nat) (v : Value) (ks : List Bool) (x : Bool) (gb : Nat) (hv : BRow w B v ks) (hx : w.cell? ⟨gb, 0, none⟩ = some (.bool x)) (hl : ks.length ≤ 1000) (hB : B ≤ w.heap.size) :
    ∃ v' w', (Builtin.append_ #[34, 34] 34 #[v, .slice (some ⟨gb, 0, none⟩) 1 1]).run Tryd.prog w = .ok v' w' ∧ (BRow w' B v' (ks ++ [x]) ∧ w.grownBy w' v.ownBlock) := by
  obtain ⟨i, hi, hz0, hz1, hz2⟩ := info_parts info4
  obtain ⟨v', w', hr, ho, hg, _⟩ := run_append_own (P := Tryd.prog) w B 34 34 4 i (.bool false) 1 1 Tryd.underlying34 hi hz0 hz1 hz2 rfl (by omega) v ks.length (ks.map Value.bool) hv ⟨gb, 0, none⟩ 1 1 [.bool x] rfl (fun j u h => by
    match j, h with
    | 0, h =>
      simp only [List.getElem?_cons_zero, Option.some.injEq] at h
      subst h
      exact hx) (fun u hu => by
    simp only [List.mem_singleton] at hu
    subst hu
    rfl) (by simp only [maxLen]; omega) (by omega) hB
  exact ⟨v', w', hr, by unfold BRow; rw [List.map_append, List.length_append]; exact ho, hg⟩
/-- A Cut in block gC, its bools in blocks from gC + 1 on. -/
structure CutIs (w : World) (gC : Nat) (v : Value) (ks : List Bool) (torn bytes : Int) : Prop where
  row : w.heap[gC]? = some (.cells #[v, .int .i64 torn, .int .i64 bytes] 36 (0, 0))
  keep : BRow w (gC + 1) v ks
theorem CutIs.load {w : World} {gC : Nat} {v : Value} {ks : List Bool} {torn bytes : Int} (h : CutIs w gC v ks torn bytes) : (Instr.loadAt 36 (.pointer (some ⟨gC, 0, none⟩))).run Tryd.prog w = .ok (.agg #[v, .int .i64 torn, .int .i64 bytes]) w :=
  run_loadAt_mid (P := Tryd.prog) w gC 0 36 [v, .int .i64 torn, .int .i64 bytes] _ (rangeAt_row h.row) Tryd.underlying36 rfl (by kernel_rfl)
theorem CutIs.below {w W : World} {gC : Nat} {v : Value} {ks : List Bool} {torn bytes : Int} (h : CutIs w gC v ks torn bytes) (hb : Below w.heap.size w W) : CutIs W gC v ks torn bytes :=
  ⟨(hb.block gC (block_lt_of_row h.row)).trans h.row, h.keep.kept fun k hk => hb.block k (h.keep.lt hk).2⟩
/-- Behind an append to its bools. -/
theorem CutIs.grown {w W : World} {gC : Nat} {v v' : Value} {ks ks' : List Bool} {torn bytes : Int} (h : CutIs w gC v ks torn bytes) (hr : BRow W (gC + 1) v' ks') (hg : w.grownBy W v.ownBlock) : CutIs (W.setCell ⟨gC, 0, none⟩ v') gC v' ks' torn bytes := by
  have hgl := block_lt_of_row h.row
  have hrow : W.heap[gC]? = some (.cells #[v, .int .i64 torn, .int .i64 bytes] 36 (0, 0)) := (hg.block gC hgl (fun e => by have := (h.keep.lt e.symm).1; omega)).trans h.row
  refine ⟨?_, hr.kept fun k hk => heap_setCell_other W ⟨gC, 0, none⟩ k _ (fun e => by have := (hr.lt hk).1; simp at e; omega)⟩
  rw [heap_setCell_same W gC 0 _ _ _ hrow]
  rfl
end Go.Proofs.YtfjkddjdmlnbnaaDoor
