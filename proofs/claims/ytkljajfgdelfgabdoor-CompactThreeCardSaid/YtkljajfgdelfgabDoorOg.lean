/- The first texts of a list, none longer than so much, in new memory; two lists of texts are the same. -/
import Derived.Test.YtkljajfgdelfgabDoorMj
import Derived.Test.YtkljajfgdelfgabDoorPush
import Derived.Laws.IdiomStrings
import Derived.Lib.BufferRead
namespace Go.Proofs.YtkljajfgdelfgabDoor
open Go.RowKit

def S.few (bss : List (List UInt8)) (n m : Nat) : List (List UInt8) := (bss.take n).map (fun x => x.take m)
theorem S.few_length (bss : List (List UInt8)) (n m : Nat) : (S.few bss n m).length = min n bss.length := by simp [S.few]
theorem S.few_succ (bss : List (List UInt8)) (k m : Nat) (h : k < bss.length) : S.few bss (k + 1) m = S.few bss k m ++ [(bss.getD k []).take m] := by
  rw [S.few, List.take_succ_eq_append_getElem h, List.map_append]
  simp [S.few, List.getD_eq_getElem?_getD, h]
theorem S.few_mem (bss : List (List UInt8)) (n m : Nat) : ∀ x ∈ S.few bss n m, x.length ≤ m := fun x hx => by
  simp only [S.few, List.mem_map] at hx
  obtain ⟨y, _, rfl⟩ := hx
  rw [List.length_take]; omega
/-- A list of any texts that came in: only the first ones matter. -/
def BsUp (w : World) (v : Value) (bss : List (List UInt8)) : Prop := BsAt w v bss ∧ bss.length ≤ 140737488355328
end Go.Proofs.YtkljajfgdelfgabDoor
namespace Go.Proofs.YtkljajfgdelfgabDoor
open Go.RowKit

theorem conv_slice {w : World} {v : Value} {bs : List UInt8} (h : SliceAt w v bs) : (convert 38 9 v).run Tryd.prog w = .ok (.string ⟨bs.toArray⟩) w := by
  rcases h with ⟨rfl, rfl⟩ | ⟨a, cap, rfl, _, rfl⟩ | ⟨b, off, cap, rfl, h1, h2, h3, h4⟩
  · exact Lib.run_convert_nil_bytes w 38 9 5 0 Tryd.underlying38 Tryd.underlying5 Tryd.underlying9
  · exact run_convert_bytes_back w 38 9 5 a cap [] Tryd.underlying38 Tryd.underlying5 Tryd.underlying9 (fun j hj => by simp at hj)
  · refine run_convert_bytes_back w 38 9 5 ⟨b, off, none⟩ cap bs Tryd.underlying38 Tryd.underlying5 Tryd.underlying9 (fun j hj => ?_)
    rw [Addr.add_lit, h4 j hj, List.getD_eq_getElem?_getD, List.getElem?_eq_getElem hj]
    rfl
end Go.Proofs.YtkljajfgdelfgabDoor
namespace Go.Proofs.YtkljajfgdelfgabDoor
open Go.RowKit
theorem run_copy_list (w : World) (g0 : Nat) (lv : Value) (vs : List Value) (ty : TypeId) (h0 : w.heap[g0]? = some (.cells #[] 38 (0, 0))) (h : Lists w lv vs) (h1 : ∀ x ∈ vs, x.oneCell' = true) (hlen : vs.length ≤ 1000000) :
    ∃ v' w', (Builtin.append_ #[23, 23] ty #[.slice (some ⟨g0, 0, none⟩) 0 0, lv]).run Tryd.prog w = .ok v' w' ∧ (Lists w' v' vs ∧ w.grownBy w' (some g0) ∧ ∀ k, v'.ownBlock = some k → g0 ≤ k) := by
  obtain ⟨i, hi, hz0, hz1, hz2⟩ := info_parts infoS
  have hown : w.ownsRow g0 38 1 (.slice (some ⟨g0, 0, none⟩) 0 0) 0 [] := ⟨rfl, Or.inr ⟨g0, 0, #[], rfl, Nat.le_refl _, h0, Nat.le_refl _, by simp [maxLen], rfl, rfl⟩⟩
  rcases h with ⟨rfl, rfl⟩ | ⟨g, off, c, cur, rfl, h2, h3, h4, h5⟩
  · exact ⟨_, w, run_append_owned_none (P := Tryd.prog) (w := w) g0 23 ty 38 i 1 Tryd.underlying23 hi (.slice (some ⟨g0, 0, none⟩) 0 0) 0 [] hown, Or.inr ⟨g0, 0, 0, #[], rfl, h0, by simp, by simp, by simp⟩, ⟨rfl, rfl, rfl, Nat.le_refl _, fun _ _ _ => rfl⟩, fun k hk => by simp [Value.ownBlock] at hk; omega⟩
  · obtain ⟨v', w', hr, ho, hg, hn⟩ := run_append_own (P := Tryd.prog) w g0 23 ty 38 i (.slice none 0 0) 1 24 Tryd.underlying23 hi hz0 hz1 hz2 rfl (by omega) (.slice (some ⟨g0, 0, none⟩) 0 0) 0 [] hown ⟨g, off, none⟩ vs.length c vs (by omega) (fun j x hx => by rw [Addr.add_lit, cell_of_row w g (off + j) cur 38 (0, 0) h2]; exact h5 j x hx) h1 (by simp only [maxLen]; omega) (by omega) (Nat.le_of_lt (block_lt_of_row h0))
    refine ⟨v', w', hr, ?_, hg, fun k hk => ?_⟩
    · rcases ho.2 with ⟨e, _⟩ | ⟨g', cap', cur', e, _, q1, q2, q3, q4, q5⟩
      · exact absurd (hn.1 e).1 (by simp)
      · refine Or.inr ⟨g', 0, cap', cur', by rw [e]; simp, q1, by omega, by omega, fun j x hx => ?_⟩
        rw [Nat.zero_add]
        have hjl : j < vs.length := by
          by_cases e : j < vs.length
          · exact e
          · rw [List.getElem?_eq_none (by omega)] at hx; cases hx
        have : (cur'.toList.take ((0 + vs.length) * 1))[j]? = cur'.toList[j]? := by rw [List.getElem?_take, if_pos (by omega)]
        rw [q5, List.nil_append, hx] at this
        simpa using this.symm
    · exact (ho.lt k hk).1


/-- A row of texts is copied behind an empty one. -/
theorem run_copy_tx (w : World) (B g0 : Nat) (lv : Value) (bss : List (List UInt8)) (ty : TypeId) (h0 : w.heap[g0]? = some (.cells #[] 38 (0, 0))) (h : TxRow B w lv bss) (hg : ∀ k, lv.ownBlock = some k → k < g0) (hel : ∀ (W : World), Below g0 w W → TxRow B W lv bss) (hlen : bss.length ≤ 1000000) :
    ∃ v' w', (Builtin.append_ #[23, 23] ty #[.slice (some ⟨g0, 0, none⟩) 0 0, lv]).run Tryd.prog w = .ok v' w' ∧ (TxRow g0 w' v' bss ∧ Below g0 w w') := by
  obtain ⟨vs, h1, h2, h3, h4⟩ := h.ls
  obtain ⟨v', w', hr, a1, a2, a3⟩ := run_copy_list w g0 lv vs ty h0 h1 (fun x hx => by
    obtain ⟨j, hj⟩ := List.getElem?_of_mem hx
    obtain ⟨⟨_, _, _, rfl⟩, _⟩ := h4 j x hj
    rfl) (by omega)
  have hb : Below g0 w w' := (Below.refl _ _).grown a2 (Nat.le_of_lt (block_lt_of_row h0)) (fun k hk => by simp only [Option.some.injEq] at hk; omega)
  refine ⟨v', w', hr, ⟨vs, a1, h2, a3, fun j x hj => ⟨(h4 j x hj).1, fun W hW => ?_⟩⟩, hb⟩
  have hbW : Below g0 w W := hb.trans (hW.below g0 (Nat.le_trans (Nat.le_of_lt (block_lt_of_row h0)) hb.size) (fun k hk e => by have := a3 k e; omega))
  obtain ⟨vs2, g1, g2, g3, g4⟩ := (hel W hbW).ls
  have e : vs2[j]? = some x := by
    rcases h1 with ⟨rfl, rfl⟩ | ⟨g, off, c, cur, rfl, q1, q2, q3, q4⟩
    · simp at hj
    · have hW1 : W.heap[g]? = some (.cells cur 38 (0, 0)) := (hbW.block g (hg g rfl)).trans q1
      rcases g1 with ⟨e1, _⟩ | ⟨g', off', c', cur', e1, p1, p2, p3, p4⟩
      · simp at e1
      · simp only [Value.slice.injEq, Option.some.injEq, Addr.mk.injEq, and_true] at e1
        obtain ⟨⟨rfl, rfl⟩, e2, rfl⟩ := e1
        rw [hW1] at p1
        simp only [Option.some.injEq, Obj.cells.injEq, and_true] at p1
        obtain rfl := p1
        have hjl : j < vs2.length := by have := (List.getElem?_eq_some_iff.1 hj).1; omega
        have h6 := p4 j _ (List.getElem?_eq_getElem hjl)
        rw [q4 j x hj] at h6
        rw [List.getElem?_eq_getElem hjl, ← h6]
  exact (g4 j x e).2 W (Chg.refl _ _)
/-- One text of a row is another one. -/
theorem TxRow.set {B : Nat} {w : World} {g off n cap : Nat} {bss : List (List UInt8)} (h : TxRow B w (.slice (some ⟨g, off, none⟩) n cap) bss) (k : Nat) (hk : k < bss.length) (x : Value) (t : List UInt8) (ht : ∀ W, Chg (fun j => j = g) w W → SliceAt W x t) :
    BsAt (w.setCell ⟨g, off + k, none⟩ x) (.slice (some ⟨g, off, none⟩) n cap) (bss.set k t) ∧ Below g w (w.setCell ⟨g, off + k, none⟩ x) := by
  have hch : Chg (fun j => j = g) w (w.setCell ⟨g, off + k, none⟩ x) := (Chg.refl _ w).setCell g _ _ (fun _ => rfl)
  refine ⟨?_, (Below.refl _ _).setCell (p := ⟨g, off + k, none⟩) (Nat.le_refl _) _⟩
  obtain ⟨vs, h1, h2, h3, h4⟩ := h.ls
  rcases h1 with ⟨e1, _⟩ | ⟨g', off', c, cur, e1, q1, q2, q3, q4⟩
  · simp at e1
  · simp only [Value.slice.injEq, Option.some.injEq, Addr.mk.injEq, and_true] at e1
    obtain ⟨⟨rfl, rfl⟩, rfl, rfl⟩ := e1
    have hr := heap_setCell_same w g (off + k) cur 38 x q1
    refine ⟨_, cap, by simp [h2], by simp; omega, fun _ => ⟨g, off, rfl, block_lt_of_row hr, fun j hj => ?_⟩⟩
    have hj2 : j < bss.length := by simpa using hj
    by_cases hjk : j = k
    · subst hjk
      refine ⟨x, ?_, ?_⟩
      · rw [cell_of_row _ g (off + j) _ _ _ hr, Array.getElem?_setIfInBounds, if_pos rfl, if_pos (by omega)]
      · rw [List.getD_eq_getElem?_getD, List.getElem?_set, if_pos rfl, if_pos hk]
        exact ht _ hch
    · have hjv : vs[j]? = some (vs[j]'(by omega)) := List.getElem?_eq_getElem (by omega)
      refine ⟨vs[j]'(by omega), ?_, ?_⟩
      · rw [cell_of_row _ g (off + j) _ _ _ hr, Array.getElem?_setIfInBounds, if_neg (by omega)]
        exact q4 j _ hjv
      · rw [List.getD_eq_getElem?_getD, List.getElem?_set, if_neg (by omega), ← List.getD_eq_getElem?_getD]
        exact (h4 j _ hjv).2 _ (hch.mono (fun i _ e => by rw [e]; rfl))
end Go.Proofs.YtkljajfgdelfgabDoor
