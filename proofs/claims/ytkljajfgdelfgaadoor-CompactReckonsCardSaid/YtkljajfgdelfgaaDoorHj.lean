/- What a range's answer holds. -/
import Derived.Test.YtkljajfgdelfgaaDoorIe
namespace Go.Proofs.YtkljajfgdelfgaaDoor
open Go.RowKit

namespace C
theorem glue_all {α : Type} (nd : α → α → α) (z : α) (P : α → Prop) (hnd : ∀ a b, P (nd a b)) (p m e : Nat) (ha hb : List α) (h1 : p ≤ m) (h2 : m ≤ e) (he : e ≤ 2 ^ 32) (la : ha.length = (blocks p m).length) (lb : hb.length = (blocks m e).length) (pa : ∀ x ∈ ha, P x) (pb : ∀ x ∈ hb, P x) : ∀ x ∈ glue nd z p m e ha hb, P x := by
  have t1 := blocks_tiles _ p m rfl h1 (by omega)
  have t2 := blocks_tiles _ m e rfl h2 he
  have t3 := tiles_append _ _ _ _ _ t1 t2
  have hl : (ha ++ hb).length = (blocks p m ++ blocks m e).length := by rw [List.length_append, List.length_append, la, lb]
  have key : ∀ k, k ≤ (blocks p m ++ blocks m e).length → ∃ st, Inv nd z p e (blocks p m ++ blocks m e) (ha ++ hb) k st ∧ ∀ f ∈ st, P f.h := by
    intro k
    induction k with
    | zero => intro _; exact ⟨[], Inv.start nd z p e _ _ t3 hl, fun f hf => by simp at hf⟩
    | succ k ih =>
      intro hk
      obtain ⟨st, hi, hp⟩ := ih (by omega)
      obtain ⟨x, hx, -, hn⟩ := Inv.item nd z hi (by omega)
      refine ⟨_, hn, push_all nd P hnd st x hp ?_⟩
      have hm : x.h ∈ ha ++ hb := by
        rw [← mkB_h (blocks p m ++ blocks m e) (ha ++ hb) p hl]
        exact List.mem_map_of_mem (List.mem_of_getElem? hx)
      rcases List.mem_append.1 hm with h | h
      · exact pa _ h
      · exact pb _ h
  obtain ⟨st, hi, hp⟩ := key _ (Nat.le_refl _)
  intro x hx
  rw [← Inv.done nd z hi he rfl hl] at hx
  rw [List.mem_map] at hx
  obtain ⟨f, hf, rfl⟩ := hx
  exact hp f (List.mem_reverse.1 hf)
end C
theorem alloc30 (w : World) : (Instr.alloc 30 true (.tuple #[])).run Tryd.prog w = .ok (.pointer (some ⟨w.heap.size, 0, none⟩)) (w.alloc (.cells #[.int .u64 0, .int .u64 0, .slice none 0 0] 30)) := by
  go_simp
theorem Ansd.some {w w' : World} {r : Ending} {b e n : Nat} {hs : List (List UInt8)} (h : Ansd w w' r ⟨b, e, hs, n⟩) : ∃ vo vc, r = .returned (.tuple #[.agg #[.int .u64 (b : Int), .int .u64 (e : Int), .slice vo hs.length vc], .int .i64 (n : Int)]) ∧ DgRow 0 w' (.slice vo hs.length vc) hs ∧ Below w.heap.size w w' := by
  obtain ⟨⟨v, h1, h2⟩, h3⟩ := h
  obtain ⟨vo, vc, rfl⟩ := h2.form
  exact ⟨vo, vc, h1, h2.mono (Nat.zero_le _), h3⟩
end Go.Proofs.YtkljajfgdelfgaaDoor
