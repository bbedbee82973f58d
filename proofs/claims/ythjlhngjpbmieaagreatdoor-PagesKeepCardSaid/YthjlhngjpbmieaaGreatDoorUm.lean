/- PagesMany: as many pages as may be put at once are put at once, again and again. -/
import Derived.Test.YthjlhngjpbmieaaGreatDoorUd
import Derived.Test.YthjlhngjpbmieaaGreatDoorQn
namespace Go.Proofs.YthjlhngjpbmieaaGreatDoor
open Go.RowKit

namespace S
end S
/-- append of one sheet onto a row of the call's own. -/
theorem run_append_sh (w : World) (base gx : Nat) (x : ShV) (ty : TypeId) (v : Value) (m : Nat) (xs : List Value) (hown : w.ownsRow base 37 2 v m xs) (hm : m ≤ 1000) (hb : base ≤ w.heap.size) (hx : w.heap[gx]? = some (.cells #[.int .i64 x.1, x.list] 37 (0, 0))) :
    ∃ v' w', (Builtin.append_ #[38, 38] ty #[v, .slice (some ⟨gx, 0, none⟩) 1 1]).run Tryz.prog w = .ok v' w' ∧ (w'.ownsRow base 37 2 v' (m + 1) (xs ++ encSh x) ∧ w.grownBy w' v.ownBlock) := by
  obtain ⟨i, hi, hz0, hz1, hz2⟩ := info_parts info37
  obtain ⟨v', w', hr, ho, hg, hn⟩ := run_append_own (P := Tryz.prog) w base 38 ty 37 i (.agg #[.int .i64 0, .slice none 0 0]) 2 32 Tryz.underlying38 hi hz0 hz1 hz2 rfl (by omega) v m xs hown ⟨gx, 0, none⟩ 1 1 (encSh x) rfl (fun j u hu => by
    rw [Addr.add_lit, Nat.zero_add, cell_of_row w gx j _ 37 (0, 0) hx]
    simpa [encSh] using hu) (fun u hu => by simp [encSh, ShV.list] at hu; rcases hu with rfl | rfl <;> rfl) (by simp [maxLen]; omega) (by omega) hb
  exact ⟨v', w', hr, ho, hg⟩
theorem owns_type {w : World} {base : Nat} {e : TypeId} {size : Nat} {v : Value} {n : Nat} {xs : List Value} (h : w.ownsRow base e size v n xs) {k : Nat} (hk : v.ownBlock = some k) : ∃ cur, w.heap[k]? = some (.cells cur e (0, 0)) := by
  rcases h.2 with ⟨h1, _⟩ | ⟨g, cap, cur, h1, h2, h3, h4⟩
  · rw [h1] at hk
    cases hk
  · rw [h1] at hk
    simp only [Value.ownBlock, Option.some.injEq] at hk
    subst hk
    exact ⟨cur, h3⟩
end Go.Proofs.YthjlhngjpbmieaaGreatDoor
