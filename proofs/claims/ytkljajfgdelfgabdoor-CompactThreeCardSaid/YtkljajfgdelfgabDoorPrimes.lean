/- primes of the document's own answer: the first 64; nothing that was there changes. -/
import Derived.Test.YtkljajfgdelfgabDoorJoin
namespace Go.Proofs.YtkljajfgdelfgabDoor
open Go.RowKit
def P.p64 : List Nat := [2, 3, 5, 7, 11, 13, 17, 19, 23, 29, 31, 37, 41, 43, 47, 53, 59, 61, 67, 71, 73, 79, 83, 89, 97, 101, 103, 107, 109, 113, 127, 131, 137, 139, 149, 151, 157, 163, 167, 173, 179, 181, 191, 193, 197, 199, 211, 223, 227, 229, 233, 239, 241, 251, 257, 263, 269, 271, 277, 281, 283, 293, 307, 311]
def P.pr (p : Nat) : List Nat := P.p64.filter (fun q => decide (q < p))
theorem P.pr_few : ∀ p, p < 312 → (P.pr p).length < 64 := by decide +kernel
theorem P.pr_all : P.pr 312 = P.p64 := by decide +kernel
theorem P.pr_two : P.pr 2 = [] := by decide +kernel
theorem P.pr_next : ∀ p, p < 312 → (2 ≤ p → P.pr (p + 1) = if (P.pr p).all (fun q => p % q != 0) then P.pr p ++ [p] else P.pr p) := by decide +kernel
theorem P.pr_pos (p : Nat) : ∀ q ∈ P.pr p, 2 ≤ q := by
  intro q hq
  have h : ∀ q ∈ P.p64, 2 ≤ q := by decide +kernel
  exact h q (List.mem_filter.1 hq).1
def v64l (l : List Nat) : List Value := l.map fun (x : Nat) => Value.int .u64 (x : Int)
theorem info51 : (Tryd.prog.info? 25).map (fun i => (i.zero, i.size, i.bytes)) = some (some (.int .u64 0), 1, 8) := by kernel_rfl
theorem run_append_u64 (w : World) (base gx : Nat) (v : Value) (l : List Nat) (p : Nat) (ty : TypeId) (h : w.ownsRow base 25 1 v l.length (v64l l)) (hx : w.heap[gx]? = some (.cells #[.int .u64 (p : Int)] 25 (0, 0))) (hl : l.length ≤ 1000) (hb : base ≤ w.heap.size) :
    ∃ v' w', (Builtin.append_ #[39, 39] ty #[v, .slice (some ⟨gx, 0, none⟩) 1 1]).run Tryd.prog w = .ok v' w' ∧ (w'.ownsRow base 25 1 v' (l ++ [p]).length (v64l (l ++ [p])) ∧ Below base w w') := by
  obtain ⟨i, hi, hz0, hz1, hz2⟩ := info_parts info51
  obtain ⟨v', w', hr, ho, hg, _⟩ := run_append_own (P := Tryd.prog) w base 39 ty 25 i (.int .u64 0) 1 8 Tryd.underlying39 hi hz0 hz1 hz2 rfl (by omega) v l.length (v64l l) h ⟨gx, 0, none⟩ 1 1 [.int .u64 (p : Int)] (by simp)
    (fun j u hu => by rw [Addr.add_lit, Nat.zero_add, cell_of_row w gx j _ 25 (0, 0) hx]; simpa using hu) (fun u hu => by rw [List.mem_singleton.1 hu]; rfl) (by simp only [maxLen]; omega) (by omega) hb
  refine ⟨v', w', hr, ?_, (Below.refl _ _).grown hg hb (fun k hk => (h.lt k hk).1)⟩
  rw [List.length_append, List.length_singleton]
  have e : v64l (l ++ [p]) = v64l l ++ [.int .u64 (p : Int)] := by simp [v64l]
  rw [e]
  exact ho
theorem own_shape {w : World} {base n : Nat} {v : Value} {xs : List Value} (h : w.ownsRow base 25 1 v n xs) : ∃ ao cap, v = .slice ao n cap := by
  rcases h.2 with ⟨rfl, rfl⟩ | ⟨g, cap, cur, rfl, _⟩
  · exact ⟨_, _, rfl⟩
  · exact ⟨_, _, rfl⟩
theorem own_kept {w W : World} {base n : Nat} {v : Value} {xs : List Value} (h : w.ownsRow base 25 1 v n xs) (hh : ∀ k, k < w.heap.size → W.heap[k]? = w.heap[k]?) : W.ownsRow base 25 1 v n xs := by
  refine ⟨h.1, ?_⟩
  rcases h.2 with h2 | ⟨g, cap, cur, rfl, h3, h4, h5⟩
  · exact Or.inl h2
  · exact Or.inr ⟨g, cap, cur, rfl, h3, (hh g (block_lt_of_row h4)).trans h4, h5⟩
theorem own_cell {w : World} {base cap : Nat} {ao : Option Addr} {l : List Nat} (h : w.ownsRow base 25 1 (.slice ao l.length cap) l.length (v64l l)) (j : Nat) (hj : j < l.length) : ∃ g, ao = some ⟨g, 0, none⟩ ∧ w.cell? ⟨g, j, none⟩ = some (.int .u64 ((l.getD j 0 : Nat) : Int)) := by
  rcases h.2 with ⟨h2, h3⟩ | ⟨g, cap', cur, h2, h3, h4, h5⟩
  · omega
  · simp only [Value.slice.injEq] at h2
    obtain ⟨rfl, _, rfl⟩ := h2
    refine ⟨g, rfl, ?_⟩
    rw [World.ownsRow.cellAt h j (by omega)]
    simp [v64l, List.getElem?_eq_getElem hj, List.getD_eq_getElem?_getD]
end Go.Proofs.YtkljajfgdelfgabDoor
