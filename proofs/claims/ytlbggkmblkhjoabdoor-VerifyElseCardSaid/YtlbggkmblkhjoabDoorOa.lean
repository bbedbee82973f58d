/- Paths are no longer than the tree is deep. -/
import Derived.Test.YtlbggkmblkhjoabDoorMg
namespace Go.Proofs.YtlbggkmblkhjoabDoor
open Go.RowKit

namespace S
theorem half_deep {n d : Nat} (h2 : 2 ≤ n) (h : n ≤ 2 ^ (d + 1)) : half n ≤ 2 ^ d ∧ n - half n ≤ 2 ^ d := by
  have hne : n - 1 ≠ 0 := by omega
  have hlt : (n - 1).log2 < d + 1 := (Nat.log2_lt hne).2 (by omega)
  have h3 : 2 ^ (n - 1).log2 ≤ 2 ^ d := Nat.pow_le_pow_right (by omega) (by omega)
  have h4 : n - 1 < 2 ^ ((n - 1).log2 + 1) := (Nat.log2_lt hne).1 (by omega)
  rw [Nat.pow_succ] at h4
  unfold half
  omega
theorem path_deep (a : Int) : ∀ d (l : List (List UInt8)) i, l.length ≤ 2 ^ d → (path a l i).length ≤ d := by
  intro d
  induction d with
  | zero => intro l i h; rw [path_one a l i (by simpa using h)]; simp
  | succ d ih =>
    intro l i h
    by_cases h1 : l.length ≤ 1
    · rw [path_one a l i h1]; simp
    · obtain ⟨e1, e2⟩ := half_deep (show 2 ≤ l.length by omega) h
      by_cases hi : i < half l.length
      · rw [path_left a l i (by omega) hi, List.length_append]
        have := ih (l.take (half l.length)) i (by rw [List.length_take]; omega)
        simp; omega
      · rw [path_right a l i (by omega) hi, List.length_append]
        have := ih (l.drop (half l.length)) (i - half l.length) (by rw [List.length_drop]; omega)
        simp; omega
theorem grow_deep (a : Int) : ∀ d (l : List (List UInt8)) m b, l.length ≤ 2 ^ d → (grow a l m b).length ≤ d + 1 := by
  intro d
  induction d with
  | zero =>
    intro l m b h
    have := (grow_ok a l m b).2
    by_cases hm : m = l.length
    · cases b
      · rw [grow_part a l m hm]; simp
      · rw [grow_all a l m hm]; simp
    · rw [grow, if_neg hm, dif_pos (by simpa using h)]; simp
  | succ d ih =>
    intro l m b h
    by_cases hm : m = l.length
    · cases b
      · rw [grow_part a l m hm]; simp
      · rw [grow_all a l m hm]; simp
    · by_cases h1 : l.length ≤ 1
      · rw [grow, if_neg hm, dif_pos h1]; simp
      · obtain ⟨e1, e2⟩ := half_deep (show 2 ≤ l.length by omega) h
        by_cases hi : m ≤ half l.length
        · rw [grow_left a l m b (by omega) hm hi, List.length_append]
          have := ih (l.take (half l.length)) m b (by rw [List.length_take]; omega)
          simp; omega
        · rw [grow_right a l m b (by omega) hm hi, List.length_append]
          have := ih (l.drop (half l.length)) (m - half l.length) false (by rw [List.length_drop]; omega)
          simp; omega
theorem prove_len (a : Int) (l : List (List UInt8)) (i d : Nat) (h : l.length ≤ 2 ^ d) : (prove a l i).length ≤ d := by
  unfold prove
  split
  · exact path_deep a d l i h
  · simp
theorem prove_len32 (a : Int) (l : List (List UInt8)) (i : Nat) : ∀ x ∈ prove a l i, x.length = 32 := by
  unfold prove
  split
  · exact path_len32 a l i
  · intro x hx; simp at hx
theorem comp_len (a : Int) (l : List (List UInt8)) (i d : Nat) (h : l.length ≤ 2 ^ d) : (comp_ a l i).length ≤ d + 1 := by
  unfold comp_
  split
  · simp
  · exact grow_deep a d l i true h
theorem comp_len32 (a : Int) (l : List (List UInt8)) (i : Nat) : ∀ x ∈ comp_ a l i, x.length = 32 := by
  unfold comp_
  split
  · intro x hx; simp at hx
  · exact (grow_ok a l i true).1
end S
end Go.Proofs.YtlbggkmblkhjoabDoor
