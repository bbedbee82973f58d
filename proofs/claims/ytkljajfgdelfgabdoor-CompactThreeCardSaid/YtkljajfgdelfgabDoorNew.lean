/- New of the document's own answer: the table of K0 to K63 and of the state at first; nothing that was there changes. -/
import Derived.Test.YtkljajfgdelfgabDoorRoot
import Derived.Test.YtkljajfgdelfgabDoorPrimes
namespace Go.Proofs.YtkljajfgdelfgabDoor
open Go.RowKit
def P.rk : List Nat := [5411319704, 6194414737, 7344290767, 8215976869, 9551921755, 10098905585, 11043570340, 11460697813, 12214315672, 13195500289, 13492127166, 14311783875, 14809980276, 15046980094, 15499789991, 16133124468, 16720292289, 16907126662, 17444216262, 17784676812, 17950125167, 18429019306, 18734950876, 19175934170, 19734090066, 20001703533, 20132865992, 20390182855, 20516441075, 20764397895, 21588763473, 21813078375, 22141143685, 22248366392, 22769593852, 22871018771, 23170020180, 23461497531, 23651862830, 23931792517, 24205322401, 24295138891, 24734567280, 24820601251, 24990902297, 25075189284, 25569408389, 26045227120, 26200031510, 26276752392, 26428864332, 26653801653, 26727943347, 27092625994, 27306805839, 27517677555, 27725365998, 27793908591, 27997534228, 28131656200, 28198240250, 28526537963, 28973835255, 29099129074]
def P.rh : List Nat := [6074000999, 7439101573, 9603838834, 11363415354, 14244795007, 15485724812, 17708603819, 18721328409]
theorem P.rk_is : ∀ i, i < 64 → (P.p64.getD i 0 < 65536 ∧ P.rk.getD i 0 < 171798691840 ∧ P.rk.getD i 0 * P.rk.getD i 0 * P.rk.getD i 0 ≤ P.p64.getD i 0 * 65536 ^ 6 ∧ P.p64.getD i 0 * 65536 ^ 6 < (P.rk.getD i 0 + 1) * (P.rk.getD i 0 + 1) * (P.rk.getD i 0 + 1) ∧ P.rk.getD i 0 % 4294967296 = (S.K.getD i 0).toNat) := by decide +kernel
theorem P.rh_is : ∀ i, i < 8 → (P.p64.getD i 0 < 65536 ∧ P.rh.getD i 0 < 171798691840 ∧ P.rh.getD i 0 * P.rh.getD i 0 ≤ P.p64.getD i 0 * 65536 ^ 4 ∧ P.p64.getD i 0 * 65536 ^ 4 < (P.rh.getD i 0 + 1) * (P.rh.getD i 0 + 1) ∧ P.rh.getD i 0 % 4294967296 = (S.H0.getD i 0).toNat) := by decide +kernel
theorem cube_iff {r N : Nat} (h1 : r * r * r ≤ N) (h2 : N < (r + 1) * (r + 1) * (r + 1)) (x : Nat) : x * x * x ≤ N ↔ x ≤ r := by
  constructor
  · intro h
    by_cases hx : x ≤ r
    · exact hx
    · have h3 : r + 1 ≤ x := by omega
      have h4 := Nat.mul_le_mul (Nat.mul_le_mul h3 h3) h3
      omega
  · intro h
    exact Nat.le_trans (Nat.mul_le_mul (Nat.mul_le_mul h h) h) h1
theorem square_iff {r N : Nat} (h1 : r * r ≤ N) (h2 : N < (r + 1) * (r + 1)) (x : Nat) : x * x ≤ N ↔ x ≤ r := by
  constructor
  · intro h
    by_cases hx : x ≤ r
    · exact hx
    · have h3 : r + 1 ≤ x := by omega
      have h4 := Nat.mul_le_mul h3 h3
      omega
  · intro h
    exact Nat.le_trans (Nat.mul_le_mul h h) h1
theorem own_kept_ne {w W : World} {base n g cap : Nat} {gT : Nat} {xs : List Value} (h : w.ownsRow base 25 1 (.slice (some ⟨g, 0, none⟩) n cap) n xs) (_ : g ≠ gT) (hh : W.heap[g]? = w.heap[g]?) : W.ownsRow base 25 1 (.slice (some ⟨g, 0, none⟩) n cap) n xs := by
  refine ⟨h.1, ?_⟩
  rcases h.2 with h2 | ⟨g', cap', cur, h2, h3, h4, h5⟩
  · exact Or.inl h2
  · simp only [Value.slice.injEq, Option.some.injEq, Addr.mk.injEq, and_true, true_and] at h2
    obtain ⟨rfl, rfl⟩ := h2
    exact Or.inr ⟨g, cap, cur, rfl, h3, hh.trans h4, h5⟩
def tabK : Nat → List UInt32
  | 0 => List.replicate 72 0
  | k + 1 => (tabK k).set k (S.K.getD k 0)
def tabH : Nat → List UInt32
  | 0 => tabK 64
  | k + 1 => (tabH k).set (64 + k) (S.H0.getD k 0)
theorem tabK_length (k : Nat) : (tabK k).length = 72 := by
  induction k with
  | zero => simp [tabK]
  | succ k ih => rw [tabK, List.length_set]; exact ih
theorem tabH_length (k : Nat) : (tabH k).length = 72 := by
  induction k with
  | zero => exact tabK_length 64
  | succ k ih => rw [tabH, List.length_set]; exact ih
theorem tab_all : tabH 8 = S.K ++ S.H0 := by decide +kernel
end Go.Proofs.YtkljajfgdelfgabDoor
