/- The plain side of the document's own hash: the text, one bit, noughts and the length, cut into blocks, has the state that the blocks and the ending have. -/
import Derived.Test.YtdfjbajehcedaaaDoorSum
namespace Go.Proofs.YtdfjbajehcedaaaDoor
open Go.RowKit
namespace S
theorem word_congr {a b : List UInt8} (h : ∀ j, j < 64 → a.getD j 0 = b.getD j 0) (t : Nat) (ht : t < 16) : word a t = word b t := by
  simp only [word]
  rw [h (4 * t) (by omega), h (4 * t + 1) (by omega), h (4 * t + 2) (by omega), h (4 * t + 3) (by omega)]
theorem fill_congr {a b : List UInt8} (h : ∀ j, j < 64 → a.getD j 0 = b.getD j 0) (k : Nat) (hk : k ≤ 16) : fill a k = fill b k := by
  induction k with
  | zero => rfl
  | succ k ih => rw [fill, fill, ih (by omega), word_congr h k (by omega)]
theorem comp_congr {a b : List UInt8} (st : List UInt32) (h : ∀ j, j < 64 → a.getD j 0 = b.getD j 0) : comp st a = comp st b := by
  simp only [comp, sched]
  rw [fill_congr h 16 (Nat.le_refl _)]
theorem blocks_congr {a b : List UInt8} (st : List UInt32) (m : Nat) (h : ∀ j, j < 64 * m → a.getD j 0 = b.getD j 0) (k : Nat) (hk : k ≤ m) : blocks st a k = blocks st b k := by
  induction k with
  | zero => rfl
  | succ k ih =>
    rw [blocks, blocks, ih (by omega)]
    refine comp_congr _ (fun j hj => ?_)
    have := h (64 * k + j) (by omega)
    rw [List.getD_eq_getElem?_getD, List.getD_eq_getElem?_getD] at this ⊢
    rw [List.getElem?_drop, List.getElem?_drop]
    exact this
theorem blocks_add (st : List UInt32) (l : List UInt8) (q e : Nat) : blocks st l (q + e) = blocks (blocks st l q) (l.drop (64 * q)) e := by
  induction e with
  | zero => rfl
  | succ e ih =>
    rw [← Nat.add_assoc, blocks, blocks, ih, List.drop_drop]
    congr 2
    omega
/-- A number in eight bytes, the highest first. -/
def be8 (c : Nat) : List UInt8 := [UInt8.ofNat (c / 256 ^ 7), UInt8.ofNat (c / 256 ^ 6), UInt8.ofNat (c / 256 ^ 5), UInt8.ofNat (c / 256 ^ 4), UInt8.ofNat (c / 256 ^ 3), UInt8.ofNat (c / 256 ^ 2), UInt8.ofNat (c / 256 ^ 1), UInt8.ofNat (c / 256 ^ 0)]
theorem set_right (A B : List UInt8) (i : Nat) (x : UInt8) : (A ++ B).set (A.length + i) x = A ++ B.set i x := by
  rw [List.set_append_right _ _ (Nat.le_add_right _ _), Nat.add_sub_cancel_left]
theorem putLen_be (A : List UInt8) (c : Nat) : putLen (A ++ [0, 0, 0, 0, 0, 0, 0, 0]) (A.length + 8) c 8 = A ++ be8 c := by
  simp only [putLen]
  rw [show A.length + 8 - 1 - 0 = A.length + 7 from rfl, show A.length + 8 - 1 - 1 = A.length + 6 from rfl, show A.length + 8 - 1 - 2 = A.length + 5 from rfl, show A.length + 8 - 1 - 3 = A.length + 4 from rfl, show A.length + 8 - 1 - 4 = A.length + 3 from rfl, show A.length + 8 - 1 - 5 = A.length + 2 from rfl, show A.length + 8 - 1 - 6 = A.length + 1 from rfl, show A.length + 8 - 1 - 7 = A.length + 0 from rfl]
  rw [set_right, set_right, set_right, set_right, set_right, set_right, set_right, set_right]
  rfl
theorem ended_is (N : Nat) (r : List UInt8) (c : Nat) (h : r.length + 9 ≤ N) : ended N r c = r ++ 128 :: (zeros (N - 9 - r.length) ++ be8 c) := by
  have h1 : (splice (zeros N) 0 r).set r.length 128 = (r ++ 128 :: zeros (N - 9 - r.length)) ++ [0, 0, 0, 0, 0, 0, 0, 0] := by
    have e : splice (zeros N) 0 r = r ++ 0 :: (zeros (N - 9 - r.length) ++ [0, 0, 0, 0, 0, 0, 0, 0]) := by
      simp only [splice, List.take_zero, List.nil_append, Nat.zero_add]
      congr 1
      have e2 : (zeros N).drop r.length = zeros (N - r.length) := by simp [zeros]
      rw [e2, show N - r.length = 1 + (N - 9 - r.length) + 8 by omega]
      simp only [zeros, ← List.replicate_append_replicate]
      rfl
    rw [e]
    have := set_right r (0 :: (zeros (N - 9 - r.length) ++ [0, 0, 0, 0, 0, 0, 0, 0])) 0 128
    rw [Nat.add_zero] at this
    rw [this]
    simp
  have h2 : (r ++ 128 :: zeros (N - 9 - r.length)).length + 8 = N := by
    rw [List.length_append, List.length_cons, zeros_length]
    omega
  have key := putLen_be (r ++ 128 :: zeros (N - 9 - r.length)) c
  rw [h2] at key
  rw [ended, h1, key]
  simp
/-- How many noughts stand behind the bit. -/
def padZ (n : Nat) : Nat := (119 - n % 64) % 64
/-- The text, one bit, noughts, and the length in bits. -/
def pad (bs : List UInt8) : List UInt8 := bs ++ 128 :: (zeros (padZ bs.length) ++ be8 (8 * bs.length))
theorem be8_length (c : Nat) : (be8 c).length = 8 := rfl
theorem pad_length (bs : List UInt8) : (pad bs).length = 64 * (bs.length / 64 + endM (bs.drop (64 * (bs.length / 64)))) := by
  rw [pad, List.length_append, List.length_cons, List.length_append, zeros_length, be8_length]
  unfold endM padZ
  rw [List.length_drop]
  split <;> omega
theorem pad_drop (bs : List UInt8) : (pad bs).drop (64 * (bs.length / 64)) = ending (bs.drop (64 * (bs.length / 64))) (8 * (0 + bs.length)) := by
  have hl : 64 * (bs.length / 64) ≤ bs.length := by omega
  have hd : (bs.drop (64 * (bs.length / 64))).length = bs.length % 64 := by rw [List.length_drop]; omega
  rw [pad, List.drop_append_of_le_length hl, Nat.zero_add]
  unfold ending
  split
  · rename_i h
    rw [ended_is _ _ _ h]
    congr 4
    rw [hd] at h ⊢
    unfold padZ
    omega
  · rename_i h
    rw [ended_is 128 _ _ (by rw [hd]; omega)]
    congr 4
    rw [hd] at h ⊢
    unfold padZ
    omega
theorem sum_pad (bs : List UInt8) : sum bs = dig (blocks H0 (pad bs) ((pad bs).length / 64)) 8 := by
  have e : (pad bs).length / 64 = bs.length / 64 + endM (bs.drop (64 * (bs.length / 64))) := by rw [pad_length]; omega
  rw [e, blocks_add, pad_drop, sum, fin]
  congr 2
  refine blocks_congr _ (bs.length / 64) (fun j hj => ?_) _ (Nat.le_refl _)
  rw [pad, List.getD_eq_getElem?_getD, List.getD_eq_getElem?_getD, List.getElem?_append_left (by omega)]
end S
end Go.Proofs.YtdfjbajehcedaaaDoor
