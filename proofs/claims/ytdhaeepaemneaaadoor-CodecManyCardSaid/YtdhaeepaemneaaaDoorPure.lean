/- What is written is read: plain facts about bytes, numbers and readers. -/
import Derived.Test.YtdhaeepaemneaaaDoorSay
namespace Go.Proofs.YtdhaeepaemneaaaDoor
open Go.RowKit
namespace S
theorem val_cons (x : UInt8) (l : List UInt8) : val (x :: l) = x.toNat * 256 ^ l.length + val l := by
  have key : ∀ (l : List UInt8) (a : Nat), l.foldl (fun a x => a * 256 + x.toNat) a = a * 256 ^ l.length + l.foldl (fun a x => a * 256 + x.toNat) 0 := by
    intro l
    induction l with
    | nil => intro a; simp
    | cons y t ih =>
      intro a
      rw [List.foldl_cons, List.foldl_cons, ih (a * 256 + y.toNat), ih (0 * 256 + y.toNat), List.length_cons, Nat.pow_succ, Nat.add_mul]
      simp only [Nat.zero_mul, Nat.zero_add]
      rw [Nat.mul_assoc, Nat.mul_comm 256, Nat.add_assoc]
  unfold val
  rw [List.foldl_cons, key]
  simp
theorem val_num (n m : Nat) : val (num n m) = n % 256 ^ m := by
  induction m with
  | zero => simp [num, val, Nat.mod_one]
  | succ m ih =>
    rw [num, val_cons, num_length, ih, UInt8.toNat_ofNat']
    have h := Nat.mod_mul_right_div_self n (256 ^ m) 256
    have h2 := Nat.div_add_mod (n % (256 ^ m * 256)) (256 ^ m)
    rw [h, Nat.mod_mul_right_mod] at h2
    have e : (2 : Nat) ^ 8 = 256 := by decide
    rw [e, show 256 ^ (m + 1) = 256 ^ m * 256 from Nat.pow_succ .., ← h2, Nat.mul_comm]
theorem Rd.take_app (A B C : List UInt8) (ba : Int) : (Rd.mk (A ++ (B ++ C)) A.length ba 0).take B.length = (⟨A ++ (B ++ C), A.length + B.length, ba, 0⟩, B) := by
  unfold Rd.take
  rw [if_pos rfl, if_pos (by simp only [List.length_append]; omega)]
  simp
theorem Rd.number_app (A B C : List UInt8) (ba k : Int) (h : B.length = size k) : (Rd.mk (A ++ (B ++ C)) A.length ba 0).number k = (⟨A ++ (B ++ C), A.length + B.length, ba, 0⟩, val B) := by
  unfold Rd.number
  rw [← h, Rd.take_app]
theorem Rd.bytes_app (A xs C : List UInt8) (ba most : Int) (hx : xs.length < 65536) (hm : (xs.length : Int) ≤ most) : (Rd.mk (A ++ (num xs.length 2 ++ (xs ++ C))) A.length ba 0).bytes most = (⟨A ++ (num xs.length 2 ++ (xs ++ C)), A.length + 2 + xs.length, ba, 0⟩, xs) := by
  have h1 := Rd.number_app A (num xs.length 2) (xs ++ C) ba 2 (by rw [num_length]; decide)
  have e : (256 : Nat) ^ 2 = 65536 := by decide
  have h2 : val (num xs.length 2) = xs.length := by rw [val_num, e]; exact Nat.mod_eq_of_lt hx
  unfold Rd.bytes
  rw [h1, h2]
  simp only
  rw [if_neg (by omega)]
  have h3 := Rd.take_app (A ++ num xs.length 2) xs C ba
  rw [List.append_assoc, List.length_append, num_length] at h3
  rw [num_length]
  exact h3
theorem Rd.digest_app (A d C : List UInt8) (ba : Int) (hd : d.length = 32) : (Rd.mk (A ++ (d ++ C)) A.length ba 0).digest = (⟨A ++ (d ++ C), A.length + 32, ba, 0⟩, d) := by
  have h := Rd.take_app A d C ba
  rw [hd] at h
  unfold Rd.digest
  rw [h, splice_front, hd]
  simp [zeros]
theorem Rd.digest_end (A B : List UInt8) (ba : Int) (hB : B.length < 32) : (Rd.mk (A ++ B) A.length ba 0).digest = (⟨A ++ B, A.length, ((A ++ B).length : Nat), 10⟩, zeros 32) := by
  have h : (Rd.mk (A ++ B) A.length ba 0).take 32 = (⟨A ++ B, A.length, ((A ++ B).length : Nat), 10⟩, []) := by
    unfold Rd.take
    rw [if_pos rfl, if_neg (by simp only [List.length_append]; omega)]
  unfold Rd.digest
  rw [h, splice_front]
  simp
theorem text_short (xs : List UInt8) (h : xs.length < 65536) : text xs = num xs.length 2 ++ xs := by
  unfold text
  rw [Nat.mod_eq_of_lt h, List.take_length]
theorem size_nat (a : Nat) (h : a ≤ 7) : size ((a : Int) + 1) = a + 1 := by unfold size; omega
end S
end Go.Proofs.YtdhaeepaemneaaaDoor
