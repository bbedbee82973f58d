/- Numbers as lists of parts of 16 bits: their value; how it turns when a part is set; comparing two. -/
import Derived.Test.YtlbggkmblkhjoaaDoorJoin
namespace Go.Proofs.YtlbggkmblkhjoaaDoor
open Go.RowKit
namespace P
def val : List Nat → Nat
  | [] => 0
  | x :: r => x + 65536 * val r
theorem val_set (l : List Nat) (j y : Nat) (h : j < l.length) : val (l.set j y) + l.getD j 0 * 65536 ^ j = val l + y * 65536 ^ j := by
  induction l generalizing j with
  | nil => simp at h
  | cons x r ih =>
    cases j with
    | zero => simp [val]; omega
    | succ j =>
      have := ih j (by simpa using h)
      simp only [List.set_cons_succ, val, List.getD_cons_succ, Nat.pow_succ]
      rw [← Nat.mul_assoc, ← Nat.mul_assoc, Nat.mul_comm _ 65536, Nat.mul_comm _ 65536]
      omega
theorem val_take_succ (l : List Nat) (k : Nat) (h : k < l.length) : val (l.take (k + 1)) = val (l.take k) + l.getD k 0 * 65536 ^ k := by
  induction l generalizing k with
  | nil => simp at h
  | cons x r ih =>
    cases k with
    | zero => simp [val]
    | succ k =>
      have := ih k (by simpa using h)
      simp only [List.take_succ_cons, val, List.getD_cons_succ, Nat.pow_succ] at this ⊢
      rw [← Nat.mul_assoc, Nat.mul_comm _ 65536]
      omega
theorem val_lt (l : List Nat) (h : ∀ x ∈ l, x < 65536) : val l < 65536 ^ l.length := by
  induction l with
  | nil => simp [val]
  | cons x r ih =>
    have h1 := ih (fun y hy => h y (List.mem_cons_of_mem _ hy))
    have h2 := h x List.mem_cons_self
    simp only [val, List.length_cons, Nat.pow_succ]
    omega
theorem val_zeros (n : Nat) : val (List.replicate n 0) = 0 := by
  induction n with
  | zero => rfl
  | succ n ih => simp [List.replicate_succ, val, ih]
theorem val_split (l : List Nat) (k : Nat) : val l = val (l.take k) + 65536 ^ k * val (l.drop k) := by
  induction l generalizing k with
  | nil => simp [val]
  | cons x r ih =>
    cases k with
    | zero => simp [val]
    | succ k =>
      have := ih k
      simp only [List.take_succ_cons, List.drop_succ_cons, val, Nat.pow_succ]
      rw [this, Nat.mul_add, Nat.mul_comm (65536 ^ k) 65536, Nat.mul_assoc]
      omega
/-- Two lists that are one above place i, and less there. -/
theorem val_less (a b : List Nat) (i : Nat) (hl : a.length = b.length) (hi : i < a.length) (ha : ∀ x ∈ a, x < 65536) (hab : ∀ j, i < j → a.getD j 0 = b.getD j 0) (hlt : a.getD i 0 < b.getD i 0) : val a < val b := by
  have h1 := val_split a (i + 1)
  have h2 := val_split b (i + 1)
  have e : a.drop (i + 1) = b.drop (i + 1) := by
    apply List.ext_getElem?
    intro j
    have := hab (i + 1 + j) (by omega)
    rw [List.getElem?_drop, List.getElem?_drop]
    by_cases hj : i + 1 + j < a.length
    · rw [List.getD_eq_getElem?_getD, List.getD_eq_getElem?_getD, List.getElem?_eq_getElem hj, List.getElem?_eq_getElem (by omega)] at this
      rw [List.getElem?_eq_getElem hj, List.getElem?_eq_getElem (by omega)]
      simpa using this
    · rw [List.getElem?_eq_none (by omega), List.getElem?_eq_none (by omega)]
  rw [e] at h1
  rw [val_take_succ a i hi] at h1
  rw [val_take_succ b i (by omega)] at h2
  have h3 : val (a.take i) < 65536 ^ i := by
    have := val_lt (a.take i) (fun x hx => ha x (List.mem_of_mem_take hx))
    rw [List.length_take, Nat.min_eq_left (by omega)] at this
    exact this
  have h4 : (a.getD i 0 + 1) * 65536 ^ i ≤ b.getD i 0 * 65536 ^ i := Nat.mul_le_mul_right _ hlt
  rw [Nat.add_mul, Nat.one_mul] at h4
  omega
theorem val_same (a b : List Nat) (hl : a.length = b.length) (hab : ∀ j, a.getD j 0 = b.getD j 0) : a = b := by
  apply List.ext_getElem hl
  intro j h1 h2
  have := hab j
  rw [List.getD_eq_getElem?_getD, List.getD_eq_getElem?_getD, List.getElem?_eq_getElem h1, List.getElem?_eq_getElem h2] at this
  simpa using this
/-- One step of a row of the product. -/
theorem row_step (out : List Nat) (i k ai bk c V W : Nat) (h : i + k < out.length) (hv : val out + c * 65536 ^ (i + k) = V + ai * W * 65536 ^ i) :
    val (out.set (i + k) ((out.getD (i + k) 0 + ai * bk + c) % 65536)) + (out.getD (i + k) 0 + ai * bk + c) / 65536 * 65536 ^ (i + k + 1) = V + ai * (W + bk * 65536 ^ k) * 65536 ^ i := by
  have h1 := val_set out (i + k) ((out.getD (i + k) 0 + ai * bk + c) % 65536) h
  generalize hn : out.getD (i + k) 0 + ai * bk + c = n at *
  generalize hX : 65536 ^ (i + k) = X at *
  have h2 : 65536 ^ (i + k + 1) = X * 65536 := by rw [Nat.pow_succ, hX]
  have h3 : n * X = n % 65536 * X + n / 65536 * (X * 65536) := by
    conv => lhs; rw [← Nat.div_add_mod n 65536]
    rw [Nat.add_mul, Nat.mul_comm 65536 (n / 65536), Nat.mul_assoc, Nat.mul_comm 65536 X]
    omega
  have h4 : n * X = out.getD (i + k) 0 * X + ai * bk * X + c * X := by rw [← hn, Nat.add_mul, Nat.add_mul]
  have h5 : ai * (W + bk * 65536 ^ k) * 65536 ^ i = ai * W * 65536 ^ i + ai * bk * X := by
    rw [Nat.mul_add, Nat.add_mul, ← hX, Nat.pow_add]
    congr 1
    simp only [Nat.mul_assoc, Nat.mul_comm, Nat.mul_left_comm]
  rw [h2, h5]
  omega
end P
end Go.Proofs.YtlbggkmblkhjoaaDoor
