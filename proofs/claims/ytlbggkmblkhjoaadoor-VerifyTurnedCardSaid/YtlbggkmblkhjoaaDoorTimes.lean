/- limbs and times of the document's own answer: a number in parts of 16 bits, and the product of two such; nothing that was there changes. -/
import Derived.Test.YtlbggkmblkhjoaaDoorVal
import Derived.Laws.Bits64b
namespace Go.Proofs.YtlbggkmblkhjoaaDoor
open Go.RowKit
/-- A row of uint64. -/
def q64 (l : List Nat) : Array Value := (l.map fun (x : Nat) => Value.int .u64 (x : Int)).toArray
theorem q64_cell {w : World} {g : Nat} {l : List Nat} {t : TypeId} (h : w.heap[g]? = some (.cells (q64 l) t (0, 0))) (j : Nat) (hj : j < l.length) : w.cell? ⟨g, j, none⟩ = some (.int .u64 ((l.getD j 0 : Nat) : Int)) := by
  rw [cell_of_row w g j _ t (0, 0) h]
  simp [q64, List.getD_eq_getElem?_getD, List.getElem?_eq_getElem hj]
theorem q64_set {w : World} {g : Nat} {l : List Nat} {t : TypeId} (h : w.heap[g]? = some (.cells (q64 l) t (0, 0))) (j y : Nat) :
    (w.setCell ⟨g, j, none⟩ (.int .u64 (y : Int))).heap[g]? = some (.cells (q64 (l.set j y)) t (0, 0)) := by
  rw [heap_setCell_same w g j _ t _ h]
  congr 2
  apply Array.ext'
  simp [q64, List.map_set]
theorem and_low (n : Nat) (h : n < 18446744073709551616) : bits .and .u64 (n : Int) 65535 = ((n % 65536 : Nat) : Int) := by
  have := bits_and_u64_nat n 65535 h (by omega)
  rw [show ((65535 : Nat) : Int) = 65535 from rfl] at this
  rw [this, show 65535 = 2 ^ 16 - 1 from rfl, Nat.and_two_pow_sub_one_eq_mod]
/-- The value v is a []uint64 that fills block g and reads as l. -/
def NumAt (w : World) (g : Nat) (l : List Nat) : Prop := w.heap[g]? = some (.cells (q64 l) 28 (0, 0)) ∧ ∀ x ∈ l, x < 65536
theorem NumAt.below {w w' : World} {g : Nat} {l : List Nat} (h : NumAt w g l) (hb : Below w.heap.size w w') : NumAt w' g l := ⟨(hb.block g (block_lt_of_row h.1)).trans h.1, h.2⟩
def P.limbs (x : Nat) : List Nat := [x % 65536, x / 65536 % 65536, x / 4294967296 % 65536, x / 281474976710656]
theorem P.val_limbs (x : Nat) : P.val (P.limbs x) = x := by simp only [P.limbs, P.val]; omega
theorem P.limbs_lt (x : Nat) (h : x < 18446744073709551616) : ∀ y ∈ P.limbs x, y < 65536 := by
  intro y hy
  simp only [P.limbs, List.mem_cons, List.not_mem_nil, or_false] at hy
  omega
set_option maxHeartbeats 800000 in
set_option maxRecDepth 100000 in
theorem limbs_any (x : Nat) (hx : x < 18446744073709551616) (w : World) :
   Calls Tryd.prog 76 #[.int .u64 (x : Int)] w fun e w' => e = .returned (.slice (some ⟨w.heap.size, 0, none⟩) 4 4) ∧ NumAt w' w.heap.size (P.limbs x) ∧ Below w.heap.size w w' := by
  have a1 := and_low x hx
  have a2 := and_low (x / 65536) (by omega)
  have a3 := and_low (x / 4294967296) (by omega)
  have e2 : ((x : Int) / 65536) = ((x / 65536 : Nat) : Int) := by omega
  have e3 : ((x : Int) / 4294967296) = ((x / 4294967296 : Nat) : Int) := by omega
  have e4 : ((x : Int) / 281474976710656) = ((x / 281474976710656 : Nat) : Int) := by omega
  rw [← e2] at a2
  rw [← e3] at a3
  have E4 := hide e4
  clear e2 e3 e4
  go_enter Tryd.func76, Tryd.ntmps76
  go_wp2
  go_ret
  refine ⟨rfl, ⟨?_, P.limbs_lt x hx⟩, (Below.refl _ _).alloc (Nat.le_refl _) _⟩
  rw [heap_alloc_new, show ((x : Int) % 65536) = ((x % 65536 : Nat) : Int) by omega, show ((x : Int) / 65536 % 65536) = ((x / 65536 % 65536 : Nat) : Int) by omega, show ((x : Int) / 4294967296 % 65536) = ((x / 4294967296 % 65536 : Nat) : Int) by omega, E4.out]
  rfl
theorem make8 (w : World) : (Instr.makeSlice 98 (.int .i64 8) (.int .i64 8)).run Tryd.prog w = .ok (.slice (some ⟨w.heap.size, 0, none⟩) 8 8) (w.alloc (.cells (q64 (List.replicate 8 0)) 28)) := by kernel_rfl
theorem make12 (w : World) : (Instr.makeSlice 98 (.int .i64 12) (.int .i64 12)).run Tryd.prog w = .ok (.slice (some ⟨w.heap.size, 0, none⟩) 12 12) (w.alloc (.cells (q64 (List.replicate 12 0)) 28)) := by kernel_rfl
theorem getD_lt {l : List Nat} (h : ∀ x ∈ l, x < 65536) (j : Nat) : l.getD j 0 < 65536 := by
  rw [List.getD_eq_getElem?_getD]
  cases hj : l[j]? with
  | none => simp
  | some y => simpa using h y (List.mem_of_getElem? hj)
theorem set_lt {l : List Nat} (h : ∀ x ∈ l, x < 65536) (j y : Nat) (hy : y < 65536) : ∀ x ∈ l.set j y, x < 65536 := by
  intro x hx
  rcases List.mem_or_eq_of_mem_set hx with h' | h'
  · exact h x h'
  · omega
theorem getD_set_ne {l : List Nat} {j i y : Nat} (h : j ≠ i) : (l.set i y).getD j 0 = l.getD j 0 := by
  rw [List.getD_eq_getElem?_getD, List.getD_eq_getElem?_getD, List.getElem?_set_ne (fun e => h e.symm)]
/-- What stands when rows 0 to i - 1 of the product are added. -/
structure Rows_ (la lb out : List Nat) (n i : Nat) : Prop where
  len : out.length = n
  lt : ∀ x ∈ out, x < 65536
  zero : ∀ j, i + lb.length ≤ j → out.getD j 0 = 0
  val : P.val out = P.val (la.take i) * P.val lb
/-- What stands when k places of row i are added. -/
structure Row_ (la lb out : List Nat) (n i k c : Nat) : Prop where
  len : out.length = n
  lt : ∀ x ∈ out, x < 65536
  zero : ∀ j, i + lb.length ≤ j → out.getD j 0 = 0
  clt : c < 65536
  val : P.val out + c * 65536 ^ (i + k) = P.val (la.take i) * P.val lb + la.getD i 0 * P.val (lb.take k) * 65536 ^ i
theorem Rows_.row {la lb out : List Nat} {n i : Nat} (h : Rows_ la lb out n i) : Row_ la lb out n i 0 0 := ⟨h.len, h.lt, fun j hj => h.zero j (by omega), by omega, by simp [P.val, h.val]⟩
theorem Row_.step {la lb out : List Nat} {n i k c : Nat} (h : Row_ la lb out n i k c) (hn : i + k < n) (hk : k < lb.length) (ha : la.getD i 0 < 65536) (hb : lb.getD k 0 < 65536) :
    Row_ la lb (out.set (i + k) ((out.getD (i + k) 0 + la.getD i 0 * lb.getD k 0 + c) % 65536)) n i (k + 1) ((out.getD (i + k) 0 + la.getD i 0 * lb.getD k 0 + c) / 65536) := by
  have h1 := getD_lt h.lt (i + k)
  have h2 := h.clt
  have h3 : la.getD i 0 * lb.getD k 0 ≤ 65535 * 65535 := Nat.mul_le_mul (by omega) (by omega)
  refine ⟨by rw [List.length_set]; exact h.len, set_lt h.lt _ _ (by omega), fun j hj => ?_, by omega, ?_⟩
  · rw [getD_set_ne (by omega)]; exact h.zero j hj
  · rw [P.val_take_succ lb k hk]
    exact P.row_step out i k (la.getD i 0) (lb.getD k 0) c _ _ (by rw [h.len]; exact hn) h.val
theorem Row_.done {la lb out : List Nat} {n i c : Nat} (h : Row_ la lb out n i lb.length c) (hn : i + lb.length < n) (hi : i < la.length) : Rows_ la lb (out.set (i + lb.length) (out.getD (i + lb.length) 0 + c)) n (i + 1) := by
  have hz := h.zero (i + lb.length) (Nat.le_refl _)
  have h2 := h.clt
  refine ⟨by rw [List.length_set]; exact h.len, set_lt h.lt _ _ (by omega), fun j hj => ?_, ?_⟩
  · rw [getD_set_ne (by omega)]; exact h.zero j (by omega)
  · have h1 := P.val_set out (i + lb.length) (out.getD (i + lb.length) 0 + c) (by rw [h.len]; exact hn)
    have hv := h.val
    rw [List.take_length] at hv
    rw [hz, Nat.zero_add] at h1 ⊢
    rw [P.val_take_succ la i hi, Nat.add_mul]
    have e : la.getD i 0 * 65536 ^ i * P.val lb = la.getD i 0 * P.val lb * 65536 ^ i := by simp only [Nat.mul_assoc, Nat.mul_comm, Nat.mul_left_comm]
    rw [e]
    omega
end Go.Proofs.YtlbggkmblkhjoaaDoor
