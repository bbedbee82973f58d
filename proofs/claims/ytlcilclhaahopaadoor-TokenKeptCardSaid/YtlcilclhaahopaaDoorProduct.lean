/- Numbers as lists of parts of 16 bits: their value; how it turns when a part is set; comparing two. -/
import Derived.Test.YtlcilclhaahopaaDoorJoin
import Derived.Laws.Bits64b
namespace Go.Proofs.YtlcilclhaahopaaDoor
open Go.RowKit
namespace P
def val : List Nat → Nat
  | [] => 0
  | x :: r => x + 65536 * val r
theorem val_set (l : List Nat) (j y : Nat) (h : j < l.length) : val (l.set j y) + l.getD j 0 * 65536 ^ j = val l + y * 65536 ^ j := by
  induction l generalizing j with
  | nil => simp at h
  | cons x r ih =>
    cases j with
    | zero => simp [val]; omega
    | succ j =>
      have := ih j (by simpa using h)
      simp only [List.set_cons_succ, val, List.getD_cons_succ, Nat.pow_succ]
      rw [← Nat.mul_assoc, ← Nat.mul_assoc, Nat.mul_comm _ 65536, Nat.mul_comm _ 65536]
      omega
theorem val_take_succ (l : List Nat) (k : Nat) (h : k < l.length) : val (l.take (k + 1)) = val (l.take k) + l.getD k 0 * 65536 ^ k := by
  induction l generalizing k with
  | nil => simp at h
  | cons x r ih =>
    cases k with
    | zero => simp [val]
    | succ k =>
      have := ih k (by simpa using h)
      simp only [List.take_succ_cons, val, List.getD_cons_succ, Nat.pow_succ] at this ⊢
      rw [← Nat.mul_assoc, Nat.mul_comm _ 65536]
      omega
theorem val_lt (l : List Nat) (h : ∀ x ∈ l, x < 65536) : val l < 65536 ^ l.length := by
  induction l with
  | nil => simp [val]
  | cons x r ih =>
    have h1 := ih (fun y hy => h y (List.mem_cons_of_mem _ hy))
    have h2 := h x List.mem_cons_self
    simp only [val, List.length_cons, Nat.pow_succ]
    omega
theorem val_zeros (n : Nat) : val (List.replicate n 0) = 0 := by
  induction n with
  | zero => rfl
  | succ n ih => simp [List.replicate_succ, val, ih]
theorem val_split (l : List Nat) (k : Nat) : val l = val (l.take k) + 65536 ^ k * val (l.drop k) := by
  induction l generalizing k with
  | nil => simp [val]
  | cons x r ih =>
    cases k with
    | zero => simp [val]
    | succ k =>
      have := ih k
      simp only [List.take_succ_cons, List.drop_succ_cons, val, Nat.pow_succ]
      rw [this, Nat.mul_add, Nat.mul_comm (65536 ^ k) 65536, Nat.mul_assoc]
      omega
/-- Two lists that are one above place i, and less there. -/
theorem val_less (a b : List Nat) (i : Nat) (hl : a.length = b.length) (hi : i < a.length) (ha : ∀ x ∈ a, x < 65536) (hab : ∀ j, i < j → a.getD j 0 = b.getD j 0) (hlt : a.getD i 0 < b.getD i 0) : val a < val b := by
  have h1 := val_split a (i + 1)
  have h2 := val_split b (i + 1)
  have e : a.drop (i + 1) = b.drop (i + 1) := by
    apply List.ext_getElem?
    intro j
    have := hab (i + 1 + j) (by omega)
    rw [List.getElem?_drop, List.getElem?_drop]
    by_cases hj : i + 1 + j < a.length
    · rw [List.getD_eq_getElem?_getD, List.getD_eq_getElem?_getD, List.getElem?_eq_getElem hj, List.getElem?_eq_getElem (by omega)] at this
      rw [List.getElem?_eq_getElem hj, List.getElem?_eq_getElem (by omega)]
      simpa using this
    · rw [List.getElem?_eq_none (by omega), List.getElem?_eq_none (by omega)]
  rw [e] at h1
  rw [val_take_succ a i hi] at h1
  rw [val_take_succ b i (by omega)] at h2
  have h3 : val (a.take i) < 65536 ^ i := by
    have := val_lt (a.take i) (fun x hx => ha x (List.mem_of_mem_take hx))
    rw [List.length_take, Nat.min_eq_left (by omega)] at this
    exact this
  have h4 : (a.getD i 0 + 1) * 65536 ^ i ≤ b.getD i 0 * 65536 ^ i := Nat.mul_le_mul_right _ hlt
  rw [Nat.add_mul, Nat.one_mul] at h4
  omega
theorem val_same (a b : List Nat) (hl : a.length = b.length) (hab : ∀ j, a.getD j 0 = b.getD j 0) : a = b := by
  apply List.ext_getElem hl
  intro j h1 h2
  have := hab j
  rw [List.getD_eq_getElem?_getD, List.getD_eq_getElem?_getD, List.getElem?_eq_getElem h1, List.getElem?_eq_getElem h2] at this
  simpa using this
/-- One step of a row of the product. -/
theorem row_step (out : List Nat) (i k ai bk c V W : Nat) (h : i + k < out.length) (hv : val out + c * 65536 ^ (i + k) = V + ai * W * 65536 ^ i) :
    val (out.set (i + k) ((out.getD (i + k) 0 + ai * bk + c) % 65536)) + (out.getD (i + k) 0 + ai * bk + c) / 65536 * 65536 ^ (i + k + 1) = V + ai * (W + bk * 65536 ^ k) * 65536 ^ i := by
  have h1 := val_set out (i + k) ((out.getD (i + k) 0 + ai * bk + c) % 65536) h
  generalize hn : out.getD (i + k) 0 + ai * bk + c = n at *
  generalize hX : 65536 ^ (i + k) = X at *
  have h2 : 65536 ^ (i + k + 1) = X * 65536 := by rw [Nat.pow_succ, hX]
  have h3 : n * X = n % 65536 * X + n / 65536 * (X * 65536) := by
    conv => lhs; rw [← Nat.div_add_mod n 65536]
    rw [Nat.add_mul, Nat.mul_comm 65536 (n / 65536), Nat.mul_assoc, Nat.mul_comm 65536 X]
    omega
  have h4 : n * X = out.getD (i + k) 0 * X + ai * bk * X + c * X := by rw [← hn, Nat.add_mul, Nat.add_mul]
  have h5 : ai * (W + bk * 65536 ^ k) * 65536 ^ i = ai * W * 65536 ^ i + ai * bk * X := by
    rw [Nat.mul_add, Nat.add_mul, ← hX, Nat.pow_add]
    congr 1
    simp only [Nat.mul_assoc, Nat.mul_comm, Nat.mul_left_comm]
  rw [h2, h5]
  omega
end P
end Go.Proofs.YtlcilclhaahopaaDoor
namespace Go.Proofs.YtlcilclhaahopaaDoor
open Go.RowKit
/-- A row of uint64. -/
def q64 (l : List Nat) : Array Value := (l.map fun (x : Nat) => Value.int .u64 (x : Int)).toArray
theorem q64_cell {w : World} {g : Nat} {l : List Nat} {t : TypeId} (h : w.heap[g]? = some (.cells (q64 l) t (0, 0))) (j : Nat) (hj : j < l.length) : w.cell? ⟨g, j, none⟩ = some (.int .u64 ((l.getD j 0 : Nat) : Int)) := by
  rw [cell_of_row w g j _ t (0, 0) h]
  simp [q64, List.getD_eq_getElem?_getD, List.getElem?_eq_getElem hj]
theorem q64_set {w : World} {g : Nat} {l : List Nat} {t : TypeId} (h : w.heap[g]? = some (.cells (q64 l) t (0, 0))) (j y : Nat) :
    (w.setCell ⟨g, j, none⟩ (.int .u64 (y : Int))).heap[g]? = some (.cells (q64 (l.set j y)) t (0, 0)) := by
  rw [heap_setCell_same w g j _ t _ h]
  congr 2
  apply Array.ext'
  simp [q64, List.map_set]
theorem and_low (n : Nat) (h : n < 18446744073709551616) : bits .and .u64 (n : Int) 65535 = ((n % 65536 : Nat) : Int) := by
  have := bits_and_u64_nat n 65535 h (by omega)
  rw [show ((65535 : Nat) : Int) = 65535 from rfl] at this
  rw [this, show 65535 = 2 ^ 16 - 1 from rfl, Nat.and_two_pow_sub_one_eq_mod]
/-- The value v is a []uint64 that fills block g and reads as l. -/
def NumAt (w : World) (g : Nat) (l : List Nat) : Prop := w.heap[g]? = some (.cells (q64 l) 46 (0, 0)) ∧ ∀ x ∈ l, x < 65536
theorem NumAt.below {w w' : World} {g : Nat} {l : List Nat} (h : NumAt w g l) (hb : Below w.heap.size w w') : NumAt w' g l := ⟨(hb.block g (block_lt_of_row h.1)).trans h.1, h.2⟩
def P.limbs (x : Nat) : List Nat := [x % 65536, x / 65536 % 65536, x / 4294967296 % 65536, x / 281474976710656]
theorem P.val_limbs (x : Nat) : P.val (P.limbs x) = x := by simp only [P.limbs, P.val]; omega
theorem P.limbs_lt (x : Nat) (h : x < 18446744073709551616) : ∀ y ∈ P.limbs x, y < 65536 := by
  intro y hy
  simp only [P.limbs, List.mem_cons, List.not_mem_nil, or_false] at hy
  omega
set_option maxHeartbeats 800000 in
set_option maxRecDepth 100000 in
theorem limbs_any (x : Nat) (hx : x < 18446744073709551616) (w : World) :
   Calls Tryd.prog 89 #[.int .u64 (x : Int)] w fun e w' => e = .returned (.slice (some ⟨w.heap.size, 0, none⟩) 4 4) ∧ NumAt w' w.heap.size (P.limbs x) ∧ Below w.heap.size w w' := by
  have a1 := and_low x hx
  have a2 := and_low (x / 65536) (by omega)
  have a3 := and_low (x / 4294967296) (by omega)
  have e2 : ((x : Int) / 65536) = ((x / 65536 : Nat) : Int) := by omega
  have e3 : ((x : Int) / 4294967296) = ((x / 4294967296 : Nat) : Int) := by omega
  have e4 : ((x : Int) / 281474976710656) = ((x / 281474976710656 : Nat) : Int) := by omega
  rw [← e2] at a2
  rw [← e3] at a3
  have E4 := hide e4
  clear e2 e3 e4
  go_enter Tryd.func89, Tryd.ntmps89
  go_wp2
  go_ret
  refine ⟨rfl, ⟨?_, P.limbs_lt x hx⟩, (Below.refl _ _).alloc (Nat.le_refl _) _⟩
  rw [heap_alloc_new, show ((x : Int) % 65536) = ((x % 65536 : Nat) : Int) by omega, show ((x : Int) / 65536 % 65536) = ((x / 65536 % 65536 : Nat) : Int) by omega, show ((x : Int) / 4294967296 % 65536) = ((x / 4294967296 % 65536 : Nat) : Int) by omega, E4.out]
  rfl
theorem make8 (w : World) : (Instr.makeSlice 104 (.int .i64 8) (.int .i64 8)).run Tryd.prog w = .ok (.slice (some ⟨w.heap.size, 0, none⟩) 8 8) (w.alloc (.cells (q64 (List.replicate 8 0)) 46)) := by kernel_rfl
theorem make12 (w : World) : (Instr.makeSlice 104 (.int .i64 12) (.int .i64 12)).run Tryd.prog w = .ok (.slice (some ⟨w.heap.size, 0, none⟩) 12 12) (w.alloc (.cells (q64 (List.replicate 12 0)) 46)) := by kernel_rfl
theorem getD_lt {l : List Nat} (h : ∀ x ∈ l, x < 65536) (j : Nat) : l.getD j 0 < 65536 := by
  rw [List.getD_eq_getElem?_getD]
  cases hj : l[j]? with
  | none => simp
  | some y => simpa using h y (List.mem_of_getElem? hj)
theorem set_lt {l : List Nat} (h : ∀ x ∈ l, x < 65536) (j y : Nat) (hy : y < 65536) : ∀ x ∈ l.set j y, x < 65536 := by
  intro x hx
  rcases List.mem_or_eq_of_mem_set hx with h' | h'
  · exact h x h'
  · omega
theorem getD_set_ne {l : List Nat} {j i y : Nat} (h : j ≠ i) : (l.set i y).getD j 0 = l.getD j 0 := by
  rw [List.getD_eq_getElem?_getD, List.getD_eq_getElem?_getD, List.getElem?_set_ne (fun e => h e.symm)]
/-- What stands when rows 0 to i - 1 of the product are added. -/
structure Rows_ (la lb out : List Nat) (n i : Nat) : Prop where
  len : out.length = n
  lt : ∀ x ∈ out, x < 65536
  zero : ∀ j, i + lb.length ≤ j → out.getD j 0 = 0
  val : P.val out = P.val (la.take i) * P.val lb
/-- What stands when k places of row i are added. -/
structure Row_ (la lb out : List Nat) (n i k c : Nat) : Prop where
  len : out.length = n
  lt : ∀ x ∈ out, x < 65536
  zero : ∀ j, i + lb.length ≤ j → out.getD j 0 = 0
  clt : c < 65536
  val : P.val out + c * 65536 ^ (i + k) = P.val (la.take i) * P.val lb + la.getD i 0 * P.val (lb.take k) * 65536 ^ i
theorem Rows_.row {la lb out : List Nat} {n i : Nat} (h : Rows_ la lb out n i) : Row_ la lb out n i 0 0 := ⟨h.len, h.lt, fun j hj => h.zero j (by omega), by omega, by simp [P.val, h.val]⟩
theorem Row_.step {la lb out : List Nat} {n i k c : Nat} (h : Row_ la lb out n i k c) (hn : i + k < n) (hk : k < lb.length) (ha : la.getD i 0 < 65536) (hb : lb.getD k 0 < 65536) :
    Row_ la lb (out.set (i + k) ((out.getD (i + k) 0 + la.getD i 0 * lb.getD k 0 + c) % 65536)) n i (k + 1) ((out.getD (i + k) 0 + la.getD i 0 * lb.getD k 0 + c) / 65536) := by
  have h1 := getD_lt h.lt (i + k)
  have h2 := h.clt
  have h3 : la.getD i 0 * lb.getD k 0 ≤ 65535 * 65535 := Nat.mul_le_mul (by omega) (by omega)
  refine ⟨by rw [List.length_set]; exact h.len, set_lt h.lt _ _ (by omega), fun j hj => ?_, by omega, ?_⟩
  · rw [getD_set_ne (by omega)]; exact h.zero j hj
  · rw [P.val_take_succ lb k hk]
    exact P.row_step out i k (la.getD i 0) (lb.getD k 0) c _ _ (by rw [h.len]; exact hn) h.val
theorem Row_.done {la lb out : List Nat} {n i c : Nat} (h : Row_ la lb out n i lb.length c) (hn : i + lb.length < n) (hi : i < la.length) : Rows_ la lb (out.set (i + lb.length) (out.getD (i + lb.length) 0 + c)) n (i + 1) := by
  have hz := h.zero (i + lb.length) (Nat.le_refl _)
  have h2 := h.clt
  refine ⟨by rw [List.length_set]; exact h.len, set_lt h.lt _ _ (by omega), fun j hj => ?_, ?_⟩
  · rw [getD_set_ne (by omega)]; exact h.zero j (by omega)
  · have h1 := P.val_set out (i + lb.length) (out.getD (i + lb.length) 0 + c) (by rw [h.len]; exact hn)
    have hv := h.val
    rw [List.take_length] at hv
    rw [hz, Nat.zero_add] at h1 ⊢
    rw [P.val_take_succ la i hi, Nat.add_mul]
    have e : la.getD i 0 * 65536 ^ i * P.val lb = la.getD i 0 * P.val lb * 65536 ^ i := by simp only [Nat.mul_assoc, Nat.mul_comm, Nat.mul_left_comm]
    rw [e]
    omega
end Go.Proofs.YtlcilclhaahopaaDoor
namespace Go.Proofs.YtlcilclhaahopaaDoor
open Go.RowKit
set_option maxHeartbeats 2000000 in
set_option maxRecDepth 100000 in
theorem times_4_4 (ga gb : Nat) (la lb : List Nat) (hla : la.length = 4) (hlb : lb.length = 4) (w : World) (hA : NumAt w ga la) (hB : NumAt w gb lb) :
   Calls Tryd.prog 90 #[.slice (some ⟨ga, 0, none⟩) 4 4, .slice (some ⟨gb, 0, none⟩) 4 4] w fun e w' => ∃ lo, e = .returned (.slice (some ⟨w.heap.size, 0, none⟩) 8 8) ∧ NumAt w' w.heap.size lo ∧ lo.length = 8 ∧ P.val lo = P.val la * P.val lb ∧ Below w.heap.size w w' := by
  have HA := hide hA
  have HB := hide hB
  have HLA := hide hla
  have HLB := hide hlb
  have hmk := make8
  clear hA hB hla hlb
  go_enter Tryd.func90, Tryd.ntmps90
  go_wp2
  go_loopw [6] (fun i wr => ∃ k : Nat, k ≤ 4 ∧ i = .int .i64 (k : Int) ∧ ∃ out, wr.heap[w.heap.size]? = some (.cells (q64 out) 46 (0, 0)) ∧ Rows_ la lb out 8 k ∧ Below w.heap.size w wr) (fun i _ => 4 - (intOf i).toNat)
  case atStart =>
    refine ⟨0, by omega, rfl, List.replicate 8 0, heap_alloc_new _ _, ⟨by simp, fun x hx => by rw [List.eq_of_mem_replicate hx]; omega, fun j _ => ?_, ?_⟩, (Below.refl _ _).alloc (Nat.le_refl _) _⟩
    · rw [List.getD_eq_getElem?_getD, List.getElem?_replicate]; split <;> rfl
    · rw [P.val_zeros, List.take_zero]; simp [P.val]
  case round =>
    obtain ⟨k, hk, rfl, out0, r0, hrows, hbl⟩ := hrel
    have BL0 := hide hbl
    have R0 := hide r0
    have RW := hide hrows
    clear hmk hbl r0 hrows
    by_cases hlt : k < 4
    · have q1 : (0 : Int) ≤ (k : Int) := by omega
      have q2 : (k : Int) < 4 := by omega
      have q4 : IntKind.i64.wrap ((k : Int) + 1) = (k : Int) + 1 := by rw [IntKind.wrap_i64]; omega
      go_wp2
      obtain ⟨wo, rfl⟩ : ∃ wo : World, wo = wr := ⟨_, rfl⟩
      go_loopw [7, 8] (fun c i wr => ∃ j cc : Nat, j ≤ 4 ∧ i = .int .i64 (j : Int) ∧ c = .int .u64 (cc : Int) ∧ ∃ out, wr.heap[w.heap.size]? = some (.cells (q64 out) 46 (0, 0)) ∧ Row_ la lb out 8 k j cc ∧ Below w.heap.size w wr) (fun _ i _ => 4 - (intOf i).toNat)
      case atStart => exact ⟨0, 0, by omega, rfl, rfl, out0, R0.out, RW.out.row, BL0.out⟩
      case round =>
        obtain ⟨j, cc, hj, rfl, rfl, out, r1, hrow, hbl1⟩ := hrel
        by_cases hjl : j < 4
        · have hA := HA.out.below hbl1
          have hB := HB.out.below hbl1
          have c1 := q64_cell r1 (k + j) (by rw [hrow.len]; omega)
          have f1 := frozen_of_row _ _ (k + j) _ _ r1
          have c2 := q64_cell hA.1 k (by rw [HLA.out]; omega)
          have c3 := q64_cell hB.1 j (by rw [HLB.out]; omega)
          have ST := hide (hrow.step (by omega) (by rw [HLB.out]; omega) (getD_lt hA.2 k) (getD_lt hB.2 j))
          have R2 := hide (q64_set r1 (k + j) ((out.getD (k + j) 0 + la.getD k 0 * lb.getD j 0 + cc) % 65536))
          have BL2 := hide hbl1
          have l1 := getD_lt hrow.lt (k + j)
          have l2 := getD_lt hA.2 k
          have l3 := getD_lt hB.2 j
          have l4 := hrow.clt
          obtain ⟨m, hm⟩ : ∃ m, m = la.getD k 0 * lb.getD j 0 := ⟨_, rfl⟩
          have lm : m ≤ 65535 * 65535 := by rw [hm]; exact Nat.mul_le_mul (by omega) (by omega)
          have q5 : IntKind.u64.wrap (((la.getD k 0 : Nat) : Int) * ((lb.getD j 0 : Nat) : Int)) = (m : Int) := by
            rw [hm, ← Int.natCast_mul, ← hm, IntKind.wrap_u64]; omega
          rw [← hm] at ST R2
          clear hm hA hB r1 hrow hbl1
          generalize out.getD (k + j) 0 = o at *
          generalize la.getD k 0 = a at *
          generalize lb.getD j 0 = b at *
          obtain ⟨n, hn⟩ : ∃ n, n = o + m + cc := ⟨_, rfl⟩
          rw [← hn] at ST R2
          have q6 : IntKind.u64.wrap ((o : Int) + (m : Int)) = (o : Int) + (m : Int) := by rw [IntKind.wrap_u64]; omega
          have q7 : IntKind.u64.wrap ((o : Int) + (m : Int) + (cc : Int)) = (n : Int) := by rw [IntKind.wrap_u64]; omega
          have q8 := and_low n (by omega)
          have q9 : ((k : Int) + (j : Int)).toNat = k + j := by omega
          have p1 : (0 : Int) ≤ (k : Int) + (j : Int) := by omega
          have p2 : (k : Int) + (j : Int) < 8 := by omega
          have p3 : (0 : Int) ≤ (j : Int) := by omega
          have p4 : (j : Int) < 4 := by omega
          have p5 : IntKind.i64.wrap ((j : Int) + 1) = (j : Int) + 1 := by rw [IntKind.wrap_i64]; omega
          have p6 : IntKind.i64.wrap ((k : Int) + (j : Int)) = (k : Int) + (j : Int) := by rw [IntKind.wrap_i64]; omega
          have hn0 : n < 18446744073709551616 := by omega
          clear l1 l2 l3 l4 lm hn
          go_wp2
          go_quiet (fail)
          go_wp2
          have e9 : ((n : Int) % 65536) = ((n % 65536 : Nat) : Int) := by omega
          have hbq : Below w.heap.size w (wr.drewN nq) := ⟨BL2.out.os, BL2.out.tape, BL2.out.output, BL2.out.size, BL2.out.block⟩
          refine ⟨⟨j + 1, n / 65536, by omega, by simp, by simp, out.set (k + j) (n % 65536), ?_, ST.out, hbq.setCell (Nat.le_refl _) _⟩, by simp [intOf]; omega⟩
          rw [e9]
          exact R2.out
        · obtain rfl : 4 = j := by omega
          have c1 := q64_cell r1 (k + 4) (by rw [hrow.len]; omega)
          have f1 := frozen_of_row _ _ (k + 4) _ _ r1
          have hrow' : Row_ la lb out 8 k lb.length cc := by rw [HLB.out]; exact hrow
          have ST := hide (hrow'.done (by rw [HLB.out]; omega) (by rw [HLA.out]; omega))
          rw [HLB.out] at ST
          have R2 := hide (q64_set r1 (k + 4) (out.getD (k + 4) 0 + cc))
          have BL2 := hide hbl1
          have l1 := getD_lt hrow.lt (k + 4)
          have l4 := hrow.clt
          clear r1 hrow hrow' hbl1 R0 RW BL0
          generalize out.getD (k + 4) 0 = o at *
          have q6 : IntKind.u64.wrap ((o : Int) + (cc : Int)) = (o : Int) + (cc : Int) := by rw [IntKind.wrap_u64]; omega
          have q9 : ((k : Int) + 4).toNat = k + 4 := by omega
          have p1 : (0 : Int) ≤ (k : Int) + 4 := by omega
          have p2 : (k : Int) + 4 < 8 := by omega
          have p6 : IntKind.i64.wrap ((k : Int) + 4) = (k : Int) + 4 := by rw [IntKind.wrap_i64]; omega
          go_wp2
          go_roundw
          case rel => exact ⟨k + 1, by omega, by go_num, _, R2.out, ST.out, BL2.out.setCell (Nat.le_refl _) _⟩
          case measure => simp [intOf]; omega
    · obtain rfl : 4 = k := by omega
      go_wp2
      go_ret
      refine ⟨out0, rfl, ⟨R0.out, RW.out.lt⟩, RW.out.len, ?_, BL0.out⟩
      rw [RW.out.val, List.take_of_length_le (by rw [HLA.out]; omega)]
set_option maxHeartbeats 2000000 in
set_option maxRecDepth 100000 in
theorem times_8_4 (ga gb : Nat) (la lb : List Nat) (hla : la.length = 8) (hlb : lb.length = 4) (w : World) (hA : NumAt w ga la) (hB : NumAt w gb lb) :
   Calls Tryd.prog 90 #[.slice (some ⟨ga, 0, none⟩) 8 8, .slice (some ⟨gb, 0, none⟩) 4 4] w fun e w' => ∃ lo, e = .returned (.slice (some ⟨w.heap.size, 0, none⟩) 12 12) ∧ NumAt w' w.heap.size lo ∧ lo.length = 12 ∧ P.val lo = P.val la * P.val lb ∧ Below w.heap.size w w' := by
  have HA := hide hA
  have HB := hide hB
  have HLA := hide hla
  have HLB := hide hlb
  have hmk := make12
  clear hA hB hla hlb
  go_enter Tryd.func90, Tryd.ntmps90
  go_wp2
  go_loopw [6] (fun i wr => ∃ k : Nat, k ≤ 8 ∧ i = .int .i64 (k : Int) ∧ ∃ out, wr.heap[w.heap.size]? = some (.cells (q64 out) 46 (0, 0)) ∧ Rows_ la lb out 12 k ∧ Below w.heap.size w wr) (fun i _ => 8 - (intOf i).toNat)
  case atStart =>
    refine ⟨0, by omega, rfl, List.replicate 12 0, heap_alloc_new _ _, ⟨by simp, fun x hx => by rw [List.eq_of_mem_replicate hx]; omega, fun j _ => ?_, ?_⟩, (Below.refl _ _).alloc (Nat.le_refl _) _⟩
    · rw [List.getD_eq_getElem?_getD, List.getElem?_replicate]; split <;> rfl
    · rw [P.val_zeros, List.take_zero]; simp [P.val]
  case round =>
    obtain ⟨k, hk, rfl, out0, r0, hrows, hbl⟩ := hrel
    have BL0 := hide hbl
    have R0 := hide r0
    have RW := hide hrows
    clear hmk hbl r0 hrows
    by_cases hlt : k < 8
    · have q1 : (0 : Int) ≤ (k : Int) := by omega
      have q2 : (k : Int) < 8 := by omega
      have q4 : IntKind.i64.wrap ((k : Int) + 1) = (k : Int) + 1 := by rw [IntKind.wrap_i64]; omega
      go_wp2
      obtain ⟨wo, rfl⟩ : ∃ wo : World, wo = wr := ⟨_, rfl⟩
      go_loopw [7, 8] (fun c i wr => ∃ j cc : Nat, j ≤ 4 ∧ i = .int .i64 (j : Int) ∧ c = .int .u64 (cc : Int) ∧ ∃ out, wr.heap[w.heap.size]? = some (.cells (q64 out) 46 (0, 0)) ∧ Row_ la lb out 12 k j cc ∧ Below w.heap.size w wr) (fun _ i _ => 4 - (intOf i).toNat)
      case atStart => exact ⟨0, 0, by omega, rfl, rfl, out0, R0.out, RW.out.row, BL0.out⟩
      case round =>
        obtain ⟨j, cc, hj, rfl, rfl, out, r1, hrow, hbl1⟩ := hrel
        by_cases hjl : j < 4
        · have hA := HA.out.below hbl1
          have hB := HB.out.below hbl1
          have c1 := q64_cell r1 (k + j) (by rw [hrow.len]; omega)
          have f1 := frozen_of_row _ _ (k + j) _ _ r1
          have c2 := q64_cell hA.1 k (by rw [HLA.out]; omega)
          have c3 := q64_cell hB.1 j (by rw [HLB.out]; omega)
          have ST := hide (hrow.step (by omega) (by rw [HLB.out]; omega) (getD_lt hA.2 k) (getD_lt hB.2 j))
          have R2 := hide (q64_set r1 (k + j) ((out.getD (k + j) 0 + la.getD k 0 * lb.getD j 0 + cc) % 65536))
          have BL2 := hide hbl1
          have l1 := getD_lt hrow.lt (k + j)
          have l2 := getD_lt hA.2 k
          have l3 := getD_lt hB.2 j
          have l4 := hrow.clt
          obtain ⟨m, hm⟩ : ∃ m, m = la.getD k 0 * lb.getD j 0 := ⟨_, rfl⟩
          have lm : m ≤ 65535 * 65535 := by rw [hm]; exact Nat.mul_le_mul (by omega) (by omega)
          have q5 : IntKind.u64.wrap (((la.getD k 0 : Nat) : Int) * ((lb.getD j 0 : Nat) : Int)) = (m : Int) := by
            rw [hm, ← Int.natCast_mul, ← hm, IntKind.wrap_u64]; omega
          rw [← hm] at ST R2
          clear hm hA hB r1 hrow hbl1
          generalize out.getD (k + j) 0 = o at *
          generalize la.getD k 0 = a at *
          generalize lb.getD j 0 = b at *
          obtain ⟨n, hn⟩ : ∃ n, n = o + m + cc := ⟨_, rfl⟩
          rw [← hn] at ST R2
          have q6 : IntKind.u64.wrap ((o : Int) + (m : Int)) = (o : Int) + (m : Int) := by rw [IntKind.wrap_u64]; omega
          have q7 : IntKind.u64.wrap ((o : Int) + (m : Int) + (cc : Int)) = (n : Int) := by rw [IntKind.wrap_u64]; omega
          have q8 := and_low n (by omega)
          have q9 : ((k : Int) + (j : Int)).toNat = k + j := by omega
          have p1 : (0 : Int) ≤ (k : Int) + (j : Int) := by omega
          have p2 : (k : Int) + (j : Int) < 12 := by omega
          have p3 : (0 : Int) ≤ (j : Int) := by omega
          have p4 : (j : Int) < 4 := by omega
          have p5 : IntKind.i64.wrap ((j : Int) + 1) = (j : Int) + 1 := by rw [IntKind.wrap_i64]; omega
          have p6 : IntKind.i64.wrap ((k : Int) + (j : Int)) = (k : Int) + (j : Int) := by rw [IntKind.wrap_i64]; omega
          have hn0 : n < 18446744073709551616 := by omega
          clear l1 l2 l3 l4 lm hn
          go_wp2
          go_quiet (fail)
          go_wp2
          have e9 : ((n : Int) % 65536) = ((n % 65536 : Nat) : Int) := by omega
          have hbq : Below w.heap.size w (wr.drewN nq) := ⟨BL2.out.os, BL2.out.tape, BL2.out.output, BL2.out.size, BL2.out.block⟩
          refine ⟨⟨j + 1, n / 65536, by omega, by simp, by simp, out.set (k + j) (n % 65536), ?_, ST.out, hbq.setCell (Nat.le_refl _) _⟩, by simp [intOf]; omega⟩
          rw [e9]
          exact R2.out
        · obtain rfl : 4 = j := by omega
          have c1 := q64_cell r1 (k + 4) (by rw [hrow.len]; omega)
          have f1 := frozen_of_row _ _ (k + 4) _ _ r1
          have hrow' : Row_ la lb out 12 k lb.length cc := by rw [HLB.out]; exact hrow
          have ST := hide (hrow'.done (by rw [HLB.out]; omega) (by rw [HLA.out]; omega))
          rw [HLB.out] at ST
          have R2 := hide (q64_set r1 (k + 4) (out.getD (k + 4) 0 + cc))
          have BL2 := hide hbl1
          have l1 := getD_lt hrow.lt (k + 4)
          have l4 := hrow.clt
          clear r1 hrow hrow' hbl1 R0 RW BL0
          generalize out.getD (k + 4) 0 = o at *
          have q6 : IntKind.u64.wrap ((o : Int) + (cc : Int)) = (o : Int) + (cc : Int) := by rw [IntKind.wrap_u64]; omega
          have q9 : ((k : Int) + 4).toNat = k + 4 := by omega
          have p1 : (0 : Int) ≤ (k : Int) + 4 := by omega
          have p2 : (k : Int) + 4 < 12 := by omega
          have p6 : IntKind.i64.wrap ((k : Int) + 4) = (k : Int) + 4 := by rw [IntKind.wrap_i64]; omega
          go_wp2
          go_roundw
          case rel => exact ⟨k + 1, by omega, by go_num, _, R2.out, ST.out, BL2.out.setCell (Nat.le_refl _) _⟩
          case measure => simp [intOf]; omega
    · obtain rfl : 8 = k := by omega
      go_wp2
      go_ret
      refine ⟨out0, rfl, ⟨R0.out, RW.out.lt⟩, RW.out.len, ?_, BL0.out⟩
      rw [RW.out.val, List.take_of_length_le (by rw [HLA.out]; omega)]
end Go.Proofs.YtlcilclhaahopaaDoor
