/- Within and Cut: a number is brought between 0 and a bound; a digest cut to a width is the Lean function's; nothing that was there changes. -/
import Derived.Test.YtkljajfgdelfgaaDoorSum
import Derived.Test.YtkljajfgdelfgaaDoorWithin
namespace Go.Proofs.YtkljajfgdelfgaaDoor
open Go.RowKit
namespace S
def zero (d : List UInt8) (a : Nat) : Nat → List UInt8
  | 0 => d
  | n + 1 => (zero d a n).set (a + n) 0
theorem zero_length (d : List UInt8) (a n : Nat) : (zero d a n).length = d.length := by
  induction n with
  | zero => rfl
  | succ n ih => simp [zero, ih]
theorem zero_get (d : List UInt8) (a n j : Nat) : (zero d a n)[j]? = if a ≤ j ∧ j < a + n ∧ j < d.length then some 0 else d[j]? := by
  induction n with
  | zero => rw [if_neg (by omega)]; rfl
  | succ n ih =>
    simp only [zero, List.getElem?_set, zero_length, ih]
    by_cases h1 : a + n = j
    · subst h1
      by_cases h2 : a + n < d.length
      · simp [h2]
      · simp [h2]
    · by_cases h2 : a ≤ j ∧ j < a + n ∧ j < d.length
      · rw [if_neg h1, if_pos h2, if_pos (by omega)]
      · rw [if_neg h1, if_neg h2, if_neg (by omega)]
/-- d cut to its first a bytes. -/
def cut (d : List UInt8) (a : Nat) : List UInt8 := zero d a (32 - a)
theorem cut_length (d : List UInt8) (a : Nat) : (cut d a).length = d.length := zero_length _ _ _
theorem cut_cut (d : List UInt8) (hd : d.length = 32) (a b : Nat) : cut (cut d a) b = cut d (min a b) := by
  apply List.ext_getElem?
  intro j
  simp only [cut, zero_get, zero_length, hd]
  by_cases h1 : b ≤ j ∧ j < b + (32 - b) ∧ j < 32
  · rw [if_pos h1, if_pos (by omega)]
  · rw [if_neg h1]
    by_cases h2 : a ≤ j ∧ j < a + (32 - a) ∧ j < 32
    · rw [if_pos h2, if_pos (by omega)]
    · rw [if_neg h2, if_neg (by omega)]
end S
set_option maxHeartbeats 800000 in
set_option maxRecDepth 100000 in
theorem cut_any (d : List UInt8) (hd : d.length = 32) (a : Nat) (ha : a ≤ 9223372036854775807) (w : World) :
   Calls Tryd.prog 62 #[.agg (S.v8 d), .int .i64 (a : Int)] w fun e w' => e = .returned (.agg (S.v8 (S.cut d a))) ∧ Below w.heap.size w w' := by
  have HD := hide hd
  clear hd
  have q0 : (0 : Int) ≤ (a : Int) := by omega
  go_enter Tryd.func62, Tryd.ntmps62
  go_wp2
  go_loopw [5] (fun i wr => ∃ n : Nat, n ≤ 32 - a ∧ i = .int .i64 ((a + n : Nat) : Int) ∧ wr.heap[w.heap.size]? = some (.cells (S.v8 (S.zero d a n)) 23 (0, 0)) ∧ wr.heap[w.heap.size + 1]? = some (.cells (S.v8 (S.zeros 32)) 23 (0, 0)) ∧ Below w.heap.size w wr)
    (fun i _ => 32 - (intOf i).toNat)
  case atStart => exact ⟨0, by omega, by go_num, heap_alloc2_old _ _ _, heap_alloc2_new _ _ _, ((Below.refl _ _).alloc (Nat.le_refl _) _).alloc (by simp) _⟩
  case round =>
    obtain ⟨n, hn, rfl, r0, r1, hnx⟩ := hrel
    obtain ⟨k, hk⟩ : ∃ k : Nat, k = a + n := ⟨_, rfl⟩
    rw [← hk]
    have hl : (S.zero d a n).length = 32 := by rw [S.zero_length]; exact HD.out
    by_cases hlt : k < 32
    · have ce := v8_cell r0 k (by omega)
      have cf := frozen_of_row _ _ k _ _ r0
      have R1 := v8_set r0 k 0
      have hnext : (S.zero d a n).set k 0 = S.zero d a (n + 1) := by rw [hk]; rfl
      rw [hnext] at R1
      have q1 : (0 : Int) ≤ (k : Int) := by omega
      have q2 : (k : Int) < 32 := by omega
      have A := hide R1
      have B := hide r1
      have C := hide hnx
      have D := hide hk
      clear R1 r0 r1 hnx hk hl hnext
      go_wp2
      go_roundw
      case rel => exact ⟨n + 1, by have := D.out; omega, by have := D.out; go_num, A.out, (heap_setCell_other _ _ _ _ (by simp)).trans B.out, C.out.setCell (by exact Nat.le_refl _) _⟩
      case measure => simp [intOf]; omega
    · have hcut : S.zero d a n = S.cut d a := by unfold S.cut; rw [show 32 - a = n from by omega]
      rw [hcut] at r0 hl
      have hs : (Tryd.prog.info? 23).map (·.size) = some (S.v8 (S.cut d a)).size := by rw [S.v8_size, hl]; exact size23
      have ho : (S.v8 (S.zeros 32)).size = (S.v8 (S.cut d a)).size := by rw [S.v8_size, S.v8_size, hl]; rfl
      have q2 : (32 : Int) ≤ (k : Int) := by omega
      have A := hide r0
      have B := hide r1
      have C := hide hnx
      have E1 := hide hs
      have E2 := hide ho
      clear r0 r1 hnx hk hl hcut hs ho
      go_wp2_with (first | refine wpList_load_row rfl 23 _ rfl w.heap.size rfl 23 _ _ _ A.out Tryd.underlying23 rfl E1.out ?_ | refine wpList_store_row rfl 23 _ _ rfl (w.heap.size + 1) (S.v8 (S.cut d a)) rfl rfl 23 _ B.out E1.out E2.out (S.v8_one _) ?_)
      exact bodyPost_ret (v := .agg (S.v8 (S.cut d a))) (results_cell_row (g := w.heap.size + 1) (t := 23) (fr := (0, 0)) Tryd.results62 _ _ _ _ rfl (setRow_heap _ _ _ _ _ _ B.out) Tryd.underlying23 rfl E1.out) rfl ⟨rfl, below_setRow C.out (by omega) _⟩
end Go.Proofs.YtkljajfgdelfgaaDoor
namespace Go.Proofs.YtkljajfgdelfgaaDoor
open Go.RowKit
theorem size_cutw (d : List UInt8) (a : Nat) (hd : d.length = 32) : (Tryd.prog.info? 23).map (·.size) = some (S.v8 (S.cut d a)).size := by rw [S.v8_size, S.cut_length, hd]; exact size23
theorem zeros_cutw (d : List UInt8) (a : Nat) (hd : d.length = 32) : (S.v8 (S.zeros 32)).size = (S.v8 (S.cut d a)).size := by rw [S.v8_size, S.v8_size, S.cut_length, hd]; rfl
set_option maxHeartbeats 400000 in
set_option maxRecDepth 100000 in
theorem cut_neg (d : List UInt8) (hd : d.length = 32) (a : Int) (ha : a < 0) (w : World) :
   Calls Tryd.prog 62 #[.agg (S.v8 d), .int .i64 a] w fun e w' => e = .returned (.agg (S.v8 (S.cut d 0))) ∧ Below w.heap.size w w' := by
  have HD := hide hd
  have hmax : max a 0 = 0 := by omega
  have hmax2 : max 0 a = 0 := by omega
  have hle : ¬ (0 : Int) ≤ a := by omega
  have hle2 : a ≤ 0 := by omega
  clear hd
  go_enter Tryd.func62, Tryd.ntmps62
  go_wp2
  go_loopw [5] (fun i wr => ∃ n : Nat, n ≤ 32 ∧ i = .int .i64 (n : Int) ∧ wr.heap[w.heap.size]? = some (.cells (S.v8 (S.zero d 0 n)) 23 (0, 0)) ∧ wr.heap[w.heap.size + 1]? = some (.cells (S.v8 (S.zeros 32)) 23 (0, 0)) ∧ Below w.heap.size w wr)
    (fun i _ => 32 - (intOf i).toNat)
  case atStart => exact ⟨0, by omega, by go_num, heap_alloc2_old _ _ _, heap_alloc2_new _ _ _, ((Below.refl _ _).alloc (Nat.le_refl _) _).alloc (by simp) _⟩
  case round =>
    obtain ⟨k, hk, rfl, r0, r1, hnx⟩ := hrel
    have hl : (S.zero d 0 k).length = 32 := by rw [S.zero_length]; exact HD.out
    clear hmax hmax2 hle hle2
    by_cases hlt : k < 32
    · have ce := v8_cell r0 k (by omega)
      have cf := frozen_of_row _ _ k _ _ r0
      have R1 := v8_set r0 k 0
      have hnext : (S.zero d 0 k).set k 0 = S.zero d 0 (k + 1) := by show _ = (S.zero d 0 k).set (0 + k) 0; rw [Nat.zero_add]
      rw [hnext] at R1
      have q1 : (0 : Int) ≤ (k : Int) := by omega
      have q2 : (k : Int) < 32 := by omega
      have A := hide R1
      have B := hide r1
      have C := hide hnx
      clear R1 r0 r1 hnx hl hnext
      go_wp2
      go_roundw
      case rel => exact ⟨k + 1, by omega, by go_num, A.out, (heap_setCell_other _ _ _ _ (by simp)).trans B.out, C.out.setCell (by exact Nat.le_refl _) _⟩
      case measure => simp [intOf]; omega
    · obtain rfl : k = 32 := by omega
      have A : Hid (wr.heap[w.heap.size]? = some (.cells (S.v8 (S.cut d 0)) 23 (0, 0))) := r0
      have B := hide r1
      have C := hide hnx
      clear r0 r1 hnx hl
      go_wp2_with (first | refine wpList_load_row rfl 23 _ rfl w.heap.size rfl 23 _ _ _ A.out Tryd.underlying23 rfl (size_cutw d 0 HD.out) ?_ | refine wpList_store_row rfl 23 _ _ rfl (w.heap.size + 1) (S.v8 (S.cut d 0)) rfl rfl 23 _ B.out (size_cutw d 0 HD.out) (zeros_cutw d 0 HD.out) (S.v8_one _) ?_)
      exact bodyPost_ret (v := .agg (S.v8 (S.cut d 0))) (results_cell_row (g := w.heap.size + 1) (t := 23) (fr := (0, 0)) Tryd.results62 _ _ _ _ rfl (setRow_heap _ _ _ _ _ _ B.out) Tryd.underlying23 rfl (size_cutw d 0 HD.out)) rfl ⟨rfl, below_setRow C.out (by omega) _⟩
theorem cut_all (d : List UInt8) (hd : d.length = 32) (a : Int) (ha : a ≤ 9223372036854775807) (w : World) :
   Calls Tryd.prog 62 #[.agg (S.v8 d), .int .i64 a] w fun e w' => e = .returned (.agg (S.v8 (S.cut d a.toNat))) ∧ Below w.heap.size w w' := by
  by_cases h : a < 0
  · rw [show a.toNat = 0 from by omega]
    exact cut_neg d hd a h w
  · obtain ⟨n, rfl⟩ := Int.eq_ofNat_of_zero_le (by omega : 0 ≤ a)
    exact cut_any d hd n (by omega) w
set_option maxHeartbeats 800000 in
set_option maxRecDepth 100000 in
theorem rcut_all (d : List UInt8) (hd : d.length = 32) (a : Int) (w : World) :
   Calls Tryd.prog 68 #[.agg (S.v8 d), .int .i64 a] w fun e w' => e = .returned (.agg (S.v8 (S.cut d a.toNat))) ∧ Below w.heap.size w w' := by
  have HD := hide hd
  clear hd
  go_enter Tryd.func68, Tryd.ntmps68
  go_wp2
  go_loopw [5] (fun i wr => ∃ k : Nat, k ≤ 32 ∧ i = .int .i64 (k : Int) ∧ wr.heap[w.heap.size]? = some (.cells (S.v8 (S.zero d a.toNat (k - a.toNat))) 23 (0, 0)) ∧ wr.heap[w.heap.size + 1]? = some (.cells (S.v8 (S.zeros 32)) 23 (0, 0)) ∧ Below w.heap.size w wr)
    (fun i _ => 32 - (intOf i).toNat)
  case atStart => exact ⟨0, by omega, rfl, by rw [Nat.zero_sub]; exact heap_alloc2_old _ _ _, heap_alloc2_new _ _ _, ((Below.refl _ _).alloc (Nat.le_refl _) _).alloc (by simp) _⟩
  case round =>
    obtain ⟨k, hk, rfl, r0, r1, hnx⟩ := hrel
    have hl : (S.zero d a.toNat (k - a.toNat)).length = 32 := by rw [S.zero_length]; exact HD.out
    by_cases hlt : k < 32
    · have q1 : (0 : Int) ≤ (k : Int) := by omega
      have q2 : (k : Int) < 32 := by omega
      by_cases hge : a ≤ (k : Int)
      · have ce := v8_cell r0 k (by omega)
        have cf := frozen_of_row _ _ k _ _ r0
        have R1 := v8_set r0 k 0
        have hnext : (S.zero d a.toNat (k - a.toNat)).set k 0 = S.zero d a.toNat (k + 1 - a.toNat) := by
          rw [show k + 1 - a.toNat = (k - a.toNat) + 1 from by omega]
          show _ = (S.zero d a.toNat (k - a.toNat)).set (a.toNat + (k - a.toNat)) 0
          rw [show a.toNat + (k - a.toNat) = k from by omega]
        rw [hnext] at R1
        have A := hide R1
        have B := hide r1
        have C := hide hnx
        clear R1 r0 r1 hnx hl hnext
        go_wp2
        go_roundw
        case rel => exact ⟨k + 1, by omega, by go_num, A.out, (heap_setCell_other _ _ _ _ (by simp)).trans B.out, C.out.setCell (by exact Nat.le_refl _) _⟩
        case measure => simp [intOf]; omega
      · have A : Hid (wr.heap[w.heap.size]? = some (.cells (S.v8 (S.zero d a.toNat (k + 1 - a.toNat))) 23 (0, 0))) := by
          show wr.heap[w.heap.size]? = _
          rw [r0, show k - a.toNat = 0 from by omega, show k + 1 - a.toNat = 0 from by omega]
        have B := hide r1
        have C := hide hnx
        have q3 : (k : Int) < a := by omega
        clear r0 r1 hnx hl
        go_wp2
        go_roundw
        case rel => exact ⟨k + 1, by omega, by go_num, A.out, B.out, C.out⟩
        case measure => simp [intOf]; omega
    · obtain rfl : k = 32 := by omega
      have A : Hid (wr.heap[w.heap.size]? = some (.cells (S.v8 (S.cut d a.toNat)) 23 (0, 0))) := r0
      have B := hide r1
      have C := hide hnx
      clear r0 r1 hnx hl
      go_wp2_with (first | refine wpList_load_row rfl 23 _ rfl w.heap.size rfl 23 _ _ _ A.out Tryd.underlying23 rfl (size_cutw d a.toNat HD.out) ?_ | refine wpList_store_row rfl 23 _ _ rfl (w.heap.size + 1) (S.v8 (S.cut d a.toNat)) rfl rfl 23 _ B.out (size_cutw d a.toNat HD.out) (zeros_cutw d a.toNat HD.out) (S.v8_one _) ?_)
      exact bodyPost_ret (v := .agg (S.v8 (S.cut d a.toNat))) (results_cell_row (g := w.heap.size + 1) (t := 23) (fr := (0, 0)) Tryd.results68 _ _ _ _ rfl (setRow_heap _ _ _ _ _ _ B.out) Tryd.underlying23 rfl (size_cutw d a.toNat HD.out)) rfl ⟨rfl, below_setRow C.out (by omega) _⟩
end Go.Proofs.YtkljajfgdelfgaaDoor
