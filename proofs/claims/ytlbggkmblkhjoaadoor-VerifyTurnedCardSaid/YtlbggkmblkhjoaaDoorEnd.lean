/- ending: the last one or two blocks of a text are the Lean function's, in new memory; nothing that was there changes. -/
import Derived.Test.YtlbggkmblkhjoaaDoorDig
namespace Go.Proofs.YtlbggkmblkhjoaaDoor
open Go.RowKit
namespace S
def putLen (l : List UInt8) (n c : Nat) : Nat → List UInt8
  | 0 => l
  | j + 1 => (putLen l n c j).set (n - 1 - j) (UInt8.ofNat (c / 256 ^ j))
theorem putLen_length (l : List UInt8) (n c j : Nat) : (putLen l n c j).length = l.length := by
  induction j with
  | zero => rfl
  | succ j ih => simp [putLen, ih]
def ended (n : Nat) (bs : List UInt8) (c : Nat) : List UInt8 := putLen ((splice (zeros n) 0 bs).set bs.length 128) n c 8
def ending (bs : List UInt8) (c : Nat) : List UInt8 := if bs.length + 9 ≤ 64 then ended 64 bs c else ended 128 bs c
theorem ended_length (n : Nat) (bs : List UInt8) (c : Nat) (h : bs.length ≤ n) : (ended n bs c).length = n := by
  rw [ended, putLen_length, List.length_set, length_splice _ _ _ (by simpa [zeros_length] using h), zeros_length]
end S
theorem make64 (w : World) : (Instr.makeSlice 25 (.int .i64 64) (.int .i64 64)).run Tryd.prog w = .ok (.slice (some ⟨w.heap.size, 0, none⟩) 64 64) (w.alloc (.cells (S.v8 (S.zeros 64)) 5)) := by kernel_rfl
set_option maxHeartbeats 800000 in
set_option maxRecDepth 100000 in
theorem ending64 (bs : List UInt8) (hl : bs.length < 64) (hs : bs.length + 9 ≤ 64) (ao : Option Addr) (len cap L : Nat) (hlen : len = bs.length) (hL : 8 * L < 18446744073709551616) (w : World) (hsrc : Src w ao bs) :
   Calls Tryd.prog 69 #[.slice ao len cap, .int .u64 (L : Int)] w fun e w' => e = .returned (.slice (some ⟨w.heap.size, 0, none⟩) 64 64) ∧ w'.heap[w.heap.size]? = some (.cells (S.v8 (S.ended 64 bs (8 * L))) 5 (0, 0)) ∧ Below w.heap.size w w' := by
  have hmk := make64
  have q1 : (len : Int) < 64 := by omega
  have q2 : (len : Int) + 1 + 8 ≤ 64 := by omega
  have hcell : Hid (∀ j v, (S.v8l bs)[j]? = some v → 0 < (S.v8l bs).length) := fun j v h => by have := (List.getElem?_eq_some_iff.1 h).1; omega
  have HS := hide hsrc
  obtain ⟨c, hc⟩ : ∃ c : Nat, c = 8 * L := ⟨_, rfl⟩
  have hw : IntKind.u64.wrap (8 * (L : Int)) = (c : Int) := by have := wrap_u64_lt c (by omega); rw [← this, hc]; simp
  have HC := hide hc
  have HL := hide hlen
  have HN : Hid ((S.v8l bs).length = Nat.min len 64) := by show (S.v8l bs).length = Nat.min len 64; rw [S.v8l_length, hlen]; show _ = min _ _; omega
  have HF : Hid (0 + (S.v8l bs).length ≤ (S.v8l (S.zeros 64)).length) := by show 0 + (S.v8l bs).length ≤ (S.v8l (S.zeros 64)).length; rw [S.v8l_length, S.v8l_length, S.zeros_length]; omega
  clear hsrc hL hlen hc hcell
  go_enter Tryd.func69, Tryd.ntmps69
  go_wp2_with (refine wpList_copy_splice rfl (.tmp 16) (.tmp 17) 25 25 rfl 5 Tryd.underlying25 size5 _ _ _ _ _ _ rfl rfl w.heap.size 0 (S.v8l (S.zeros 64)) 5 (heap_alloc_new _ _) (S.v8l bs) HN.out (copy_src _ HS.out ((Below.refl _ _).alloc (Nat.le_refl _) _)) HF.out (S.v8l_one _) w.heap.size w ((Below.refl _ _).alloc (Nat.le_refl _) _) (Nat.le_refl _) ?_; intro w2 HG2 hB2; have HG3 := spl_row HG2; clear HG2; have ce := v8_cell HG3.out len (by have := HL.out; rw [length_splice _ _ _ (by rw [S.zeros_length]; omega), S.zeros_length]; omega); have cf := frozen_of_row _ _ len _ _ HG3.out)
  clear ce cf
  have hlen := HL.out
  have hrow := v8_set HG3.out len 128
  have hnx := hB2.setCell (p := ⟨w.heap.size, len, none⟩) (Nat.le_refl _) (.int .u8 ((128 : UInt8).toNat : Int))
  rw [hlen] at hrow
  obtain ⟨l0, hl0⟩ : ∃ l0 : List UInt8, l0 = (splice (S.zeros 64) 0 bs).set bs.length 128 := ⟨_, rfl⟩
  have hll : l0.length = 64 := by rw [hl0, List.length_set, length_splice _ _ _ (by rw [S.zeros_length]; omega), S.zeros_length]
  have HL0 := hide hl0
  rw [← hl0, ← hlen] at hrow
  have hend : S.ended 64 bs (8 * L) = S.putLen l0 64 c 8 := by rw [HC.out, hl0]; rfl
  have HE := hide hend
  clear hl0 hend hlen HN HF HS
  go_loopw [7, 8] (fun ct i wr => ∃ j p : Nat, p + j + 1 = 64 ∧ j ≤ 8 ∧ i = .int .i64 (p : Int) ∧ ct = .int .u64 ((c / 256 ^ j : Nat) : Int) ∧ wr.heap[w.heap.size]? = some (.cells (S.v8 (S.putLen l0 64 c j)) 5 (0, 0)) ∧ Below w.heap.size w wr)
    (fun _ i _ => (intOf i).toNat)
  case atStart => exact ⟨0, 64 - 1, by omega, by omega, rfl, by simp, hrow, hnx⟩
  case round =>
    obtain ⟨j, p, hjp, hj, rfl, rfl, r0, hnx⟩ := hrel
    by_cases hlt : j < 8
    · obtain ⟨x, hx⟩ : ∃ x : Nat, x = c / 256 ^ j := ⟨_, rfl⟩
      have hx2 : x / 256 = c / 256 ^ (j + 1) := by rw [hx, Nat.div_div_eq_div_mul, Nat.pow_succ]
      have R1 := v8_set r0 p (UInt8.ofNat x)
      have hset : (S.putLen l0 64 c j).set p (UInt8.ofNat x) = S.putLen l0 64 c (j + 1) := by
        rw [hx]; show _ = (S.putLen l0 64 c j).set (64 - 1 - j) _; rw [show 64 - 1 - j = p from by omega]
      rw [hset] at R1
      have ce := v8_cell r0 p (by rw [S.putLen_length, hll]; omega)
      have cf := frozen_of_row _ _ p _ _ r0
      have HR := hide R1
      have HX := hide hx2
      have HN := hide hnx
      rw [← hx]
      have q1 : (0 : Int) ≤ (p : Int) := by omega
      have q2 : (p : Int) < 64 := by omega
      have q3 : (64 - 8 : Int) ≤ (p : Int) := by omega
      clear R1 hset r0 hx2 hnx hx hrow
      go_wp2
      go_roundw
      case rel =>
        rw [byte_cast]
        refine ⟨j + 1, p - 1, by omega, by omega, by go_num, ?_, HR.out, HN.out.setCell (Nat.le_refl _) _⟩
        rw [← HX.out]; simp
      case measure => simp [intOf]; omega
    · obtain rfl : j = 8 := by omega
      obtain rfl : p = 64 - 9 := by omega
      have HR := hide r0
      have HN := hide hnx
      clear r0 hnx hrow
      go_wp2
      go_ret
      exact ⟨rfl, by rw [HE.out]; exact HR.out, HN.out⟩
theorem make128 (w : World) : (Instr.makeSlice 25 (.int .i64 128) (.int .i64 128)).run Tryd.prog w = .ok (.slice (some ⟨w.heap.size, 0, none⟩) 128 128) (w.alloc (.cells (S.v8 (S.zeros 128)) 5)) := by kernel_rfl
set_option maxHeartbeats 800000 in
set_option maxRecDepth 100000 in
theorem ending128 (bs : List UInt8) (hl : bs.length < 64) (hs : 64 < bs.length + 9) (ao : Option Addr) (len cap L : Nat) (hlen : len = bs.length) (hL : 8 * L < 18446744073709551616) (w : World) (hsrc : Src w ao bs) :
   Calls Tryd.prog 69 #[.slice ao len cap, .int .u64 (L : Int)] w fun e w' => e = .returned (.slice (some ⟨w.heap.size, 0, none⟩) 128 128) ∧ w'.heap[w.heap.size]? = some (.cells (S.v8 (S.ended 128 bs (8 * L))) 5 (0, 0)) ∧ Below w.heap.size w w' := by
  have hmk := make128
  have q1 : (len : Int) < 64 := by omega
  have q2 : (64 : Int) < (len : Int) + 1 + 8 := by omega
  have hcell : Hid (∀ j v, (S.v8l bs)[j]? = some v → 0 < (S.v8l bs).length) := fun j v h => by have := (List.getElem?_eq_some_iff.1 h).1; omega
  have HS := hide hsrc
  obtain ⟨c, hc⟩ : ∃ c : Nat, c = 8 * L := ⟨_, rfl⟩
  have hw : IntKind.u64.wrap (8 * (L : Int)) = (c : Int) := by have := wrap_u64_lt c (by omega); rw [← this, hc]; simp
  have HC := hide hc
  have HL := hide hlen
  have HN : Hid ((S.v8l bs).length = Nat.min len 128) := by show (S.v8l bs).length = Nat.min len 128; rw [S.v8l_length, hlen]; show _ = min _ _; omega
  have HF : Hid (0 + (S.v8l bs).length ≤ (S.v8l (S.zeros 128)).length) := by show 0 + (S.v8l bs).length ≤ (S.v8l (S.zeros 128)).length; rw [S.v8l_length, S.v8l_length, S.zeros_length]; omega
  clear hsrc hL hlen hc hcell
  go_enter Tryd.func69, Tryd.ntmps69
  go_wp2_with (refine wpList_copy_splice rfl (.tmp 16) (.tmp 17) 25 25 rfl 5 Tryd.underlying25 size5 _ _ _ _ _ _ rfl rfl w.heap.size 0 (S.v8l (S.zeros 128)) 5 (heap_alloc_new _ _) (S.v8l bs) HN.out (copy_src _ HS.out ((Below.refl _ _).alloc (Nat.le_refl _) _)) HF.out (S.v8l_one _) w.heap.size w ((Below.refl _ _).alloc (Nat.le_refl _) _) (Nat.le_refl _) ?_; intro w2 HG2 hB2; have HG3 := spl_row HG2; clear HG2; have ce := v8_cell HG3.out len (by have := HL.out; rw [length_splice _ _ _ (by rw [S.zeros_length]; omega), S.zeros_length]; omega); have cf := frozen_of_row _ _ len _ _ HG3.out)
  clear ce cf
  have hlen := HL.out
  have hrow := v8_set HG3.out len 128
  have hnx := hB2.setCell (p := ⟨w.heap.size, len, none⟩) (Nat.le_refl _) (.int .u8 ((128 : UInt8).toNat : Int))
  rw [hlen] at hrow
  obtain ⟨l0, hl0⟩ : ∃ l0 : List UInt8, l0 = (splice (S.zeros 128) 0 bs).set bs.length 128 := ⟨_, rfl⟩
  have hll : l0.length = 128 := by rw [hl0, List.length_set, length_splice _ _ _ (by rw [S.zeros_length]; omega), S.zeros_length]
  have HL0 := hide hl0
  rw [← hl0, ← hlen] at hrow
  have hend : S.ended 128 bs (8 * L) = S.putLen l0 128 c 8 := by rw [HC.out, hl0]; rfl
  have HE := hide hend
  clear hl0 hend hlen HN HF HS
  go_loopw [7, 8] (fun ct i wr => ∃ j p : Nat, p + j + 1 = 128 ∧ j ≤ 8 ∧ i = .int .i64 (p : Int) ∧ ct = .int .u64 ((c / 256 ^ j : Nat) : Int) ∧ wr.heap[w.heap.size]? = some (.cells (S.v8 (S.putLen l0 128 c j)) 5 (0, 0)) ∧ Below w.heap.size w wr)
    (fun _ i _ => (intOf i).toNat)
  case atStart => exact ⟨0, 128 - 1, by omega, by omega, rfl, by simp, hrow, hnx⟩
  case round =>
    obtain ⟨j, p, hjp, hj, rfl, rfl, r0, hnx⟩ := hrel
    by_cases hlt : j < 8
    · obtain ⟨x, hx⟩ : ∃ x : Nat, x = c / 256 ^ j := ⟨_, rfl⟩
      have hx2 : x / 256 = c / 256 ^ (j + 1) := by rw [hx, Nat.div_div_eq_div_mul, Nat.pow_succ]
      have R1 := v8_set r0 p (UInt8.ofNat x)
      have hset : (S.putLen l0 128 c j).set p (UInt8.ofNat x) = S.putLen l0 128 c (j + 1) := by
        rw [hx]; show _ = (S.putLen l0 128 c j).set (128 - 1 - j) _; rw [show 128 - 1 - j = p from by omega]
      rw [hset] at R1
      have ce := v8_cell r0 p (by rw [S.putLen_length, hll]; omega)
      have cf := frozen_of_row _ _ p _ _ r0
      have HR := hide R1
      have HX := hide hx2
      have HN := hide hnx
      rw [← hx]
      have q1 : (0 : Int) ≤ (p : Int) := by omega
      have q2 : (p : Int) < 128 := by omega
      have q3 : (128 - 8 : Int) ≤ (p : Int) := by omega
      clear R1 hset r0 hx2 hnx hx hrow
      go_wp2
      go_roundw
      case rel =>
        rw [byte_cast]
        refine ⟨j + 1, p - 1, by omega, by omega, by go_num, ?_, HR.out, HN.out.setCell (Nat.le_refl _) _⟩
        rw [← HX.out]; simp
      case measure => simp [intOf]; omega
    · obtain rfl : j = 8 := by omega
      obtain rfl : p = 128 - 9 := by omega
      have HR := hide r0
      have HN := hide hnx
      clear r0 hnx hrow
      go_wp2
      go_ret
      exact ⟨rfl, by rw [HE.out]; exact HR.out, HN.out⟩
end Go.Proofs.YtlbggkmblkhjoaaDoor
