/- Widths that count, and the greatest power of two below a number (both ways of reckoning it). -/
import Derived.Test.YtlbggkmblkhjoaaDoorJoin
namespace Go.Proofs.YtlbggkmblkhjoaaDoor
open Go.RowKit

namespace S
/-- How many bytes of a hash count. -/
def cw (a : Int) : Nat := if a < 1 ∨ a > 32 then 32 else a.toNat
theorem cw_le (a : Int) : cw a ≤ 32 := by unfold cw; split <;> omega
theorem cw_pos (a : Int) : 1 ≤ cw a := by unfold cw; split <;> omega
/-- The greatest power of two below n. -/
def half (n : Nat) : Nat := 2 ^ Nat.log2 (n - 1)
theorem half_small : ∀ n, n < 257 → 2 ≤ n → half n < n ∧ 0 < half n := by decide +kernel
theorem half_lt {n : Nat} (h : n ≤ 256) (h2 : 2 ≤ n) : half n < n := (half_small n (by omega) h2).1
theorem half_pos (n : Nat) : 0 < half n := Nat.pow_pos (by omega)
theorem half_is : ∀ n, n < 257 → 2 ≤ n → ∀ j, j < 9 → (2 ^ j < n → n ≤ 2 * 2 ^ j → 2 ^ j = half n) := by decide +kernel
def lenArr : ByteArray := { data := #[0, 1, 2, 2, 3, 3, 3, 3, 4, 4, 4, 4, 4, 4, 4, 4, 5, 5, 5, 5, 5, 5, 5, 5, 5, 5, 5, 5, 5, 5, 5, 5, 6, 6, 6, 6, 6, 6, 6, 6, 6, 6, 6, 6, 6, 6, 6, 6, 6, 6, 6, 6, 6, 6, 6, 6, 6, 6, 6, 6, 6, 6, 6, 6, 7, 7, 7, 7, 7, 7, 7, 7, 7, 7, 7, 7, 7, 7, 7, 7, 7, 7, 7, 7, 7, 7, 7, 7, 7, 7, 7, 7, 7, 7, 7, 7, 7, 7, 7, 7, 7, 7, 7, 7, 7, 7, 7, 7, 7, 7, 7, 7, 7, 7, 7, 7, 7, 7, 7, 7, 7, 7, 7, 7, 7, 7, 7, 7, 8, 8, 8, 8, 8, 8, 8, 8, 8, 8, 8, 8, 8, 8, 8, 8, 8, 8, 8, 8, 8, 8, 8, 8, 8, 8, 8, 8, 8, 8, 8, 8, 8, 8, 8, 8, 8, 8, 8, 8, 8, 8, 8, 8, 8, 8, 8, 8, 8, 8, 8, 8, 8, 8, 8, 8, 8, 8, 8, 8, 8, 8, 8, 8, 8, 8, 8, 8, 8, 8, 8, 8, 8, 8, 8, 8, 8, 8, 8, 8, 8, 8, 8, 8, 8, 8, 8, 8, 8, 8, 8, 8, 8, 8, 8, 8, 8, 8, 8, 8, 8, 8, 8, 8, 8, 8, 8, 8, 8, 8, 8, 8, 8, 8, 8, 8, 8, 8, 8, 8, 8, 8, 8, 8, 8, 8, 8, 8] }
theorem lenArr_size : lenArr.size = 256 := by decide +kernel
theorem lenArr_log : ∀ y : Fin 256, 1 ≤ y.val → wrap64 (wrap64 ((lenArr[y.val]'(by rw [lenArr_size]; exact y.isLt)).toNat : Int)) = ((Nat.log2 y.val + 1 : Nat) : Int) := by decide +kernel
end S
set_option maxHeartbeats 400000 in
theorem counted_any (a : Int) (w : World) :
   Calls Tryd.prog 57 #[.int .i64 a] w fun e w' => e = .returned (.int .i64 (S.cw a : Int)) ∧ w = w' := by
  go_enter Tryd.func57, Tryd.ntmps57
  by_cases h1 : a < 1
  · have q : S.cw a = 32 := by unfold S.cw; rw [if_pos (by omega)]
    rw [q]
    go_wp2
    go_ret
    exact ⟨rfl, rfl⟩
  · by_cases h2 : a > 32
    · have q : S.cw a = 32 := by unfold S.cw; rw [if_pos (by omega)]
      have h3 : ¬ a ≤ 32 := by omega
      have h4 : (32 : Int) < a := by omega
      rw [q]
      go_wp2
      go_ret
      exact ⟨rfl, rfl⟩
    · have q : S.cw a = a.toNat := by unfold S.cw; rw [if_neg (by omega)]
      have h3 : a ≤ 32 := by omega
      have h4 : ¬ (32 : Int) < a := by omega
      have q2 : ((a.toNat : Nat) : Int) = a := by omega
      rw [q, q2]
      clear q q2
      go_wp2
      go_ret
      exact ⟨rfl, rfl⟩
set_option maxHeartbeats 800000 in
theorem halfr_any (n : Nat) (hn : 2 ≤ n) (hn2 : n ≤ 256) (w : World) :
   Calls Tryd.prog 45 #[.int .i64 (n : Int)] w fun e w' => e = .returned (.int .i64 (S.half n : Int)) ∧ w = w' := by
  go_enter Tryd.func45, Tryd.ntmps45
  go_wp2
  go_loopw [3] (fun i wr => ∃ j : Nat, j < 9 ∧ 2 ^ j < n ∧ i = .int .i64 ((2 ^ j : Nat) : Int) ∧ w = wr) (fun i _ => n - (intOf i).toNat)
  case atStart => exact ⟨0, by omega, by simp; omega, rfl, rfl⟩
  case round =>
    obtain ⟨j, hj, hl, rfl, rfl⟩ := hrel
    obtain ⟨k, hk⟩ : ∃ k, k = 2 ^ j := ⟨_, rfl⟩
    rw [← hk] at hl ⊢
    have hp : 0 < k := by rw [hk]; exact Nat.pow_pos (by omega)
    have q4 : IntKind.i64.wrap (2 * (k : Int)) = 2 * (k : Int) := by rw [IntKind.wrap_i64]; omega
    by_cases hlt : 2 * k < n
    · have q1 : 2 * (k : Int) < (n : Int) := by omega
      have K := hide hk
      clear hk
      go_wp2
      have hs : 2 ^ (j + 1) = 2 * k := by rw [Nat.pow_succ, ← K.out]; omega
      have hj9 : j + 1 < 9 := by
        by_cases h : j = 8
        · subst h; have := K.out; omega
        · omega
      exact ⟨⟨j + 1, hj9, by rw [hs]; exact hlt, by rw [hs]; simp, trivial⟩, by simp [intOf]; omega⟩
    · have q1 : ¬ 2 * (k : Int) < (n : Int) := by omega
      have q2 : (n : Int) ≤ 2 * (k : Int) := by omega
      have e : S.half n = k := by rw [hk]; exact (S.half_is n (by omega) hn j hj (by rw [← hk]; exact hl) (by rw [← hk]; omega)).symm
      have E := hide e
      clear hk e
      go_wp2
      go_ret
      exact ⟨by rw [E.out]; rfl, rfl⟩
set_option maxHeartbeats 800000 in
set_option maxRecDepth 10000 in
theorem len64_any (x : Nat) (hx : x ≤ 255) (hx1 : 1 ≤ x) (w : World) :
   Calls Tryd.prog 74 #[.int .u64 (x : Int)] w fun e w' => e = .returned (.int .i64 ((Nat.log2 x + 1 : Nat) : Int)) ∧ w = w' := by
  have q1 : ¬ (4294967296 : Int) ≤ (x : Int) := by omega
  have q2 : ¬ (65536 : Int) ≤ (x : Int) := by omega
  have q3 : ¬ (256 : Int) ≤ (x : Int) := by omega
  have q4 : (0 : Int) ≤ (x : Int) := by omega
  have q5 : (x : Int) < 256 := by omega
  go_enter Tryd.func74, Tryd.ntmps74
  go_wp2
  go_ret
  refine ⟨?_, rfl⟩
  have h := S.lenArr_log ⟨x, by omega⟩ hx1
  exact congrArg (fun z => Ending.returned (Value.int .i64 z)) h
set_option maxHeartbeats 400000 in
theorem len_any (x : Nat) (hx : x ≤ 255) (hx1 : 1 ≤ x) (w : World) :
   Calls Tryd.prog 67 #[.int .u64 (x : Int)] w fun e w' => e = .returned (.int .i64 ((Nat.log2 x + 1 : Nat) : Int)) ∧ w = w' := by
  go_enter Tryd.func67, Tryd.ntmps67
  go_wp2_with fail
  refine (len64_any x hx hx1 w).mono ?_
  rintro e w' ⟨rfl, rfl⟩
  go_wp2_with fail
  go_ret
  exact ⟨rfl, rfl⟩
set_option maxHeartbeats 800000 in
theorem parting_any (n : Nat) (hn : 2 ≤ n) (hn2 : n ≤ 256) (w : World) :
   Calls Tryd.prog 52 #[.int .i64 (n : Int)] w fun e w' => e = .returned (.int .i64 (S.half n : Int)) ∧ w = w' := by
  obtain ⟨x, hx⟩ : ∃ x, x = n - 1 := ⟨_, rfl⟩
  have hxn : n = x + 1 := by omega
  have hl : x.log2 < 8 := by
    have : ∀ y : Fin 256, y.val.log2 < 8 := by decide +kernel
    exact this ⟨x, by omega⟩
  have hh : S.half n = 2 ^ x.log2 := by rw [S.half, ← hx]
  subst hxn
  have q1 : IntKind.i64.wrap (((x + 1 : Nat) : Int) - 1) = (x : Int) := by rw [IntKind.wrap_i64]; omega
  have q2 : IntKind.u64.wrap (x : Int) = (x : Int) := by rw [IntKind.wrap_u64]; omega
  have HH := hide hh
  clear hh hx
  go_enter Tryd.func52, Tryd.ntmps52
  go_wp2_with fail
  refine (len_any x (by omega) (by omega) w).mono ?_
  rintro e w' ⟨rfl, rfl⟩
  obtain ⟨l, hl2⟩ : ∃ l, l = x.log2 := ⟨_, rfl⟩
  rw [← hl2] at hl HH ⊢
  clear hl2
  have q3 : IntKind.i64.wrap (((l + 1 : Nat) : Int) - 1) = (l : Int) := by rw [IntKind.wrap_i64]; omega
  have q4 : (0 : Int) ≤ (l : Int) := by omega
  go_wp2_with fail
  go_ret
  refine ⟨?_, rfl⟩
  have h2 : wrap64 ((2 : Int) ^ l) = ((2 ^ l : Nat) : Int) := by
    have : ∀ y : Fin 8, wrap64 ((2 : Int) ^ y.val) = ((2 ^ y.val : Nat) : Int) := by decide +kernel
    exact this ⟨l, hl⟩
  rw [HH.out, ← h2]
  rfl
end Go.Proofs.YtlbggkmblkhjoaaDoor
