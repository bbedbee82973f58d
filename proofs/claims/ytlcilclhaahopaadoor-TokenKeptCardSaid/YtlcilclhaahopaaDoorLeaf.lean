/- The plain side: SHA-256 as Lean functions on UInt32 and UInt8, and how Go's arithmetic on uint32 reads in them. -/
import Derived.Test.YtlcilclhaahopaaDoorCells
import Derived.WalkKit
import Derived.Test.YtlcilclhaahopaaDoorProg
import Derived.WalkSpells
import Derived.WalkLawsBesides
import Derived.Deep.RegionHeld3
import Derived.Deep.QuietTactic
import Derived.BigQuiet
namespace Go.Proofs.YtlcilclhaahopaaDoor
open Go.RowKit
namespace S
def ror (x n : UInt32) : UInt32 := (x <<< (32 - n)) ||| (x >>> n)
def ss0 (x : UInt32) : UInt32 := ror x 7 ^^^ ror x 18 ^^^ (x >>> 3)
def ss1 (x : UInt32) : UInt32 := ror x 17 ^^^ ror x 19 ^^^ (x >>> 10)
def bs0 (x : UInt32) : UInt32 := ror x 2 ^^^ ror x 13 ^^^ ror x 22
def bs1 (x : UInt32) : UInt32 := ror x 6 ^^^ ror x 11 ^^^ ror x 25
def ch (e f g : UInt32) : UInt32 := (e &&& f) ^^^ (~~~e &&& g)
def maj (a b c : UInt32) : UInt32 := (a &&& b) ^^^ (a &&& c) ^^^ (b &&& c)
end S
theorem u32_lt (x : UInt32) : x.toNat < 4294967296 := x.toNat_lt
theorem u32_xor_cast (x y : UInt32) : bits .xor .u32 (x.toNat : Int) (y.toNat : Int) = ((x ^^^ y).toNat : Int) := by
  rw [u32_xor_nat _ _ (u32_lt x) (u32_lt y), UInt32.toNat_xor]
theorem u32_and_cast (x y : UInt32) : bits .and .u32 (x.toNat : Int) (y.toNat : Int) = ((x &&& y).toNat : Int) := by
  rw [u32_and_nat _ _ (u32_lt x) (u32_lt y), UInt32.toNat_and]
theorem u32_or_cast (x y : UInt32) : bits .or .u32 (x.toNat : Int) (y.toNat : Int) = ((x ||| y).toNat : Int) := by
  rw [u32_or_nat _ _ (u32_lt x) (u32_lt y), UInt32.toNat_or]
theorem u32_add_cast (x y : UInt32) : ((x.toNat : Int) + (y.toNat : Int)) % (4294967296 : Int) = ((x + y).toNat : Int) := by
  rw [UInt32.toNat_add]; omega
theorem u32_not_cast (x : UInt32) : bits .xor .u32 IntKind.u32.max (x.toNat : Int) = ((~~~x).toNat : Int) := by
  have h : IntKind.u32.max = ((4294967295 : UInt32).toNat : Int) := by decide
  rw [h, u32_xor_cast]
  have : (4294967295 : UInt32) ^^^ x = ~~~x := by
    apply UInt32.toBitVec_inj.1
    simp only [UInt32.toBitVec_xor, UInt32.toBitVec_not]
    exact BitVec.allOnes_xor
  rw [this]
theorem ror_2 (x : UInt32) : bits .or .u32 ((x.toNat : Int) * (1073741824 : Int) % (4294967296 : Int)) ((x.toNat : Int) / (4 : Int)) = ((S.ror x 2).toNat : Int) := by
  have h1 : (x.toNat : Int) * (1073741824 : Int) % (4294967296 : Int) = (((x <<< (32 - 2 : UInt32)).toNat : Nat) : Int) := by
    rw [UInt32.toNat_shiftLeft, show (32 - 2 : UInt32).toNat % 32 = 30 from by decide, Nat.shiftLeft_eq]; simp
  have h2 : (x.toNat : Int) / (4 : Int) = (((x >>> (2 : UInt32)).toNat : Nat) : Int) := by
    rw [UInt32.toNat_shiftRight, show (2 : UInt32).toNat % 32 = 2 from by decide, Nat.shiftRight_eq_div_pow]; simp
  rw [h1, h2, u32_or_cast]; rfl
theorem ror_6 (x : UInt32) : bits .or .u32 ((x.toNat : Int) * (67108864 : Int) % (4294967296 : Int)) ((x.toNat : Int) / (64 : Int)) = ((S.ror x 6).toNat : Int) := by
  have h1 : (x.toNat : Int) * (67108864 : Int) % (4294967296 : Int) = (((x <<< (32 - 6 : UInt32)).toNat : Nat) : Int) := by
    rw [UInt32.toNat_shiftLeft, show (32 - 6 : UInt32).toNat % 32 = 26 from by decide, Nat.shiftLeft_eq]; simp
  have h2 : (x.toNat : Int) / (64 : Int) = (((x >>> (6 : UInt32)).toNat : Nat) : Int) := by
    rw [UInt32.toNat_shiftRight, show (6 : UInt32).toNat % 32 = 6 from by decide, Nat.shiftRight_eq_div_pow]; simp
  rw [h1, h2, u32_or_cast]; rfl
theorem ror_7 (x : UInt32) : bits .or .u32 ((x.toNat : Int) * (33554432 : Int) % (4294967296 : Int)) ((x.toNat : Int) / (128 : Int)) = ((S.ror x 7).toNat : Int) := by
  have h1 : (x.toNat : Int) * (33554432 : Int) % (4294967296 : Int) = (((x <<< (32 - 7 : UInt32)).toNat : Nat) : Int) := by
    rw [UInt32.toNat_shiftLeft, show (32 - 7 : UInt32).toNat % 32 = 25 from by decide, Nat.shiftLeft_eq]; simp
  have h2 : (x.toNat : Int) / (128 : Int) = (((x >>> (7 : UInt32)).toNat : Nat) : Int) := by
    rw [UInt32.toNat_shiftRight, show (7 : UInt32).toNat % 32 = 7 from by decide, Nat.shiftRight_eq_div_pow]; simp
  rw [h1, h2, u32_or_cast]; rfl
theorem ror_11 (x : UInt32) : bits .or .u32 ((x.toNat : Int) * (2097152 : Int) % (4294967296 : Int)) ((x.toNat : Int) / (2048 : Int)) = ((S.ror x 11).toNat : Int) := by
  have h1 : (x.toNat : Int) * (2097152 : Int) % (4294967296 : Int) = (((x <<< (32 - 11 : UInt32)).toNat : Nat) : Int) := by
    rw [UInt32.toNat_shiftLeft, show (32 - 11 : UInt32).toNat % 32 = 21 from by decide, Nat.shiftLeft_eq]; simp
  have h2 : (x.toNat : Int) / (2048 : Int) = (((x >>> (11 : UInt32)).toNat : Nat) : Int) := by
    rw [UInt32.toNat_shiftRight, show (11 : UInt32).toNat % 32 = 11 from by decide, Nat.shiftRight_eq_div_pow]; simp
  rw [h1, h2, u32_or_cast]; rfl
theorem ror_13 (x : UInt32) : bits .or .u32 ((x.toNat : Int) * (524288 : Int) % (4294967296 : Int)) ((x.toNat : Int) / (8192 : Int)) = ((S.ror x 13).toNat : Int) := by
  have h1 : (x.toNat : Int) * (524288 : Int) % (4294967296 : Int) = (((x <<< (32 - 13 : UInt32)).toNat : Nat) : Int) := by
    rw [UInt32.toNat_shiftLeft, show (32 - 13 : UInt32).toNat % 32 = 19 from by decide, Nat.shiftLeft_eq]; simp
  have h2 : (x.toNat : Int) / (8192 : Int) = (((x >>> (13 : UInt32)).toNat : Nat) : Int) := by
    rw [UInt32.toNat_shiftRight, show (13 : UInt32).toNat % 32 = 13 from by decide, Nat.shiftRight_eq_div_pow]; simp
  rw [h1, h2, u32_or_cast]; rfl
theorem ror_17 (x : UInt32) : bits .or .u32 ((x.toNat : Int) * (32768 : Int) % (4294967296 : Int)) ((x.toNat : Int) / (131072 : Int)) = ((S.ror x 17).toNat : Int) := by
  have h1 : (x.toNat : Int) * (32768 : Int) % (4294967296 : Int) = (((x <<< (32 - 17 : UInt32)).toNat : Nat) : Int) := by
    rw [UInt32.toNat_shiftLeft, show (32 - 17 : UInt32).toNat % 32 = 15 from by decide, Nat.shiftLeft_eq]; simp
  have h2 : (x.toNat : Int) / (131072 : Int) = (((x >>> (17 : UInt32)).toNat : Nat) : Int) := by
    rw [UInt32.toNat_shiftRight, show (17 : UInt32).toNat % 32 = 17 from by decide, Nat.shiftRight_eq_div_pow]; simp
  rw [h1, h2, u32_or_cast]; rfl
theorem ror_18 (x : UInt32) : bits .or .u32 ((x.toNat : Int) * (16384 : Int) % (4294967296 : Int)) ((x.toNat : Int) / (262144 : Int)) = ((S.ror x 18).toNat : Int) := by
  have h1 : (x.toNat : Int) * (16384 : Int) % (4294967296 : Int) = (((x <<< (32 - 18 : UInt32)).toNat : Nat) : Int) := by
    rw [UInt32.toNat_shiftLeft, show (32 - 18 : UInt32).toNat % 32 = 14 from by decide, Nat.shiftLeft_eq]; simp
  have h2 : (x.toNat : Int) / (262144 : Int) = (((x >>> (18 : UInt32)).toNat : Nat) : Int) := by
    rw [UInt32.toNat_shiftRight, show (18 : UInt32).toNat % 32 = 18 from by decide, Nat.shiftRight_eq_div_pow]; simp
  rw [h1, h2, u32_or_cast]; rfl
theorem ror_19 (x : UInt32) : bits .or .u32 ((x.toNat : Int) * (8192 : Int) % (4294967296 : Int)) ((x.toNat : Int) / (524288 : Int)) = ((S.ror x 19).toNat : Int) := by
  have h1 : (x.toNat : Int) * (8192 : Int) % (4294967296 : Int) = (((x <<< (32 - 19 : UInt32)).toNat : Nat) : Int) := by
    rw [UInt32.toNat_shiftLeft, show (32 - 19 : UInt32).toNat % 32 = 13 from by decide, Nat.shiftLeft_eq]; simp
  have h2 : (x.toNat : Int) / (524288 : Int) = (((x >>> (19 : UInt32)).toNat : Nat) : Int) := by
    rw [UInt32.toNat_shiftRight, show (19 : UInt32).toNat % 32 = 19 from by decide, Nat.shiftRight_eq_div_pow]; simp
  rw [h1, h2, u32_or_cast]; rfl
theorem ror_22 (x : UInt32) : bits .or .u32 ((x.toNat : Int) * (1024 : Int) % (4294967296 : Int)) ((x.toNat : Int) / (4194304 : Int)) = ((S.ror x 22).toNat : Int) := by
  have h1 : (x.toNat : Int) * (1024 : Int) % (4294967296 : Int) = (((x <<< (32 - 22 : UInt32)).toNat : Nat) : Int) := by
    rw [UInt32.toNat_shiftLeft, show (32 - 22 : UInt32).toNat % 32 = 10 from by decide, Nat.shiftLeft_eq]; simp
  have h2 : (x.toNat : Int) / (4194304 : Int) = (((x >>> (22 : UInt32)).toNat : Nat) : Int) := by
    rw [UInt32.toNat_shiftRight, show (22 : UInt32).toNat % 32 = 22 from by decide, Nat.shiftRight_eq_div_pow]; simp
  rw [h1, h2, u32_or_cast]; rfl
theorem ror_25 (x : UInt32) : bits .or .u32 ((x.toNat : Int) * (128 : Int) % (4294967296 : Int)) ((x.toNat : Int) / (33554432 : Int)) = ((S.ror x 25).toNat : Int) := by
  have h1 : (x.toNat : Int) * (128 : Int) % (4294967296 : Int) = (((x <<< (32 - 25 : UInt32)).toNat : Nat) : Int) := by
    rw [UInt32.toNat_shiftLeft, show (32 - 25 : UInt32).toNat % 32 = 7 from by decide, Nat.shiftLeft_eq]; simp
  have h2 : (x.toNat : Int) / (33554432 : Int) = (((x >>> (25 : UInt32)).toNat : Nat) : Int) := by
    rw [UInt32.toNat_shiftRight, show (25 : UInt32).toNat % 32 = 25 from by decide, Nat.shiftRight_eq_div_pow]; simp
  rw [h1, h2, u32_or_cast]; rfl
theorem shr_3 (x : UInt32) : (x.toNat : Int) / (8 : Int) = ((x >>> 3).toNat : Int) := by
  rw [UInt32.toNat_shiftRight, show (3 : UInt32).toNat % 32 = 3 from by decide, Nat.shiftRight_eq_div_pow]; simp
theorem shr_10 (x : UInt32) : (x.toNat : Int) / (1024 : Int) = ((x >>> 10).toNat : Int) := by
  rw [UInt32.toNat_shiftRight, show (10 : UInt32).toNat % 32 = 10 from by decide, Nat.shiftRight_eq_div_pow]; simp
theorem shr_8 (x : UInt32) : (x.toNat : Int) / (256 : Int) = ((x >>> 8).toNat : Int) := by
  rw [UInt32.toNat_shiftRight, show (8 : UInt32).toNat % 32 = 8 from by decide, Nat.shiftRight_eq_div_pow]; simp
theorem shr_16 (x : UInt32) : (x.toNat : Int) / (65536 : Int) = ((x >>> 16).toNat : Int) := by
  rw [UInt32.toNat_shiftRight, show (16 : UInt32).toNat % 32 = 16 from by decide, Nat.shiftRight_eq_div_pow]; simp
theorem shr_24 (x : UInt32) : (x.toNat : Int) / (16777216 : Int) = ((x >>> 24).toNat : Int) := by
  rw [UInt32.toNat_shiftRight, show (24 : UInt32).toNat % 32 = 24 from by decide, Nat.shiftRight_eq_div_pow]; simp
end Go.Proofs.YtlcilclhaahopaaDoor
namespace Go.Proofs.YtlcilclhaahopaaDoor
open Go.RowKit
theorem ret_u32 {a b : Int} (h : a = b) : Ending.returned (.int .u32 a) = .returned (.int .u32 b) := by rw [h]
theorem turn_2 (x : UInt32) (w : World) :
    Calls Tryd.prog 101 #[.int .u32 (x.toNat : Int), .int .i64 2] w fun e w' => e = .returned (.int .u32 ((S.ror x 2).toNat : Int)) ∧ w' = w := by
  have h : bits .and .u64 (IntKind.u64.wrap (-2)) 31 = 30 := by decide
  go_enter Tryd.func101, Tryd.ntmps101
  go_wp2
  go_ret
  exact ⟨ret_u32 (ror_2 x), rfl⟩
theorem turn_6 (x : UInt32) (w : World) :
    Calls Tryd.prog 101 #[.int .u32 (x.toNat : Int), .int .i64 6] w fun e w' => e = .returned (.int .u32 ((S.ror x 6).toNat : Int)) ∧ w' = w := by
  have h : bits .and .u64 (IntKind.u64.wrap (-6)) 31 = 26 := by decide
  go_enter Tryd.func101, Tryd.ntmps101
  go_wp2
  go_ret
  exact ⟨ret_u32 (ror_6 x), rfl⟩
theorem turn_7 (x : UInt32) (w : World) :
    Calls Tryd.prog 101 #[.int .u32 (x.toNat : Int), .int .i64 7] w fun e w' => e = .returned (.int .u32 ((S.ror x 7).toNat : Int)) ∧ w' = w := by
  have h : bits .and .u64 (IntKind.u64.wrap (-7)) 31 = 25 := by decide
  go_enter Tryd.func101, Tryd.ntmps101
  go_wp2
  go_ret
  exact ⟨ret_u32 (ror_7 x), rfl⟩
theorem turn_11 (x : UInt32) (w : World) :
    Calls Tryd.prog 101 #[.int .u32 (x.toNat : Int), .int .i64 11] w fun e w' => e = .returned (.int .u32 ((S.ror x 11).toNat : Int)) ∧ w' = w := by
  have h : bits .and .u64 (IntKind.u64.wrap (-11)) 31 = 21 := by decide
  go_enter Tryd.func101, Tryd.ntmps101
  go_wp2
  go_ret
  exact ⟨ret_u32 (ror_11 x), rfl⟩
theorem turn_13 (x : UInt32) (w : World) :
    Calls Tryd.prog 101 #[.int .u32 (x.toNat : Int), .int .i64 13] w fun e w' => e = .returned (.int .u32 ((S.ror x 13).toNat : Int)) ∧ w' = w := by
  have h : bits .and .u64 (IntKind.u64.wrap (-13)) 31 = 19 := by decide
  go_enter Tryd.func101, Tryd.ntmps101
  go_wp2
  go_ret
  exact ⟨ret_u32 (ror_13 x), rfl⟩
theorem turn_17 (x : UInt32) (w : World) :
    Calls Tryd.prog 101 #[.int .u32 (x.toNat : Int), .int .i64 17] w fun e w' => e = .returned (.int .u32 ((S.ror x 17).toNat : Int)) ∧ w' = w := by
  have h : bits .and .u64 (IntKind.u64.wrap (-17)) 31 = 15 := by decide
  go_enter Tryd.func101, Tryd.ntmps101
  go_wp2
  go_ret
  exact ⟨ret_u32 (ror_17 x), rfl⟩
theorem turn_18 (x : UInt32) (w : World) :
    Calls Tryd.prog 101 #[.int .u32 (x.toNat : Int), .int .i64 18] w fun e w' => e = .returned (.int .u32 ((S.ror x 18).toNat : Int)) ∧ w' = w := by
  have h : bits .and .u64 (IntKind.u64.wrap (-18)) 31 = 14 := by decide
  go_enter Tryd.func101, Tryd.ntmps101
  go_wp2
  go_ret
  exact ⟨ret_u32 (ror_18 x), rfl⟩
theorem turn_19 (x : UInt32) (w : World) :
    Calls Tryd.prog 101 #[.int .u32 (x.toNat : Int), .int .i64 19] w fun e w' => e = .returned (.int .u32 ((S.ror x 19).toNat : Int)) ∧ w' = w := by
  have h : bits .and .u64 (IntKind.u64.wrap (-19)) 31 = 13 := by decide
  go_enter Tryd.func101, Tryd.ntmps101
  go_wp2
  go_ret
  exact ⟨ret_u32 (ror_19 x), rfl⟩
theorem turn_22 (x : UInt32) (w : World) :
    Calls Tryd.prog 101 #[.int .u32 (x.toNat : Int), .int .i64 22] w fun e w' => e = .returned (.int .u32 ((S.ror x 22).toNat : Int)) ∧ w' = w := by
  have h : bits .and .u64 (IntKind.u64.wrap (-22)) 31 = 10 := by decide
  go_enter Tryd.func101, Tryd.ntmps101
  go_wp2
  go_ret
  exact ⟨ret_u32 (ror_22 x), rfl⟩
theorem turn_25 (x : UInt32) (w : World) :
    Calls Tryd.prog 101 #[.int .u32 (x.toNat : Int), .int .i64 25] w fun e w' => e = .returned (.int .u32 ((S.ror x 25).toNat : Int)) ∧ w' = w := by
  have h : bits .and .u64 (IntKind.u64.wrap (-25)) 31 = 7 := by decide
  go_enter Tryd.func101, Tryd.ntmps101
  go_wp2
  go_ret
  exact ⟨ret_u32 (ror_25 x), rfl⟩
set_option maxHeartbeats 400000 in
theorem ss0_any (x : UInt32) (w : World) :
    Calls Tryd.prog 100 #[.int .u32 (x.toNat : Int)] w fun e w' => e = .returned (.int .u32 ((S.ss0 x).toNat : Int)) ∧ w' = w := by
  go_enter Tryd.func100, Tryd.ntmps100
  go_wp2_with (first | (go_at_call_of 101 (Value.int .i64 7); refine (turn_7 x _).mono ?_; rintro e w' ⟨rfl, rfl⟩) | (go_at_call_of 101 (Value.int .i64 18); refine (turn_18 x _).mono ?_; rintro e w' ⟨rfl, rfl⟩))
  go_ret
  exact ⟨ret_u32 (by rw [u32_xor_cast, shr_3, u32_xor_cast]; rfl), rfl⟩
set_option maxHeartbeats 400000 in
theorem ss1_any (x : UInt32) (w : World) :
    Calls Tryd.prog 99 #[.int .u32 (x.toNat : Int)] w fun e w' => e = .returned (.int .u32 ((S.ss1 x).toNat : Int)) ∧ w' = w := by
  go_enter Tryd.func99, Tryd.ntmps99
  go_wp2_with (first | (go_at_call_of 101 (Value.int .i64 17); refine (turn_17 x _).mono ?_; rintro e w' ⟨rfl, rfl⟩) | (go_at_call_of 101 (Value.int .i64 19); refine (turn_19 x _).mono ?_; rintro e w' ⟨rfl, rfl⟩))
  go_ret
  exact ⟨ret_u32 (by rw [u32_xor_cast, shr_10, u32_xor_cast]; rfl), rfl⟩
set_option maxHeartbeats 400000 in
theorem bs0_any (x : UInt32) (w : World) :
    Calls Tryd.prog 96 #[.int .u32 (x.toNat : Int)] w fun e w' => e = .returned (.int .u32 ((S.bs0 x).toNat : Int)) ∧ w' = w := by
  go_enter Tryd.func96, Tryd.ntmps96
  go_wp2_with (first | (go_at_call_of 101 (Value.int .i64 2); refine (turn_2 x _).mono ?_; rintro e w' ⟨rfl, rfl⟩) | (go_at_call_of 101 (Value.int .i64 13); refine (turn_13 x _).mono ?_; rintro e w' ⟨rfl, rfl⟩) | (go_at_call_of 101 (Value.int .i64 22); refine (turn_22 x _).mono ?_; rintro e w' ⟨rfl, rfl⟩))
  go_ret
  exact ⟨ret_u32 (by rw [u32_xor_cast, u32_xor_cast]; rfl), rfl⟩
set_option maxHeartbeats 400000 in
theorem bs1_any (x : UInt32) (w : World) :
    Calls Tryd.prog 94 #[.int .u32 (x.toNat : Int)] w fun e w' => e = .returned (.int .u32 ((S.bs1 x).toNat : Int)) ∧ w' = w := by
  go_enter Tryd.func94, Tryd.ntmps94
  go_wp2_with (first | (go_at_call_of 101 (Value.int .i64 6); refine (turn_6 x _).mono ?_; rintro e w' ⟨rfl, rfl⟩) | (go_at_call_of 101 (Value.int .i64 11); refine (turn_11 x _).mono ?_; rintro e w' ⟨rfl, rfl⟩) | (go_at_call_of 101 (Value.int .i64 25); refine (turn_25 x _).mono ?_; rintro e w' ⟨rfl, rfl⟩))
  go_ret
  exact ⟨ret_u32 (by rw [u32_xor_cast, u32_xor_cast]; rfl), rfl⟩
theorem ch_any (x y z : UInt32) (w : World) :
    Calls Tryd.prog 95 #[.int .u32 (x.toNat : Int), .int .u32 (y.toNat : Int), .int .u32 (z.toNat : Int)] w fun e w' => e = .returned (.int .u32 ((S.ch x y z).toNat : Int)) ∧ w' = w := by
  go_enter Tryd.func95, Tryd.ntmps95
  go_wp2
  go_ret
  exact ⟨ret_u32 (by rw [u32_and_cast, u32_not_cast, u32_and_cast, u32_xor_cast]; rfl), rfl⟩
theorem maj_any (x y z : UInt32) (w : World) :
    Calls Tryd.prog 97 #[.int .u32 (x.toNat : Int), .int .u32 (y.toNat : Int), .int .u32 (z.toNat : Int)] w fun e w' => e = .returned (.int .u32 ((S.maj x y z).toNat : Int)) ∧ w' = w := by
  go_enter Tryd.func97, Tryd.ntmps97
  go_wp2
  go_ret
  exact ⟨ret_u32 (by rw [u32_and_cast, u32_and_cast, u32_and_cast, u32_xor_cast, u32_xor_cast]; rfl), rfl⟩
end Go.Proofs.YtlcilclhaahopaaDoor
