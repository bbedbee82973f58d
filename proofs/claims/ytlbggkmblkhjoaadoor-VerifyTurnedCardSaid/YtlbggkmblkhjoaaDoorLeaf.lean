/- The leaves: the turns, the sigmas, choose and majority of package sha each answer their Lean function, and change nothing. -/
import Derived.Test.YtlbggkmblkhjoaaDoorProg
import Derived.Test.YtlbggkmblkhjoaaDoorSpec
import Derived.WalkSpells
import Derived.WalkLawsBesides
import Derived.Deep.RegionHeld3
import Derived.Deep.QuietTactic
import Derived.BigQuiet
namespace Go.Proofs.YtlbggkmblkhjoaaDoor
open Go.RowKit
theorem ret_u32 {a b : Int} (h : a = b) : Ending.returned (.int .u32 a) = .returned (.int .u32 b) := by rw [h]
theorem turn_2 (x : UInt32) (w : World) :
    Calls Tryd.prog 85 #[.int .u32 (x.toNat : Int), .int .i64 2] w fun e w' => e = .returned (.int .u32 ((S.ror x 2).toNat : Int)) ∧ w' = w := by
  have h : bits .and .u64 (IntKind.u64.wrap (-2)) 31 = 30 := by decide
  go_enter Tryd.func85, Tryd.ntmps85
  go_wp2
  go_ret
  exact ⟨ret_u32 (ror_2 x), rfl⟩
theorem turn_6 (x : UInt32) (w : World) :
    Calls Tryd.prog 85 #[.int .u32 (x.toNat : Int), .int .i64 6] w fun e w' => e = .returned (.int .u32 ((S.ror x 6).toNat : Int)) ∧ w' = w := by
  have h : bits .and .u64 (IntKind.u64.wrap (-6)) 31 = 26 := by decide
  go_enter Tryd.func85, Tryd.ntmps85
  go_wp2
  go_ret
  exact ⟨ret_u32 (ror_6 x), rfl⟩
theorem turn_7 (x : UInt32) (w : World) :
    Calls Tryd.prog 85 #[.int .u32 (x.toNat : Int), .int .i64 7] w fun e w' => e = .returned (.int .u32 ((S.ror x 7).toNat : Int)) ∧ w' = w := by
  have h : bits .and .u64 (IntKind.u64.wrap (-7)) 31 = 25 := by decide
  go_enter Tryd.func85, Tryd.ntmps85
  go_wp2
  go_ret
  exact ⟨ret_u32 (ror_7 x), rfl⟩
theorem turn_11 (x : UInt32) (w : World) :
    Calls Tryd.prog 85 #[.int .u32 (x.toNat : Int), .int .i64 11] w fun e w' => e = .returned (.int .u32 ((S.ror x 11).toNat : Int)) ∧ w' = w := by
  have h : bits .and .u64 (IntKind.u64.wrap (-11)) 31 = 21 := by decide
  go_enter Tryd.func85, Tryd.ntmps85
  go_wp2
  go_ret
  exact ⟨ret_u32 (ror_11 x), rfl⟩
theorem turn_13 (x : UInt32) (w : World) :
    Calls Tryd.prog 85 #[.int .u32 (x.toNat : Int), .int .i64 13] w fun e w' => e = .returned (.int .u32 ((S.ror x 13).toNat : Int)) ∧ w' = w := by
  have h : bits .and .u64 (IntKind.u64.wrap (-13)) 31 = 19 := by decide
  go_enter Tryd.func85, Tryd.ntmps85
  go_wp2
  go_ret
  exact ⟨ret_u32 (ror_13 x), rfl⟩
theorem turn_17 (x : UInt32) (w : World) :
    Calls Tryd.prog 85 #[.int .u32 (x.toNat : Int), .int .i64 17] w fun e w' => e = .returned (.int .u32 ((S.ror x 17).toNat : Int)) ∧ w' = w := by
  have h : bits .and .u64 (IntKind.u64.wrap (-17)) 31 = 15 := by decide
  go_enter Tryd.func85, Tryd.ntmps85
  go_wp2
  go_ret
  exact ⟨ret_u32 (ror_17 x), rfl⟩
theorem turn_18 (x : UInt32) (w : World) :
    Calls Tryd.prog 85 #[.int .u32 (x.toNat : Int), .int .i64 18] w fun e w' => e = .returned (.int .u32 ((S.ror x 18).toNat : Int)) ∧ w' = w := by
  have h : bits .and .u64 (IntKind.u64.wrap (-18)) 31 = 14 := by decide
  go_enter Tryd.func85, Tryd.ntmps85
  go_wp2
  go_ret
  exact ⟨ret_u32 (ror_18 x), rfl⟩
theorem turn_19 (x : UInt32) (w : World) :
    Calls Tryd.prog 85 #[.int .u32 (x.toNat : Int), .int .i64 19] w fun e w' => e = .returned (.int .u32 ((S.ror x 19).toNat : Int)) ∧ w' = w := by
  have h : bits .and .u64 (IntKind.u64.wrap (-19)) 31 = 13 := by decide
  go_enter Tryd.func85, Tryd.ntmps85
  go_wp2
  go_ret
  exact ⟨ret_u32 (ror_19 x), rfl⟩
theorem turn_22 (x : UInt32) (w : World) :
    Calls Tryd.prog 85 #[.int .u32 (x.toNat : Int), .int .i64 22] w fun e w' => e = .returned (.int .u32 ((S.ror x 22).toNat : Int)) ∧ w' = w := by
  have h : bits .and .u64 (IntKind.u64.wrap (-22)) 31 = 10 := by decide
  go_enter Tryd.func85, Tryd.ntmps85
  go_wp2
  go_ret
  exact ⟨ret_u32 (ror_22 x), rfl⟩
theorem turn_25 (x : UInt32) (w : World) :
    Calls Tryd.prog 85 #[.int .u32 (x.toNat : Int), .int .i64 25] w fun e w' => e = .returned (.int .u32 ((S.ror x 25).toNat : Int)) ∧ w' = w := by
  have h : bits .and .u64 (IntKind.u64.wrap (-25)) 31 = 7 := by decide
  go_enter Tryd.func85, Tryd.ntmps85
  go_wp2
  go_ret
  exact ⟨ret_u32 (ror_25 x), rfl⟩
set_option maxHeartbeats 400000 in
theorem ss0_any (x : UInt32) (w : World) :
    Calls Tryd.prog 84 #[.int .u32 (x.toNat : Int)] w fun e w' => e = .returned (.int .u32 ((S.ss0 x).toNat : Int)) ∧ w' = w := by
  go_enter Tryd.func84, Tryd.ntmps84
  go_wp2_with (first | (go_at_call_of 85 (Value.int .i64 7); refine (turn_7 x _).mono ?_; rintro e w' ⟨rfl, rfl⟩) | (go_at_call_of 85 (Value.int .i64 18); refine (turn_18 x _).mono ?_; rintro e w' ⟨rfl, rfl⟩))
  go_ret
  exact ⟨ret_u32 (by rw [u32_xor_cast, shr_3, u32_xor_cast]; rfl), rfl⟩
set_option maxHeartbeats 400000 in
theorem ss1_any (x : UInt32) (w : World) :
    Calls Tryd.prog 83 #[.int .u32 (x.toNat : Int)] w fun e w' => e = .returned (.int .u32 ((S.ss1 x).toNat : Int)) ∧ w' = w := by
  go_enter Tryd.func83, Tryd.ntmps83
  go_wp2_with (first | (go_at_call_of 85 (Value.int .i64 17); refine (turn_17 x _).mono ?_; rintro e w' ⟨rfl, rfl⟩) | (go_at_call_of 85 (Value.int .i64 19); refine (turn_19 x _).mono ?_; rintro e w' ⟨rfl, rfl⟩))
  go_ret
  exact ⟨ret_u32 (by rw [u32_xor_cast, shr_10, u32_xor_cast]; rfl), rfl⟩
set_option maxHeartbeats 400000 in
theorem bs0_any (x : UInt32) (w : World) :
    Calls Tryd.prog 81 #[.int .u32 (x.toNat : Int)] w fun e w' => e = .returned (.int .u32 ((S.bs0 x).toNat : Int)) ∧ w' = w := by
  go_enter Tryd.func81, Tryd.ntmps81
  go_wp2_with (first | (go_at_call_of 85 (Value.int .i64 2); refine (turn_2 x _).mono ?_; rintro e w' ⟨rfl, rfl⟩) | (go_at_call_of 85 (Value.int .i64 13); refine (turn_13 x _).mono ?_; rintro e w' ⟨rfl, rfl⟩) | (go_at_call_of 85 (Value.int .i64 22); refine (turn_22 x _).mono ?_; rintro e w' ⟨rfl, rfl⟩))
  go_ret
  exact ⟨ret_u32 (by rw [u32_xor_cast, u32_xor_cast]; rfl), rfl⟩
set_option maxHeartbeats 400000 in
theorem bs1_any (x : UInt32) (w : World) :
    Calls Tryd.prog 79 #[.int .u32 (x.toNat : Int)] w fun e w' => e = .returned (.int .u32 ((S.bs1 x).toNat : Int)) ∧ w' = w := by
  go_enter Tryd.func79, Tryd.ntmps79
  go_wp2_with (first | (go_at_call_of 85 (Value.int .i64 6); refine (turn_6 x _).mono ?_; rintro e w' ⟨rfl, rfl⟩) | (go_at_call_of 85 (Value.int .i64 11); refine (turn_11 x _).mono ?_; rintro e w' ⟨rfl, rfl⟩) | (go_at_call_of 85 (Value.int .i64 25); refine (turn_25 x _).mono ?_; rintro e w' ⟨rfl, rfl⟩))
  go_ret
  exact ⟨ret_u32 (by rw [u32_xor_cast, u32_xor_cast]; rfl), rfl⟩
theorem ch_any (x y z : UInt32) (w : World) :
    Calls Tryd.prog 80 #[.int .u32 (x.toNat : Int), .int .u32 (y.toNat : Int), .int .u32 (z.toNat : Int)] w fun e w' => e = .returned (.int .u32 ((S.ch x y z).toNat : Int)) ∧ w' = w := by
  go_enter Tryd.func80, Tryd.ntmps80
  go_wp2
  go_ret
  exact ⟨ret_u32 (by rw [u32_and_cast, u32_not_cast, u32_and_cast, u32_xor_cast]; rfl), rfl⟩
theorem maj_any (x y z : UInt32) (w : World) :
    Calls Tryd.prog 82 #[.int .u32 (x.toNat : Int), .int .u32 (y.toNat : Int), .int .u32 (z.toNat : Int)] w fun e w' => e = .returned (.int .u32 ((S.maj x y z).toNat : Int)) ∧ w' = w := by
  go_enter Tryd.func82, Tryd.ntmps82
  go_wp2
  go_ret
  exact ⟨ret_u32 (by rw [u32_and_cast, u32_and_cast, u32_and_cast, u32_xor_cast, u32_xor_cast]; rfl), rfl⟩
end Go.Proofs.YtlbggkmblkhjoaaDoor
