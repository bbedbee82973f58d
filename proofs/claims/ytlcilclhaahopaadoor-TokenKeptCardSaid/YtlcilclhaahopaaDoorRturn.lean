/- turn of the document's own answer: a word turned to the right; nothing changes. -/
import Derived.Test.YtlcilclhaahopaaDoorLeaf
namespace Go.Proofs.YtlcilclhaahopaaDoor
open Go.RowKit
theorem u32_or_swap (a b : Int) : bits .or .u32 a b = bits .or .u32 b a := by simp only [bits, BitVec.or_comm]
theorem rturn_2 (x : UInt32) (w : World) : Calls Tryd.prog 98 #[.int .u32 (x.toNat : Int), .int .u64 2] w fun e w' => e = .returned (.int .u32 ((S.ror x 2).toNat : Int)) ∧ w' = w := by
  go_enter Tryd.func98, Tryd.ntmps98
  go_wp2
  go_ret
  exact ⟨ret_u32 (by rw [u32_or_swap, ror_2]), rfl⟩
theorem rturn_6 (x : UInt32) (w : World) : Calls Tryd.prog 98 #[.int .u32 (x.toNat : Int), .int .u64 6] w fun e w' => e = .returned (.int .u32 ((S.ror x 6).toNat : Int)) ∧ w' = w := by
  go_enter Tryd.func98, Tryd.ntmps98
  go_wp2
  go_ret
  exact ⟨ret_u32 (by rw [u32_or_swap, ror_6]), rfl⟩
theorem rturn_7 (x : UInt32) (w : World) : Calls Tryd.prog 98 #[.int .u32 (x.toNat : Int), .int .u64 7] w fun e w' => e = .returned (.int .u32 ((S.ror x 7).toNat : Int)) ∧ w' = w := by
  go_enter Tryd.func98, Tryd.ntmps98
  go_wp2
  go_ret
  exact ⟨ret_u32 (by rw [u32_or_swap, ror_7]), rfl⟩
theorem rturn_11 (x : UInt32) (w : World) : Calls Tryd.prog 98 #[.int .u32 (x.toNat : Int), .int .u64 11] w fun e w' => e = .returned (.int .u32 ((S.ror x 11).toNat : Int)) ∧ w' = w := by
  go_enter Tryd.func98, Tryd.ntmps98
  go_wp2
  go_ret
  exact ⟨ret_u32 (by rw [u32_or_swap, ror_11]), rfl⟩
theorem rturn_13 (x : UInt32) (w : World) : Calls Tryd.prog 98 #[.int .u32 (x.toNat : Int), .int .u64 13] w fun e w' => e = .returned (.int .u32 ((S.ror x 13).toNat : Int)) ∧ w' = w := by
  go_enter Tryd.func98, Tryd.ntmps98
  go_wp2
  go_ret
  exact ⟨ret_u32 (by rw [u32_or_swap, ror_13]), rfl⟩
theorem rturn_17 (x : UInt32) (w : World) : Calls Tryd.prog 98 #[.int .u32 (x.toNat : Int), .int .u64 17] w fun e w' => e = .returned (.int .u32 ((S.ror x 17).toNat : Int)) ∧ w' = w := by
  go_enter Tryd.func98, Tryd.ntmps98
  go_wp2
  go_ret
  exact ⟨ret_u32 (by rw [u32_or_swap, ror_17]), rfl⟩
theorem rturn_18 (x : UInt32) (w : World) : Calls Tryd.prog 98 #[.int .u32 (x.toNat : Int), .int .u64 18] w fun e w' => e = .returned (.int .u32 ((S.ror x 18).toNat : Int)) ∧ w' = w := by
  go_enter Tryd.func98, Tryd.ntmps98
  go_wp2
  go_ret
  exact ⟨ret_u32 (by rw [u32_or_swap, ror_18]), rfl⟩
theorem rturn_19 (x : UInt32) (w : World) : Calls Tryd.prog 98 #[.int .u32 (x.toNat : Int), .int .u64 19] w fun e w' => e = .returned (.int .u32 ((S.ror x 19).toNat : Int)) ∧ w' = w := by
  go_enter Tryd.func98, Tryd.ntmps98
  go_wp2
  go_ret
  exact ⟨ret_u32 (by rw [u32_or_swap, ror_19]), rfl⟩
theorem rturn_22 (x : UInt32) (w : World) : Calls Tryd.prog 98 #[.int .u32 (x.toNat : Int), .int .u64 22] w fun e w' => e = .returned (.int .u32 ((S.ror x 22).toNat : Int)) ∧ w' = w := by
  go_enter Tryd.func98, Tryd.ntmps98
  go_wp2
  go_ret
  exact ⟨ret_u32 (by rw [u32_or_swap, ror_22]), rfl⟩
theorem rturn_25 (x : UInt32) (w : World) : Calls Tryd.prog 98 #[.int .u32 (x.toNat : Int), .int .u64 25] w fun e w' => e = .returned (.int .u32 ((S.ror x 25).toNat : Int)) ∧ w' = w := by
  go_enter Tryd.func98, Tryd.ntmps98
  go_wp2
  go_ret
  exact ⟨ret_u32 (by rw [u32_or_swap, ror_25]), rfl⟩
end Go.Proofs.YtlcilclhaahopaaDoor
