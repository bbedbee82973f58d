/- known: some of chapter 3's runs come out. -/
import Derived.Test.YtjnbjgkcliaipaaAt
namespace Go.Proofs.Ytjnbjgkcliaipaa
open Go.RowKit
namespace S
def k1 : Dk := (Dk.new 2).went.write 0 (sec 1 128)
def kc : Cut := ⟨[], 0, 2⟩
def k2 : Dk := k1.crash kc
theorem k1_0 : byteOf (k1.seen.getD 0 []) 0 = .int .u8 1 := by kernel_rfl
theorem k1_1 : byteOf (k1.seen.getD 0 []) 1 = .int .u8 2 := by kernel_rfl
theorem k1_2 : byteOf (k1.seen.getD 0 []) 2 = .int .u8 3 := by kernel_rfl
theorem k2_0 : byteOf (k2.seen.getD 0 []) 0 = .int .u8 1 := by kernel_rfl
theorem k2_1 : byteOf (k2.seen.getD 0 []) 1 = .int .u8 2 := by kernel_rfl
theorem k2_2 : byteOf (k2.seen.getD 0 []) 2 = .int .u8 0 := by kernel_rfl
end S
theorem equal_three (a b c : UInt8) (w : World) : (Op.equalIn 10000 39 (.agg #[.int .u8 (a.toNat : Int), .int .u8 (b.toNat : Int), .int .u8 (c.toNat : Int)]) (.agg #[.int .u8 (a.toNat : Int), .int .u8 (b.toNat : Int), .int .u8 (c.toNat : Int)])).run Try.prog w = .ok true w := by
  have h := run_equalIn_bytes (P := Try.prog) w 9998 39 5 3 Try.underlying39 Try.underlying5 (fun _ => by kernel_rfl) [a, b, c] [a, b, c] rfl rfl
  rw [beq_self_eq_true] at h
  exact h
set_option maxHeartbeats 1600000 in
theorem known_any (w : World) : Calls Try.prog 19 #[] w fun e w' => e = .returned (.bool true) ∧ Below w.heap.size w w' := by
  have e1 : ∀ w : World, (Op.equalIn 10000 39 (.agg #[.int .u8 1, .int .u8 2, .int .u8 3]) (.agg #[.int .u8 1, .int .u8 2, .int .u8 3])).run Try.prog w = .ok true w := fun w => equal_three 1 2 3 w
  have e2 : ∀ w : World, (Op.equalIn 10000 39 (.agg #[.int .u8 1, .int .u8 2, .int .u8 0]) (.agg #[.int .u8 1, .int .u8 2, .int .u8 0])).run Try.prog w = .ok true w := fun w => equal_three 1 2 0 w
  go_enter Try.func19, Try.ntmps19
  go_wp2_with fail
  refine (at_begun 2 w w (by omega) (by omega) (Below.refl _ _)).mono ?_
  rintro e w1 ⟨g, rfl, h1, -⟩
  have H1 := hide h1
  clear h1
  go_wp2_with fail
  refine (at_sector 1 128 w w1 g _ H1.out (by omega)).mono ?_
  rintro e w2 ⟨gs, rfl, h2, t2⟩
  have H2 := hide h2
  have T2 := hide t2
  clear h2 t2 H1
  go_wp2_with fail
  refine (at_write 0 _ (S.sec 1 128) w w2 g _ H2.out (by decide) rfl (S.sec_length _ _) (by decide) T2.out).mono ?_
  rintro e w3 ⟨rfl, h3⟩
  have H3 : Hid (Has X0 w w3 g S.k1) := h3
  clear h3 H2 T2
  go_wp2_with fail
  refine (at_first 0 w w3 g S.k1 H3.out (by decide)).mono ?_
  rintro e w4 ⟨rfl, h4⟩
  have H4 := hide h4
  clear h4 H3
  rw [S.k1_0, S.k1_1, S.k1_2]
  go_wp2_with fail
  refine (at_pending w w4 g S.k1 H4.out).mono ?_
  rintro e w5 ⟨rfl, rfl⟩
  rw [show (List.length S.k1.pend : Int) = 1 from rfl]
  go_wp2_with fail
  refine (at_crash (.slice none 0 0) S.kc w w4 g S.k1 H4.out (by decide) (bools_nil _)).mono ?_
  rintro e w6 ⟨rfl, h6⟩
  have H6 : Hid (Has X0 w w6 g S.k2) := h6
  clear h6 H4
  go_wp2_with fail
  refine (at_first 0 w w6 g S.k2 H6.out (by decide)).mono ?_
  rintro e w7 ⟨rfl, h7⟩
  have H7 := hide h7
  clear h7 H6
  rw [S.k2_0, S.k2_1, S.k2_2]
  go_wp2_with fail
  refine (at_pending w w7 g S.k2 H7.out).mono ?_
  rintro e w8 ⟨rfl, rfl⟩
  rw [show (List.length S.k2.pend : Int) = 0 from rfl]
  go_wp2_with fail
  go_ret
  exact ⟨rfl, H7.out.base⟩
end Go.Proofs.Ytjnbjgkcliaipaa
