/- DiskNumbers: chapter 3's runs come out. -/
import Derived.Test.YtjnbjgkcliaipaaKnown
namespace Go.Proofs.Ytjnbjgkcliaipaa
open Go.RowKit
namespace S
def n0 : Dk := Dk.new 3
def n1 : Dk := n0.went.write 0 (sec 1 128)
def n2 : Dk := n1.went.flush
def n3 : Dk := n2.went.write 0 (sec 5 128)
def n4 : Dk := n3.crash ⟨[true], -1, 0⟩
def n5 : Dk := n4.stop 1
def n6 : Dk := n5.went.write 1 (sec 1 128)
def n7 : Dk := n6.crash ⟨[], -1, 0⟩
def n8 : Dk := n7.went.write 1 (sec 3 128)
theorem n4_0 : byteOf (n4.seen.getD 0 []) 0 = .int .u8 5 := by kernel_rfl
theorem n4_1 : byteOf (n4.seen.getD 0 []) 1 = .int .u8 6 := by kernel_rfl
theorem n4_2 : byteOf (n4.seen.getD 0 []) 2 = .int .u8 7 := by kernel_rfl
theorem n4_len : n4.safe.length = 3 := by kernel_rfl
theorem n5_len : n5.safe.length = 3 := by kernel_rfl
theorem n6_len : n6.safe.length = 3 := by kernel_rfl
theorem n7_len : n7.safe.length = 3 := by kernel_rfl
end S
set_option maxHeartbeats 3200000 in
set_option maxRecDepth 100000 in
theorem numbers_walk (w : World) : Calls Try.prog 3 #[] w fun e w' => e = .returned (.bool true) ∧ Below w.heap.size w w' := by
  have e1 : ∀ w : World, (Op.equalIn 10000 39 (.agg #[.int .u8 5, .int .u8 6, .int .u8 7]) (.agg #[.int .u8 5, .int .u8 6, .int .u8 7])).run Try.prog w = .ok true w := fun w => equal_three 5 6 7 w
  go_enter Try.func3, Try.ntmps3
  go_wp2_with fail
  refine (new_no 0 w (by omega)).mono ?_
  rintro e w1 ⟨rfl, rfl⟩
  go_wp2_with fail
  refine (new_no 8193 w (by omega)).mono ?_
  rintro e w1 ⟨rfl, rfl⟩
  go_wp2_with fail
  refine (at_begun 3 w w (by omega) (by omega) (Below.refl _ _)).mono ?_
  rintro e w1 ⟨g, rfl, h1, -⟩
  have H1 : Hid (Has X0 w w1 g S.n0) := h1
  clear h1
  go_wp2_with fail
  refine (at_sectors w w1 g S.n0 H1.out).mono ?_
  rintro e w2 ⟨rfl, rfl⟩
  rw [show (S.n0.safe.length : Int) = 3 from rfl]
  go_wp2_with fail
  refine (at_read_no 3 w w1 g S.n0 H1.out (by decide)).mono ?_
  rintro e w2 ⟨rfl, rfl⟩
  go_wp2_with fail
  refine (at_sector 1 128 w w1 g _ H1.out (by omega)).mono ?_
  rintro e w2 ⟨gs2, rfl, h2, t2⟩
  have H2 := hide h2
  clear h2 t2 H1
  go_wp2_with fail
  refine (at_write_arg (-1) _ 128 128 w w2 g S.n0 H2.out (Or.inl (by decide))).mono ?_
  rintro e w3 ⟨rfl, rfl⟩
  go_wp2_with fail
  refine (at_write_arg 0 none 0 0 w w2 g S.n0 H2.out (Or.inr (by decide))).mono ?_
  rintro e w3 ⟨rfl, rfl⟩
  go_wp2_with fail
  refine (at_sector 1 128 w w2 g _ H2.out (by omega)).mono ?_
  rintro e w3 ⟨gs3, rfl, h3, t3⟩
  have H3 := hide h3
  have T3 := hide t3
  clear h3 t3 H2
  go_wp2_with fail
  refine (at_write 0 _ (S.sec 1 128) w w3 g S.n0 H3.out (by decide) rfl (S.sec_length _ _) (by decide) T3.out).mono ?_
  rintro e w4 ⟨rfl, h4⟩
  have H4 : Hid (Has X0 w w4 g S.n1) := h4
  clear h4 H3 T3
  go_wp2_with fail
  refine (at_flush w w4 g S.n1 H4.out rfl (by decide)).mono ?_
  rintro e w5 ⟨rfl, h5⟩
  have H5 : Hid (Has X0 w w5 g S.n2) := h5
  clear h5 H4
  go_wp2_with fail
  refine (at_sector 5 128 w w5 g _ H5.out (by omega)).mono ?_
  rintro e w6 ⟨gs6, rfl, h6, t6⟩
  have H6 := hide h6
  have T6 := hide t6
  clear h6 t6 H5
  go_wp2_with fail
  refine (at_write 0 _ (S.sec 5 128) w w6 g S.n2 H6.out (by decide) rfl (S.sec_length _ _) (by decide) T6.out).mono ?_
  rintro e w7 ⟨rfl, h7⟩
  have H7 : Hid (Has X0 w w7 g S.n3) := h7
  clear h7 H6 T6
  go_wp2_with fail
  refine (at_crash_new w7.heap.size [true] (-1) 0 4 w w7 _ g S.n3 H7.out ((Below.refl _ _).alloc (Nat.le_refl _) _) (Nat.le_refl _) (heap_alloc_new _ _) (by decide) (by decide)).mono ?_
  rintro e w8 ⟨rfl, h8⟩
  have H8 : Hid (Has X0 w w8 g S.n4) := h8
  clear h8 H7
  go_wp2_with fail
  refine (at_first 0 w w8 g S.n4 H8.out (by rw [S.n4_len]; decide)).mono ?_
  rintro e w9 ⟨rfl, h9⟩
  have H9 := hide h9
  clear h9 H8
  rw [S.n4_0, S.n4_1, S.n4_2]
  go_wp2_with fail
  have HA := hide (H9.out.also ((Below.refl _ _).alloc (Nat.le_refl _) (.cells #[.int .u8 5, .int .u8 6, .int .u8 7] 39)) w9.heap.size (.cells #[.int .u8 5, .int .u8 6, .int .u8 7] 39) (Nat.le_refl _) (heap_alloc_new _ _))
  generalize w9.alloc (.cells #[.int .u8 5, .int .u8 6, .int .u8 7] 39) = wa at *
  generalize w9.heap.size = gh at *
  obtain ⟨X1, hX1⟩ : ∃ X1 : Nat → Option Obj, X1 = (fun j => if j = gh then some (.cells #[.int .u8 5, .int .u8 6, .int .u8 7] 39) else X0 j) := ⟨_, rfl⟩
  rw [← hX1] at HA
  have hXh : X1 gh = some (.cells #[.int .u8 5, .int .u8 6, .int .u8 7] 39) := by rw [hX1]; exact if_pos rfl
  have HXH := hide hXh
  clear hX1 H9 hXh
  refine (at_stop 1 w wa g S.n4 HA.out (by omega)).mono ?_
  rintro e w10 ⟨rfl, h10⟩
  have H10 : Hid (Has X1 w w10 g S.n5) := h10
  clear h10 HA
  go_wp2_with fail
  refine (at_sector 1 128 w w10 g _ H10.out (by omega)).mono ?_
  rintro e w11 ⟨gs11, rfl, h11, t11⟩
  have H11 := hide h11
  have T11 := hide t11
  clear h11 t11 H10
  go_wp2_with fail
  refine (at_write 1 _ (S.sec 1 128) w w11 g S.n5 H11.out (by rw [S.n5_len]; decide) rfl (S.sec_length _ _) (by decide) T11.out).mono ?_
  rintro e w12 ⟨rfl, h12⟩
  have H12 : Hid (Has X1 w w12 g S.n6) := h12
  clear h12 H11 T11
  go_wp2_with fail
  refine (at_sector 2 128 w w12 g _ H12.out (by omega)).mono ?_
  rintro e w13 ⟨gs13, rfl, h13, t13⟩
  have H13 := hide h13
  clear h13 t13 H12
  go_wp2_with fail
  refine (at_write_stop 1 _ 128 w w13 g S.n6 H13.out (by rw [S.n6_len]; decide) rfl).mono ?_
  rintro e w14 ⟨rfl, h14⟩
  have H14 := hide h14
  clear h14 H13
  go_wp2_with fail
  refine (at_flush_stop w w14 g S.n6 H14.out rfl).mono ?_
  rintro e w15 ⟨rfl, h15⟩
  have H15 := hide h15
  clear h15 H14
  go_wp2_with fail
  refine (at_crash (.slice none 0 0) ⟨[], -1, 0⟩ w w15 g S.n6 H15.out (by decide) (bools_nil _)).mono ?_
  rintro e w16 ⟨rfl, h16⟩
  have H16 : Hid (Has X1 w w16 g S.n7) := h16
  clear h16 H15
  go_wp2_with fail
  refine (at_sector 3 128 w w16 g _ H16.out (by omega)).mono ?_
  rintro e w17 ⟨gs17, rfl, h17, t17⟩
  have H17 := hide h17
  have T17 := hide t17
  clear h17 t17 H16
  go_wp2_with fail
  refine (at_write 1 _ (S.sec 3 128) w w17 g S.n7 H17.out (by rw [S.n7_len]; decide) rfl (S.sec_length _ _) (by decide) T17.out).mono ?_
  rintro e w18 ⟨rfl, h18⟩
  have H18 : Hid (Has X1 w w18 g S.n8) := h18
  clear h18 H17 T17
  obtain ⟨c0, c1, c2⟩ := cells3 (H18.out.told HXH.out)
  go_wp2_with fail
  refine (known_any w18).mono ?_
  rintro e w19 ⟨rfl, hb⟩
  have HB := hide (H18.out.base.trans (hb.mono H18.out.base.size))
  clear hb
  go_wp2_with fail
  go_ret
  exact ⟨rfl, HB.out⟩
end Go.Proofs.Ytjnbjgkcliaipaa
