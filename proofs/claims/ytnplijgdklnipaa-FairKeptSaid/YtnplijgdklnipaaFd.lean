/- The calls on numbers alone. -/
import Derived.Test.YtnplijgdklnipaaFc
namespace Go.Proofs.Ytnplijgdklnipaa
open Go.RowKit
theorem between_any (n lo hi : Int) (hlh : lo ≤ hi) (w : World) :
   Calls Try.prog 26 #[.int .i64 n, .int .i64 lo, .int .i64 hi] w fun e w' => e = .returned (.int .i64 (S.cl n lo hi)) ∧ w = w' := by
  have HR : Hid (∀ r : Int, (r = lo ∧ n ≤ lo ∨ r = n ∧ lo ≤ n ∧ n ≤ hi ∨ r = hi ∧ hi ≤ n) → r = S.cl n lo hi) := fun r hr => by unfold S.cl; omega
  go_enter Try.func26, Try.ntmps26
  go_wp2
  all_goals (
    go_ret
    exact ⟨congrArg (fun r : Int => Ending.returned (.int .i64 r)) (HR.out _ (by omega)), rfl⟩)
theorem in_any (n lo hi : Int) (hlh : lo ≤ hi) (w : World) :
   Calls Try.prog 27 #[.int .i64 n, .int .i64 lo, .int .i64 hi] w fun e w' => e = .returned (.int .i64 (S.cl n lo hi)) ∧ w = w' := by
  have HR : Hid (∀ r : Int, (r = lo ∧ n ≤ lo ∨ r = n ∧ lo ≤ n ∧ n ≤ hi ∨ r = hi ∧ hi ≤ n) → r = S.cl n lo hi) := fun r hr => by unfold S.cl; omega
  go_enter Try.func27, Try.ntmps27
  go_wp2
  all_goals (
    go_ret
    exact ⟨congrArg (fun r : Int => Ending.returned (.int .i64 r)) (HR.out _ (by omega)), rfl⟩)
theorem cl_few (n lo hi : Int) (h : lo ≤ hi) : lo ≤ S.cl n lo hi ∧ S.cl n lo hi ≤ hi := by unfold S.cl; omega
theorem wrap_small {z : Int} (h : -9000000000000000000 ≤ z) (h2 : z ≤ 9000000000000000000) : IntKind.i64.wrap z = z := by rw [IntKind.wrap_i64]; omega
theorem share_any (x q : Int) (w : World) :
   Calls Try.prog 25 #[.int .i64 x, .int .i64 q] w fun e w' => e = .returned (.int .i64 (S.sh x q)) ∧ w = w' := by
  have HS : Hid (IntKind.i64.wrap (S.cl x 1 4 * S.cl q 1 2) = S.sh x q) := by
    have := S.sh_bounds x q
    show IntKind.i64.wrap (S.sh x q) = S.sh x q
    exact wrap_small (by omega) (by omega)
  obtain ⟨u, eu⟩ : ∃ u, u = S.cl x 1 4 := ⟨_, rfl⟩
  obtain ⟨v, ev⟩ : ∃ v, v = S.cl q 1 2 := ⟨_, rfl⟩
  obtain ⟨s, es⟩ : ∃ s, s = S.sh x q := ⟨_, rfl⟩
  rw [← eu, ← ev, ← es] at HS
  rw [← es]
  have q0 : IntKind.i64.wrap (u * v) = s := HS.out
  have EU := hide eu
  have EV := hide ev
  clear eu ev es
  go_enter Try.func25, Try.ntmps25
  go_wp2_with fail
  go_at_call 26
  refine (between_any x 1 4 (by omega) w).mono ?_
  rintro e w1 ⟨rfl, rfl⟩
  rw [← EU.out]
  go_wp2_with fail
  go_at_call 26
  refine (between_any q 1 2 (by omega) w).mono ?_
  rintro e w1 ⟨rfl, rfl⟩
  rw [← EV.out]
  go_wp2
  go_ret
  exact ⟨rfl, rfl⟩
theorem grown_any (d m : Int) (h1 : -100000000 ≤ d) (h2 : d ≤ 100000000) (h3 : 1 ≤ m) (h4 : m ≤ 8) (w : World) :
   Calls Try.prog 30 #[.int .i64 d, .int .i64 m] w fun e w' => e = .returned (.int .i64 (d + m)) ∧ w = w' := by
  have q1 : IntKind.i64.wrap (9223372036854775807 - m) = 9223372036854775807 - m := by rw [IntKind.wrap_i64]; omega
  have q2 : ¬ 9223372036854775807 - m < d := by omega
  have q3 : IntKind.i64.wrap (d + m) = d + m := wrap_small (by omega) (by omega)
  go_enter Try.func30, Try.ntmps30
  go_wp2
  go_ret
  exact ⟨rfl, rfl⟩
theorem wait_num (a s n : Int) (ha : 0 ≤ a ∧ a ≤ 1048576) (hs : 1 ≤ s ∧ s ≤ 8) (hn : 1 ≤ n ∧ n ≤ 1048576) :
    (a + s).tdiv s = (a + s) / s ∧ 1 ≤ (a + s) / s ∧ (a + s) / s ≤ 1048584 ∧ 0 ≤ (a + s) / s * n ∧ (a + s) / s * n ≤ 1099520016384 := by
  have e : (a + s).tdiv s = (a + s) / s := Int.tdiv_eq_ediv_of_nonneg (by omega)
  have h1 : 1 ≤ (a + s) / s := by
    rw [Int.le_ediv_iff_mul_le (by omega)]; omega
  have h2 : (a + s) / s ≤ 1048584 := by
    have := Int.ediv_le_self s (show 0 ≤ a + s by omega)
    omega
  refine ⟨e, h1, h2, Int.mul_nonneg (by omega) (by omega), ?_⟩
  have := Int.mul_le_mul h2 hn.2 (by omega) (by omega)
  omega
theorem wait_any (ahead x q n : Int) (w : World) :
   Calls Try.prog 10 #[.int .i64 ahead, .int .i64 x, .int .i64 q, .int .i64 n] w fun e w' => e = .returned (.int .i64 (S.wait ahead x q n)) ∧ w = w' := by
  have hs := S.sh_bounds x q
  have ha := cl_few ahead 0 1048576 (by omega)
  have hn := cl_few n 1 1048576 (by omega)
  have hw := wait_num _ _ _ ha hs hn
  have HE : Hid (S.wait ahead x q n = (S.cl ahead 0 1048576 + S.sh x q).tdiv (S.sh x q) * S.cl n 1 1048576) := rfl
  obtain ⟨s, es⟩ : ∃ s, s = S.sh x q := ⟨_, rfl⟩
  obtain ⟨a, ea⟩ : ∃ a, a = S.cl ahead 0 1048576 := ⟨_, rfl⟩
  obtain ⟨m, em⟩ : ∃ m, m = S.cl n 1 1048576 := ⟨_, rfl⟩
  rw [← es] at hs hw HE
  rw [← ea] at ha hw HE
  rw [← em] at hn hw HE
  have q1 : IntKind.i64.wrap (a + s) = a + s := wrap_small (by omega) (by omega)
  have q2 : IntKind.i64.wrap ((a + s).tdiv s) = (a + s).tdiv s := by rw [hw.1]; exact wrap_small (by omega) (by omega)
  have q3 : IntKind.i64.wrap ((a + s).tdiv s * m) = (a + s).tdiv s * m := by rw [hw.1]; exact wrap_small (by omega) (by omega)
  have q4 : ¬ s = 0 := by omega
  have ES := hide es
  have EA := hide ea
  have EM := hide em
  clear es ea em hw
  go_enter Try.func10, Try.ntmps10
  go_wp2_with fail
  go_at_call 25
  refine (share_any x q w).mono ?_
  rintro e w1 ⟨rfl, rfl⟩
  rw [← ES.out]
  go_wp2_with fail
  go_at_call 26
  refine (between_any ahead 0 1048576 (by omega) w).mono ?_
  rintro e w1 ⟨rfl, rfl⟩
  rw [← EA.out]
  go_wp2_with fail
  go_at_call 26
  refine (between_any n 1 1048576 (by omega) w).mono ?_
  rintro e w1 ⟨rfl, rfl⟩
  rw [← EM.out]
  go_wp2
  go_ret
  exact ⟨by rw [HE.out]; rfl, rfl⟩
theorem rwait_any (ahead x q n : Int) (w : World) :
   Calls Try.prog 17 #[.int .i64 ahead, .int .i64 x, .int .i64 q, .int .i64 n] w fun e w' => e = .returned (.int .i64 (S.wait ahead x q n)) ∧ w = w' := by
  have hs := S.sh_bounds x q
  have ha := cl_few ahead 0 1048576 (by omega)
  have hn := cl_few n 1 1048576 (by omega)
  have hw := wait_num _ _ _ ha hs hn
  have HE : Hid (S.wait ahead x q n = (S.cl ahead 0 1048576 + S.sh x q).tdiv (S.sh x q) * S.cl n 1 1048576) := rfl
  have HS : Hid (IntKind.i64.wrap (S.cl x 1 4 * S.cl q 1 2) = S.sh x q) := by
    show IntKind.i64.wrap (S.sh x q) = S.sh x q
    exact wrap_small (by omega) (by omega)
  obtain ⟨s, es⟩ : ∃ s, s = S.sh x q := ⟨_, rfl⟩
  obtain ⟨a, ea⟩ : ∃ a, a = S.cl ahead 0 1048576 := ⟨_, rfl⟩
  obtain ⟨m, em⟩ : ∃ m, m = S.cl n 1 1048576 := ⟨_, rfl⟩
  rw [← es] at hs hw HE HS
  rw [← ea] at ha hw HE
  rw [← em] at hn hw HE
  obtain ⟨u, eu⟩ : ∃ u, u = S.cl x 1 4 := ⟨_, rfl⟩
  obtain ⟨v, ev⟩ : ∃ v, v = S.cl q 1 2 := ⟨_, rfl⟩
  rw [← eu, ← ev] at HS
  have q0 : IntKind.i64.wrap (u * v) = s := HS.out
  have q1 : IntKind.i64.wrap (a + s) = a + s := wrap_small (by omega) (by omega)
  have q2 : IntKind.i64.wrap ((a + s).tdiv s) = (a + s).tdiv s := by rw [hw.1]; exact wrap_small (by omega) (by omega)
  have q3 : IntKind.i64.wrap ((a + s).tdiv s * m) = (a + s).tdiv s * m := by rw [hw.1]; exact wrap_small (by omega) (by omega)
  have q4 : ¬ s = 0 := by omega
  have EU := hide eu
  have EV := hide ev
  have EA := hide ea
  have EM := hide em
  clear es ea em eu ev hw
  go_enter Try.func17, Try.ntmps17
  go_wp2_with fail
  go_at_call 27
  refine (in_any ahead 0 1048576 (by omega) w).mono ?_
  rintro e w1 ⟨rfl, rfl⟩
  rw [← EA.out]
  go_wp2_with fail
  go_at_call 27
  refine (in_any n 1 1048576 (by omega) w).mono ?_
  rintro e w1 ⟨rfl, rfl⟩
  rw [← EM.out]
  go_wp2_with fail
  go_at_call 27
  refine (in_any x 1 4 (by omega) w).mono ?_
  rintro e w1 ⟨rfl, rfl⟩
  rw [← EU.out]
  go_wp2_with fail
  go_at_call 27
  refine (in_any q 1 2 (by omega) w).mono ?_
  rintro e w1 ⟨rfl, rfl⟩
  rw [← EV.out]
  go_wp2
  go_ret
  exact ⟨by rw [HE.out]; rfl, rfl⟩
namespace S
/-- A number brought between 0 and hi. -/
def within (n hi : Int) : Nat := (if n.tmod (hi + 1) < 0 then n.tmod (hi + 1) + (hi + 1) else n.tmod (hi + 1)).toNat
theorem within_le (n hi : Int) (h : 0 ≤ hi) : (within n hi : Int) ≤ hi := by
  have hb1 : n.tmod (hi + 1) < hi + 1 := Int.tmod_lt_of_pos _ (by omega)
  unfold within
  split <;> omega
end S
set_option maxHeartbeats 400000 in
theorem within_any (n hi : Int) (w : World) (h3 : 0 ≤ hi) (h4 : hi ≤ 140737488355328) :
   Calls Try.prog 19 #[.int .i64 n, .int .i64 0, .int .i64 hi] w fun e w' => e = .returned (.int .i64 (S.within n hi : Int)) ∧ w = w' := by
  have hb1 : n.tmod (hi + 1) < hi + 1 := Int.tmod_lt_of_pos _ (by omega)
  have hb2 : -(hi + 1) < n.tmod (hi + 1) := Int.lt_tmod_of_pos n (show (0 : Int) < hi + 1 by omega)
  have hne : ¬ hi + 1 = 0 := by omega
  have key : ∀ r : Int, (n.tmod (hi + 1) < 0 → r = n.tmod (hi + 1) + (hi + 1)) → (¬ n.tmod (hi + 1) < 0 → r = n.tmod (hi + 1)) → r = (S.within n hi : Int) := fun r h5 h6 => by
    unfold S.within
    split
    · rename_i h; have := h5 h; omega
    · rename_i h; have := h6 h; omega
  have K := hide key
  clear key
  go_enter Try.func19, Try.ntmps19
  go_wp2
  · go_ret
    exact ⟨congrArg (fun r : Int => Ending.returned (.int .i64 r)) (K.out _ (fun _ => by omega) (fun _ => by omega)), rfl⟩
  · go_ret
    exact ⟨congrArg (fun r : Int => Ending.returned (.int .i64 r)) (K.out _ (fun _ => by omega) (fun _ => by omega)), rfl⟩
end Go.Proofs.Ytnplijgdklnipaa
