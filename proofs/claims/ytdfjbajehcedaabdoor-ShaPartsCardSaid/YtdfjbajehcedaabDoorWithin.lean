/- Within: a number is brought between 0 and a bound. -/
import Derived.Test.YtdfjbajehcedaabDoorKnown
namespace Go.Proofs.YtdfjbajehcedaabDoor
open Go.RowKit
set_option maxHeartbeats 400000 in
theorem within_num (n hi : Int) (w : World) (_h1 : -9223372036854775808 ≤ n) (_h2 : n ≤ 9223372036854775807) (h3 : 0 ≤ hi) (h4 : hi ≤ 140737488355328) :
   Calls Tryd.prog 4 #[.int .i64 n, .int .i64 0, .int .i64 hi] w fun e w' => ∃ r : Int, e = .returned (.int .i64 r) ∧ 0 ≤ r ∧ r ≤ hi ∧ w = w' := by
  have hb1 : n.tmod (hi + 1) < hi + 1 := Int.tmod_lt_of_pos _ (by omega)
  have hb2 : -(hi + 1) < n.tmod (hi + 1) := Int.lt_tmod_of_pos n (show (0 : Int) < hi + 1 by omega)
  have hne : ¬ hi + 1 = 0 := by omega
  go_enter Tryd.func4, Tryd.ntmps4
  go_wp2
  · go_ret
    exact ⟨_, rfl, by omega, by omega, rfl⟩
  · go_ret
    exact ⟨_, rfl, by omega, by omega, rfl⟩
end Go.Proofs.YtdfjbajehcedaabDoor
