/- Within: a number is brought between 0 and a bound, always alike. -/
import Derived.Test.YtlcilclhaahopaaDoorCells
namespace Go.Proofs.YtlcilclhaahopaaDoor
open Go.RowKit
namespace S
/-- A number brought between 0 and hi. -/
def within (n hi : Int) : Nat := (if n.tmod (hi + 1) < 0 then n.tmod (hi + 1) + (hi + 1) else n.tmod (hi + 1)).toNat
theorem within_le (n hi : Int) (h : 0 ≤ hi) : (within n hi : Int) ≤ hi := by
  have hb1 : n.tmod (hi + 1) < hi + 1 := Int.tmod_lt_of_pos _ (by omega)
  unfold within
  split <;> omega
end S
set_option maxHeartbeats 400000 in
theorem within_any (n hi : Int) (w : World) (_h1 : -9223372036854775808 ≤ n) (_h2 : n ≤ 9223372036854775807) (h3 : 0 ≤ hi) (h4 : hi ≤ 140737488355328) :
   Calls Tryd.prog 29 #[.int .i64 n, .int .i64 0, .int .i64 hi] w fun e w' => e = .returned (.int .i64 (S.within n hi : Int)) ∧ w = w' := by
  have hb1 : n.tmod (hi + 1) < hi + 1 := Int.tmod_lt_of_pos _ (by omega)
  have hb2 : -(hi + 1) < n.tmod (hi + 1) := Int.lt_tmod_of_pos n (show (0 : Int) < hi + 1 by omega)
  have hne : ¬ hi + 1 = 0 := by omega
  have key : ∀ r : Int, (n.tmod (hi + 1) < 0 → r = n.tmod (hi + 1) + (hi + 1)) → (¬ n.tmod (hi + 1) < 0 → r = n.tmod (hi + 1)) → r = (S.within n hi : Int) := fun r h5 h6 => by
    unfold S.within
    split
    · rename_i h; have := h5 h; omega
    · rename_i h; have := h6 h; omega
  have K := hide key
  clear key
  go_enter Tryd.func29, Tryd.ntmps29
  go_wp2
  · go_ret
    exact ⟨congrArg (fun r : Int => Ending.returned (.int .i64 r)) (K.out _ (fun _ => by omega) (fun _ => by omega)), rfl⟩
  · go_ret
    exact ⟨congrArg (fun r : Int => Ending.returned (.int .i64 r)) (K.out _ (fun _ => by omega) (fun _ => by omega)), rfl⟩
end Go.Proofs.YtlcilclhaahopaaDoor
