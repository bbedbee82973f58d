/- What the document's May and Decide say; the program's Decide. -/
import Derived.Test.YtkdpdkfhhpekaaaDoorPd
namespace Go.Proofs.YtkdpdkfhhpekaaaDoor
open Go.RowKit

theorem S.may_eq (role op : Int) : S.may role op = (decide (0 < S.least op) && decide (S.least op ≤ role) && decide (role ≤ 4)) := by
  rw [Bool.eq_iff_iff]
  unfold S.may S.ops S.least
  rcases (by omega : role = 4 ∨ role = 3 ∨ role = 2 ∨ role = 1 ∨ (role ≠ 4 ∧ role ≠ 3 ∧ role ≠ 2 ∧ role ≠ 1)) with h | h | h | h | ⟨h1, h2, h3, h4⟩
  · subst h; simp; repeat' split
    all_goals omega
  · subst h; simp; repeat' split
    all_goals omega
  · subst h; simp; repeat' split
    all_goals omega
  · subst h; simp; repeat' split
    all_goals omega
  · simp [h1, h2, h3, h4]; repeat' split
    all_goals omega
set_option maxHeartbeats 3200000 in
set_option maxRecDepth 100000 in
theorem rmay_any (role op : Int) (w : World) : Calls Tryd.prog 10 #[.int .i64 role, .int .i64 op] w fun e w' => e = .returned (.bool (S.may role op)) ∧ w = w' := by
  rcases (by omega : op = 2 ∨ op = 3 ∨ op = 4 ∨ op = 5 ∨ op = 1 ∨ op = 7 ∨ op = 8 ∨ op = 9 ∨ op = 6 ∨ op = 10 ∨ op = 11 ∨ op = 12 ∨ (op ≠ 2 ∧ op ≠ 3 ∧ op ≠ 4 ∧ op ≠ 5 ∧ op ≠ 1 ∧ op ≠ 7 ∧ op ≠ 8 ∧ op ≠ 9 ∧ op ≠ 6 ∧ op ≠ 10 ∧ op ≠ 11 ∧ op ≠ 12)) with hop | hop | hop | hop | hop | hop | hop | hop | hop | hop | hop | hop | hop
  · subst hop
    rcases (by omega : (1 ≤ role ∧ role ≤ 4) ∨ role < 1 ∨ 4 < role) with h | h | h
    · have e : S.may role 2 = true := by rw [S.may_eq]; simp [S.least]; omega
      have q1 : role ≥ 1 := by omega
      have q2 : role ≤ 4 := by omega
      rw [e]
      clear h e
      go_enter Tryd.func10, Tryd.ntmps10
      go_wp2
      go_ret
      exact ⟨rfl, rfl⟩
    · have e : S.may role 2 = false := by rw [S.may_eq]; simp [S.least]; omega
      have q1 : ¬ role ≥ 1 := by omega
      rw [e]
      clear h e
      go_enter Tryd.func10, Tryd.ntmps10
      go_wp2
      go_ret
      exact ⟨rfl, rfl⟩
    · have e : S.may role 2 = false := by rw [S.may_eq]; simp [S.least]; omega
      have q1 : role ≥ 1 := by omega
      have q2 : ¬ role ≤ 4 := by omega
      rw [e]
      clear h e
      go_enter Tryd.func10, Tryd.ntmps10
      go_wp2
      go_ret
      exact ⟨rfl, rfl⟩
  · subst hop
    rcases (by omega : (1 ≤ role ∧ role ≤ 4) ∨ role < 1 ∨ 4 < role) with h | h | h
    · have e : S.may role 3 = true := by rw [S.may_eq]; simp [S.least]; omega
      have q1 : role ≥ 1 := by omega
      have q2 : role ≤ 4 := by omega
      rw [e]
      clear h e
      go_enter Tryd.func10, Tryd.ntmps10
      go_wp2
      go_ret
      exact ⟨rfl, rfl⟩
    · have e : S.may role 3 = false := by rw [S.may_eq]; simp [S.least]; omega
      have q1 : ¬ role ≥ 1 := by omega
      rw [e]
      clear h e
      go_enter Tryd.func10, Tryd.ntmps10
      go_wp2
      go_ret
      exact ⟨rfl, rfl⟩
    · have e : S.may role 3 = false := by rw [S.may_eq]; simp [S.least]; omega
      have q1 : role ≥ 1 := by omega
      have q2 : ¬ role ≤ 4 := by omega
      rw [e]
      clear h e
      go_enter Tryd.func10, Tryd.ntmps10
      go_wp2
      go_ret
      exact ⟨rfl, rfl⟩
  · subst hop
    rcases (by omega : (1 ≤ role ∧ role ≤ 4) ∨ role < 1 ∨ 4 < role) with h | h | h
    · have e : S.may role 4 = true := by rw [S.may_eq]; simp [S.least]; omega
      have q1 : role ≥ 1 := by omega
      have q2 : role ≤ 4 := by omega
      rw [e]
      clear h e
      go_enter Tryd.func10, Tryd.ntmps10
      go_wp2
      go_ret
      exact ⟨rfl, rfl⟩
    · have e : S.may role 4 = false := by rw [S.may_eq]; simp [S.least]; omega
      have q1 : ¬ role ≥ 1 := by omega
      rw [e]
      clear h e
      go_enter Tryd.func10, Tryd.ntmps10
      go_wp2
      go_ret
      exact ⟨rfl, rfl⟩
    · have e : S.may role 4 = false := by rw [S.may_eq]; simp [S.least]; omega
      have q1 : role ≥ 1 := by omega
      have q2 : ¬ role ≤ 4 := by omega
      rw [e]
      clear h e
      go_enter Tryd.func10, Tryd.ntmps10
      go_wp2
      go_ret
      exact ⟨rfl, rfl⟩
  · subst hop
    rcases (by omega : (1 ≤ role ∧ role ≤ 4) ∨ role < 1 ∨ 4 < role) with h | h | h
    · have e : S.may role 5 = true := by rw [S.may_eq]; simp [S.least]; omega
      have q1 : role ≥ 1 := by omega
      have q2 : role ≤ 4 := by omega
      rw [e]
      clear h e
      go_enter Tryd.func10, Tryd.ntmps10
      go_wp2
      go_ret
      exact ⟨rfl, rfl⟩
    · have e : S.may role 5 = false := by rw [S.may_eq]; simp [S.least]; omega
      have q1 : ¬ role ≥ 1 := by omega
      rw [e]
      clear h e
      go_enter Tryd.func10, Tryd.ntmps10
      go_wp2
      go_ret
      exact ⟨rfl, rfl⟩
    · have e : S.may role 5 = false := by rw [S.may_eq]; simp [S.least]; omega
      have q1 : role ≥ 1 := by omega
      have q2 : ¬ role ≤ 4 := by omega
      rw [e]
      clear h e
      go_enter Tryd.func10, Tryd.ntmps10
      go_wp2
      go_ret
      exact ⟨rfl, rfl⟩
  · subst hop
    rcases (by omega : (2 ≤ role ∧ role ≤ 4) ∨ role < 2 ∨ 4 < role) with h | h | h
    · have e : S.may role 1 = true := by rw [S.may_eq]; simp [S.least]; omega
      have q1 : role ≥ 2 := by omega
      have q2 : role ≤ 4 := by omega
      rw [e]
      clear h e
      go_enter Tryd.func10, Tryd.ntmps10
      go_wp2
      go_ret
      exact ⟨rfl, rfl⟩
    · have e : S.may role 1 = false := by rw [S.may_eq]; simp [S.least]; omega
      have q1 : ¬ role ≥ 2 := by omega
      rw [e]
      clear h e
      go_enter Tryd.func10, Tryd.ntmps10
      go_wp2
      go_ret
      exact ⟨rfl, rfl⟩
    · have e : S.may role 1 = false := by rw [S.may_eq]; simp [S.least]; omega
      have q1 : role ≥ 2 := by omega
      have q2 : ¬ role ≤ 4 := by omega
      rw [e]
      clear h e
      go_enter Tryd.func10, Tryd.ntmps10
      go_wp2
      go_ret
      exact ⟨rfl, rfl⟩
  · subst hop
    rcases (by omega : (3 ≤ role ∧ role ≤ 4) ∨ role < 3 ∨ 4 < role) with h | h | h
    · have e : S.may role 7 = true := by rw [S.may_eq]; simp [S.least]; omega
      have q1 : role ≥ 3 := by omega
      have q2 : role ≤ 4 := by omega
      rw [e]
      clear h e
      go_enter Tryd.func10, Tryd.ntmps10
      go_wp2
      go_ret
      exact ⟨rfl, rfl⟩
    · have e : S.may role 7 = false := by rw [S.may_eq]; simp [S.least]; omega
      have q1 : ¬ role ≥ 3 := by omega
      rw [e]
      clear h e
      go_enter Tryd.func10, Tryd.ntmps10
      go_wp2
      go_ret
      exact ⟨rfl, rfl⟩
    · have e : S.may role 7 = false := by rw [S.may_eq]; simp [S.least]; omega
      have q1 : role ≥ 3 := by omega
      have q2 : ¬ role ≤ 4 := by omega
      rw [e]
      clear h e
      go_enter Tryd.func10, Tryd.ntmps10
      go_wp2
      go_ret
      exact ⟨rfl, rfl⟩
  · subst hop
    rcases (by omega : (3 ≤ role ∧ role ≤ 4) ∨ role < 3 ∨ 4 < role) with h | h | h
    · have e : S.may role 8 = true := by rw [S.may_eq]; simp [S.least]; omega
      have q1 : role ≥ 3 := by omega
      have q2 : role ≤ 4 := by omega
      rw [e]
      clear h e
      go_enter Tryd.func10, Tryd.ntmps10
      go_wp2
      go_ret
      exact ⟨rfl, rfl⟩
    · have e : S.may role 8 = false := by rw [S.may_eq]; simp [S.least]; omega
      have q1 : ¬ role ≥ 3 := by omega
      rw [e]
      clear h e
      go_enter Tryd.func10, Tryd.ntmps10
      go_wp2
      go_ret
      exact ⟨rfl, rfl⟩
    · have e : S.may role 8 = false := by rw [S.may_eq]; simp [S.least]; omega
      have q1 : role ≥ 3 := by omega
      have q2 : ¬ role ≤ 4 := by omega
      rw [e]
      clear h e
      go_enter Tryd.func10, Tryd.ntmps10
      go_wp2
      go_ret
      exact ⟨rfl, rfl⟩
  · subst hop
    rcases (by omega : (3 ≤ role ∧ role ≤ 4) ∨ role < 3 ∨ 4 < role) with h | h | h
    · have e : S.may role 9 = true := by rw [S.may_eq]; simp [S.least]; omega
      have q1 : role ≥ 3 := by omega
      have q2 : role ≤ 4 := by omega
      rw [e]
      clear h e
      go_enter Tryd.func10, Tryd.ntmps10
      go_wp2
      go_ret
      exact ⟨rfl, rfl⟩
    · have e : S.may role 9 = false := by rw [S.may_eq]; simp [S.least]; omega
      have q1 : ¬ role ≥ 3 := by omega
      rw [e]
      clear h e
      go_enter Tryd.func10, Tryd.ntmps10
      go_wp2
      go_ret
      exact ⟨rfl, rfl⟩
    · have e : S.may role 9 = false := by rw [S.may_eq]; simp [S.least]; omega
      have q1 : role ≥ 3 := by omega
      have q2 : ¬ role ≤ 4 := by omega
      rw [e]
      clear h e
      go_enter Tryd.func10, Tryd.ntmps10
      go_wp2
      go_ret
      exact ⟨rfl, rfl⟩
  · subst hop
    rcases (by omega : (4 ≤ role ∧ role ≤ 4) ∨ role < 4 ∨ 4 < role) with h | h | h
    · have e : S.may role 6 = true := by rw [S.may_eq]; simp [S.least]; omega
      have q1 : role ≥ 4 := by omega
      have q2 : role ≤ 4 := by omega
      rw [e]
      clear h e
      go_enter Tryd.func10, Tryd.ntmps10
      go_wp2
      go_ret
      exact ⟨rfl, rfl⟩
    · have e : S.may role 6 = false := by rw [S.may_eq]; simp [S.least]; omega
      have q1 : ¬ role ≥ 4 := by omega
      rw [e]
      clear h e
      go_enter Tryd.func10, Tryd.ntmps10
      go_wp2
      go_ret
      exact ⟨rfl, rfl⟩
    · have e : S.may role 6 = false := by rw [S.may_eq]; simp [S.least]; omega
      have q1 : role ≥ 4 := by omega
      have q2 : ¬ role ≤ 4 := by omega
      rw [e]
      clear h e
      go_enter Tryd.func10, Tryd.ntmps10
      go_wp2
      go_ret
      exact ⟨rfl, rfl⟩
  · subst hop
    rcases (by omega : (4 ≤ role ∧ role ≤ 4) ∨ role < 4 ∨ 4 < role) with h | h | h
    · have e : S.may role 10 = true := by rw [S.may_eq]; simp [S.least]; omega
      have q1 : role ≥ 4 := by omega
      have q2 : role ≤ 4 := by omega
      rw [e]
      clear h e
      go_enter Tryd.func10, Tryd.ntmps10
      go_wp2
      go_ret
      exact ⟨rfl, rfl⟩
    · have e : S.may role 10 = false := by rw [S.may_eq]; simp [S.least]; omega
      have q1 : ¬ role ≥ 4 := by omega
      rw [e]
      clear h e
      go_enter Tryd.func10, Tryd.ntmps10
      go_wp2
      go_ret
      exact ⟨rfl, rfl⟩
    · have e : S.may role 10 = false := by rw [S.may_eq]; simp [S.least]; omega
      have q1 : role ≥ 4 := by omega
      have q2 : ¬ role ≤ 4 := by omega
      rw [e]
      clear h e
      go_enter Tryd.func10, Tryd.ntmps10
      go_wp2
      go_ret
      exact ⟨rfl, rfl⟩
  · subst hop
    rcases (by omega : (4 ≤ role ∧ role ≤ 4) ∨ role < 4 ∨ 4 < role) with h | h | h
    · have e : S.may role 11 = true := by rw [S.may_eq]; simp [S.least]; omega
      have q1 : role ≥ 4 := by omega
      have q2 : role ≤ 4 := by omega
      rw [e]
      clear h e
      go_enter Tryd.func10, Tryd.ntmps10
      go_wp2
      go_ret
      exact ⟨rfl, rfl⟩
    · have e : S.may role 11 = false := by rw [S.may_eq]; simp [S.least]; omega
      have q1 : ¬ role ≥ 4 := by omega
      rw [e]
      clear h e
      go_enter Tryd.func10, Tryd.ntmps10
      go_wp2
      go_ret
      exact ⟨rfl, rfl⟩
    · have e : S.may role 11 = false := by rw [S.may_eq]; simp [S.least]; omega
      have q1 : role ≥ 4 := by omega
      have q2 : ¬ role ≤ 4 := by omega
      rw [e]
      clear h e
      go_enter Tryd.func10, Tryd.ntmps10
      go_wp2
      go_ret
      exact ⟨rfl, rfl⟩
  · subst hop
    rcases (by omega : (4 ≤ role ∧ role ≤ 4) ∨ role < 4 ∨ 4 < role) with h | h | h
    · have e : S.may role 12 = true := by rw [S.may_eq]; simp [S.least]; omega
      have q1 : role ≥ 4 := by omega
      have q2 : role ≤ 4 := by omega
      rw [e]
      clear h e
      go_enter Tryd.func10, Tryd.ntmps10
      go_wp2
      go_ret
      exact ⟨rfl, rfl⟩
    · have e : S.may role 12 = false := by rw [S.may_eq]; simp [S.least]; omega
      have q1 : ¬ role ≥ 4 := by omega
      rw [e]
      clear h e
      go_enter Tryd.func10, Tryd.ntmps10
      go_wp2
      go_ret
      exact ⟨rfl, rfl⟩
    · have e : S.may role 12 = false := by rw [S.may_eq]; simp [S.least]; omega
      have q1 : role ≥ 4 := by omega
      have q2 : ¬ role ≤ 4 := by omega
      rw [e]
      clear h e
      go_enter Tryd.func10, Tryd.ntmps10
      go_wp2
      go_ret
      exact ⟨rfl, rfl⟩
  · obtain ⟨n2, n3, n4, n5, n1, n7, n8, n9, n6, n10, n11, n12⟩ := hop
    have e : S.may role op = false := by rw [S.may_eq]; simp [S.least, n2, n3, n4, n5, n1, n7, n8, n9, n6, n10, n11, n12]
    rw [e]
    have b2 : (op == 2) = false := by simp [n2]
    have b3 : (op == 3) = false := by simp [n3]
    have b4 : (op == 4) = false := by simp [n4]
    have b5 : (op == 5) = false := by simp [n5]
    have b1 : (op == 1) = false := by simp [n1]
    have b7 : (op == 7) = false := by simp [n7]
    have b8 : (op == 8) = false := by simp [n8]
    have b9 : (op == 9) = false := by simp [n9]
    have b6 : (op == 6) = false := by simp [n6]
    have b10 : (op == 10) = false := by simp [n10]
    have b11 : (op == 11) = false := by simp [n11]
    have b12 : (op == 12) = false := by simp [n12]
    clear e n2 n3 n4 n5 n1 n7 n8 n9 n6 n10 n11 n12
    go_enter Tryd.func10, Tryd.ntmps10
    go_wp2
    go_ret
    exact ⟨rfl, rfl⟩
end Go.Proofs.YtkdpdkfhhpekaaaDoor
