/- The document's own answers; a number brought into bounds; chapter 17's runs. -/
import Derived.Test.YtldkkgdkjddohaaLb
namespace Go.Proofs.Ytldkkgdkjddohaa
open Go.RowKit
namespace S
/-- The document's own words of what may follow. -/
def rmay (a c b : Int) : Bool := if a = 1 then c == 2 || c == 3 else if a = 2 then c == 1 || c == 3 || c == 4 else if a = 3 then c == 2 || (c == 4 && b == 0) else false
theorem rmay_eq (a c b : Int) : rmay a c b = may a c b := by
  unfold rmay may nxt
  by_cases h1 : a = 1
  · rw [Bool.eq_iff_iff]; simp [h1]
  by_cases h2 : a = 2
  · rw [Bool.eq_iff_iff]; simp [h2, or_assoc]
  by_cases h3 : a = 3
  · by_cases hb : b = 0
    · rw [Bool.eq_iff_iff]; simp [h3, hb]
    · rw [Bool.eq_iff_iff]; simp [h3, hb]
  · simp [h1, h2, h3]
/-- A number brought between 0 and hi. -/
def within (n hi : Int) : Nat := (if n.tmod (hi + 1) < 0 then n.tmod (hi + 1) + (hi + 1) else n.tmod (hi + 1)).toNat
theorem within_le (n hi : Int) (h : 0 ≤ hi) : (within n hi : Int) ≤ hi := by
  have hb1 : n.tmod (hi + 1) < hi + 1 := Int.tmod_lt_of_pos _ (by omega)
  unfold within
  split <;> omega
end S
set_option maxHeartbeats 400000 in
theorem within_any (n hi : Int) (w : World) (h3 : 0 ≤ hi) (h4 : hi ≤ 140737488355328) :
   Calls Try.prog 17 #[.int .i64 n, .int .i64 0, .int .i64 hi] w fun e w' => e = .returned (.int .i64 (S.within n hi : Int)) ∧ w = w' := by
  have hb1 : n.tmod (hi + 1) < hi + 1 := Int.tmod_lt_of_pos _ (by omega)
  have hb2 : -(hi + 1) < n.tmod (hi + 1) := Int.lt_tmod_of_pos n (show (0 : Int) < hi + 1 by omega)
  have hne : ¬ hi + 1 = 0 := by omega
  have key : ∀ r : Int, (n.tmod (hi + 1) < 0 → r = n.tmod (hi + 1) + (hi + 1)) → (¬ n.tmod (hi + 1) < 0 → r = n.tmod (hi + 1)) → r = (S.within n hi : Int) := fun r h5 h6 => by
    unfold S.within
    split
    · rename_i h; have := h5 h; omega
    · rename_i h; have := h6 h; omega
  have K := hide key
  clear key
  go_enter Try.func17, Try.ntmps17
  go_wp2
  · go_ret
    exact ⟨congrArg (fun r : Int => Ending.returned (.int .i64 r)) (K.out _ (fun _ => by omega) (fun _ => by omega)), rfl⟩
  · go_ret
    exact ⟨congrArg (fun r : Int => Ending.returned (.int .i64 r)) (K.out _ (fun _ => by omega) (fun _ => by omega)), rfl⟩

set_option maxHeartbeats 1600000 in
theorem refmay_is (a c b : Int) (w : World) :
   Calls Try.prog 10 #[.int .i64 a, .int .i64 c, .int .i64 b] w fun e w' => e = .returned (.bool (S.rmay a c b)) ∧ w = w' := by
  by_cases ha1 : a = 1
  · subst ha1
    by_cases hc2 : c = 2
    · subst hc2
      have HR : Hid (S.rmay 1 2 b = true) := by show _ = _; simp_all [S.rmay]
      go_enter Try.func10, Try.ntmps10
      go_wp2
      go_ret
      exact ⟨by rw [HR.out]; rfl, rfl⟩
    · have ec2 : (c == 2) = false := by simpa using hc2
      by_cases hc3 : c = 3
      · subst hc3
        have HR : Hid (S.rmay 1 3 b = true) := by show _ = _; simp_all [S.rmay]
        go_enter Try.func10, Try.ntmps10
        go_wp2
        go_ret
        exact ⟨by rw [HR.out]; rfl, rfl⟩
      · have ec3 : (c == 3) = false := by simpa using hc3
        have HR : Hid (S.rmay 1 c b = false) := by show _ = _; simp_all [S.rmay]
        go_enter Try.func10, Try.ntmps10
        go_wp2
        go_ret
        exact ⟨by rw [HR.out]; rfl, rfl⟩
  by_cases ha2 : a = 2
  · subst ha2
    by_cases hc1 : c = 1
    · subst hc1
      have HR : Hid (S.rmay 2 1 b = true) := by show _ = _; simp_all [S.rmay]
      go_enter Try.func10, Try.ntmps10
      go_wp2
      go_ret
      exact ⟨by rw [HR.out]; rfl, rfl⟩
    · have ec1 : (c == 1) = false := by simpa using hc1
      by_cases hc3 : c = 3
      · subst hc3
        have HR : Hid (S.rmay 2 3 b = true) := by show _ = _; simp_all [S.rmay]
        go_enter Try.func10, Try.ntmps10
        go_wp2
        go_ret
        exact ⟨by rw [HR.out]; rfl, rfl⟩
      · have ec3 : (c == 3) = false := by simpa using hc3
        by_cases hc4 : c = 4
        · subst hc4
          have HR : Hid (S.rmay 2 4 b = true) := by show _ = _; simp_all [S.rmay]
          go_enter Try.func10, Try.ntmps10
          go_wp2
          go_ret
          exact ⟨by rw [HR.out]; rfl, rfl⟩
        · have ec4 : (c == 4) = false := by simpa using hc4
          have HR : Hid (S.rmay 2 c b = false) := by show _ = _; simp_all [S.rmay]
          go_enter Try.func10, Try.ntmps10
          go_wp2
          go_ret
          exact ⟨by rw [HR.out]; rfl, rfl⟩
  by_cases ha3 : a = 3
  · subst ha3
    by_cases hb0 : b = 0
    · subst hb0
      by_cases hc2 : c = 2
      · subst hc2
        have HR : Hid (S.rmay 3 2 0 = true) := by show _ = _; simp_all [S.rmay]
        go_enter Try.func10, Try.ntmps10
        go_wp2
        go_ret
        exact ⟨by rw [HR.out]; rfl, rfl⟩
      · have ec2 : (c == 2) = false := by simpa using hc2
        by_cases hc4 : c = 4
        · subst hc4
          have HR : Hid (S.rmay 3 4 0 = true) := by show _ = _; simp_all [S.rmay]
          go_enter Try.func10, Try.ntmps10
          go_wp2
          go_ret
          exact ⟨by rw [HR.out]; rfl, rfl⟩
        · have ec4 : (c == 4) = false := by simpa using hc4
          have HR : Hid (S.rmay 3 c 0 = false) := by show _ = _; simp_all [S.rmay]
          go_enter Try.func10, Try.ntmps10
          go_wp2
          go_ret
          exact ⟨by rw [HR.out]; rfl, rfl⟩
    · have eb0 : (b == 0) = false := by simpa using hb0
      by_cases hc2 : c = 2
      · subst hc2
        have HR : Hid (S.rmay 3 2 b = true) := by show _ = _; simp_all [S.rmay]
        go_enter Try.func10, Try.ntmps10
        go_wp2
        go_ret
        exact ⟨by rw [HR.out]; rfl, rfl⟩
      · have ec2 : (c == 2) = false := by simpa using hc2
        by_cases hc4 : c = 4
        · subst hc4
          have HR : Hid (S.rmay 3 4 b = false) := by show _ = _; simp_all [S.rmay]
          go_enter Try.func10, Try.ntmps10
          go_wp2
          go_ret
          exact ⟨by rw [HR.out]; rfl, rfl⟩
        · have ec4 : (c == 4) = false := by simpa using hc4
          have HR : Hid (S.rmay 3 c b = false) := by show _ = _; simp_all [S.rmay]
          go_enter Try.func10, Try.ntmps10
          go_wp2
          go_ret
          exact ⟨by rw [HR.out]; rfl, rfl⟩
  · have e1 : (a == 1) = false := by simpa using ha1
    have e2 : (a == 2) = false := by simpa using ha2
    have e3 : (a == 3) = false := by simpa using ha3
    have HR : Hid (S.rmay a c b = false) := by show _ = _; simp [S.rmay, ha1, ha2, ha3]
    go_enter Try.func10, Try.ntmps10
    go_wp2
    go_ret
    exact ⟨by rw [HR.out]; rfl, rfl⟩
theorem refmay_any (a c b : Int) (w : World) :
   Calls Try.prog 10 #[.int .i64 a, .int .i64 c, .int .i64 b] w fun e w' => e = .returned (.bool (S.may a c b)) ∧ w = w' := by
  rw [← S.rmay_eq]
  exact refmay_is a c b w

set_option maxHeartbeats 800000 in
theorem refserves_any (a : Int) (w : World) : Calls Try.prog 12 #[.int .i64 a] w fun e w' => e = .returned (.bool (S.serves a)) ∧ w = w' := by
  by_cases ha1 : a = 1
  · subst ha1
    have HR : Hid (S.serves 1 = true) := by show _ = _; simp_all [S.serves]
    go_enter Try.func12, Try.ntmps12
    go_wp2
    go_ret
    exact ⟨by rw [HR.out]; rfl, rfl⟩
  · have ea1 : (a == 1) = false := by simpa using ha1
    by_cases ha2 : a = 2
    · subst ha2
      have HR : Hid (S.serves 2 = true) := by show _ = _; simp_all [S.serves]
      go_enter Try.func12, Try.ntmps12
      go_wp2
      go_ret
      exact ⟨by rw [HR.out]; rfl, rfl⟩
    · have ea2 : (a == 2) = false := by simpa using ha2
      by_cases ha3 : a = 3
      · subst ha3
        have HR : Hid (S.serves 3 = true) := by show _ = _; simp_all [S.serves]
        go_enter Try.func12, Try.ntmps12
        go_wp2
        go_ret
        exact ⟨by rw [HR.out]; rfl, rfl⟩
      · have ea3 : (a == 3) = false := by simpa using ha3
        have HR : Hid (S.serves a = false) := by show _ = _; simp_all [S.serves]
        go_enter Try.func12, Try.ntmps12
        go_wp2
        go_ret
        exact ⟨by rw [HR.out]; rfl, rfl⟩

set_option maxHeartbeats 800000 in
theorem refruns_any (a : Int) (w : World) : Calls Try.prog 14 #[.int .i64 a] w fun e w' => e = .returned (.bool (S.runs a)) ∧ w = w' := by
  by_cases ha1 : a = 1
  · subst ha1
    have HR : Hid (S.runs 1 = true) := by show _ = _; simp_all [S.runs]
    go_enter Try.func14, Try.ntmps14
    go_wp2
    go_ret
    exact ⟨by rw [HR.out]; rfl, rfl⟩
  · have ea1 : (a == 1) = false := by simpa using ha1
    by_cases ha3 : a = 3
    · subst ha3
      have HR : Hid (S.runs 3 = true) := by show _ = _; simp_all [S.runs]
      go_enter Try.func14, Try.ntmps14
      go_wp2
      go_ret
      exact ⟨by rw [HR.out]; rfl, rfl⟩
    · have ea3 : (a == 3) = false := by simpa using ha3
      have HR : Hid (S.runs a = false) := by show _ = _; simp_all [S.runs]
      go_enter Try.func14, Try.ntmps14
      go_wp2
      go_ret
      exact ⟨by rw [HR.out]; rfl, rfl⟩

set_option maxHeartbeats 1600000 in
theorem known_any (w : World) : Calls Try.prog 16 #[] w fun e w' => e = .returned (.bool true) ∧ Below w.heap.size w w' := by
  have m1 : Hid (S.may 1 4 0 = false) := by show _ = _; decide
  have m2 : Hid (S.may 3 4 1 = false) := by show _ = _; decide
  have m3 : Hid (S.may 2 4 1 = true) := by show _ = _; decide
  have m4 : Hid (S.nxt 3 0 = [2, 4]) := by show _ = _; decide
  have hbs := bs2
  go_enter Try.func16, Try.ntmps16
  go_wp2_with fail
  go_at_call 9
  refine (may_any 1 4 0 w).mono ?_
  rintro e w1 ⟨rfl, hb⟩
  rw [m1.out]
  have B1 := hide hb
  clear hb
  go_wp2_with fail
  go_at_call 9
  refine (may_any 3 4 1 w1).mono ?_
  rintro e w2 ⟨rfl, hb⟩
  rw [m2.out]
  have B2 := hide (B1.out.trans (hb.mono B1.out.size))
  clear hb B1
  go_wp2_with fail
  go_at_call 9
  refine (may_any 2 4 1 w2).mono ?_
  rintro e w3 ⟨rfl, hb⟩
  rw [m3.out]
  have B3 := hide (B2.out.trans (hb.mono B2.out.size))
  clear hb B2
  go_wp2_with fail
  go_at_call 8
  refine (next_any 3 0 w3).mono ?_
  rintro e w4 ⟨v, rfl, hx, hb⟩
  rw [m4.out] at hx
  have B4 := hide (B3.out.trans (hb.mono B3.out.size))
  have X4 := hide hx
  clear hb hx B3
  go_wp2_with fail
  go_at_call 23
  have B5 : Hid (Below w.heap.size w (w4.alloc (.cells #[.int .i64 2, .int .i64 4] 3))) := B4.out.trans ((one_below _ _).mono B4.out.size)
  have Y5 : Hid (SliceAt (w4.alloc (.cells #[.int .i64 2, .int .i64 4] 3)) v [2, 4]) := (X4.out.below (one_below _ _)).sliceAt (by simp)
  have Z5 : Hid (SliceAt (w4.alloc (.cells #[.int .i64 2, .int .i64 4] 3)) (.slice (some ⟨w4.heap.size, 0, none⟩) 2 2) [2, 4]) := (nx_one w4 [2, 4] 2 rfl).sliceAt (by simp)
  refine (same_any _ _ [2, 4] _ Y5.out Z5.out).mono ?_
  rintro e w5 ⟨rfl, hs⟩
  have B6 := hide (B5.out.trans ((hs.blw _).mono B5.out.size))
  clear hs
  go_wp2
  go_ret
  exact ⟨rfl, B6.out⟩
end Go.Proofs.Ytldkkgdkjddohaa
