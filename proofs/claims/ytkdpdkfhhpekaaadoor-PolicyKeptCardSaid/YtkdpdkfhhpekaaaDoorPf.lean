/- The document's Decide; the program's Decide. -/
import Derived.Test.YtkdpdkfhhpekaaaDoorPe
namespace Go.Proofs.YtkdpdkfhhpekaaaDoor
open Go.RowKit

set_option maxHeartbeats 1600000 in
theorem rdecide_any (role op owner tenant : Int) (w : World) : Calls Tryd.prog 14 #[.int .i64 role, .int .i64 op, .int .i64 owner, .int .i64 tenant] w fun e w' => e = .returned (.bool (S.decide_ role op owner tenant)) ∧ w = w' := by
  obtain ⟨b, hb⟩ : ∃ b, b = S.may role op := ⟨_, rfl⟩
  obtain ⟨r, hr⟩ : ∃ r, r = S.decide_ role op owner tenant := ⟨_, rfl⟩
  have hr' := hr
  rw [S.decide_, ← hb] at hr'
  have HBB := hide hb
  clear hb
  have HR := hide hr'
  rw [← hr]
  clear hr hr'
  cases b
  · have e : r = false := by rw [HR.out]; rfl
    subst e
    clear HR
    go_enter Tryd.func14, Tryd.ntmps14
    go_wp2_with fail
    refine (rmay_any role op w).mono ?_
    rintro e w1 ⟨rfl, rfl⟩
    rw [← HBB.out]
    go_wp2_with fail
    go_ret
    exact ⟨rfl, rfl⟩
  · by_cases ho : owner = tenant
    · have e : r = true := by rw [HR.out]; simp [ho]
      have q1 : (owner == tenant) = true := by simp [ho]
      clear HR ho
      subst e
      go_enter Tryd.func14, Tryd.ntmps14
      go_wp2_with fail
      refine (rmay_any role op w).mono ?_
      rintro e w1 ⟨rfl, rfl⟩
      rw [← HBB.out]
      go_wp2_with fail
      go_ret
      exact ⟨rfl, rfl⟩
    · have q1 : (owner == tenant) = false := by simp [ho]
      by_cases h4 : role = 4
      · have e : r = true := by rw [HR.out]; simp [h4]
        have q2 : (role == 4) = true := by simp [h4]
        clear HR ho h4
        subst e
        go_enter Tryd.func14, Tryd.ntmps14
        go_wp2_with fail
        refine (rmay_any role op w).mono ?_
        rintro e w1 ⟨rfl, rfl⟩
        rw [← HBB.out]
        go_wp2_with fail
        go_ret
        exact ⟨rfl, rfl⟩
      · have e : r = false := by rw [HR.out]; simp [ho, h4]
        have q2 : (role == 4) = false := by simp [h4]
        clear HR ho h4
        subst e
        go_enter Tryd.func14, Tryd.ntmps14
        go_wp2_with fail
        refine (rmay_any role op w).mono ?_
        rintro e w1 ⟨rfl, rfl⟩
        rw [← HBB.out]
        go_wp2_with fail
        go_ret
        exact ⟨rfl, rfl⟩
/-- What Decide answers. -/
def Dcd (w' : World) (e : Ending) (role op : Int) (r : Bool) : Prop := (r = true ∧ e = .returned .nilIface) ∨ (r = false ∧ ∃ q, e = .returned (.iface 41 (.pointer (some ⟨q, 0, none⟩))) ∧ RefAt w' q op role)
theorem build_ref (w : World) (op role : Int) : (Instr.build 44 #[(0, .int .i64 op), (1, .int .i64 role), (2, .int .i64 21)]).run Tryd.prog w = .ok (.agg #[.int .i64 op, .int .i64 role, .int .i64 21]) w := run_build w 44 _ _ (by kernel_rfl)
set_option maxHeartbeats 1600000 in
theorem decide_any (role op owner tenant : Int) (w : World) : Calls Tryd.prog 11 #[.int .i64 role, .int .i64 op, .int .i64 owner, .int .i64 tenant] w fun e w' => Dcd w' e role op (S.decide_ role op owner tenant) ∧ Below w.heap.size w w' := by
  obtain ⟨b, hb⟩ : ∃ b, b = S.may role op := ⟨_, rfl⟩
  obtain ⟨r, hr⟩ : ∃ r, r = S.decide_ role op owner tenant := ⟨_, rfl⟩
  have hr' := hr
  rw [S.decide_, ← hb] at hr'
  have HBB := hide hb
  clear hb
  have HR := hide hr'
  rw [← hr]
  clear hr hr'
  cases b
  · have e : r = false := by rw [HR.out]; rfl
    clear HR
    subst e
    go_enter Tryd.func11, Tryd.ntmps11
    go_wp2_with fail
    refine (may_any role op w).mono ?_
    rintro e w1 ⟨rfl, hb1⟩
    rw [← HBB.out]
    have HB := hide hb1
    clear hb1
    have bl := build_ref w1 op role
    go_wp2_with fail
    go_ret
    exact ⟨Or.inr ⟨rfl, _, rfl, heap_alloc_new _ _⟩, HB.out.alloc HB.out.size _⟩
  · by_cases ho : owner = tenant
    · have e : r = true := by rw [HR.out]; simp [ho]
      have q1 : (owner == tenant) = true := by simp [ho]
      clear HR ho
      subst e
      go_enter Tryd.func11, Tryd.ntmps11
      go_wp2_with fail
      refine (may_any role op w).mono ?_
      rintro e w1 ⟨rfl, hb1⟩
      rw [← HBB.out]
      have HB := hide hb1
      clear hb1
      go_wp2_with fail
      go_ret
      exact ⟨Or.inl ⟨rfl, rfl⟩, HB.out⟩
    · have q1 : (owner == tenant) = false := by simp [ho]
      by_cases h4 : role = 4
      · have e : r = true := by rw [HR.out]; simp [h4]
        have q2 : (role == 4) = true := by simp [h4]
        clear HR ho h4
        subst e
        go_enter Tryd.func11, Tryd.ntmps11
        go_wp2_with fail
        refine (may_any role op w).mono ?_
        rintro e w1 ⟨rfl, hb1⟩
        rw [← HBB.out]
        have HB := hide hb1
        clear hb1
        go_wp2_with fail
        go_ret
        exact ⟨Or.inl ⟨rfl, rfl⟩, HB.out⟩
      · have e : r = false := by rw [HR.out]; simp [ho, h4]
        have q2 : (role == 4) = false := by simp [h4]
        clear HR ho h4
        subst e
        go_enter Tryd.func11, Tryd.ntmps11
        go_wp2_with fail
        refine (may_any role op w).mono ?_
        rintro e w1 ⟨rfl, hb1⟩
        rw [← HBB.out]
        have HB := hide hb1
        clear hb1
        have bl := build_ref w1 op role
        go_wp2_with fail
        go_ret
        exact ⟨Or.inr ⟨rfl, _, rfl, heap_alloc_new _ _⟩, HB.out.alloc HB.out.size _⟩
end Go.Proofs.YtkdpdkfhhpekaaaDoor
