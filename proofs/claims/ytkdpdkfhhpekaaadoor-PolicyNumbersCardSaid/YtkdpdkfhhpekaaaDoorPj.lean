/- PolicyDecides. -/
import Derived.Test.YtkdpdkfhhpekaaaDoorPh
namespace Go.Proofs.YtkdpdkfhhpekaaaDoor
open Go.RowKit

set_option maxHeartbeats 1600000 in
theorem policyDecides_walk (role op owner tenant : Int) (w : World) (hr : inWord role) (ho : inWord op) (hp : PowAt w) (he : ErrT w) :
   Calls Tryd.prog 4 #[.int .i64 role, .int .i64 op, .int .i64 owner, .int .i64 tenant] w fun e w' => e = .returned (.bool true) ∧ Below w.heap.size w w' := by
  have HP := hide hp
  have HE := hide he
  clear hp he
  go_enter Tryd.func4, Tryd.ntmps4
  go_wp2_with fail
  refine (decide_any role op owner tenant w).mono ?_
  rintro e w1 ⟨hd, hb1⟩
  have B1 := hide hb1
  clear hb1
  obtain ⟨hs, rfl⟩ | ⟨hs, q, rfl, hrf⟩ := hd
  · have HS := hide hs
    clear hs
    go_wp2_with fail
    refine (may_any role op w1).mono ?_
    rintro e w2 ⟨rfl, hb2⟩
    have B2 := hide (B1.out.trans (hb2.mono B1.out.size))
    clear hb2 B1
    obtain ⟨b, hb⟩ : ∃ b, b = S.may role op := ⟨_, rfl⟩
    have HM := hide hb
    rw [← hb]
    clear hb
    go_wp2_with fail
    refine (rmay_any role op w2).mono ?_
    rintro e w3 ⟨rfl, rfl⟩
    rw [← HM.out]
    have bq : (b != b) = false := by cases b <;> rfl
    have bq2 : (b == b) = true := by cases b <;> rfl
    go_wp2_with fail
    refine (rdecide_any role op owner tenant w2).mono ?_
    rintro e w3 ⟨rfl, rfl⟩
    rw [HS.out]
    go_wp2_with fail
    refine (known_any w2 (HP.out.below B2.out) (HE.out.below B2.out)).mono ?_
    rintro e wk ⟨rfl, hbk⟩
    have BK := hide (B2.out.trans (hbk.mono B2.out.size))
    clear hbk
    go_wp2_with fail
    go_ret
    exact ⟨rfl, BK.out⟩
  · have HS := hide hs
    have HR := hide hrf
    clear hs hrf
    go_wp2_with fail
    refine (may_any role op w1).mono ?_
    rintro e w2 ⟨rfl, hb2⟩
    have B2 := hide (B1.out.trans (hb2.mono B1.out.size))
    have HR2 := hide (HR.out.below hb2)
    clear hb2 B1 HR
    obtain ⟨b, hb⟩ : ∃ b, b = S.may role op := ⟨_, rfl⟩
    have HM := hide hb
    rw [← hb]
    clear hb
    go_wp2_with fail
    refine (rmay_any role op w2).mono ?_
    rintro e w3 ⟨rfl, rfl⟩
    rw [← HM.out]
    have bq : (b != b) = false := by cases b <;> rfl
    have bq2 : (b == b) = true := by cases b <;> rfl
    go_wp2_with fail
    refine (rdecide_any role op owner tenant w2).mono ?_
    rintro e w3 ⟨rfl, rfl⟩
    rw [HS.out]
    go_wp2_with fail
    refine (denied_any q op role w2 HR2.out (HP.out.below B2.out) (HE.out.below B2.out) ho hr).mono ?_
    rintro e w3 ⟨rfl, hb3⟩
    have B3 := hide (B2.out.trans (hb3.mono B2.out.size))
    clear hb3 B2
    go_wp2_with fail
    refine (known_any w3 (HP.out.below B3.out) (HE.out.below B3.out)).mono ?_
    rintro e wk ⟨rfl, hbk⟩
    have BK := hide (B3.out.trans (hbk.mono B3.out.size))
    clear hbk
    go_wp2_with fail
    go_ret
    exact ⟨rfl, BK.out⟩
end Go.Proofs.YtkdpdkfhhpekaaaDoor
