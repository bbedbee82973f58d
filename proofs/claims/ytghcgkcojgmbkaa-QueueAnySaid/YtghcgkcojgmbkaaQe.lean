/- The chapter's runs: known. -/
import Derived.Test.YtghcgkcojgmbkaaQd
namespace Go.Proofs.Ytghcgkcojgmbkaa
open Go.RowKit
abbrev QS (w : World) (g : Nat) (v : Value) (xs : List ByteArray) : Prop := QAt 65 9 1 encS g w g v xs
abbrev QI (w : World) (g : Nat) (v : Value) (xs : List Int) : Prop := QAt 58 3 1 encI g w g v xs
theorem QS.run {w w' : World} {g : Nat} {v v' : Value} {xs : List ByteArray} (h : QS w g v xs) (t : QTo w g v w' v') : Below g w w' := t.below (Nat.le_of_lt h.g_lt) (Nat.le_refl _) (fun _ hj => h.v_ge hj)
theorem QI.run {w w' : World} {g : Nat} {v v' : Value} {xs : List Int} (h : QI w g v xs) (t : QTo w g v w' v') : Below g w w' := t.below (Nat.le_of_lt h.g_lt) (Nat.le_refl _) (fun _ hj => h.v_ge hj)
def sa : ByteArray := { data := #[97] }
def sb : ByteArray := { data := #[98] }
theorem k1 : S.pushA ([] : List ByteArray) sa = (0, false, 0) := by kernel_rfl
theorem l1 : S.pushL ([] : List ByteArray) sa = [sa] := by kernel_rfl
theorem k2 : S.pushA [sa] sb = (1, false, 0) := by kernel_rfl
theorem l2 : S.pushL [sa] sb = [sa, sb] := by kernel_rfl
theorem k3 : S.pushA [sa, sb] sa = (0, true, 0) := by kernel_rfl
theorem l3 : S.pushL [sa, sb] sa = [sa, sb] := by kernel_rfl
theorem m4 : S.many [sa, sb] 1 = 1 := by kernel_rfl
theorem k5 : S.placeA [sb] sb = (0, true) := by kernel_rfl

set_option maxHeartbeats 1600000 in
set_option maxRecDepth 100000 in
theorem known_any (w : World) : Calls Try.prog 13 #[] w fun e w' => e = .returned (.bool true) ∧ Below w.heap.size w w' := by
  go_enter Try.func13, Try.ntmps13
  go_wp2_with fail
  go_at_call 18
  refine (newS_any w).mono ?_
  rintro e w1 ⟨rfl, hq, hb⟩
  have Q1 := hide hq
  have B1 := hide hb
  clear hq hb
  go_wp2_with fail
  go_at_call 20
  rw [show ({ data := #[97] } : ByteArray) = sa from rfl]
  refine (pushS_any w.heap.size w1 w.heap.size _ [] sa Q1.out (Nat.le_of_lt Q1.out.g_lt)).mono ?_
  rintro e w2 ⟨v2, rfl, hq, ht⟩
  rw [k1]
  rw [l1] at hq
  have Q2 := hide hq
  have B2 := hide (B1.out.trans (QS.run Q1.out ht))
  clear hq ht
  go_wp2_with fail
  go_at_call 20
  rw [show ({ data := #[98] } : ByteArray) = sb from rfl]
  refine (pushS_any w.heap.size w2 w.heap.size v2 [sa] sb Q2.out (Nat.le_of_lt Q2.out.g_lt)).mono ?_
  rintro e w3 ⟨v3, rfl, hq, ht⟩
  rw [k2]
  rw [l2] at hq
  have Q3 := hide hq
  have B3 := hide (B2.out.trans (QS.run Q2.out ht))
  clear hq ht
  go_wp2_with fail
  go_at_call 20
  rw [show ({ data := #[97] } : ByteArray) = sa from rfl]
  refine (pushS_any w.heap.size w3 w.heap.size v3 [sa, sb] sa Q3.out (Nat.le_of_lt Q3.out.g_lt)).mono ?_
  rintro e w4 ⟨v4, rfl, hq, ht⟩
  rw [k3]
  rw [l3] at hq
  have Q4 := hide hq
  have B4 := hide (B3.out.trans (QS.run Q3.out ht))
  clear hq ht
  go_wp2_with fail
  go_at_call 22
  refine (takeS_any w.heap.size w4 w.heap.size v4 [sa, sb] 1 Q4.out).mono ?_
  rintro e w5 ⟨u, v5, rfl, hu, hq, ht, -⟩
  rw [m4] at hu hq
  obtain ⟨gu, cu, rfl, hgu, _, hru⟩ := hu.at_ (lenS _) 0 sa rfl
  have U5 : Hid (w5.cell? ⟨gu, 0, none⟩ = some (.string sa)) := hru 0 _ rfl
  have GU := hide hgu
  have Q5 := hide (show QS w5 w.heap.size v5 [sb] from hq)
  have B5 := hide (B4.out.trans (QS.run Q4.out ht))
  clear hq ht hu hru hgu
  go_wp2_with fail
  go_at_call 29
  rw [show ({ data := #[98] } : ByteArray) = sb from rfl]
  refine (placeS_any w.heap.size w5 w.heap.size v5 [sb] sb Q5.out).mono ?_
  rintro e w6 ⟨rfl, hb⟩
  rw [k5]
  have c6 : w6.cell? ⟨gu, 0, none⟩ = some (.string { data := #[97] }) := (World.cell?_of_block (hb.block gu GU.out)).trans U5.out
  have B6 := hide (B5.out.trans (hb.mono B5.out.size))
  clear hb
  go_wp2
  go_ret
  exact ⟨rfl, B6.out⟩

end Go.Proofs.Ytghcgkcojgmbkaa
