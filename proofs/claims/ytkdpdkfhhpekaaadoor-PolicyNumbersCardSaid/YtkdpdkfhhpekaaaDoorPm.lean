/- PolicyNumbers. -/
import Derived.Test.YtkdpdkfhhpekaaaDoorPl
namespace Go.Proofs.YtkdpdkfhhpekaaaDoor
open Go.RowKit

/-- How many operations below op a role may. -/
def S.cnt (role op : Int) : Nat := ((S.ops role).filter (fun y => decide (y < op))).length
theorem S.table : ∀ i : Fin 8, ∀ j : Fin 16, (S.may ((i.val : Int) - 1) ((j.val : Int) - 1) = true → S.cnt ((i.val : Int) - 1) ((j.val : Int) - 1) < (S.ops ((i.val : Int) - 1)).length ∧ (S.ops ((i.val : Int) - 1)).getD (S.cnt ((i.val : Int) - 1) ((j.val : Int) - 1)) 0 = (j.val : Int) - 1 ∧ S.cnt ((i.val : Int) - 1) (j.val : Int) = S.cnt ((i.val : Int) - 1) ((j.val : Int) - 1) + 1) ∧ (S.may ((i.val : Int) - 1) ((j.val : Int) - 1) = false → S.cnt ((i.val : Int) - 1) (j.val : Int) = S.cnt ((i.val : Int) - 1) ((j.val : Int) - 1)) := by decide +kernel
theorem S.table_end : ∀ i : Fin 8, S.cnt ((i.val : Int) - 1) 15 = (S.ops ((i.val : Int) - 1)).length ∧ S.cnt ((i.val : Int) - 1) (-1) = 0 := by decide +kernel
theorem S.cnt_next {role op : Int} (h1 : -1 ≤ role) (h2 : role < 7) (h3 : -1 ≤ op) (h4 : op < 15) :
    (S.may role op = true → S.cnt role op < (S.ops role).length ∧ (S.ops role).getD (S.cnt role op) 0 = op ∧ S.cnt role (op + 1) = S.cnt role op + 1) ∧ (S.may role op = false → S.cnt role (op + 1) = S.cnt role op) := by
  have h := S.table ⟨(role + 1).toNat, by omega⟩ ⟨(op + 1).toNat, by omega⟩
  simp only at h
  rw [show (((role + 1).toNat : Nat) : Int) - 1 = role by omega, show (((op + 1).toNat : Nat) : Int) - 1 = op by omega, show (((op + 1).toNat : Nat) : Int) = op + 1 by omega] at h
  exact h
theorem S.cnt_end {role : Int} (h1 : -1 ≤ role) (h2 : role < 7) : S.cnt role 15 = (S.ops role).length ∧ S.cnt role (-1) = 0 := by
  have h := S.table_end ⟨(role + 1).toNat, by omega⟩
  simp only at h
  rw [show (((role + 1).toNat : Nat) : Int) - 1 = role by omega] at h
  exact h
set_option maxHeartbeats 6400000 in
set_option maxRecDepth 100000 in
theorem policyNumbers_walk (w : World) (hp : PowAt w) (he : ErrT w) :
   Calls Tryd.prog 3 #[] w fun e w' => e = .returned (.bool true) ∧ Below w.heap.size w w' := by
  have HP := hide hp
  have HE := hide he
  clear hp he
  have BB : Hid (Below w.heap.size w w) := Below.refl _ _
  go_enter Tryd.func3, Tryd.ntmps3
  go_wp2_with fail
  go_loopw [1] (fun s1 wr => ∃ role : Int, s1 = .int .i64 role ∧ -1 ≤ role ∧ role ≤ 7 ∧ Hid (Below w.heap.size w wr)) (fun s1 _ => (7 - intOf s1).toNat)
  case atStart => exact ⟨-1, rfl, by omega, by omega, BB⟩
  case round =>
    obtain ⟨role, rfl, r1, r2, B1⟩ := hrel
    clear BB
    by_cases h7 : role < 7
    · have CE := hide (S.cnt_end r1 h7)
      have qr : IntKind.i64.wrap (role + 1) = role + 1 := by rw [IntKind.wrap_i64]; omega
      go_wp2_with fail
      refine (ops_any role wr).mono ?_
      rintro e w3 ⟨v, rfl, hu, -, hb⟩
      have B2 := hide (B1.out.trans (hb.mono B1.out.size))
      have HL := hide (S.ops_length role)
      have HS := hide (hu.sliceAt (by have := S.ops_length role; omega))
      obtain ⟨ao2, c2, rfl⟩ := hu.shape
      obtain ⟨n2, hn2⟩ : ∃ n2, n2 = (S.ops role).length := ⟨_, rfl⟩
      rw [← hn2] at HL CE HS ⊢
      have HN := hide hn2
      clear hb hu B1 hn2
      go_wp2_with fail
      go_loopw [3, 4] (fun s3 s4 wr => ∃ op : Int, s4 = .int .i64 op ∧ -1 ≤ op ∧ op ≤ 15 ∧ s3 = .int .i64 (S.cnt role op : Int) ∧ Hid (Below w.heap.size w wr) ∧ Hid (Below w3.heap.size w3 wr)) (fun _ s4 _ => (15 - intOf s4).toNat)
      case atStart => exact ⟨-1, rfl, by omega, by omega, by rw [CE.out.2]; rfl, B2, hide (Below.refl _ _)⟩
      case round =>
        obtain ⟨op, rfl, o1, o2, rfl, B3, BS⟩ := hrel
        clear B2
        by_cases h15 : op < 15
        · have CN := hide (S.cnt_next r1 h7 o1 h15)
          obtain ⟨k, hk⟩ : ∃ k, k = S.cnt role op := ⟨_, rfl⟩
          rw [← hk] at CN ⊢
          have qo : IntKind.i64.wrap (op + 1) = op + 1 := by rw [IntKind.wrap_i64]; omega
          clear hk
          obtain ⟨b, hb⟩ : ∃ b, b = S.may role op := ⟨_, rfl⟩
          rw [← hb, ← HN.out] at CN
          have HB := hide hb
          clear hb
          go_wp2_with fail
          refine (may_any role op wr).mono ?_
          rintro e w4 ⟨rfl, hb4⟩
          rw [← HB.out]
          have B4 := hide (B3.out.trans (hb4.mono B3.out.size))
          have BS4 := hide (BS.out.trans (hb4.mono BS.out.size))
          clear hb4 B3 BS
          go_wp2_with fail
          refine (rmay_any role op w4).mono ?_
          rintro e w5 ⟨rfl, rfl⟩
          rw [← HB.out]
          cases b with
          | false =>
            have e2 := CN.out.2 rfl
            go_wp2_with fail
            refine (rmay_any role op w4).mono ?_
            rintro e w5 ⟨rfl, rfl⟩
            rw [← HB.out]
            have CX := hide e2
            clear e2 CN
            go_wp2_with fail
            go_roundw
            case rel => exact ⟨op + 1, by first | rfl | simp, by omega, by omega, by rw [CX.out], B4, BS4⟩
            case measure => simp [intOf]; omega
          | true =>
            obtain ⟨e1, e3, e2⟩ := CN.out.1 rfl
            have CX := hide e2
            have q1 : ¬ (k : Int) ≥ (n2 : Int) := by omega
            have q1' : (k : Int) < (n2 : Int) := by omega
            have q0 : (0 : Int) ≤ (k : Int) := by omega
            have qk : IntKind.i64.wrap ((k : Int) + 1) = (k : Int) + 1 := by rw [IntKind.wrap_i64]; have := HL.out; omega
            have HS2 : Hid (SliceAt w4 (.slice ao2 n2 c2) (S.ops role)) := hide (HS.out.below BS4.out (Nat.le_refl _))
            obtain ⟨g, off, eg, -, -, hc⟩ := HS2.out.src (by rw [← HN.out]; omega)
            subst eg
            have c0 := hc k (by rw [← HN.out]; exact e1)
            rw [e3] at c0
            clear hc e2 e3 CN
            go_wp2_with fail
            refine (rmay_any role op w4).mono ?_
            rintro e w5 ⟨rfl, rfl⟩
            rw [← HB.out]
            have bo : (op != op) = false := by simp
            have bo2 : (op == op) = true := by simp
            go_wp2_with fail
            go_roundw
            case rel => exact ⟨op + 1, by first | rfl | simp, by omega, by omega, by rw [CX.out]; first | rfl | simp, B4, BS4⟩
            case measure => simp [intOf]; omega
        · obtain rfl : op = 15 := by omega
          rw [CE.out.1]
          have bo : ((n2 : Int) != (n2 : Int)) = false := by simp
          have bo2 : ((n2 : Int) == (n2 : Int)) = true := by simp
          go_wp2_with fail
          go_roundw
          case rel => exact ⟨role + 1, by first | rfl | simp, by omega, by omega, B3⟩
          case measure => simp [intOf]; omega
    · obtain rfl : role = 7 := by omega
      go_wp2_with fail
      refine (decide_any 4 1 1 2 wr).mono ?_
      rintro e w3 ⟨hd, hb3⟩
      rw [show S.decide_ 4 1 1 2 = true by decide] at hd
      obtain ⟨-, rfl⟩ | ⟨hs, -⟩ := hd
      rotate_left
      · cases hs
      have B3 := hide (B1.out.trans (hb3.mono B1.out.size))
      clear hb3 B1
      go_wp2_with fail
      refine (ops_any 1 w3).mono ?_
      rintro e w4 ⟨v, rfl, hu, -, hb⟩
      obtain ⟨ao2, c2, rfl⟩ := hu.shape
      have e1 : S.ops 1 = [2, 3, 4, 5] := by decide
      rw [e1] at hu ⊢
      have B4 := hide (B3.out.trans (hb.mono B3.out.size))
      have HS := hide (hu.sliceAt (by decide))
      clear hb hu B3 e1
      go_wp2_with fail
      generalize hW : w4.alloc _ = W4
      have B5 : Below w4.heap.size w4 W4 := by rw [← hW]; exact (Below.refl _ _).alloc (Nat.le_refl _) _
      have HS5 := hide (HS.out.below B5 (Nat.le_refl _))
      have HL5 := hide (show SliceAt W4 (.slice (some ⟨w4.heap.size, 0, none⟩) 4 4) [2, 3, 4, 5] by rw [← hW]; exact lit_at w4 [2, 3, 4, 5] 4 rfl (by decide))
      have B6 := hide (B4.out.trans (B5.mono B4.out.size))
      clear hW B5 B4 HS
      refine (same_any _ _ [2, 3, 4, 5] W4 HS5.out HL5.out).mono ?_
      rintro e w6 ⟨rfl, hst⟩
      have B7 := hide (B6.out.trans ((hst.below _).mono B6.out.size))
      clear hst B6
      go_wp2_with fail
      refine (ops_any 9 w6).mono ?_
      rintro e w7 ⟨v, rfl, hu, -, hb⟩
      obtain ⟨ao3, c3, rfl⟩ := hu.shape
      rw [show (S.ops 9).length = 0 by decide]
      have B8 := hide (B7.out.trans (hb.mono B7.out.size))
      clear hb hu B7
      go_wp2_with fail
      refine (known_any w7 (HP.out.below B8.out) (HE.out.below B8.out)).mono ?_
      rintro e wk ⟨rfl, hbk⟩
      have BK := hide (B8.out.trans (hbk.mono B8.out.size))
      clear hbk
      go_wp2_with fail
      go_ret
      exact ⟨rfl, BK.out⟩
end Go.Proofs.YtkdpdkfhhpekaaaDoor
