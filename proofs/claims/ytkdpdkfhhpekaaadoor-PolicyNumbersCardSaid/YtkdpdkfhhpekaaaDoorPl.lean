/- PolicyAll. -/
import Derived.Test.YtkdpdkfhhpekaaaDoorPk
namespace Go.Proofs.YtkdpdkfhhpekaaaDoor
open Go.RowKit

theorem S.owner_all {op : Int} (h1 : 1 ≤ op) (h2 : op ≤ 12) : S.may 4 op = true := by
  rw [S.may_eq, S.least]
  simp
  repeat' split
  all_goals omega
theorem S.has_take {l : List Int} {k : Nat} (hk : k < l.length) (x : Int) : (l.take (k + 1)).contains x = ((l.take k).contains x || (l[k] == x)) := by
  rw [List.take_succ_eq_append_getElem hk, Bool.eq_iff_iff]
  simp only [List.contains_iff_mem, List.mem_append, List.mem_singleton, Bool.or_eq_true, beq_iff_eq]
  exact or_congr_right eq_comm
set_option maxHeartbeats 6400000 in
set_option maxRecDepth 100000 in
theorem policyAll_walk (x : Int) (w : World) (hx : inWord x) (hp : PowAt w) (he : ErrT w) :
   Calls Tryd.prog 7 #[.int .i64 x] w fun e w' => e = .returned (.bool true) ∧ Below w.heap.size w w' := by
  have HP := hide hp
  have HE := hide he
  clear hp he
  obtain ⟨m, hm⟩ : ∃ m, m = S.within x 11 := ⟨_, rfl⟩
  have hm5 : (m : Int) ≤ 11 := by rw [hm]; exact S.within_le x 11 (by omega)
  have HW := hide hm
  clear hm
  obtain ⟨op, hop⟩ : ∃ op : Int, op = 1 + (m : Int) := ⟨_, rfl⟩
  have qm : IntKind.i64.wrap (1 + (m : Int)) = op := by rw [IntKind.wrap_i64]; omega
  have HM := hide (S.owner_all (op := op) (by omega) (by omega))
  clear hm5 hop
  go_enter Tryd.func7, Tryd.ntmps7
  go_wp2_with fail
  refine (within_any x 11 w hx.1 hx.2 (by omega) (by omega)).mono ?_
  rintro e w0 ⟨rfl, rfl⟩
  rw [← HW.out]
  go_wp2_with fail
  refine (may_any 4 op w).mono ?_
  rintro e w1 ⟨rfl, hb⟩
  rw [HM.out]
  have B1 := hide hb
  clear hb qm
  go_wp2_with fail
  refine (ops_any 4 w1).mono ?_
  rintro e w2 ⟨v, rfl, hu, -, hb⟩
  obtain ⟨ao, c, rfl⟩ := hu.shape
  rw [show (S.ops 4).length = 12 by decide]
  have B2 := hide (B1.out.trans (hb.mono B1.out.size))
  clear hb hu B1
  go_wp2_with fail
  go_loopw [3, 4] (fun n r wr => ∃ (k : Nat) (nn : Nat), k ≤ 4 ∧ r = .int .i64 ((k : Int) + 1) ∧ n = .int .i64 (nn : Int) ∧ nn ≤ k ∧ (k = 4 → 0 < nn) ∧ Hid (Below w.heap.size w wr)) (fun _ r _ => 6 - (intOf r).toNat)
  case atStart => exact ⟨0, 0, by omega, rfl, rfl, by omega, by omega, B2⟩
  case round =>
    obtain ⟨k, nn, hk, rfl, rfl, hn, hpos, B3⟩ := hrel
    clear B2
    by_cases h4 : k = 4
    · subst h4
      have hp0 := hpos rfl
      have q : ¬ ((4 : Nat) : Int) + 1 ≤ 4 := by omega
      have q2 : (nn : Int) > 0 := by omega
      have q3 : (0 : Int) < (nn : Int) := by omega
      clear hpos hn hp0 hk
      go_wp2_with fail
      refine (known_any wr (HP.out.below B3.out) (HE.out.below B3.out)).mono ?_
      rintro e wk ⟨rfl, hbk⟩
      have BK := hide (B3.out.trans (hbk.mono B3.out.size))
      clear hbk
      go_wp2_with fail
      go_ret
      exact ⟨rfl, BK.out⟩
    · have q : (k : Int) + 1 ≤ 4 := by omega
      obtain ⟨r, hr⟩ : ∃ r : Int, r = (k : Int) + 1 := ⟨_, rfl⟩
      have q' : r ≤ 4 := by omega
      have HK := hide hr
      have q1 : IntKind.i64.wrap (r + 1) = ((k + 1 : Nat) : Int) + 1 := by rw [IntKind.wrap_i64]; omega
      have q5 : IntKind.i64.wrap ((nn : Int) + 1) = ((nn + 1 : Nat) : Int) := by rw [IntKind.wrap_i64]; omega
      rw [← hr]
      clear q hr
      go_wp2_with fail
      refine (ops_any r wr).mono ?_
      rintro e w3 ⟨v, rfl, hu, -, hb⟩
      have B4 := hide (B3.out.trans (hb.mono B3.out.size))
      have HL := hide (S.ops_length r)
      have HS := hide (hu.sliceAt (by have := S.ops_length r; omega))
      obtain ⟨ao2, c2, rfl⟩ := hu.shape
      obtain ⟨L, hL⟩ : ∃ L, L = S.ops r := ⟨_, rfl⟩
      rw [← hL] at HS HL ⊢
      have HOL := hide hL
      obtain ⟨n2, hn2⟩ : ∃ n2, n2 = L.length := ⟨_, rfl⟩
      rw [← hn2] at HL ⊢
      have HS2 : Hid (SliceAt w3 (.slice ao2 n2 c2) L) := by rw [hn2]; exact HS
      have HN := hide hn2
      clear hb hu B3 hL hn2 HS
      go_wp2_with fail
      go_loopg [5, 26] n2 (fun gk inn s26 wr => ∃ i : Nat, i + gk = n2 ∧ s26 = .int .i64 (i : Int) ∧ inn = .bool ((L.take i).contains op) ∧ w3 = wr)
      case atStart => exact ⟨0, by omega, rfl, by simp, rfl⟩
      case round =>
        obtain ⟨i, hi, rfl, rfl, rfl⟩ := hrel
        obtain ⟨b, hb⟩ : ∃ b, b = (L.take i).contains op := ⟨_, rfl⟩
        have HBB := hide hb
        rw [← hb]
        clear hb
        cases gk with
        | zero =>
          obtain rfl : i = n2 := by omega
          have qq : ¬ (i : Int) < (i : Int) := by omega
          have HBM := hide (show b = S.may r op by rw [HBB.out, List.take_of_length_le (by rw [← HN.out]; exact Nat.le_refl _), HOL.out]; rfl)
          clear hi
          go_wp2_with fail
          refine (may_any r op w3).mono ?_
          rintro e w4 ⟨rfl, hb4⟩
          have B5 := hide (B4.out.trans (hb4.mono B4.out.size))
          rw [← HBM.out]
          clear hb4
          have HP4 := hide (show k + 1 = 4 → b = true from fun h => by
            rw [HBM.out, show r = 4 by have := HK.out; omega]
            exact HM.out)
          cases b with
          | true =>
            go_wp2_with fail
            go_roundw
            case rel => exact ⟨k + 1, nn + 1, by omega, by first | rfl | simp, by first | rfl | simp, by omega, fun _ => by omega, B5⟩
            case measure => have := HK.out; simp [intOf]; omega
          | false =>
            go_wp2_with fail
            go_roundw
            case rel => exact ⟨k + 1, nn, by omega, by first | rfl | simp, rfl, by omega, fun h => (by cases HP4.out h), B5⟩
            case measure => have := HK.out; simp [intOf]; omega
        | succ gO =>
          have qq : (i : Int) < (n2 : Int) := by omega
          have q0 : (0 : Int) ≤ (i : Int) := by omega
          have qw : IntKind.i64.wrap ((i : Int) + 1) = (i : Int) + 1 := by rw [IntKind.wrap_i64]; have := HL.out; omega
          have hlt : i < L.length := by rw [← HN.out]; omega
          obtain ⟨g, off, e1, -, -, hc⟩ := HS2.out.src (by omega)
          subst e1
          have c0 := hc i hlt
          have HT := hide (S.has_take hlt op)
          have eg : L.getD i 0 = L[i] := by simp [List.getD_eq_getElem?_getD, hlt]
          rw [eg] at c0
          generalize L[i] = y at c0 HT
          have HT2 := hide (show (L.take (i + 1)).contains op = (b || (y == op)) by rw [HT.out, HBB.out])
          clear hc eg HT HBB
          cases b with
          | true =>
            go_wp2_with fail
            go_roundg gO
            case measure => omega
            case rel => exact ⟨i + 1, by omega, by first | rfl | simp, by rw [HT2.out]; rfl, rfl⟩
          | false =>
            obtain ⟨z, hz⟩ : ∃ z, z = (y == op) := ⟨_, rfl⟩
            have hz2 : (y == op) = z := hz.symm
            rw [hz2] at HT2
            clear hz
            go_wp2_with fail
            go_roundg gO
            case measure => omega
            case rel => exact ⟨i + 1, by omega, by first | rfl | simp, by rw [HT2.out]; first | rfl | simp, rfl⟩
end Go.Proofs.YtkdpdkfhhpekaaaDoor
