/- LifeNumbers' walk. -/
import Derived.Test.YtldkkgdkjddohaaLd
namespace Go.Proofs.Ytldkkgdkjddohaa
open Go.RowKit
namespace S
/-- How many of the states that may follow are below one. -/
def cnt (a b c : Int) : Nat := ((nxt a b).filter (fun x => decide (x < c))).length
theorem cnt_step (i : Fin 8) (j : Fin 2) (t : Fin 8) : (may ((i.val : Int) - 1) ((t.val : Int) - 1) (j.val : Int) = true → cnt ((i.val : Int) - 1) (j.val : Int) ((t.val : Int) - 1) < (nxt ((i.val : Int) - 1) (j.val : Int)).length ∧ (nxt ((i.val : Int) - 1) (j.val : Int)).getD (cnt ((i.val : Int) - 1) (j.val : Int) ((t.val : Int) - 1)) 0 = (t.val : Int) - 1 ∧ cnt ((i.val : Int) - 1) (j.val : Int) (t.val : Int) = cnt ((i.val : Int) - 1) (j.val : Int) ((t.val : Int) - 1) + 1) ∧ (may ((i.val : Int) - 1) ((t.val : Int) - 1) (j.val : Int) = false → cnt ((i.val : Int) - 1) (j.val : Int) (t.val : Int) = cnt ((i.val : Int) - 1) (j.val : Int) ((t.val : Int) - 1)) := by
  revert i j t
  decide +kernel
theorem cnt_ends (i : Fin 8) (j : Fin 2) : cnt ((i.val : Int) - 1) (j.val : Int) (-1) = 0 ∧ cnt ((i.val : Int) - 1) (j.val : Int) 7 = (nxt ((i.val : Int) - 1) (j.val : Int)).length := by
  revert i j
  decide +kernel
theorem cnt_yes {a b c : Int} (h1 : -1 ≤ a) (h2 : a < 7) (h3 : 0 ≤ b) (h4 : b < 2) (h5 : -1 ≤ c) (h6 : c < 7) (h : may a c b = true) : cnt a b c < (nxt a b).length ∧ (nxt a b).getD (cnt a b c) 0 = c ∧ cnt a b (c + 1) = cnt a b c + 1 := by
  have q := (cnt_step ⟨(a + 1).toNat, by omega⟩ ⟨b.toNat, by omega⟩ ⟨(c + 1).toNat, by omega⟩).1
  have e1 : (((a + 1).toNat : Nat) : Int) - 1 = a := by omega
  have e2 : ((b.toNat : Nat) : Int) = b := by omega
  have e4 : (((c + 1).toNat : Nat) : Int) = c + 1 := by omega
  simp only [e1, e2, e4, Int.add_sub_cancel] at q
  exact q h
theorem cnt_no {a b c : Int} (h1 : -1 ≤ a) (h2 : a < 7) (h3 : 0 ≤ b) (h4 : b < 2) (h5 : -1 ≤ c) (h6 : c < 7) (h : may a c b = false) : cnt a b (c + 1) = cnt a b c := by
  have q := (cnt_step ⟨(a + 1).toNat, by omega⟩ ⟨b.toNat, by omega⟩ ⟨(c + 1).toNat, by omega⟩).2
  have e1 : (((a + 1).toNat : Nat) : Int) - 1 = a := by omega
  have e2 : ((b.toNat : Nat) : Int) = b := by omega
  have e4 : (((c + 1).toNat : Nat) : Int) = c + 1 := by omega
  simp only [e1, e2, e4, Int.add_sub_cancel] at q
  exact q h
theorem cnt_end {a b : Int} (h1 : -1 ≤ a) (h2 : a < 7) (h3 : 0 ≤ b) (h4 : b < 2) : cnt a b (-1) = 0 ∧ cnt a b 7 = (nxt a b).length := by
  have q := cnt_ends ⟨(a + 1).toNat, by omega⟩ ⟨b.toNat, by omega⟩
  have e1 : (((a + 1).toNat : Nat) : Int) - 1 = a := by omega
  have e2 : ((b.toNat : Nat) : Int) = b := by omega
  simp only [e1, e2] at q
  exact q
end S

set_option maxHeartbeats 3200000 in
set_option maxRecDepth 100000 in
theorem lifeNumbers_walk (w : World) : Calls Try.prog 3 #[] w fun e w' => e = .returned (.bool true) ∧ Below w.heap.size w w' := by
  obtain ⟨gt, hg⟩ : ∃ gt, gt = w.heap.size := ⟨_, rfl⟩
  have HG := hide hg
  have B0 : Hid (Below gt w w ∧ gt ≤ w.heap.size) := ⟨Below.refl _ _, by omega⟩
  clear hg
  rw [← HG.out]
  go_enter Try.func3, Try.ntmps3
  go_wp2_with fail
  go_loopw [1] (fun s1 wr => ∃ a : Int, s1 = .int .i64 a ∧ Hid (-1 ≤ a ∧ a ≤ 7) ∧ Hid (Below gt w wr ∧ gt ≤ wr.heap.size)) (fun s1 _ => (7 - intOf s1).toNat)
  case atStart => exact ⟨-1, rfl, by show _ ∧ _; omega, B0⟩
  case round =>
    obtain ⟨a, rfl, HA, BR⟩ := hrel
    clear B0
    obtain ⟨wa, hwa⟩ : ∃ wa, wa = wr := ⟨_, rfl⟩
    subst hwa
    by_cases ha : a < 7
    · have HAL := hide ha
      go_wp2_with fail
      go_loopw [2] (fun s2 wr => ∃ b : Int, s2 = .int .i64 b ∧ Hid (0 ≤ b ∧ b ≤ 2) ∧ Hid (Below gt w wr ∧ gt ≤ wr.heap.size)) (fun s2 _ => (2 - intOf s2).toNat)
      case atStart => exact ⟨0, rfl, by show _ ∧ _; omega, BR⟩
      case round =>
        obtain ⟨b, rfl, HB, BB⟩ := hrel
        clear BR
        obtain ⟨wb, hwb⟩ : ∃ wb, wb = wr := ⟨_, rfl⟩
        subst hwb
        by_cases hb2 : b < 2
        · have HBL := hide hb2
          have HE := hide (S.cnt_end (a := a) (b := b) HA.out.1 HAL.out HB.out.1 HBL.out)
          have L3 := hide (S.nxt_len a b)
          go_wp2_with fail
          go_at_call 8
          refine (next_any a b wb).mono ?_
          rintro e w1 ⟨v, rfl, hu, hb⟩
          have B1 : Hid (Below gt w w1 ∧ gt ≤ w1.heap.size) := ⟨BB.out.1.trans (hb.mono BB.out.2), by have := BB.out.2; have := hb.size; omega⟩
          have hs := hu.sliceAt (by have := L3.out; omega)
          obtain ⟨ao, rfl⟩ := hu.form
          have S1 := hide hs
          clear hs hu hb BB
          obtain ⟨n, hn⟩ : ∃ n, n = (S.nxt a b).length := ⟨_, rfl⟩
          rw [← hn] at S1 L3 ⊢
          have HN := hide hn
          clear hn
          go_wp2_with fail
          go_loopw [4, 5] (fun s4 s5 wr => ∃ c : Int, s5 = .int .i64 c ∧ Hid (-1 ≤ c ∧ c ≤ 7) ∧ s4 = .int .i64 (S.cnt a b c : Int) ∧ Hid (Below gt w wr ∧ gt ≤ wr.heap.size) ∧ Hid (SliceAt wr (.slice ao n n) (S.nxt a b))) (fun _ s5 _ => (7 - intOf s5).toNat)
          case atStart => exact ⟨-1, rfl, by show _ ∧ _; omega, by rw [HE.out.1]; rfl, B1, S1⟩
          case round =>
            obtain ⟨c, rfl, HC, rfl, BC, SC⟩ := hrel
            clear B1 S1
            obtain ⟨k, hk⟩ : ∃ k, k = S.cnt a b c := ⟨_, rfl⟩
            have HK := hide hk
            rw [← hk]
            clear hk
            obtain ⟨wc, hwc⟩ : ∃ wc, wc = wr := ⟨_, rfl⟩
            subst hwc
            by_cases hc : c < 7
            · have HCL := hide hc
              obtain ⟨m, hm⟩ : ∃ m, m = S.may a c b := ⟨_, rfl⟩
              have HM := hide hm.symm
              clear hm
              have em : (m != m) = false := by simp
              have q4 : IntKind.i64.wrap (c + 1) = c + 1 := by have := HC.out.1; rw [IntKind.wrap_i64]; omega
              go_wp2_with fail
              go_at_call 9
              refine (may_any a c b wc).mono ?_
              rintro e w2 ⟨rfl, hb⟩
              rw [HM.out]
              have B2 : Hid (Below gt w w2 ∧ gt ≤ w2.heap.size) := ⟨BC.out.1.trans (hb.mono BC.out.2), by have := BC.out.2; have := hb.size; omega⟩
              have S2 : Hid (SliceAt w2 (.slice ao n n) (S.nxt a b)) := SC.out.below hb (Nat.le_refl _)
              clear hb BC SC
              go_wp2_with fail
              go_at_call 10
              refine (refmay_any a c b w2).mono ?_
              rintro e wq ⟨rfl, rfl⟩
              rw [HM.out]
              go_wp2_with fail
              go_at_call 10
              refine (refmay_any a c b w2).mono ?_
              rintro e wq ⟨rfl, rfl⟩
              rw [HM.out]
              cases m with
              | false =>
                have HS := hide (S.cnt_no HA.out.1 HAL.out HB.out.1 HBL.out HC.out.1 HCL.out HM.out)
                go_wp2
                go_roundw
                case rel => exact ⟨c + 1, by go_num, by show _ ∧ _; have := HC.out; have := HCL.out; omega, by rw [HS.out, HK.out], B2, S2⟩
                case measure => simp [intOf]; have := HCL.out; omega
              | true =>
                have hs := S.cnt_yes HA.out.1 HAL.out HB.out.1 HBL.out HC.out.1 HCL.out HM.out
                rw [← HK.out, ← HN.out] at hs
                have HS := hide hs
                obtain ⟨g, off, rfl, hg, zz, hcc⟩ := S2.out.src (by have := HN.out; omega)
                clear zz
                have c1 : w2.cell? ⟨g, off + k, none⟩ = some (.int .i64 c) := by rw [hcc k (by rw [← HN.out]; exact hs.1), hs.2.1]
                have r1 : (k : Int) < (n : Int) := by have := hs.1; omega
                have r3 : (0 : Int) ≤ (k : Int) := by omega
                have r5 : IntKind.i64.wrap ((k : Int) + 1) = (k : Int) + 1 := by have := hs.1; have := L3.out; rw [IntKind.wrap_i64]; omega
                have r6 : (c != c) = false := by simp
                have r7 : decide ((k : Int) ≥ (n : Int)) = false := by simp; omega
                clear hcc hs hg
                go_wp2
                go_roundw
                case rel => exact ⟨c + 1, by go_num, by show _ ∧ _; have := HC.out; have := HCL.out; omega, by rw [HS.out.2.2]; push_cast; rfl, B2, S2⟩
                case measure => simp [intOf]; have := HCL.out; omega
            · have hk7 : k = n := by
                obtain rfl : c = 7 := by have := HC.out; omega
                rw [HK.out, HE.out.2, HN.out]
              subst hk7
              have q4 : IntKind.i64.wrap (b + 1) = b + 1 := by have := HB.out.1; have := HB.out.2; rw [IntKind.wrap_i64]; omega
              have r8 : (k != k) = false := by simp
              go_wp2
              go_roundw
              case rel => exact ⟨b + 1, by go_num, by show _ ∧ _; have := HB.out; have := HBL.out; omega, BC⟩
              case measure => simp [intOf]; have := HBL.out; omega
        · have q4 : IntKind.i64.wrap (a + 1) = a + 1 := by have := HA.out.1; have := HA.out.2; rw [IntKind.wrap_i64]; omega
          obtain ⟨sv, hsv⟩ : ∃ sv, sv = S.serves a := ⟨_, rfl⟩
          obtain ⟨rn, hrn⟩ : ∃ rn, rn = S.runs a := ⟨_, rfl⟩
          have HSV := hide hsv.symm
          have HRN := hide hrn.symm
          clear hsv hrn
          have es : (sv != sv) = false := by simp
          have er : (rn != rn) = false := by simp
          go_wp2_with fail
          go_at_call 11
          refine (serves_any a wb).mono ?_
          rintro e v0 ⟨rfl, hb⟩
          rw [HSV.out]
          have D0 : Hid (Below gt w v0 ∧ gt ≤ v0.heap.size) := ⟨BB.out.1.trans (hb.mono BB.out.2), by have := BB.out.2; have := hb.size; omega⟩
          clear hb BB
          go_wp2_with fail
          go_at_call 12
          refine (refserves_any a v0).mono ?_
          rintro e wq ⟨rfl, rfl⟩
          rw [HSV.out]
          go_wp2_with fail
          go_at_call 13
          refine (runs_any a v0).mono ?_
          rintro e v1 ⟨rfl, hb⟩
          rw [HRN.out]
          have D1 : Hid (Below gt w v1 ∧ gt ≤ v1.heap.size) := ⟨D0.out.1.trans (hb.mono D0.out.2), by have := D0.out.2; have := hb.size; omega⟩
          clear hb D0
          go_wp2_with fail
          go_at_call 14
          refine (refruns_any a v1).mono ?_
          rintro e wq ⟨rfl, rfl⟩
          rw [HRN.out]
          by_cases h1 : a = 1
          · subst h1
            have HD : Hid (S.adds 1 = true) := by show _ = _; decide
            go_wp2_with fail
            go_at_call 15
            refine (adds_any 1 v1).mono ?_
            rintro e v2 ⟨rfl, hb⟩
            rw [HD.out]
            have D2 : Hid (Below gt w v2 ∧ gt ≤ v2.heap.size) := ⟨D1.out.1.trans (hb.mono D1.out.2), by have := D1.out.2; have := hb.size; omega⟩
            clear hb D1
            go_wp2
            go_roundw
            case rel => exact ⟨1 + 1, by go_num, by show _ ∧ _; have := HA.out; have := HAL.out; omega, D2⟩
            case measure => simp [intOf]
          · have HD : Hid (S.adds a = false) := by show _ = _; simp [S.adds, h1]
            have e1 : (a == 1) = false := by simpa using h1
            go_wp2_with fail
            go_at_call 15
            refine (adds_any a v1).mono ?_
            rintro e v2 ⟨rfl, hb⟩
            rw [HD.out]
            have D2 : Hid (Below gt w v2 ∧ gt ≤ v2.heap.size) := ⟨D1.out.1.trans (hb.mono D1.out.2), by have := D1.out.2; have := hb.size; omega⟩
            clear hb D1
            go_wp2
            go_roundw
            case rel => exact ⟨a + 1, by go_num, by show _ ∧ _; have := HA.out; have := HAL.out; omega, D2⟩
            case measure => simp [intOf]; have := HAL.out; omega
    · go_wp2_with fail
      go_at_call 16
      refine (known_any wa).mono ?_
      rintro e wk ⟨rfl, hb⟩
      have BC := hide (BR.out.1.trans (hb.mono BR.out.2))
      clear hb
      go_wp2
      go_ret
      exact ⟨rfl, BC.out⟩
end Go.Proofs.Ytldkkgdkjddohaa
