/- LifeEnds' walk. -/
import Derived.Test.YtldkkgdkjddohaaLd
namespace Go.Proofs.Ytldkkgdkjddohaa
open Go.RowKit
namespace S
theorem may_ways {a c b : Int} (h : may a c b = true) : (a = 1 ∧ (c = 2 ∨ c = 3)) ∨ (a = 2 ∧ (c = 1 ∨ c = 3 ∨ c = 4)) ∨ (a = 3 ∧ (c = 2 ∨ (c = 4 ∧ b = 0))) := by
  simp only [may, decide_eq_true_eq] at h
  unfold nxt at h
  split at h
  · simp at h; omega
  split at h
  · simp at h; omega
  split at h
  · split at h
    · simp at h; omega
    · simp at h; omega
  · simp at h
end S

set_option maxHeartbeats 3200000 in
set_option maxRecDepth 100000 in
theorem lifeEnds_walk (a0 a1 : Option Addr) (len0 len1 cap0 cap1 : Nat) (zs ys : List Int) (w : World)
   (hz : 0 < len0 → ∃ b off, a0 = some ⟨b, off, none⟩ ∧ b < w.heap.size ∧ ∀ j, j < len0 → w.cell? ⟨b, off + j, none⟩ = some (.int .i64 (zs.getD j 0)))
   (hy : 0 < len1 → ∃ b off, a1 = some ⟨b, off, none⟩ ∧ b < w.heap.size ∧ ∀ j, j < len1 → w.cell? ⟨b, off + j, none⟩ = some (.int .i64 (ys.getD j 0))) :
   Calls Try.prog 5 #[.slice a0 len0 cap0, .slice a1 len1 cap1] w fun e w' => e = .returned (.bool true) ∧ Below w.heap.size w w' := by
  have HZ := hide hz
  have HY := hide hy
  clear hz hy
  obtain ⟨gt, hg⟩ : ∃ gt, gt = w.heap.size := ⟨_, rfl⟩
  have HG := hide hg
  have B0 : Hid (Below gt w w) := Below.refl _ _
  clear hg
  rw [← HG.out]
  go_enter Try.func5, Try.ntmps5
  go_wp2_with fail
  go_loopw [5, 6] (fun s5 s6 wr => ∃ (i : Nat) (s : Int), i ≤ len0 ∧ i ≤ 60 ∧ s5 = .int .i64 s ∧ s6 = .int .i64 (i : Int) ∧ Hid (Below gt w wr)) (fun _ s6 _ => 60 - (intOf s6).toNat)
  case atStart => exact ⟨0, 1, by omega, by omega, rfl, rfl, B0⟩
  case round =>
    obtain ⟨i, s, hi, hi6, rfl, rfl, BR⟩ := hrel
    clear B0
    have SR : Hid (gt ≤ wr.heap.size) := by show gt ≤ wr.heap.size; have := BR.out.size; have := HG.out; omega
    by_cases hin : i < len0 ∧ i < 60
    · obtain ⟨h1, h2⟩ := hin
      have HH := hide (And.intro h1 h2)
      obtain ⟨b, off, rfl, hbl, hcs⟩ := HZ.out (by omega)
      have c1 : wr.cell? ⟨b, off + i, none⟩ = some (.int .i64 (zs.getD i 0)) := (BR.out.cell (p := ⟨b, off + i, none⟩) (by show b < gt; rw [HG.out]; exact hbl)).trans (hcs i h1)
      generalize zs.getD i 0 = z at c1
      have r1 : (i : Int) < (len0 : Int) := by omega
      have r2 : (i : Int) < 60 := by omega
      have r3 : (0 : Int) ≤ (i : Int) := by omega
      have r4 : IntKind.i64.wrap ((i : Int) + 1) = (i : Int) + 1 := by rw [IntKind.wrap_i64]; omega
      clear hcs hbl h1 h2 hi hi6
      by_cases hlw : i < len1
      · obtain ⟨b2, off2, rfl, hbl, hcs⟩ := HY.out (by omega)
        have c2 : wr.cell? ⟨b2, off2 + i, none⟩ = some (.int .i64 (ys.getD i 0)) := (BR.out.cell (p := ⟨b2, off2 + i, none⟩) (by show b2 < gt; rw [HG.out]; exact hbl)).trans (hcs i hlw)
        generalize ys.getD i 0 = y at c2
        have r5 : (i : Int) < (len1 : Int) := by omega
        clear hcs hbl hlw
        go_wp2_with fail
        go_at_call 17
        refine (within_any y 2 wr (by omega) (by omega)).mono ?_
        rintro e wq ⟨rfl, rfl⟩
        obtain ⟨v, hv⟩ : ∃ v : Int, v = (S.within y 2 : Int) := ⟨_, rfl⟩
        rw [← hv]
        clear hv c2
        go_wp2_with fail
        go_at_call 17
        refine (within_any z 5 wr (by omega) (by omega)).mono ?_
        rintro e wq ⟨rfl, rfl⟩
        obtain ⟨o, ho⟩ : ∃ o : Int, o = (S.within z 5 : Int) := ⟨_, rfl⟩
        rw [← ho]
        clear ho
        by_cases hs1 : s = 1
        · subst hs1
          have HA : Hid (S.adds 1 = true) := by show _ = _; decide
          have HR : Hid (S.runs 1 = true) := by show _ = _; decide
          go_wp2_with fail
          go_at_call 15
          refine (adds_any 1 wr).mono ?_
          rintro e v0 ⟨rfl, hb⟩
          rw [HA.out]
          have B0 := hide (BR.out.trans (hb.mono SR.out))
          have S0 : Hid (gt ≤ v0.heap.size) := by show gt ≤ v0.heap.size; have := SR.out; have := hb.size; omega
          clear hb BR
          go_wp2_with fail
          go_at_call 13
          refine (runs_any 1 v0).mono ?_
          rintro e v1 ⟨rfl, hb⟩
          rw [HR.out]
          have B1 := hide (B0.out.trans (hb.mono S0.out))
          have S1 : Hid (gt ≤ v1.heap.size) := by show gt ≤ v1.heap.size; have := S0.out; have := hb.size; omega
          clear hb B0
          go_wp2_with fail
          go_at_call 13
          refine (runs_any 1 v1).mono ?_
          rintro e v2 ⟨rfl, hb⟩
          rw [HR.out]
          have B2 := hide (B1.out.trans (hb.mono S1.out))
          have S2 : Hid (gt ≤ v2.heap.size) := by show gt ≤ v2.heap.size; have := S1.out; have := hb.size; omega
          clear hb B1
          have HS : Hid (S.serves 1 = true) := by show _ = _; decide
          go_wp2_with fail
          go_at_call 11
          refine (serves_any 1 v2).mono ?_
          rintro e v3 ⟨rfl, hb⟩
          rw [HS.out]
          have B3 := hide (B2.out.trans (hb.mono S2.out))
          have S3 : Hid (gt ≤ v3.heap.size) := by show gt ≤ v3.heap.size; have := S2.out; have := hb.size; omega
          clear hb B2
          cases hm : S.may 1 o v with
          | false =>
            have HM := hide hm
            clear hm
            go_wp2_with fail
            go_at_call 9
            refine (may_any 1 o v v3).mono ?_
            rintro e v4 ⟨rfl, hb⟩
            rw [HM.out]
            have B4 := hide (B3.out.trans (hb.mono S3.out))
            have S4 : Hid (gt ≤ v4.heap.size) := by show gt ≤ v4.heap.size; have := S3.out; have := hb.size; omega
            clear hb B3
            go_wp2
            go_roundw
            case rel => exact ⟨i + 1, _, HH.out.1, HH.out.2, rfl, by go_num, B4⟩
            case measure => simp [intOf]; have := HH.out.2; omega
          | true =>
            have HM := hide hm
            replace hm := S.may_ways hm
            replace hm : o = 2 ∨ o = 3 := by omega
            rcases hm with rfl | rfl
            · skip
              go_wp2_with fail
              go_at_call 9
              refine (may_any 1 2 v v3).mono ?_
              rintro e v4 ⟨rfl, hb⟩
              rw [HM.out]
              have B4 := hide (B3.out.trans (hb.mono S3.out))
              have S4 : Hid (gt ≤ v4.heap.size) := by show gt ≤ v4.heap.size; have := S3.out; have := hb.size; omega
              clear hb B3
              go_wp2
              go_roundw
              case rel => exact ⟨i + 1, _, HH.out.1, HH.out.2, rfl, by go_num, B4⟩
              case measure => simp [intOf]; have := HH.out.2; omega
            · skip
              go_wp2_with fail
              go_at_call 9
              refine (may_any 1 3 v v3).mono ?_
              rintro e v4 ⟨rfl, hb⟩
              rw [HM.out]
              have B4 := hide (B3.out.trans (hb.mono S3.out))
              have S4 : Hid (gt ≤ v4.heap.size) := by show gt ≤ v4.heap.size; have := S3.out; have := hb.size; omega
              clear hb B3
              go_wp2
              go_roundw
              case rel => exact ⟨i + 1, _, HH.out.1, HH.out.2, rfl, by go_num, B4⟩
              case measure => simp [intOf]; have := HH.out.2; omega
        by_cases hs3 : s = 3
        · subst hs3
          have HA : Hid (S.adds 3 = false) := by show _ = _; decide
          have HR : Hid (S.runs 3 = true) := by show _ = _; decide
          go_wp2_with fail
          go_at_call 15
          refine (adds_any 3 wr).mono ?_
          rintro e v0 ⟨rfl, hb⟩
          rw [HA.out]
          have B0 := hide (BR.out.trans (hb.mono SR.out))
          have S0 : Hid (gt ≤ v0.heap.size) := by show gt ≤ v0.heap.size; have := SR.out; have := hb.size; omega
          clear hb BR
          go_wp2_with fail
          go_at_call 13
          refine (runs_any 3 v0).mono ?_
          rintro e v1 ⟨rfl, hb⟩
          rw [HR.out]
          have B1 := hide (B0.out.trans (hb.mono S0.out))
          have S1 : Hid (gt ≤ v1.heap.size) := by show gt ≤ v1.heap.size; have := S0.out; have := hb.size; omega
          clear hb B0
          have HS : Hid (S.serves 3 = true) := by show _ = _; decide
          go_wp2_with fail
          go_at_call 11
          refine (serves_any 3 v1).mono ?_
          rintro e v2 ⟨rfl, hb⟩
          rw [HS.out]
          have B2 := hide (B1.out.trans (hb.mono S1.out))
          have S2 : Hid (gt ≤ v2.heap.size) := by show gt ≤ v2.heap.size; have := S1.out; have := hb.size; omega
          clear hb B1
          cases hm : S.may 3 o v with
          | false =>
            have HM := hide hm
            clear hm
            go_wp2_with fail
            go_at_call 9
            refine (may_any 3 o v v2).mono ?_
            rintro e v3 ⟨rfl, hb⟩
            rw [HM.out]
            have B3 := hide (B2.out.trans (hb.mono S2.out))
            have S3 : Hid (gt ≤ v3.heap.size) := by show gt ≤ v3.heap.size; have := S2.out; have := hb.size; omega
            clear hb B2
            go_wp2
            go_roundw
            case rel => exact ⟨i + 1, _, HH.out.1, HH.out.2, rfl, by go_num, B3⟩
            case measure => simp [intOf]; have := HH.out.2; omega
          | true =>
            have HM := hide hm
            replace hm := S.may_ways hm
            replace hm : o = 2 ∨ (o = 4 ∧ v = 0) := by omega
            rcases hm with rfl | ⟨rfl, rfl⟩
            · skip
              go_wp2_with fail
              go_at_call 9
              refine (may_any 3 2 v v2).mono ?_
              rintro e v3 ⟨rfl, hb⟩
              rw [HM.out]
              have B3 := hide (B2.out.trans (hb.mono S2.out))
              have S3 : Hid (gt ≤ v3.heap.size) := by show gt ≤ v3.heap.size; have := S2.out; have := hb.size; omega
              clear hb B2
              go_wp2
              go_roundw
              case rel => exact ⟨i + 1, _, HH.out.1, HH.out.2, rfl, by go_num, B3⟩
              case measure => simp [intOf]; have := HH.out.2; omega
            · skip
              go_wp2_with fail
              go_at_call 9
              refine (may_any 3 4 0 v2).mono ?_
              rintro e v3 ⟨rfl, hb⟩
              rw [HM.out]
              have B3 := hide (B2.out.trans (hb.mono S2.out))
              have S3 : Hid (gt ≤ v3.heap.size) := by show gt ≤ v3.heap.size; have := S2.out; have := hb.size; omega
              clear hb B2
              go_wp2
              go_roundw
              case rel => exact ⟨i + 1, _, HH.out.1, HH.out.2, rfl, by go_num, B3⟩
              case measure => simp [intOf]; have := HH.out.2; omega
        · skip
          have HA : Hid (S.adds s = false) := by show _ = _; simp [S.adds, hs1]
          have HR : Hid (S.runs s = false) := by show _ = _; simp [S.runs, hs1, hs3]
          go_wp2_with fail
          go_at_call 15
          refine (adds_any s wr).mono ?_
          rintro e v0 ⟨rfl, hb⟩
          rw [HA.out]
          have B0 := hide (BR.out.trans (hb.mono SR.out))
          have S0 : Hid (gt ≤ v0.heap.size) := by show gt ≤ v0.heap.size; have := SR.out; have := hb.size; omega
          clear hb BR
          go_wp2_with fail
          go_at_call 13
          refine (runs_any s v0).mono ?_
          rintro e v1 ⟨rfl, hb⟩
          rw [HR.out]
          have B1 := hide (B0.out.trans (hb.mono S0.out))
          have S1 : Hid (gt ≤ v1.heap.size) := by show gt ≤ v1.heap.size; have := S0.out; have := hb.size; omega
          clear hb B0
          cases hm : S.may s o v with
          | false =>
            have HM := hide hm
            clear hm
            go_wp2_with fail
            go_at_call 9
            refine (may_any s o v v1).mono ?_
            rintro e v2 ⟨rfl, hb⟩
            rw [HM.out]
            have B2 := hide (B1.out.trans (hb.mono S1.out))
            have S2 : Hid (gt ≤ v2.heap.size) := by show gt ≤ v2.heap.size; have := S1.out; have := hb.size; omega
            clear hb B1
            go_wp2
            go_roundw
            case rel => exact ⟨i + 1, _, HH.out.1, HH.out.2, rfl, by go_num, B2⟩
            case measure => simp [intOf]; have := HH.out.2; omega
          | true =>
            have HM := hide hm
            replace hm := S.may_ways hm
            replace hm : s = 2 ∧ (o = 1 ∨ o = 3 ∨ o = 4) := by omega
            rcases hm with ⟨rfl, rfl | rfl | rfl⟩
            · skip
              go_wp2_with fail
              go_at_call 9
              refine (may_any 2 1 v v1).mono ?_
              rintro e v2 ⟨rfl, hb⟩
              rw [HM.out]
              have B2 := hide (B1.out.trans (hb.mono S1.out))
              have S2 : Hid (gt ≤ v2.heap.size) := by show gt ≤ v2.heap.size; have := S1.out; have := hb.size; omega
              clear hb B1
              go_wp2
              go_roundw
              case rel => exact ⟨i + 1, _, HH.out.1, HH.out.2, rfl, by go_num, B2⟩
              case measure => simp [intOf]; have := HH.out.2; omega
            · skip
              go_wp2_with fail
              go_at_call 9
              refine (may_any 2 3 v v1).mono ?_
              rintro e v2 ⟨rfl, hb⟩
              rw [HM.out]
              have B2 := hide (B1.out.trans (hb.mono S1.out))
              have S2 : Hid (gt ≤ v2.heap.size) := by show gt ≤ v2.heap.size; have := S1.out; have := hb.size; omega
              clear hb B1
              go_wp2
              go_roundw
              case rel => exact ⟨i + 1, _, HH.out.1, HH.out.2, rfl, by go_num, B2⟩
              case measure => simp [intOf]; have := HH.out.2; omega
            · skip
              go_wp2_with fail
              go_at_call 9
              refine (may_any 2 4 v v1).mono ?_
              rintro e v2 ⟨rfl, hb⟩
              rw [HM.out]
              have B2 := hide (B1.out.trans (hb.mono S1.out))
              have S2 : Hid (gt ≤ v2.heap.size) := by show gt ≤ v2.heap.size; have := S1.out; have := hb.size; omega
              clear hb B1
              go_wp2
              go_roundw
              case rel => exact ⟨i + 1, _, HH.out.1, HH.out.2, rfl, by go_num, B2⟩
              case measure => simp [intOf]; have := HH.out.2; omega
      · have r5 : ¬ (i : Int) < (len1 : Int) := by omega
        clear hlw
        skip
        go_wp2_with fail
        go_at_call 17
        refine (within_any z 5 wr (by omega) (by omega)).mono ?_
        rintro e wq ⟨rfl, rfl⟩
        obtain ⟨o, ho⟩ : ∃ o : Int, o = (S.within z 5 : Int) := ⟨_, rfl⟩
        rw [← ho]
        clear ho
        by_cases hs1 : s = 1
        · subst hs1
          have HA : Hid (S.adds 1 = true) := by show _ = _; decide
          have HR : Hid (S.runs 1 = true) := by show _ = _; decide
          go_wp2_with fail
          go_at_call 15
          refine (adds_any 1 wr).mono ?_
          rintro e v0 ⟨rfl, hb⟩
          rw [HA.out]
          have B0 := hide (BR.out.trans (hb.mono SR.out))
          have S0 : Hid (gt ≤ v0.heap.size) := by show gt ≤ v0.heap.size; have := SR.out; have := hb.size; omega
          clear hb BR
          go_wp2_with fail
          go_at_call 13
          refine (runs_any 1 v0).mono ?_
          rintro e v1 ⟨rfl, hb⟩
          rw [HR.out]
          have B1 := hide (B0.out.trans (hb.mono S0.out))
          have S1 : Hid (gt ≤ v1.heap.size) := by show gt ≤ v1.heap.size; have := S0.out; have := hb.size; omega
          clear hb B0
          go_wp2_with fail
          go_at_call 13
          refine (runs_any 1 v1).mono ?_
          rintro e v2 ⟨rfl, hb⟩
          rw [HR.out]
          have B2 := hide (B1.out.trans (hb.mono S1.out))
          have S2 : Hid (gt ≤ v2.heap.size) := by show gt ≤ v2.heap.size; have := S1.out; have := hb.size; omega
          clear hb B1
          have HS : Hid (S.serves 1 = true) := by show _ = _; decide
          go_wp2_with fail
          go_at_call 11
          refine (serves_any 1 v2).mono ?_
          rintro e v3 ⟨rfl, hb⟩
          rw [HS.out]
          have B3 := hide (B2.out.trans (hb.mono S2.out))
          have S3 : Hid (gt ≤ v3.heap.size) := by show gt ≤ v3.heap.size; have := S2.out; have := hb.size; omega
          clear hb B2
          cases hm : S.may 1 o 0 with
          | false =>
            have HM := hide hm
            clear hm
            go_wp2_with fail
            go_at_call 9
            refine (may_any 1 o 0 v3).mono ?_
            rintro e v4 ⟨rfl, hb⟩
            rw [HM.out]
            have B4 := hide (B3.out.trans (hb.mono S3.out))
            have S4 : Hid (gt ≤ v4.heap.size) := by show gt ≤ v4.heap.size; have := S3.out; have := hb.size; omega
            clear hb B3
            go_wp2
            go_roundw
            case rel => exact ⟨i + 1, _, HH.out.1, HH.out.2, rfl, by go_num, B4⟩
            case measure => simp [intOf]; have := HH.out.2; omega
          | true =>
            have HM := hide hm
            replace hm := S.may_ways hm
            replace hm : o = 2 ∨ o = 3 := by omega
            rcases hm with rfl | rfl
            · skip
              go_wp2_with fail
              go_at_call 9
              refine (may_any 1 2 0 v3).mono ?_
              rintro e v4 ⟨rfl, hb⟩
              rw [HM.out]
              have B4 := hide (B3.out.trans (hb.mono S3.out))
              have S4 : Hid (gt ≤ v4.heap.size) := by show gt ≤ v4.heap.size; have := S3.out; have := hb.size; omega
              clear hb B3
              go_wp2
              go_roundw
              case rel => exact ⟨i + 1, _, HH.out.1, HH.out.2, rfl, by go_num, B4⟩
              case measure => simp [intOf]; have := HH.out.2; omega
            · skip
              go_wp2_with fail
              go_at_call 9
              refine (may_any 1 3 0 v3).mono ?_
              rintro e v4 ⟨rfl, hb⟩
              rw [HM.out]
              have B4 := hide (B3.out.trans (hb.mono S3.out))
              have S4 : Hid (gt ≤ v4.heap.size) := by show gt ≤ v4.heap.size; have := S3.out; have := hb.size; omega
              clear hb B3
              go_wp2
              go_roundw
              case rel => exact ⟨i + 1, _, HH.out.1, HH.out.2, rfl, by go_num, B4⟩
              case measure => simp [intOf]; have := HH.out.2; omega
        by_cases hs3 : s = 3
        · subst hs3
          have HA : Hid (S.adds 3 = false) := by show _ = _; decide
          have HR : Hid (S.runs 3 = true) := by show _ = _; decide
          go_wp2_with fail
          go_at_call 15
          refine (adds_any 3 wr).mono ?_
          rintro e v0 ⟨rfl, hb⟩
          rw [HA.out]
          have B0 := hide (BR.out.trans (hb.mono SR.out))
          have S0 : Hid (gt ≤ v0.heap.size) := by show gt ≤ v0.heap.size; have := SR.out; have := hb.size; omega
          clear hb BR
          go_wp2_with fail
          go_at_call 13
          refine (runs_any 3 v0).mono ?_
          rintro e v1 ⟨rfl, hb⟩
          rw [HR.out]
          have B1 := hide (B0.out.trans (hb.mono S0.out))
          have S1 : Hid (gt ≤ v1.heap.size) := by show gt ≤ v1.heap.size; have := S0.out; have := hb.size; omega
          clear hb B0
          have HS : Hid (S.serves 3 = true) := by show _ = _; decide
          go_wp2_with fail
          go_at_call 11
          refine (serves_any 3 v1).mono ?_
          rintro e v2 ⟨rfl, hb⟩
          rw [HS.out]
          have B2 := hide (B1.out.trans (hb.mono S1.out))
          have S2 : Hid (gt ≤ v2.heap.size) := by show gt ≤ v2.heap.size; have := S1.out; have := hb.size; omega
          clear hb B1
          cases hm : S.may 3 o 0 with
          | false =>
            have HM := hide hm
            clear hm
            go_wp2_with fail
            go_at_call 9
            refine (may_any 3 o 0 v2).mono ?_
            rintro e v3 ⟨rfl, hb⟩
            rw [HM.out]
            have B3 := hide (B2.out.trans (hb.mono S2.out))
            have S3 : Hid (gt ≤ v3.heap.size) := by show gt ≤ v3.heap.size; have := S2.out; have := hb.size; omega
            clear hb B2
            go_wp2
            go_roundw
            case rel => exact ⟨i + 1, _, HH.out.1, HH.out.2, rfl, by go_num, B3⟩
            case measure => simp [intOf]; have := HH.out.2; omega
          | true =>
            have HM := hide hm
            replace hm := S.may_ways hm
            replace hm : o = 2 ∨ o = 4 := by omega
            rcases hm with rfl | rfl
            · skip
              go_wp2_with fail
              go_at_call 9
              refine (may_any 3 2 0 v2).mono ?_
              rintro e v3 ⟨rfl, hb⟩
              rw [HM.out]
              have B3 := hide (B2.out.trans (hb.mono S2.out))
              have S3 : Hid (gt ≤ v3.heap.size) := by show gt ≤ v3.heap.size; have := S2.out; have := hb.size; omega
              clear hb B2
              go_wp2
              go_roundw
              case rel => exact ⟨i + 1, _, HH.out.1, HH.out.2, rfl, by go_num, B3⟩
              case measure => simp [intOf]; have := HH.out.2; omega
            · skip
              go_wp2_with fail
              go_at_call 9
              refine (may_any 3 4 0 v2).mono ?_
              rintro e v3 ⟨rfl, hb⟩
              rw [HM.out]
              have B3 := hide (B2.out.trans (hb.mono S2.out))
              have S3 : Hid (gt ≤ v3.heap.size) := by show gt ≤ v3.heap.size; have := S2.out; have := hb.size; omega
              clear hb B2
              go_wp2
              go_roundw
              case rel => exact ⟨i + 1, _, HH.out.1, HH.out.2, rfl, by go_num, B3⟩
              case measure => simp [intOf]; have := HH.out.2; omega
        · skip
          have HA : Hid (S.adds s = false) := by show _ = _; simp [S.adds, hs1]
          have HR : Hid (S.runs s = false) := by show _ = _; simp [S.runs, hs1, hs3]
          go_wp2_with fail
          go_at_call 15
          refine (adds_any s wr).mono ?_
          rintro e v0 ⟨rfl, hb⟩
          rw [HA.out]
          have B0 := hide (BR.out.trans (hb.mono SR.out))
          have S0 : Hid (gt ≤ v0.heap.size) := by show gt ≤ v0.heap.size; have := SR.out; have := hb.size; omega
          clear hb BR
          go_wp2_with fail
          go_at_call 13
          refine (runs_any s v0).mono ?_
          rintro e v1 ⟨rfl, hb⟩
          rw [HR.out]
          have B1 := hide (B0.out.trans (hb.mono S0.out))
          have S1 : Hid (gt ≤ v1.heap.size) := by show gt ≤ v1.heap.size; have := S0.out; have := hb.size; omega
          clear hb B0
          cases hm : S.may s o 0 with
          | false =>
            have HM := hide hm
            clear hm
            go_wp2_with fail
            go_at_call 9
            refine (may_any s o 0 v1).mono ?_
            rintro e v2 ⟨rfl, hb⟩
            rw [HM.out]
            have B2 := hide (B1.out.trans (hb.mono S1.out))
            have S2 : Hid (gt ≤ v2.heap.size) := by show gt ≤ v2.heap.size; have := S1.out; have := hb.size; omega
            clear hb B1
            go_wp2
            go_roundw
            case rel => exact ⟨i + 1, _, HH.out.1, HH.out.2, rfl, by go_num, B2⟩
            case measure => simp [intOf]; have := HH.out.2; omega
          | true =>
            have HM := hide hm
            replace hm := S.may_ways hm
            replace hm : s = 2 ∧ (o = 1 ∨ o = 3 ∨ o = 4) := by omega
            rcases hm with ⟨rfl, rfl | rfl | rfl⟩
            · skip
              go_wp2_with fail
              go_at_call 9
              refine (may_any 2 1 0 v1).mono ?_
              rintro e v2 ⟨rfl, hb⟩
              rw [HM.out]
              have B2 := hide (B1.out.trans (hb.mono S1.out))
              have S2 : Hid (gt ≤ v2.heap.size) := by show gt ≤ v2.heap.size; have := S1.out; have := hb.size; omega
              clear hb B1
              go_wp2
              go_roundw
              case rel => exact ⟨i + 1, _, HH.out.1, HH.out.2, rfl, by go_num, B2⟩
              case measure => simp [intOf]; have := HH.out.2; omega
            · skip
              go_wp2_with fail
              go_at_call 9
              refine (may_any 2 3 0 v1).mono ?_
              rintro e v2 ⟨rfl, hb⟩
              rw [HM.out]
              have B2 := hide (B1.out.trans (hb.mono S1.out))
              have S2 : Hid (gt ≤ v2.heap.size) := by show gt ≤ v2.heap.size; have := S1.out; have := hb.size; omega
              clear hb B1
              go_wp2
              go_roundw
              case rel => exact ⟨i + 1, _, HH.out.1, HH.out.2, rfl, by go_num, B2⟩
              case measure => simp [intOf]; have := HH.out.2; omega
            · skip
              go_wp2_with fail
              go_at_call 9
              refine (may_any 2 4 0 v1).mono ?_
              rintro e v2 ⟨rfl, hb⟩
              rw [HM.out]
              have B2 := hide (B1.out.trans (hb.mono S1.out))
              have S2 : Hid (gt ≤ v2.heap.size) := by show gt ≤ v2.heap.size; have := S1.out; have := hb.size; omega
              clear hb B1
              go_wp2
              go_roundw
              case rel => exact ⟨i + 1, _, HH.out.1, HH.out.2, rfl, by go_num, B2⟩
              case measure => simp [intOf]; have := HH.out.2; omega
    by_cases hl : (i : Int) < (len0 : Int)
    · have hl2 : ¬ (i : Int) < 60 := by omega
      clear hin
      go_wp2_with fail
      go_at_call 16
      refine (known_any wr).mono ?_
      rintro e wk ⟨rfl, hb⟩
      have BC := hide (BR.out.trans (hb.mono SR.out))
      clear hb
      go_wp2
      go_ret
      exact ⟨rfl, BC.out⟩
    · clear hin
      go_wp2_with fail
      go_at_call 16
      refine (known_any wr).mono ?_
      rintro e wk ⟨rfl, hb⟩
      have BC := hide (BR.out.trans (hb.mono SR.out))
      clear hb
      go_wp2
      go_ret
      exact ⟨rfl, BC.out⟩
end Go.Proofs.Ytldkkgdkjddohaa
