/- LifePaths' walk. -/
import Derived.Test.YtldkkgdkjddohaaLd
namespace Go.Proofs.Ytldkkgdkjddohaa
open Go.RowKit
namespace S
theorem nxt_mem {a b y : Int} (h : y ∈ nxt a b) : may a y b = true ∧ y ≠ a ∧ 1 ≤ y ∧ y ≤ 4 := by
  refine ⟨by simpa [may] using h, ?_⟩
  unfold nxt at h
  split at h
  · simp at h; omega
  split at h
  · simp at h; omega
  split at h
  · split at h
    · simp at h; omega
    · simp at h; omega
  · simp at h
theorem serves_nxt (a b : Int) : serves a = decide (0 < (nxt a b).length) := by
  unfold serves nxt
  by_cases h1 : a = 1
  · simp [h1]
  by_cases h2 : a = 2
  · simp [h2]
  by_cases h3 : a = 3
  · by_cases hb : b = 0
    · simp [h3, hb]
    · simp [h3, hb]
  · simp [h1, h2, h3]
theorem may14 (b : Int) : may 1 4 b = false := by simp [may, nxt]
theorem may13 (b : Int) : may 1 3 b = true := by simp [may, nxt]
theorem may34 : may 3 4 0 = true := by decide
theorem may12 (b : Int) : may 1 2 b = true := by simp [may, nxt]
theorem may24 (b : Int) : may 2 4 b = true := by simp [may, nxt]
end S

set_option maxHeartbeats 1600000 in
set_option maxRecDepth 100000 in
theorem lifePaths_walk (a b : Int) (w : World) : Calls Try.prog 7 #[.int .i64 a, .int .i64 b] w fun e w' => e = .returned (.bool true) ∧ Below w.heap.size w w' := by
  have B0 : Hid (Below w.heap.size w w) := Below.refl _ _
  go_enter Try.func7, Try.ntmps7
  go_wp2_with fail
  go_at_call 17
  refine (within_any a 5 w (by omega) (by omega)).mono ?_
  rintro e wq ⟨rfl, rfl⟩
  obtain ⟨x, hx⟩ : ∃ x : Int, x = (S.within a 5 : Int) := ⟨_, rfl⟩
  rw [← hx]
  clear hx
  go_wp2_with fail
  go_at_call 17
  refine (within_any b 3 w (by omega) (by omega)).mono ?_
  rintro e wq ⟨rfl, rfl⟩
  obtain ⟨y, hy⟩ : ∃ y : Int, y = (S.within b 3 : Int) := ⟨_, rfl⟩
  rw [← hy]
  clear hy
  go_wp2_with fail
  go_at_call 8
  refine (next_any x y w).mono ?_
  rintro e w1 ⟨v, rfl, hu, hb⟩
  have B1 := hide (B0.out.trans (hb.mono B0.out.size))
  have hl := S.nxt_len x y
  have hs := hu.sliceAt (by omega)
  obtain ⟨ao, rfl⟩ := hu.form
  have HM : Hid (∀ z ∈ S.nxt x y, S.may x z y = true ∧ z ≠ x ∧ 1 ≤ z ∧ z ≤ 4) := fun z hz => S.nxt_mem hz
  have HV := hide (S.serves_nxt x y)
  generalize S.nxt x y = l at hs hl HM HV ⊢
  obtain ⟨n, hn⟩ : ∃ n, n = l.length := ⟨_, rfl⟩
  rw [← hn] at hl HV ⊢
  have HN := hide hn
  have HS := hide hs
  rw [← hn] at HS
  have L3 := hide hl
  clear hn hs hl hu hb B0
  go_wp2_with fail
  go_at_call 11
  refine (serves_any x w1).mono ?_
  rintro e w2 ⟨rfl, hb⟩
  rw [HV.out]
  have B2 := hide (B1.out.trans (hb.mono B1.out.size))
  have S2 : Hid (SliceAt w2 (.slice ao n n) l) := HS.out.below hb (Nat.le_refl _)
  clear hb HS HV B1
  have q0 : decide ((n : Int) > 0) = decide (0 < n) := by simp
  go_upto_region 6 with fail
  go_wp2_with fail
  go_loopw [6] (fun s6 wr => ∃ i : Nat, i ≤ n ∧ s6 = .int .i64 (i : Int) ∧ Hid (Below w.heap.size w wr) ∧ Hid (SliceAt wr (.slice ao n n) l)) (fun s6 _ => n - (intOf s6).toNat)
  case atStart => exact ⟨0, by omega, rfl, B2, S2⟩
  case round =>
    obtain ⟨i, hi, rfl, BR, SR⟩ := hrel
    by_cases hlt : i < n
    · obtain ⟨g, off, rfl, hg, zz, hc⟩ := SR.out.src (by have := HN.out; omega)
      clear zz
      have hc1 := hc i (by have := HN.out; omega)
      have hzm : l.getD i 0 ∈ l := by
        rw [List.getD_eq_getElem?_getD, List.getElem?_eq_getElem (by have := HN.out; omega)]; exact List.getElem_mem _
      obtain ⟨m1, m2, m3, m4⟩ := HM.out _ hzm
      generalize l.getD i 0 = z at hc1 m1 m2 m3 m4
      clear hc hzm
      have M1 := hide m1
      have e2 : (z == x) = false := by simpa using m2
      have e3 : decide (z < 1) = false := by simp; omega
      have e4 : decide (4 < z) = false := by simp; omega
      have e5 : decide (z > 4) = false := e4
      have q1 : (0 : Int) ≤ (i : Int) := by omega
      have q2 : (i : Int) < (n : Int) := by omega
      have q4 : IntKind.i64.wrap ((i : Int) + 1) = (i : Int) + 1 := by have := L3.out; rw [IntKind.wrap_i64]; omega
      have HI := hide hlt
      clear m1 m2 m3 m4 hlt hi
      go_wp2_with fail
      go_at_call 9
      refine (may_any x z y wr).mono ?_
      rintro e w3 ⟨rfl, hb⟩
      rw [M1.out]
      have c3 : w3.cell? ⟨g, off + i, none⟩ = some (.int .i64 z) := (hb.cell (p := ⟨g, off + i, none⟩) hg).trans hc1
      have B3 := hide (BR.out.trans (hb.mono BR.out.size))
      have S3 : Hid (SliceAt w3 (.slice (some ⟨g, off, none⟩) n n) l) := SR.out.below hb (Nat.le_refl _)
      clear hb hc1 BR SR hg B2 S2
      go_wp2
      go_roundw
      case rel => exact ⟨i + 1, HI.out, by go_num, B3, S3⟩
      case measure => simp [intOf]; have := HI.out; omega
    · obtain rfl : i = n := by omega
      clear B2 S2 hlt hi
      have m14 := hide (S.may14 y)
      have m13 := hide (S.may13 y)
      have m34 := hide S.may34
      have m12 := hide (S.may12 y)
      have m24 := hide (S.may24 y)
      go_wp2_with fail
      go_at_call 9
      refine (may_any 1 4 y wr).mono ?_
      rintro e v0 ⟨rfl, hb⟩
      rw [m14.out]
      have D0 := hide (BR.out.trans (hb.mono BR.out.size))
      clear hb BR
      go_wp2_with fail
      go_at_call 9
      refine (may_any 1 3 y v0).mono ?_
      rintro e v1 ⟨rfl, hb⟩
      rw [m13.out]
      have D1 := hide (D0.out.trans (hb.mono D0.out.size))
      clear hb D0
      go_wp2_with fail
      go_at_call 9
      refine (may_any 3 4 0 v1).mono ?_
      rintro e v2 ⟨rfl, hb⟩
      rw [m34.out]
      have D2 := hide (D1.out.trans (hb.mono D1.out.size))
      clear hb D1
      go_wp2_with fail
      go_at_call 9
      refine (may_any 1 2 y v2).mono ?_
      rintro e v3 ⟨rfl, hb⟩
      rw [m12.out]
      have D3 := hide (D2.out.trans (hb.mono D2.out.size))
      clear hb D2
      go_wp2_with fail
      go_at_call 9
      refine (may_any 2 4 y v3).mono ?_
      rintro e v4 ⟨rfl, hb⟩
      rw [m24.out]
      have D4 := hide (D3.out.trans (hb.mono D3.out.size))
      clear hb D3
      go_wp2_with fail
      go_at_call 16
      refine (known_any v4).mono ?_
      rintro e v5 ⟨rfl, hb⟩
      have D5 := hide (D4.out.trans (hb.mono D4.out.size))
      clear hb D4
      go_wp2
      go_ret
      exact ⟨rfl, D5.out⟩
end Go.Proofs.Ytldkkgdkjddohaa
