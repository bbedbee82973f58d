/- Chapter 15's runs: QueueNumbers' walk. -/
import Derived.Test.YtghcgkcojgmbkaaQe
namespace Go.Proofs.Ytghcgkcojgmbkaa
open Go.RowKit
theorem encI_flat (xs : List Int) : xs.flatMap encI = S.v8l xs := by
  induction xs with
  | nil => rfl
  | cons x xs ih => rw [List.flatMap_cons, ih]; rfl
theorem Rw.sliceAt {B : Nat} {w : World} {v : Value} {xs : List Int} (h : Rw 3 1 encI B w v xs) (hr : xs.length ≤ 100000) : SliceAt w v xs := by
  unfold Rw at h
  rw [encI_flat] at h
  rcases h.2 with ⟨rfl, h3⟩ | ⟨g, cap, cur, rfl, _, h4, h5, _, h6, h7⟩
  · exact Or.inl ⟨rfl, List.eq_nil_of_length_eq_zero h3⟩
  · exact Room.sliceAt ⟨cur, h4, by omega, h5, by rw [← h7, Nat.mul_one]⟩ hr
theorem Still.blw {w W : World} (h : Still w W) (B : Nat) : Below B w W := ⟨h.2.1, h.2.2.1, h.2.2.2, by rw [h.1]; exact Nat.le_refl _, fun _ _ => by rw [h.1]⟩
namespace S
/-- The first k threes. -/
def th (k : Nat) : List Int := (List.range k).map (fun (i : Nat) => (i : Int) * 3)
theorem th_len (k : Nat) : (th k).length = k := by simp [th]
theorem th_more (k : Nat) : th k ++ [(k : Int) * 3] = th (k + 1) := by simp [th, List.range_succ]
theorem th_no (k : Nat) : ¬ (k : Int) * 3 ∈ th k := by
  simp only [th, List.mem_map, List.mem_range, not_exists, not_and]
  intro i hi e
  omega
theorem th_push (k : Nat) (hk : k < 64) : pushA (th k) ((k : Int) * 3) = ((k : Int), false, 0) := by
  rw [pushA_new (th_no k) (by rw [th_len]; omega), th_len]
theorem th_pushL (k : Nat) (hk : k < 64) : pushL (th k) ((k : Int) * 3) = th (k + 1) := by
  rw [pushL_new (th_no k) (by rw [th_len]; omega), th_more]
end S
def qa : List Int := S.th 64
def qb : List Int := (S.th 64).drop 2
def qc : List Int := qb ++ [0]
theorem n1 : S.pushA qa (-1) = (0, false, 4) := by kernel_rfl
theorem n1b : S.pushL qa (-1) = qa := by kernel_rfl
theorem n2 : S.pushA qa 9 = (3, true, 0) := by kernel_rfl
theorem n2b : S.pushL qa 9 = qa := by kernel_rfl
theorem n3 : S.many qa (-1) = 0 := by kernel_rfl
theorem n4 : S.many qa 2 = 2 := by kernel_rfl
theorem n4b : qa.take 2 = [0, 3] := by kernel_rfl
theorem n5 : S.placeA qb 0 = (0, false) := by kernel_rfl
theorem n6 : S.pushA qb 0 = (62, false, 0) := by kernel_rfl
theorem n6b : S.pushL qb 0 = qc := by kernel_rfl
theorem n7 : qc.length = 63 := by kernel_rfl
theorem n8 : S.many qc 99 = 63 := by kernel_rfl
theorem n8b : qc.take 63 = qc := by kernel_rfl
theorem n8c : qc.drop 63 = [] := by kernel_rfl
theorem n0 : qa.take 0 = [] := rfl
theorem n0b : qa.drop 0 = qa := rfl
theorem n4c : qa.drop 2 = qb := rfl

set_option maxHeartbeats 6400000 in
set_option maxRecDepth 100000 in
theorem queueNumbers_walk (w : World) : Calls Try.prog 3 #[] w fun e w' => e = .returned (.bool true) ∧ Below w.heap.size w w' := by
  go_enter Try.func3, Try.ntmps3
  go_wp2_with fail
  go_at_call 7
  refine (newI_any w).mono ?_
  rintro e w1 ⟨rfl, hq, hb⟩
  have Q1 := hide hq
  have B1 := hide hb
  clear hq hb
  go_wp2_with fail
  go_loopw [2] (fun s2 wr => ∃ k : Nat, k ≤ 64 ∧ s2 = .int .i64 (k : Int) ∧ ∃ v, Hid (QI wr w.heap.size v (S.th k)) ∧ Hid (Below w.heap.size w wr)) (fun s2 _ => 64 - (intOf s2).toNat)
  case atStart => exact ⟨0, by omega, rfl, _, Q1, B1⟩
  case round =>
    obtain ⟨k, hk, rfl, v, QK, BK⟩ := hrel
    clear Q1 B1
    by_cases h64 : k < 64
    · have A1 := hide (S.th_push k h64)
      have A2 := hide (S.th_pushL k h64)
      have q0 : IntKind.i64.wrap ((k : Int) * 3) = (k : Int) * 3 := by rw [IntKind.wrap_i64]; omega
      have q1 : (k : Int) < 64 := by omega
      have q2 : IntKind.i64.wrap ((k : Int) + 1) = ((k + 1 : Nat) : Int) := by rw [IntKind.wrap_i64]; omega
      go_wp2_with fail
      go_at_call 8
      refine (pushI_any w.heap.size wr w.heap.size v (S.th k) ((k : Int) * 3) QK.out (Nat.le_of_lt QK.out.g_lt)).mono ?_
      rintro e w2 ⟨v2, rfl, hq, ht⟩
      rw [A1.out]
      rw [A2.out] at hq
      have Q2 := hide hq
      have B2 := hide (BK.out.trans (QI.run QK.out ht))
      clear hq ht BK QK
      go_wp2
      exact ⟨⟨k + 1, by omega, by simp, _, Q2, B2⟩, by simp [intOf]; omega⟩
    obtain rfl : k = 64 := by omega
    replace QK : Hid (QI wr w.heap.size v qa) := QK
    have q1 : ¬ (64 : Int) < 64 := by omega
    clear hk h64
    have Q2 := QK
    have B2 := BK
    clear QK BK
    go_wp2_with fail
    go_at_call 8
    refine (pushI_any w.heap.size wr w.heap.size v qa (-1) Q2.out (Nat.le_of_lt Q2.out.g_lt)).mono ?_
    rintro e w3 ⟨v3, rfl, hq, ht⟩
    rw [n1]
    rw [n1b] at hq
    have Q3 := hide hq
    have B3 := hide (B2.out.trans (QI.run Q2.out ht))
    clear hq ht B2 Q2
    go_wp2_with fail
    go_at_call 8
    refine (pushI_any w.heap.size w3 w.heap.size v3 qa 9 Q3.out (Nat.le_of_lt Q3.out.g_lt)).mono ?_
    rintro e w4 ⟨v4, rfl, hq, ht⟩
    rw [n2]
    rw [n2b] at hq
    have Q4 := hide hq
    have B4 := hide (B3.out.trans (QI.run Q3.out ht))
    clear hq ht B3 Q3
    go_wp2_with fail
    go_at_call 9
    refine (takeI_any w.heap.size w4 w.heap.size v4 qa (-1) Q4.out).mono ?_
    rintro e w5 ⟨u5, v5, rfl, hu, hq, ht, ho⟩
    rw [n3] at hu hq
    rw [n0b] at hq
    rw [n0] at hu
    obtain ⟨a5, c5, rfl⟩ := hu.form
    have Q5 := hide hq
    have B5 := hide (B4.out.trans (QI.run Q4.out ht))
    clear hq ht B4 Q4 hu ho
    go_wp2_with fail
    go_at_call 9
    refine (takeI_any w.heap.size w5 w.heap.size v5 qa 2 Q5.out).mono ?_
    rintro e w6 ⟨u6, v6, rfl, hu, hq, ht, ho⟩
    rw [n4] at hu hq
    rw [n4c] at hq
    rw [n4b] at hu
    have U6 := hide hu
    have O6 := hide ho
    have P5 := hide (And.intro (show w.heap.size < w5.heap.size from Q5.out.g_lt) (fun j (hj : v5.ownBlock = some j) => Q5.out.v_lt hj))
    obtain ⟨a6, c6, rfl⟩ := hu.form
    have Q6 := hide hq
    have B6 := hide (B5.out.trans (QI.run Q5.out ht))
    clear hq ht B5 Q5 hu ho
    go_wp2_with fail
    go_at_call 10
    refine (placeI_any w.heap.size w6 w.heap.size v6 qb 0 Q6.out).mono ?_
    rintro e w7 ⟨rfl, hb⟩
    rw [n5]
    have Q7 : Hid (QI w7 w.heap.size v6 qb) := Q6.out.below hb
    have B7 := hide (B6.out.trans (hb.mono B6.out.size))
    have U7 := hide (U6.out.below hb)
    clear hb B6 Q6 U6
    go_wp2_with fail
    go_at_call 8
    refine (pushI_any w.heap.size w7 w.heap.size v6 qb 0 Q7.out (Nat.le_of_lt Q7.out.g_lt)).mono ?_
    rintro e w8 ⟨v8, rfl, hq, ht⟩
    rw [n6]
    rw [n6b] at hq
    have Q8 := hide hq
    have B8 := hide (B7.out.trans (QI.run Q7.out ht))
    have T8 := hide ht
    clear hq ht B7
    have q9 : (0 : Int) = 0 := rfl
    go_wp2_with fail
    go_at_call 11
    generalize hX : w8.alloc _ = X
    have b9 : Below w8.heap.size w8 X := by rw [← hX]; exact (Below.refl _ _).alloc (Nat.le_refl _) _
    have SN : SliceAt X (.slice (some ⟨w8.heap.size, 0, none⟩) 2 2) [0, 3] := Room.sliceAt (bs := [0, 3]) ⟨#[.int .i64 0, .int .i64 3], by rw [← hX]; exact heap_alloc_new _ _, rfl, by simp, rfl⟩ (by simp)
    have SU : SliceAt X (.slice a6 2 c6) [0, 3] := (((U7.out.chg T8.out.chg (fun j hj c => by
      have h1 := (U7.out.blk hj).1
      rcases c with c | c
      · rw [c] at h1; have := P5.out.1; omega
      · have := P5.out.2 j (by rw [← O6.out]; exact c); omega)).below b9).sliceAt (by simp))
    refine (same_any _ _ [0, 3] X SU SN).mono ?_
    rintro e w9 ⟨rfl, hs⟩
    have B9 := hide (B8.out.trans ((b9.trans (Still.blw hs _)).mono B8.out.size))
    have Q9 : Hid (QI w9 w.heap.size v8 qc) := Q8.out.below (b9.trans (Still.blw hs _))
    clear b9 SN SU hs hX B8 Q8
    go_wp2_with fail
    go_at_call 12
    refine (lenI_any w.heap.size w9 w.heap.size v8 qc Q9.out).mono ?_
    rintro e w10 ⟨rfl, hs⟩
    rw [n7]
    have B10 := hide (B9.out.trans (Still.blw hs _))
    have Q10 : Hid (QI w10 w.heap.size v8 qc) := Q9.out.below (Still.blw hs _)
    clear hs B9 Q9
    go_wp2_with fail
    go_at_call 9
    refine (takeI_any w.heap.size w10 w.heap.size v8 qc 99 Q10.out).mono ?_
    rintro e w11 ⟨u11, v11, rfl, hu, hq, ht, -⟩
    rw [n8] at hu hq
    rw [n8b] at hu
    rw [n8c] at hq
    obtain ⟨a11, c11, rfl⟩ := hu.form
    rw [n7]
    have Q11 := hide hq
    have B11 := hide (B10.out.trans (QI.run Q10.out ht))
    clear hq ht hu B10 Q10
    go_wp2_with fail
    go_at_call 12
    refine (lenI_any w.heap.size w11 w.heap.size v11 [] Q11.out).mono ?_
    rintro e w12 ⟨rfl, hs⟩
    have B12 := hide (B11.out.trans (Still.blw hs _))
    clear hs B11 Q11
    go_wp2_with fail
    go_at_call 13
    refine (known_any w12).mono ?_
    rintro e w13 ⟨rfl, hb⟩
    have B13 := hide (B12.out.trans (hb.mono B12.out.size))
    clear hb B12
    go_wp2
    go_ret
    exact ⟨rfl, B13.out⟩
end Go.Proofs.Ytghcgkcojgmbkaa
