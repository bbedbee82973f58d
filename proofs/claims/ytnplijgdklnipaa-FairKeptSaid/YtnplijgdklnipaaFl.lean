/- FairServes' walk. -/
import Derived.Test.YtnplijgdklnipaaFk
namespace Go.Proofs.Ytnplijgdklnipaa
open Go.RowKit
theorem Rmy.lnAt {w : World} {g NN : Nat} {l : List S.Ln} {ys : List S.Ln} (h : Rmy w g NN (l ++ ys)) (hN : l.length ≤ NN) (hb : NN ≤ 100000) : LnAt w (.slice (some ⟨g, 0, none⟩) l.length NN) l := by
  obtain ⟨cur, h1, h2, h3⟩ := h
  refine Rw.lnAt (el := 28) (B := 0) ⟨flat_gen l (lenL l), Or.inr ⟨g, NN, cur, rfl, Nat.zero_le _, h1, hN, by simp [maxLen]; omega, h2, ?_⟩⟩
  have t1 : List.take (l.length * 3) (List.take ((l ++ ys).length * 3) cur.toList) = List.take (l.length * 3) cur.toList := by rw [List.take_take, Nat.min_eq_left (Nat.mul_le_mul_right 3 (by simp))]
  rw [← t1, h3, List.flatMap_append, ← flat_gen l (lenL l), List.take_left]
set_option maxHeartbeats 6400000 in
set_option maxRecDepth 100000 in
theorem fairServes_walk (v : Value) (l0 : List S.Ln) (at_ q n3 n4 n5 : Int) (w : World) (hv : LnAt w v l0) :
   Calls Try.prog 4 #[v, .int .i64 at_, .int .i64 q, .int .i64 n3, .int .i64 n4, .int .i64 n5] w fun e w' => e = .returned (.bool true) ∧ Below w.heap.size w w' := by
  have HV := hide hv
  clear hv
  go_enter Try.func4, Try.ntmps4
  go_wp2_with fail
  go_at_call 12
  refine (small_any v l0 w HV.out).mono ?_
  rintro e W1 ⟨u0, rfl, hu, hb⟩
  obtain ⟨l, hl⟩ : ∃ l, l = S.small l0 := ⟨_, rfl⟩
  rw [← hl] at hu
  have HM : Hid ((∀ x ∈ l, S.Mild x) ∧ l.length ≤ 20) := by rw [hl]; exact ⟨S.small_mild l0, S.small_length l0⟩
  obtain ⟨ao, cap, hu0⟩ := hu.form
  obtain ⟨n, hn⟩ : ∃ n, n = l.length := ⟨_, rfl⟩
  rw [← hn] at hu0
  subst hu0
  have HN := hide hn
  have U1 := hide hu.lnAt
  have B1 := hide hb
  clear hl hu hb HV hn
  go_wp2_with fail
  go_at_call 13
  refine (roomy_l _ l W1 U1.out (by have := HM.out.2; omega)).mono ?_
  rintro e W2 ⟨g1, rfl, hg1, hr, hb⟩
  rw [← HN.out] at hr ⊢
  have R2 := hide hr
  have U2 := hide (U1.out.below hb)
  have B2 := hide (B1.out.trans (hb.mono B1.out.size))
  obtain ⟨NN, hNN⟩ : ∃ NN, NN = n + 80 := ⟨_, rfl⟩
  rw [← hNN] at R2 ⊢
  have HNN : Hid (NN = n + 80 ∧ n ≤ 20) := ⟨hNN, by have := HM.out.2; have := HN.out; omega⟩
  have q1 : (0 : Int) ≤ (n : Int) := by omega
  have q2 : (n : Int) ≤ (NN : Int) := by omega
  clear hr hg1 hb U1 B1 hNN
  go_wp2_with fail
  go_at_call 9
  refine (Serve_any _ l at_ q W2 (by have h := R2.out.lnAt (by have := HN.out; have := HNN.out; omega) (by have := HNN.out; omega); rw [← HN.out] at h; exact h) HM.out.1 (by have := HM.out.2; omega)).mono ?_
  rintro e W3 ⟨um, rfl, hum, hb⟩
  obtain ⟨a, ha⟩ : ∃ a, a = S.pos at_ l.length := ⟨_, rfl⟩
  rw [← ha] at hum ⊢
  have HA := hide ha
  obtain ⟨A, hA⟩ : ∃ A, A = S.after l a q := ⟨_, rfl⟩
  rw [← hA] at hum
  have HAA := hide hA
  obtain ⟨am, cm, hf⟩ := hum.form
  obtain ⟨LA, hLA⟩ : ∃ LA, LA = A.length := ⟨_, rfl⟩
  rw [← hLA] at hf
  subst hf
  have HLA := hide hLA
  obtain ⟨tl, htl⟩ : ∃ tl, tl = S.lane l a := ⟨_, rfl⟩
  obtain ⟨tt, htt⟩ : ∃ tt, tt = S.took l a q := ⟨_, rfl⟩
  obtain ⟨tn, htn⟩ : ∃ tn, tn = (S.next l a : Int) := ⟨_, rfl⟩
  rw [← htl, ← htt, ← htn]
  have HTL := hide htl
  have HTT := hide htt
  have HTN := hide htn
  have M3 := hide hum.lnAt
  have R3 := hide (R2.out.below hb (by obtain ⟨cur, h1, _⟩ := R2.out; exact block_lt_of_row h1))
  have U3 := hide (U2.out.below hb)
  have B3 := hide (B2.out.trans (hb.mono B2.out.size))
  clear ha hA hLA htl htt htn hum hb R2 U2 B2
  go_upto_region 4 with fail
  generalize hX : World.alloc _ _ = X
  have bX : Below W3.heap.size W3 X := by rw [← hX]; exact one_below _ _
  have T4 : Hid (Cel X W3.heap.size 23 (.int .i64 tl) (.int .i64 tt) (.int .i64 tn)) := by
    show Cel _ _ _ _ _ _
    rw [← hX]; exact Cel.new _ _ _ _ _
  have M4 := hide (M3.out.below bX)
  have R4 := hide (R3.out.below bX (by obtain ⟨cur, h1, _⟩ := R3.out; exact block_lt_of_row h1))
  have U4 := hide (U3.out.below bX)
  have B4 := hide (B3.out.trans (bX.mono B3.out.size))
  generalize W3.heap.size = gt at T4 ⊢
  clear hX bX M3 R3 U3 B3
  go_wp2_with fail
  go_at_call 15
  refine (lanes_any _ l X U4.out (by have := HM.out.2; omega)).mono ?_
  rintro e W5 ⟨ul, rfl, hul, hb⟩
  have L5 := hide hul.lnAt
  have T5 := hide (T4.out.below hb)
  have M5 := hide (M4.out.below hb)
  have R5 := hide (R4.out.below hb (by obtain ⟨cur, h1, _⟩ := R4.out; exact block_lt_of_row h1))
  have U5 := hide (U4.out.below hb)
  have B5 := hide (B4.out.trans (hb.mono B4.out.size))
  clear hul hb T4 M4 R4 U4 B4
  go_wp2_with fail
  go_at_call 14
  refine (rServe_any ul l at_ q W5 L5.out HM.out.1 (by have := HM.out.2; omega)).mono ?_
  rintro e W6 ⟨uo, rfl, huo, hb⟩
  rw [← HA.out] at huo ⊢
  rw [← HAA.out] at huo
  rw [← HTL.out, ← HTT.out, ← HTN.out]
  obtain ⟨ao6, co, hf⟩ := huo.form
  rw [← HLA.out] at hf
  subst hf
  have O6 := hide huo.lnAt
  have T6 := hide (T5.out.below hb)
  have M6 := hide (M5.out.below hb)
  have R6 := hide (R5.out.below hb (by obtain ⟨cur, h1, _⟩ := R5.out; exact block_lt_of_row h1))
  have U6 := hide (U5.out.below hb)
  have B6 := hide (B5.out.trans (hb.mono B5.out.size))
  clear huo hb T5 M5 R5 U5 B5 L5
  go_upto_region 5 with fail
  generalize hX : World.alloc _ _ = Y
  have bX : Below W6.heap.size W6 Y := by rw [← hX]; exact one_below _ _
  have V7 : Hid (Cel Y W6.heap.size 33 (.int .i64 tl) (.int .i64 tt) (.int .i64 tn)) := by
    show Cel _ _ _ _ _ _
    rw [← hX]; exact Cel.new _ _ _ _ _
  have T7 := hide (T6.out.below bX)
  have O7 := hide (O6.out.below bX)
  have M7 := hide (M6.out.below bX)
  have R7 := hide (R6.out.below bX (by obtain ⟨cur, h1, _⟩ := R6.out; exact block_lt_of_row h1))
  have U7 := hide (U6.out.below bX)
  have B7 := hide (B6.out.trans (bX.mono B6.out.size))
  generalize W6.heap.size = gu at V7 ⊢
  clear hX bX M6 R6 U6 B6 T6 O6
  obtain ⟨c0, c1, c2⟩ := T7.out.c
  obtain ⟨d0, d1, d2⟩ := V7.out.c
  go_wp2_with fail
  go_at_call 16
  refine (intact_l g1 _ l NN Y (by have := HNN.out; have := HN.out; omega) (by have := HM.out.2; omega) U7.out R7.out).mono ?_
  rintro e W8 ⟨rfl, hb⟩
  have O8 := hide (O7.out.below hb)
  have M8 := hide (M7.out.below hb)
  have B8 := hide (B7.out.trans (hb.mono B7.out.size))
  clear hb c0 c1 c2 d0 d1 d2 T7 V7 O7 M7 R7 U7 B7 q1 q2
  have LB : Hid (LA ≤ 20) := by
    show LA ≤ 20
    rw [HLA.out, HAA.out]
    have : (S.after l a q).length = l.length := by unfold S.after; split <;> simp
    rw [this]; exact HM.out.2
  go_wp2_with fail
  go_loopg [18] LA (fun gk s18 wr => ∃ i : Nat, i + gk = LA ∧ s18 = .int .i64 (i : Int) ∧ Hid (Still W8 wr))
  case atStart => exact ⟨0, by omega, rfl, Still.refl _⟩
  case round =>
    obtain ⟨i, hi, rfl, ST⟩ := hrel
    cases gk with
    | zero =>
      obtain rfl : i = LA := by omega
      have qq : ¬ (i : Int) < (i : Int) := by omega
      clear hi
      go_wp2_with fail
      go_at_call 10
      refine (wait_any n3 n4 q n5 wr).mono ?_
      rintro e w9 ⟨rfl, rfl⟩
      obtain ⟨wt, hwt⟩ : ∃ wt, wt = S.wait n3 n4 q n5 := ⟨_, rfl⟩
      rw [← hwt]
      have WT := hide hwt
      clear hwt
      go_wp2_with fail
      go_at_call 17
      refine (rwait_any n3 n4 q n5 wr).mono ?_
      rintro e w9 ⟨rfl, rfl⟩
      rw [← WT.out]
      go_wp2_with fail
      go_at_call 11
      refine (known_any wr).mono ?_
      rintro e w9 ⟨rfl, hb⟩
      have B9 := hide ((B8.out.trans (Still.blw ST.out _)).trans (hb.mono (B8.out.trans (Still.blw ST.out _)).size))
      clear hb
      go_wp2
      go_ret
      exact ⟨rfl, B9.out⟩
    | succ gO =>
      have p1 : (i : Int) < (LA : Int) := by omega
      have p0 : (0 : Int) ≤ (i : Int) := by omega
      have p2 : IntKind.i64.wrap ((i : Int) + 1) = (i : Int) + 1 := wrap_small (by omega) (by have := LB.out; omega)
      have hiA : i < A.length := by rw [← HLA.out]; omega
      obtain ⟨g, off, rfl, hg, hra⟩ := lane_at (h := (by have h := M8.out; exact h : LnAt W8 (.slice am LA cm) A)) i hiA
      obtain ⟨g2, off2, rfl, hg2, hra2⟩ := lane_at (h := (by have h := O8.out; exact h : LnAt W8 (.slice ao6 LA co) A)) i hiA
      obtain ⟨x, hx⟩ : ∃ x, x = A.getD i S.l0 := ⟨_, rfl⟩
      rw [← hx] at hra hra2
      obtain ⟨c0, c1, c2⟩ := lane_cells (w := wr) (g := g) (o := off + i * 3) (x := x) (fun j y hy => (show wr.cell? ⟨g, off + i * 3 + j, none⟩ = W8.cell? ⟨g, off + i * 3 + j, none⟩ from World.cell?_of_block (by rw [ST.out.1])).trans (hra j y hy))
      obtain ⟨d0, d1, d2⟩ := lane_cells (w := wr) (g := g2) (o := off2 + i * 3) (x := x) (fun j y hy => (show wr.cell? ⟨g2, off2 + i * 3 + j, none⟩ = W8.cell? ⟨g2, off2 + i * 3 + j, none⟩ from World.cell?_of_block (by rw [ST.out.1])).trans (hra2 j y hy))
      obtain ⟨xw, xb, xd⟩ := x
      have HI := hide hi
      clear hra hra2 hg hg2 hx hiA hi
      go_upto_region 10 with fail
      go_quiet (fail)
      go_wp2_with fail
      go_roundg gO
      case rel => exact ⟨i + 1, by have := HI.out; omega, by simp, ST⟩
      case measure => omega
end Go.Proofs.Ytnplijgdklnipaa
