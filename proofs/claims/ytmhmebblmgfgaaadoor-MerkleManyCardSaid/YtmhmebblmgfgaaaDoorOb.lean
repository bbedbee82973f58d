/- MerkleMany. -/
import Derived.Test.YtmhmebblmgfgaaaDoorOa
import Derived.Test.YtmhmebblmgfgaaaDoorNd
import Derived.Test.YtmhmebblmgfgaaaDoorMj
import Derived.Test.YtmhmebblmgfgaaaDoorWithin
namespace Go.Proofs.YtmhmebblmgfgaaaDoor
open Go.RowKit

theorem proveNo_two (l : List (List UInt8)) (i : Nat) : S.proveNo l i = 0 ∨ S.proveNo l i = 25 := by unfold S.proveNo; split <;> simp
theorem compNo_two (l : List (List UInt8)) (i : Nat) : S.compNo l i = 0 ∨ S.compNo l i = 25 := by unfold S.compNo; split <;> simp
set_option maxHeartbeats 8000000 in
set_option maxRecDepth 10000 in
theorem merkleMany_walk (a n0 : Int) (i0 f0 : Nat) (w : World) (h1 : -9223372036854775808 ≤ n0) (h2 : n0 ≤ 9223372036854775807) (hi : i0 < 18446744073709551616) (hf : f0 < 18446744073709551616) (hK : KAt w) :
   Calls Tryd.prog 5 #[.int .i64 a, .int .i64 n0, .int .u64 (i0 : Int), .int .u64 (f0 : Int)] w fun e w' => e = .returned (.bool true) ∧ Below w.heap.size w w' := by
  have HK := hide hK
  have h0 := hK.pos
  clear hK
  obtain ⟨C, hC⟩ : ∃ C : UInt8, a % 256 = (C.toNat : Int) := ⟨UInt8.ofNat (a % 256).toNat, by rw [UInt8.toNat_ofNat']; omega⟩
  have q0 : IntKind.u8.wrap a = (C.toNat : Int) := by rw [IntKind.wrap_u8]; exact hC
  go_enter Tryd.func5, Tryd.ntmps5
  go_wp2_with fail
  refine (within_any n0 200 w h1 h2 (by omega) (by omega)).mono ?_
  rintro e w1 ⟨rfl, rfl⟩
  have hj := S.within_le n0 200 (by omega)
  obtain ⟨N, hN⟩ : ∃ N, N = S.within n0 200 := ⟨_, rfl⟩
  rw [← hN] at hj ⊢
  clear hN h1 h2
  have hN200 : N ≤ 200 := by omega
  go_wp2_with fail
  clear q0 hC hj
  refine (list_any N C (by omega) w).mono ?_
  rintro e w1 ⟨vl, rfl, t1, b1⟩
  obtain ⟨lo, lc, rfl⟩ := t1.form
  have hlen : (S.lst N C).length = N := S.lst_length _ _
  have hb := t1.bsAt
  obtain ⟨L, hL⟩ : ∃ L, L = S.lst N C := ⟨_, rfl⟩
  have hfit : Fit L := by rw [hL]; exact S.lst_fit _ _
  rw [← hL] at hb hlen ⊢
  rw [hlen] at hb ⊢
  have HLN := hide hlen
  have HFit := hide hfit
  have V1 := hide hb
  have B1 := hide b1
  clear t1 b1 hlen hb hL hfit
  go_wp2_with fail
  refine (hasher_any a w1).mono ?_
  rintro e w2 ⟨gh, gT, rfl, hs2, b2⟩
  have HS := hide hs2
  have VL := hide (V1.out.below b2 (Nat.le_refl _))
  have B2 := hide (B1.out.trans (b2.mono B1.out.size))
  clear hs2 b2 V1 B1
  by_cases hz : N = 0
  · subst hz
    go_wp2_with fail
    refine (prove_any a L _ i0 w2 (by omega) (by rw [HLN.out]; omega) VL.out HFit.out (HK.out.below B2.out h0)).mono ?_
    rintro e w3 ⟨⟨vp, rfl, p3⟩, b3⟩
    obtain ⟨po, pc, rfl⟩ := p3.form
    have P3 := hide (p3.dgAt (by have := S.prove_len a L i0 8 (by rw [HLN.out]; omega); omega) (S.prove_len32 a L i0))
    obtain ⟨ps, hps⟩ : ∃ ps, ps = S.prove a L i0 := ⟨_, rfl⟩
    obtain ⟨pn, hpn⟩ : ∃ pn, pn = S.proveNo L i0 := ⟨_, rfl⟩
    have LP := hide (show ps.length ≤ 8 by rw [hps]; exact S.prove_len a L i0 8 (by rw [HLN.out]; omega))
    rw [← hps] at P3
    rw [← hpn, ← hps]
    have HPS := hide hps
    have HPN := hide hpn
    have B3 := hide b3
    have V3 := hide (VL.out.below b3 (Nat.le_refl _))
    have H3 := hide (HS.out.below b3 (Nat.le_refl _))
    have BB3 := hide (B2.out.trans (b3.mono B2.out.size))
    obtain ⟨pm, hpm⟩ : ∃ pm, pm = ps.length := ⟨_, rfl⟩
    rw [← hpm] at P3 LP ⊢
    have qp := LP.out
    clear p3 b3 hps hpn hpm B3
    go_wp2_with fail
    refine (hprove_any gh gT a L _ i0 w3 (by omega) (by rw [HLN.out]; omega) V3.out HFit.out H3.out).mono ?_
    rintro e w4 ⟨⟨vq, rfl, p4⟩, b4⟩
    obtain ⟨qo, qc, rfl⟩ := p4.form
    rw [← HPN.out, ← HPS.out]
    rw [← HPS.out] at p4
    have Q4 := hide (p4.dgAt (by obtain ⟨_, _, _, h, _⟩ := P3.out; exact h) (by obtain ⟨_, _, _, _, h, _⟩ := P3.out; exact h))
    have P4 := hide (P3.out.below b4)
    have V4 := hide (V3.out.below b4 (Nat.le_refl _))
    have H4 := hide (H3.out.below b4 (Nat.le_refl _))
    have BB4 := hide (BB3.out.trans (b4.mono BB3.out.size))
    clear p4 b4 P3 V3 H3 BB3
    go_wp2_with fail
    refine (compare_any a L _ f0 w4 (by omega) (by rw [HLN.out]; omega) V4.out HFit.out (HK.out.below BB4.out h0)).mono ?_
    rintro e w5 ⟨⟨vr, rfl, p5⟩, b5⟩
    obtain ⟨ro, rc, rfl⟩ := p5.form
    have R5 := hide (p5.dgAt (by have := S.comp_len a L f0 8 (by rw [HLN.out]; omega); omega) (S.comp_len32 a L f0))
    obtain ⟨rs, hrs⟩ : ∃ rs, rs = S.comp_ a L f0 := ⟨_, rfl⟩
    obtain ⟨rn, hrn⟩ : ∃ rn, rn = S.compNo L f0 := ⟨_, rfl⟩
    have LR := hide (show rs.length ≤ 9 by rw [hrs]; exact S.comp_len a L f0 8 (by rw [HLN.out]; omega))
    rw [← hrs] at R5
    rw [← hrn, ← hrs]
    have HRS := hide hrs
    have HRN := hide hrn
    have P5 := hide (P4.out.below b5)
    have Q5 := hide (Q4.out.below b5)
    have V5 := hide (V4.out.below b5 (Nat.le_refl _))
    have H5 := hide (H4.out.below b5 (Nat.le_refl _))
    have BB5 := hide (BB4.out.trans (b5.mono BB4.out.size))
    obtain ⟨rm, hrm⟩ : ∃ rm, rm = rs.length := ⟨_, rfl⟩
    rw [← hrm] at R5 LR ⊢
    have qr := LR.out
    clear p5 b5 hrs hrn hrm P4 Q4 V4 H4 BB4
    go_wp2_with fail
    refine (hcompare_any gh gT a L _ f0 w5 (by omega) (by rw [HLN.out]; omega) V5.out HFit.out H5.out).mono ?_
    rintro e w6 ⟨⟨vs, rfl, p6⟩, b6⟩
    obtain ⟨so, sc, rfl⟩ := p6.form
    rw [← HRN.out, ← HRS.out]
    rw [← HRS.out] at p6
    have S6 := hide (p6.dgAt (by obtain ⟨_, _, _, h, _⟩ := R5.out; exact h) (by obtain ⟨_, _, _, _, h, _⟩ := R5.out; exact h))
    have P6 := hide (P5.out.below b6)
    have Q6 := hide (Q5.out.below b6)
    have R6 := hide (R5.out.below b6)
    have V6 := hide (V5.out.below b6 (Nat.le_refl _))
    have H6 := hide (H5.out.below b6 (Nat.le_refl _))
    have BB6 := hide (BB5.out.trans (b6.mono BB5.out.size))
    clear p6 b6 P5 Q5 R5 V5 H5 BB5
    go_wp2_with fail
    refine (root_any a _ L w6 V6.out (by rw [HLN.out]; omega) HFit.out (HK.out.below BB6.out h0)).mono ?_
    rintro e w7 ⟨rfl, b7⟩
    obtain ⟨D, hD⟩ : ∃ D, D = S.root a L := ⟨_, rfl⟩
    have hDl : D.length = 32 := by rw [hD, S.root_length]
    have heq : ∀ w, (Op.equalIn 10000 31 (.agg (S.v8 D)) (.agg (S.v8 D))).run Tryd.prog w = .ok true w := fun w => equal_dig D D hDl hDl true (by simp) w
    rw [← hD]
    have HD := hide hD
    have P7 := hide (P6.out.below b7)
    have Q7 := hide (Q6.out.below b7)
    have R7 := hide (R6.out.below b7)
    have S7 := hide (S6.out.below b7)
    have V7 := hide (V6.out.below b7 (Nat.le_refl _))
    have H7 := hide (H6.out.below b7 (Nat.le_refl _))
    have BB7 := hide (BB6.out.trans (b7.mono BB6.out.size))
    clear b7 hD hDl P6 Q6 R6 S6 V6 H6 BB6
    go_wp2_with fail
    refine (hroot_any gh gT a _ L _ w7 rfl (by rw [HLN.out]; omega) V7.out HFit.out H7.out).mono ?_
    rintro e w8 ⟨rfl, b8⟩
    rw [← HD.out]
    have P8 := hide (P7.out.below b8)
    have Q8 := hide (Q7.out.below b8)
    have R8 := hide (R7.out.below b8)
    have S8 := hide (S7.out.below b8)
    have BB8 := hide (BB7.out.trans (b8.mono BB7.out.size))
    clear b8 P7 Q7 R7 S7 V7 H7 BB7
    go_wp2_with fail
    refine (same_dg _ _ ps w8 P8.out Q8.out).mono ?_
    rintro e w9 ⟨rfl, b9⟩
    have R9 := hide (R8.out.of_heap b9.1)
    have S9 := hide (S8.out.of_heap b9.1)
    have BB9 := hide (BB8.out.trans (b9.below _))
    clear b9 P8 Q8 R8 S8 BB8 heq
    go_wp2_with fail
    refine (same_dg _ _ rs w9 R9.out S9.out).mono ?_
    rintro e w10 ⟨rfl, b10⟩
    have BB10 := hide (BB9.out.trans (b10.below _))
    clear b10 R9 S9 BB9
    go_wp2_with fail
    refine (known_any w10 (HK.out.below BB10.out h0)).mono ?_
    rintro e w11 ⟨rfl, b11⟩
    have BB11 := hide (BB10.out.trans (b11.mono BB10.out.size))
    clear b11
    go_wp2_with fail
    go_ret
    exact ⟨rfl, BB11.out⟩
  · have q1 : (0 : Int) < (N : Int) := by omega
    have q2 : IntKind.i64.wrap ((N : Int) + 1) = (N : Int) + 1 := by rw [IntKind.wrap_i64]; omega
    have q3 : IntKind.i64.wrap ((N : Int) + 2) = (N : Int) + 2 := by rw [IntKind.wrap_i64]; omega
    have q4 : IntKind.u64.wrap ((N : Int) + 1) = (N : Int) + 1 := by rw [IntKind.wrap_u64]; omega
    have q5 : IntKind.u64.wrap ((N : Int) + 2) = (N : Int) + 2 := by rw [IntKind.wrap_u64]; omega
    obtain ⟨x, hx⟩ : ∃ x, x = i0 % (N + 1) := ⟨_, rfl⟩
    obtain ⟨y, hy⟩ : ∃ y, y = f0 % (N + 2) := ⟨_, rfl⟩
    have q6 : (i0 : Int).tmod ((N : Int) + 1) = (x : Int) := by rw [hx]; exact (Int.ofNat_tmod i0 (N + 1)).symm
    have q7 : (f0 : Int).tmod ((N : Int) + 2) = (y : Int) := by rw [hy]; exact (Int.ofNat_tmod f0 (N + 2)).symm
    have q8 : ¬ (N : Int) + 1 = 0 := by omega
    have q9 : ¬ (N : Int) + 2 = 0 := by omega
    have hx2 : x < 18446744073709551616 := by rw [hx]; exact Nat.lt_of_le_of_lt (Nat.mod_le _ _) hi
    have hy2 : y < 18446744073709551616 := by rw [hy]; exact Nat.lt_of_le_of_lt (Nat.mod_le _ _) hf
    clear hx hy
    go_wp2_with fail
    clear q1 q2 q3 q4 q5 q6 q7 q8 q9
    refine (prove_any a L _ x w2 (by omega) (by rw [HLN.out]; omega) VL.out HFit.out (HK.out.below B2.out h0)).mono ?_
    rintro e w3 ⟨⟨vp, rfl, p3⟩, b3⟩
    obtain ⟨po, pc, rfl⟩ := p3.form
    have P3 := hide (p3.dgAt (by have := S.prove_len a L x 8 (by rw [HLN.out]; omega); omega) (S.prove_len32 a L x))
    obtain ⟨ps, hps⟩ : ∃ ps, ps = S.prove a L x := ⟨_, rfl⟩
    obtain ⟨pn, hpn⟩ : ∃ pn, pn = S.proveNo L x := ⟨_, rfl⟩
    have LP := hide (show ps.length ≤ 8 by rw [hps]; exact S.prove_len a L x 8 (by rw [HLN.out]; omega))
    rw [← hps] at P3
    rw [← hpn, ← hps]
    have HPS := hide hps
    have HPN := hide hpn
    have B3 := hide b3
    have V3 := hide (VL.out.below b3 (Nat.le_refl _))
    have H3 := hide (HS.out.below b3 (Nat.le_refl _))
    have BB3 := hide (B2.out.trans (b3.mono B2.out.size))
    obtain ⟨pm, hpm⟩ : ∃ pm, pm = ps.length := ⟨_, rfl⟩
    rw [← hpm] at P3 LP ⊢
    have qp := LP.out
    clear p3 b3 hps hpn hpm B3
    go_wp2_with fail
    refine (hprove_any gh gT a L _ x w3 (by omega) (by rw [HLN.out]; omega) V3.out HFit.out H3.out).mono ?_
    rintro e w4 ⟨⟨vq, rfl, p4⟩, b4⟩
    obtain ⟨qo, qc, rfl⟩ := p4.form
    rw [← HPN.out, ← HPS.out]
    rw [← HPS.out] at p4
    have Q4 := hide (p4.dgAt (by obtain ⟨_, _, _, h, _⟩ := P3.out; exact h) (by obtain ⟨_, _, _, _, h, _⟩ := P3.out; exact h))
    have P4 := hide (P3.out.below b4)
    have V4 := hide (V3.out.below b4 (Nat.le_refl _))
    have H4 := hide (H3.out.below b4 (Nat.le_refl _))
    have BB4 := hide (BB3.out.trans (b4.mono BB3.out.size))
    clear p4 b4 P3 V3 H3 BB3
    go_wp2_with fail
    refine (compare_any a L _ y w4 (by omega) (by rw [HLN.out]; omega) V4.out HFit.out (HK.out.below BB4.out h0)).mono ?_
    rintro e w5 ⟨⟨vr, rfl, p5⟩, b5⟩
    obtain ⟨ro, rc, rfl⟩ := p5.form
    have R5 := hide (p5.dgAt (by have := S.comp_len a L y 8 (by rw [HLN.out]; omega); omega) (S.comp_len32 a L y))
    obtain ⟨rs, hrs⟩ : ∃ rs, rs = S.comp_ a L y := ⟨_, rfl⟩
    obtain ⟨rn, hrn⟩ : ∃ rn, rn = S.compNo L y := ⟨_, rfl⟩
    have LR := hide (show rs.length ≤ 9 by rw [hrs]; exact S.comp_len a L y 8 (by rw [HLN.out]; omega))
    rw [← hrs] at R5
    rw [← hrn, ← hrs]
    have HRS := hide hrs
    have HRN := hide hrn
    have P5 := hide (P4.out.below b5)
    have Q5 := hide (Q4.out.below b5)
    have V5 := hide (V4.out.below b5 (Nat.le_refl _))
    have H5 := hide (H4.out.below b5 (Nat.le_refl _))
    have BB5 := hide (BB4.out.trans (b5.mono BB4.out.size))
    obtain ⟨rm, hrm⟩ : ∃ rm, rm = rs.length := ⟨_, rfl⟩
    rw [← hrm] at R5 LR ⊢
    have qr := LR.out
    clear p5 b5 hrs hrn hrm P4 Q4 V4 H4 BB4
    go_wp2_with fail
    refine (hcompare_any gh gT a L _ y w5 (by omega) (by rw [HLN.out]; omega) V5.out HFit.out H5.out).mono ?_
    rintro e w6 ⟨⟨vs, rfl, p6⟩, b6⟩
    obtain ⟨so, sc, rfl⟩ := p6.form
    rw [← HRN.out, ← HRS.out]
    rw [← HRS.out] at p6
    have S6 := hide (p6.dgAt (by obtain ⟨_, _, _, h, _⟩ := R5.out; exact h) (by obtain ⟨_, _, _, _, h, _⟩ := R5.out; exact h))
    have P6 := hide (P5.out.below b6)
    have Q6 := hide (Q5.out.below b6)
    have R6 := hide (R5.out.below b6)
    have V6 := hide (V5.out.below b6 (Nat.le_refl _))
    have H6 := hide (H5.out.below b6 (Nat.le_refl _))
    have BB6 := hide (BB5.out.trans (b6.mono BB5.out.size))
    clear p6 b6 P5 Q5 R5 V5 H5 BB5
    go_wp2_with fail
    refine (root_any a _ L w6 V6.out (by rw [HLN.out]; omega) HFit.out (HK.out.below BB6.out h0)).mono ?_
    rintro e w7 ⟨rfl, b7⟩
    obtain ⟨D, hD⟩ : ∃ D, D = S.root a L := ⟨_, rfl⟩
    have hDl : D.length = 32 := by rw [hD, S.root_length]
    have heq : ∀ w, (Op.equalIn 10000 31 (.agg (S.v8 D)) (.agg (S.v8 D))).run Tryd.prog w = .ok true w := fun w => equal_dig D D hDl hDl true (by simp) w
    rw [← hD]
    have HD := hide hD
    have P7 := hide (P6.out.below b7)
    have Q7 := hide (Q6.out.below b7)
    have R7 := hide (R6.out.below b7)
    have S7 := hide (S6.out.below b7)
    have V7 := hide (V6.out.below b7 (Nat.le_refl _))
    have H7 := hide (H6.out.below b7 (Nat.le_refl _))
    have BB7 := hide (BB6.out.trans (b7.mono BB6.out.size))
    clear b7 hD hDl P6 Q6 R6 S6 V6 H6 BB6
    go_wp2_with fail
    refine (hroot_any gh gT a _ L _ w7 rfl (by rw [HLN.out]; omega) V7.out HFit.out H7.out).mono ?_
    rintro e w8 ⟨rfl, b8⟩
    rw [← HD.out]
    have P8 := hide (P7.out.below b8)
    have Q8 := hide (Q7.out.below b8)
    have R8 := hide (R7.out.below b8)
    have S8 := hide (S7.out.below b8)
    have BB8 := hide (BB7.out.trans (b8.mono BB7.out.size))
    clear b8 P7 Q7 R7 S7 V7 H7 BB7
    go_wp2_with fail
    refine (same_dg _ _ ps w8 P8.out Q8.out).mono ?_
    rintro e w9 ⟨rfl, b9⟩
    have R9 := hide (R8.out.of_heap b9.1)
    have S9 := hide (S8.out.of_heap b9.1)
    have BB9 := hide (BB8.out.trans (b9.below _))
    clear b9 P8 Q8 R8 S8 BB8 heq
    go_wp2_with fail
    refine (same_dg _ _ rs w9 R9.out S9.out).mono ?_
    rintro e w10 ⟨rfl, b10⟩
    have BB10 := hide (BB9.out.trans (b10.below _))
    clear b10 R9 S9 BB9
    go_wp2_with fail
    refine (known_any w10 (HK.out.below BB10.out h0)).mono ?_
    rintro e w11 ⟨rfl, b11⟩
    have BB11 := hide (BB10.out.trans (b11.mono BB10.out.size))
    clear b11
    go_wp2_with fail
    go_ret
    exact ⟨rfl, BB11.out⟩
end Go.Proofs.YtmhmebblmgfgaaaDoor
