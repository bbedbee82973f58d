/- CompactOf. -/
import Derived.Test.YtkljajfgdelfgaaDoorIe
import Derived.Test.YtkljajfgdelfgaaDoorOg
import Derived.Test.YtkljajfgdelfgaaDoorHc
namespace Go.Proofs.YtkljajfgdelfgaaDoor
open Go.RowKit

theorem S.few_fit (bss : List (List UInt8)) (n m : Nat) (hm : m ≤ 100000) : Fit (S.few bss n m) := fun b hb => by
  have := S.few_mem bss n m b hb
  omega
theorem C.ofA_few (a : Int) (l : List (List UInt8)) (b e : Nat) : (C.ofA a l b e).hs.length ≤ 64 := by
  rw [C.ofA]
  split
  · exact Nat.zero_le _
  · exact C.ofs_few a l b e
theorem C.ofA_32 (a : Int) (l : List (List UInt8)) (b e : Nat) : ∀ d ∈ (C.ofA a l b e).hs, d.length = 32 := by
  rw [C.ofA]
  split
  · intro d hd; exact absurd hd (by simp [C.no25])
  · exact C.ofs_32 a l b e
set_option maxHeartbeats 16000000 in
set_option maxRecDepth 10000 in
theorem compactOf_walk (a : Int) (v : Value) (bss : List (List UInt8)) (b e : Nat) (w : World) (hv : BsAt w v bss) (hmax : bss.length ≤ 140737488355328) (hb : b < 18446744073709551616) (he : e < 18446744073709551616) (hK : KAt w) :
   Calls Tryd.prog 5 #[.int .i64 a, v, .int .u64 (b : Int), .int .u64 (e : Int)] w fun e w' => e = .returned (.bool true) ∧ Below w.heap.size w w' := by
  obtain ⟨ao, cap0, rfl, hcap0⟩ := hv.form
  obtain ⟨N0, hN0⟩ : ∃ N, N = bss.length := ⟨_, rfl⟩
  have HV0 := hide hv
  rw [← hN0] at HV0 hmax ⊢
  have HN0 := hide hN0
  have HK := hide hK
  have h0 := hK.pos
  clear hK hv hcap0 hN0
  go_enter Tryd.func5, Tryd.ntmps5
  go_wp2_with fail
  refine (few_any bss _ 40 60 w (by omega) (by omega) HV0.out (by rw [← HN0.out]; exact hmax)).mono ?_
  rintro r w1 ⟨vl, rfl, t1, b1⟩
  obtain ⟨L, hL⟩ : ∃ L, L = S.few bss 40 60 := ⟨_, rfl⟩
  have hlen : L.length ≤ 40 := by rw [hL, S.few_length]; omega
  have hfit : Fit L := by rw [hL]; exact S.few_fit _ _ _ (by omega)
  rw [← hL] at t1
  obtain ⟨lo, lc, rfl⟩ := t1.form
  have V1 := hide t1.bsAt
  have HF := hide hfit
  obtain ⟨N, hN⟩ : ∃ N, N = L.length := ⟨_, rfl⟩
  rw [← hN] at V1 hlen ⊢
  have HN := hide (show L.length ≤ 256 by omega)
  have B1 := hide b1
  clear t1 b1 hL hfit hN HV0
  go_wp2_with fail
  obtain ⟨A, hA⟩ : ∃ A, A = C.ofA a L b e := ⟨_, rfl⟩
  have HA := hide hA
  have AL := hide (show A.hs.length ≤ 1000000 by rw [hA]; exact Nat.le_trans (C.ofA_few a L b e) (by omega))
  have A32 := hide (show ∀ d ∈ A.hs, d.length = 32 by rw [hA]; exact C.ofA_32 a L b e)
  clear hA
  refine (of_any a _ L b e w1 hb he V1.out HN.out HF.out (HK.out.below B1.out h0)).mono ?_
  rintro r w2 ha
  rw [← HA.out] at ha
  obtain ⟨⟨v1, rfl, d2⟩, b2⟩ := ha
  have D2 := hide (d2.dgAt AL.out A32.out)
  obtain ⟨do1, dc1, rfl⟩ := d2.form
  obtain ⟨hs, hhs⟩ : ∃ x, x = A.hs := ⟨_, rfl⟩
  obtain ⟨Ab, hAb⟩ : ∃ x, x = A.b := ⟨_, rfl⟩
  obtain ⟨Ae, hAe⟩ : ∃ x, x = A.e := ⟨_, rfl⟩
  obtain ⟨An, hAn⟩ : ∃ x, x = A.no := ⟨_, rfl⟩
  rw [← hhs] at D2
  rw [← hAb, ← hAe, ← hAn, ← hhs]
  have HAA := hide (And.intro hhs (And.intro hAb (And.intro hAe hAn)))
  obtain ⟨dn, hdn⟩ : ∃ x, x = hs.length := ⟨_, rfl⟩
  rw [← hdn] at D2 ⊢
  have HDN := hide hdn
  have V2 := hide (V1.out.below b2 (Nat.le_refl _))
  have B2 := hide (B1.out.trans (b2.mono B1.out.size))
  clear d2 b2 hhs hAb hAe hAn hdn V1 B1
  go_upto_region 3 with fail
  generalize hW3 : w2.alloc _ = W3
  obtain ⟨g3, hg3⟩ : ∃ g, g = w2.heap.size := ⟨_, rfl⟩
  have b3 : Below w2.heap.size w2 W3 := by rw [← hW3]; exact (Below.refl _ _).alloc (Nat.le_refl _) _
  have R3 : Hid (W3.heap[g3]? = some (.cells #[.int .u64 (Ab : Int), .int .u64 (Ae : Int), .slice do1 dn dc1] 30 (0, 0))) := by rw [← hW3, hg3]; exact heap_alloc_new _ _
  rw [← hg3]
  have V3 := hide (V2.out.below b3 (Nat.le_refl _))
  have D3 := hide (D2.out.below b3)
  have B3 := hide (B2.out.trans (b3.mono B2.out.size))
  clear hW3 b3 hg3 V2 D2 B2
  go_wp2_with fail
  refine (hasher_any a W3).mono ?_
  rintro r w4 ⟨gh, gT, rfl, hH, b4⟩
  have HH := hide hH
  have V4 := hide (V3.out.below b4 (Nat.le_refl _))
  have D4 := hide (D3.out.below b4)
  have R4 := hide ((b4.block _ (block_lt_of_row R3.out)).trans R3.out)
  have B4 := hide (B3.out.trans (b4.mono B3.out.size))
  clear hH b4 V3 D3 R3 B3
  go_wp2_with fail
  refine (rof_any a gh gT _ L b e w4 hb he V4.out HN.out HF.out HH.out).mono ?_
  rintro r w5 ha
  rw [← HA.out] at ha
  obtain ⟨⟨v2, rfl, d5⟩, b5⟩ := ha
  have E5 := hide (d5.dgAt AL.out A32.out)
  obtain ⟨do2, dc2, rfl⟩ := d5.form
  rw [← HAA.out.1] at E5
  rw [← HAA.out.1, ← HAA.out.2.1, ← HAA.out.2.2.1, ← HAA.out.2.2.2]
  rw [← HDN.out] at E5 ⊢
  have D5 := hide (D4.out.below b5)
  have R5 := hide ((b5.block _ (block_lt_of_row R4.out)).trans R4.out)
  have B5 := hide (B4.out.trans (b5.mono B4.out.size))
  clear d5 b5 V4 D4 R4 B4 HH
  go_upto_region 4 with fail
  generalize hW6 : w5.alloc _ = W6
  obtain ⟨g6, hg6⟩ : ∃ g, g = w5.heap.size := ⟨_, rfl⟩
  have b6 : Below w5.heap.size w5 W6 := by rw [← hW6]; exact (Below.refl _ _).alloc (Nat.le_refl _) _
  have R6 : Hid (W6.heap[g6]? = some (.cells #[.int .u64 (Ab : Int), .int .u64 (Ae : Int), .slice do2 dn dc2] 37 (0, 0))) := by rw [← hW6, hg6]; exact heap_alloc_new _ _
  rw [← hg6]
  have D6 := hide (D5.out.below b6)
  have E6 := hide (E5.out.below b6)
  have S6 := hide ((b6.block _ (block_lt_of_row R5.out)).trans R5.out)
  have B6 := hide (B5.out.trans (b6.mono B5.out.size))
  clear hW6 b6 hg6 D5 E5 R5 B5
  obtain ⟨c0, c1, c2⟩ := cells3 S6.out
  obtain ⟨k0, k1, k2⟩ := cells3 R6.out
  go_wp2_with fail
  refine (same14_any Ab Ae (.slice do1 dn dc1) (.slice do2 dn dc2) hs W6 D6.out E6.out).mono ?_
  rintro r w7 ⟨rfl, b7⟩
  have B7 := hide (B6.out.trans (b7.mono B6.out.size))
  clear b7 D6 E6 R6 S6 B6 c0 c1 c2 k0 k1 k2
  go_wp2_with fail
  refine (known10_any w7 (HK.out.below B7.out h0)).mono ?_
  rintro r w8 ⟨rfl, b8⟩
  have B8 := hide (B7.out.trans (b8.mono B7.out.size))
  clear b8 B7
  go_wp2_with fail
  go_ret
  exact ⟨rfl, B8.out⟩
end Go.Proofs.YtkljajfgdelfgaaDoor
