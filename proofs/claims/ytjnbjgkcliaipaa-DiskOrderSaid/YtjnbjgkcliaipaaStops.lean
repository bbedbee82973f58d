/- DiskStops: as many writes and flushes go as were said, and none more; a crash lets the disk go on. -/
import Derived.Test.YtjnbjgkcliaipaaKnown
import Derived.Test.YtjnbjgkcliaipaaWithin
namespace Go.Proofs.Ytjnbjgkcliaipaa
open Go.RowKit
/-- A slice of numbers that lies in memory. -/
def IntsAt (kd : IntKind) (w : World) (ao : Option Addr) (len : Nat) (zs : List Int) : Prop :=
  len = zs.length ∧ (0 < len → ∃ b off, ao = some ⟨b, off, none⟩ ∧ b < w.heap.size ∧ ∀ j, j < len → w.cell? ⟨b, off + j, none⟩ = some (.int kd (zs.getD j 0)))
/-- The disk of this statement: two sectors, and as many calls left as there are left. -/
def Rest (w0 w : World) (g m k : Nat) : Prop := ∃ D : S.Dk, Has X0 w0 w g D ∧ D.safe.length = 2 ∧ D.left = some m ∧ D.pend.length ≤ k
theorem goes_yes {d : S.Dk} {m : Nat} (h : d.left = some m) (hm : 0 < m) : d.goes = true := by
  unfold S.Dk.goes
  rw [h]
  cases m with
  | zero => omega
  | succ m => simp
theorem goes_no {d : S.Dk} (h : d.left = some 0) : d.goes = false := by unfold S.Dk.goes; rw [h]; rfl
theorem rest_sector (c : UInt8) (w0 w : World) (g m k : Nat) (h : Rest w0 w g m k) :
   Calls Try.prog 14 #[.int .u8 (c.toNat : Int), .int .i64 128] w fun e w' => ∃ gs, e = .returned (.slice (some ⟨gs, 0, none⟩) 128 128) ∧ Rest w0 w' g m k ∧ Txt w' g (.slice (some ⟨gs, 0, none⟩) 128 128) (S.sec c 128) := by
  obtain ⟨D, h1, h2⟩ := h
  exact (at_sector c 128 w0 w g D h1 (by omega)).mono fun _ _ ⟨gs, h3, h4, h5⟩ => ⟨gs, h3, ⟨D, h4, h2⟩, h5⟩
theorem rest_write (c : UInt8) (v : Value) (w0 w : World) (g m k : Nat) (h : Rest w0 w g m k) (hm : 0 < m) (hk : k ≤ 1000) (hv : Txt w g v (S.sec c 128)) :
   Calls Try.prog 13 #[.pointer (some ⟨g, 0, none⟩), .int .i64 1, v] w fun e w' => e = .returned (.int .i64 0) ∧ Rest w0 w' g (m - 1) (k + 1) := by
  obtain ⟨D, h1, h2, h3, h4⟩ := h
  refine (at_write 1 v (S.sec c 128) w0 w g D h1 (by omega) (goes_yes h3 hm) (S.sec_length _ _) (by omega) hv).mono fun _ _ ⟨h5, h6⟩ => ⟨h5, _, h6, h2, ?_, ?_⟩
  · show D.left.map (· - 1) = _; rw [h3]; rfl
  · show (D.pend ++ [(1, S.sec c 128)]).length ≤ k + 1; simp; exact h4
theorem rest_write_stop (ao : Option Addr) (cap : Nat) (w0 w : World) (g k : Nat) (h : Rest w0 w g 0 k) :
   Calls Try.prog 13 #[.pointer (some ⟨g, 0, none⟩), .int .i64 1, .slice ao 128 cap] w fun e w' => e = .returned (.int .i64 13) ∧ Rest w0 w' g 0 (k + 1) := by
  obtain ⟨D, h1, h2, h3, h4⟩ := h
  exact (at_write_stop 1 ao cap w0 w g D h1 (by omega) (goes_no h3)).mono fun _ _ ⟨h5, h6⟩ => ⟨h5, _, h6, h2, h3, by omega⟩
theorem rest_flush (w0 w : World) (g m k : Nat) (h : Rest w0 w g m k) (hm : 0 < m) (hk : k ≤ 1000) :
   Calls Try.prog 15 #[.pointer (some ⟨g, 0, none⟩)] w fun e w' => e = .returned (.int .i64 0) ∧ Rest w0 w' g (m - 1) (k + 1) := by
  obtain ⟨D, h1, h2, h3, h4⟩ := h
  refine (at_flush w0 w g D h1 (goes_yes h3 hm) (by omega)).mono fun _ _ ⟨h5, h6⟩ => ⟨h5, _, h6, ?_, ?_, Nat.zero_le _⟩
  · show D.went.seen.length = 2; rw [S.Dk.seen_length]; exact h2
  · show D.left.map (· - 1) = _; rw [h3]; rfl
theorem rest_flush_stop (w0 w : World) (g k : Nat) (h : Rest w0 w g 0 k) :
   Calls Try.prog 15 #[.pointer (some ⟨g, 0, none⟩)] w fun e w' => e = .returned (.int .i64 13) ∧ Rest w0 w' g 0 (k + 1) := by
  obtain ⟨D, h1, h2, h3, h4⟩ := h
  exact (at_flush_stop w0 w g D h1 (goes_no h3)).mono fun _ _ ⟨h5, h6⟩ => ⟨h5, _, h6, h2, h3, by omega⟩
theorem rest_read (w0 w : World) (g m k : Nat) (h : Rest w0 w g m k) :
   Calls Try.prog 12 #[.pointer (some ⟨g, 0, none⟩), .int .i64 0] w fun e w' => (∃ v, e = .returned v) ∧ Rest w0 w' g m (k + 1) := by
  obtain ⟨D, h1, h2, h3, h4⟩ := h
  exact (at_read 0 w0 w g D h1 (by omega)).mono fun _ _ ⟨_, h5, _, _, h6, _⟩ => ⟨⟨_, h5⟩, _, h6, h2, h3, by omega⟩
theorem rest_arg (w0 w : World) (g m k : Nat) (h : Rest w0 w g m k) :
   Calls Try.prog 13 #[.pointer (some ⟨g, 0, none⟩), .int .i64 5, .slice none 0 0] w fun e w' => e = .returned (.int .i64 1) ∧ Rest w0 w' g m (k + 1) := by
  obtain ⟨D, h1, h2, h3, h4⟩ := h
  exact (at_write_arg 5 none 0 0 w0 w g D h1 (Or.inr (by decide))).mono fun _ _ ⟨h5, h6⟩ => ⟨h5, _, h6 ▸ h1, h2, h3, by omega⟩
theorem rest_crash (w0 w : World) (g m k : Nat) (h : Rest w0 w g m k) (hk : k ≤ 1000) :
   Calls Try.prog 16 #[.pointer (some ⟨g, 0, none⟩), .agg #[.slice none 0 0, .int .i64 (-1), .int .i64 0]] w fun e w' => e = .returned (.tuple #[]) ∧ ∃ D : S.Dk, Has X0 w0 w' g D ∧ D.safe.length = 2 ∧ D.left = none ∧ D.pend = [] := by
  obtain ⟨D, h1, h2, h3, h4⟩ := h
  refine (at_crash (.slice none 0 0) ⟨[], -1, 0⟩ w0 w g D h1 (by omega) (bools_nil _)).mono fun _ _ ⟨h5, h6⟩ => ⟨h5, _, h6, ?_, rfl, rfl⟩
  show (S.crashTo _ _ _ _).length = 2
  rw [S.crashTo_length]
  exact h2
theorem goes_again {d : S.Dk} {n : Nat} {t : List UInt8} (h : d.left = none) : (d.went.write n t).goes = true := by
  show (d.left.map (· - 1) != some 0) = true
  rw [h]
  rfl
set_option maxHeartbeats 3200000 in
set_option maxRecDepth 100000 in
theorem stops_walk (a : Int) (a1 : Option Addr) (L c1 : Nat) (zs : List Int) (w : World) (ha1 : -9223372036854775808 ≤ a) (ha2 : a ≤ 9223372036854775807) (hv : IntsAt .i64 w a1 L zs) (hz : ∀ j, -9223372036854775808 ≤ zs.getD j 0 ∧ zs.getD j 0 ≤ 9223372036854775807) :
   Calls Try.prog 8 #[.int .i64 a, .slice a1 L c1] w fun e w' => e = .returned (.bool true) ∧ Below w.heap.size w w' := by
  have HV := hide hv
  have HZ := hide hz
  clear hv hz
  go_enter Try.func8, Try.ntmps8
  go_wp2_with fail
  refine (at_begun 2 w w (by omega) (by omega) (Below.refl _ _)).mono ?_
  rintro e w1 ⟨g, rfl, h1, -⟩
  have H1 := hide h1
  clear h1
  go_wp2_with fail
  refine (within_any a 9 w1 ha1 ha2 (by omega) (by omega)).mono ?_
  rintro e w2 ⟨rfl, rfl⟩
  obtain ⟨A, hA⟩ : ∃ A, A = S.within a 9 := ⟨_, rfl⟩
  rw [← hA]
  have hA9 : A ≤ 9 := by have := S.within_le a 9 (by omega); omega
  clear hA ha1 ha2
  go_wp2_with fail
  refine (at_stop A w w1 g _ H1.out (by omega)).mono ?_
  rintro e w2 ⟨rfl, h2⟩
  have R2 : Hid (Rest w w2 g A 0) := ⟨_, h2, by simp [S.Dk.stop, S.Dk.new], by simp [S.Dk.stop], Nat.zero_le _⟩
  clear h2 H1
  go_wp2_with fail
  go_loopw [7, 8] (fun dn i wr => ∃ k m : Nat, k ≤ 30 ∧ k ≤ L ∧ m ≤ A ∧ i = .int .i64 (k : Int) ∧ dn = .int .i64 ((A - m : Nat) : Int) ∧ Rest w wr g m k) (fun _ i _ => 30 - (intOf i).toNat)
  case atStart => exact ⟨0, A, by omega, Nat.zero_le _, Nat.le_refl _, rfl, by simp, R2.out⟩
  case round =>
    obtain ⟨k, m, hk, hkL, hm, rfl, rfl, hr⟩ := hrel
    have HR := hide hr
    clear R2 hr
    obtain ⟨dn, hdn⟩ : ∃ dn, dn = A - m := ⟨_, rfl⟩
    rw [← hdn]
    have hdm : dn + m = A := by omega
    clear hdn
    by_cases hlt : k < L
    · by_cases h30 : k < 30
      · obtain ⟨b, off, rfl, hbl, hcell⟩ := HV.out.2 (by omega)
        obtain ⟨z, hzz⟩ : ∃ z, z = zs.getD k 0 := ⟨_, rfl⟩
        have hzb := HZ.out k
        have hck : wr.cell? ⟨b, off + k, none⟩ = some (.int .i64 z) := by
          obtain ⟨D, hD, _⟩ := HR.out
          rw [hzz]
          exact (hD.base.cell (p := ⟨b, off + k, none⟩) hbl).trans (hcell k hlt)
        rw [← hzz] at hzb
        clear hcell hbl hzz
        have q1 : (0 : Int) ≤ (k : Int) := by omega
        have q2 : (k : Int) < (L : Int) := by omega
        have q3 : (k : Int) < 30 := by omega
        have q4 : IntKind.i64.wrap ((k : Int) + 1) = (k : Int) + 1 := by rw [IntKind.wrap_i64]; omega
        have q5 : IntKind.i64.wrap ((dn : Int) + 1) = (dn : Int) + 1 := by rw [IntKind.wrap_i64]; omega
        go_wp2_with fail
        refine (within_any z 3 wr hzb.1 hzb.2 (by omega) (by omega)).mono ?_
        rintro e wx ⟨rfl, rfl⟩
        have hle := S.within_le z 3 (by omega)
        obtain ⟨K, hK⟩ : ∃ K, K = S.within z 3 := ⟨_, rfl⟩
        rw [← hK] at hle ⊢
        clear hK hzb hck
        rcases (by omega : K = 0 ∨ K = 1 ∨ K = 2 ∨ K = 3) with rfl | rfl | rfl | rfl
        · go_wp2_with fail
          refine (rest_sector 1 w wr g m k HR.out).mono ?_
          rintro e w3 ⟨gs, rfl, h3, t3⟩
          have R3 := hide h3
          have T3 := hide t3
          clear h3 t3 HR
          by_cases hm0 : 0 < m
          · have q6 : (dn : Int) < (A : Int) := by omega
            go_wp2_with fail
            refine (rest_write 1 _ w w3 g m k R3.out hm0 (by omega) T3.out).mono ?_
            rintro e w4 ⟨rfl, h4⟩
            have RN := hide h4
            clear h4 R3 T3
            go_wp2_with fail
            go_roundw
            case rel => exact ⟨k + 1, m - 1, by omega, by omega, by omega, by go_num, by rw [show A - (m - 1) = dn + 1 from by omega]; go_num, RN.out⟩
            case measure => simp [intOf]; omega
          · obtain rfl : m = 0 := by omega
            have q6 : ¬ ((dn : Int) < (A : Int)) := by omega
            go_wp2_with fail
            refine (rest_write_stop _ _ w w3 g k R3.out).mono ?_
            rintro e w4 ⟨rfl, h4⟩
            have RN := hide h4
            clear h4 R3 T3
            go_wp2_with fail
            go_roundw
            case rel => exact ⟨k + 1, 0, by omega, by omega, by omega, by go_num, by go_num, RN.out⟩
            case measure => simp [intOf]; omega
        · by_cases hm0 : 0 < m
          · have q6 : (dn : Int) < (A : Int) := by omega
            go_wp2_with fail
            refine (rest_flush w wr g m k HR.out hm0 (by omega)).mono ?_
            rintro e w4 ⟨rfl, h4⟩
            have RN := hide h4
            clear h4 HR
            go_wp2_with fail
            go_roundw
            case rel => exact ⟨k + 1, m - 1, by omega, by omega, by omega, by go_num, by rw [show A - (m - 1) = dn + 1 from by omega]; go_num, RN.out⟩
            case measure => simp [intOf]; omega
          · obtain rfl : m = 0 := by omega
            have q6 : ¬ ((dn : Int) < (A : Int)) := by omega
            go_wp2_with fail
            refine (rest_flush_stop w wr g k HR.out).mono ?_
            rintro e w4 ⟨rfl, h4⟩
            have RN := hide h4
            clear h4 HR
            go_wp2_with fail
            go_roundw
            case rel => exact ⟨k + 1, 0, by omega, by omega, by omega, by go_num, by go_num, RN.out⟩
            case measure => simp [intOf]; omega
        · go_wp2_with fail
          refine (rest_read w wr g m k HR.out).mono ?_
          rintro e w4 ⟨⟨v, rfl⟩, h4⟩
          have RN := hide h4
          clear h4 HR
          go_wp2_with fail
          go_roundw
          case rel => exact ⟨k + 1, m, by omega, by omega, by omega, by go_num, by go_num, RN.out⟩
          case measure => simp [intOf]; omega
        · go_wp2_with fail
          refine (rest_arg w wr g m k HR.out).mono ?_
          rintro e w4 ⟨rfl, h4⟩
          have RN := hide h4
          clear h4 HR
          go_wp2_with fail
          go_roundw
          case rel => exact ⟨k + 1, m, by omega, by omega, by omega, by go_num, by go_num, RN.out⟩
          case measure => simp [intOf]; omega
      · have q2 : (k : Int) < (L : Int) := by omega
        have q3 : ¬ ((k : Int) < 30) := by omega
        go_wp2_with fail
        refine (rest_crash w wr g _ k HR.out (by omega)).mono ?_
        rintro e w3 ⟨rfl, D, hD, hDl, hDn, hDp⟩
        have H3 := hide hD
        have HDl := hide hDl
        have HDg : Hid (D.goes = true) := by show D.goes = true; unfold S.Dk.goes; rw [hDn]; rfl
        have HDp : Hid (D.pend.length ≤ 1000000) := by show D.pend.length ≤ 1000000; rw [hDp]; decide
        have HDg0 : Hid (D.left = none) := hDn
        have HDp0 : Hid (D.pend = []) := hDp
        clear hD hDl hDn hDp
        go_wp2_with fail
        refine (at_sector 1 128 w w3 g D H3.out (by omega)).mono ?_
        rintro e w4 ⟨gs, rfl, h4, t4⟩
        have H4 := hide h4
        have T4 := hide t4
        clear h4 t4 H3
        go_wp2_with fail
        refine (at_write 0 _ (S.sec 1 128) w w4 g D H4.out (by have := HDl.out; omega) HDg.out (S.sec_length _ _) HDp.out T4.out).mono ?_
        rintro e w5 ⟨rfl, h5⟩
        have H5 := hide h5
        have HDg2 := hide (goes_again (n := 0) (t := S.sec 1 128) HDg0.out)
        have HDp2 : Hid ((D.went.write 0 (S.sec 1 128)).pend.length ≤ 1000000) := by show (D.pend ++ [(0, S.sec 1 128)]).length ≤ 1000000; rw [HDp0.out]; simp
        clear h5 H4 T4
        go_wp2_with fail
        refine (at_flush w w5 g _ H5.out HDg2.out HDp2.out).mono ?_
        rintro e w6 ⟨rfl, h6⟩
        have H6 := hide h6
        clear h6 H5
        go_wp2_with fail
        refine (known_any w6).mono ?_
        rintro e w7 ⟨rfl, hb⟩
        have HB := hide (H6.out.base.trans (hb.mono H6.out.base.size))
        clear hb
        go_wp2_with fail
        go_ret
        exact ⟨rfl, HB.out⟩
    · have q2 : ¬ ((k : Int) < (L : Int)) := by omega
      go_wp2_with fail
      refine (rest_crash w wr g _ k HR.out (by omega)).mono ?_
      rintro e w3 ⟨rfl, D, hD, hDl, hDn, hDp⟩
      have H3 := hide hD
      have HDl := hide hDl
      have HDg : Hid (D.goes = true) := by show D.goes = true; unfold S.Dk.goes; rw [hDn]; rfl
      have HDp : Hid (D.pend.length ≤ 1000000) := by show D.pend.length ≤ 1000000; rw [hDp]; decide
      have HDg0 : Hid (D.left = none) := hDn
      have HDp0 : Hid (D.pend = []) := hDp
      clear hD hDl hDn hDp
      go_wp2_with fail
      refine (at_sector 1 128 w w3 g D H3.out (by omega)).mono ?_
      rintro e w4 ⟨gs, rfl, h4, t4⟩
      have H4 := hide h4
      have T4 := hide t4
      clear h4 t4 H3
      go_wp2_with fail
      refine (at_write 0 _ (S.sec 1 128) w w4 g D H4.out (by have := HDl.out; omega) HDg.out (S.sec_length _ _) HDp.out T4.out).mono ?_
      rintro e w5 ⟨rfl, h5⟩
      have H5 := hide h5
      have HDg2 := hide (goes_again (n := 0) (t := S.sec 1 128) HDg0.out)
      have HDp2 : Hid ((D.went.write 0 (S.sec 1 128)).pend.length ≤ 1000000) := by show (D.pend ++ [(0, S.sec 1 128)]).length ≤ 1000000; rw [HDp0.out]; simp
      clear h5 H4 T4
      go_wp2_with fail
      refine (at_flush w w5 g _ H5.out HDg2.out HDp2.out).mono ?_
      rintro e w6 ⟨rfl, h6⟩
      have H6 := hide h6
      clear h6 H5
      go_wp2_with fail
      refine (known_any w6).mono ?_
      rintro e w7 ⟨rfl, hb⟩
      have HB := hide (H6.out.base.trans (hb.mono H6.out.base.size))
      clear hb
      go_wp2_with fail
      go_ret
      exact ⟨rfl, HB.out⟩
end Go.Proofs.Ytjnbjgkcliaipaa
