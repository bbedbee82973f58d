/- WalTwo: two logs on one disk don't see one another. -/
import Derived.Test.YtfjkddjdmlnbnaaDoorTw
namespace Go.Proofs.YtfjkddjdmlnbnaaDoor
open Go.RowKit

theorem empty_or {xs : List UInt8} {l : Nat} (h : l = xs.length) : (Hid (xs = []) ∧ l = 0) ∨ (Hid (xs ≠ []) ∧ 0 < l) := by
  cases xs with
  | nil => exact Or.inl ⟨rfl, h⟩
  | cons x xs => exact Or.inr ⟨List.cons_ne_nil _ _, by rw [h]; exact Nat.succ_pos _⟩
set_option maxHeartbeats 16000000 in
set_option maxRecDepth 10000 in
theorem walTwo_walk (v0 v1 : Value) (bs0 bs1 : List UInt8) (w : World) (hv : SliceAt w v0 bs0) (hu : SliceAt w v1 bs1) (hK : KAt w) :
   Calls Tryd.prog 6 #[v0, v1] w fun e w' => e = .returned (.bool true) ∧ Below w.heap.size w w' := by
  obtain ⟨a0, l0, c0, rfl, hl0, hm0⟩ := hv.form
  obtain ⟨d0, m0, e0, rfl, hl1, hm1⟩ := hu.form
  have p0 := hv.le_cap
  have p1 := hu.le_cap
  have HV := hide hv
  have HU := hide hu
  have HL0 := hide hl0
  have HL1 := hide hl1
  have HK := hide hK
  have HP : Hid (0 < w.heap.size) := hK.pos
  clear hv hu hl0 hl1 hK
  go_enter Tryd.func6, Tryd.ntmps6
  go_upto_if 18 with fail
  go_cut [0] (fun x wc => w = wc ∧ ∃ (a : Option Addr) (l c : Nat) (bs : List UInt8), x = .slice a l c ∧ l = bs.length ∧ l ≤ 200 ∧ SliceAt w (.slice a l c) bs)
  case first =>
    by_cases h : 200 < l0
    · have q1 : (200 : Int) < (l0 : Int) := by omega
      have q2 : (200 : Int) ≤ (c0 : Int) := by omega
      have Z := hide (part_to HV.out 200 (by omega))
      have ZL : Hid (200 = (bs0.take 200).length) := by show 200 = (bs0.take 200).length; rw [List.length_take, ← HL0.out]; omega
      go_wp2_with fail
      go_meet
      exact ⟨rfl, a0, 200, c0, bs0.take 200, rfl, ZL.out, Nat.le_refl _, Z.out⟩
    · have q1 : ¬ ((200 : Int) < (l0 : Int)) := by omega
      go_wp2_with fail
      go_meet
      exact ⟨rfl, a0, l0, c0, bs0, rfl, HL0.out, by omega, HV.out⟩
  case rest =>
  obtain ⟨rfl, a1, l1, c1, xs, rfl, hxl0, hx2000, hvx0⟩ := hcut
  have SV0 := hide hvx0
  have LX0 := hide hxl0
  clear hvx0 hxl0
  clear HV HL0 hm0 p0
  clear a0 l0 c0 bs0
  go_upto_if 23 with fail
  go_cut [1] (fun x wc => w = wc ∧ ∃ (a : Option Addr) (l c : Nat) (bs : List UInt8), x = .slice a l c ∧ l = bs.length ∧ l ≤ 200 ∧ SliceAt w (.slice a l c) bs)
  case first =>
    by_cases h : 200 < m0
    · have q1 : (200 : Int) < (m0 : Int) := by omega
      have q2 : (200 : Int) ≤ (e0 : Int) := by omega
      have Z := hide (part_to HU.out 200 (by omega))
      have ZL : Hid (200 = (bs1.take 200).length) := by show 200 = (bs1.take 200).length; rw [List.length_take, ← HL1.out]; omega
      go_wp2_with fail
      go_meet
      exact ⟨rfl, d0, 200, e0, bs1.take 200, rfl, ZL.out, Nat.le_refl _, Z.out⟩
    · have q1 : ¬ ((200 : Int) < (m0 : Int)) := by omega
      go_wp2_with fail
      go_meet
      exact ⟨rfl, d0, m0, e0, bs1, rfl, HL1.out, by omega, HU.out⟩
  case rest =>
  obtain ⟨rfl, b1, m1, e1, ys, rfl, hxl1, hx2001, hvx1⟩ := hcut
  have SV1 := hide hvx1
  have LX1 := hide hxl1
  clear hvx1 hxl1
  clear HU HL1 hm1 p1
  clear d0 m0 e0 bs1
  have hxn := empty_or LX0.out
  have hyn := empty_or LX1.out
  go_wp2_with fail
  refine (begun_any 40 0 20 w w (by omega) (by omega) (by omega) (Below.refl _ _) HP.out HK.out).mono ?_
  rintro e w1 ⟨o, g, tv, rfl, hlo, hob, hgb, htb, b1'⟩
  have LO1 := hide hlo
  clear hlo hob hgb htb b1'
  go_wp2_with fail
  refine (format_two w w1 o g tv LO1.out).mono ?_
  rintro e w2 ⟨rfl, o2, hp2, hlo⟩
  have LO2 := hide hlo
  have P2 := hide hp2
  have HPT := hide (show o2.ptr = o.ptr by unfold Ow.ptr; rw [P2.out])
  clear hlo hp2 LO1
  rw [← HPT.out]
  go_wp2_with fail
  refine (open_two w w2 o2 g tv LO2.out).mono ?_
  rintro e w3 ⟨g2, tv2, rfl, htw⟩
  have TW3 := hide htw
  clear htw LO2
  go_wp2_with fail
  go_loopw [10] (fun i wr => ∃ (k : Nat) (o1 : Ow) (d1 : S.Dk) (p1 t1 : Nat) (tv1 : Value) (p2 t2 : Nat) (tv2 : Value), k ≤ 2 ∧ i = .int .i64 (k : Int) ∧ o1.g = o.g ∧ d1.left = none ∧ t1 ≤ k ∧ t2 ≤ k ∧ Two w wr o1 d1 g 0 20 p1 t1 (S.times k xs) tv1 g2 20 20 p2 t2 (S.times k ys) tv2) (fun i _ => 2 - (intOf i).toNat)
  case atStart => exact ⟨0, o2, _, 0, 0, tv, 0, 0, tv2, by omega, rfl, P2.out, rfl, by omega, by omega, by rw [S.times_zero, S.times_zero]; exact TW3.out⟩
  case round =>
    obtain ⟨k, o1, d1, p1, t1, tv1, p2, t2, tv2, hk, rfl, hpg, hlf, ht1, ht2, htw⟩ := hrel
    have TW := hide htw
    have PG := hide hpg
    have LF := hide hlf
    clear htw hpg hlf TW3
    by_cases hk2 : k < 2
    · have q1 : (k : Int) < 2 := by omega
      rcases hxn with ⟨NX, hn0⟩ | ⟨NX, hn0⟩
      · obtain rfl : l1 = 0 := hn0
        go_wp2_with fail
        refine (commit_arg g a1 c1 wr).mono ?_
        rintro e w4 ⟨rfl, hw4⟩
        have TX : Hid (Two w w4 o1 d1 g 0 20 p1 t1 (S.times (k + 1) xs) tv1 g2 20 20 p2 t2 (S.times k ys) tv2) := by show Two w w4 o1 d1 g 0 20 p1 t1 (S.times (k + 1) xs) tv1 g2 20 20 p2 t2 (S.times k ys) tv2; rw [← hw4]; have h := TW.out; rw [NX.out] at h ⊢; exact h
        have PX : Hid (o1.g = o.g) := PG.out
        have LFX : Hid (d1.left = none) := LF.out
        obtain ⟨o4, ho4⟩ : ∃ x, x = o1 := ⟨_, rfl⟩
        obtain ⟨d4, hd4⟩ : ∃ x, x = d1 := ⟨_, rfl⟩
        obtain ⟨px, hpx⟩ : ∃ x, x = p1 := ⟨_, rfl⟩
        obtain ⟨tx, htx⟩ : ∃ x, x = t1 := ⟨_, rfl⟩
        obtain ⟨tv4, htv4⟩ : ∃ x, x = tv1 := ⟨_, rfl⟩
        rw [← ho4, ← hd4, ← hpx, ← htx, ← htv4] at TX
        rw [← ho4] at PX
        rw [← hd4] at LFX
        have htx2 : tx ≤ k + 1 := by omega
        clear hw4 ho4 hd4 hpx htx htv4 TW
        rcases hyn with ⟨NY, hm0⟩ | ⟨NY, hm0⟩
        · obtain rfl : m1 = 0 := hm0
          go_wp2_with fail
          refine (commit_arg g2 b1 e1 w4).mono ?_
          rintro e w5 ⟨rfl, hw5⟩
          have TY : Hid (Two w w5 o4 d4 g 0 20 px tx (S.times (k + 1) xs) tv4 g2 20 20 p2 t2 (S.times (k + 1) ys) tv2) := by show Two w w5 o4 d4 g 0 20 px tx (S.times (k + 1) xs) tv4 g2 20 20 p2 t2 (S.times (k + 1) ys) tv2; rw [← hw5]; have h := TX.out; rw [NY.out] at h ⊢; exact h
          have PY : Hid (o4.g = o.g) := PX.out
          have LFY : Hid (d4.left = none) := LFX.out
          have hty2 : t2 ≤ k + 1 := by omega
          clear hw5 TX
          go_wp2_with fail
          go_roundw
          case rel => exact ⟨k + 1, _, _, _, _, _, _, _, _, by omega, by go_num, PY.out, LFY.out, by omega, hty2, TY.out⟩
          case measure => simp [intOf]; omega
        · have q5 : (0 : Int) < (m1 : Int) := by omega
          go_wp2_with fail
          refine (put_two w w4 o4 d4 g2 20 20 p2 t2 (S.times k ys) tv2 g 0 20 px tx (S.times (k + 1) xs) tv4 b1 m1 e1 ys TX.out.swap LFX.out (by omega) SV1.out NY.out (S.times_fit k ys (by omega) (by rw [← LX1.out]; exact hx2001))).mono ?_
          rintro e w5 ⟨rfl, o5, d5, tv5, hp5, hl5, htw⟩
          have TY : Hid (Two w w5 o5 d5 g 0 20 px tx (S.times (k + 1) xs) tv4 g2 20 20 (1 - p2) (t2 + 1) (S.times (k + 1) ys) tv5) := by show Two w w5 o5 d5 g 0 20 px tx (S.times (k + 1) xs) tv4 g2 20 20 (1 - p2) (t2 + 1) (S.times (k + 1) ys) tv5; rw [← S.times_succ k ys NY.out]; exact htw.swap
          have PY : Hid (o5.g = o.g) := hp5.trans PX.out
          have LFY : Hid (d5.left = none) := hl5
          have hty2 : t2 + 1 ≤ k + 1 := by omega
          clear htw hp5 hl5 TX
          go_wp2_with fail
          go_roundw
          case rel => exact ⟨k + 1, _, _, _, _, _, _, _, _, by omega, by go_num, PY.out, LFY.out, by omega, hty2, TY.out⟩
          case measure => simp [intOf]; omega
      · have q4 : (0 : Int) < (l1 : Int) := by omega
        go_wp2_with fail
        refine (put_two w wr o1 d1 g 0 20 p1 t1 (S.times k xs) tv1 g2 20 20 p2 t2 (S.times k ys) tv2 a1 l1 c1 xs TW.out LF.out (by omega) SV0.out NX.out (S.times_fit k xs (by omega) (by rw [← LX0.out]; exact hx2000))).mono ?_
        rintro e w4 ⟨rfl, o4, d4, tv4, hp4, hl4, htw⟩
        have TX : Hid (Two w w4 o4 d4 g 0 20 (1 - p1) (t1 + 1) (S.times (k + 1) xs) tv4 g2 20 20 p2 t2 (S.times k ys) tv2) := by show Two w w4 o4 d4 g 0 20 (1 - p1) (t1 + 1) (S.times (k + 1) xs) tv4 g2 20 20 p2 t2 (S.times k ys) tv2; rw [← S.times_succ k xs NX.out]; exact htw
        have PX : Hid (o4.g = o.g) := hp4.trans PG.out
        have LFX : Hid (d4.left = none) := hl4
        obtain ⟨px, hpx⟩ : ∃ x, x = 1 - p1 := ⟨_, rfl⟩
        obtain ⟨tx, htx⟩ : ∃ x, x = t1 + 1 := ⟨_, rfl⟩
        rw [← hpx, ← htx] at TX
        have htx2 : tx ≤ k + 1 := by omega
        clear htw hp4 hl4 hpx htx TW
        rcases hyn with ⟨NY, hm0⟩ | ⟨NY, hm0⟩
        · obtain rfl : m1 = 0 := hm0
          go_wp2_with fail
          refine (commit_arg g2 b1 e1 w4).mono ?_
          rintro e w5 ⟨rfl, hw5⟩
          have TY : Hid (Two w w5 o4 d4 g 0 20 px tx (S.times (k + 1) xs) tv4 g2 20 20 p2 t2 (S.times (k + 1) ys) tv2) := by show Two w w5 o4 d4 g 0 20 px tx (S.times (k + 1) xs) tv4 g2 20 20 p2 t2 (S.times (k + 1) ys) tv2; rw [← hw5]; have h := TX.out; rw [NY.out] at h ⊢; exact h
          have PY : Hid (o4.g = o.g) := PX.out
          have LFY : Hid (d4.left = none) := LFX.out
          have hty2 : t2 ≤ k + 1 := by omega
          clear hw5 TX
          go_wp2_with fail
          go_roundw
          case rel => exact ⟨k + 1, _, _, _, _, _, _, _, _, by omega, by go_num, PY.out, LFY.out, by omega, hty2, TY.out⟩
          case measure => simp [intOf]; omega
        · have q5 : (0 : Int) < (m1 : Int) := by omega
          go_wp2_with fail
          refine (put_two w w4 o4 d4 g2 20 20 p2 t2 (S.times k ys) tv2 g 0 20 px tx (S.times (k + 1) xs) tv4 b1 m1 e1 ys TX.out.swap LFX.out (by omega) SV1.out NY.out (S.times_fit k ys (by omega) (by rw [← LX1.out]; exact hx2001))).mono ?_
          rintro e w5 ⟨rfl, o5, d5, tv5, hp5, hl5, htw⟩
          have TY : Hid (Two w w5 o5 d5 g 0 20 px tx (S.times (k + 1) xs) tv4 g2 20 20 (1 - p2) (t2 + 1) (S.times (k + 1) ys) tv5) := by show Two w w5 o5 d5 g 0 20 px tx (S.times (k + 1) xs) tv4 g2 20 20 (1 - p2) (t2 + 1) (S.times (k + 1) ys) tv5; rw [← S.times_succ k ys NY.out]; exact htw.swap
          have PY : Hid (o5.g = o.g) := hp5.trans PX.out
          have LFY : Hid (d5.left = none) := hl5
          have hty2 : t2 + 1 ≤ k + 1 := by omega
          clear htw hp5 hl5 TX
          go_wp2_with fail
          go_roundw
          case rel => exact ⟨k + 1, _, _, _, _, _, _, _, _, by omega, by go_num, PY.out, LFY.out, by omega, hty2, TY.out⟩
          case measure => simp [intOf]; omega
    · have q1 : ¬ ((k : Int) < 2) := by omega
      obtain rfl : k = 2 := by omega
      have HPT2 := hide (show o1.ptr = o2.ptr by unfold Ow.ptr; rw [PG.out, P2.out])
      clear hxn
      go_wp2_with fail
      refine (clear_two w wr o1 d1 g 0 20 p1 t1 _ tv1 g2 20 20 p2 t2 _ tv2 TW.out LF.out (by omega)).mono ?_
      rintro e w4 ⟨rfl, o4, d4, tv4, hp4, hl4, htw⟩
      have T4 := hide htw
      have HPT4 := hide (show o4.ptr = o2.ptr by rw [← HPT2.out]; unfold Ow.ptr; rw [hp4])
      clear htw hp4 hl4 TW
      rw [← HPT4.out]
      go_wp2_with fail
      refine (open_go w w4 o4 d4 0 20 _ _ _ T4.out.one.log.dk T4.out.one.log.pend T4.out.one.log.good T4.out.one.ob T4.out.one.below HP.out).mono ?_
      rintro e w5 ⟨g5, tv5, rfl, hlo5, hg5, ht5, b5⟩
      have LO5 := hide hlo5
      have T5 := hide (T4.out.then b5)
      clear hlo5 hg5 ht5 b5 T4
      go_wp2_with fail
      refine (open_go w w5 o4 d4 20 20 _ _ _ T5.out.two.log.dk T5.out.two.log.pend T5.out.two.log.good T5.out.two.ob T5.out.two.below HP.out).mono ?_
      rintro e w6 ⟨g6, tv6, rfl, hlo6, hg6, ht6, b6⟩
      have LO6 := hide hlo6
      have LO5b := hide (LO5.out.then b6)
      clear hlo6 hg6 ht6 b6 T5 LO5
      go_wp2_with fail
      refine (records_go w w6 o4 d4 g5 0 20 _ _ _ tv5 LO5b.out (by simp)).mono ?_
      rintro e w7 ⟨lv, us, rfl, hrec, b7⟩
      obtain ⟨al, cl, hlv⟩ := hrec.lists.shape
      subst hlv
      have hul : us.length = 0 := hrec.copies.len
      rw [hul]
      have LO7 := hide (LO6.out.then b7)
      clear hrec b7 hul LO5b LO6
      obtain ⟨w8, hw8⟩ : ∃ w8, w8 = w7.alloc (.cells #[.slice b1 m1 e1, .slice b1 m1 e1] 29) := ⟨_, rfl⟩
      have b78 : Below w7.heap.size w7 w8 := by rw [hw8]; exact (Below.refl _ _).alloc (Nat.le_refl _) _
      have r8 : w8.heap[w7.heap.size]? = some (.cells #[.slice b1 m1 e1, .slice b1 m1 e1] 29 (0, 0)) := by rw [hw8]; exact heap_alloc_new _ _
      have LO8 := hide (LO7.out.then b78)
      have hsl : SliceAt w8 (.slice b1 m1 e1) ys := SV1.out.below LO8.out.below (Nat.le_refl _)
      have LS8 := hide (two_ls r8 hsl hsl)
      obtain ⟨gy, hgy⟩ : ∃ x, x = w7.heap.size := ⟨_, rfl⟩
      rw [← hgy] at LS8
      clear r8 b78 hsl LO7
      rcases hyn with ⟨NY, hm0⟩ | ⟨NY, hm0⟩
      · obtain rfl : m1 = 0 := hm0
        go_wp2_with fail
        rw [← hw8]
        clear hw8 hgy
        refine (records_go w w8 o4 d4 g6 20 20 _ _ _ tv6 LO8.out (S.times_ne 2 ys)).mono ?_
        rintro e w9 ⟨lv, us, rfl, hrec, b9⟩
        obtain ⟨al, cl, hlv⟩ := hrec.lists.shape
        subst hlv
        have LSA := hide (hrec.ls (by have := S.times_enc 2 ys; rw [← LX1.out] at this; omega))
        have LSB : Hid (LsAt w9 (.slice none 0 0) []) := none_ls w9
        have LO9 := hide (LO8.out.then b9)
        have LN : (S.times 2 ys).length ≤ 1000000 := by unfold S.times; split <;> simp
        obtain ⟨N, hN⟩ : ∃ N, N = us.length := ⟨_, rfl⟩
        rw [← hN] at LSA ⊢
        clear hrec b9 hN LO8
        go_wp2_with fail
        refine (sameL_any _ _ _ _ w9 LSA.out LSB.out LN).mono ?_
        rintro e w10 ⟨rfl, st⟩
        have LO10 := hide (LO9.out.then (st.below _))
        have E1 : decide (S.times 2 ys = []) = true := by rw [NY.out]; rfl
        rw [E1]
        clear st E1
        go_wp2_with fail
        refine (known_any w10 LO10.out.log.dk.k).mono ?_
        rintro e w11 ⟨rfl, b11⟩
        have BF := hide (LO10.out.below.trans (b11.mono LO10.out.below.size))
        clear b11
        go_wp2_with fail
        go_ret
        exact ⟨rfl, BF.out⟩

      · have q5 : (0 : Int) < (m1 : Int) := by omega
        have q6 : ¬ ((m1 : Int) = 0) := by omega
        go_wp2_with fail
        rw [← hw8, ← hgy]
        clear hw8 hgy
        refine (records_go w w8 o4 d4 g6 20 20 _ _ _ tv6 LO8.out (S.times_ne 2 ys)).mono ?_
        rintro e w9 ⟨lv, us, rfl, hrec, b9⟩
        obtain ⟨al, cl, hlv⟩ := hrec.lists.shape
        subst hlv
        have LSA := hide (hrec.ls (by have := S.times_enc 2 ys; rw [← LX1.out] at this; omega))
        have LSB : Hid (LsAt w9 (.slice (some ⟨gy, 0, none⟩) 2 2) [ys, ys]) := LS8.out.below b9
        have LO9 := hide (LO8.out.then b9)
        have LN : (S.times 2 ys).length ≤ 1000000 := by unfold S.times; split <;> simp
        obtain ⟨N, hN⟩ : ∃ N, N = us.length := ⟨_, rfl⟩
        rw [← hN] at LSA ⊢
        clear hrec b9 hN LO8
        go_wp2_with fail
        refine (sameL_any _ _ _ _ w9 LSA.out LSB.out LN).mono ?_
        rintro e w10 ⟨rfl, st⟩
        have LO10 := hide (LO9.out.then (st.below _))
        have E1 : decide (S.times 2 ys = [ys, ys]) = true := decide_eq_true (S.times_two ys NY.out)
        rw [E1]
        clear st E1
        go_wp2_with fail
        refine (known_any w10 LO10.out.log.dk.k).mono ?_
        rintro e w11 ⟨rfl, b11⟩
        have BF := hide (LO10.out.below.trans (b11.mono LO10.out.below.size))
        clear b11
        go_wp2_with fail
        go_ret
        exact ⟨rfl, BF.out⟩

end Go.Proofs.YtfjkddjdmlnbnaaDoor
