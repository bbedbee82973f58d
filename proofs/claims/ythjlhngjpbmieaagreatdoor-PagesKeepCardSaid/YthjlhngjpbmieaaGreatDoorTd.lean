/- inOrder of any sheets that can be put together. -/
import Derived.Test.YthjlhngjpbmieaaGreatDoorTc
import Derived.Test.YthjlhngjpbmieaaGreatDoorJc
namespace Go.Proofs.YthjlhngjpbmieaaGreatDoor
open Go.RowKit

set_option maxHeartbeats 4000000 in
set_option maxRecDepth 10000 in
theorem inOrder_any (b off cap : Nat) (d : List ShV) (w : World) (h0 : ∀ j u, (d.flatMap encSh)[j]? = some u → w.cell? ⟨b, off + j, none⟩ = some u) (hd : d ≠ []) (hl : d.length ≤ 256) (hp : ∀ x ∈ d, 0 ≤ x.1 ∧ x.1 < 512 ∧ x.2.2.1 = 1024) (hn : (d.map (·.1)).Nodup) :
   Calls Tryz.prog 30 #[.slice (some ⟨b, off, none⟩) d.length cap] w fun e w' => ∃ g c, ∃ d' : List ShV, e = .returned (.tuple #[.slice (some ⟨g, 0, none⟩) d.length c, .bool true]) ∧ w.heap.size ≤ g ∧ d'.Perm d ∧ d'.Pairwise (fun x y => x.1 < y.1) ∧ ShR w' g d' ∧ Below w.heap.size w w' := by
  have H0 := hide h0
  have HD := hide hd
  have HL := hide hl
  have HP := hide hp
  have HN := hide hn
  have hgt : ¬ ((256 : Int) < (d.length : Int)) := by omega
  clear h0 hd hl hp hn
  go_enter Tryz.func30, Tryz.ntmps30
  go_wp2_with fail
  refine (pclone_any b off cap d w H0.out HD.out (Nat.le_trans HL.out (by omega))).mono ?_
  rintro e w1 ⟨g, c, rfl, hg, hs, b1⟩
  have S1 := hide hs
  have B1 := hide b1
  have HG : Hid (w.heap.size ≤ g) := hg
  clear hs b1 hg H0
  go_wp2_with fail
  refine (sort_rows g c d w1 S1.out (Nat.le_trans HL.out (by omega))).mono ?_
  rintro e w2 ⟨rfl, d', hpm, hpw, hs2, hb2⟩
  have S2 := hide hs2
  have B2 := hide (B1.out.trans (hb2 _ HG.out))
  have PM := hide hpm
  have PW : Hid (d'.Pairwise (fun x y => x.1 < y.1)) := by
    have hnd : (d'.map (·.1)).Nodup := (hpm.map _).nodup_iff.2 HN.out
    rw [List.Nodup, List.pairwise_map] at hnd
    exact (hpw.and hnd).imp (fun ⟨h1, h2⟩ => by omega)
  have LE : Hid (d'.length = d.length) := hpm.length_eq
  have HQ : Hid (∀ x ∈ d', 0 ≤ x.1 ∧ x.1 < 512 ∧ x.2.2.1 = 1024) := fun x hx => HP.out x (hpm.mem_iff.1 hx)
  clear hpm hpw hs2 hb2 S1 B1 HP HN
  go_wp2_with fail
  go_loopw [15] (fun i wr => ∃ k : Nat, k ≤ d.length ∧ i = .int .i64 (k : Int) ∧ ShR wr g d' ∧ Below w.heap.size w wr) (fun i _ => d.length - (intOf i).toNat)
  case atStart => exact ⟨0, Nat.zero_le _, rfl, S2.out, B2.out⟩
  case round =>
  obtain ⟨k, hk, rfl, hs, hb⟩ := hrel
  have S6 := hide hs
  have B6 := hide hb
  have KL := hide hk
  clear hs hb hk S2 B2
  by_cases hkl : k < d.length
  · obtain ⟨x, hx⟩ : ∃ x, d'[k]? = some x := ⟨d'[k]'(by rw [LE.out]; exact hkl), List.getElem?_eq_getElem _⟩
    obtain ⟨c0, c1⟩ := S6.out.cells k x hx
    obtain ⟨q1, q2, q3⟩ := HQ.out x (List.mem_of_getElem? hx)
    obtain ⟨xn, ab, xl, cb⟩ := x
    simp only at q1 q2 q3
    subst q3
    obtain ⟨n, rfl⟩ : ∃ n : Nat, xn = (n : Int) := ⟨xn.toNat, by omega⟩
    have NN := hide (show n < 512 by omega)
    have hkI : (k : Int) < (d.length : Int) := by omega
    have hk0 : (0 : Int) ≤ (k : Int) := by omega
    have XK := hide hx
    have KK := hide hkl
    simp only [ShV.list] at c1
    clear hx q1 q2 hkl
    obtain ⟨w5, hw5⟩ : ∃ w5, w5 = wr.alloc (.cells #[.int .i64 (n : Int), .slice ab 1024 cb] 37) := ⟨_, rfl⟩
    have b5 : Below wr.heap.size wr w5 := by rw [hw5]; exact (Below.refl _ _).alloc (Nat.le_refl _) _
    have R5 : Hid (w5.heap[wr.heap.size]? = some (.cells #[.int .i64 (n : Int), .slice ab 1024 cb] 37 (0, 0))) := by rw [hw5]; exact heap_alloc_new _ _
    have S5 := hide (S6.out.below b5)
    have B5 := hide (B6.out.trans (b5.mono B6.out.size))
    obtain ⟨g5, hg5⟩ : ∃ g5, g5 = wr.heap.size := ⟨_, rfl⟩
    rw [← hg5] at R5
    have P5 : Hid (∀ u, 0 < k → d'[k - 1]? = some u → w5.cell? ⟨g, (k - 1) * 2, none⟩ = some (.int .i64 u.1)) := fun u _ hu => (S5.out.cells (k - 1) u hu).1
    clear b5 S6 B6
    go_upto_region 8 with fail
    rw [← hw5, ← hg5]
    clear hw5 hg5 c0 c1
    rcases Nat.eq_zero_or_pos k with hz | hz
    · have hkp : ¬ ((0 : Int) < (k : Int)) := by omega
      refine wp_region_noPanic ?_
      refine wp_region_held_drew (S := (fun W => W.heap[g5]? = some (.cells #[.int .i64 (n : Int), .slice ab 1024 cb] 37 (0, 0)) ∧ (∀ u, 0 < k → d'[k - 1]? = some u → W.cell? ⟨g, (k - 1) * 2, none⟩ = some (.int .i64 u.1)))) follows ⟨R5.out, P5.out⟩ (fun hHeld => ?_)
      have S5d := hide (S5.out.below (Below.refl w5.heap.size w5).drew)
      have B5d : Hid (Below w.heap.size w w5.drew) := B5.out.drew
      clear S5 B5 R5 P5
      generalize w5.drew = Z1 at S5d B5d hHeld ⊢
      refine tk 0 ?_ rfl (Or.inl ⟨by rfl, ?_⟩) ?_
      rotate_left
      · intro w hSw
        clear hSw
        go_simp
        all_goals with_reducible rfl
      simp only [Act.put, List.setIfInBounds_toArray, List.set_cons_zero, List.set_cons_succ]
      refine tk 1 ?_ rfl (Or.inl ⟨by rfl, ?_⟩) ?_
      rotate_left
      · intro w hSw
        have c0 := (sh_cells hSw.1).1
        clear hSw
        go_simp
        all_goals with_reducible rfl
      simp only [Act.put, List.setIfInBounds_toArray, List.set_cons_zero, List.set_cons_succ]
      refine wpAnyH_ready (rs := [2]) (by kernel_rfl) (by simp) ?_
      refine AllReadyH.cons (o := { dst := some 22, op := Op.call { callee := Callee.value (Operand.func 24), args := #[Operand.tmp 21], argTypes := #[3] }, type := 4, pos := "pages.go:113", after := #[⟨1, .data⟩], guard := none }) rfl (fun K hK => ?_) AllReadyH.nil
      go_simp
      refine (isPage_yes n NN.out Z1).mono ?_
      rintro e Z2 ⟨rfl, rfl⟩
      refine hK.out _ _ hHeld (fun hHeld => ?_)
      clear hK K
      try simp only [Act.put, List.setIfInBounds_toArray, List.set_cons_zero, List.set_cons_succ]
      refine tk 3 ?_ rfl (Or.inl ⟨by rfl, ?_⟩) ?_
      rotate_left
      · intro w hSw
        clear hSw
        go_simp
        all_goals with_reducible rfl
      simp only [Act.put, List.setIfInBounds_toArray, List.set_cons_zero, List.set_cons_succ]
      refine tk 4 ?_ rfl (Or.inl ⟨by rfl, ?_⟩) ?_
      rotate_left
      · intro w hSw
        clear hSw
        go_simp
        all_goals with_reducible rfl
      simp only [Act.put, List.setIfInBounds_toArray, List.set_cons_zero, List.set_cons_succ]
      refine tk 5 ?_ rfl (Or.inl ⟨by rfl, ?_⟩) ?_
      rotate_left
      · intro w hSw
        clear hSw
        go_simp
        all_goals with_reducible rfl
      simp only [Act.put, List.setIfInBounds_toArray, List.set_cons_zero, List.set_cons_succ]
      refine tk 6 ?_ rfl (Or.inl ⟨by rfl, ?_⟩) ?_
      rotate_left
      · intro w hSw
        have c1 := (sh_cells hSw.1).2
        clear hSw
        go_simp
        all_goals with_reducible rfl
      simp only [Act.put, List.setIfInBounds_toArray, List.set_cons_zero, List.set_cons_succ]
      refine tk 7 ?_ rfl (Or.inl ⟨by rfl, ?_⟩) ?_
      rotate_left
      · intro w hSw
        clear hSw
        go_simp
        all_goals with_reducible rfl
      simp only [Act.put, List.setIfInBounds_toArray, List.set_cons_zero, List.set_cons_succ]
      refine tk 8 ?_ rfl (Or.inl ⟨by rfl, ?_⟩) ?_
      rotate_left
      · intro w hSw
        clear hSw
        go_simp
        all_goals with_reducible rfl
      simp only [Act.put, List.setIfInBounds_toArray, List.set_cons_zero, List.set_cons_succ]
      refine tk 9 ?_ rfl (Or.inl ⟨by rfl, ?_⟩) ?_
      rotate_left
      · intro w hSw
        clear hSw
        go_simp
        all_goals with_reducible rfl
      simp only [Act.put, List.setIfInBounds_toArray, List.set_cons_zero, List.set_cons_succ]
      refine tk 10 ?_ rfl (Or.inl ⟨by rfl, ?_⟩) ?_
      rotate_left
      · intro w hSw
        clear hSw
        go_simp
        all_goals with_reducible rfl
      simp only [Act.put, List.setIfInBounds_toArray, List.set_cons_zero, List.set_cons_succ]
      refine tk 11 ?_ rfl (Or.inl ⟨by rfl, ?_⟩) ?_
      rotate_left
      · intro w hSw
        clear hSw
        go_simp
        all_goals with_reducible rfl
      simp only [Act.put, List.setIfInBounds_toArray, List.set_cons_zero, List.set_cons_succ]
      refine tk 12 ?_ rfl (Or.inl ⟨by rfl, ?_⟩) ?_
      rotate_left
      · intro w hSw
        clear hSw
        go_simp
        all_goals with_reducible rfl
      simp only [Act.put, List.setIfInBounds_toArray, List.set_cons_zero, List.set_cons_succ]
      refine tk 13 ?_ rfl (Or.inl ⟨by rfl, ?_⟩) ?_
      rotate_left
      · intro w hSw
        clear hSw
        go_simp
        all_goals with_reducible rfl
      simp only [Act.put, List.setIfInBounds_toArray, List.set_cons_zero, List.set_cons_succ]
      refine tk 14 undef rfl (Or.inr ⟨by rfl, rfl⟩) ?_
      simp only [Act.put, List.setIfInBounds_toArray, List.set_cons_zero, List.set_cons_succ]
      refine tk 15 undef rfl (Or.inr ⟨by rfl, rfl⟩) ?_
      simp only [Act.put, List.setIfInBounds_toArray, List.set_cons_zero, List.set_cons_succ]
      refine tk 16 undef rfl (Or.inr ⟨by rfl, rfl⟩) ?_
      simp only [Act.put, List.setIfInBounds_toArray, List.set_cons_zero, List.set_cons_succ]
      refine tk 17 undef rfl (Or.inr ⟨by rfl, rfl⟩) ?_
      simp only [Act.put, List.setIfInBounds_toArray, List.set_cons_zero, List.set_cons_succ]
      refine tk 18 undef rfl (Or.inr ⟨by rfl, rfl⟩) ?_
      simp only [Act.put, List.setIfInBounds_toArray, List.set_cons_zero, List.set_cons_succ]
      refine tk 19 undef rfl (Or.inr ⟨by rfl, rfl⟩) ?_
      simp only [Act.put, List.setIfInBounds_toArray, List.set_cons_zero, List.set_cons_succ]
      refine tk 20 undef rfl (Or.inr ⟨by rfl, rfl⟩) ?_
      simp only [Act.put, List.setIfInBounds_toArray, List.set_cons_zero, List.set_cons_succ]
      refine tk 21 undef rfl (Or.inr ⟨by rfl, rfl⟩) ?_
      simp only [Act.put, List.setIfInBounds_toArray, List.set_cons_zero, List.set_cons_succ]
      refine tk 22 undef rfl (Or.inr ⟨by rfl, rfl⟩) ?_
      simp only [Act.put, List.setIfInBounds_toArray, List.set_cons_zero, List.set_cons_succ]
      refine tk 23 ?_ rfl (Or.inl ⟨by rfl, ?_⟩) ?_
      rotate_left
      · intro w hSw
        clear hSw
        go_simp
        all_goals with_reducible rfl
      simp only [Act.put, List.setIfInBounds_toArray, List.set_cons_zero, List.set_cons_succ]
      refine tk 24 ?_ rfl (Or.inl ⟨by rfl, ?_⟩) ?_
      rotate_left
      · intro w hSw
        clear hSw
        go_simp
        all_goals with_reducible rfl
      simp only [Act.put, List.setIfInBounds_toArray, List.set_cons_zero, List.set_cons_succ]
      refine wpAnyH_done (by kernel_rfl) ?_ _
      refine NoPanic.normal ?_
      clear hHeld
      go_wp2_with fail
      go_roundw
      case rel => exact ⟨k + 1, KK.out, by go_num, S5d.out, B5d.out⟩
      case measure => have := KK.out; simp [intOf]; omega
    · obtain ⟨m, hm⟩ : ∃ m, k = m + 1 := ⟨k - 1, by omega⟩
      have hkp : (0 : Int) < (k : Int) := by omega
      have hmI : (m : Int) < (d.length : Int) := by have := KK.out; omega
      have hm0 : (0 : Int) ≤ (m : Int) := by omega
      have hm1 : (k : Int) - 1 = (m : Int) := by omega
      have hmw : IntKind.i64.wrap (m : Int) = (m : Int) := by have := KK.out; have := HL.out; simp [IntKind.wrap, IntKind.bits, IntKind.signed]; omega
      obtain ⟨u, hu⟩ : ∃ u, d'[m]? = some u := ⟨d'[m]'(by have := LE.out; have := KK.out; omega), List.getElem?_eq_getElem _⟩
      have hne : ¬ (u.1 = (n : Int)) := by
        have hkk := LE.out
        have hkl := KK.out
        have h3 := List.pairwise_iff_getElem.1 PW.out m k (by omega) (by omega) (by omega)
        have e1 := (List.getElem?_eq_some_iff.1 hu).2
        have e2 := (List.getElem?_eq_some_iff.1 XK.out).2
        rw [e1, e2] at h3
        simp only at h3
        omega
      have PU := hide hu
      have K0 := hide (show 0 < k by omega)
      have KM := hide (show k - 1 = m by omega)
      clear hu hm
      refine wp_region_noPanic ?_
      refine wp_region_held_drew (S := (fun W => W.heap[g5]? = some (.cells #[.int .i64 (n : Int), .slice ab 1024 cb] 37 (0, 0)) ∧ (∀ u, 0 < k → d'[k - 1]? = some u → W.cell? ⟨g, (k - 1) * 2, none⟩ = some (.int .i64 u.1)))) follows ⟨R5.out, P5.out⟩ (fun hHeld => ?_)
      have S5d := hide (S5.out.below (Below.refl w5.heap.size w5).drew)
      have B5d : Hid (Below w.heap.size w w5.drew) := B5.out.drew
      clear S5 B5 R5 P5
      generalize w5.drew = Z1 at S5d B5d hHeld ⊢
      refine tk 0 ?_ rfl (Or.inl ⟨by rfl, ?_⟩) ?_
      rotate_left
      · intro w hSw
        clear hSw
        go_simp
        all_goals with_reducible rfl
      simp only [Act.put, List.setIfInBounds_toArray, List.set_cons_zero, List.set_cons_succ]
      refine tk 1 ?_ rfl (Or.inl ⟨by rfl, ?_⟩) ?_
      rotate_left
      · intro w hSw
        have c0 := (sh_cells hSw.1).1
        clear hSw
        go_simp
        all_goals with_reducible rfl
      simp only [Act.put, List.setIfInBounds_toArray, List.set_cons_zero, List.set_cons_succ]
      refine wpAnyH_ready (rs := [2]) (by kernel_rfl) (by simp) ?_
      refine AllReadyH.cons (o := { dst := some 22, op := Op.call { callee := Callee.value (Operand.func 24), args := #[Operand.tmp 21], argTypes := #[3] }, type := 4, pos := "pages.go:113", after := #[⟨1, .data⟩], guard := none }) rfl (fun K hK => ?_) AllReadyH.nil
      go_simp
      refine (isPage_yes n NN.out Z1).mono ?_
      rintro e Z2 ⟨rfl, rfl⟩
      refine hK.out _ _ hHeld (fun hHeld => ?_)
      clear hK K
      try simp only [Act.put, List.setIfInBounds_toArray, List.set_cons_zero, List.set_cons_succ]
      refine tk 3 ?_ rfl (Or.inl ⟨by rfl, ?_⟩) ?_
      rotate_left
      · intro w hSw
        clear hSw
        go_simp
        all_goals with_reducible rfl
      simp only [Act.put, List.setIfInBounds_toArray, List.set_cons_zero, List.set_cons_succ]
      refine tk 4 ?_ rfl (Or.inl ⟨by rfl, ?_⟩) ?_
      rotate_left
      · intro w hSw
        clear hSw
        go_simp
        all_goals with_reducible rfl
      simp only [Act.put, List.setIfInBounds_toArray, List.set_cons_zero, List.set_cons_succ]
      refine tk 5 ?_ rfl (Or.inl ⟨by rfl, ?_⟩) ?_
      rotate_left
      · intro w hSw
        clear hSw
        go_simp
        all_goals with_reducible rfl
      simp only [Act.put, List.setIfInBounds_toArray, List.set_cons_zero, List.set_cons_succ]
      refine tk 6 ?_ rfl (Or.inl ⟨by rfl, ?_⟩) ?_
      rotate_left
      · intro w hSw
        have c1 := (sh_cells hSw.1).2
        clear hSw
        go_simp
        all_goals with_reducible rfl
      simp only [Act.put, List.setIfInBounds_toArray, List.set_cons_zero, List.set_cons_succ]
      refine tk 7 ?_ rfl (Or.inl ⟨by rfl, ?_⟩) ?_
      rotate_left
      · intro w hSw
        clear hSw
        go_simp
        all_goals with_reducible rfl
      simp only [Act.put, List.setIfInBounds_toArray, List.set_cons_zero, List.set_cons_succ]
      refine tk 8 ?_ rfl (Or.inl ⟨by rfl, ?_⟩) ?_
      rotate_left
      · intro w hSw
        clear hSw
        go_simp
        all_goals with_reducible rfl
      simp only [Act.put, List.setIfInBounds_toArray, List.set_cons_zero, List.set_cons_succ]
      refine tk 9 ?_ rfl (Or.inl ⟨by rfl, ?_⟩) ?_
      rotate_left
      · intro w hSw
        clear hSw
        go_simp
        all_goals with_reducible rfl
      simp only [Act.put, List.setIfInBounds_toArray, List.set_cons_zero, List.set_cons_succ]
      refine tk 10 ?_ rfl (Or.inl ⟨by rfl, ?_⟩) ?_
      rotate_left
      · intro w hSw
        clear hSw
        go_simp
        all_goals with_reducible rfl
      simp only [Act.put, List.setIfInBounds_toArray, List.set_cons_zero, List.set_cons_succ]
      refine tk 11 ?_ rfl (Or.inl ⟨by rfl, ?_⟩) ?_
      rotate_left
      · intro w hSw
        clear hSw
        go_simp
        all_goals with_reducible rfl
      simp only [Act.put, List.setIfInBounds_toArray, List.set_cons_zero, List.set_cons_succ]
      refine tk 12 ?_ rfl (Or.inl ⟨by rfl, ?_⟩) ?_
      rotate_left
      · intro w hSw
        clear hSw
        go_simp
        all_goals with_reducible rfl
      simp only [Act.put, List.setIfInBounds_toArray, List.set_cons_zero, List.set_cons_succ]
      refine tk 13 ?_ rfl (Or.inl ⟨by rfl, ?_⟩) ?_
      rotate_left
      · intro w hSw
        clear hSw
        go_simp
        all_goals with_reducible rfl
      simp only [Act.put, List.setIfInBounds_toArray, List.set_cons_zero, List.set_cons_succ]
      refine tk 14 ?_ rfl (Or.inl ⟨by rfl, ?_⟩) ?_
      rotate_left
      · intro w hSw
        clear hSw
        go_simp
        all_goals with_reducible rfl
      simp only [Act.put, List.setIfInBounds_toArray, List.set_cons_zero, List.set_cons_succ]
      refine tk 15 ?_ rfl (Or.inl ⟨by rfl, ?_⟩) ?_
      rotate_left
      · intro w hSw
        clear hSw
        go_simp
        all_goals with_reducible rfl
      simp only [Act.put, List.setIfInBounds_toArray, List.set_cons_zero, List.set_cons_succ]
      refine tk 16 ?_ rfl (Or.inl ⟨by rfl, ?_⟩) ?_
      rotate_left
      · intro w hSw
        clear hSw
        go_simp
        all_goals with_reducible rfl
      simp only [Act.put, List.setIfInBounds_toArray, List.set_cons_zero, List.set_cons_succ]
      refine tk 17 ?_ rfl (Or.inl ⟨by rfl, ?_⟩) ?_
      rotate_left
      · intro w hSw
        clear hSw
        go_simp
        all_goals with_reducible rfl
      simp only [Act.put, List.setIfInBounds_toArray, List.set_cons_zero, List.set_cons_succ]
      refine tk 18 ?_ rfl (Or.inl ⟨by rfl, ?_⟩) ?_
      rotate_left
      · intro w hSw
        clear hSw
        go_simp
        all_goals with_reducible rfl
      simp only [Act.put, List.setIfInBounds_toArray, List.set_cons_zero, List.set_cons_succ]
      refine tk 19 ?_ rfl (Or.inl ⟨by rfl, ?_⟩) ?_
      rotate_left
      · intro w hSw
        have c2 := hSw.2 _ K0.out (by rw [KM.out]; exact PU.out)
        rw [KM.out] at c2
        clear hSw
        go_simp
        all_goals with_reducible rfl
      simp only [Act.put, List.setIfInBounds_toArray, List.set_cons_zero, List.set_cons_succ]
      refine tk 20 ?_ rfl (Or.inl ⟨by rfl, ?_⟩) ?_
      rotate_left
      · intro w hSw
        clear hSw
        go_simp
        all_goals with_reducible rfl
      simp only [Act.put, List.setIfInBounds_toArray, List.set_cons_zero, List.set_cons_succ]
      refine tk 21 ?_ rfl (Or.inl ⟨by rfl, ?_⟩) ?_
      rotate_left
      · intro w hSw
        have c0 := (sh_cells hSw.1).1
        clear hSw
        go_simp
        all_goals with_reducible rfl
      simp only [Act.put, List.setIfInBounds_toArray, List.set_cons_zero, List.set_cons_succ]
      refine tk 22 ?_ rfl (Or.inl ⟨by rfl, ?_⟩) ?_
      rotate_left
      · intro w hSw
        clear hSw
        go_simp
        all_goals with_reducible rfl
      simp only [Act.put, List.setIfInBounds_toArray, List.set_cons_zero, List.set_cons_succ]
      refine tk 23 ?_ rfl (Or.inl ⟨by rfl, ?_⟩) ?_
      rotate_left
      · intro w hSw
        clear hSw
        go_simp
        all_goals with_reducible rfl
      simp only [Act.put, List.setIfInBounds_toArray, List.set_cons_zero, List.set_cons_succ]
      refine tk 24 ?_ rfl (Or.inl ⟨by rfl, ?_⟩) ?_
      rotate_left
      · intro w hSw
        clear hSw
        go_simp
        all_goals with_reducible rfl
      simp only [Act.put, List.setIfInBounds_toArray, List.set_cons_zero, List.set_cons_succ]
      refine wpAnyH_done (by kernel_rfl) ?_ _
      refine NoPanic.normal ?_
      clear hHeld
      go_wp2_with fail
      go_roundw
      case rel => exact ⟨k + 1, KK.out, by go_num, S5d.out, B5d.out⟩
      case measure => have := KK.out; simp [intOf]; omega
  · have hkI : ¬ ((k : Int) < (d.length : Int)) := by omega
    go_wp2_with fail
    go_ret2
    exact ⟨g, ⟨c, rfl⟩, HG.out, d', PM.out, PW.out, S6.out, B6.out⟩
end Go.Proofs.YthjlhngjpbmieaaGreatDoor
