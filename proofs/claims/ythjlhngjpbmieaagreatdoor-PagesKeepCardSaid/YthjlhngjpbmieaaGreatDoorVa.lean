/- What can't be put together, and other refusals. -/
import Derived.Test.YthjlhngjpbmieaaGreatDoorTd
import Derived.Test.YthjlhngjpbmieaaGreatDoorJc
import Derived.Test.YthjlhngjpbmieaaGreatDoorUd
namespace Go.Proofs.YthjlhngjpbmieaaGreatDoor
open Go.RowKit

set_option maxRecDepth 10000 in
theorem isPage_in (n : Int) (h : 0 ≤ n ∧ n < 512) (w : World) : Calls Tryz.prog 24 #[.int .i64 n] w fun e w' => e = .returned (.bool true) ∧ w = w' := by
  obtain ⟨m, rfl⟩ : ∃ m : Nat, n = (m : Int) := ⟨n.toNat, by omega⟩
  exact isPage_yes m (by omega) w
theorem isPage_no (n : Int) (h : ¬ (0 ≤ n ∧ n < 512)) (w : World) : Calls Tryz.prog 24 #[.int .i64 n] w fun e w' => e = .returned (.bool false) ∧ w = w' := by
  by_cases e : n < 0
  · exact isPage_low n e w
  · exact isPage_high n (by omega) w
/-- A sheet that may be put by itself. -/
def GoodSh (x : ShV) : Prop := 0 ≤ x.1 ∧ x.1 < 512 ∧ x.2.2.1 = 1024
theorem nodup_of {d : List ShV} (h : d.Pairwise (fun x y => x.1 ≤ y.1)) (h2 : ∀ i x y, d[i]? = some x → d[i + 1]? = some y → x.1 ≠ y.1) : (d.map (·.1)).Nodup := by
  rw [List.Nodup, List.pairwise_map, List.pairwise_iff_getElem]
  intro i j hi hj hij e
  have h3 := List.pairwise_iff_getElem.1 h
  obtain ⟨m, rfl⟩ : ∃ m, j = m + 1 := ⟨j - 1, by omega⟩
  have hm := h3 m (m + 1) (by omega) hj (by omega)
  have hne := h2 m _ _ (List.getElem?_eq_getElem (by omega)) (List.getElem?_eq_getElem hj)
  by_cases e2 : i = m
  · subst e2
    exact hne e
  · have := h3 i m hi (by omega) (by omega)
    omega
set_option maxHeartbeats 4000000 in
set_option maxRecDepth 10000 in
theorem inOrder_no (b off cap : Nat) (d : List ShV) (w : World) (h0 : ∀ j u, (d.flatMap encSh)[j]? = some u → w.cell? ⟨b, off + j, none⟩ = some u) (hd : d ≠ []) (hl : d.length ≤ 256) (hbad : ¬ ((∀ x ∈ d, GoodSh x) ∧ (d.map (·.1)).Nodup)) :
   Calls Tryz.prog 30 #[.slice (some ⟨b, off, none⟩) d.length cap] w fun e w' => e = .returned (.tuple #[.slice none 0 0, .bool false]) ∧ Below w.heap.size w w' := by
  have H0 := hide h0
  have HD := hide hd
  have HL := hide hl
  have HBAD := hide hbad
  have hgt : ¬ ((256 : Int) < (d.length : Int)) := by omega
  clear h0 hd hl hbad
  go_enter Tryz.func30, Tryz.ntmps30
  go_wp2_with fail
  refine (pclone_any b off cap d w H0.out HD.out (Nat.le_trans HL.out (by omega))).mono ?_
  rintro e w1 ⟨g, c, rfl, hg, hs, b1⟩
  have S1 := hide hs
  have B1 := hide b1
  have HG : Hid (w.heap.size ≤ g) := hg
  clear hs b1 hg H0
  go_wp2_with fail
  refine (sort_rows g c d w1 S1.out (Nat.le_trans HL.out (by omega))).mono ?_
  rintro e w2 ⟨rfl, d', hpm, hpw, hs2, hb2⟩
  have S2 := hide hs2
  have B2 := hide (B1.out.trans (hb2 _ HG.out))
  have PM := hide hpm
  have PW := hide hpw
  have LE : Hid (d'.length = d.length) := hpm.length_eq
  clear hpm hpw hs2 hb2 S1 B1
  go_wp2_with fail
  go_loopw [15] (fun i wr => ∃ k : Nat, k ≤ d.length ∧ i = .int .i64 (k : Int) ∧ ShR wr g d' ∧ Below w.heap.size w wr ∧ (∀ i x, i < k → d'[i]? = some x → GoodSh x ∧ ∀ y, 0 < i → d'[i - 1]? = some y → y.1 ≠ x.1)) (fun i _ => d.length - (intOf i).toNat)
  case atStart => exact ⟨0, Nat.zero_le _, rfl, S2.out, B2.out, fun i x hi => absurd hi (Nat.not_lt_zero _)⟩
  case round =>
  obtain ⟨k, hk, rfl, hs, hb, hgd⟩ := hrel
  have S6 := hide hs
  have B6 := hide hb
  have KL := hide hk
  have GD := hide hgd
  clear hs hb hk hgd S2 B2
  by_cases hkl : k < d.length
  · obtain ⟨x, hx⟩ : ∃ x, d'[k]? = some x := ⟨d'[k]'(by rw [LE.out]; exact hkl), List.getElem?_eq_getElem _⟩
    obtain ⟨c0, c1⟩ := S6.out.cells k x hx
    obtain ⟨n, ab, xl, cb⟩ := x
    have hkI : (k : Int) < (d.length : Int) := by omega
    have hk0 : (0 : Int) ≤ (k : Int) := by omega
    have XK := hide hx
    have KK := hide hkl
    simp only [ShV.list] at c1
    clear hx hkl
    obtain ⟨w5, hw5⟩ : ∃ w5, w5 = wr.alloc (.cells #[.int .i64 n, .slice ab xl cb] 37) := ⟨_, rfl⟩
    have b5 : Below wr.heap.size wr w5 := by rw [hw5]; exact (Below.refl _ _).alloc (Nat.le_refl _) _
    have R5 : Hid (w5.heap[wr.heap.size]? = some (.cells #[.int .i64 n, .slice ab xl cb] 37 (0, 0))) := by rw [hw5]; exact heap_alloc_new _ _
    have S5 := hide (S6.out.below b5)
    have B5 := hide (B6.out.trans (b5.mono B6.out.size))
    obtain ⟨g5, hg5⟩ : ∃ g5, g5 = wr.heap.size := ⟨_, rfl⟩
    rw [← hg5] at R5
    have P5 : Hid (∀ u, 0 < k → d'[k - 1]? = some u → w5.cell? ⟨g, (k - 1) * 2, none⟩ = some (.int .i64 u.1)) := fun u _ hu => (S5.out.cells (k - 1) u hu).1
    clear b5 S6 B6
    go_upto_region 8 with fail
    rw [← hw5, ← hg5]
    clear hw5 hg5 c0 c1
    by_cases hpage : 0 ≤ n ∧ n < 512
    · have NN := hide hpage
      by_cases hxl : xl = 1024
      · subst hxl
        rcases Nat.eq_zero_or_pos k with hz | hz
        · have hkp : ¬ ((0 : Int) < (k : Int)) := by omega
          have GOOD : Hid (∀ i x, i < k + 1 → d'[i]? = some x → GoodSh x ∧ ∀ y, 0 < i → d'[i - 1]? = some y → y.1 ≠ x.1) := fun i x hi hx => by
            obtain rfl : i = 0 := by omega
            rw [hz] at XK
            rw [XK.out] at hx
            injection hx with hx
            subst hx
            exact ⟨⟨hpage.1, hpage.2, rfl⟩, fun y h0 => absurd h0 (Nat.lt_irrefl _)⟩
          clear hpage
          refine wp_region_noPanic ?_
          refine wp_region_held_drew (S := (fun W => W.heap[g5]? = some (.cells #[.int .i64 n, .slice ab 1024 cb] 37 (0, 0)) ∧ (∀ u, 0 < k → d'[k - 1]? = some u → W.cell? ⟨g, (k - 1) * 2, none⟩ = some (.int .i64 u.1)))) follows ⟨R5.out, P5.out⟩ (fun hHeld => ?_)
          have S5d := hide (S5.out.below (Below.refl w5.heap.size w5).drew)
          have B5d : Hid (Below w.heap.size w w5.drew) := B5.out.drew
          clear S5 B5 R5 P5
          generalize w5.drew = Z1 at S5d B5d hHeld ⊢
          refine tk 0 ?_ rfl (Or.inl ⟨by rfl, ?_⟩) ?_
          rotate_left
          · intro w hSw
            clear hSw
            go_simp
            all_goals with_reducible rfl
          simp only [Act.put, List.setIfInBounds_toArray, List.set_cons_zero, List.set_cons_succ]
          refine tk 1 ?_ rfl (Or.inl ⟨by rfl, ?_⟩) ?_
          rotate_left
          · intro w hSw
            have c0 := (sh_cells hSw.1).1
            clear hSw
            go_simp
            all_goals with_reducible rfl
          simp only [Act.put, List.setIfInBounds_toArray, List.set_cons_zero, List.set_cons_succ]
          refine wpAnyH_ready (rs := [2]) (by kernel_rfl) (by simp) ?_
          refine AllReadyH.cons (o := { dst := some 22, op := Op.call { callee := Callee.value (Operand.func 24), args := #[Operand.tmp 21], argTypes := #[3] }, type := 4, pos := "pages.go:113", after := #[⟨1, .data⟩], guard := none }) rfl (fun K hK => ?_) AllReadyH.nil
          go_simp
          refine (isPage_in n NN.out Z1).mono ?_
          rintro e Z2 ⟨rfl, rfl⟩
          refine hK.out _ _ hHeld (fun hHeld => ?_)
          clear hK K
          try simp only [Act.put, List.setIfInBounds_toArray, List.set_cons_zero, List.set_cons_succ]
          refine tk 3 ?_ rfl (Or.inl ⟨by rfl, ?_⟩) ?_
          rotate_left
          · intro w hSw
            clear hSw
            go_simp
            all_goals with_reducible rfl
          simp only [Act.put, List.setIfInBounds_toArray, List.set_cons_zero, List.set_cons_succ]
          refine tk 4 ?_ rfl (Or.inl ⟨by rfl, ?_⟩) ?_
          rotate_left
          · intro w hSw
            clear hSw
            go_simp
            all_goals with_reducible rfl
          simp only [Act.put, List.setIfInBounds_toArray, List.set_cons_zero, List.set_cons_succ]
          refine tk 5 ?_ rfl (Or.inl ⟨by rfl, ?_⟩) ?_
          rotate_left
          · intro w hSw
            clear hSw
            go_simp
            all_goals with_reducible rfl
          simp only [Act.put, List.setIfInBounds_toArray, List.set_cons_zero, List.set_cons_succ]
          refine tk 6 ?_ rfl (Or.inl ⟨by rfl, ?_⟩) ?_
          rotate_left
          · intro w hSw
            have c1 := (sh_cells hSw.1).2
            clear hSw
            go_simp
            all_goals with_reducible rfl
          simp only [Act.put, List.setIfInBounds_toArray, List.set_cons_zero, List.set_cons_succ]
          refine tk 7 ?_ rfl (Or.inl ⟨by rfl, ?_⟩) ?_
          rotate_left
          · intro w hSw
            clear hSw
            go_simp
            all_goals with_reducible rfl
          simp only [Act.put, List.setIfInBounds_toArray, List.set_cons_zero, List.set_cons_succ]
          refine tk 8 ?_ rfl (Or.inl ⟨by rfl, ?_⟩) ?_
          rotate_left
          · intro w hSw
            clear hSw
            go_simp
            all_goals with_reducible rfl
          simp only [Act.put, List.setIfInBounds_toArray, List.set_cons_zero, List.set_cons_succ]
          refine tk 9 ?_ rfl (Or.inl ⟨by rfl, ?_⟩) ?_
          rotate_left
          · intro w hSw
            clear hSw
            go_simp
            all_goals with_reducible rfl
          simp only [Act.put, List.setIfInBounds_toArray, List.set_cons_zero, List.set_cons_succ]
          refine tk 10 ?_ rfl (Or.inl ⟨by rfl, ?_⟩) ?_
          rotate_left
          · intro w hSw
            clear hSw
            go_simp
            all_goals with_reducible rfl
          simp only [Act.put, List.setIfInBounds_toArray, List.set_cons_zero, List.set_cons_succ]
          refine tk 11 ?_ rfl (Or.inl ⟨by rfl, ?_⟩) ?_
          rotate_left
          · intro w hSw
            clear hSw
            go_simp
            all_goals with_reducible rfl
          simp only [Act.put, List.setIfInBounds_toArray, List.set_cons_zero, List.set_cons_succ]
          refine tk 12 ?_ rfl (Or.inl ⟨by rfl, ?_⟩) ?_
          rotate_left
          · intro w hSw
            clear hSw
            go_simp
            all_goals with_reducible rfl
          simp only [Act.put, List.setIfInBounds_toArray, List.set_cons_zero, List.set_cons_succ]
          refine tk 13 ?_ rfl (Or.inl ⟨by rfl, ?_⟩) ?_
          rotate_left
          · intro w hSw
            clear hSw
            go_simp
            all_goals with_reducible rfl
          simp only [Act.put, List.setIfInBounds_toArray, List.set_cons_zero, List.set_cons_succ]
          refine tk 14 undef rfl (Or.inr ⟨by rfl, rfl⟩) ?_
          simp only [Act.put, List.setIfInBounds_toArray, List.set_cons_zero, List.set_cons_succ]
          refine tk 15 undef rfl (Or.inr ⟨by rfl, rfl⟩) ?_
          simp only [Act.put, List.setIfInBounds_toArray, List.set_cons_zero, List.set_cons_succ]
          refine tk 16 undef rfl (Or.inr ⟨by rfl, rfl⟩) ?_
          simp only [Act.put, List.setIfInBounds_toArray, List.set_cons_zero, List.set_cons_succ]
          refine tk 17 undef rfl (Or.inr ⟨by rfl, rfl⟩) ?_
          simp only [Act.put, List.setIfInBounds_toArray, List.set_cons_zero, List.set_cons_succ]
          refine tk 18 undef rfl (Or.inr ⟨by rfl, rfl⟩) ?_
          simp only [Act.put, List.setIfInBounds_toArray, List.set_cons_zero, List.set_cons_succ]
          refine tk 19 undef rfl (Or.inr ⟨by rfl, rfl⟩) ?_
          simp only [Act.put, List.setIfInBounds_toArray, List.set_cons_zero, List.set_cons_succ]
          refine tk 20 undef rfl (Or.inr ⟨by rfl, rfl⟩) ?_
          simp only [Act.put, List.setIfInBounds_toArray, List.set_cons_zero, List.set_cons_succ]
          refine tk 21 undef rfl (Or.inr ⟨by rfl, rfl⟩) ?_
          simp only [Act.put, List.setIfInBounds_toArray, List.set_cons_zero, List.set_cons_succ]
          refine tk 22 undef rfl (Or.inr ⟨by rfl, rfl⟩) ?_
          simp only [Act.put, List.setIfInBounds_toArray, List.set_cons_zero, List.set_cons_succ]
          refine tk 23 ?_ rfl (Or.inl ⟨by rfl, ?_⟩) ?_
          rotate_left
          · intro w hSw
            clear hSw
            go_simp
            all_goals with_reducible rfl
          simp only [Act.put, List.setIfInBounds_toArray, List.set_cons_zero, List.set_cons_succ]
          refine tk 24 ?_ rfl (Or.inl ⟨by rfl, ?_⟩) ?_
          rotate_left
          · intro w hSw
            clear hSw
            go_simp
            all_goals with_reducible rfl
          simp only [Act.put, List.setIfInBounds_toArray, List.set_cons_zero, List.set_cons_succ]
          refine wpAnyH_done (by kernel_rfl) ?_ _
          refine NoPanic.normal ?_
          clear hHeld
          go_wp2_with fail
          go_roundw
          case rel => exact ⟨k + 1, KK.out, by go_num, S5d.out, B5d.out, GOOD.out⟩
          case measure => have := KK.out; simp [intOf]; omega
        · obtain ⟨m, hm⟩ : ∃ m, k = m + 1 := ⟨k - 1, by omega⟩
          have hkp : (0 : Int) < (k : Int) := by omega
          have hmI : (m : Int) < (d.length : Int) := by have := KK.out; omega
          have hm0 : (0 : Int) ≤ (m : Int) := by omega
          have hm1 : (k : Int) - 1 = (m : Int) := by omega
          have hmw : IntKind.i64.wrap (m : Int) = (m : Int) := by have := KK.out; have := HL.out; simp [IntKind.wrap, IntKind.bits, IntKind.signed]; omega
          obtain ⟨u, hu⟩ : ∃ u, d'[m]? = some u := ⟨d'[m]'(by have := LE.out; have := KK.out; omega), List.getElem?_eq_getElem _⟩
          have PU := hide hu
          have K0 := hide (show 0 < k by omega)
          have KM := hide (show k - 1 = m by omega)
          by_cases hne : u.1 = n
          · clear hu hm hpage
            refine wp_region_noPanic ?_
            refine wp_region_held_drew (S := (fun W => W.heap[g5]? = some (.cells #[.int .i64 n, .slice ab 1024 cb] 37 (0, 0)) ∧ (∀ u, 0 < k → d'[k - 1]? = some u → W.cell? ⟨g, (k - 1) * 2, none⟩ = some (.int .i64 u.1)))) follows ⟨R5.out, P5.out⟩ (fun hHeld => ?_)
            have S5d := hide (S5.out.below (Below.refl w5.heap.size w5).drew)
            have B5d : Hid (Below w.heap.size w w5.drew) := B5.out.drew
            clear S5 B5 R5 P5
            generalize w5.drew = Z1 at S5d B5d hHeld ⊢
            refine tk 0 ?_ rfl (Or.inl ⟨by rfl, ?_⟩) ?_
            rotate_left
            · intro w hSw
              clear hSw
              go_simp
              all_goals with_reducible rfl
            simp only [Act.put, List.setIfInBounds_toArray, List.set_cons_zero, List.set_cons_succ]
            refine tk 1 ?_ rfl (Or.inl ⟨by rfl, ?_⟩) ?_
            rotate_left
            · intro w hSw
              have c0 := (sh_cells hSw.1).1
              clear hSw
              go_simp
              all_goals with_reducible rfl
            simp only [Act.put, List.setIfInBounds_toArray, List.set_cons_zero, List.set_cons_succ]
            refine wpAnyH_ready (rs := [2]) (by kernel_rfl) (by simp) ?_
            refine AllReadyH.cons (o := { dst := some 22, op := Op.call { callee := Callee.value (Operand.func 24), args := #[Operand.tmp 21], argTypes := #[3] }, type := 4, pos := "pages.go:113", after := #[⟨1, .data⟩], guard := none }) rfl (fun K hK => ?_) AllReadyH.nil
            go_simp
            refine (isPage_in n NN.out Z1).mono ?_
            rintro e Z2 ⟨rfl, rfl⟩
            refine hK.out _ _ hHeld (fun hHeld => ?_)
            clear hK K
            try simp only [Act.put, List.setIfInBounds_toArray, List.set_cons_zero, List.set_cons_succ]
            refine tk 3 ?_ rfl (Or.inl ⟨by rfl, ?_⟩) ?_
            rotate_left
            · intro w hSw
              clear hSw
              go_simp
              all_goals with_reducible rfl
            simp only [Act.put, List.setIfInBounds_toArray, List.set_cons_zero, List.set_cons_succ]
            refine tk 4 ?_ rfl (Or.inl ⟨by rfl, ?_⟩) ?_
            rotate_left
            · intro w hSw
              clear hSw
              go_simp
              all_goals with_reducible rfl
            simp only [Act.put, List.setIfInBounds_toArray, List.set_cons_zero, List.set_cons_succ]
            refine tk 5 ?_ rfl (Or.inl ⟨by rfl, ?_⟩) ?_
            rotate_left
            · intro w hSw
              clear hSw
              go_simp
              all_goals with_reducible rfl
            simp only [Act.put, List.setIfInBounds_toArray, List.set_cons_zero, List.set_cons_succ]
            refine tk 6 ?_ rfl (Or.inl ⟨by rfl, ?_⟩) ?_
            rotate_left
            · intro w hSw
              have c1 := (sh_cells hSw.1).2
              clear hSw
              go_simp
              all_goals with_reducible rfl
            simp only [Act.put, List.setIfInBounds_toArray, List.set_cons_zero, List.set_cons_succ]
            refine tk 7 ?_ rfl (Or.inl ⟨by rfl, ?_⟩) ?_
            rotate_left
            · intro w hSw
              clear hSw
              go_simp
              all_goals with_reducible rfl
            simp only [Act.put, List.setIfInBounds_toArray, List.set_cons_zero, List.set_cons_succ]
            refine tk 8 ?_ rfl (Or.inl ⟨by rfl, ?_⟩) ?_
            rotate_left
            · intro w hSw
              clear hSw
              go_simp
              all_goals with_reducible rfl
            simp only [Act.put, List.setIfInBounds_toArray, List.set_cons_zero, List.set_cons_succ]
            refine tk 9 ?_ rfl (Or.inl ⟨by rfl, ?_⟩) ?_
            rotate_left
            · intro w hSw
              clear hSw
              go_simp
              all_goals with_reducible rfl
            simp only [Act.put, List.setIfInBounds_toArray, List.set_cons_zero, List.set_cons_succ]
            refine tk 10 ?_ rfl (Or.inl ⟨by rfl, ?_⟩) ?_
            rotate_left
            · intro w hSw
              clear hSw
              go_simp
              all_goals with_reducible rfl
            simp only [Act.put, List.setIfInBounds_toArray, List.set_cons_zero, List.set_cons_succ]
            refine tk 11 ?_ rfl (Or.inl ⟨by rfl, ?_⟩) ?_
            rotate_left
            · intro w hSw
              clear hSw
              go_simp
              all_goals with_reducible rfl
            simp only [Act.put, List.setIfInBounds_toArray, List.set_cons_zero, List.set_cons_succ]
            refine tk 12 ?_ rfl (Or.inl ⟨by rfl, ?_⟩) ?_
            rotate_left
            · intro w hSw
              clear hSw
              go_simp
              all_goals with_reducible rfl
            simp only [Act.put, List.setIfInBounds_toArray, List.set_cons_zero, List.set_cons_succ]
            refine tk 13 ?_ rfl (Or.inl ⟨by rfl, ?_⟩) ?_
            rotate_left
            · intro w hSw
              clear hSw
              go_simp
              all_goals with_reducible rfl
            simp only [Act.put, List.setIfInBounds_toArray, List.set_cons_zero, List.set_cons_succ]
            refine tk 14 ?_ rfl (Or.inl ⟨by rfl, ?_⟩) ?_
            rotate_left
            · intro w hSw
              clear hSw
              go_simp
              all_goals with_reducible rfl
            simp only [Act.put, List.setIfInBounds_toArray, List.set_cons_zero, List.set_cons_succ]
            refine tk 15 ?_ rfl (Or.inl ⟨by rfl, ?_⟩) ?_
            rotate_left
            · intro w hSw
              clear hSw
              go_simp
              all_goals with_reducible rfl
            simp only [Act.put, List.setIfInBounds_toArray, List.set_cons_zero, List.set_cons_succ]
            refine tk 16 ?_ rfl (Or.inl ⟨by rfl, ?_⟩) ?_
            rotate_left
            · intro w hSw
              clear hSw
              go_simp
              all_goals with_reducible rfl
            simp only [Act.put, List.setIfInBounds_toArray, List.set_cons_zero, List.set_cons_succ]
            refine tk 17 ?_ rfl (Or.inl ⟨by rfl, ?_⟩) ?_
            rotate_left
            · intro w hSw
              clear hSw
              go_simp
              all_goals with_reducible rfl
            simp only [Act.put, List.setIfInBounds_toArray, List.set_cons_zero, List.set_cons_succ]
            refine tk 18 ?_ rfl (Or.inl ⟨by rfl, ?_⟩) ?_
            rotate_left
            · intro w hSw
              clear hSw
              go_simp
              all_goals with_reducible rfl
            simp only [Act.put, List.setIfInBounds_toArray, List.set_cons_zero, List.set_cons_succ]
            refine tk 19 ?_ rfl (Or.inl ⟨by rfl, ?_⟩) ?_
            rotate_left
            · intro w hSw
              have c2 := hSw.2 _ K0.out (by rw [KM.out]; exact PU.out)
              rw [KM.out] at c2
              clear hSw
              go_simp
              all_goals with_reducible rfl
            simp only [Act.put, List.setIfInBounds_toArray, List.set_cons_zero, List.set_cons_succ]
            refine tk 20 ?_ rfl (Or.inl ⟨by rfl, ?_⟩) ?_
            rotate_left
            · intro w hSw
              clear hSw
              go_simp
              all_goals with_reducible rfl
            simp only [Act.put, List.setIfInBounds_toArray, List.set_cons_zero, List.set_cons_succ]
            refine tk 21 ?_ rfl (Or.inl ⟨by rfl, ?_⟩) ?_
            rotate_left
            · intro w hSw
              have c0 := (sh_cells hSw.1).1
              clear hSw
              go_simp
              all_goals with_reducible rfl
            simp only [Act.put, List.setIfInBounds_toArray, List.set_cons_zero, List.set_cons_succ]
            refine tk 22 ?_ rfl (Or.inl ⟨by rfl, ?_⟩) ?_
            rotate_left
            · intro w hSw
              clear hSw
              go_simp
              all_goals with_reducible rfl
            simp only [Act.put, List.setIfInBounds_toArray, List.set_cons_zero, List.set_cons_succ]
            refine tk 23 ?_ rfl (Or.inl ⟨by rfl, ?_⟩) ?_
            rotate_left
            · intro w hSw
              clear hSw
              go_simp
              all_goals with_reducible rfl
            simp only [Act.put, List.setIfInBounds_toArray, List.set_cons_zero, List.set_cons_succ]
            refine tk 24 ?_ rfl (Or.inl ⟨by rfl, ?_⟩) ?_
            rotate_left
            · intro w hSw
              clear hSw
              go_simp
              all_goals with_reducible rfl
            simp only [Act.put, List.setIfInBounds_toArray, List.set_cons_zero, List.set_cons_succ]
            refine wpAnyH_done (by kernel_rfl) ?_ _
            refine NoPanic.normal ?_
            clear hHeld
            go_wp2_with fail
            go_ret2
            exact ⟨rfl, B5d.out⟩
          · have GOOD : Hid (∀ i x, i < k + 1 → d'[i]? = some x → GoodSh x ∧ ∀ y, 0 < i → d'[i - 1]? = some y → y.1 ≠ x.1) := fun i x hi hx => by
              by_cases e : i < k
              · exact GD.out i x e hx
              · obtain rfl : i = k := by omega
                rw [XK.out] at hx
                injection hx with hx
                subst hx
                refine ⟨⟨hpage.1, hpage.2, rfl⟩, fun y _ hy => ?_⟩
                rw [KM.out, hu] at hy
                injection hy with hy
                subst hy
                exact hne
            clear hu hm hpage
            refine wp_region_noPanic ?_
            refine wp_region_held_drew (S := (fun W => W.heap[g5]? = some (.cells #[.int .i64 n, .slice ab 1024 cb] 37 (0, 0)) ∧ (∀ u, 0 < k → d'[k - 1]? = some u → W.cell? ⟨g, (k - 1) * 2, none⟩ = some (.int .i64 u.1)))) follows ⟨R5.out, P5.out⟩ (fun hHeld => ?_)
            have S5d := hide (S5.out.below (Below.refl w5.heap.size w5).drew)
            have B5d : Hid (Below w.heap.size w w5.drew) := B5.out.drew
            clear S5 B5 R5 P5
            generalize w5.drew = Z1 at S5d B5d hHeld ⊢
            refine tk 0 ?_ rfl (Or.inl ⟨by rfl, ?_⟩) ?_
            rotate_left
            · intro w hSw
              clear hSw
              go_simp
              all_goals with_reducible rfl
            simp only [Act.put, List.setIfInBounds_toArray, List.set_cons_zero, List.set_cons_succ]
            refine tk 1 ?_ rfl (Or.inl ⟨by rfl, ?_⟩) ?_
            rotate_left
            · intro w hSw
              have c0 := (sh_cells hSw.1).1
              clear hSw
              go_simp
              all_goals with_reducible rfl
            simp only [Act.put, List.setIfInBounds_toArray, List.set_cons_zero, List.set_cons_succ]
            refine wpAnyH_ready (rs := [2]) (by kernel_rfl) (by simp) ?_
            refine AllReadyH.cons (o := { dst := some 22, op := Op.call { callee := Callee.value (Operand.func 24), args := #[Operand.tmp 21], argTypes := #[3] }, type := 4, pos := "pages.go:113", after := #[⟨1, .data⟩], guard := none }) rfl (fun K hK => ?_) AllReadyH.nil
            go_simp
            refine (isPage_in n NN.out Z1).mono ?_
            rintro e Z2 ⟨rfl, rfl⟩
            refine hK.out _ _ hHeld (fun hHeld => ?_)
            clear hK K
            try simp only [Act.put, List.setIfInBounds_toArray, List.set_cons_zero, List.set_cons_succ]
            refine tk 3 ?_ rfl (Or.inl ⟨by rfl, ?_⟩) ?_
            rotate_left
            · intro w hSw
              clear hSw
              go_simp
              all_goals with_reducible rfl
            simp only [Act.put, List.setIfInBounds_toArray, List.set_cons_zero, List.set_cons_succ]
            refine tk 4 ?_ rfl (Or.inl ⟨by rfl, ?_⟩) ?_
            rotate_left
            · intro w hSw
              clear hSw
              go_simp
              all_goals with_reducible rfl
            simp only [Act.put, List.setIfInBounds_toArray, List.set_cons_zero, List.set_cons_succ]
            refine tk 5 ?_ rfl (Or.inl ⟨by rfl, ?_⟩) ?_
            rotate_left
            · intro w hSw
              clear hSw
              go_simp
              all_goals with_reducible rfl
            simp only [Act.put, List.setIfInBounds_toArray, List.set_cons_zero, List.set_cons_succ]
            refine tk 6 ?_ rfl (Or.inl ⟨by rfl, ?_⟩) ?_
            rotate_left
            · intro w hSw
              have c1 := (sh_cells hSw.1).2
              clear hSw
              go_simp
              all_goals with_reducible rfl
            simp only [Act.put, List.setIfInBounds_toArray, List.set_cons_zero, List.set_cons_succ]
            refine tk 7 ?_ rfl (Or.inl ⟨by rfl, ?_⟩) ?_
            rotate_left
            · intro w hSw
              clear hSw
              go_simp
              all_goals with_reducible rfl
            simp only [Act.put, List.setIfInBounds_toArray, List.set_cons_zero, List.set_cons_succ]
            refine tk 8 ?_ rfl (Or.inl ⟨by rfl, ?_⟩) ?_
            rotate_left
            · intro w hSw
              clear hSw
              go_simp
              all_goals with_reducible rfl
            simp only [Act.put, List.setIfInBounds_toArray, List.set_cons_zero, List.set_cons_succ]
            refine tk 9 ?_ rfl (Or.inl ⟨by rfl, ?_⟩) ?_
            rotate_left
            · intro w hSw
              clear hSw
              go_simp
              all_goals with_reducible rfl
            simp only [Act.put, List.setIfInBounds_toArray, List.set_cons_zero, List.set_cons_succ]
            refine tk 10 ?_ rfl (Or.inl ⟨by rfl, ?_⟩) ?_
            rotate_left
            · intro w hSw
              clear hSw
              go_simp
              all_goals with_reducible rfl
            simp only [Act.put, List.setIfInBounds_toArray, List.set_cons_zero, List.set_cons_succ]
            refine tk 11 ?_ rfl (Or.inl ⟨by rfl, ?_⟩) ?_
            rotate_left
            · intro w hSw
              clear hSw
              go_simp
              all_goals with_reducible rfl
            simp only [Act.put, List.setIfInBounds_toArray, List.set_cons_zero, List.set_cons_succ]
            refine tk 12 ?_ rfl (Or.inl ⟨by rfl, ?_⟩) ?_
            rotate_left
            · intro w hSw
              clear hSw
              go_simp
              all_goals with_reducible rfl
            simp only [Act.put, List.setIfInBounds_toArray, List.set_cons_zero, List.set_cons_succ]
            refine tk 13 ?_ rfl (Or.inl ⟨by rfl, ?_⟩) ?_
            rotate_left
            · intro w hSw
              clear hSw
              go_simp
              all_goals with_reducible rfl
            simp only [Act.put, List.setIfInBounds_toArray, List.set_cons_zero, List.set_cons_succ]
            refine tk 14 ?_ rfl (Or.inl ⟨by rfl, ?_⟩) ?_
            rotate_left
            · intro w hSw
              clear hSw
              go_simp
              all_goals with_reducible rfl
            simp only [Act.put, List.setIfInBounds_toArray, List.set_cons_zero, List.set_cons_succ]
            refine tk 15 ?_ rfl (Or.inl ⟨by rfl, ?_⟩) ?_
            rotate_left
            · intro w hSw
              clear hSw
              go_simp
              all_goals with_reducible rfl
            simp only [Act.put, List.setIfInBounds_toArray, List.set_cons_zero, List.set_cons_succ]
            refine tk 16 ?_ rfl (Or.inl ⟨by rfl, ?_⟩) ?_
            rotate_left
            · intro w hSw
              clear hSw
              go_simp
              all_goals with_reducible rfl
            simp only [Act.put, List.setIfInBounds_toArray, List.set_cons_zero, List.set_cons_succ]
            refine tk 17 ?_ rfl (Or.inl ⟨by rfl, ?_⟩) ?_
            rotate_left
            · intro w hSw
              clear hSw
              go_simp
              all_goals with_reducible rfl
            simp only [Act.put, List.setIfInBounds_toArray, List.set_cons_zero, List.set_cons_succ]
            refine tk 18 ?_ rfl (Or.inl ⟨by rfl, ?_⟩) ?_
            rotate_left
            · intro w hSw
              clear hSw
              go_simp
              all_goals with_reducible rfl
            simp only [Act.put, List.setIfInBounds_toArray, List.set_cons_zero, List.set_cons_succ]
            refine tk 19 ?_ rfl (Or.inl ⟨by rfl, ?_⟩) ?_
            rotate_left
            · intro w hSw
              have c2 := hSw.2 _ K0.out (by rw [KM.out]; exact PU.out)
              rw [KM.out] at c2
              clear hSw
              go_simp
              all_goals with_reducible rfl
            simp only [Act.put, List.setIfInBounds_toArray, List.set_cons_zero, List.set_cons_succ]
            refine tk 20 ?_ rfl (Or.inl ⟨by rfl, ?_⟩) ?_
            rotate_left
            · intro w hSw
              clear hSw
              go_simp
              all_goals with_reducible rfl
            simp only [Act.put, List.setIfInBounds_toArray, List.set_cons_zero, List.set_cons_succ]
            refine tk 21 ?_ rfl (Or.inl ⟨by rfl, ?_⟩) ?_
            rotate_left
            · intro w hSw
              have c0 := (sh_cells hSw.1).1
              clear hSw
              go_simp
              all_goals with_reducible rfl
            simp only [Act.put, List.setIfInBounds_toArray, List.set_cons_zero, List.set_cons_succ]
            refine tk 22 ?_ rfl (Or.inl ⟨by rfl, ?_⟩) ?_
            rotate_left
            · intro w hSw
              clear hSw
              go_simp
              all_goals with_reducible rfl
            simp only [Act.put, List.setIfInBounds_toArray, List.set_cons_zero, List.set_cons_succ]
            refine tk 23 ?_ rfl (Or.inl ⟨by rfl, ?_⟩) ?_
            rotate_left
            · intro w hSw
              clear hSw
              go_simp
              all_goals with_reducible rfl
            simp only [Act.put, List.setIfInBounds_toArray, List.set_cons_zero, List.set_cons_succ]
            refine tk 24 ?_ rfl (Or.inl ⟨by rfl, ?_⟩) ?_
            rotate_left
            · intro w hSw
              clear hSw
              go_simp
              all_goals with_reducible rfl
            simp only [Act.put, List.setIfInBounds_toArray, List.set_cons_zero, List.set_cons_succ]
            refine wpAnyH_done (by kernel_rfl) ?_ _
            refine NoPanic.normal ?_
            clear hHeld
            go_wp2_with fail
            go_roundw
            case rel => exact ⟨k + 1, KK.out, by go_num, S5d.out, B5d.out, GOOD.out⟩
            case measure => have := KK.out; simp [intOf]; omega
      · have hxI : ¬ ((xl : Int) = 1024) := by omega
        have hxB : ((xl : Int) != 1024) = true := bne_iff_ne.2 hxI
        clear hpage
        refine wp_region_noPanic ?_
        refine wp_region_held_drew (S := (fun W => W.heap[g5]? = some (.cells #[.int .i64 n, .slice ab xl cb] 37 (0, 0)) ∧ (∀ u, 0 < k → d'[k - 1]? = some u → W.cell? ⟨g, (k - 1) * 2, none⟩ = some (.int .i64 u.1)))) follows ⟨R5.out, P5.out⟩ (fun hHeld => ?_)
        have S5d := hide (S5.out.below (Below.refl w5.heap.size w5).drew)
        have B5d : Hid (Below w.heap.size w w5.drew) := B5.out.drew
        clear S5 B5 R5 P5
        generalize w5.drew = Z1 at S5d B5d hHeld ⊢
        refine tk 0 ?_ rfl (Or.inl ⟨by rfl, ?_⟩) ?_
        rotate_left
        · intro w hSw
          clear hSw
          go_simp
          all_goals with_reducible rfl
        simp only [Act.put, List.setIfInBounds_toArray, List.set_cons_zero, List.set_cons_succ]
        refine tk 1 ?_ rfl (Or.inl ⟨by rfl, ?_⟩) ?_
        rotate_left
        · intro w hSw
          have c0 := (sh_cells hSw.1).1
          clear hSw
          go_simp
          all_goals with_reducible rfl
        simp only [Act.put, List.setIfInBounds_toArray, List.set_cons_zero, List.set_cons_succ]
        refine wpAnyH_ready (rs := [2]) (by kernel_rfl) (by simp) ?_
        refine AllReadyH.cons (o := { dst := some 22, op := Op.call { callee := Callee.value (Operand.func 24), args := #[Operand.tmp 21], argTypes := #[3] }, type := 4, pos := "pages.go:113", after := #[⟨1, .data⟩], guard := none }) rfl (fun K hK => ?_) AllReadyH.nil
        go_simp
        refine (isPage_in n NN.out Z1).mono ?_
        rintro e Z2 ⟨rfl, rfl⟩
        refine hK.out _ _ hHeld (fun hHeld => ?_)
        clear hK K
        try simp only [Act.put, List.setIfInBounds_toArray, List.set_cons_zero, List.set_cons_succ]
        refine tk 3 ?_ rfl (Or.inl ⟨by rfl, ?_⟩) ?_
        rotate_left
        · intro w hSw
          clear hSw
          go_simp
          all_goals with_reducible rfl
        simp only [Act.put, List.setIfInBounds_toArray, List.set_cons_zero, List.set_cons_succ]
        refine tk 4 ?_ rfl (Or.inl ⟨by rfl, ?_⟩) ?_
        rotate_left
        · intro w hSw
          clear hSw
          go_simp
          all_goals with_reducible rfl
        simp only [Act.put, List.setIfInBounds_toArray, List.set_cons_zero, List.set_cons_succ]
        refine tk 5 ?_ rfl (Or.inl ⟨by rfl, ?_⟩) ?_
        rotate_left
        · intro w hSw
          clear hSw
          go_simp
          all_goals with_reducible rfl
        simp only [Act.put, List.setIfInBounds_toArray, List.set_cons_zero, List.set_cons_succ]
        refine tk 6 ?_ rfl (Or.inl ⟨by rfl, ?_⟩) ?_
        rotate_left
        · intro w hSw
          have c1 := (sh_cells hSw.1).2
          clear hSw
          go_simp
          all_goals with_reducible rfl
        simp only [Act.put, List.setIfInBounds_toArray, List.set_cons_zero, List.set_cons_succ]
        refine tk 7 ?_ rfl (Or.inl ⟨by rfl, ?_⟩) ?_
        rotate_left
        · intro w hSw
          clear hSw
          go_simp
          all_goals with_reducible rfl
        simp only [Act.put, List.setIfInBounds_toArray, List.set_cons_zero, List.set_cons_succ]
        refine tk 8 ?_ rfl (Or.inl ⟨by rfl, ?_⟩) ?_
        rotate_left
        · intro w hSw
          clear hSw
          go_simp
          all_goals with_reducible rfl
        simp only [Act.put, List.setIfInBounds_toArray, List.set_cons_zero, List.set_cons_succ]
        refine tk 9 ?_ rfl (Or.inl ⟨by rfl, ?_⟩) ?_
        rotate_left
        · intro w hSw
          clear hSw
          go_simp
          all_goals with_reducible rfl
        simp only [Act.put, List.setIfInBounds_toArray, List.set_cons_zero, List.set_cons_succ]
        refine tk 10 ?_ rfl (Or.inl ⟨by rfl, ?_⟩) ?_
        rotate_left
        · intro w hSw
          clear hSw
          go_simp
          all_goals with_reducible rfl
        simp only [Act.put, List.setIfInBounds_toArray, List.set_cons_zero, List.set_cons_succ]
        refine tk 11 undef rfl (Or.inr ⟨by rfl, rfl⟩) ?_
        simp only [Act.put, List.setIfInBounds_toArray, List.set_cons_zero, List.set_cons_succ]
        refine tk 12 undef rfl (Or.inr ⟨by rfl, rfl⟩) ?_
        simp only [Act.put, List.setIfInBounds_toArray, List.set_cons_zero, List.set_cons_succ]
        refine tk 13 undef rfl (Or.inr ⟨by rfl, rfl⟩) ?_
        simp only [Act.put, List.setIfInBounds_toArray, List.set_cons_zero, List.set_cons_succ]
        refine tk 14 undef rfl (Or.inr ⟨by rfl, rfl⟩) ?_
        simp only [Act.put, List.setIfInBounds_toArray, List.set_cons_zero, List.set_cons_succ]
        refine tk 15 undef rfl (Or.inr ⟨by rfl, rfl⟩) ?_
        simp only [Act.put, List.setIfInBounds_toArray, List.set_cons_zero, List.set_cons_succ]
        refine tk 16 undef rfl (Or.inr ⟨by rfl, rfl⟩) ?_
        simp only [Act.put, List.setIfInBounds_toArray, List.set_cons_zero, List.set_cons_succ]
        refine tk 17 undef rfl (Or.inr ⟨by rfl, rfl⟩) ?_
        simp only [Act.put, List.setIfInBounds_toArray, List.set_cons_zero, List.set_cons_succ]
        refine tk 18 undef rfl (Or.inr ⟨by rfl, rfl⟩) ?_
        simp only [Act.put, List.setIfInBounds_toArray, List.set_cons_zero, List.set_cons_succ]
        refine tk 19 undef rfl (Or.inr ⟨by rfl, rfl⟩) ?_
        simp only [Act.put, List.setIfInBounds_toArray, List.set_cons_zero, List.set_cons_succ]
        refine tk 20 undef rfl (Or.inr ⟨by rfl, rfl⟩) ?_
        simp only [Act.put, List.setIfInBounds_toArray, List.set_cons_zero, List.set_cons_succ]
        refine tk 21 undef rfl (Or.inr ⟨by rfl, rfl⟩) ?_
        simp only [Act.put, List.setIfInBounds_toArray, List.set_cons_zero, List.set_cons_succ]
        refine tk 22 undef rfl (Or.inr ⟨by rfl, rfl⟩) ?_
        simp only [Act.put, List.setIfInBounds_toArray, List.set_cons_zero, List.set_cons_succ]
        refine tk 23 undef rfl (Or.inr ⟨by rfl, rfl⟩) ?_
        simp only [Act.put, List.setIfInBounds_toArray, List.set_cons_zero, List.set_cons_succ]
        refine tk 24 ?_ rfl (Or.inl ⟨by rfl, ?_⟩) ?_
        rotate_left
        · intro w hSw
          clear hSw
          go_simp
          all_goals with_reducible rfl
        simp only [Act.put, List.setIfInBounds_toArray, List.set_cons_zero, List.set_cons_succ]
        refine wpAnyH_done (by kernel_rfl) ?_ _
        refine NoPanic.normal ?_
        clear hHeld
        go_wp2_with fail
        go_ret2
        exact ⟨rfl, B5d.out⟩
    · have NN := hide hpage
      refine wp_region_noPanic ?_
      refine wp_region_held_drew (S := (fun W => W.heap[g5]? = some (.cells #[.int .i64 n, .slice ab xl cb] 37 (0, 0)) ∧ (∀ u, 0 < k → d'[k - 1]? = some u → W.cell? ⟨g, (k - 1) * 2, none⟩ = some (.int .i64 u.1)))) follows ⟨R5.out, P5.out⟩ (fun hHeld => ?_)
      have S5d := hide (S5.out.below (Below.refl w5.heap.size w5).drew)
      have B5d : Hid (Below w.heap.size w w5.drew) := B5.out.drew
      clear S5 B5 R5 P5
      generalize w5.drew = Z1 at S5d B5d hHeld ⊢
      refine tk 0 ?_ rfl (Or.inl ⟨by rfl, ?_⟩) ?_
      rotate_left
      · intro w hSw
        clear hSw
        go_simp
        all_goals with_reducible rfl
      simp only [Act.put, List.setIfInBounds_toArray, List.set_cons_zero, List.set_cons_succ]
      refine tk 1 ?_ rfl (Or.inl ⟨by rfl, ?_⟩) ?_
      rotate_left
      · intro w hSw
        have c0 := (sh_cells hSw.1).1
        clear hSw
        go_simp
        all_goals with_reducible rfl
      simp only [Act.put, List.setIfInBounds_toArray, List.set_cons_zero, List.set_cons_succ]
      refine wpAnyH_ready (rs := [2]) (by kernel_rfl) (by simp) ?_
      refine AllReadyH.cons (o := { dst := some 22, op := Op.call { callee := Callee.value (Operand.func 24), args := #[Operand.tmp 21], argTypes := #[3] }, type := 4, pos := "pages.go:113", after := #[⟨1, .data⟩], guard := none }) rfl (fun K hK => ?_) AllReadyH.nil
      go_simp
      refine (isPage_no n NN.out Z1).mono ?_
      rintro e Z2 ⟨rfl, rfl⟩
      refine hK.out _ _ hHeld (fun hHeld => ?_)
      clear hK K
      try simp only [Act.put, List.setIfInBounds_toArray, List.set_cons_zero, List.set_cons_succ]
      refine tk 3 ?_ rfl (Or.inl ⟨by rfl, ?_⟩) ?_
      rotate_left
      · intro w hSw
        clear hSw
        go_simp
        all_goals with_reducible rfl
      simp only [Act.put, List.setIfInBounds_toArray, List.set_cons_zero, List.set_cons_succ]
      refine tk 4 ?_ rfl (Or.inl ⟨by rfl, ?_⟩) ?_
      rotate_left
      · intro w hSw
        clear hSw
        go_simp
        all_goals with_reducible rfl
      simp only [Act.put, List.setIfInBounds_toArray, List.set_cons_zero, List.set_cons_succ]
      refine tk 5 undef rfl (Or.inr ⟨by rfl, rfl⟩) ?_
      simp only [Act.put, List.setIfInBounds_toArray, List.set_cons_zero, List.set_cons_succ]
      refine tk 6 undef rfl (Or.inr ⟨by rfl, rfl⟩) ?_
      simp only [Act.put, List.setIfInBounds_toArray, List.set_cons_zero, List.set_cons_succ]
      refine tk 7 undef rfl (Or.inr ⟨by rfl, rfl⟩) ?_
      simp only [Act.put, List.setIfInBounds_toArray, List.set_cons_zero, List.set_cons_succ]
      refine tk 8 undef rfl (Or.inr ⟨by rfl, rfl⟩) ?_
      simp only [Act.put, List.setIfInBounds_toArray, List.set_cons_zero, List.set_cons_succ]
      refine tk 9 ?_ rfl (Or.inl ⟨by rfl, ?_⟩) ?_
      rotate_left
      · intro w hSw
        clear hSw
        go_simp
        all_goals with_reducible rfl
      simp only [Act.put, List.setIfInBounds_toArray, List.set_cons_zero, List.set_cons_succ]
      refine tk 10 ?_ rfl (Or.inl ⟨by rfl, ?_⟩) ?_
      rotate_left
      · intro w hSw
        clear hSw
        go_simp
        all_goals with_reducible rfl
      simp only [Act.put, List.setIfInBounds_toArray, List.set_cons_zero, List.set_cons_succ]
      refine tk 11 undef rfl (Or.inr ⟨by rfl, rfl⟩) ?_
      simp only [Act.put, List.setIfInBounds_toArray, List.set_cons_zero, List.set_cons_succ]
      refine tk 12 undef rfl (Or.inr ⟨by rfl, rfl⟩) ?_
      simp only [Act.put, List.setIfInBounds_toArray, List.set_cons_zero, List.set_cons_succ]
      refine tk 13 undef rfl (Or.inr ⟨by rfl, rfl⟩) ?_
      simp only [Act.put, List.setIfInBounds_toArray, List.set_cons_zero, List.set_cons_succ]
      refine tk 14 undef rfl (Or.inr ⟨by rfl, rfl⟩) ?_
      simp only [Act.put, List.setIfInBounds_toArray, List.set_cons_zero, List.set_cons_succ]
      refine tk 15 undef rfl (Or.inr ⟨by rfl, rfl⟩) ?_
      simp only [Act.put, List.setIfInBounds_toArray, List.set_cons_zero, List.set_cons_succ]
      refine tk 16 undef rfl (Or.inr ⟨by rfl, rfl⟩) ?_
      simp only [Act.put, List.setIfInBounds_toArray, List.set_cons_zero, List.set_cons_succ]
      refine tk 17 undef rfl (Or.inr ⟨by rfl, rfl⟩) ?_
      simp only [Act.put, List.setIfInBounds_toArray, List.set_cons_zero, List.set_cons_succ]
      refine tk 18 undef rfl (Or.inr ⟨by rfl, rfl⟩) ?_
      simp only [Act.put, List.setIfInBounds_toArray, List.set_cons_zero, List.set_cons_succ]
      refine tk 19 undef rfl (Or.inr ⟨by rfl, rfl⟩) ?_
      simp only [Act.put, List.setIfInBounds_toArray, List.set_cons_zero, List.set_cons_succ]
      refine tk 20 undef rfl (Or.inr ⟨by rfl, rfl⟩) ?_
      simp only [Act.put, List.setIfInBounds_toArray, List.set_cons_zero, List.set_cons_succ]
      refine tk 21 undef rfl (Or.inr ⟨by rfl, rfl⟩) ?_
      simp only [Act.put, List.setIfInBounds_toArray, List.set_cons_zero, List.set_cons_succ]
      refine tk 22 undef rfl (Or.inr ⟨by rfl, rfl⟩) ?_
      simp only [Act.put, List.setIfInBounds_toArray, List.set_cons_zero, List.set_cons_succ]
      refine tk 23 undef rfl (Or.inr ⟨by rfl, rfl⟩) ?_
      simp only [Act.put, List.setIfInBounds_toArray, List.set_cons_zero, List.set_cons_succ]
      refine tk 24 ?_ rfl (Or.inl ⟨by rfl, ?_⟩) ?_
      rotate_left
      · intro w hSw
        clear hSw
        go_simp
        all_goals with_reducible rfl
      simp only [Act.put, List.setIfInBounds_toArray, List.set_cons_zero, List.set_cons_succ]
      refine wpAnyH_done (by kernel_rfl) ?_ _
      refine NoPanic.normal ?_
      clear hHeld
      go_wp2_with fail
      go_ret2
      exact ⟨rfl, B5d.out⟩
  · exfalso
    obtain rfl : k = d.length := by have := KL.out; omega
    refine HBAD.out ⟨fun x hx => ?_, ?_⟩
    · obtain ⟨i, hi⟩ := List.getElem?_of_mem (PM.out.mem_iff.2 hx)
      have hil : i < d'.length := (List.getElem?_eq_some_iff.1 hi).1
      exact (GD.out i x (by have := LE.out; omega) hi).1
    · refine (PM.out.map _).nodup_iff.1 (nodup_of PW.out (fun i x y hx hy => ?_))
      have hil : i + 1 < d'.length := (List.getElem?_eq_some_iff.1 hy).1
      exact (GD.out (i + 1) y (by have := LE.out; omega) hy).2 x (by omega) hx
end Go.Proofs.YthjlhngjpbmieaaGreatDoor
namespace Go.Proofs.YthjlhngjpbmieaaGreatDoor
open Go.RowKit

set_option maxRecDepth 10000 in
theorem pput_no (gs b off cap : Nat) (d : List ShV) (w : World) (h0 : ∀ j u, (d.flatMap encSh)[j]? = some u → w.cell? ⟨b, off + j, none⟩ = some u) (hd : d ≠ []) (hl : d.length ≤ 256) (hbad : ¬ ((∀ x ∈ d, GoodSh x) ∧ (d.map (·.1)).Nodup)) :
   Calls Tryz.prog 12 #[.pointer (some ⟨gs, 0, none⟩), .slice (some ⟨b, off, none⟩) d.length cap] w fun e w' => e = .returned (.int .i64 1) ∧ Below w.heap.size w w' := by
  have IO := hide (inOrder_no b off cap d w h0 hd hl hbad)
  clear h0 hd hl hbad
  go_enter Tryz.func12, Tryz.ntmps12
  go_wp2_with fail
  refine IO.out.mono ?_
  rintro e w1 ⟨rfl, b1⟩
  have B1 := hide b1
  clear b1
  go_wp2_with fail
  go_ret
  exact ⟨rfl, B1.out⟩
set_option maxRecDepth 10000 in
theorem insertion_zero (v f : Value) (w : World) : Calls Tryz.prog 95 #[v, .int .i64 0, .int .i64 0, f] w fun e w' => e = .returned (.tuple #[]) ∧ w = w' := by
  go_enter Tryz.func95, Tryz.ntmps95
  go_wp2_with fail
  go_loopw [8] (fun i wr => i = .int .i64 1 ∧ w = wr) (fun _ _ => 1)
  case atStart => exact ⟨rfl, rfl⟩
  case round =>
  obtain ⟨rfl, rfl⟩ := hrel
  go_wp2_with fail
  go_end0
  exact ⟨rfl, rfl⟩
set_option maxHeartbeats 4000000 in
set_option maxRecDepth 10000 in
theorem pdq_zero (v f : Value) (l : Int) (w : World) : Calls Tryz.prog 71 #[v, .int .i64 0, .int .i64 0, .int .i64 l, f] w fun e w' => e = .returned (.tuple #[]) ∧ w = w' := by
  go_enter Tryz.func71, Tryz.ntmps71
  go_wp2_with fail
  go_loopw [1, 2, 3, 10, 11] (fun a b _ _ _ wr => a = .int .i64 0 ∧ b = .int .i64 0 ∧ w = wr) (fun _ _ _ _ _ _ => 1)
  case atStart => exact ⟨rfl, rfl, rfl⟩
  case round =>
  obtain ⟨rfl, rfl, rfl⟩ := hrel
  go_wp2_with fail
  refine (insertion_zero v f w).mono ?_
  rintro e w1 ⟨rfl, rfl⟩
  go_wp2_with fail
  refine bodyPost_ret (results_none rfl _ _ _) rfl ⟨rfl, rfl⟩
set_option maxHeartbeats 4000000 in
set_option maxRecDepth 10000 in
theorem len64_zero (w : World) : Calls Tryz.prog 104 #[.int .u64 0] w fun e w' => ∃ l, e = .returned (.int .i64 l) ∧ w = w' := by
  go_enter Tryz.func104, Tryz.ntmps104
  go_wp2_with fail
  go_ret
  exact ⟨_, rfl, rfl⟩
set_option maxRecDepth 10000 in
theorem len_zero (w : World) : Calls Tryz.prog 72 #[.int .u64 0] w fun e w' => ∃ l, e = .returned (.int .i64 l) ∧ w = w' := by
  go_enter Tryz.func72, Tryz.ntmps72
  go_wp2_with fail
  refine (len64_zero w).mono ?_
  rintro e w1 ⟨l, rfl, rfl⟩
  go_wp2_with fail
  go_ret
  exact ⟨_, rfl, rfl⟩
set_option maxRecDepth 10000 in
theorem sort_zero (ao : Option Addr) (c : Nat) (f : Value) (w : World) : Calls Tryz.prog 50 #[.slice ao 0 c, f] w fun e w' => e = .returned (.tuple #[]) ∧ w = w' := by
  go_enter Tryz.func50, Tryz.ntmps50
  go_wp2_with fail
  refine (len_zero w).mono ?_
  rintro e w1 ⟨l, rfl, rfl⟩
  go_wp2_with fail
  refine (pdq_zero _ _ _ w).mono ?_
  rintro e w1 ⟨rfl, rfl⟩
  go_wp2_with fail
  go_end0
  exact ⟨rfl, rfl⟩
theorem eql_none38 (W : World) : (binOp .eql 38 (.slice none 0 0) (.slice none 0 0)).run Tryz.prog W = .ok (.bool true) W := by
  have h : ∀ d : Nat, (Op.equalIn (d + 1) 38 (.slice none 0 0) (.slice none 0 0)).run Tryz.prog W = .ok true W := fun d => by
    simp [Op.equalIn, run_underlying Tryz.underlying38]
  simp only [binOp]
  simp [Op.equal, Op.maxDepth, h 9999]
set_option maxRecDepth 10000 in
theorem pclone_none (w : World) : Calls Tryz.prog 49 #[.slice none 0 0] w fun e w' => e = .returned (.slice none 0 0) ∧ w = w' := by
  have hnil := eql_none38
  go_enter Tryz.func49, Tryz.ntmps49
  go_wp2_with fail
  go_ret
  exact ⟨rfl, rfl⟩
set_option maxRecDepth 10000 in
theorem inOrder_none (w : World) : Calls Tryz.prog 30 #[.slice none 0 0] w fun e w' => e = .returned (.tuple #[.slice none 0 0, .bool true]) ∧ w = w' := by
  go_enter Tryz.func30, Tryz.ntmps30
  go_wp2_with fail
  refine (pclone_none w).mono ?_
  rintro e w1 ⟨rfl, rfl⟩
  go_wp2_with fail
  refine (sort_zero _ _ _ w).mono ?_
  rintro e w1 ⟨rfl, rfl⟩
  go_wp2_with fail
  go_loopw [15] (fun i wr => i = .int .i64 0 ∧ w = wr) (fun _ _ => 1)
  case atStart => exact ⟨rfl, rfl⟩
  case round =>
  obtain ⟨rfl, rfl⟩ := hrel
  go_wp2_with fail
  go_ret2
  exact ⟨rfl, rfl⟩
set_option maxRecDepth 10000 in
theorem pput_none (gs : Nat) (w : World) : Calls Tryz.prog 12 #[.pointer (some ⟨gs, 0, none⟩), .slice none 0 0] w fun e w' => e = .returned (.int .i64 0) ∧ w = w' := by
  go_enter Tryz.func12, Tryz.ntmps12
  go_wp2_with fail
  refine (inOrder_none w).mono ?_
  rintro e w1 ⟨rfl, rfl⟩
  go_wp2_with fail
  go_ret
  exact ⟨rfl, rfl⟩

end Go.Proofs.YthjlhngjpbmieaaGreatDoor
