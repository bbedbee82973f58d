/- The document's path of a leaf and its proof of a beginning. -/
import Derived.Test.YtlbggkmblkhjoaaDoorNc
import Derived.Test.YtlbggkmblkhjoaaDoorMg
import Derived.Test.YtlbggkmblkhjoaaDoorWl
import Derived.Test.YtlbggkmblkhjoaaDoorMh
import Derived.Deep.CutRange
namespace Go.Proofs.YtlbggkmblkhjoaaDoor
open Go.RowKit

set_option maxHeartbeats 4000000 in
set_option maxRecDepth 10000 in
theorem hpath_any (gh gT : Nat) (a : Int) : ∀ N (bss : List (List UInt8)) (v : Value) (i : Nat) (w : World), bss.length = N → 1 ≤ N → N ≤ 256 → i < N → BsAt w v bss → Fit bss → HsAt w gh gT a →
   Calls Tryd.prog 21 #[.pointer (some ⟨gh, 0, none⟩), v, .int .u64 (i : Int)] w fun e w' => Told w w' e (S.path a bss i) 0 := by
  intro N
  induction N using Nat.strongRecOn with
  | ind N IH =>
  intro bss v i w hN h1 h256 hi hv hf hH
  obtain ⟨b, off, cap, rfl, hcap, hb, hcells⟩ := hv.src (by omega)
  have HV := hide hv
  have HF := hide hf
  have HH := hide hH
  have HI := hide @IH
  have hN2 := hide hN
  rw [hN] at hcap ⊢
  clear hv hf hH IH hcells hN
  have q0 : IntKind.u64.wrap (N : Int) = (N : Int) := by rw [IntKind.wrap_u64]; omega
  have q0a : ¬ (N : Int) ≤ (i : Int) := by omega
  by_cases hone : N = 1
  · have q1 : ((N : Int) == 1) = true := by simp; omega
    go_enter Tryd.func21, Tryd.ntmps21
    go_wp2_with fail
    go_ret2
    exact ⟨⟨_, rfl, by rw [S.path_one a bss i (by have := hN2.out; omega)]; exact DgRow.nil _ _⟩, Below.refl _ _⟩
  · have q1 : ((N : Int) == 1) = false := by simp; omega
    go_enter Tryd.func21, Tryd.ntmps21
    go_wp2_with fail
    clear q1
    refine (halfr_any N (by omega) h256 w).mono ?_
    rintro e w3 ⟨rfl, rfl⟩
    obtain ⟨k, hk⟩ : ∃ k, k = S.half N := ⟨_, rfl⟩
    have hkl : k < N := by rw [hk]; exact S.half_lt h256 (by omega)
    have hkp : 0 < k := by rw [hk]; exact S.half_pos N
    rw [← hk]
    have HKK := hide hk
    clear hk
    have q1 : IntKind.u64.wrap (k : Int) = (k : Int) := by rw [IntKind.wrap_u64]; omega
    have q2 : (0 : Int) ≤ (k : Int) := by omega
    have q3 : (k : Int) ≤ (cap : Int) := by omega
    have q4 : (k : Int) ≤ (N : Int) := by omega
    have q5 : (N : Int) ≤ (cap : Int) := by omega
    have q6 : ¬ cap = k := by omega
    have VT := hide (HV.out.take k (by have := hN2.out; omega))
    have VD : Hid (BsAt w (.slice (some ⟨b, off + k, none⟩) (N - k) (cap - k)) (bss.drop k)) := by have := HV.out.drop k (by have := hN2.out; omega); rw [hN2.out] at this; exact this
    by_cases hik : i < k
    · have q7 : (i : Int) < (k : Int) := by omega
      go_wp2_with fail
      clear q7 q1
      refine (HI.out k hkl (bss.take k) _ i w (by rw [List.length_take]; have := hN2.out; omega) (by omega) (by omega) hik VT.out (HF.out.take k) HH.out).mono ?_
      rintro e w1 ⟨⟨vp, rfl, p2⟩, b2⟩
      obtain ⟨ds, hds⟩ : ∃ ds, ds = S.path a (bss.take k) i := ⟨_, rfl⟩
      rw [← hds] at p2
      have HDS := hide (show ds.length ≤ 100000 by rw [hds]; have := S.path_len a (bss.take k) i; rw [List.length_take] at this; have := hN2.out; omega)
      have B2 := hide b2
      have P2 := hide p2
      have HS := hide hds
      clear p2 b2 hds
      go_wp2_with fail
      clear q2 q3 q4 q5 q6
      refine (hroot_any gh gT a _ (bss.drop k) _ w1 rfl (by rw [List.length_drop]; have := hN2.out; omega) (VD.out.below B2.out (Nat.le_refl _)) (HF.out.drop k) (HH.out.below B2.out (Nat.le_refl _))).mono ?_
      rintro e w2 ⟨rfl, b3⟩
      obtain ⟨D, hD⟩ : ∃ D, D = S.root a (bss.drop k) := ⟨_, rfl⟩
      rw [← hD]
      have HDL := hide (show D.length = 32 by rw [hD, S.root_length])
      have HD := hide hD
      have B3 : Hid (Below w.heap.size w w2) := B2.out.trans (b3.mono B2.out.size)
      have P3 := hide (P2.out.below b3)
      obtain ⟨Y, hY⟩ : ∃ Y, Y = w2.alloc (.cells (S.v8 D) 23) := ⟨_, rfl⟩
      have C4 : Below w2.heap.size w2 Y := by rw [hY]; exact (Below.refl _ _).alloc (Nat.le_refl _) _
      have r4 : Y.heap[w2.heap.size]? = some (.cells (S.v8 D) 23 (0, 0)) := by rw [hY]; exact heap_alloc_new _ _
      have bs1 := bs24one w2 D HDL.out
      rw [← hY] at bs1
      have KEY := hide (run_append_dig Y w.heap.size w2.heap.size vp ds D 32 (P3.out.below C4) HDL.out r4 HDS.out (Nat.le_trans B3.out.size C4.size))
      have BY := hide (B3.out.trans (C4.mono B3.out.size))
      clear b3 hD hY C4 r4 B2 P2
      go_wp2_with (first | (with_reducible refine at_op { dst := some 43, op := Op.buildSlice 32 1 #[(0, Operand.tmp 42)], type := 32, pos := "ref.go:72", after := #[{ on := 5, ground := Ground.data }], guard := none } ?_; refine wpList_buildSlice_as rfl 32 1 [(0, .tmp 42)] rfl [(0, .agg (S.v8 D))] rfl _ _ bs1 ?_) | (at_builtin; (refine wpList_append_known rfl (.tmp 37) (.tmp 43) 32 32 rfl _ _ rfl rfl KEY.out ?_; rintro v5 w5 ⟨p5, b5⟩)))
      have P5 := hide p5
      have B5 := hide (BY.out.trans b5)
      clear p5 b5
      go_wp2_with fail
      go_ret2
      exact ⟨⟨v5, rfl, by rw [S.path_left a bss i (by have := hN2.out; omega) (by rw [hN2.out, ← HKK.out]; exact hik), hN2.out, ← HKK.out, ← HS.out, ← HD.out]; exact P5.out⟩, B5.out⟩
    · have q7 : ¬ (i : Int) < (k : Int) := by omega
      have q8 : (k : Int) ≤ (i : Int) := by omega
      have q9 : IntKind.u64.wrap ((i : Int) - (k : Int)) = ((i - k : Nat) : Int) := by rw [IntKind.wrap_u64]; omega
      go_wp2_with fail
      clear q7 q8 q9 q1
      refine (HI.out (N - k) (by omega) (bss.drop k) _ (i - k) w (by rw [List.length_drop, hN2.out]) (by omega) (by omega) (by omega) VD.out (HF.out.drop k) HH.out).mono ?_
      rintro e w1 ⟨⟨vp, rfl, p2⟩, b2⟩
      obtain ⟨ds, hds⟩ : ∃ ds, ds = S.path a (bss.drop k) (i - k) := ⟨_, rfl⟩
      rw [← hds] at p2
      have HDS := hide (show ds.length ≤ 100000 by rw [hds]; have := S.path_len a (bss.drop k) (i - k); rw [List.length_drop] at this; have := hN2.out; omega)
      have B2 := hide b2
      have P2 := hide p2
      have HS := hide hds
      clear p2 b2 hds
      go_wp2_with fail
      clear q2 q3 q4 q5 q6
      refine (hroot_any gh gT a _ (bss.take k) _ w1 rfl (by rw [List.length_take]; have := hN2.out; omega) (VT.out.below B2.out (Nat.le_refl _)) (HF.out.take k) (HH.out.below B2.out (Nat.le_refl _))).mono ?_
      rintro e w2 ⟨rfl, b3⟩
      obtain ⟨D, hD⟩ : ∃ D, D = S.root a (bss.take k) := ⟨_, rfl⟩
      rw [← hD]
      have HDL := hide (show D.length = 32 by rw [hD, S.root_length])
      have HD := hide hD
      have B3 : Hid (Below w.heap.size w w2) := B2.out.trans (b3.mono B2.out.size)
      have P3 := hide (P2.out.below b3)
      obtain ⟨Y, hY⟩ : ∃ Y, Y = w2.alloc (.cells (S.v8 D) 23) := ⟨_, rfl⟩
      have C4 : Below w2.heap.size w2 Y := by rw [hY]; exact (Below.refl _ _).alloc (Nat.le_refl _) _
      have r4 : Y.heap[w2.heap.size]? = some (.cells (S.v8 D) 23 (0, 0)) := by rw [hY]; exact heap_alloc_new _ _
      have bs1 := bs24one w2 D HDL.out
      rw [← hY] at bs1
      have KEY := hide (run_append_dig Y w.heap.size w2.heap.size vp ds D 32 (P3.out.below C4) HDL.out r4 HDS.out (Nat.le_trans B3.out.size C4.size))
      have BY := hide (B3.out.trans (C4.mono B3.out.size))
      clear b3 hD hY C4 r4 B2 P2
      go_wp2_with (first | (with_reducible refine at_op { dst := some 63, op := Op.buildSlice 32 1 #[(0, Operand.tmp 62)], type := 32, pos := "ref.go:75", after := #[{ on := 5, ground := Ground.data }], guard := none } ?_; refine wpList_buildSlice_as rfl 32 1 [(0, .tmp 62)] rfl [(0, .agg (S.v8 D))] rfl _ _ bs1 ?_) | (at_builtin; (refine wpList_append_known rfl (.tmp 57) (.tmp 63) 32 32 rfl _ _ rfl rfl KEY.out ?_; rintro v5 w5 ⟨p5, b5⟩)))
      have P5 := hide p5
      have B5 := hide (BY.out.trans b5)
      clear p5 b5
      go_wp2_with fail
      go_ret2
      exact ⟨⟨v5, rfl, by rw [S.path_right a bss i (by have := hN2.out; omega) (by rw [hN2.out, ← HKK.out]; exact hik), hN2.out, ← HKK.out, ← HS.out, ← HD.out]; exact P5.out⟩, B5.out⟩

set_option maxHeartbeats 4000000 in
set_option maxRecDepth 10000 in
theorem hpart_any (gh gT : Nat) (a : Int) : ∀ N (bss : List (List UInt8)) (v : Value) (i : Nat) (q : Bool) (w : World), bss.length = N → 1 ≤ N → N ≤ 256 → 1 ≤ i → i ≤ N → BsAt w v bss → Fit bss → HsAt w gh gT a →
   Calls Tryd.prog 46 #[.pointer (some ⟨gh, 0, none⟩), .int .i64 (i : Int), v, .bool q] w fun e w' => ∃ v', e = .returned v' ∧ DgRow w.heap.size w' v' (S.grow a bss i q) ∧ Below w.heap.size w w' := by
  intro N
  induction N using Nat.strongRecOn with
  | ind N IH =>
  intro bss v i q w hN h1 h256 hi1 hi hv hf hH
  obtain ⟨b, off, cap, rfl, hcap, hb, hcells⟩ := hv.src (by omega)
  have HV := hide hv
  have HF := hide hf
  have HH := hide hH
  have HI := hide @IH
  have hN2 := hide hN
  rw [hN] at hcap ⊢
  clear hv hf hH IH hcells hN
  by_cases hone : i = N
  · have q1 : ((i : Int) == (N : Int)) = true := by simp; omega
    cases q with
    | true =>
      go_enter Tryd.func46, Tryd.ntmps46
      go_wp2_with fail
      go_ret
      exact ⟨_, rfl, by rw [S.grow_all a bss i (by have := hN2.out; omega)]; exact DgRow.nil _ _, Below.refl _ _⟩
    | false =>
      go_enter Tryd.func46, Tryd.ntmps46
      go_wp2_with fail
      clear q1
      have VN : Hid (BsAt w (.slice (some ⟨b, off, none⟩) N cap) bss) := by have := HV.out; rw [hN2.out] at this; exact this
      refine (hroot_any gh gT a _ bss _ w rfl (by rw [hN2.out]; exact h256) VN.out HF.out HH.out).mono ?_
      rintro e Z3 ⟨rfl, b3⟩
      obtain ⟨D, hD⟩ : ∃ D, D = S.root a bss := ⟨_, rfl⟩
      rw [← hD]
      have HDL : Hid (D.length = 32) := by rw [hD, S.root_length]; exact rfl
      have HD := hide hD
      have B3 := hide b3
      have bs1 := bs24one Z3 D HDL.out
      clear b3 hD
      go_wp2_with (with_reducible refine at_op { dst := some 18, op := Op.buildSlice 32 1 #[(0, Operand.tmp 17)], type := 32, pos := "ref.go:91", after := #[{ on := 2, ground := Ground.data }], guard := none } ?_; refine wpList_buildSlice_as rfl 32 1 [(0, .tmp 17)] rfl [(0, .agg (S.v8 D))] rfl _ _ bs1 ?_)
      go_ret
      exact ⟨_, rfl, by rw [S.grow_part a bss i (by have := hN2.out; omega), ← HD.out]; exact dgRow_one (heap_alloc_new _ _) HDL.out B3.out.size, B3.out.alloc (by exact B3.out.size) _⟩
  · have q1 : ((i : Int) == (N : Int)) = false := by simp; omega
    go_enter Tryd.func46, Tryd.ntmps46
    go_wp2_with fail
    clear q1
    refine (halfr_any N (by omega) h256 w).mono ?_
    rintro e w3 ⟨rfl, rfl⟩
    obtain ⟨k, hk⟩ : ∃ k, k = S.half N := ⟨_, rfl⟩
    have hkl : k < N := by rw [hk]; exact S.half_lt h256 (by omega)
    have hkp : 0 < k := by rw [hk]; exact S.half_pos N
    rw [← hk]
    have HKK := hide hk
    clear hk
    by_cases hik : i ≤ k
    · have q1 : (i : Int) ≤ (k : Int) := by omega
      go_wp2_with fail
      clear q1
      refine wp_region_noPanic ?_
      refine wp_region_held_drew (S := (fun _ => True)) follows trivial (fun hHeld => ?_)
      have BZ : Hid (Below w.heap.size w w.drew) := (Below.refl _ _).drew
      generalize w.drew = Z at BZ ⊢
      have q2 : (0 : Int) ≤ (k : Int) := by omega
      have q3 : (k : Int) ≤ (cap : Int) := by omega
      have q4 : (k : Int) ≤ (N : Int) := by omega
      have q5 : (N : Int) ≤ (cap : Int) := by omega
      have q6 : ¬ cap = k := by omega
      refine wpAnyH_take (i := 0) (oi := { dst := some 25, op := Op.move (Operand.tmp 0), type := 33, pos := "ref.go:95", after := #[], guard := none }) (v := ?_) rfl (by kernel_rfl) (by kernel_rfl) (by kernel_rfl) (fun _ _ _ h => h) (Or.inl ⟨by rfl, ?_⟩) (by assumption) ?_
      rotate_left
      · intro w hSw
        clear hSw
        go_simp
        all_goals with_reducible rfl
      simp only [Act.put, List.setIfInBounds_toArray, List.set_cons_zero, List.set_cons_succ]
      refine wpAnyH_take (i := 1) (oi := { dst := some 26, op := Op.move (Operand.tmp 1), type := 3, pos := "ref.go:95", after := #[], guard := none }) (v := ?_) rfl (by kernel_rfl) (by kernel_rfl) (by kernel_rfl) (fun _ _ _ h => h) (Or.inl ⟨by rfl, ?_⟩) (by assumption) ?_
      rotate_left
      · intro w hSw
        clear hSw
        go_simp
        all_goals with_reducible rfl
      simp only [Act.put, List.setIfInBounds_toArray, List.set_cons_zero, List.set_cons_succ]
      refine wpAnyH_take (i := 2) (oi := { dst := some 27, op := Op.move (Operand.tmp 2), type := 41, pos := "ref.go:95", after := #[], guard := none }) (v := ?_) rfl (by kernel_rfl) (by kernel_rfl) (by kernel_rfl) (fun _ _ _ h => h) (Or.inl ⟨by rfl, ?_⟩) (by assumption) ?_
      rotate_left
      · intro w hSw
        clear hSw
        go_simp
        all_goals with_reducible rfl
      simp only [Act.put, List.setIfInBounds_toArray, List.set_cons_zero, List.set_cons_succ]
      refine wpAnyH_take (i := 3) (oi := { dst := some 28, op := Op.move (Operand.tmp 9), type := 3, pos := "ref.go:95", after := #[], guard := none }) (v := ?_) rfl (by kernel_rfl) (by kernel_rfl) (by kernel_rfl) (fun _ _ _ h => h) (Or.inl ⟨by rfl, ?_⟩) (by assumption) ?_
      rotate_left
      · intro w hSw
        clear hSw
        go_simp
        all_goals with_reducible rfl
      simp only [Act.put, List.setIfInBounds_toArray, List.set_cons_zero, List.set_cons_succ]
      refine wpAnyH_take (i := 4) (oi := { dst := some 29, op := Op.slice 41 (Operand.tmp 27) none (some (Operand.tmp 28)) none, type := 41, pos := "ref.go:95", after := #[{ on := 2, ground := Ground.data }, { on := 3, ground := Ground.data }], guard := none }) (v := ?_) rfl (by kernel_rfl) (by kernel_rfl) (by kernel_rfl) (fun _ _ _ h => h) (Or.inl ⟨by rfl, ?_⟩) (by assumption) ?_
      rotate_left
      · intro w hSw
        clear hSw
        go_simp
        all_goals with_reducible rfl
      simp only [Act.put, List.setIfInBounds_toArray, List.set_cons_zero, List.set_cons_succ]
      refine wpAnyH_take (i := 5) (oi := { dst := some 30, op := Op.move (Operand.tmp 3), type := 4, pos := "ref.go:95", after := #[], guard := none }) (v := ?_) rfl (by kernel_rfl) (by kernel_rfl) (by kernel_rfl) (fun _ _ _ h => h) (Or.inl ⟨by rfl, ?_⟩) (by assumption) ?_
      rotate_left
      · intro w hSw
        clear hSw
        go_simp
        all_goals with_reducible rfl
      simp only [Act.put, List.setIfInBounds_toArray, List.set_cons_zero, List.set_cons_succ]
      refine wpAnyH_take (i := 7) (oi := { dst := some 32, op := Op.move (Operand.tmp 0), type := 33, pos := "ref.go:95", after := #[], guard := none }) (v := ?_) rfl (by kernel_rfl) (by kernel_rfl) (by kernel_rfl) (fun _ _ _ h => h) (Or.inl ⟨by rfl, ?_⟩) (by assumption) ?_
      rotate_left
      · intro w hSw
        clear hSw
        go_simp
        all_goals with_reducible rfl
      simp only [Act.put, List.setIfInBounds_toArray, List.set_cons_zero, List.set_cons_succ]
      refine wpAnyH_take (i := 8) (oi := { dst := some 33, op := Op.move (Operand.tmp 2), type := 41, pos := "ref.go:95", after := #[], guard := none }) (v := ?_) rfl (by kernel_rfl) (by kernel_rfl) (by kernel_rfl) (fun _ _ _ h => h) (Or.inl ⟨by rfl, ?_⟩) (by assumption) ?_
      rotate_left
      · intro w hSw
        clear hSw
        go_simp
        all_goals with_reducible rfl
      simp only [Act.put, List.setIfInBounds_toArray, List.set_cons_zero, List.set_cons_succ]
      refine wpAnyH_take (i := 9) (oi := { dst := some 34, op := Op.move (Operand.tmp 9), type := 3, pos := "ref.go:95", after := #[], guard := none }) (v := ?_) rfl (by kernel_rfl) (by kernel_rfl) (by kernel_rfl) (fun _ _ _ h => h) (Or.inl ⟨by rfl, ?_⟩) (by assumption) ?_
      rotate_left
      · intro w hSw
        clear hSw
        go_simp
        all_goals with_reducible rfl
      simp only [Act.put, List.setIfInBounds_toArray, List.set_cons_zero, List.set_cons_succ]
      refine wpAnyH_take (i := 10) (oi := { dst := some 35, op := Op.slice 41 (Operand.tmp 33) (some (Operand.tmp 34)) none none, type := 41, pos := "ref.go:95", after := #[{ on := 8, ground := Ground.data }, { on := 9, ground := Ground.data }], guard := none }) (v := ?_) rfl (by kernel_rfl) (by kernel_rfl) (by kernel_rfl) (fun _ _ _ h => h) (Or.inl ⟨by rfl, ?_⟩) (by assumption) ?_
      rotate_left
      · intro w hSw
        clear hSw
        go_simp
        all_goals with_reducible rfl
      simp only [Act.put, List.setIfInBounds_toArray, List.set_cons_zero, List.set_cons_succ]
      clear q2 q3 q4 q5 q6
      refine wpAnyH_ready (rs := [6]) (by kernel_rfl) (by simp) ?_
      refine AllReadyH.cons (o := { dst := some 31, op := Op.call { callee := Callee.value (Operand.func 46), args := #[Operand.tmp 25, Operand.tmp 26, Operand.tmp 29, Operand.tmp 30], argTypes := #[33, 3, 41, 4] }, type := 32, pos := "ref.go:95", after := #[{ on := 0, ground := Ground.data }, { on := 1, ground := Ground.data }, { on := 4, ground := Ground.data }, { on := 5, ground := Ground.data }], guard := none }) rfl (fun K hK => ?_) AllReadyH.nil
      go_simp
      have VT := hide ((HV.out.take k (by have := hN2.out; omega)).below BZ.out (Nat.le_refl _))
      refine (HI.out k hkl (bss.take k) _ i q Z (by rw [List.length_take]; have := hN2.out; omega) (by omega) (by omega) hi1 hik VT.out (HF.out.take k) (HH.out.below BZ.out (Nat.le_refl _))).mono ?_
      rintro e Z2 ⟨vp, rfl, p2, b2⟩
      obtain ⟨ds, hds⟩ : ∃ ds, ds = S.grow a (bss.take k) i q := ⟨_, rfl⟩
      rw [← hds] at p2
      have HDS := hide (show ds.length ≤ 100000 by rw [hds]; have := (S.grow_ok a (bss.take k) i q).2; rw [List.length_take] at this; have := hN2.out; omega)
      have B2 : Hid (Below w.heap.size w Z2) := BZ.out.trans (b2.mono BZ.out.size)
      have P2 := hide (p2.mono BZ.out.size)
      have HS := hide hds
      clear p2 b2 hds BZ
      clear VT
      refine hK.out _ _ trivial (fun hHeld => ?_)
      clear hK K
      try simp only [Act.put, List.setIfInBounds_toArray, List.set_cons_zero, List.set_cons_succ]
      refine wpAnyH_ready (rs := [11]) (by kernel_rfl) (by simp) ?_
      refine AllReadyH.cons (o := { dst := some 36, op := Op.call { callee := Callee.value (Operand.func 23), args := #[Operand.tmp 32, Operand.tmp 35], argTypes := #[33, 41] }, type := 23, pos := "ref.go:95", after := #[{ on := 7, ground := Ground.data }, { on := 10, ground := Ground.data }, { on := 6, ground := Ground.chain }], guard := none }) rfl (fun K hK => ?_) AllReadyH.nil
      go_simp
      have VD : Hid (BsAt Z2 (.slice (some ⟨b, off + k, none⟩) (N - k) (cap - k)) (bss.drop k)) := by have := (HV.out.drop k (by have := hN2.out; omega)).below B2.out (Nat.le_refl _); rw [hN2.out] at this; exact this
      refine (hroot_any gh gT a _ (bss.drop k) _ Z2 rfl (by rw [List.length_drop]; have := hN2.out; omega) VD.out (HF.out.drop k) (HH.out.below B2.out (Nat.le_refl _))).mono ?_
      rintro e Z3 ⟨rfl, b3⟩
      obtain ⟨D, hD⟩ : ∃ D, D = S.root a (bss.drop k) := ⟨_, rfl⟩
      rw [← hD]
      have HDL : Hid (D.length = 32) := by rw [hD, S.root_length]; exact rfl
      have HD := hide hD
      have B3 : Hid (Below w.heap.size w Z3) := B2.out.trans (b3.mono B2.out.size)
      have P3 := hide (P2.out.below b3)
      clear b3 hD VD B2 P2
      refine hK.out _ _ trivial (fun hHeld => ?_)
      clear hK K
      try simp only [Act.put, List.setIfInBounds_toArray, List.set_cons_zero, List.set_cons_succ]
      refine wpAnyH_ready (rs := [12]) (by kernel_rfl) (by simp) ?_
      have bs1 := bs24one Z3 D HDL.out
      refine step_buildSlice_as (o := { dst := some 37, op := Op.buildSlice 32 1 #[(0, Operand.tmp 36)], type := 32, pos := "ref.go:95", after := #[{ on := 11, ground := Ground.data }], guard := none }) rfl rfl 32 1 [(0, .tmp 36)] rfl [(0, .agg (S.v8 D))] rfl _ _ bs1 AllReadyH.nil ⟨trivial, fun hHeld => ?_⟩
      clear hHeld bs1
      simp only [Act.put, List.setIfInBounds_toArray, List.set_cons_zero, List.set_cons_succ]
      obtain ⟨g4, hg4⟩ : ∃ g4, g4 = Z3.heap.size := ⟨_, rfl⟩
      generalize hZ4 : Z3.alloc _ = Z4
      have C4 : Below Z3.heap.size Z3 Z4 := by rw [← hZ4]; exact (Below.refl _ _).alloc (Nat.le_refl _) _
      have R4 : Hid (Z4.heap[g4]? = some (.cells (S.v8 D) 23 (0, 0))) := by rw [← hZ4, hg4]; exact heap_alloc_new _ _
      have B4 : Hid (Below w.heap.size w Z4) := B3.out.trans (C4.mono B3.out.size)
      have P4 := hide (P3.out.below C4)
      rw [← hg4]
      clear hZ4 C4 hg4 B3 P3
      refine wpAnyH_ready (rs := [13]) (by kernel_rfl) (by simp) ?_
      obtain ⟨v5, Z5, hr5, p5, b5⟩ := run_append_dig Z4 w.heap.size g4 vp ds D 32 P4.out HDL.out R4.out HDS.out B4.out.size
      refine step_append_as (o := { dst := some 38, op := Op.call { callee := Callee.builtin Builtin.append, args := #[Operand.tmp 31, Operand.tmp 37], argTypes := #[32, 32] }, type := 32, pos := "ref.go:95", after := #[{ on := 6, ground := Ground.data }, { on := 12, ground := Ground.data }, { on := 11, ground := Ground.chain }], guard := none }) rfl rfl (.tmp 31) (.tmp 37) 32 32 rfl _ _ rfl rfl v5 Z5 hr5 AllReadyH.nil ⟨trivial, fun hHeld => ?_⟩
      clear hHeld hr5
      simp only [Act.put, List.setIfInBounds_toArray, List.set_cons_zero, List.set_cons_succ]
      have B5 : Hid (Below w.heap.size w Z5) := B4.out.trans b5
      have P5 := hide p5
      clear p5 b5 B4 P4 R4
      refine wpAnyH_take (i := 14) (oi := { dst := some 8, op := Op.assign (Operand.tmp 38), type := 32, pos := "ref.go:95", after := #[{ on := 13, ground := Ground.data }, { on := 13, ground := Ground.chain }, { on := 0, ground := Ground.phase }, { on := 1, ground := Ground.phase }, { on := 2, ground := Ground.phase }, { on := 3, ground := Ground.phase }, { on := 4, ground := Ground.phase }, { on := 5, ground := Ground.phase }, { on := 6, ground := Ground.phase }, { on := 7, ground := Ground.phase }, { on := 8, ground := Ground.phase }, { on := 9, ground := Ground.phase }, { on := 10, ground := Ground.phase }, { on := 11, ground := Ground.phase }, { on := 12, ground := Ground.phase }, { on := 13, ground := Ground.phase }], guard := none }) (v := ?_) rfl (by kernel_rfl) (by kernel_rfl) (by kernel_rfl) (fun _ _ _ h => h) (Or.inl ⟨by rfl, ?_⟩) (by assumption) ?_
      rotate_left
      · intro w hSw
        clear hSw
        go_simp
        all_goals with_reducible rfl
      simp only [Act.put, List.setIfInBounds_toArray, List.set_cons_zero, List.set_cons_succ]
      refine wpAnyH_done (by kernel_rfl) ?_ _
      refine NoPanic.normal ?_
      go_wp2_with fail
      go_ret
      exact ⟨v5, rfl, by rw [S.grow_left a bss i q (by have := hN2.out; omega) (by rw [hN2.out]; exact hone) (by rw [hN2.out, ← HKK.out]; exact hik), hN2.out, ← HKK.out, ← HS.out, ← HD.out]; exact P5.out, B5.out⟩
    · have q1 : ¬ (i : Int) ≤ (k : Int) := by omega
      have q1' : (k : Int) < (i : Int) := by omega
      go_wp2_with fail
      clear q1 q1'
      refine wp_region_noPanic ?_
      refine wp_region_held_drew (S := (fun _ => True)) follows trivial (fun hHeld => ?_)
      have BZ : Hid (Below w.heap.size w w.drew) := (Below.refl _ _).drew
      generalize w.drew = Z at BZ ⊢
      have q2 : (0 : Int) ≤ (k : Int) := by omega
      have q3 : (k : Int) ≤ (cap : Int) := by omega
      have q4 : (k : Int) ≤ (N : Int) := by omega
      have q5 : (N : Int) ≤ (cap : Int) := by omega
      have q6 : ¬ cap = k := by omega
      have q7 : IntKind.i64.wrap ((i : Int) - (k : Int)) = ((i - k : Nat) : Int) := by rw [IntKind.wrap_i64]; omega
      refine wpAnyH_take (i := 0) (oi := { dst := some 39, op := Op.move (Operand.tmp 0), type := 33, pos := "ref.go:97", after := #[], guard := none }) (v := ?_) rfl (by kernel_rfl) (by kernel_rfl) (by kernel_rfl) (fun _ _ _ h => h) (Or.inl ⟨by rfl, ?_⟩) (by assumption) ?_
      rotate_left
      · intro w hSw
        clear hSw
        go_simp
        all_goals with_reducible rfl
      simp only [Act.put, List.setIfInBounds_toArray, List.set_cons_zero, List.set_cons_succ]
      refine wpAnyH_take (i := 1) (oi := { dst := some 40, op := Op.move (Operand.tmp 1), type := 3, pos := "ref.go:97", after := #[], guard := none }) (v := ?_) rfl (by kernel_rfl) (by kernel_rfl) (by kernel_rfl) (fun _ _ _ h => h) (Or.inl ⟨by rfl, ?_⟩) (by assumption) ?_
      rotate_left
      · intro w hSw
        clear hSw
        go_simp
        all_goals with_reducible rfl
      simp only [Act.put, List.setIfInBounds_toArray, List.set_cons_zero, List.set_cons_succ]
      refine wpAnyH_take (i := 2) (oi := { dst := some 41, op := Op.move (Operand.tmp 9), type := 3, pos := "ref.go:97", after := #[], guard := none }) (v := ?_) rfl (by kernel_rfl) (by kernel_rfl) (by kernel_rfl) (fun _ _ _ h => h) (Or.inl ⟨by rfl, ?_⟩) (by assumption) ?_
      rotate_left
      · intro w hSw
        clear hSw
        go_simp
        all_goals with_reducible rfl
      simp only [Act.put, List.setIfInBounds_toArray, List.set_cons_zero, List.set_cons_succ]
      refine wpAnyH_take (i := 3) (oi := { dst := some 42, op := Op.binOp BinOp.sub 3 (Operand.tmp 40) (Operand.tmp 41) 3, type := 3, pos := "ref.go:97", after := #[{ on := 1, ground := Ground.data }, { on := 2, ground := Ground.data }], guard := none }) (v := ?_) rfl (by kernel_rfl) (by kernel_rfl) (by kernel_rfl) (fun _ _ _ h => h) (Or.inl ⟨by rfl, ?_⟩) (by assumption) ?_
      rotate_left
      · intro w hSw
        clear hSw
        go_simp
        all_goals with_reducible rfl
      simp only [Act.put, List.setIfInBounds_toArray, List.set_cons_zero, List.set_cons_succ]
      refine wpAnyH_take (i := 4) (oi := { dst := some 43, op := Op.move (Operand.tmp 2), type := 41, pos := "ref.go:97", after := #[], guard := none }) (v := ?_) rfl (by kernel_rfl) (by kernel_rfl) (by kernel_rfl) (fun _ _ _ h => h) (Or.inl ⟨by rfl, ?_⟩) (by assumption) ?_
      rotate_left
      · intro w hSw
        clear hSw
        go_simp
        all_goals with_reducible rfl
      simp only [Act.put, List.setIfInBounds_toArray, List.set_cons_zero, List.set_cons_succ]
      refine wpAnyH_take (i := 5) (oi := { dst := some 44, op := Op.move (Operand.tmp 9), type := 3, pos := "ref.go:97", after := #[], guard := none }) (v := ?_) rfl (by kernel_rfl) (by kernel_rfl) (by kernel_rfl) (fun _ _ _ h => h) (Or.inl ⟨by rfl, ?_⟩) (by assumption) ?_
      rotate_left
      · intro w hSw
        clear hSw
        go_simp
        all_goals with_reducible rfl
      simp only [Act.put, List.setIfInBounds_toArray, List.set_cons_zero, List.set_cons_succ]
      refine wpAnyH_take (i := 6) (oi := { dst := some 45, op := Op.slice 41 (Operand.tmp 43) (some (Operand.tmp 44)) none none, type := 41, pos := "ref.go:97", after := #[{ on := 4, ground := Ground.data }, { on := 5, ground := Ground.data }], guard := none }) (v := ?_) rfl (by kernel_rfl) (by kernel_rfl) (by kernel_rfl) (fun _ _ _ h => h) (Or.inl ⟨by rfl, ?_⟩) (by assumption) ?_
      rotate_left
      · intro w hSw
        clear hSw
        go_simp
        all_goals with_reducible rfl
      simp only [Act.put, List.setIfInBounds_toArray, List.set_cons_zero, List.set_cons_succ]
      refine wpAnyH_take (i := 8) (oi := { dst := some 47, op := Op.move (Operand.tmp 0), type := 33, pos := "ref.go:97", after := #[], guard := none }) (v := ?_) rfl (by kernel_rfl) (by kernel_rfl) (by kernel_rfl) (fun _ _ _ h => h) (Or.inl ⟨by rfl, ?_⟩) (by assumption) ?_
      rotate_left
      · intro w hSw
        clear hSw
        go_simp
        all_goals with_reducible rfl
      simp only [Act.put, List.setIfInBounds_toArray, List.set_cons_zero, List.set_cons_succ]
      refine wpAnyH_take (i := 9) (oi := { dst := some 48, op := Op.move (Operand.tmp 2), type := 41, pos := "ref.go:97", after := #[], guard := none }) (v := ?_) rfl (by kernel_rfl) (by kernel_rfl) (by kernel_rfl) (fun _ _ _ h => h) (Or.inl ⟨by rfl, ?_⟩) (by assumption) ?_
      rotate_left
      · intro w hSw
        clear hSw
        go_simp
        all_goals with_reducible rfl
      simp only [Act.put, List.setIfInBounds_toArray, List.set_cons_zero, List.set_cons_succ]
      refine wpAnyH_take (i := 10) (oi := { dst := some 49, op := Op.move (Operand.tmp 9), type := 3, pos := "ref.go:97", after := #[], guard := none }) (v := ?_) rfl (by kernel_rfl) (by kernel_rfl) (by kernel_rfl) (fun _ _ _ h => h) (Or.inl ⟨by rfl, ?_⟩) (by assumption) ?_
      rotate_left
      · intro w hSw
        clear hSw
        go_simp
        all_goals with_reducible rfl
      simp only [Act.put, List.setIfInBounds_toArray, List.set_cons_zero, List.set_cons_succ]
      refine wpAnyH_take (i := 11) (oi := { dst := some 50, op := Op.slice 41 (Operand.tmp 48) none (some (Operand.tmp 49)) none, type := 41, pos := "ref.go:97", after := #[{ on := 9, ground := Ground.data }, { on := 10, ground := Ground.data }], guard := none }) (v := ?_) rfl (by kernel_rfl) (by kernel_rfl) (by kernel_rfl) (fun _ _ _ h => h) (Or.inl ⟨by rfl, ?_⟩) (by assumption) ?_
      rotate_left
      · intro w hSw
        clear hSw
        go_simp
        all_goals with_reducible rfl
      simp only [Act.put, List.setIfInBounds_toArray, List.set_cons_zero, List.set_cons_succ]
      clear q2 q3 q4 q5 q6 q7
      refine wpAnyH_ready (rs := [7]) (by kernel_rfl) (by simp) ?_
      refine AllReadyH.cons (o := { dst := some 46, op := Op.call { callee := Callee.value (Operand.func 46), args := #[Operand.tmp 39, Operand.tmp 42, Operand.tmp 45, Operand.const (Value.bool false)], argTypes := #[33, 3, 41, 4] }, type := 32, pos := "ref.go:97", after := #[{ on := 0, ground := Ground.data }, { on := 3, ground := Ground.data }, { on := 6, ground := Ground.data }], guard := none }) rfl (fun K hK => ?_) AllReadyH.nil
      go_simp
      have VT : Hid (BsAt Z (.slice (some ⟨b, off + k, none⟩) (N - k) (cap - k)) (bss.drop k)) := by have := (HV.out.drop k (by have := hN2.out; omega)).below BZ.out (Nat.le_refl _); rw [hN2.out] at this; exact this
      refine (HI.out (N - k) (by omega) (bss.drop k) _ (i - k) false Z (by rw [List.length_drop, hN2.out]) (by omega) (by omega) (by omega) (by omega) VT.out (HF.out.drop k) (HH.out.below BZ.out (Nat.le_refl _))).mono ?_
      rintro e Z2 ⟨vp, rfl, p2, b2⟩
      obtain ⟨ds, hds⟩ : ∃ ds, ds = S.grow a (bss.drop k) (i - k) false := ⟨_, rfl⟩
      rw [← hds] at p2
      have HDS := hide (show ds.length ≤ 100000 by rw [hds]; have := (S.grow_ok a (bss.drop k) (i - k) false).2; rw [List.length_drop] at this; have := hN2.out; omega)
      have B2 : Hid (Below w.heap.size w Z2) := BZ.out.trans (b2.mono BZ.out.size)
      have P2 := hide (p2.mono BZ.out.size)
      have HS := hide hds
      clear p2 b2 hds BZ
      clear VT
      refine hK.out _ _ trivial (fun hHeld => ?_)
      clear hK K
      try simp only [Act.put, List.setIfInBounds_toArray, List.set_cons_zero, List.set_cons_succ]
      refine wpAnyH_ready (rs := [12]) (by kernel_rfl) (by simp) ?_
      refine AllReadyH.cons (o := { dst := some 51, op := Op.call { callee := Callee.value (Operand.func 23), args := #[Operand.tmp 47, Operand.tmp 50], argTypes := #[33, 41] }, type := 23, pos := "ref.go:97", after := #[{ on := 8, ground := Ground.data }, { on := 11, ground := Ground.data }, { on := 7, ground := Ground.chain }], guard := none }) rfl (fun K hK => ?_) AllReadyH.nil
      go_simp
      have VD := hide ((HV.out.take k (by have := hN2.out; omega)).below B2.out (Nat.le_refl _))
      refine (hroot_any gh gT a _ (bss.take k) _ Z2 rfl (by rw [List.length_take]; have := hN2.out; omega) VD.out (HF.out.take k) (HH.out.below B2.out (Nat.le_refl _))).mono ?_
      rintro e Z3 ⟨rfl, b3⟩
      obtain ⟨D, hD⟩ : ∃ D, D = S.root a (bss.take k) := ⟨_, rfl⟩
      rw [← hD]
      have HDL : Hid (D.length = 32) := by rw [hD, S.root_length]; exact rfl
      have HD := hide hD
      have B3 : Hid (Below w.heap.size w Z3) := B2.out.trans (b3.mono B2.out.size)
      have P3 := hide (P2.out.below b3)
      clear b3 hD VD B2 P2
      refine hK.out _ _ trivial (fun hHeld => ?_)
      clear hK K
      try simp only [Act.put, List.setIfInBounds_toArray, List.set_cons_zero, List.set_cons_succ]
      refine wpAnyH_ready (rs := [13]) (by kernel_rfl) (by simp) ?_
      have bs1 := bs24one Z3 D HDL.out
      refine step_buildSlice_as (o := { dst := some 52, op := Op.buildSlice 32 1 #[(0, Operand.tmp 51)], type := 32, pos := "ref.go:97", after := #[{ on := 12, ground := Ground.data }], guard := none }) rfl rfl 32 1 [(0, .tmp 51)] rfl [(0, .agg (S.v8 D))] rfl _ _ bs1 AllReadyH.nil ⟨trivial, fun hHeld => ?_⟩
      clear hHeld bs1
      simp only [Act.put, List.setIfInBounds_toArray, List.set_cons_zero, List.set_cons_succ]
      obtain ⟨g4, hg4⟩ : ∃ g4, g4 = Z3.heap.size := ⟨_, rfl⟩
      generalize hZ4 : Z3.alloc _ = Z4
      have C4 : Below Z3.heap.size Z3 Z4 := by rw [← hZ4]; exact (Below.refl _ _).alloc (Nat.le_refl _) _
      have R4 : Hid (Z4.heap[g4]? = some (.cells (S.v8 D) 23 (0, 0))) := by rw [← hZ4, hg4]; exact heap_alloc_new _ _
      have B4 : Hid (Below w.heap.size w Z4) := B3.out.trans (C4.mono B3.out.size)
      have P4 := hide (P3.out.below C4)
      rw [← hg4]
      clear hZ4 C4 hg4 B3 P3
      refine wpAnyH_ready (rs := [14]) (by kernel_rfl) (by simp) ?_
      obtain ⟨v5, Z5, hr5, p5, b5⟩ := run_append_dig Z4 w.heap.size g4 vp ds D 32 P4.out HDL.out R4.out HDS.out B4.out.size
      refine step_append_as (o := { dst := some 53, op := Op.call { callee := Callee.builtin Builtin.append, args := #[Operand.tmp 46, Operand.tmp 52], argTypes := #[32, 32] }, type := 32, pos := "ref.go:97", after := #[{ on := 7, ground := Ground.data }, { on := 13, ground := Ground.data }, { on := 12, ground := Ground.chain }], guard := none }) rfl rfl (.tmp 46) (.tmp 52) 32 32 rfl _ _ rfl rfl v5 Z5 hr5 AllReadyH.nil ⟨trivial, fun hHeld => ?_⟩
      clear hHeld hr5
      simp only [Act.put, List.setIfInBounds_toArray, List.set_cons_zero, List.set_cons_succ]
      have B5 : Hid (Below w.heap.size w Z5) := B4.out.trans b5
      have P5 := hide p5
      clear p5 b5 B4 P4 R4
      refine wpAnyH_take (i := 15) (oi := { dst := some 8, op := Op.assign (Operand.tmp 53), type := 32, pos := "ref.go:97", after := #[{ on := 14, ground := Ground.data }, { on := 14, ground := Ground.chain }, { on := 0, ground := Ground.phase }, { on := 1, ground := Ground.phase }, { on := 2, ground := Ground.phase }, { on := 3, ground := Ground.phase }, { on := 4, ground := Ground.phase }, { on := 5, ground := Ground.phase }, { on := 6, ground := Ground.phase }, { on := 7, ground := Ground.phase }, { on := 8, ground := Ground.phase }, { on := 9, ground := Ground.phase }, { on := 10, ground := Ground.phase }, { on := 11, ground := Ground.phase }, { on := 12, ground := Ground.phase }, { on := 13, ground := Ground.phase }, { on := 14, ground := Ground.phase }], guard := none }) (v := ?_) rfl (by kernel_rfl) (by kernel_rfl) (by kernel_rfl) (fun _ _ _ h => h) (Or.inl ⟨by rfl, ?_⟩) (by assumption) ?_
      rotate_left
      · intro w hSw
        clear hSw
        go_simp
        all_goals with_reducible rfl
      simp only [Act.put, List.setIfInBounds_toArray, List.set_cons_zero, List.set_cons_succ]
      refine wpAnyH_done (by kernel_rfl) ?_ _
      refine NoPanic.normal ?_
      go_wp2_with fail
      go_ret
      exact ⟨v5, rfl, by rw [S.grow_right a bss i q (by have := hN2.out; omega) (by rw [hN2.out]; exact hone) (by rw [hN2.out, ← HKK.out]; exact hik), hN2.out, ← HKK.out, ← HS.out, ← HD.out]; exact P5.out, B5.out⟩
set_option maxHeartbeats 1000000 in
set_option maxRecDepth 10000 in
theorem hprove_any (gh gT : Nat) (a : Int) (bss : List (List UInt8)) (v : Value) (i : Nat) (w : World) (hi : i < 18446744073709551616) (h256 : bss.length ≤ 256) (hv : BsAt w v bss) (hf : Fit bss) (hH : HsAt w gh gT a) :
   Calls Tryd.prog 21 #[.pointer (some ⟨gh, 0, none⟩), v, .int .u64 (i : Int)] w fun e w' => Told w w' e (S.prove a bss i) (S.proveNo bss i) := by
  obtain ⟨ao, cap, rfl, hcap⟩ := hv.form
  obtain ⟨N, hN⟩ : ∃ N, N = bss.length := ⟨_, rfl⟩
  have HV := hide hv
  have HF := hide hf
  have HH := hide hH
  have HN := hide hN
  rw [← hN] at hcap HV h256 ⊢
  have q2 : IntKind.u64.wrap (N : Int) = (N : Int) := by rw [IntKind.wrap_u64]; omega
  clear hv hf hH hN
  by_cases hlt : i < N
  · refine (hpath_any gh gT a N bss _ i w HN.out.symm (by omega) h256 hlt HV.out HF.out HH.out).mono ?_
    rintro e w1 ⟨⟨v1, rfl, h1⟩, h2⟩
    exact ⟨⟨_, by rw [S.proveNo, if_pos (by rw [← HN.out]; exact hlt)], by rw [S.prove, if_pos (by rw [← HN.out]; exact hlt)]; exact h1⟩, h2⟩
  · have q1 : (N : Int) ≤ (i : Int) := by omega
    go_enter Tryd.func21, Tryd.ntmps21
    go_wp2_with fail
    go_ret2
    exact ⟨⟨_, by rw [S.proveNo, if_neg (by rw [← HN.out]; exact hlt)]; rfl, by rw [S.prove, if_neg (by rw [← HN.out]; exact hlt)]; exact DgRow.nil _ _⟩, Below.refl _ _⟩
set_option maxHeartbeats 1000000 in
set_option maxRecDepth 10000 in
theorem hcompare_any (gh gT : Nat) (a : Int) (bss : List (List UInt8)) (v : Value) (i : Nat) (w : World) (hi : i < 18446744073709551616) (h256 : bss.length ≤ 256) (hv : BsAt w v bss) (hf : Fit bss) (hH : HsAt w gh gT a) :
   Calls Tryd.prog 22 #[.pointer (some ⟨gh, 0, none⟩), v, .int .u64 (i : Int)] w fun e w' => Told w w' e (S.comp_ a bss i) (S.compNo bss i) := by
  obtain ⟨ao, cap, rfl, hcap⟩ := hv.form
  obtain ⟨N, hN⟩ : ∃ N, N = bss.length := ⟨_, rfl⟩
  have HV := hide hv
  have HF := hide hf
  have HH := hide hH
  have HN := hide hN
  rw [← hN] at hcap HV h256 ⊢
  have q2 : IntKind.u64.wrap (N : Int) = (N : Int) := by rw [IntKind.wrap_u64]; omega
  clear hv hf hH hN
  by_cases hz : i = 0
  · subst hz
    go_enter Tryd.func22, Tryd.ntmps22
    go_wp2_with fail
    go_ret2
    exact ⟨⟨_, by rw [S.compNo, if_pos (Or.inl rfl)]; rfl, by rw [S.comp_, if_pos (Or.inl rfl)]; exact DgRow.nil _ _⟩, Below.refl _ _⟩
  · have qz : ((i : Int) == 0) = false := by simp; omega
    by_cases hlt : N < i
    · have q1 : (N : Int) < (i : Int) := by omega
      go_enter Tryd.func22, Tryd.ntmps22
      go_wp2_with fail
      go_ret2
      exact ⟨⟨_, by rw [S.compNo, if_pos (Or.inr (by rw [← HN.out]; exact hlt))]; rfl, by rw [S.comp_, if_pos (Or.inr (by rw [← HN.out]; exact hlt))]; exact DgRow.nil _ _⟩, Below.refl _ _⟩
    · have q1 : ¬ (N : Int) < (i : Int) := by omega
      have q1' : (i : Int) ≤ (N : Int) := by omega
      have q3 : IntKind.i64.wrap (i : Int) = (i : Int) := by rw [IntKind.wrap_i64]; omega
      go_enter Tryd.func22, Tryd.ntmps22
      go_wp2_with fail
      clear q1 q1' q2 q3 qz
      refine (hpart_any gh gT a N bss _ i true w HN.out.symm (by omega) h256 (by omega) (by omega) HV.out HF.out HH.out).mono ?_
      rintro e w1 ⟨v1, rfl, h1, h2⟩
      obtain ⟨ao1, c1, rfl⟩ := h1.form
      have H1 := hide h1
      clear h1
      have hno : ¬ (i = 0 ∨ bss.length < i) := by rw [← HN.out]; omega
      have NO := hide hno
      clear hno
      go_wp2_with fail
      go_ret2
      exact ⟨⟨_, by rw [S.compNo, if_neg NO.out]; rfl, by rw [S.comp_, if_neg NO.out]; exact H1.out⟩, h2⟩
end Go.Proofs.YtlbggkmblkhjoaaDoor
namespace Go.Proofs.YtlbggkmblkhjoaaDoor
open Go.RowKit

theorem step_alloc_as {md : Region.Mode} {ops : Array Oper} {Q : Exit → Act → World → Prop} {S : World → Prop} {fuel : Nat} {listed : Array Bool} {a : Act} {w : World} {i : Nat} {o : Oper} {rs : List Nat} (ho : ops[i]? = some o) (hgd : o.guard = none) (t : TypeId)
    (hop : o.op = .alloc t) (v' : Value) (w' : World) (hr : (Instr.alloc t true (.tuple #[])).run Tryd.prog w = .ok v' w') (hrest : AllReadyH Tryd.prog md ops Q S fuel listed a w rs)
    (h : S w' ∧ (S w' → wpAnyH Tryd.prog md ops Q S fuel (listed.setIfInBounds i true) (a.put o.dst v') w')) : AllReadyH Tryd.prog md ops Q S fuel listed a w (i :: rs) := by
  refine AllReadyH.cons ho (fun K hK => ?_) hrest
  rw [if_pos (by simp [Region.wanted, hgd])]
  unfold Oper.wp execOp
  simp only [hop, Sem.run_bind, hr, Result.andThen_ok]
  exact hK.out _ _ h.1 h.2
def Wayed (w w' : World) (e : Ending) (o : Option (List (List UInt8))) : Prop :=
  ∃ ao len cap, e = .returned (.tuple #[.slice ao len cap, .bool o.isSome]) ∧ (∀ ts, o = some ts → TxRow w.heap.size w' (.slice ao len cap) ts) ∧ Below w.heap.size w w'
theorem Own.chg {p : Nat → Prop} {w W : World} {base : Nat} {v : Value} {bs : List UInt8} (h : Own w base v bs) (hc : Chg p w W) (hp : ∀ k, base ≤ k → ¬ p k) : Own W base v bs := by
  obtain ⟨h1, g, cap, rfl⟩ := h
  refine ⟨⟨h1.1, ?_⟩, g, cap, rfl⟩
  rcases h1.2 with h0 | ⟨g', cap', cur, e, hB, hr, h2⟩
  · exact Or.inl h0
  · exact Or.inr ⟨g', cap', cur, e, hB, hc.row hr (hp g' hB), h2⟩
set_option maxHeartbeats 2000000 in
set_option maxRecDepth 10000 in
theorem nodeText_own (gh gT : Nat) (a : Int) (d e : List UInt8) (hd : d.length = 32) (he : e.length = 32) (w : World) (hH : HsAt w gh gT a) :
   Calls Tryd.prog 65 #[.pointer (some ⟨gh, 0, none⟩), .agg (S.v8 d), .agg (S.v8 e)] w fun r w' => ∃ v', r = .returned v' ∧ Own w' (w.heap.size + 1 + 1) v' (1 :: (d.take (S.cw a) ++ e.take (S.cw a))) ∧ Below w.heap.size w w' := by
  obtain ⟨n, hn⟩ : ∃ n, n = S.cw a := ⟨_, rfl⟩
  have hn32 : n ≤ 32 := by rw [hn]; exact S.cw_le a
  have HN := hide hn
  rw [← hn]
  have lh := block_lt_of_row hH.h
  have hc := (cells2 hH.h).2
  rw [← hn] at hc
  clear hn hH
  obtain ⟨W0, hW0⟩ : ∃ W, W = w.alloc (.cells (S.v8 d) 23) := ⟨_, rfl⟩
  obtain ⟨W1, hW1⟩ : ∃ W, W = W0.alloc (.cells (S.v8 e) 23) := ⟨_, rfl⟩
  obtain ⟨W2, hW2⟩ : ∃ W, W = W1.alloc (.cells #[.int .u8 1] 5) := ⟨_, rfl⟩
  have s0 : W0.heap.size = w.heap.size + 1 := by rw [hW0]; simp
  have s1 : W1.heap.size = w.heap.size + 2 := by rw [hW1]; simp [s0]
  have s2 : W2.heap.size = w.heap.size + 3 := by rw [hW2]; simp [s1]
  have B0 : Below w.heap.size w W0 := by rw [hW0]; exact (Below.refl _ _).alloc (Nat.le_refl _) _
  have B1 : Below W0.heap.size W0 W1 := by rw [hW1]; exact (Below.refl _ _).alloc (Nat.le_refl _) _
  have B2 : Below W1.heap.size W1 W2 := by rw [hW2]; exact (Below.refl _ _).alloc (Nat.le_refl _) _
  have ra : W2.heap[w.heap.size]? = some (.cells (S.v8 d) 23 (0, 0)) := (B2.block _ (by omega)).trans ((B1.block _ (by omega)).trans (by rw [hW0]; exact heap_alloc_new _ _))
  have rb : W2.heap[w.heap.size + 1]? = some (.cells (S.v8 e) 23 (0, 0)) := (B2.block _ (by omega)).trans (by rw [hW1, ← s0]; exact heap_alloc_new _ _)
  have rc : W2.heap[w.heap.size + 2]? = some (.cells #[.int .u8 1] 5 (0, 0)) := by rw [hW2, ← s1]; exact heap_alloc_new _ _
  have bb : Below w.heap.size w W2 := (B0.trans (B1.mono (by omega))).trans (B2.mono (by omega))
  have c2 : W2.cell? ⟨gh, 1, none⟩ = some (.int .i64 (n : Int)) := (bb.cell (p := ⟨gh, 1, none⟩) lh).trans hc
  have KEY := hide (run_append_bytes W2 (w.heap.size + 2) (.slice (some ⟨w.heap.size + 2, 0, none⟩) 1 1) (.slice (some ⟨w.heap.size, 0, none⟩) n 32) [1] (d.take n) 25 (own_one (x := 1) rfl rc (Nat.le_refl _)) (dig_part ra hd n hn32) (by simp; omega) (by omega))
  have RB := hide rb
  have BB := hide bb
  have S2 := hide s2
  have C0 := hide (show w.cell? ⟨gh, 1, none⟩ = some (.int .i64 (n : Int)) from hc)
  have HE := hide he
  have HD := hide hd
  have LH := hide lh
  have q1 : (0 : Int) ≤ (n : Int) := by omega
  have q2 : (n : Int) ≤ 32 := by omega
  have e2 := hW2
  rw [hW1, hW0] at e2
  rw [e2] at c2
  rw [e2] at KEY
  rw [show w.heap.size + 2 = w.heap.size + 1 + 1 from rfl] at KEY
  have E2 := hide e2
  clear hW0 hW1 hW2 s0 s1 s2 B0 B1 B2 ra rb rc bb hc hd he lh e2
  go_enter Tryd.func65, Tryd.ntmps65
  have KEY2 : Hid (∀ (v' : Value) (w' : World), Own w' (w.heap.size + 1 + 1) v' ([1] ++ d.take n) → Below (w.heap.size + 1 + 1) W2 w' → (w'.cell? ⟨gh, 1, none⟩ = some (.int .i64 (n : Int)) ∧ Below w.heap.size w w' ∧ ∃ v2 w2, (Builtin.append_ #[25, 25] 25 #[v', .slice (some ⟨w.heap.size + 1, 0, none⟩) n 32]).run Tryd.prog w' = .ok v2 w2 ∧ (Own w2 (w.heap.size + 1 + 1) v2 (([1] ++ d.take n) ++ e.take n) ∧ Below (w.heap.size + 1 + 1) w' w2))) := fun v' w' hO hB => by
    have hs := hB.size
    have hs2 := S2.out
    refine ⟨(hB.cell (p := ⟨gh, 1, none⟩) (by have := LH.out; show gh < _; omega)).trans ((BB.out.cell (p := ⟨gh, 1, none⟩) LH.out).trans C0.out), BB.out.trans (hB.mono (by omega)), ?_⟩
    exact run_append_bytes w' (w.heap.size + 1 + 1) v' _ ([1] ++ d.take n) (e.take n) 25 hO (dig_part ((hB.block _ (by omega)).trans RB.out) HE.out n hn32) (by simp; omega) (by omega)
  rw [E2.out] at KEY2
  clear E2 RB BB S2 C0 LH W2
  go_wp2_with (first | (at_builtin; (refine wpList_append_known rfl (.tmp 8) (.tmp 13) 25 25 rfl _ _ rfl rfl KEY.out ?_; rintro v' w' ⟨hO, hB⟩; obtain ⟨c3, b3, k3⟩ := KEY2.out v' w' hO hB; have K3 := hide k3; have B3 := hide b3; clear k3 b3 hO hB)) | (at_builtin; (refine wpList_append_known rfl (.tmp 15) (.tmp 20) 25 25 rfl _ _ rfl rfl K3.out ?_; rintro v2 w2 ⟨hO2, hB2⟩)))
  have HO := hide hO2
  have HB := hide (B3.out.trans (hB2.mono (by omega)))
  clear hO2 hB2
  go_wp2_with fail
  go_ret
  refine ⟨v2, rfl, ?_, HB.out⟩
  have := HO.out
  simpa using this
theorem bs41one (W : World) (a : Option Addr) (i j : Nat) : (Instr.buildSlice 41 1 #[(0, .slice a i j)]).run Tryd.prog W = .ok (.slice (some ⟨W.heap.size, 0, none⟩) 1 1) (W.alloc (.cells #[.slice a i j] 25)) := by
  go_simp
theorem txRow_one {W : World} {g B : Nat} {xo : Option Addr} {xn xc : Nat} {t : List UInt8} (h : W.heap[g]? = some (.cells #[.slice xo xn xc] 25 (0, 0))) (hB : B ≤ g) (ht : ∀ W', Chg (fun k => k = g) W W' → SliceAt W' (.slice xo xn xc) t) : TxRow B W (.slice (some ⟨g, 0, none⟩) 1 1) [t] := by
  refine ⟨[.slice xo xn xc], Or.inr ⟨g, 0, 1, _, rfl, h, by simp, by simp, ?_⟩, rfl, fun k hk => ?_, fun j x hj => ?_⟩
  · intro j x hx
    rw [Nat.zero_add]
    simpa using hx
  · simp only [Value.ownBlock, Option.some.injEq] at hk; omega
  · have hj0 : j = 0 := by
      have := (List.getElem?_eq_some_iff.1 hj).1
      simpa using this
    subst hj0
    simp only [List.getElem?_cons_zero, Option.some.injEq] at hj
    subst hj
    refine ⟨⟨_, _, _, rfl⟩, fun W' hW' => ht W' (hW'.mono (fun k _ e => ?_))⟩
    simp only [Value.ownBlock, Option.some.injEq] at e
    exact e.symm
set_option maxHeartbeats 4000000 in
set_option maxRecDepth 10000 in
theorem rway_none (vh v u : Value) (i n : Nat) (w : World) (h : n ≤ i) :
   Calls Tryd.prog 40 #[vh, v, .int .u64 (i : Int), .int .u64 (n : Int), u] w fun e w' => e = .returned (.tuple #[.slice none 0 0, .bool false]) ∧ w = w' := by
  have q1 : (n : Int) ≤ (i : Int) := by omega
  go_enter Tryd.func40, Tryd.ntmps40
  go_wp2
  go_ret2
  exact ⟨rfl, rfl⟩
set_option maxHeartbeats 16000000 in
set_option maxRecDepth 10000 in
theorem rway_any (gh gT : Nat) (a : Int) (v u : Value) (bs : List UInt8) (i n : Nat) (ps : List (List UInt8)) (w : World) (hin : i < n) (hn : n < 18446744073709551616) (hH : HsAt w gh gT a) (hv : SliceAt w v bs) (hl : bs.length + 1 ≤ 140737488355000) (hu : DgAt w u ps) (hps : ps.length ≤ 90000) :
   Calls Tryd.prog 40 #[.pointer (some ⟨gh, 0, none⟩), v, .int .u64 (i : Int), .int .u64 (n : Int), u] w fun e w' => Wayed w w' e (S.climb a bs i n ps) := by
  have hclimb : S.climb a bs i n ps = S.way a i (n - 1) (0 :: bs) ps := by rw [S.climb, if_pos hin]
  rw [hclimb]
  clear hclimb
  obtain ⟨ao, len, cap, rfl, hlen, _⟩ := hv.form
  obtain ⟨uo, uc, rfl⟩ := hu.form
  have HV := hide hv
  have HU := hide hu
  have HH := hide hH
  have HLn := hide hl
  obtain ⟨N, hN⟩ : ∃ N, N = ps.length := ⟨_, rfl⟩
  rw [← hN] at HU hps ⊢
  have HN := hide hN
  have q1 : ¬ (n : Int) ≤ (i : Int) := by omega
  have q1' : (i : Int) < (n : Int) := by omega
  have q2 : IntKind.u64.wrap ((n : Int) - 1) = ((n - 1 : Nat) : Int) := by rw [IntKind.wrap_u64]; omega
  clear hv hH hl hlen hu hN
  go_enter Tryd.func40, Tryd.ntmps40
  go_wp2_with fail
  refine (leafText_any gh _ bs w HV.out (by have := HLn.out; omega)).mono ?_
  rintro e w1 ⟨v1, rfl, s1, b1⟩
  obtain ⟨so, sn, sc, rfl, es, _⟩ := s1.form
  clear es
  obtain ⟨Y, hY⟩ : ∃ YQ, YQ = w1.alloc (.cells #[.slice so sn sc] 25) := ⟨_, rfl⟩
  have bY : Below w1.heap.size w1 Y := by rw [hY]; exact (Below.refl _ _).alloc (Nat.le_refl _) _
  have rY : Y.heap[w1.heap.size]? = some (.cells #[.slice so sn sc] 25 (0, 0)) := by rw [hY]; exact heap_alloc_new _ _
  have TX0 := hide (txRow_one (B := w.heap.size) (t := 0 :: bs) rY b1.size (fun W' hW' => s1.below (bY.trans (hW'.below _ bY.size (fun k hk e => by omega))) (Nat.le_refl _)))
  have BY := hide (b1.trans (bY.mono b1.size))
  have hbs := bs41one w1 so sn sc
  rw [← hY] at hbs
  obtain ⟨g1, hg1⟩ : ∃ g, g = w1.heap.size := ⟨_, rfl⟩
  rw [← hg1] at TX0 hbs
  clear hY bY rY b1 s1 hg1
  go_wp2_with (with_reducible refine at_op { dst := some 24, op := Op.buildSlice 41 1 #[(0, Operand.tmp 23)], type := 41, pos := "ref.go:25", after := #[{ on := 2, ground := Ground.data }], guard := none } ?_; refine wpList_buildSlice_as rfl 41 1 [(0, .tmp 23)] rfl [(0, .slice so sn sc)] rfl _ _ hbs ?_)
  clear hbs
  go_loopg [12, 13, 14, 15] (n - 1) (fun gk s12 s13 s14 s15 wr => ∃ (k f s : Nat) (ts : List (List UInt8)) (t : List UInt8), gk = s ∧ k ≤ N ∧ s15 = .int .i64 (k : Int) ∧ s13 = .int .u64 (f : Int) ∧ s14 = .int .u64 (s : Int) ∧ f < 18446744073709551616 ∧ s < 18446744073709551616 ∧ Hid (S.Up a i (n - 1) (0 :: bs) ps f s ts t (ps.drop k)) ∧ Hid (TxRow w.heap.size wr s12 (ts ++ [t])) ∧ ts.length = k ∧ t.length ≤ 140737488355000 ∧ Hid (Below w.heap.size w wr))
  case atStart => exact ⟨0, i, n - 1, [], 0 :: bs, rfl, by omega, rfl, rfl, rfl, by omega, by omega, S.Up.refl _ _ _ _ _, TX0, rfl, by simpa using HLn.out, BY⟩
  case round =>
    clear TX0 BY q1 q1' q2
    obtain ⟨k, f, s, ts, t, hg, hkN, rfl, rfl, rfl, hf, hs, HUP, HTX, hts, htl, HB⟩ := hrel
    obtain ⟨vo, vc, rfl⟩ := HTX.out.form
    obtain ⟨m, hm⟩ : ∃ m, m = (ts ++ [t]).length := ⟨_, rfl⟩
    rw [← hm] at HTX ⊢
    have hm2 : m = k + 1 := by rw [hm]; simp [hts]
    have HM := hide hm
    have HM2 := hide hm2
    have HTS := hide hts
    have HTL := hide htl
    clear hm hm2 hts htl
    by_cases hs0 : s = 0
    · have q3 : ¬ (s : Int) > 0 := by omega
      have q3' : ¬ (0 : Int) < (s : Int) := by omega
      subst hs0
      by_cases hkk : k = N
      · have q4 : ((k : Int) == (N : Int)) = true := by simp [hkk]
        have hd : ps.drop k = [] := List.drop_eq_nil_of_le (by rw [← HN.out, hkk]; exact Nat.le_refl _)
        rw [hd] at HUP
        clear hd hkk
        go_wp2_with fail
        go_ret2
        refine ⟨vo, m, vc, by rw [HUP.out.done]; rfl, fun ts' hts' => ?_, HB.out⟩
        rw [HUP.out.done] at hts'
        cases hts'
        exact HTX.out
      · have q4 : ((k : Int) == (N : Int)) = false := by simp; omega
        rw [drop_cons k (by rw [← HN.out]; omega)] at HUP
        go_wp2_with fail
        go_ret2
        refine ⟨vo, m, vc, by rw [HUP.out.over]; rfl, fun ts' hts' => ?_, HB.out⟩
        rw [HUP.out.over] at hts'
        cases hts'
    · have q3 : (s : Int) > 0 := by omega
      have q3' : (0 : Int) < (s : Int) := by omega
      by_cases hsk : f % 2 = 0 ∧ f = s
      · have q5 : (f : Int) % 2 = 0 := by omega
        have q6 : ((f : Int) == (s : Int)) = true := by simp; omega
        have HUPN := hide (HUP.out.skip hs0 hsk.1 hsk.2)
        clear HUP hsk
        go_wp2_with fail
        go_roundg (s / 2)
        case measure => omega
        case rel => exact ⟨k, f / 2, s / 2, ts, t, rfl, hkN, rfl, rfl, rfl, by omega, by omega, HUPN, HTX, HTS.out, HTL.out, HB⟩
      · have GATE : ∀ (P : Prop), (f % 2 = 1 → P) → (f % 2 = 0 → f ≠ s → P) → P := fun P h1 h2 => by
          by_cases ho : f % 2 = 1
          · exact h1 ho
          · exact h2 (by omega) (fun e => hsk ⟨by omega, e⟩)
        by_cases hkk : k = N
        · have q4 : ((k : Int) == (N : Int)) = true := by simp [hkk]
          have hd : ps.drop k = [] := List.drop_eq_nil_of_le (by rw [← HN.out, hkk]; exact Nat.le_refl _)
          rw [hd] at HUP
          clear hd hkk
          refine GATE _ (fun ho => ?_) (fun ho hfs => ?_)
          · have q5 : ¬ (f : Int) % 2 = 0 := by omega
            have q5' : (f : Int) % 2 = 1 := by omega
            clear GATE hsk
            go_wp2_with fail
            go_ret2
            refine ⟨none, 0, 0, by rw [HUP.out.short hs0]; rfl, fun ts' hts' => ?_, HB.out⟩
            rw [HUP.out.short hs0] at hts'
            cases hts'
          · have q5 : (f : Int) % 2 = 0 := by omega
            have q6 : ((f : Int) == (s : Int)) = false := by simp; omega
            clear GATE hsk
            go_wp2_with fail
            go_ret2
            refine ⟨none, 0, 0, by rw [HUP.out.short hs0]; rfl, fun ts' hts' => ?_, HB.out⟩
            rw [HUP.out.short hs0] at hts'
            cases hts'
        · have q4 : ((k : Int) == (N : Int)) = false := by simp; omega
          have hkN2 : k < N := by omega
          obtain ⟨gu, ou, cu, eu, hgu, hru, hpl⟩ := dg_at HU.out k (by rw [← HN.out]; omega)
          simp only [Value.slice.injEq] at eu
          obtain ⟨rfl, eN, rfl⟩ := eu
          clear eN hkk
          obtain ⟨p, hp⟩ : ∃ p, p = ps.getD k [] := ⟨_, rfl⟩
          rw [drop_cons k (by rw [← HN.out]; omega), ← hp] at HUP
          rw [← hp] at hru hpl
          have LP := hide hpl
          have HRU : Hid (∀ W, Below w.heap.size w W → W.rangeAt gu (ou + k * 32) (S.v8l p)) := fun W hW j x hx => (hW.cell (p := ⟨gu, ou + k * 32 + j, none⟩) hgu).trans (hru j x hx)
          obtain ⟨bl, offl, cl, e9, e9', e9b, hcl⟩ := HTX.out.bsAt.src (by simp)
          simp only [Value.slice.injEq] at e9
          obtain ⟨rfl, e9n, rfl⟩ := e9
          obtain ⟨x, hx, hxs⟩ := hcl k (by rw [← HM.out, HM2.out]; omega)
          rw [show (ts ++ [t]).getD k [] = t by rw [List.getD_eq_getElem?_getD, List.getElem?_append_right (by rw [HTS.out]; exact Nat.le_refl _), HTS.out, Nat.sub_self]; rfl] at hxs
          obtain ⟨xo, xl, xc, rfl, hxl, hxm⟩ := hxs.form
          have CX := hide hx
          have XS := hide hxs
          have HBLT := hide e9b
          have e1 : IntKind.i64.wrap ((m : Int) - 1) = (k : Int) := by rw [IntKind.wrap_i64]; have := HM2.out; omega
          have qk0 : (0 : Int) ≤ (k : Int) := by omega
          have qkm : (k : Int) < (m : Int) := by have := HM2.out; omega
          have qkN : (k : Int) < (N : Int) := by omega
          have qk1 : IntKind.i64.wrap ((k : Int) + 1) = ((k + 1 : Nat) : Int) := by rw [IntKind.wrap_i64]; omega
          obtain ⟨cwa, hcwa⟩ : ∃ c, c = S.cw a := ⟨_, rfl⟩
          have HCW := hide hcwa
          obtain ⟨D, hD⟩ : ∃ D, D = S.hsh a t := ⟨_, rfl⟩
          obtain ⟨E, hE⟩ : ∃ E, E = S.cut p cwa := ⟨_, rfl⟩
          have LD := hide (show D.length = 32 by rw [hD, S.hsh_length])
          have LE := hide (show E.length = 32 by rw [hE, S.cut_length]; exact LP.out)
          have ED := hide hD
          have EE := hide hE
          have HHr : Hid (HsAt wr gh gT a) := HH.out.below HB.out (Nat.le_refl _)
          have hsz := size_dig p LP.out
          clear hgu hru hpl hp e9n e9' e9b hcl hx hxs hxl hxm hcwa hD hE
          have GATE2 : ∀ (P : Prop), (f % 2 = 1 → P) → (f % 2 = 0 → f ≠ s → P) → P := GATE
          clear GATE hsk
          refine GATE2 _ (fun ho => ?_) (fun ho hfs => ?_)
          · have q5 : ¬ (f : Int) % 2 = 0 := by omega
            have q5' : (f : Int) % 2 = 1 := by omega
            have HUPN := hide (HUP.out.odd hs0 ho)
            clear GATE2 HUP
            rw [show S.txt a p (S.hsh a t) = S.txt a E D by rw [EE.out, HCW.out, ED.out, S.txt_cut_l]] at HUPN
            go_upto_region 13 with fail
            go_cut [16] from 28 to 93 (fun p16 wc => ∃ g16, p16 = .pointer (some ⟨g16, 0, none⟩) ∧ Hid (wc.heap[g16]? = some (.cells (S.v8 D) 23 (0, 0))) ∧ Hid (Below wr.heap.size wr wc))
            case first =>
              refine wp_region_noPanic ?_
              refine wp_region_held_drew (S := (fun W => Chg (fun _ => False) wr W)) follows ((Chg.refl _ _).drew) (fun hHeld => ?_)
              clear hHeld
              have hHeld : Chg (fun _ => False) wr wr.drew := (Chg.refl _ _).drew
              have CZ0 := hide hHeld
              generalize wr.drew = Z0 at CZ0 hHeld ⊢
              refine wpAnyH_take (i := 0) (oi := { dst := some 46, op := Op.move (Operand.tmp 0), type := 33, pos := "ref.go:38", after := #[], guard := none }) (v := ?_) rfl (by kernel_rfl) (by kernel_rfl) (by kernel_rfl) (fun _ _ _ h => h) (Or.inl ⟨by rfl, ?_⟩) (by assumption) ?_
              rotate_left
              · intro w hSw
                clear hSw
                go_simp
                all_goals with_reducible rfl
              simp only [Act.put, List.setIfInBounds_toArray, List.set_cons_zero, List.set_cons_succ]
              refine wpAnyH_take (i := 1) (oi := { dst := some 47, op := Op.nilCheck (Operand.tmp 46), type := 0, pos := "ref.go:38", after := #[{ on := 0, ground := Ground.data }], guard := none }) (v := ?_) rfl (by kernel_rfl) (by kernel_rfl) (by kernel_rfl) (fun _ _ _ h => h) (Or.inl ⟨by rfl, ?_⟩) (by assumption) ?_
              rotate_left
              · intro w hSw
                clear hSw
                go_simp
                all_goals with_reducible rfl
              simp only [Act.put, List.setIfInBounds_toArray, List.set_cons_zero, List.set_cons_succ]
              refine wpAnyH_take (i := 2) (oi := { dst := some 48, op := Op.fieldAddr 76 (Operand.tmp 47) 0, type := 0, pos := "ref.go:38", after := #[{ on := 1, ground := Ground.data }], guard := none }) (v := ?_) rfl (by kernel_rfl) (by kernel_rfl) (by kernel_rfl) (fun _ _ _ h => h) (Or.inl ⟨by rfl, ?_⟩) (by assumption) ?_
              rotate_left
              · intro w hSw
                clear hSw
                go_simp
                all_goals with_reducible rfl
              simp only [Act.put, List.setIfInBounds_toArray, List.set_cons_zero, List.set_cons_succ]
              refine wpAnyH_take (i := 3) (oi := { dst := some 49, op := Op.load 71 (Operand.tmp 48), type := 71, pos := "ref.go:38", after := #[{ on := 2, ground := Ground.data }], guard := none }) (v := ?_) rfl (by kernel_rfl) (by kernel_rfl) (by kernel_rfl) (fun _ _ _ h => h) (Or.inl ⟨by rfl, ?_⟩) (by assumption) ?_
              rotate_left
              · intro w hSw
                have c4 := (cells2 (HHr.out.below (hSw.below _ (Nat.le_refl _) (fun _ _ e => e)) (Nat.le_refl _)).h).1
                clear hSw
                go_simp
                all_goals with_reducible rfl
              simp only [Act.put, List.setIfInBounds_toArray, List.set_cons_zero, List.set_cons_succ]
              refine wpAnyH_take (i := 4) (oi := { dst := some 50, op := Op.move (Operand.tmp 12), type := 41, pos := "ref.go:38", after := #[], guard := none }) (v := ?_) rfl (by kernel_rfl) (by kernel_rfl) (by kernel_rfl) (fun _ _ _ h => h) (Or.inl ⟨by rfl, ?_⟩) (by assumption) ?_
              rotate_left
              · intro w hSw
                clear hSw
                go_simp
                all_goals with_reducible rfl
              simp only [Act.put, List.setIfInBounds_toArray, List.set_cons_zero, List.set_cons_succ]
              refine wpAnyH_take (i := 5) (oi := { dst := some 51, op := Op.move (Operand.tmp 12), type := 41, pos := "ref.go:38", after := #[], guard := none }) (v := ?_) rfl (by kernel_rfl) (by kernel_rfl) (by kernel_rfl) (fun _ _ _ h => h) (Or.inl ⟨by rfl, ?_⟩) (by assumption) ?_
              rotate_left
              · intro w hSw
                clear hSw
                go_simp
                all_goals with_reducible rfl
              simp only [Act.put, List.setIfInBounds_toArray, List.set_cons_zero, List.set_cons_succ]
              refine wpAnyH_take (i := 6) (oi := { dst := some 52, op := Op.call { callee := Callee.builtin Builtin.len, args := #[Operand.tmp 51], argTypes := #[41] }, type := 3, pos := "ref.go:38", after := #[{ on := 5, ground := Ground.data }], guard := none }) (v := ?_) rfl (by kernel_rfl) (by kernel_rfl) (by kernel_rfl) (fun _ _ _ h => h) (Or.inl ⟨by rfl, ?_⟩) (by assumption) ?_
              rotate_left
              · intro w hSw
                clear hSw
                go_simp
                all_goals with_reducible rfl
              simp only [Act.put, List.setIfInBounds_toArray, List.set_cons_zero, List.set_cons_succ]
              refine wpAnyH_take (i := 7) (oi := { dst := some 53, op := Op.binOp BinOp.sub 3 (Operand.tmp 52) (Operand.const (Value.int IntKind.i64 1)) 3, type := 3, pos := "ref.go:38", after := #[{ on := 6, ground := Ground.data }], guard := none }) (v := ?_) rfl (by kernel_rfl) (by kernel_rfl) (by kernel_rfl) (fun _ _ _ h => h) (Or.inl ⟨by rfl, ?_⟩) (by assumption) ?_
              rotate_left
              · intro w hSw
                clear hSw
                go_simp
                all_goals with_reducible rfl
              simp only [Act.put, List.setIfInBounds_toArray, List.set_cons_zero, List.set_cons_succ]
              refine wpAnyH_take (i := 8) (oi := { dst := some 54, op := Op.indexAddr 41 (Operand.tmp 50) (Operand.tmp 53), type := 0, pos := "ref.go:38", after := #[{ on := 4, ground := Ground.data }, { on := 7, ground := Ground.data }], guard := none }) (v := ?_) rfl (by kernel_rfl) (by kernel_rfl) (by kernel_rfl) (fun _ _ _ h => h) (Or.inl ⟨by rfl, ?_⟩) (by assumption) ?_
              rotate_left
              · intro w hSw
                clear hSw
                go_simp
                all_goals with_reducible rfl
              simp only [Act.put, List.setIfInBounds_toArray, List.set_cons_zero, List.set_cons_succ]
              refine wpAnyH_take (i := 9) (oi := { dst := some 55, op := Op.load 25 (Operand.tmp 54), type := 25, pos := "ref.go:38", after := #[{ on := 8, ground := Ground.data }], guard := none }) (v := ?_) rfl (by kernel_rfl) (by kernel_rfl) (by kernel_rfl) (fun _ _ _ h => h) (Or.inl ⟨by rfl, ?_⟩) (by assumption) ?_
              rotate_left
              · intro w hSw
                have c4 := ((hSw.below _ (Nat.le_refl _) (fun _ _ e => e)).cell (p := ⟨bl, offl + k, none⟩) HBLT.out).trans CX.out
                clear hSw
                go_simp
                all_goals with_reducible rfl
              simp only [Act.put, List.setIfInBounds_toArray, List.set_cons_zero, List.set_cons_succ]
              refine wpAnyH_take (i := 11) (oi := { dst := some 57, op := Op.move (Operand.tmp 0), type := 33, pos := "ref.go:38", after := #[], guard := none }) (v := ?_) rfl (by kernel_rfl) (by kernel_rfl) (by kernel_rfl) (fun _ _ _ h => h) (Or.inl ⟨by rfl, ?_⟩) (by assumption) ?_
              rotate_left
              · intro w hSw
                clear hSw
                go_simp
                all_goals with_reducible rfl
              simp only [Act.put, List.setIfInBounds_toArray, List.set_cons_zero, List.set_cons_succ]
              refine wpAnyH_take (i := 12) (oi := { dst := some 58, op := Op.nilCheck (Operand.tmp 57), type := 0, pos := "ref.go:38", after := #[{ on := 11, ground := Ground.data }], guard := none }) (v := ?_) rfl (by kernel_rfl) (by kernel_rfl) (by kernel_rfl) (fun _ _ _ h => h) (Or.inl ⟨by rfl, ?_⟩) (by assumption) ?_
              rotate_left
              · intro w hSw
                clear hSw
                go_simp
                all_goals with_reducible rfl
              simp only [Act.put, List.setIfInBounds_toArray, List.set_cons_zero, List.set_cons_succ]
              refine wpAnyH_take (i := 13) (oi := { dst := some 59, op := Op.fieldAddr 76 (Operand.tmp 58) 1, type := 0, pos := "ref.go:38", after := #[{ on := 12, ground := Ground.data }], guard := none }) (v := ?_) rfl (by kernel_rfl) (by kernel_rfl) (by kernel_rfl) (fun _ _ _ h => h) (Or.inl ⟨by rfl, ?_⟩) (by assumption) ?_
              rotate_left
              · intro w hSw
                clear hSw
                go_simp
                all_goals with_reducible rfl
              simp only [Act.put, List.setIfInBounds_toArray, List.set_cons_zero, List.set_cons_succ]
              refine wpAnyH_take (i := 14) (oi := { dst := some 60, op := Op.load 3 (Operand.tmp 59), type := 3, pos := "ref.go:38", after := #[{ on := 13, ground := Ground.data }], guard := none }) (v := ?_) rfl (by kernel_rfl) (by kernel_rfl) (by kernel_rfl) (fun _ _ _ h => h) (Or.inl ⟨by rfl, ?_⟩) (by assumption) ?_
              rotate_left
              · intro w hSw
                have c4 : w.cell? ⟨gh, 1, none⟩ = some (.int .i64 (cwa : Int)) := by rw [HCW.out]; exact (cells2 (HHr.out.below (hSw.below _ (Nat.le_refl _) (fun _ _ e => e)) (Nat.le_refl _)).h).2
                clear hSw
                go_simp
                all_goals with_reducible rfl
              simp only [Act.put, List.setIfInBounds_toArray, List.set_cons_zero, List.set_cons_succ]
              refine wpAnyH_ready (rs := [10, 16]) (by kernel_rfl) (by simp) ?_
              refine AllReadyH.cons (o := { dst := some 56, op := Op.call { callee := Callee.value (Operand.func 42), args := #[Operand.tmp 49, Operand.tmp 55], argTypes := #[71, 25] }, type := 23, pos := "ref.go:38", after := #[{ on := 3, ground := Ground.data }, { on := 9, ground := Ground.data }], guard := none }) rfl (fun K hK => ?_) ?_
              · skip
                go_simp
                refine (rsum_any gT _ t Z0 (HHr.out.below (CZ0.out.below _ (Nat.le_refl _) (fun _ _ e => e)) (Nat.le_refl _)).t (XS.out.below (CZ0.out.below _ (Nat.le_refl _) (fun _ _ e => e)) (Nat.le_refl _)) HTL.out).mono ?_
                rintro e Z1 ⟨rfl, hb2⟩
                obtain ⟨D0, hD0⟩ : ∃ D, D = S.sum t := ⟨_, rfl⟩
                have LD0 := hide (show D0.length = 32 by rw [hD0, S.sum_length])
                rw [← hD0]
                have ED0 := hide hD0
                clear hD0
                have CZ1 : Hid (Chg (fun _ => False) wr Z1) := CZ0.out.then hb2
                clear hb2 CZ0
                clear hHeld
                refine hK.out _ _ CZ1.out (fun hHeld => ?_)
                clear hK K
                try simp only [Act.put, List.setIfInBounds_toArray, List.set_cons_zero, List.set_cons_succ]
                refine wpAnyH_ready (rs := [15, 16]) (by kernel_rfl) (by simp) ?_
                refine AllReadyH.cons (o := { dst := some 61, op := Op.call { callee := Callee.value (Operand.func 41), args := #[Operand.tmp 56, Operand.tmp 60], argTypes := #[23, 3] }, type := 23, pos := "ref.go:38", after := #[{ on := 10, ground := Ground.data }, { on := 14, ground := Ground.data }, { on := 10, ground := Ground.chain }], guard := none }) rfl (fun K hK => ?_) ?_
                · skip
                  go_simp
                  refine (rcut_all D0 LD0.out (cwa : Int) Z1).mono ?_
                  rintro e Z2 ⟨rfl, hb2⟩
                  rw [show S.cut D0 (cwa : Int).toNat = D by rw [ED0.out, ED.out, HCW.out]; rfl]
                  have CZ2 : Hid (Chg (fun _ => False) wr Z2) := CZ1.out.then hb2
                  clear hb2 CZ1
                  clear hHeld
                  refine hK.out _ _ CZ2.out (fun hHeld => ?_)
                  clear hK K
                  try simp only [Act.put, List.setIfInBounds_toArray, List.set_cons_zero, List.set_cons_succ]
                  refine wpAnyH_ready (rs := [16]) (by kernel_rfl) (by simp) ?_
                  refine step_alloc_as (o := { dst := some 16, op := Op.alloc 23, type := 0, pos := "ref.go:38", after := #[], guard := none }) rfl rfl 23 rfl _ _ (alloc31 Z2) AllReadyH.nil ⟨CZ2.out.alloc _, fun hHeld => ?_⟩
                  clear hHeld
                  simp only [Act.put, List.setIfInBounds_toArray, List.set_cons_zero, List.set_cons_succ]
                  obtain ⟨g16, hg16⟩ : ∃ gg, gg = Z2.heap.size := ⟨_, rfl⟩
                  rw [← hg16]
                  generalize hZ : Z2.alloc _ = Z3
                  have hb2 : Below Z2.heap.size Z2 Z3 := by rw [← hZ]; exact (Below.refl _ _).alloc (Nat.le_refl _) _
                  have Rg16 : Hid (Z3.heap[g16]? = some (.cells (S.v8 (S.zeros 32)) 23 (0, 0))) := by rw [← hZ, hg16]; exact heap_alloc_new _ _
                  have Gg16 := hide (show wr.heap.size ≤ g16 by rw [hg16]; exact CZ2.out.size)
                  clear hZ hg16
                  have CZ3 : Hid (Chg (fun _ => False) wr Z3) := CZ2.out.then hb2
                  clear hb2 CZ2
                  have hHeld := CZ3.out
                  refine wpAnyH_ready (rs := [17]) (by kernel_rfl) (by simp) ?_
                  obtain ⟨Z4, hst, r6, C6, s6⟩ := store_dig Rg16.out (S.zeros_length _) LD.out
                  refine step_store_as (o := { dst := none, op := Op.store 23 (Operand.tmp 16) (Operand.tmp 61), type := 0, pos := "ref.go:38", after := #[{ on := 16, ground := Ground.data }, { on := 15, ground := Ground.data }, { on := 15, ground := Ground.chain }, { on := 0, ground := Ground.phase }, { on := 1, ground := Ground.phase }, { on := 2, ground := Ground.phase }, { on := 3, ground := Ground.phase }, { on := 4, ground := Ground.phase }, { on := 5, ground := Ground.phase }, { on := 6, ground := Ground.phase }, { on := 7, ground := Ground.phase }, { on := 8, ground := Ground.phase }, { on := 9, ground := Ground.phase }, { on := 10, ground := Ground.phase }, { on := 11, ground := Ground.phase }, { on := 12, ground := Ground.phase }, { on := 13, ground := Ground.phase }, { on := 14, ground := Ground.phase }, { on := 15, ground := Ground.phase }, { on := 16, ground := Ground.phase }], guard := none }) rfl rfl 23 (.tmp 16) (.tmp 61) rfl _ _ rfl rfl Z4 hst AllReadyH.nil ⟨CZ3.out.trans C6 (fun k hk e => by have := Gg16.out; omega), fun hHeld => ?_⟩
                  replace Rg16 : Hid (Z4.heap[g16]? = some (.cells (S.v8 D) 23 (0, 0))) := r6
                  have CZ4 : Hid (Chg (fun _ => False) wr Z4) := CZ3.out.trans C6 (fun k hk e => by have := Gg16.out; omega)
                  clear hst r6 C6 s6 CZ3
                  simp only [Act.put]
                  refine wpAnyH_done (by kernel_rfl) ?_ _
                  refine NoPanic.normal ?_
                  clear hHeld
                  have BF := hide (show Below wr.heap.size wr Z4 from (CZ4.out.below _ (Nat.le_refl _) (fun _ _ e => e)))
                  go_wp2_with fail
                  go_meet
                  case rel => exact ⟨g16, rfl, Rg16, BF⟩
                refine step_alloc_as (o := { dst := some 16, op := Op.alloc 23, type := 0, pos := "ref.go:38", after := #[], guard := none }) rfl rfl 23 rfl _ _ (alloc31 Z1) AllReadyH.nil ⟨CZ1.out.alloc _, fun hHeld => ?_⟩
                clear hHeld
                simp only [Act.put, List.setIfInBounds_toArray, List.set_cons_zero, List.set_cons_succ]
                obtain ⟨g16, hg16⟩ : ∃ gg, gg = Z1.heap.size := ⟨_, rfl⟩
                rw [← hg16]
                generalize hZ : Z1.alloc _ = Z2
                have hb2 : Below Z1.heap.size Z1 Z2 := by rw [← hZ]; exact (Below.refl _ _).alloc (Nat.le_refl _) _
                have Rg16 : Hid (Z2.heap[g16]? = some (.cells (S.v8 (S.zeros 32)) 23 (0, 0))) := by rw [← hZ, hg16]; exact heap_alloc_new _ _
                have Gg16 := hide (show wr.heap.size ≤ g16 by rw [hg16]; exact CZ1.out.size)
                clear hZ hg16
                have CZ2 : Hid (Chg (fun _ => False) wr Z2) := CZ1.out.then hb2
                clear hb2 CZ1
                have hHeld := CZ2.out
                refine wpAnyH_ready (rs := [15]) (by kernel_rfl) (by simp) ?_
                refine AllReadyH.cons (o := { dst := some 61, op := Op.call { callee := Callee.value (Operand.func 41), args := #[Operand.tmp 56, Operand.tmp 60], argTypes := #[23, 3] }, type := 23, pos := "ref.go:38", after := #[{ on := 10, ground := Ground.data }, { on := 14, ground := Ground.data }, { on := 10, ground := Ground.chain }], guard := none }) rfl (fun K hK => ?_) AllReadyH.nil
                go_simp
                refine (rcut_all D0 LD0.out (cwa : Int) Z2).mono ?_
                rintro e Z3 ⟨rfl, hb2⟩
                rw [show S.cut D0 (cwa : Int).toNat = D by rw [ED0.out, ED.out, HCW.out]; rfl]
                replace Rg16 : Hid (Z3.heap[g16]? = some (.cells (S.v8 (S.zeros 32)) 23 (0, 0))) := (hb2.block _ (block_lt_of_row Rg16.out)).trans Rg16.out
                have CZ3 : Hid (Chg (fun _ => False) wr Z3) := CZ2.out.then hb2
                clear hb2 CZ2
                clear hHeld
                refine hK.out _ _ CZ3.out (fun hHeld => ?_)
                clear hK K
                try simp only [Act.put, List.setIfInBounds_toArray, List.set_cons_zero, List.set_cons_succ]
                refine wpAnyH_ready (rs := [17]) (by kernel_rfl) (by simp) ?_
                obtain ⟨Z4, hst, r6, C6, s6⟩ := store_dig Rg16.out (S.zeros_length _) LD.out
                refine step_store_as (o := { dst := none, op := Op.store 23 (Operand.tmp 16) (Operand.tmp 61), type := 0, pos := "ref.go:38", after := #[{ on := 16, ground := Ground.data }, { on := 15, ground := Ground.data }, { on := 15, ground := Ground.chain }, { on := 0, ground := Ground.phase }, { on := 1, ground := Ground.phase }, { on := 2, ground := Ground.phase }, { on := 3, ground := Ground.phase }, { on := 4, ground := Ground.phase }, { on := 5, ground := Ground.phase }, { on := 6, ground := Ground.phase }, { on := 7, ground := Ground.phase }, { on := 8, ground := Ground.phase }, { on := 9, ground := Ground.phase }, { on := 10, ground := Ground.phase }, { on := 11, ground := Ground.phase }, { on := 12, ground := Ground.phase }, { on := 13, ground := Ground.phase }, { on := 14, ground := Ground.phase }, { on := 15, ground := Ground.phase }, { on := 16, ground := Ground.phase }], guard := none }) rfl rfl 23 (.tmp 16) (.tmp 61) rfl _ _ rfl rfl Z4 hst AllReadyH.nil ⟨CZ3.out.trans C6 (fun k hk e => by have := Gg16.out; omega), fun hHeld => ?_⟩
                replace Rg16 : Hid (Z4.heap[g16]? = some (.cells (S.v8 D) 23 (0, 0))) := r6
                have CZ4 : Hid (Chg (fun _ => False) wr Z4) := CZ3.out.trans C6 (fun k hk e => by have := Gg16.out; omega)
                clear hst r6 C6 s6 CZ3
                simp only [Act.put]
                refine wpAnyH_done (by kernel_rfl) ?_ _
                refine NoPanic.normal ?_
                clear hHeld
                have BF := hide (show Below wr.heap.size wr Z4 from (CZ4.out.below _ (Nat.le_refl _) (fun _ _ e => e)))
                go_wp2_with fail
                go_meet
                case rel => exact ⟨g16, rfl, Rg16, BF⟩
              refine step_alloc_as (o := { dst := some 16, op := Op.alloc 23, type := 0, pos := "ref.go:38", after := #[], guard := none }) rfl rfl 23 rfl _ _ (alloc31 Z0) AllReadyH.nil ⟨CZ0.out.alloc _, fun hHeld => ?_⟩
              clear hHeld
              simp only [Act.put, List.setIfInBounds_toArray, List.set_cons_zero, List.set_cons_succ]
              obtain ⟨g16, hg16⟩ : ∃ gg, gg = Z0.heap.size := ⟨_, rfl⟩
              rw [← hg16]
              generalize hZ : Z0.alloc _ = Z1
              have hb2 : Below Z0.heap.size Z0 Z1 := by rw [← hZ]; exact (Below.refl _ _).alloc (Nat.le_refl _) _
              have Rg16 : Hid (Z1.heap[g16]? = some (.cells (S.v8 (S.zeros 32)) 23 (0, 0))) := by rw [← hZ, hg16]; exact heap_alloc_new _ _
              have Gg16 := hide (show wr.heap.size ≤ g16 by rw [hg16]; exact CZ0.out.size)
              clear hZ hg16
              have CZ1 : Hid (Chg (fun _ => False) wr Z1) := CZ0.out.then hb2
              clear hb2 CZ0
              have hHeld := CZ1.out
              refine wpAnyH_ready (rs := [10]) (by kernel_rfl) (by simp) ?_
              refine AllReadyH.cons (o := { dst := some 56, op := Op.call { callee := Callee.value (Operand.func 42), args := #[Operand.tmp 49, Operand.tmp 55], argTypes := #[71, 25] }, type := 23, pos := "ref.go:38", after := #[{ on := 3, ground := Ground.data }, { on := 9, ground := Ground.data }], guard := none }) rfl (fun K hK => ?_) AllReadyH.nil
              go_simp
              refine (rsum_any gT _ t Z1 (HHr.out.below (CZ1.out.below _ (Nat.le_refl _) (fun _ _ e => e)) (Nat.le_refl _)).t (XS.out.below (CZ1.out.below _ (Nat.le_refl _) (fun _ _ e => e)) (Nat.le_refl _)) HTL.out).mono ?_
              rintro e Z2 ⟨rfl, hb2⟩
              obtain ⟨D0, hD0⟩ : ∃ D, D = S.sum t := ⟨_, rfl⟩
              have LD0 := hide (show D0.length = 32 by rw [hD0, S.sum_length])
              rw [← hD0]
              have ED0 := hide hD0
              clear hD0
              replace Rg16 : Hid (Z2.heap[g16]? = some (.cells (S.v8 (S.zeros 32)) 23 (0, 0))) := (hb2.block _ (block_lt_of_row Rg16.out)).trans Rg16.out
              have CZ2 : Hid (Chg (fun _ => False) wr Z2) := CZ1.out.then hb2
              clear hb2 CZ1
              clear hHeld
              refine hK.out _ _ CZ2.out (fun hHeld => ?_)
              clear hK K
              try simp only [Act.put, List.setIfInBounds_toArray, List.set_cons_zero, List.set_cons_succ]
              refine wpAnyH_ready (rs := [15]) (by kernel_rfl) (by simp) ?_
              refine AllReadyH.cons (o := { dst := some 61, op := Op.call { callee := Callee.value (Operand.func 41), args := #[Operand.tmp 56, Operand.tmp 60], argTypes := #[23, 3] }, type := 23, pos := "ref.go:38", after := #[{ on := 10, ground := Ground.data }, { on := 14, ground := Ground.data }, { on := 10, ground := Ground.chain }], guard := none }) rfl (fun K hK => ?_) AllReadyH.nil
              go_simp
              refine (rcut_all D0 LD0.out (cwa : Int) Z2).mono ?_
              rintro e Z3 ⟨rfl, hb2⟩
              rw [show S.cut D0 (cwa : Int).toNat = D by rw [ED0.out, ED.out, HCW.out]; rfl]
              replace Rg16 : Hid (Z3.heap[g16]? = some (.cells (S.v8 (S.zeros 32)) 23 (0, 0))) := (hb2.block _ (block_lt_of_row Rg16.out)).trans Rg16.out
              have CZ3 : Hid (Chg (fun _ => False) wr Z3) := CZ2.out.then hb2
              clear hb2 CZ2
              clear hHeld
              refine hK.out _ _ CZ3.out (fun hHeld => ?_)
              clear hK K
              try simp only [Act.put, List.setIfInBounds_toArray, List.set_cons_zero, List.set_cons_succ]
              refine wpAnyH_ready (rs := [17]) (by kernel_rfl) (by simp) ?_
              obtain ⟨Z4, hst, r6, C6, s6⟩ := store_dig Rg16.out (S.zeros_length _) LD.out
              refine step_store_as (o := { dst := none, op := Op.store 23 (Operand.tmp 16) (Operand.tmp 61), type := 0, pos := "ref.go:38", after := #[{ on := 16, ground := Ground.data }, { on := 15, ground := Ground.data }, { on := 15, ground := Ground.chain }, { on := 0, ground := Ground.phase }, { on := 1, ground := Ground.phase }, { on := 2, ground := Ground.phase }, { on := 3, ground := Ground.phase }, { on := 4, ground := Ground.phase }, { on := 5, ground := Ground.phase }, { on := 6, ground := Ground.phase }, { on := 7, ground := Ground.phase }, { on := 8, ground := Ground.phase }, { on := 9, ground := Ground.phase }, { on := 10, ground := Ground.phase }, { on := 11, ground := Ground.phase }, { on := 12, ground := Ground.phase }, { on := 13, ground := Ground.phase }, { on := 14, ground := Ground.phase }, { on := 15, ground := Ground.phase }, { on := 16, ground := Ground.phase }], guard := none }) rfl rfl 23 (.tmp 16) (.tmp 61) rfl _ _ rfl rfl Z4 hst AllReadyH.nil ⟨CZ3.out.trans C6 (fun k hk e => by have := Gg16.out; omega), fun hHeld => ?_⟩
              replace Rg16 : Hid (Z4.heap[g16]? = some (.cells (S.v8 D) 23 (0, 0))) := r6
              have CZ4 : Hid (Chg (fun _ => False) wr Z4) := CZ3.out.trans C6 (fun k hk e => by have := Gg16.out; omega)
              clear hst r6 C6 s6 CZ3
              simp only [Act.put]
              refine wpAnyH_done (by kernel_rfl) ?_ _
              refine NoPanic.normal ?_
              clear hHeld
              have BF := hide (show Below wr.heap.size wr Z4 from (CZ4.out.below _ (Nat.le_refl _) (fun _ _ e => e)))
              go_wp2_with fail
              go_meet
              case rel => exact ⟨g16, rfl, Rg16, BF⟩
            obtain ⟨g16, rfl, R16, BWC⟩ := hcut
            have HTC := hide (HTX.out.below BWC.out)
            have HBC := hide (HB.out.trans (BWC.out.mono HB.out.size))
            have HHc : Hid (HsAt wc gh gT a) := HHr.out.below BWC.out (Nat.le_refl _)
            clear HTX HB HHr BWC CX XS e1
            go_upto_region 14 with fail
            go_cut [17] from 28 to 93 (fun p17 wd => ∃ g17, p17 = .pointer (some ⟨g17, 0, none⟩) ∧ Hid (wd.heap[g17]? = some (.cells (S.v8 E) 23 (0, 0))) ∧ Hid (wd.heap[g16]? = some (.cells (S.v8 D) 23 (0, 0))) ∧ Hid (Below wc.heap.size wc wd))
            case first =>
              refine wp_region_noPanic ?_
              refine wp_region_held_drew (S := (fun W => Chg (fun _ => False) wc W)) follows ((Chg.refl _ _).drew) (fun hHeld => ?_)
              clear hHeld
              have hHeld : Chg (fun _ => False) wc wc.drew := (Chg.refl _ _).drew
              have CZ0 := hide hHeld
              have R16' : Hid (wc.drew.heap[g16]? = some (.cells (S.v8 D) 23 (0, 0))) := R16.out
              generalize wc.drew = Z0 at CZ0 hHeld R16' ⊢
              refine wpAnyH_take (i := 0) (oi := { dst := some 62, op := Op.move (Operand.tmp 4), type := 32, pos := "ref.go:39", after := #[], guard := none }) (v := ?_) rfl (by kernel_rfl) (by kernel_rfl) (by kernel_rfl) (fun _ _ _ h => h) (Or.inl ⟨by rfl, ?_⟩) (by assumption) ?_
              rotate_left
              · intro w hSw
                clear hSw
                go_simp
                all_goals with_reducible rfl
              simp only [Act.put, List.setIfInBounds_toArray, List.set_cons_zero, List.set_cons_succ]
              refine wpAnyH_take (i := 1) (oi := { dst := some 63, op := Op.move (Operand.tmp 15), type := 3, pos := "ref.go:39", after := #[], guard := none }) (v := ?_) rfl (by kernel_rfl) (by kernel_rfl) (by kernel_rfl) (fun _ _ _ h => h) (Or.inl ⟨by rfl, ?_⟩) (by assumption) ?_
              rotate_left
              · intro w hSw
                clear hSw
                go_simp
                all_goals with_reducible rfl
              simp only [Act.put, List.setIfInBounds_toArray, List.set_cons_zero, List.set_cons_succ]
              refine wpAnyH_take (i := 2) (oi := { dst := some 64, op := Op.indexAddr 32 (Operand.tmp 62) (Operand.tmp 63), type := 0, pos := "ref.go:39", after := #[{ on := 0, ground := Ground.data }, { on := 1, ground := Ground.data }], guard := none }) (v := ?_) rfl (by kernel_rfl) (by kernel_rfl) (by kernel_rfl) (fun _ _ _ h => h) (Or.inl ⟨by rfl, ?_⟩) (by assumption) ?_
              rotate_left
              · intro w hSw
                clear hSw
                go_simp
                all_goals with_reducible rfl
              simp only [Act.put, List.setIfInBounds_toArray, List.set_cons_zero, List.set_cons_succ]
              refine wpAnyH_take (i := 3) (oi := { dst := some 65, op := Op.load 23 (Operand.tmp 64), type := 23, pos := "ref.go:39", after := #[{ on := 2, ground := Ground.data }], guard := none }) (v := .agg (S.v8l p).toArray) rfl (by kernel_rfl) (by kernel_rfl) (by kernel_rfl) (fun _ _ _ h => h) (yieldsIf_load_mid (by rfl) _ _ rfl gu (ou + k * 32) rfl (S.v8l p) _ (fun _ hSw => HRU.out _ (HBC.out.trans (hSw.below _ HBC.out.size (fun _ _ e => e)))) Tryd.underlying23 rfl hsz) (by assumption) ?_
              simp only [Act.put, List.setIfInBounds_toArray, List.set_cons_zero, List.set_cons_succ]
              refine wpAnyH_take (i := 4) (oi := { dst := some 66, op := Op.move (Operand.tmp 0), type := 33, pos := "ref.go:39", after := #[], guard := none }) (v := ?_) rfl (by kernel_rfl) (by kernel_rfl) (by kernel_rfl) (fun _ _ _ h => h) (Or.inl ⟨by rfl, ?_⟩) (by assumption) ?_
              rotate_left
              · intro w hSw
                clear hSw
                go_simp
                all_goals with_reducible rfl
              simp only [Act.put, List.setIfInBounds_toArray, List.set_cons_zero, List.set_cons_succ]
              refine wpAnyH_take (i := 5) (oi := { dst := some 67, op := Op.nilCheck (Operand.tmp 66), type := 0, pos := "ref.go:39", after := #[{ on := 4, ground := Ground.data }], guard := none }) (v := ?_) rfl (by kernel_rfl) (by kernel_rfl) (by kernel_rfl) (fun _ _ _ h => h) (Or.inl ⟨by rfl, ?_⟩) (by assumption) ?_
              rotate_left
              · intro w hSw
                clear hSw
                go_simp
                all_goals with_reducible rfl
              simp only [Act.put, List.setIfInBounds_toArray, List.set_cons_zero, List.set_cons_succ]
              refine wpAnyH_take (i := 6) (oi := { dst := some 68, op := Op.fieldAddr 76 (Operand.tmp 67) 1, type := 0, pos := "ref.go:39", after := #[{ on := 5, ground := Ground.data }], guard := none }) (v := ?_) rfl (by kernel_rfl) (by kernel_rfl) (by kernel_rfl) (fun _ _ _ h => h) (Or.inl ⟨by rfl, ?_⟩) (by assumption) ?_
              rotate_left
              · intro w hSw
                clear hSw
                go_simp
                all_goals with_reducible rfl
              simp only [Act.put, List.setIfInBounds_toArray, List.set_cons_zero, List.set_cons_succ]
              refine wpAnyH_take (i := 7) (oi := { dst := some 69, op := Op.load 3 (Operand.tmp 68), type := 3, pos := "ref.go:39", after := #[{ on := 6, ground := Ground.data }], guard := none }) (v := ?_) rfl (by kernel_rfl) (by kernel_rfl) (by kernel_rfl) (fun _ _ _ h => h) (Or.inl ⟨by rfl, ?_⟩) (by assumption) ?_
              rotate_left
              · intro w hSw
                have c4 : w.cell? ⟨gh, 1, none⟩ = some (.int .i64 (cwa : Int)) := by rw [HCW.out]; exact (cells2 (HHc.out.below (hSw.below _ (Nat.le_refl _) (fun _ _ e => e)) (Nat.le_refl _)).h).2
                clear hSw
                go_simp
                all_goals with_reducible rfl
              simp only [Act.put, List.setIfInBounds_toArray, List.set_cons_zero, List.set_cons_succ]
              refine wpAnyH_ready (rs := [8, 9]) (by kernel_rfl) (by simp) ?_
              refine AllReadyH.cons (o := { dst := some 70, op := Op.call { callee := Callee.value (Operand.func 41), args := #[Operand.tmp 65, Operand.tmp 69], argTypes := #[23, 3] }, type := 23, pos := "ref.go:39", after := #[{ on := 3, ground := Ground.data }, { on := 7, ground := Ground.data }], guard := none }) rfl (fun K hK => ?_) ?_
              · skip
                go_simp
                refine (rcut_all p LP.out (cwa : Int) Z0).mono ?_
                rintro e Z1 ⟨rfl, hb2⟩
                rw [show S.cut p (cwa : Int).toNat = E by rw [EE.out]; rfl]
                replace R16' : Hid (Z1.heap[g16]? = some (.cells (S.v8 D) 23 (0, 0))) := (hb2.block _ (block_lt_of_row R16'.out)).trans R16'.out
                have CZ1 : Hid (Chg (fun _ => False) wc Z1) := CZ0.out.then hb2
                clear hb2 CZ0
                clear hHeld
                refine hK.out _ _ CZ1.out (fun hHeld => ?_)
                clear hK K
                try simp only [Act.put, List.setIfInBounds_toArray, List.set_cons_zero, List.set_cons_succ]
                refine wpAnyH_ready (rs := [9]) (by kernel_rfl) (by simp) ?_
                refine step_alloc_as (o := { dst := some 17, op := Op.alloc 23, type := 0, pos := "ref.go:39", after := #[], guard := none }) rfl rfl 23 rfl _ _ (alloc31 Z1) AllReadyH.nil ⟨CZ1.out.alloc _, fun hHeld => ?_⟩
                clear hHeld
                simp only [Act.put, List.setIfInBounds_toArray, List.set_cons_zero, List.set_cons_succ]
                obtain ⟨g17, hg17⟩ : ∃ gg, gg = Z1.heap.size := ⟨_, rfl⟩
                rw [← hg17]
                generalize hZ : Z1.alloc _ = Z2
                have hb2 : Below Z1.heap.size Z1 Z2 := by rw [← hZ]; exact (Below.refl _ _).alloc (Nat.le_refl _) _
                have Rg17 : Hid (Z2.heap[g17]? = some (.cells (S.v8 (S.zeros 32)) 23 (0, 0))) := by rw [← hZ, hg17]; exact heap_alloc_new _ _
                have Gg17 := hide (show wc.heap.size ≤ g17 by rw [hg17]; exact CZ1.out.size)
                clear hZ hg17
                replace R16' : Hid (Z2.heap[g16]? = some (.cells (S.v8 D) 23 (0, 0))) := (hb2.block _ (block_lt_of_row R16'.out)).trans R16'.out
                have CZ2 : Hid (Chg (fun _ => False) wc Z2) := CZ1.out.then hb2
                clear hb2 CZ1
                have hHeld := CZ2.out
                refine wpAnyH_ready (rs := [10]) (by kernel_rfl) (by simp) ?_
                obtain ⟨Z3, hst, r6, C6, s6⟩ := store_dig Rg17.out (S.zeros_length _) LE.out
                refine step_store_as (o := { dst := none, op := Op.store 23 (Operand.tmp 17) (Operand.tmp 70), type := 0, pos := "ref.go:39", after := #[{ on := 9, ground := Ground.data }, { on := 8, ground := Ground.data }, { on := 8, ground := Ground.chain }, { on := 0, ground := Ground.phase }, { on := 1, ground := Ground.phase }, { on := 2, ground := Ground.phase }, { on := 3, ground := Ground.phase }, { on := 4, ground := Ground.phase }, { on := 5, ground := Ground.phase }, { on := 6, ground := Ground.phase }, { on := 7, ground := Ground.phase }, { on := 8, ground := Ground.phase }, { on := 9, ground := Ground.phase }], guard := none }) rfl rfl 23 (.tmp 17) (.tmp 70) rfl _ _ rfl rfl Z3 hst AllReadyH.nil ⟨CZ2.out.trans C6 (fun k hk e => by have := Gg17.out; omega), fun hHeld => ?_⟩
                replace R16' : Hid (Z3.heap[g16]? = some (.cells (S.v8 D) 23 (0, 0))) := C6.row R16'.out (by have := Gg17.out; have := block_lt_of_row R16.out; omega)
                replace Rg17 : Hid (Z3.heap[g17]? = some (.cells (S.v8 E) 23 (0, 0))) := r6
                have CZ3 : Hid (Chg (fun _ => False) wc Z3) := CZ2.out.trans C6 (fun k hk e => by have := Gg17.out; omega)
                clear hst r6 C6 s6 CZ2
                simp only [Act.put]
                refine wpAnyH_done (by kernel_rfl) ?_ _
                refine NoPanic.normal ?_
                clear hHeld
                have BF := hide (show Below wc.heap.size wc Z3 from (CZ3.out.below _ (Nat.le_refl _) (fun _ _ e => e)))
                go_wp2_with fail
                go_meet
                case rel => exact ⟨g17, rfl, Rg17, R16', BF⟩
              refine step_alloc_as (o := { dst := some 17, op := Op.alloc 23, type := 0, pos := "ref.go:39", after := #[], guard := none }) rfl rfl 23 rfl _ _ (alloc31 Z0) AllReadyH.nil ⟨CZ0.out.alloc _, fun hHeld => ?_⟩
              clear hHeld
              simp only [Act.put, List.setIfInBounds_toArray, List.set_cons_zero, List.set_cons_succ]
              obtain ⟨g17, hg17⟩ : ∃ gg, gg = Z0.heap.size := ⟨_, rfl⟩
              rw [← hg17]
              generalize hZ : Z0.alloc _ = Z1
              have hb2 : Below Z0.heap.size Z0 Z1 := by rw [← hZ]; exact (Below.refl _ _).alloc (Nat.le_refl _) _
              have Rg17 : Hid (Z1.heap[g17]? = some (.cells (S.v8 (S.zeros 32)) 23 (0, 0))) := by rw [← hZ, hg17]; exact heap_alloc_new _ _
              have Gg17 := hide (show wc.heap.size ≤ g17 by rw [hg17]; exact CZ0.out.size)
              clear hZ hg17
              replace R16' : Hid (Z1.heap[g16]? = some (.cells (S.v8 D) 23 (0, 0))) := (hb2.block _ (block_lt_of_row R16'.out)).trans R16'.out
              have CZ1 : Hid (Chg (fun _ => False) wc Z1) := CZ0.out.then hb2
              clear hb2 CZ0
              have hHeld := CZ1.out
              refine wpAnyH_ready (rs := [8]) (by kernel_rfl) (by simp) ?_
              refine AllReadyH.cons (o := { dst := some 70, op := Op.call { callee := Callee.value (Operand.func 41), args := #[Operand.tmp 65, Operand.tmp 69], argTypes := #[23, 3] }, type := 23, pos := "ref.go:39", after := #[{ on := 3, ground := Ground.data }, { on := 7, ground := Ground.data }], guard := none }) rfl (fun K hK => ?_) AllReadyH.nil
              go_simp
              refine (rcut_all p LP.out (cwa : Int) Z1).mono ?_
              rintro e Z2 ⟨rfl, hb2⟩
              rw [show S.cut p (cwa : Int).toNat = E by rw [EE.out]; rfl]
              replace R16' : Hid (Z2.heap[g16]? = some (.cells (S.v8 D) 23 (0, 0))) := (hb2.block _ (block_lt_of_row R16'.out)).trans R16'.out
              replace Rg17 : Hid (Z2.heap[g17]? = some (.cells (S.v8 (S.zeros 32)) 23 (0, 0))) := (hb2.block _ (block_lt_of_row Rg17.out)).trans Rg17.out
              have CZ2 : Hid (Chg (fun _ => False) wc Z2) := CZ1.out.then hb2
              clear hb2 CZ1
              clear hHeld
              refine hK.out _ _ CZ2.out (fun hHeld => ?_)
              clear hK K
              try simp only [Act.put, List.setIfInBounds_toArray, List.set_cons_zero, List.set_cons_succ]
              refine wpAnyH_ready (rs := [10]) (by kernel_rfl) (by simp) ?_
              obtain ⟨Z3, hst, r6, C6, s6⟩ := store_dig Rg17.out (S.zeros_length _) LE.out
              refine step_store_as (o := { dst := none, op := Op.store 23 (Operand.tmp 17) (Operand.tmp 70), type := 0, pos := "ref.go:39", after := #[{ on := 9, ground := Ground.data }, { on := 8, ground := Ground.data }, { on := 8, ground := Ground.chain }, { on := 0, ground := Ground.phase }, { on := 1, ground := Ground.phase }, { on := 2, ground := Ground.phase }, { on := 3, ground := Ground.phase }, { on := 4, ground := Ground.phase }, { on := 5, ground := Ground.phase }, { on := 6, ground := Ground.phase }, { on := 7, ground := Ground.phase }, { on := 8, ground := Ground.phase }, { on := 9, ground := Ground.phase }], guard := none }) rfl rfl 23 (.tmp 17) (.tmp 70) rfl _ _ rfl rfl Z3 hst AllReadyH.nil ⟨CZ2.out.trans C6 (fun k hk e => by have := Gg17.out; omega), fun hHeld => ?_⟩
              replace R16' : Hid (Z3.heap[g16]? = some (.cells (S.v8 D) 23 (0, 0))) := C6.row R16'.out (by have := Gg17.out; have := block_lt_of_row R16.out; omega)
              replace Rg17 : Hid (Z3.heap[g17]? = some (.cells (S.v8 E) 23 (0, 0))) := r6
              have CZ3 : Hid (Chg (fun _ => False) wc Z3) := CZ2.out.trans C6 (fun k hk e => by have := Gg17.out; omega)
              clear hst r6 C6 s6 CZ2
              simp only [Act.put]
              refine wpAnyH_done (by kernel_rfl) ?_ _
              refine NoPanic.normal ?_
              clear hHeld
              have BF := hide (show Below wc.heap.size wc Z3 from (CZ3.out.below _ (Nat.le_refl _) (fun _ _ e => e)))
              go_wp2_with fail
              go_meet
              case rel => exact ⟨g17, rfl, Rg17, R16', BF⟩
            obtain ⟨g17, rfl, R17, R16b, BWD⟩ := hcut
            have HTD := hide (HTC.out.below BWD.out)
            have HBD := hide (HBC.out.trans (BWD.out.mono HBC.out.size))
            have HHd : Hid (HsAt wc gh gT a) := HHc.out.below BWD.out (Nat.le_refl _)
            have hl1 := load_dig R17.out LE.out
            have hl2 := load_dig R16b.out LD.out
            clear HTC HBC HHc BWD R16
            go_wp2_with (first | (with_reducible refine at_op { dst := some 78, op := Op.load 23 (Operand.tmp 17), type := 23, pos := "ref.go:42", after := #[], guard := none } ?_; refine wpList_load_as rfl 23 (.tmp 17) rfl (.pointer (some ⟨g17, 0, none⟩)) rfl (.agg (S.v8 E)) hl1 ?_) | (with_reducible refine at_op { dst := some 79, op := Op.load 23 (Operand.tmp 16), type := 23, pos := "ref.go:42", after := #[], guard := none } ?_; refine wpList_load_as rfl 23 (.tmp 16) rfl (.pointer (some ⟨g16, 0, none⟩)) rfl (.agg (S.v8 D)) hl2 ?_))
            clear hl1 hl2
            refine (nodeText_own gh gT a E D LE.out LD.out wc HHd.out).mono ?_
            rintro e w5 ⟨v5, rfl, s5, b5⟩
            obtain ⟨gy, yc, ey⟩ := s5.2
            obtain ⟨yn, hyn⟩ : ∃ n, n = (1 :: (List.take (S.cw a) E ++ List.take (S.cw a) D)).length := ⟨_, rfl⟩
            rw [← hyn] at ey
            subst ey
            clear hyn
            have htx : (1 :: (List.take (S.cw a) E ++ List.take (S.cw a) D)) = S.txt a E D := rfl
            rw [htx] at s5
            obtain ⟨X5, hX5⟩ : ∃ YQ, YQ = w5.alloc (.cells #[.slice (some ⟨gy, 0, none⟩) yn yc] 25) := ⟨_, rfl⟩
            have bX5 : Below w5.heap.size w5 X5 := by rw [hX5]; exact (Below.refl _ _).alloc (Nat.le_refl _) _
            have rX5 : X5.heap[w5.heap.size]? = some (.cells #[.slice (some ⟨gy, 0, none⟩) yn yc] 25 (0, 0)) := by rw [hX5]; exact heap_alloc_new _ _
            have hbs := bs41one w5 (some ⟨gy, 0, none⟩) yn yc
            rw [← hX5] at hbs
            have bdX : Below wc.heap.size wc X5 := b5.trans (bX5.mono b5.size)
            have hlt0 : ∀ k', (Value.slice (some ⟨bl, offl, none⟩) m vc).ownBlock = some k' → k' < wc.heap.size := fun k' hk' => by
              obtain ⟨vs, h1, _⟩ := HTD.out.ls
              exact h1.lt hk'
            have hsx : ∀ W, Chg (fun k => (Value.slice (some ⟨bl, offl, none⟩) m vc).ownBlock = some k) X5 W → SliceAt W (.slice (some ⟨gy, 0, none⟩) yn yc) (S.txt a E D) := fun W hW => (Own.chg (p := fun k => (Value.slice (some ⟨bl, offl, none⟩) m vc).ownBlock = some k) s5 ((Chg.ofBelow' bX5).trans hW (fun _ _ e => e)) (fun k hk e => by have := hlt0 k e; omega)).sliceAt (by have := S.txt_length a E D; omega)
            have KEY := hide (run_append_tx X5 w.heap.size w5.heap.size (.slice (some ⟨bl, offl, none⟩) m vc) (some ⟨gy, 0, none⟩) yn yc (ts ++ [t]) (S.txt a E D) 41 (HTD.out.below bdX) rX5 hsx (by rw [← HM.out, HM2.out]; omega) (Nat.le_trans HBD.out.size bdX.size))
            have BX := hide (HBD.out.trans (bdX.mono HBD.out.size))
            obtain ⟨g5, hg5⟩ : ∃ g, g = w5.heap.size := ⟨_, rfl⟩
            rw [← hg5] at KEY hbs
            clear hX5 bX5 rX5 bdX hlt0 hsx hg5 b5 s5 htx
            go_wp2_with (first | (with_reducible refine at_op { dst := some 81, op := Op.buildSlice 41 1 #[(0, Operand.tmp 80)], type := 41, pos := "ref.go:42", after := #[{ on := 4, ground := Ground.data }], guard := none } ?_; refine wpList_buildSlice_as rfl 41 1 [(0, .tmp 80)] rfl [(0, .slice (some ⟨gy, 0, none⟩) yn yc)] rfl _ _ hbs ?_) | (at_builtin; (refine wpList_append_known rfl (.tmp 76) (.tmp 81) 41 41 rfl _ _ rfl rfl KEY.out ?_; rintro v6 w6 ⟨hR6, hB6⟩; have R6 := hide hR6; have B6 := hide (BX.out.trans hB6); clear hR6 hB6)))
            go_roundg (s / 2)
            case measure => omega
            case rel => exact ⟨k + 1, f / 2, s / 2, ts ++ [t], _, rfl, by omega, by first | rfl | simp, rfl, rfl, by omega, by omega, HUPN, R6, by simp [HTS.out], by have := S.txt_length a E D; omega, B6⟩
          · have q5 : (f : Int) % 2 = 0 := by omega
            have q6 : ((f : Int) == (s : Int)) = false := by simp; omega
            have HUPN := hide (HUP.out.even hs0 ho hfs)
            clear GATE2 HUP
            rw [show S.txt a (S.hsh a t) p = S.txt a D E by rw [EE.out, HCW.out, ED.out, S.txt_cut_r]] at HUPN
            go_upto_region 13 with fail
            go_cut [16] from 28 to 93 (fun p16 wc => ∃ g16, p16 = .pointer (some ⟨g16, 0, none⟩) ∧ Hid (wc.heap[g16]? = some (.cells (S.v8 D) 23 (0, 0))) ∧ Hid (Below wr.heap.size wr wc))
            case first =>
              refine wp_region_noPanic ?_
              refine wp_region_held_drew (S := (fun W => Chg (fun _ => False) wr W)) follows ((Chg.refl _ _).drew) (fun hHeld => ?_)
              clear hHeld
              have hHeld : Chg (fun _ => False) wr wr.drew := (Chg.refl _ _).drew
              have CZ0 := hide hHeld
              generalize wr.drew = Z0 at CZ0 hHeld ⊢
              refine wpAnyH_take (i := 0) (oi := { dst := some 46, op := Op.move (Operand.tmp 0), type := 33, pos := "ref.go:38", after := #[], guard := none }) (v := ?_) rfl (by kernel_rfl) (by kernel_rfl) (by kernel_rfl) (fun _ _ _ h => h) (Or.inl ⟨by rfl, ?_⟩) (by assumption) ?_
              rotate_left
              · intro w hSw
                clear hSw
                go_simp
                all_goals with_reducible rfl
              simp only [Act.put, List.setIfInBounds_toArray, List.set_cons_zero, List.set_cons_succ]
              refine wpAnyH_take (i := 1) (oi := { dst := some 47, op := Op.nilCheck (Operand.tmp 46), type := 0, pos := "ref.go:38", after := #[{ on := 0, ground := Ground.data }], guard := none }) (v := ?_) rfl (by kernel_rfl) (by kernel_rfl) (by kernel_rfl) (fun _ _ _ h => h) (Or.inl ⟨by rfl, ?_⟩) (by assumption) ?_
              rotate_left
              · intro w hSw
                clear hSw
                go_simp
                all_goals with_reducible rfl
              simp only [Act.put, List.setIfInBounds_toArray, List.set_cons_zero, List.set_cons_succ]
              refine wpAnyH_take (i := 2) (oi := { dst := some 48, op := Op.fieldAddr 76 (Operand.tmp 47) 0, type := 0, pos := "ref.go:38", after := #[{ on := 1, ground := Ground.data }], guard := none }) (v := ?_) rfl (by kernel_rfl) (by kernel_rfl) (by kernel_rfl) (fun _ _ _ h => h) (Or.inl ⟨by rfl, ?_⟩) (by assumption) ?_
              rotate_left
              · intro w hSw
                clear hSw
                go_simp
                all_goals with_reducible rfl
              simp only [Act.put, List.setIfInBounds_toArray, List.set_cons_zero, List.set_cons_succ]
              refine wpAnyH_take (i := 3) (oi := { dst := some 49, op := Op.load 71 (Operand.tmp 48), type := 71, pos := "ref.go:38", after := #[{ on := 2, ground := Ground.data }], guard := none }) (v := ?_) rfl (by kernel_rfl) (by kernel_rfl) (by kernel_rfl) (fun _ _ _ h => h) (Or.inl ⟨by rfl, ?_⟩) (by assumption) ?_
              rotate_left
              · intro w hSw
                have c4 := (cells2 (HHr.out.below (hSw.below _ (Nat.le_refl _) (fun _ _ e => e)) (Nat.le_refl _)).h).1
                clear hSw
                go_simp
                all_goals with_reducible rfl
              simp only [Act.put, List.setIfInBounds_toArray, List.set_cons_zero, List.set_cons_succ]
              refine wpAnyH_take (i := 4) (oi := { dst := some 50, op := Op.move (Operand.tmp 12), type := 41, pos := "ref.go:38", after := #[], guard := none }) (v := ?_) rfl (by kernel_rfl) (by kernel_rfl) (by kernel_rfl) (fun _ _ _ h => h) (Or.inl ⟨by rfl, ?_⟩) (by assumption) ?_
              rotate_left
              · intro w hSw
                clear hSw
                go_simp
                all_goals with_reducible rfl
              simp only [Act.put, List.setIfInBounds_toArray, List.set_cons_zero, List.set_cons_succ]
              refine wpAnyH_take (i := 5) (oi := { dst := some 51, op := Op.move (Operand.tmp 12), type := 41, pos := "ref.go:38", after := #[], guard := none }) (v := ?_) rfl (by kernel_rfl) (by kernel_rfl) (by kernel_rfl) (fun _ _ _ h => h) (Or.inl ⟨by rfl, ?_⟩) (by assumption) ?_
              rotate_left
              · intro w hSw
                clear hSw
                go_simp
                all_goals with_reducible rfl
              simp only [Act.put, List.setIfInBounds_toArray, List.set_cons_zero, List.set_cons_succ]
              refine wpAnyH_take (i := 6) (oi := { dst := some 52, op := Op.call { callee := Callee.builtin Builtin.len, args := #[Operand.tmp 51], argTypes := #[41] }, type := 3, pos := "ref.go:38", after := #[{ on := 5, ground := Ground.data }], guard := none }) (v := ?_) rfl (by kernel_rfl) (by kernel_rfl) (by kernel_rfl) (fun _ _ _ h => h) (Or.inl ⟨by rfl, ?_⟩) (by assumption) ?_
              rotate_left
              · intro w hSw
                clear hSw
                go_simp
                all_goals with_reducible rfl
              simp only [Act.put, List.setIfInBounds_toArray, List.set_cons_zero, List.set_cons_succ]
              refine wpAnyH_take (i := 7) (oi := { dst := some 53, op := Op.binOp BinOp.sub 3 (Operand.tmp 52) (Operand.const (Value.int IntKind.i64 1)) 3, type := 3, pos := "ref.go:38", after := #[{ on := 6, ground := Ground.data }], guard := none }) (v := ?_) rfl (by kernel_rfl) (by kernel_rfl) (by kernel_rfl) (fun _ _ _ h => h) (Or.inl ⟨by rfl, ?_⟩) (by assumption) ?_
              rotate_left
              · intro w hSw
                clear hSw
                go_simp
                all_goals with_reducible rfl
              simp only [Act.put, List.setIfInBounds_toArray, List.set_cons_zero, List.set_cons_succ]
              refine wpAnyH_take (i := 8) (oi := { dst := some 54, op := Op.indexAddr 41 (Operand.tmp 50) (Operand.tmp 53), type := 0, pos := "ref.go:38", after := #[{ on := 4, ground := Ground.data }, { on := 7, ground := Ground.data }], guard := none }) (v := ?_) rfl (by kernel_rfl) (by kernel_rfl) (by kernel_rfl) (fun _ _ _ h => h) (Or.inl ⟨by rfl, ?_⟩) (by assumption) ?_
              rotate_left
              · intro w hSw
                clear hSw
                go_simp
                all_goals with_reducible rfl
              simp only [Act.put, List.setIfInBounds_toArray, List.set_cons_zero, List.set_cons_succ]
              refine wpAnyH_take (i := 9) (oi := { dst := some 55, op := Op.load 25 (Operand.tmp 54), type := 25, pos := "ref.go:38", after := #[{ on := 8, ground := Ground.data }], guard := none }) (v := ?_) rfl (by kernel_rfl) (by kernel_rfl) (by kernel_rfl) (fun _ _ _ h => h) (Or.inl ⟨by rfl, ?_⟩) (by assumption) ?_
              rotate_left
              · intro w hSw
                have c4 := ((hSw.below _ (Nat.le_refl _) (fun _ _ e => e)).cell (p := ⟨bl, offl + k, none⟩) HBLT.out).trans CX.out
                clear hSw
                go_simp
                all_goals with_reducible rfl
              simp only [Act.put, List.setIfInBounds_toArray, List.set_cons_zero, List.set_cons_succ]
              refine wpAnyH_take (i := 11) (oi := { dst := some 57, op := Op.move (Operand.tmp 0), type := 33, pos := "ref.go:38", after := #[], guard := none }) (v := ?_) rfl (by kernel_rfl) (by kernel_rfl) (by kernel_rfl) (fun _ _ _ h => h) (Or.inl ⟨by rfl, ?_⟩) (by assumption) ?_
              rotate_left
              · intro w hSw
                clear hSw
                go_simp
                all_goals with_reducible rfl
              simp only [Act.put, List.setIfInBounds_toArray, List.set_cons_zero, List.set_cons_succ]
              refine wpAnyH_take (i := 12) (oi := { dst := some 58, op := Op.nilCheck (Operand.tmp 57), type := 0, pos := "ref.go:38", after := #[{ on := 11, ground := Ground.data }], guard := none }) (v := ?_) rfl (by kernel_rfl) (by kernel_rfl) (by kernel_rfl) (fun _ _ _ h => h) (Or.inl ⟨by rfl, ?_⟩) (by assumption) ?_
              rotate_left
              · intro w hSw
                clear hSw
                go_simp
                all_goals with_reducible rfl
              simp only [Act.put, List.setIfInBounds_toArray, List.set_cons_zero, List.set_cons_succ]
              refine wpAnyH_take (i := 13) (oi := { dst := some 59, op := Op.fieldAddr 76 (Operand.tmp 58) 1, type := 0, pos := "ref.go:38", after := #[{ on := 12, ground := Ground.data }], guard := none }) (v := ?_) rfl (by kernel_rfl) (by kernel_rfl) (by kernel_rfl) (fun _ _ _ h => h) (Or.inl ⟨by rfl, ?_⟩) (by assumption) ?_
              rotate_left
              · intro w hSw
                clear hSw
                go_simp
                all_goals with_reducible rfl
              simp only [Act.put, List.setIfInBounds_toArray, List.set_cons_zero, List.set_cons_succ]
              refine wpAnyH_take (i := 14) (oi := { dst := some 60, op := Op.load 3 (Operand.tmp 59), type := 3, pos := "ref.go:38", after := #[{ on := 13, ground := Ground.data }], guard := none }) (v := ?_) rfl (by kernel_rfl) (by kernel_rfl) (by kernel_rfl) (fun _ _ _ h => h) (Or.inl ⟨by rfl, ?_⟩) (by assumption) ?_
              rotate_left
              · intro w hSw
                have c4 : w.cell? ⟨gh, 1, none⟩ = some (.int .i64 (cwa : Int)) := by rw [HCW.out]; exact (cells2 (HHr.out.below (hSw.below _ (Nat.le_refl _) (fun _ _ e => e)) (Nat.le_refl _)).h).2
                clear hSw
                go_simp
                all_goals with_reducible rfl
              simp only [Act.put, List.setIfInBounds_toArray, List.set_cons_zero, List.set_cons_succ]
              refine wpAnyH_ready (rs := [10, 16]) (by kernel_rfl) (by simp) ?_
              refine AllReadyH.cons (o := { dst := some 56, op := Op.call { callee := Callee.value (Operand.func 42), args := #[Operand.tmp 49, Operand.tmp 55], argTypes := #[71, 25] }, type := 23, pos := "ref.go:38", after := #[{ on := 3, ground := Ground.data }, { on := 9, ground := Ground.data }], guard := none }) rfl (fun K hK => ?_) ?_
              · skip
                go_simp
                refine (rsum_any gT _ t Z0 (HHr.out.below (CZ0.out.below _ (Nat.le_refl _) (fun _ _ e => e)) (Nat.le_refl _)).t (XS.out.below (CZ0.out.below _ (Nat.le_refl _) (fun _ _ e => e)) (Nat.le_refl _)) HTL.out).mono ?_
                rintro e Z1 ⟨rfl, hb2⟩
                obtain ⟨D0, hD0⟩ : ∃ D, D = S.sum t := ⟨_, rfl⟩
                have LD0 := hide (show D0.length = 32 by rw [hD0, S.sum_length])
                rw [← hD0]
                have ED0 := hide hD0
                clear hD0
                have CZ1 : Hid (Chg (fun _ => False) wr Z1) := CZ0.out.then hb2
                clear hb2 CZ0
                clear hHeld
                refine hK.out _ _ CZ1.out (fun hHeld => ?_)
                clear hK K
                try simp only [Act.put, List.setIfInBounds_toArray, List.set_cons_zero, List.set_cons_succ]
                refine wpAnyH_ready (rs := [15, 16]) (by kernel_rfl) (by simp) ?_
                refine AllReadyH.cons (o := { dst := some 61, op := Op.call { callee := Callee.value (Operand.func 41), args := #[Operand.tmp 56, Operand.tmp 60], argTypes := #[23, 3] }, type := 23, pos := "ref.go:38", after := #[{ on := 10, ground := Ground.data }, { on := 14, ground := Ground.data }, { on := 10, ground := Ground.chain }], guard := none }) rfl (fun K hK => ?_) ?_
                · skip
                  go_simp
                  refine (rcut_all D0 LD0.out (cwa : Int) Z1).mono ?_
                  rintro e Z2 ⟨rfl, hb2⟩
                  rw [show S.cut D0 (cwa : Int).toNat = D by rw [ED0.out, ED.out, HCW.out]; rfl]
                  have CZ2 : Hid (Chg (fun _ => False) wr Z2) := CZ1.out.then hb2
                  clear hb2 CZ1
                  clear hHeld
                  refine hK.out _ _ CZ2.out (fun hHeld => ?_)
                  clear hK K
                  try simp only [Act.put, List.setIfInBounds_toArray, List.set_cons_zero, List.set_cons_succ]
                  refine wpAnyH_ready (rs := [16]) (by kernel_rfl) (by simp) ?_
                  refine step_alloc_as (o := { dst := some 16, op := Op.alloc 23, type := 0, pos := "ref.go:38", after := #[], guard := none }) rfl rfl 23 rfl _ _ (alloc31 Z2) AllReadyH.nil ⟨CZ2.out.alloc _, fun hHeld => ?_⟩
                  clear hHeld
                  simp only [Act.put, List.setIfInBounds_toArray, List.set_cons_zero, List.set_cons_succ]
                  obtain ⟨g16, hg16⟩ : ∃ gg, gg = Z2.heap.size := ⟨_, rfl⟩
                  rw [← hg16]
                  generalize hZ : Z2.alloc _ = Z3
                  have hb2 : Below Z2.heap.size Z2 Z3 := by rw [← hZ]; exact (Below.refl _ _).alloc (Nat.le_refl _) _
                  have Rg16 : Hid (Z3.heap[g16]? = some (.cells (S.v8 (S.zeros 32)) 23 (0, 0))) := by rw [← hZ, hg16]; exact heap_alloc_new _ _
                  have Gg16 := hide (show wr.heap.size ≤ g16 by rw [hg16]; exact CZ2.out.size)
                  clear hZ hg16
                  have CZ3 : Hid (Chg (fun _ => False) wr Z3) := CZ2.out.then hb2
                  clear hb2 CZ2
                  have hHeld := CZ3.out
                  refine wpAnyH_ready (rs := [17]) (by kernel_rfl) (by simp) ?_
                  obtain ⟨Z4, hst, r6, C6, s6⟩ := store_dig Rg16.out (S.zeros_length _) LD.out
                  refine step_store_as (o := { dst := none, op := Op.store 23 (Operand.tmp 16) (Operand.tmp 61), type := 0, pos := "ref.go:38", after := #[{ on := 16, ground := Ground.data }, { on := 15, ground := Ground.data }, { on := 15, ground := Ground.chain }, { on := 0, ground := Ground.phase }, { on := 1, ground := Ground.phase }, { on := 2, ground := Ground.phase }, { on := 3, ground := Ground.phase }, { on := 4, ground := Ground.phase }, { on := 5, ground := Ground.phase }, { on := 6, ground := Ground.phase }, { on := 7, ground := Ground.phase }, { on := 8, ground := Ground.phase }, { on := 9, ground := Ground.phase }, { on := 10, ground := Ground.phase }, { on := 11, ground := Ground.phase }, { on := 12, ground := Ground.phase }, { on := 13, ground := Ground.phase }, { on := 14, ground := Ground.phase }, { on := 15, ground := Ground.phase }, { on := 16, ground := Ground.phase }], guard := none }) rfl rfl 23 (.tmp 16) (.tmp 61) rfl _ _ rfl rfl Z4 hst AllReadyH.nil ⟨CZ3.out.trans C6 (fun k hk e => by have := Gg16.out; omega), fun hHeld => ?_⟩
                  replace Rg16 : Hid (Z4.heap[g16]? = some (.cells (S.v8 D) 23 (0, 0))) := r6
                  have CZ4 : Hid (Chg (fun _ => False) wr Z4) := CZ3.out.trans C6 (fun k hk e => by have := Gg16.out; omega)
                  clear hst r6 C6 s6 CZ3
                  simp only [Act.put]
                  refine wpAnyH_done (by kernel_rfl) ?_ _
                  refine NoPanic.normal ?_
                  clear hHeld
                  have BF := hide (show Below wr.heap.size wr Z4 from (CZ4.out.below _ (Nat.le_refl _) (fun _ _ e => e)))
                  go_wp2_with fail
                  go_meet
                  case rel => exact ⟨g16, rfl, Rg16, BF⟩
                refine step_alloc_as (o := { dst := some 16, op := Op.alloc 23, type := 0, pos := "ref.go:38", after := #[], guard := none }) rfl rfl 23 rfl _ _ (alloc31 Z1) AllReadyH.nil ⟨CZ1.out.alloc _, fun hHeld => ?_⟩
                clear hHeld
                simp only [Act.put, List.setIfInBounds_toArray, List.set_cons_zero, List.set_cons_succ]
                obtain ⟨g16, hg16⟩ : ∃ gg, gg = Z1.heap.size := ⟨_, rfl⟩
                rw [← hg16]
                generalize hZ : Z1.alloc _ = Z2
                have hb2 : Below Z1.heap.size Z1 Z2 := by rw [← hZ]; exact (Below.refl _ _).alloc (Nat.le_refl _) _
                have Rg16 : Hid (Z2.heap[g16]? = some (.cells (S.v8 (S.zeros 32)) 23 (0, 0))) := by rw [← hZ, hg16]; exact heap_alloc_new _ _
                have Gg16 := hide (show wr.heap.size ≤ g16 by rw [hg16]; exact CZ1.out.size)
                clear hZ hg16
                have CZ2 : Hid (Chg (fun _ => False) wr Z2) := CZ1.out.then hb2
                clear hb2 CZ1
                have hHeld := CZ2.out
                refine wpAnyH_ready (rs := [15]) (by kernel_rfl) (by simp) ?_
                refine AllReadyH.cons (o := { dst := some 61, op := Op.call { callee := Callee.value (Operand.func 41), args := #[Operand.tmp 56, Operand.tmp 60], argTypes := #[23, 3] }, type := 23, pos := "ref.go:38", after := #[{ on := 10, ground := Ground.data }, { on := 14, ground := Ground.data }, { on := 10, ground := Ground.chain }], guard := none }) rfl (fun K hK => ?_) AllReadyH.nil
                go_simp
                refine (rcut_all D0 LD0.out (cwa : Int) Z2).mono ?_
                rintro e Z3 ⟨rfl, hb2⟩
                rw [show S.cut D0 (cwa : Int).toNat = D by rw [ED0.out, ED.out, HCW.out]; rfl]
                replace Rg16 : Hid (Z3.heap[g16]? = some (.cells (S.v8 (S.zeros 32)) 23 (0, 0))) := (hb2.block _ (block_lt_of_row Rg16.out)).trans Rg16.out
                have CZ3 : Hid (Chg (fun _ => False) wr Z3) := CZ2.out.then hb2
                clear hb2 CZ2
                clear hHeld
                refine hK.out _ _ CZ3.out (fun hHeld => ?_)
                clear hK K
                try simp only [Act.put, List.setIfInBounds_toArray, List.set_cons_zero, List.set_cons_succ]
                refine wpAnyH_ready (rs := [17]) (by kernel_rfl) (by simp) ?_
                obtain ⟨Z4, hst, r6, C6, s6⟩ := store_dig Rg16.out (S.zeros_length _) LD.out
                refine step_store_as (o := { dst := none, op := Op.store 23 (Operand.tmp 16) (Operand.tmp 61), type := 0, pos := "ref.go:38", after := #[{ on := 16, ground := Ground.data }, { on := 15, ground := Ground.data }, { on := 15, ground := Ground.chain }, { on := 0, ground := Ground.phase }, { on := 1, ground := Ground.phase }, { on := 2, ground := Ground.phase }, { on := 3, ground := Ground.phase }, { on := 4, ground := Ground.phase }, { on := 5, ground := Ground.phase }, { on := 6, ground := Ground.phase }, { on := 7, ground := Ground.phase }, { on := 8, ground := Ground.phase }, { on := 9, ground := Ground.phase }, { on := 10, ground := Ground.phase }, { on := 11, ground := Ground.phase }, { on := 12, ground := Ground.phase }, { on := 13, ground := Ground.phase }, { on := 14, ground := Ground.phase }, { on := 15, ground := Ground.phase }, { on := 16, ground := Ground.phase }], guard := none }) rfl rfl 23 (.tmp 16) (.tmp 61) rfl _ _ rfl rfl Z4 hst AllReadyH.nil ⟨CZ3.out.trans C6 (fun k hk e => by have := Gg16.out; omega), fun hHeld => ?_⟩
                replace Rg16 : Hid (Z4.heap[g16]? = some (.cells (S.v8 D) 23 (0, 0))) := r6
                have CZ4 : Hid (Chg (fun _ => False) wr Z4) := CZ3.out.trans C6 (fun k hk e => by have := Gg16.out; omega)
                clear hst r6 C6 s6 CZ3
                simp only [Act.put]
                refine wpAnyH_done (by kernel_rfl) ?_ _
                refine NoPanic.normal ?_
                clear hHeld
                have BF := hide (show Below wr.heap.size wr Z4 from (CZ4.out.below _ (Nat.le_refl _) (fun _ _ e => e)))
                go_wp2_with fail
                go_meet
                case rel => exact ⟨g16, rfl, Rg16, BF⟩
              refine step_alloc_as (o := { dst := some 16, op := Op.alloc 23, type := 0, pos := "ref.go:38", after := #[], guard := none }) rfl rfl 23 rfl _ _ (alloc31 Z0) AllReadyH.nil ⟨CZ0.out.alloc _, fun hHeld => ?_⟩
              clear hHeld
              simp only [Act.put, List.setIfInBounds_toArray, List.set_cons_zero, List.set_cons_succ]
              obtain ⟨g16, hg16⟩ : ∃ gg, gg = Z0.heap.size := ⟨_, rfl⟩
              rw [← hg16]
              generalize hZ : Z0.alloc _ = Z1
              have hb2 : Below Z0.heap.size Z0 Z1 := by rw [← hZ]; exact (Below.refl _ _).alloc (Nat.le_refl _) _
              have Rg16 : Hid (Z1.heap[g16]? = some (.cells (S.v8 (S.zeros 32)) 23 (0, 0))) := by rw [← hZ, hg16]; exact heap_alloc_new _ _
              have Gg16 := hide (show wr.heap.size ≤ g16 by rw [hg16]; exact CZ0.out.size)
              clear hZ hg16
              have CZ1 : Hid (Chg (fun _ => False) wr Z1) := CZ0.out.then hb2
              clear hb2 CZ0
              have hHeld := CZ1.out
              refine wpAnyH_ready (rs := [10]) (by kernel_rfl) (by simp) ?_
              refine AllReadyH.cons (o := { dst := some 56, op := Op.call { callee := Callee.value (Operand.func 42), args := #[Operand.tmp 49, Operand.tmp 55], argTypes := #[71, 25] }, type := 23, pos := "ref.go:38", after := #[{ on := 3, ground := Ground.data }, { on := 9, ground := Ground.data }], guard := none }) rfl (fun K hK => ?_) AllReadyH.nil
              go_simp
              refine (rsum_any gT _ t Z1 (HHr.out.below (CZ1.out.below _ (Nat.le_refl _) (fun _ _ e => e)) (Nat.le_refl _)).t (XS.out.below (CZ1.out.below _ (Nat.le_refl _) (fun _ _ e => e)) (Nat.le_refl _)) HTL.out).mono ?_
              rintro e Z2 ⟨rfl, hb2⟩
              obtain ⟨D0, hD0⟩ : ∃ D, D = S.sum t := ⟨_, rfl⟩
              have LD0 := hide (show D0.length = 32 by rw [hD0, S.sum_length])
              rw [← hD0]
              have ED0 := hide hD0
              clear hD0
              replace Rg16 : Hid (Z2.heap[g16]? = some (.cells (S.v8 (S.zeros 32)) 23 (0, 0))) := (hb2.block _ (block_lt_of_row Rg16.out)).trans Rg16.out
              have CZ2 : Hid (Chg (fun _ => False) wr Z2) := CZ1.out.then hb2
              clear hb2 CZ1
              clear hHeld
              refine hK.out _ _ CZ2.out (fun hHeld => ?_)
              clear hK K
              try simp only [Act.put, List.setIfInBounds_toArray, List.set_cons_zero, List.set_cons_succ]
              refine wpAnyH_ready (rs := [15]) (by kernel_rfl) (by simp) ?_
              refine AllReadyH.cons (o := { dst := some 61, op := Op.call { callee := Callee.value (Operand.func 41), args := #[Operand.tmp 56, Operand.tmp 60], argTypes := #[23, 3] }, type := 23, pos := "ref.go:38", after := #[{ on := 10, ground := Ground.data }, { on := 14, ground := Ground.data }, { on := 10, ground := Ground.chain }], guard := none }) rfl (fun K hK => ?_) AllReadyH.nil
              go_simp
              refine (rcut_all D0 LD0.out (cwa : Int) Z2).mono ?_
              rintro e Z3 ⟨rfl, hb2⟩
              rw [show S.cut D0 (cwa : Int).toNat = D by rw [ED0.out, ED.out, HCW.out]; rfl]
              replace Rg16 : Hid (Z3.heap[g16]? = some (.cells (S.v8 (S.zeros 32)) 23 (0, 0))) := (hb2.block _ (block_lt_of_row Rg16.out)).trans Rg16.out
              have CZ3 : Hid (Chg (fun _ => False) wr Z3) := CZ2.out.then hb2
              clear hb2 CZ2
              clear hHeld
              refine hK.out _ _ CZ3.out (fun hHeld => ?_)
              clear hK K
              try simp only [Act.put, List.setIfInBounds_toArray, List.set_cons_zero, List.set_cons_succ]
              refine wpAnyH_ready (rs := [17]) (by kernel_rfl) (by simp) ?_
              obtain ⟨Z4, hst, r6, C6, s6⟩ := store_dig Rg16.out (S.zeros_length _) LD.out
              refine step_store_as (o := { dst := none, op := Op.store 23 (Operand.tmp 16) (Operand.tmp 61), type := 0, pos := "ref.go:38", after := #[{ on := 16, ground := Ground.data }, { on := 15, ground := Ground.data }, { on := 15, ground := Ground.chain }, { on := 0, ground := Ground.phase }, { on := 1, ground := Ground.phase }, { on := 2, ground := Ground.phase }, { on := 3, ground := Ground.phase }, { on := 4, ground := Ground.phase }, { on := 5, ground := Ground.phase }, { on := 6, ground := Ground.phase }, { on := 7, ground := Ground.phase }, { on := 8, ground := Ground.phase }, { on := 9, ground := Ground.phase }, { on := 10, ground := Ground.phase }, { on := 11, ground := Ground.phase }, { on := 12, ground := Ground.phase }, { on := 13, ground := Ground.phase }, { on := 14, ground := Ground.phase }, { on := 15, ground := Ground.phase }, { on := 16, ground := Ground.phase }], guard := none }) rfl rfl 23 (.tmp 16) (.tmp 61) rfl _ _ rfl rfl Z4 hst AllReadyH.nil ⟨CZ3.out.trans C6 (fun k hk e => by have := Gg16.out; omega), fun hHeld => ?_⟩
              replace Rg16 : Hid (Z4.heap[g16]? = some (.cells (S.v8 D) 23 (0, 0))) := r6
              have CZ4 : Hid (Chg (fun _ => False) wr Z4) := CZ3.out.trans C6 (fun k hk e => by have := Gg16.out; omega)
              clear hst r6 C6 s6 CZ3
              simp only [Act.put]
              refine wpAnyH_done (by kernel_rfl) ?_ _
              refine NoPanic.normal ?_
              clear hHeld
              have BF := hide (show Below wr.heap.size wr Z4 from (CZ4.out.below _ (Nat.le_refl _) (fun _ _ e => e)))
              go_wp2_with fail
              go_meet
              case rel => exact ⟨g16, rfl, Rg16, BF⟩
            obtain ⟨g16, rfl, R16, BWC⟩ := hcut
            have HTC := hide (HTX.out.below BWC.out)
            have HBC := hide (HB.out.trans (BWC.out.mono HB.out.size))
            have HHc : Hid (HsAt wc gh gT a) := HHr.out.below BWC.out (Nat.le_refl _)
            clear HTX HB HHr BWC CX XS e1
            go_upto_region 14 with fail
            go_cut [17] from 28 to 93 (fun p17 wd => ∃ g17, p17 = .pointer (some ⟨g17, 0, none⟩) ∧ Hid (wd.heap[g17]? = some (.cells (S.v8 E) 23 (0, 0))) ∧ Hid (wd.heap[g16]? = some (.cells (S.v8 D) 23 (0, 0))) ∧ Hid (Below wc.heap.size wc wd))
            case first =>
              refine wp_region_noPanic ?_
              refine wp_region_held_drew (S := (fun W => Chg (fun _ => False) wc W)) follows ((Chg.refl _ _).drew) (fun hHeld => ?_)
              clear hHeld
              have hHeld : Chg (fun _ => False) wc wc.drew := (Chg.refl _ _).drew
              have CZ0 := hide hHeld
              have R16' : Hid (wc.drew.heap[g16]? = some (.cells (S.v8 D) 23 (0, 0))) := R16.out
              generalize wc.drew = Z0 at CZ0 hHeld R16' ⊢
              refine wpAnyH_take (i := 0) (oi := { dst := some 62, op := Op.move (Operand.tmp 4), type := 32, pos := "ref.go:39", after := #[], guard := none }) (v := ?_) rfl (by kernel_rfl) (by kernel_rfl) (by kernel_rfl) (fun _ _ _ h => h) (Or.inl ⟨by rfl, ?_⟩) (by assumption) ?_
              rotate_left
              · intro w hSw
                clear hSw
                go_simp
                all_goals with_reducible rfl
              simp only [Act.put, List.setIfInBounds_toArray, List.set_cons_zero, List.set_cons_succ]
              refine wpAnyH_take (i := 1) (oi := { dst := some 63, op := Op.move (Operand.tmp 15), type := 3, pos := "ref.go:39", after := #[], guard := none }) (v := ?_) rfl (by kernel_rfl) (by kernel_rfl) (by kernel_rfl) (fun _ _ _ h => h) (Or.inl ⟨by rfl, ?_⟩) (by assumption) ?_
              rotate_left
              · intro w hSw
                clear hSw
                go_simp
                all_goals with_reducible rfl
              simp only [Act.put, List.setIfInBounds_toArray, List.set_cons_zero, List.set_cons_succ]
              refine wpAnyH_take (i := 2) (oi := { dst := some 64, op := Op.indexAddr 32 (Operand.tmp 62) (Operand.tmp 63), type := 0, pos := "ref.go:39", after := #[{ on := 0, ground := Ground.data }, { on := 1, ground := Ground.data }], guard := none }) (v := ?_) rfl (by kernel_rfl) (by kernel_rfl) (by kernel_rfl) (fun _ _ _ h => h) (Or.inl ⟨by rfl, ?_⟩) (by assumption) ?_
              rotate_left
              · intro w hSw
                clear hSw
                go_simp
                all_goals with_reducible rfl
              simp only [Act.put, List.setIfInBounds_toArray, List.set_cons_zero, List.set_cons_succ]
              refine wpAnyH_take (i := 3) (oi := { dst := some 65, op := Op.load 23 (Operand.tmp 64), type := 23, pos := "ref.go:39", after := #[{ on := 2, ground := Ground.data }], guard := none }) (v := .agg (S.v8l p).toArray) rfl (by kernel_rfl) (by kernel_rfl) (by kernel_rfl) (fun _ _ _ h => h) (yieldsIf_load_mid (by rfl) _ _ rfl gu (ou + k * 32) rfl (S.v8l p) _ (fun _ hSw => HRU.out _ (HBC.out.trans (hSw.below _ HBC.out.size (fun _ _ e => e)))) Tryd.underlying23 rfl hsz) (by assumption) ?_
              simp only [Act.put, List.setIfInBounds_toArray, List.set_cons_zero, List.set_cons_succ]
              refine wpAnyH_take (i := 4) (oi := { dst := some 66, op := Op.move (Operand.tmp 0), type := 33, pos := "ref.go:39", after := #[], guard := none }) (v := ?_) rfl (by kernel_rfl) (by kernel_rfl) (by kernel_rfl) (fun _ _ _ h => h) (Or.inl ⟨by rfl, ?_⟩) (by assumption) ?_
              rotate_left
              · intro w hSw
                clear hSw
                go_simp
                all_goals with_reducible rfl
              simp only [Act.put, List.setIfInBounds_toArray, List.set_cons_zero, List.set_cons_succ]
              refine wpAnyH_take (i := 5) (oi := { dst := some 67, op := Op.nilCheck (Operand.tmp 66), type := 0, pos := "ref.go:39", after := #[{ on := 4, ground := Ground.data }], guard := none }) (v := ?_) rfl (by kernel_rfl) (by kernel_rfl) (by kernel_rfl) (fun _ _ _ h => h) (Or.inl ⟨by rfl, ?_⟩) (by assumption) ?_
              rotate_left
              · intro w hSw
                clear hSw
                go_simp
                all_goals with_reducible rfl
              simp only [Act.put, List.setIfInBounds_toArray, List.set_cons_zero, List.set_cons_succ]
              refine wpAnyH_take (i := 6) (oi := { dst := some 68, op := Op.fieldAddr 76 (Operand.tmp 67) 1, type := 0, pos := "ref.go:39", after := #[{ on := 5, ground := Ground.data }], guard := none }) (v := ?_) rfl (by kernel_rfl) (by kernel_rfl) (by kernel_rfl) (fun _ _ _ h => h) (Or.inl ⟨by rfl, ?_⟩) (by assumption) ?_
              rotate_left
              · intro w hSw
                clear hSw
                go_simp
                all_goals with_reducible rfl
              simp only [Act.put, List.setIfInBounds_toArray, List.set_cons_zero, List.set_cons_succ]
              refine wpAnyH_take (i := 7) (oi := { dst := some 69, op := Op.load 3 (Operand.tmp 68), type := 3, pos := "ref.go:39", after := #[{ on := 6, ground := Ground.data }], guard := none }) (v := ?_) rfl (by kernel_rfl) (by kernel_rfl) (by kernel_rfl) (fun _ _ _ h => h) (Or.inl ⟨by rfl, ?_⟩) (by assumption) ?_
              rotate_left
              · intro w hSw
                have c4 : w.cell? ⟨gh, 1, none⟩ = some (.int .i64 (cwa : Int)) := by rw [HCW.out]; exact (cells2 (HHc.out.below (hSw.below _ (Nat.le_refl _) (fun _ _ e => e)) (Nat.le_refl _)).h).2
                clear hSw
                go_simp
                all_goals with_reducible rfl
              simp only [Act.put, List.setIfInBounds_toArray, List.set_cons_zero, List.set_cons_succ]
              refine wpAnyH_ready (rs := [8, 9]) (by kernel_rfl) (by simp) ?_
              refine AllReadyH.cons (o := { dst := some 70, op := Op.call { callee := Callee.value (Operand.func 41), args := #[Operand.tmp 65, Operand.tmp 69], argTypes := #[23, 3] }, type := 23, pos := "ref.go:39", after := #[{ on := 3, ground := Ground.data }, { on := 7, ground := Ground.data }], guard := none }) rfl (fun K hK => ?_) ?_
              · skip
                go_simp
                refine (rcut_all p LP.out (cwa : Int) Z0).mono ?_
                rintro e Z1 ⟨rfl, hb2⟩
                rw [show S.cut p (cwa : Int).toNat = E by rw [EE.out]; rfl]
                replace R16' : Hid (Z1.heap[g16]? = some (.cells (S.v8 D) 23 (0, 0))) := (hb2.block _ (block_lt_of_row R16'.out)).trans R16'.out
                have CZ1 : Hid (Chg (fun _ => False) wc Z1) := CZ0.out.then hb2
                clear hb2 CZ0
                clear hHeld
                refine hK.out _ _ CZ1.out (fun hHeld => ?_)
                clear hK K
                try simp only [Act.put, List.setIfInBounds_toArray, List.set_cons_zero, List.set_cons_succ]
                refine wpAnyH_ready (rs := [9]) (by kernel_rfl) (by simp) ?_
                refine step_alloc_as (o := { dst := some 17, op := Op.alloc 23, type := 0, pos := "ref.go:39", after := #[], guard := none }) rfl rfl 23 rfl _ _ (alloc31 Z1) AllReadyH.nil ⟨CZ1.out.alloc _, fun hHeld => ?_⟩
                clear hHeld
                simp only [Act.put, List.setIfInBounds_toArray, List.set_cons_zero, List.set_cons_succ]
                obtain ⟨g17, hg17⟩ : ∃ gg, gg = Z1.heap.size := ⟨_, rfl⟩
                rw [← hg17]
                generalize hZ : Z1.alloc _ = Z2
                have hb2 : Below Z1.heap.size Z1 Z2 := by rw [← hZ]; exact (Below.refl _ _).alloc (Nat.le_refl _) _
                have Rg17 : Hid (Z2.heap[g17]? = some (.cells (S.v8 (S.zeros 32)) 23 (0, 0))) := by rw [← hZ, hg17]; exact heap_alloc_new _ _
                have Gg17 := hide (show wc.heap.size ≤ g17 by rw [hg17]; exact CZ1.out.size)
                clear hZ hg17
                replace R16' : Hid (Z2.heap[g16]? = some (.cells (S.v8 D) 23 (0, 0))) := (hb2.block _ (block_lt_of_row R16'.out)).trans R16'.out
                have CZ2 : Hid (Chg (fun _ => False) wc Z2) := CZ1.out.then hb2
                clear hb2 CZ1
                have hHeld := CZ2.out
                refine wpAnyH_ready (rs := [10]) (by kernel_rfl) (by simp) ?_
                obtain ⟨Z3, hst, r6, C6, s6⟩ := store_dig Rg17.out (S.zeros_length _) LE.out
                refine step_store_as (o := { dst := none, op := Op.store 23 (Operand.tmp 17) (Operand.tmp 70), type := 0, pos := "ref.go:39", after := #[{ on := 9, ground := Ground.data }, { on := 8, ground := Ground.data }, { on := 8, ground := Ground.chain }, { on := 0, ground := Ground.phase }, { on := 1, ground := Ground.phase }, { on := 2, ground := Ground.phase }, { on := 3, ground := Ground.phase }, { on := 4, ground := Ground.phase }, { on := 5, ground := Ground.phase }, { on := 6, ground := Ground.phase }, { on := 7, ground := Ground.phase }, { on := 8, ground := Ground.phase }, { on := 9, ground := Ground.phase }], guard := none }) rfl rfl 23 (.tmp 17) (.tmp 70) rfl _ _ rfl rfl Z3 hst AllReadyH.nil ⟨CZ2.out.trans C6 (fun k hk e => by have := Gg17.out; omega), fun hHeld => ?_⟩
                replace R16' : Hid (Z3.heap[g16]? = some (.cells (S.v8 D) 23 (0, 0))) := C6.row R16'.out (by have := Gg17.out; have := block_lt_of_row R16.out; omega)
                replace Rg17 : Hid (Z3.heap[g17]? = some (.cells (S.v8 E) 23 (0, 0))) := r6
                have CZ3 : Hid (Chg (fun _ => False) wc Z3) := CZ2.out.trans C6 (fun k hk e => by have := Gg17.out; omega)
                clear hst r6 C6 s6 CZ2
                simp only [Act.put]
                refine wpAnyH_done (by kernel_rfl) ?_ _
                refine NoPanic.normal ?_
                clear hHeld
                have BF := hide (show Below wc.heap.size wc Z3 from (CZ3.out.below _ (Nat.le_refl _) (fun _ _ e => e)))
                go_wp2_with fail
                go_meet
                case rel => exact ⟨g17, rfl, Rg17, R16', BF⟩
              refine step_alloc_as (o := { dst := some 17, op := Op.alloc 23, type := 0, pos := "ref.go:39", after := #[], guard := none }) rfl rfl 23 rfl _ _ (alloc31 Z0) AllReadyH.nil ⟨CZ0.out.alloc _, fun hHeld => ?_⟩
              clear hHeld
              simp only [Act.put, List.setIfInBounds_toArray, List.set_cons_zero, List.set_cons_succ]
              obtain ⟨g17, hg17⟩ : ∃ gg, gg = Z0.heap.size := ⟨_, rfl⟩
              rw [← hg17]
              generalize hZ : Z0.alloc _ = Z1
              have hb2 : Below Z0.heap.size Z0 Z1 := by rw [← hZ]; exact (Below.refl _ _).alloc (Nat.le_refl _) _
              have Rg17 : Hid (Z1.heap[g17]? = some (.cells (S.v8 (S.zeros 32)) 23 (0, 0))) := by rw [← hZ, hg17]; exact heap_alloc_new _ _
              have Gg17 := hide (show wc.heap.size ≤ g17 by rw [hg17]; exact CZ0.out.size)
              clear hZ hg17
              replace R16' : Hid (Z1.heap[g16]? = some (.cells (S.v8 D) 23 (0, 0))) := (hb2.block _ (block_lt_of_row R16'.out)).trans R16'.out
              have CZ1 : Hid (Chg (fun _ => False) wc Z1) := CZ0.out.then hb2
              clear hb2 CZ0
              have hHeld := CZ1.out
              refine wpAnyH_ready (rs := [8]) (by kernel_rfl) (by simp) ?_
              refine AllReadyH.cons (o := { dst := some 70, op := Op.call { callee := Callee.value (Operand.func 41), args := #[Operand.tmp 65, Operand.tmp 69], argTypes := #[23, 3] }, type := 23, pos := "ref.go:39", after := #[{ on := 3, ground := Ground.data }, { on := 7, ground := Ground.data }], guard := none }) rfl (fun K hK => ?_) AllReadyH.nil
              go_simp
              refine (rcut_all p LP.out (cwa : Int) Z1).mono ?_
              rintro e Z2 ⟨rfl, hb2⟩
              rw [show S.cut p (cwa : Int).toNat = E by rw [EE.out]; rfl]
              replace R16' : Hid (Z2.heap[g16]? = some (.cells (S.v8 D) 23 (0, 0))) := (hb2.block _ (block_lt_of_row R16'.out)).trans R16'.out
              replace Rg17 : Hid (Z2.heap[g17]? = some (.cells (S.v8 (S.zeros 32)) 23 (0, 0))) := (hb2.block _ (block_lt_of_row Rg17.out)).trans Rg17.out
              have CZ2 : Hid (Chg (fun _ => False) wc Z2) := CZ1.out.then hb2
              clear hb2 CZ1
              clear hHeld
              refine hK.out _ _ CZ2.out (fun hHeld => ?_)
              clear hK K
              try simp only [Act.put, List.setIfInBounds_toArray, List.set_cons_zero, List.set_cons_succ]
              refine wpAnyH_ready (rs := [10]) (by kernel_rfl) (by simp) ?_
              obtain ⟨Z3, hst, r6, C6, s6⟩ := store_dig Rg17.out (S.zeros_length _) LE.out
              refine step_store_as (o := { dst := none, op := Op.store 23 (Operand.tmp 17) (Operand.tmp 70), type := 0, pos := "ref.go:39", after := #[{ on := 9, ground := Ground.data }, { on := 8, ground := Ground.data }, { on := 8, ground := Ground.chain }, { on := 0, ground := Ground.phase }, { on := 1, ground := Ground.phase }, { on := 2, ground := Ground.phase }, { on := 3, ground := Ground.phase }, { on := 4, ground := Ground.phase }, { on := 5, ground := Ground.phase }, { on := 6, ground := Ground.phase }, { on := 7, ground := Ground.phase }, { on := 8, ground := Ground.phase }, { on := 9, ground := Ground.phase }], guard := none }) rfl rfl 23 (.tmp 17) (.tmp 70) rfl _ _ rfl rfl Z3 hst AllReadyH.nil ⟨CZ2.out.trans C6 (fun k hk e => by have := Gg17.out; omega), fun hHeld => ?_⟩
              replace R16' : Hid (Z3.heap[g16]? = some (.cells (S.v8 D) 23 (0, 0))) := C6.row R16'.out (by have := Gg17.out; have := block_lt_of_row R16.out; omega)
              replace Rg17 : Hid (Z3.heap[g17]? = some (.cells (S.v8 E) 23 (0, 0))) := r6
              have CZ3 : Hid (Chg (fun _ => False) wc Z3) := CZ2.out.trans C6 (fun k hk e => by have := Gg17.out; omega)
              clear hst r6 C6 s6 CZ2
              simp only [Act.put]
              refine wpAnyH_done (by kernel_rfl) ?_ _
              refine NoPanic.normal ?_
              clear hHeld
              have BF := hide (show Below wc.heap.size wc Z3 from (CZ3.out.below _ (Nat.le_refl _) (fun _ _ e => e)))
              go_wp2_with fail
              go_meet
              case rel => exact ⟨g17, rfl, Rg17, R16', BF⟩
            obtain ⟨g17, rfl, R17, R16b, BWD⟩ := hcut
            have HTD := hide (HTC.out.below BWD.out)
            have HBD := hide (HBC.out.trans (BWD.out.mono HBC.out.size))
            have HHd : Hid (HsAt wc gh gT a) := HHc.out.below BWD.out (Nat.le_refl _)
            have hl1 := load_dig R16b.out LD.out
            have hl2 := load_dig R17.out LE.out
            clear HTC HBC HHc BWD R16
            go_wp2_with (first | (with_reducible refine at_op { dst := some 85, op := Op.load 23 (Operand.tmp 16), type := 23, pos := "ref.go:44", after := #[], guard := none } ?_; refine wpList_load_as rfl 23 (.tmp 16) rfl (.pointer (some ⟨g16, 0, none⟩)) rfl (.agg (S.v8 D)) hl1 ?_) | (with_reducible refine at_op { dst := some 86, op := Op.load 23 (Operand.tmp 17), type := 23, pos := "ref.go:44", after := #[], guard := none } ?_; refine wpList_load_as rfl 23 (.tmp 17) rfl (.pointer (some ⟨g17, 0, none⟩)) rfl (.agg (S.v8 E)) hl2 ?_))
            clear hl1 hl2
            refine (nodeText_own gh gT a D E LD.out LE.out wc HHd.out).mono ?_
            rintro e w5 ⟨v5, rfl, s5, b5⟩
            obtain ⟨gy, yc, ey⟩ := s5.2
            obtain ⟨yn, hyn⟩ : ∃ n, n = (1 :: (List.take (S.cw a) D ++ List.take (S.cw a) E)).length := ⟨_, rfl⟩
            rw [← hyn] at ey
            subst ey
            clear hyn
            have htx : (1 :: (List.take (S.cw a) D ++ List.take (S.cw a) E)) = S.txt a D E := rfl
            rw [htx] at s5
            obtain ⟨X5, hX5⟩ : ∃ YQ, YQ = w5.alloc (.cells #[.slice (some ⟨gy, 0, none⟩) yn yc] 25) := ⟨_, rfl⟩
            have bX5 : Below w5.heap.size w5 X5 := by rw [hX5]; exact (Below.refl _ _).alloc (Nat.le_refl _) _
            have rX5 : X5.heap[w5.heap.size]? = some (.cells #[.slice (some ⟨gy, 0, none⟩) yn yc] 25 (0, 0)) := by rw [hX5]; exact heap_alloc_new _ _
            have hbs := bs41one w5 (some ⟨gy, 0, none⟩) yn yc
            rw [← hX5] at hbs
            have bdX : Below wc.heap.size wc X5 := b5.trans (bX5.mono b5.size)
            have hlt0 : ∀ k', (Value.slice (some ⟨bl, offl, none⟩) m vc).ownBlock = some k' → k' < wc.heap.size := fun k' hk' => by
              obtain ⟨vs, h1, _⟩ := HTD.out.ls
              exact h1.lt hk'
            have hsx : ∀ W, Chg (fun k => (Value.slice (some ⟨bl, offl, none⟩) m vc).ownBlock = some k) X5 W → SliceAt W (.slice (some ⟨gy, 0, none⟩) yn yc) (S.txt a D E) := fun W hW => (Own.chg (p := fun k => (Value.slice (some ⟨bl, offl, none⟩) m vc).ownBlock = some k) s5 ((Chg.ofBelow' bX5).trans hW (fun _ _ e => e)) (fun k hk e => by have := hlt0 k e; omega)).sliceAt (by have := S.txt_length a D E; omega)
            have KEY := hide (run_append_tx X5 w.heap.size w5.heap.size (.slice (some ⟨bl, offl, none⟩) m vc) (some ⟨gy, 0, none⟩) yn yc (ts ++ [t]) (S.txt a D E) 41 (HTD.out.below bdX) rX5 hsx (by rw [← HM.out, HM2.out]; omega) (Nat.le_trans HBD.out.size bdX.size))
            have BX := hide (HBD.out.trans (bdX.mono HBD.out.size))
            obtain ⟨g5, hg5⟩ : ∃ g, g = w5.heap.size := ⟨_, rfl⟩
            rw [← hg5] at KEY hbs
            clear hX5 bX5 rX5 bdX hlt0 hsx hg5 b5 s5 htx
            go_wp2_with (first | (with_reducible refine at_op { dst := some 88, op := Op.buildSlice 41 1 #[(0, Operand.tmp 87)], type := 41, pos := "ref.go:44", after := #[{ on := 4, ground := Ground.data }], guard := none } ?_; refine wpList_buildSlice_as rfl 41 1 [(0, .tmp 87)] rfl [(0, .slice (some ⟨gy, 0, none⟩) yn yc)] rfl _ _ hbs ?_) | (at_builtin; (refine wpList_append_known rfl (.tmp 83) (.tmp 88) 41 41 rfl _ _ rfl rfl KEY.out ?_; rintro v6 w6 ⟨hR6, hB6⟩; have R6 := hide hR6; have B6 := hide (BX.out.trans hB6); clear hR6 hB6)))
            go_roundg (s / 2)
            case measure => omega
            case rel => exact ⟨k + 1, f / 2, s / 2, ts ++ [t], _, rfl, by omega, by first | rfl | simp, rfl, rfl, by omega, by omega, HUPN, R6, by simp [HTS.out], by have := S.txt_length a D E; omega, B6⟩
end Go.Proofs.YtlbggkmblkhjoaaDoor
namespace Go.Proofs.YtlbggkmblkhjoaaDoor
open Go.RowKit

theorem rway_all (gh gT : Nat) (a : Int) (v u : Value) (bs : List UInt8) (i n : Nat) (ps : List (List UInt8)) (w : World) (hn : n < 18446744073709551616) (hH : HsAt w gh gT a) (hv : SliceAt w v bs) (hl : bs.length + 1 ≤ 140737488355000) (hu : DgAt w u ps) (hps : ps.length ≤ 90000) :
   Calls Tryd.prog 40 #[.pointer (some ⟨gh, 0, none⟩), v, .int .u64 (i : Int), .int .u64 (n : Int), u] w fun e w' => Wayed w w' e (S.climb a bs i n ps) := by
  by_cases h : i < n
  · exact rway_any gh gT a v u bs i n ps w h hn hH hv hl hu hps
  · refine (rway_none _ v u i n w (by omega)).mono ?_
    rintro e w' ⟨rfl, rfl⟩
    rw [S.climb, if_neg h]
    exact ⟨none, 0, 0, rfl, (fun ts h => nomatch h), Below.refl _ _⟩
theorem S.climb_fit2 {a : Int} {b : List UInt8} {i n : Nat} {ps l : List (List UInt8)} (h : S.climb a b i n ps = some l) (hb : b.length + 1 ≤ 140737488355000) (j : Nat) : (l.getD j []).length ≤ 140737488355000 := by
  unfold S.climb at h
  split at h
  · by_cases hj : j < l.length
    · rcases S.way_texts a _ _ _ _ _ h (l.getD j []) (by rw [List.getD_eq_getElem?_getD, List.getElem?_eq_getElem hj]; exact List.getElem_mem hj) with e | e
      · rw [e]; simpa using hb
      · omega
    · rw [List.getD_eq_getElem?_getD, List.getElem?_eq_none (by omega)]; simp
  · cases h
theorem S.getD_last (l : List (List UInt8)) : l.getD (l.length - 1) [] = S.lastOf l := by rw [S.lastOf, List.getLast?_eq_getElem?, List.getD_eq_getElem?_getD]
set_option maxHeartbeats 16000000 in
set_option maxRecDepth 10000 in
theorem rleaf_any (gh gT : Nat) (a : Int) (v u : Value) (bs : List UInt8) (i n : Nat) (ps : List (List UInt8)) (rt : List UInt8) (hrt : rt.length = 32) (w : World) (hi : i < 18446744073709551616) (hn : n < 18446744073709551616) (hH : HsAt w gh gT a) (hv : SliceAt w v bs) (hl : bs.length + 1 ≤ 140737488355000) (hu : DgAt w u ps) (hps : ps.length ≤ 90000) :
   Calls Tryd.prog 16 #[.pointer (some ⟨gh, 0, none⟩), v, .int .u64 (i : Int), .int .u64 (n : Int), u, .agg (S.v8 rt)] w fun e w' => e = .returned (.bool (S.vLeaf a bs i n ps rt)) ∧ Below w.heap.size w w' := by
  obtain ⟨R, hR⟩ : ∃ R, R = S.vLeaf a bs i n ps rt := ⟨_, rfl⟩
  rw [← hR]
  rw [S.vLeaf_climb a bs i n ps rt hi] at hR
  have HR := hide hR
  obtain ⟨ao, len, cap, rfl, hlen, _⟩ := hv.form
  obtain ⟨uo, uc, rfl⟩ := hu.form
  have HV := hide hv
  have HU := hide hu
  have HH := hide hH
  have HLn := hide hl
  have HPS := hide hps
  have HRT := hide hrt
  obtain ⟨N, hN⟩ : ∃ N, N = ps.length := ⟨_, rfl⟩
  rw [← hN] at HU ⊢
  clear hv hH hl hlen hu hN hps hrt hR
  go_enter Tryd.func16, Tryd.ntmps16
  go_wp2_with fail
  generalize hW0 : w.alloc _ = W0
  have B0 : Below w.heap.size w W0 := by rw [← hW0]; exact (Below.refl _ _).alloc (Nat.le_refl _) _
  have s0 : W0.heap.size = w.heap.size + 1 := by rw [← hW0]; simp
  have r0 : W0.heap[w.heap.size]? = some (.cells (S.v8 rt) 23 (0, 0)) := by rw [← hW0]; exact heap_alloc_new _ _
  have BB : Hid (Below w.heap.size w W0) := B0
  have Q0 : Hid (W0.heap[w.heap.size]? = some (.cells (S.v8 rt) 23 (0, 0))) := r0
  clear hW0 B0 s0 r0
  refine (rway_all gh gT a _ _ bs i n ps W0 hn (HH.out.below BB.out (Nat.le_refl _)) (HV.out.below BB.out (Nat.le_refl _)) HLn.out (HU.out.below BB.out) HPS.out).mono ?_
  rintro e w2 ⟨so, sl, sc, rfl, hts, hb⟩
  have HB := hide (BB.out.trans (hb.mono BB.out.size))
  have Q : Hid (w2.heap[w.heap.size]? = some (.cells (S.v8 rt) 23 (0, 0))) := (hb.block _ (block_lt_of_row Q0.out)).trans Q0.out
  have HH2 : Hid (HsAt w2 gh gT a) := HH.out.below HB.out (Nat.le_refl _)
  clear HU HV hb BB Q0
  cases hc : S.climb a bs i n ps with
  | none =>
    simp only [Option.isSome_none]
    have HR2 := hide (show R = false by rw [HR.out, hc])
    clear hts hc HR
    go_wp2_with fail
    go_ret
    exact ⟨by rw [HR2.out]; rfl, HB.out⟩
  | some ts =>
    simp only [Option.isSome_some]
    have htx := hts ts hc
    have hR2 : R = (S.hsh a (S.lastOf ts) == S.cut rt (S.cw a)) := by rw [HR.out, hc]
    have hlen := S.climb_len hc
    have hfit := S.climb_fit2 hc HLn.out (ts.length - 1)
    rw [S.getD_last] at hfit
    obtain ⟨m, hm⟩ : ∃ m, m = ts.length - 1 := ⟨_, rfl⟩
    obtain ⟨bl, offl, cl, e9, e9', e9b, hcl⟩ := htx.bsAt.src (by omega)
    simp only [Value.slice.injEq] at e9
    obtain ⟨rfl, e9n, rfl⟩ := e9
    obtain ⟨x, hx, hxs⟩ := hcl m (by omega)
    rw [hm, S.getD_last] at hxs
    obtain ⟨xo, xl, xc, rfl, hxl, hxm⟩ := hxs.form
    have CX := hide hx
    have XS := hide hxs
    have HBLT := hide e9b
    have HTL := hide hfit
    have e1 : IntKind.i64.wrap ((sl : Int) - 1) = (m : Int) := by rw [IntKind.wrap_i64]; have := HPS.out; omega
    have qk0 : (0 : Int) ≤ (m : Int) := by omega
    have qkm : (m : Int) < (sl : Int) := by omega
    obtain ⟨cwa, hcwa⟩ : ∃ c, c = S.cw a := ⟨_, rfl⟩
    have HCW := hide hcwa
    obtain ⟨D, hD⟩ : ∃ D, D = S.hsh a (S.lastOf ts) := ⟨_, rfl⟩
    obtain ⟨E, hE⟩ : ∃ E, E = S.cut rt cwa := ⟨_, rfl⟩
    have LD := hide (show D.length = 32 by rw [hD, S.hsh_length])
    have LE := hide (show E.length = 32 by rw [hE, S.cut_length]; exact HRT.out)
    rw [← hD, ← hcwa, ← hE] at hR2
    have heq : ∀ w, (Op.equalIn 10000 23 (.agg (S.v8l D).toArray) (.agg (S.v8 E))).run Tryd.prog w = .ok R w := fun w => by rw [← S.v8_eq]; exact equal_dig D E LD.out LE.out R hR2.symm w
    have ED := hide hD
    have EE := hide hE
    have hsz := size_dig rt HRT.out
    have hsz2 : (Tryd.prog.info? 23).map (·.size) = some (S.v8l D).length := by rw [S.v8l_length, LD.out]; exact size23
    clear hts hc htx hR2 hlen hfit hm e9n e9' e9b hcl hx hxs hxl hxm hcwa hD hE HR
    go_upto_region 4 with fail
    go_cut [15] from 27 (fun p15 wc => ∃ g15, p15 = .pointer (some ⟨g15, 0, none⟩) ∧ Hid (wc.heap[g15]? = some (.cells (S.v8 D) 23 (0, 0))) ∧ Hid (Below w2.heap.size w2 wc))
    case first =>
      clear heq
      refine wp_region_noPanic ?_
      refine wp_region_held_drew (S := (fun W => Chg (fun _ => False) w2 W)) follows ((Chg.refl _ _).drew) (fun hHeld => ?_)
      clear hHeld
      have hHeld : Chg (fun _ => False) w2 w2.drew := (Chg.refl _ _).drew
      have CZ0 := hide hHeld
      generalize w2.drew = Z0 at CZ0 hHeld ⊢
      refine wpAnyH_take (i := 0) (oi := { dst := some 27, op := Op.move (Operand.tmp 0), type := 33, pos := "ref.go:16", after := #[], guard := none }) (v := ?_) rfl (by kernel_rfl) (by kernel_rfl) (by kernel_rfl) (fun _ _ _ h => h) (Or.inl ⟨by rfl, ?_⟩) (by assumption) ?_
      rotate_left
      · intro w hSw
        clear hSw
        go_simp
        all_goals with_reducible rfl
      simp only [Act.put, List.setIfInBounds_toArray, List.set_cons_zero, List.set_cons_succ]
      refine wpAnyH_take (i := 1) (oi := { dst := some 28, op := Op.nilCheck (Operand.tmp 27), type := 0, pos := "ref.go:16", after := #[{ on := 0, ground := Ground.data }], guard := none }) (v := ?_) rfl (by kernel_rfl) (by kernel_rfl) (by kernel_rfl) (fun _ _ _ h => h) (Or.inl ⟨by rfl, ?_⟩) (by assumption) ?_
      rotate_left
      · intro w hSw
        clear hSw
        go_simp
        all_goals with_reducible rfl
      simp only [Act.put, List.setIfInBounds_toArray, List.set_cons_zero, List.set_cons_succ]
      refine wpAnyH_take (i := 2) (oi := { dst := some 29, op := Op.fieldAddr 76 (Operand.tmp 28) 0, type := 0, pos := "ref.go:16", after := #[{ on := 1, ground := Ground.data }], guard := none }) (v := ?_) rfl (by kernel_rfl) (by kernel_rfl) (by kernel_rfl) (fun _ _ _ h => h) (Or.inl ⟨by rfl, ?_⟩) (by assumption) ?_
      rotate_left
      · intro w hSw
        clear hSw
        go_simp
        all_goals with_reducible rfl
      simp only [Act.put, List.setIfInBounds_toArray, List.set_cons_zero, List.set_cons_succ]
      refine wpAnyH_take (i := 3) (oi := { dst := some 30, op := Op.load 71 (Operand.tmp 29), type := 71, pos := "ref.go:16", after := #[{ on := 2, ground := Ground.data }], guard := none }) (v := ?_) rfl (by kernel_rfl) (by kernel_rfl) (by kernel_rfl) (fun _ _ _ h => h) (Or.inl ⟨by rfl, ?_⟩) (by assumption) ?_
      rotate_left
      · intro w hSw
        have c4 := (cells2 (HH2.out.below (hSw.below _ (Nat.le_refl _) (fun _ _ e => e)) (Nat.le_refl _)).h).1
        clear hSw
        go_simp
        all_goals with_reducible rfl
      simp only [Act.put, List.setIfInBounds_toArray, List.set_cons_zero, List.set_cons_succ]
      refine wpAnyH_take (i := 4) (oi := { dst := some 31, op := Op.move (Operand.tmp 13), type := 41, pos := "ref.go:16", after := #[], guard := none }) (v := ?_) rfl (by kernel_rfl) (by kernel_rfl) (by kernel_rfl) (fun _ _ _ h => h) (Or.inl ⟨by rfl, ?_⟩) (by assumption) ?_
      rotate_left
      · intro w hSw
        clear hSw
        go_simp
        all_goals with_reducible rfl
      simp only [Act.put, List.setIfInBounds_toArray, List.set_cons_zero, List.set_cons_succ]
      refine wpAnyH_take (i := 5) (oi := { dst := some 32, op := Op.move (Operand.tmp 13), type := 41, pos := "ref.go:16", after := #[], guard := none }) (v := ?_) rfl (by kernel_rfl) (by kernel_rfl) (by kernel_rfl) (fun _ _ _ h => h) (Or.inl ⟨by rfl, ?_⟩) (by assumption) ?_
      rotate_left
      · intro w hSw
        clear hSw
        go_simp
        all_goals with_reducible rfl
      simp only [Act.put, List.setIfInBounds_toArray, List.set_cons_zero, List.set_cons_succ]
      refine wpAnyH_take (i := 6) (oi := { dst := some 33, op := Op.call { callee := Callee.builtin Builtin.len, args := #[Operand.tmp 32], argTypes := #[41] }, type := 3, pos := "ref.go:16", after := #[{ on := 5, ground := Ground.data }], guard := none }) (v := ?_) rfl (by kernel_rfl) (by kernel_rfl) (by kernel_rfl) (fun _ _ _ h => h) (Or.inl ⟨by rfl, ?_⟩) (by assumption) ?_
      rotate_left
      · intro w hSw
        clear hSw
        go_simp
        all_goals with_reducible rfl
      simp only [Act.put, List.setIfInBounds_toArray, List.set_cons_zero, List.set_cons_succ]
      refine wpAnyH_take (i := 7) (oi := { dst := some 34, op := Op.binOp BinOp.sub 3 (Operand.tmp 33) (Operand.const (Value.int IntKind.i64 1)) 3, type := 3, pos := "ref.go:16", after := #[{ on := 6, ground := Ground.data }], guard := none }) (v := ?_) rfl (by kernel_rfl) (by kernel_rfl) (by kernel_rfl) (fun _ _ _ h => h) (Or.inl ⟨by rfl, ?_⟩) (by assumption) ?_
      rotate_left
      · intro w hSw
        clear hSw
        go_simp
        all_goals with_reducible rfl
      simp only [Act.put, List.setIfInBounds_toArray, List.set_cons_zero, List.set_cons_succ]
      refine wpAnyH_take (i := 8) (oi := { dst := some 35, op := Op.indexAddr 41 (Operand.tmp 31) (Operand.tmp 34), type := 0, pos := "ref.go:16", after := #[{ on := 4, ground := Ground.data }, { on := 7, ground := Ground.data }], guard := none }) (v := ?_) rfl (by kernel_rfl) (by kernel_rfl) (by kernel_rfl) (fun _ _ _ h => h) (Or.inl ⟨by rfl, ?_⟩) (by assumption) ?_
      rotate_left
      · intro w hSw
        clear hSw
        go_simp
        all_goals with_reducible rfl
      simp only [Act.put, List.setIfInBounds_toArray, List.set_cons_zero, List.set_cons_succ]
      refine wpAnyH_take (i := 9) (oi := { dst := some 36, op := Op.load 25 (Operand.tmp 35), type := 25, pos := "ref.go:16", after := #[{ on := 8, ground := Ground.data }], guard := none }) (v := ?_) rfl (by kernel_rfl) (by kernel_rfl) (by kernel_rfl) (fun _ _ _ h => h) (Or.inl ⟨by rfl, ?_⟩) (by assumption) ?_
      rotate_left
      · intro w hSw
        have c4 := ((hSw.below _ (Nat.le_refl _) (fun _ _ e => e)).cell (p := ⟨bl, offl + m, none⟩) HBLT.out).trans CX.out
        clear hSw
        go_simp
        all_goals with_reducible rfl
      simp only [Act.put, List.setIfInBounds_toArray, List.set_cons_zero, List.set_cons_succ]
      refine wpAnyH_take (i := 11) (oi := { dst := some 38, op := Op.move (Operand.tmp 0), type := 33, pos := "ref.go:16", after := #[], guard := none }) (v := ?_) rfl (by kernel_rfl) (by kernel_rfl) (by kernel_rfl) (fun _ _ _ h => h) (Or.inl ⟨by rfl, ?_⟩) (by assumption) ?_
      rotate_left
      · intro w hSw
        clear hSw
        go_simp
        all_goals with_reducible rfl
      simp only [Act.put, List.setIfInBounds_toArray, List.set_cons_zero, List.set_cons_succ]
      refine wpAnyH_take (i := 12) (oi := { dst := some 39, op := Op.nilCheck (Operand.tmp 38), type := 0, pos := "ref.go:16", after := #[{ on := 11, ground := Ground.data }], guard := none }) (v := ?_) rfl (by kernel_rfl) (by kernel_rfl) (by kernel_rfl) (fun _ _ _ h => h) (Or.inl ⟨by rfl, ?_⟩) (by assumption) ?_
      rotate_left
      · intro w hSw
        clear hSw
        go_simp
        all_goals with_reducible rfl
      simp only [Act.put, List.setIfInBounds_toArray, List.set_cons_zero, List.set_cons_succ]
      refine wpAnyH_take (i := 13) (oi := { dst := some 40, op := Op.fieldAddr 76 (Operand.tmp 39) 1, type := 0, pos := "ref.go:16", after := #[{ on := 12, ground := Ground.data }], guard := none }) (v := ?_) rfl (by kernel_rfl) (by kernel_rfl) (by kernel_rfl) (fun _ _ _ h => h) (Or.inl ⟨by rfl, ?_⟩) (by assumption) ?_
      rotate_left
      · intro w hSw
        clear hSw
        go_simp
        all_goals with_reducible rfl
      simp only [Act.put, List.setIfInBounds_toArray, List.set_cons_zero, List.set_cons_succ]
      refine wpAnyH_take (i := 14) (oi := { dst := some 41, op := Op.load 3 (Operand.tmp 40), type := 3, pos := "ref.go:16", after := #[{ on := 13, ground := Ground.data }], guard := none }) (v := ?_) rfl (by kernel_rfl) (by kernel_rfl) (by kernel_rfl) (fun _ _ _ h => h) (Or.inl ⟨by rfl, ?_⟩) (by assumption) ?_
      rotate_left
      · intro w hSw
        have c4 : w.cell? ⟨gh, 1, none⟩ = some (.int .i64 (cwa : Int)) := by rw [HCW.out]; exact (cells2 (HH2.out.below (hSw.below _ (Nat.le_refl _) (fun _ _ e => e)) (Nat.le_refl _)).h).2
        clear hSw
        go_simp
        all_goals with_reducible rfl
      simp only [Act.put, List.setIfInBounds_toArray, List.set_cons_zero, List.set_cons_succ]
      refine wpAnyH_ready (rs := [10, 16]) (by kernel_rfl) (by simp) ?_
      refine AllReadyH.cons (o := { dst := some 37, op := Op.call { callee := Callee.value (Operand.func 42), args := #[Operand.tmp 30, Operand.tmp 36], argTypes := #[71, 25] }, type := 23, pos := "ref.go:16", after := #[{ on := 3, ground := Ground.data }, { on := 9, ground := Ground.data }], guard := none }) rfl (fun K hK => ?_) ?_
      · skip
        go_simp
        refine (rsum_any gT _ (S.lastOf ts) Z0 (HH2.out.below (CZ0.out.below _ (Nat.le_refl _) (fun _ _ e => e)) (Nat.le_refl _)).t (XS.out.below (CZ0.out.below _ (Nat.le_refl _) (fun _ _ e => e)) (Nat.le_refl _)) HTL.out).mono ?_
        rintro e Z1 ⟨rfl, hb2⟩
        obtain ⟨D0, hD0⟩ : ∃ D, D = S.sum (S.lastOf ts) := ⟨_, rfl⟩
        have LD0 := hide (show D0.length = 32 by rw [hD0, S.sum_length])
        rw [← hD0]
        have ED0 := hide hD0
        clear hD0
        have CZ1 : Hid (Chg (fun _ => False) w2 Z1) := CZ0.out.then hb2
        clear hb2 CZ0
        clear hHeld
        refine hK.out _ _ CZ1.out (fun hHeld => ?_)
        clear hK K
        try simp only [Act.put, List.setIfInBounds_toArray, List.set_cons_zero, List.set_cons_succ]
        refine wpAnyH_ready (rs := [15, 16]) (by kernel_rfl) (by simp) ?_
        refine AllReadyH.cons (o := { dst := some 42, op := Op.call { callee := Callee.value (Operand.func 41), args := #[Operand.tmp 37, Operand.tmp 41], argTypes := #[23, 3] }, type := 23, pos := "ref.go:16", after := #[{ on := 10, ground := Ground.data }, { on := 14, ground := Ground.data }, { on := 10, ground := Ground.chain }], guard := none }) rfl (fun K hK => ?_) ?_
        · skip
          go_simp
          refine (rcut_all D0 LD0.out (cwa : Int) Z1).mono ?_
          rintro e Z2 ⟨rfl, hb2⟩
          rw [show S.cut D0 (cwa : Int).toNat = D by rw [ED0.out, ED.out, HCW.out]; rfl]
          have CZ2 : Hid (Chg (fun _ => False) w2 Z2) := CZ1.out.then hb2
          clear hb2 CZ1
          clear hHeld
          refine hK.out _ _ CZ2.out (fun hHeld => ?_)
          clear hK K
          try simp only [Act.put, List.setIfInBounds_toArray, List.set_cons_zero, List.set_cons_succ]
          refine wpAnyH_ready (rs := [16]) (by kernel_rfl) (by simp) ?_
          refine step_alloc_as (o := { dst := some 15, op := Op.alloc 23, type := 0, pos := "ref.go:16", after := #[], guard := none }) rfl rfl 23 rfl _ _ (alloc31 Z2) AllReadyH.nil ⟨CZ2.out.alloc _, fun hHeld => ?_⟩
          clear hHeld
          simp only [Act.put, List.setIfInBounds_toArray, List.set_cons_zero, List.set_cons_succ]
          obtain ⟨g15, hg15⟩ : ∃ gg, gg = Z2.heap.size := ⟨_, rfl⟩
          rw [← hg15]
          generalize hZ : Z2.alloc _ = Z3
          have hb2 : Below Z2.heap.size Z2 Z3 := by rw [← hZ]; exact (Below.refl _ _).alloc (Nat.le_refl _) _
          have Rg15 : Hid (Z3.heap[g15]? = some (.cells (S.v8 (S.zeros 32)) 23 (0, 0))) := by rw [← hZ, hg15]; exact heap_alloc_new _ _
          have Gg15 := hide (show w2.heap.size ≤ g15 by rw [hg15]; exact CZ2.out.size)
          clear hZ hg15
          have CZ3 : Hid (Chg (fun _ => False) w2 Z3) := CZ2.out.then hb2
          clear hb2 CZ2
          have hHeld := CZ3.out
          refine wpAnyH_ready (rs := [17]) (by kernel_rfl) (by simp) ?_
          obtain ⟨Z4, hst, r6, C6, s6⟩ := store_dig Rg15.out (S.zeros_length _) LD.out
          refine step_store_as (o := { dst := none, op := Op.store 23 (Operand.tmp 15) (Operand.tmp 42), type := 0, pos := "ref.go:16", after := #[{ on := 16, ground := Ground.data }, { on := 15, ground := Ground.data }, { on := 15, ground := Ground.chain }, { on := 0, ground := Ground.phase }, { on := 1, ground := Ground.phase }, { on := 2, ground := Ground.phase }, { on := 3, ground := Ground.phase }, { on := 4, ground := Ground.phase }, { on := 5, ground := Ground.phase }, { on := 6, ground := Ground.phase }, { on := 7, ground := Ground.phase }, { on := 8, ground := Ground.phase }, { on := 9, ground := Ground.phase }, { on := 10, ground := Ground.phase }, { on := 11, ground := Ground.phase }, { on := 12, ground := Ground.phase }, { on := 13, ground := Ground.phase }, { on := 14, ground := Ground.phase }, { on := 15, ground := Ground.phase }, { on := 16, ground := Ground.phase }], guard := none }) rfl rfl 23 (.tmp 15) (.tmp 42) rfl _ _ rfl rfl Z4 hst AllReadyH.nil ⟨CZ3.out.trans C6 (fun k hk e => by have := Gg15.out; omega), fun hHeld => ?_⟩
          replace Rg15 : Hid (Z4.heap[g15]? = some (.cells (S.v8 D) 23 (0, 0))) := r6
          have CZ4 : Hid (Chg (fun _ => False) w2 Z4) := CZ3.out.trans C6 (fun k hk e => by have := Gg15.out; omega)
          clear hst r6 C6 s6 CZ3
          simp only [Act.put]
          refine wpAnyH_done (by kernel_rfl) ?_ _
          refine NoPanic.normal ?_
          clear hHeld
          have BF := hide (show Below w2.heap.size w2 Z4 from (CZ4.out.below _ (Nat.le_refl _) (fun _ _ e => e)))
          go_wp2_with fail
          go_meet
          case rel => exact ⟨g15, rfl, Rg15, BF⟩
        refine step_alloc_as (o := { dst := some 15, op := Op.alloc 23, type := 0, pos := "ref.go:16", after := #[], guard := none }) rfl rfl 23 rfl _ _ (alloc31 Z1) AllReadyH.nil ⟨CZ1.out.alloc _, fun hHeld => ?_⟩
        clear hHeld
        simp only [Act.put, List.setIfInBounds_toArray, List.set_cons_zero, List.set_cons_succ]
        obtain ⟨g15, hg15⟩ : ∃ gg, gg = Z1.heap.size := ⟨_, rfl⟩
        rw [← hg15]
        generalize hZ : Z1.alloc _ = Z2
        have hb2 : Below Z1.heap.size Z1 Z2 := by rw [← hZ]; exact (Below.refl _ _).alloc (Nat.le_refl _) _
        have Rg15 : Hid (Z2.heap[g15]? = some (.cells (S.v8 (S.zeros 32)) 23 (0, 0))) := by rw [← hZ, hg15]; exact heap_alloc_new _ _
        have Gg15 := hide (show w2.heap.size ≤ g15 by rw [hg15]; exact CZ1.out.size)
        clear hZ hg15
        have CZ2 : Hid (Chg (fun _ => False) w2 Z2) := CZ1.out.then hb2
        clear hb2 CZ1
        have hHeld := CZ2.out
        refine wpAnyH_ready (rs := [15]) (by kernel_rfl) (by simp) ?_
        refine AllReadyH.cons (o := { dst := some 42, op := Op.call { callee := Callee.value (Operand.func 41), args := #[Operand.tmp 37, Operand.tmp 41], argTypes := #[23, 3] }, type := 23, pos := "ref.go:16", after := #[{ on := 10, ground := Ground.data }, { on := 14, ground := Ground.data }, { on := 10, ground := Ground.chain }], guard := none }) rfl (fun K hK => ?_) AllReadyH.nil
        go_simp
        refine (rcut_all D0 LD0.out (cwa : Int) Z2).mono ?_
        rintro e Z3 ⟨rfl, hb2⟩
        rw [show S.cut D0 (cwa : Int).toNat = D by rw [ED0.out, ED.out, HCW.out]; rfl]
        replace Rg15 : Hid (Z3.heap[g15]? = some (.cells (S.v8 (S.zeros 32)) 23 (0, 0))) := (hb2.block _ (block_lt_of_row Rg15.out)).trans Rg15.out
        have CZ3 : Hid (Chg (fun _ => False) w2 Z3) := CZ2.out.then hb2
        clear hb2 CZ2
        clear hHeld
        refine hK.out _ _ CZ3.out (fun hHeld => ?_)
        clear hK K
        try simp only [Act.put, List.setIfInBounds_toArray, List.set_cons_zero, List.set_cons_succ]
        refine wpAnyH_ready (rs := [17]) (by kernel_rfl) (by simp) ?_
        obtain ⟨Z4, hst, r6, C6, s6⟩ := store_dig Rg15.out (S.zeros_length _) LD.out
        refine step_store_as (o := { dst := none, op := Op.store 23 (Operand.tmp 15) (Operand.tmp 42), type := 0, pos := "ref.go:16", after := #[{ on := 16, ground := Ground.data }, { on := 15, ground := Ground.data }, { on := 15, ground := Ground.chain }, { on := 0, ground := Ground.phase }, { on := 1, ground := Ground.phase }, { on := 2, ground := Ground.phase }, { on := 3, ground := Ground.phase }, { on := 4, ground := Ground.phase }, { on := 5, ground := Ground.phase }, { on := 6, ground := Ground.phase }, { on := 7, ground := Ground.phase }, { on := 8, ground := Ground.phase }, { on := 9, ground := Ground.phase }, { on := 10, ground := Ground.phase }, { on := 11, ground := Ground.phase }, { on := 12, ground := Ground.phase }, { on := 13, ground := Ground.phase }, { on := 14, ground := Ground.phase }, { on := 15, ground := Ground.phase }, { on := 16, ground := Ground.phase }], guard := none }) rfl rfl 23 (.tmp 15) (.tmp 42) rfl _ _ rfl rfl Z4 hst AllReadyH.nil ⟨CZ3.out.trans C6 (fun k hk e => by have := Gg15.out; omega), fun hHeld => ?_⟩
        replace Rg15 : Hid (Z4.heap[g15]? = some (.cells (S.v8 D) 23 (0, 0))) := r6
        have CZ4 : Hid (Chg (fun _ => False) w2 Z4) := CZ3.out.trans C6 (fun k hk e => by have := Gg15.out; omega)
        clear hst r6 C6 s6 CZ3
        simp only [Act.put]
        refine wpAnyH_done (by kernel_rfl) ?_ _
        refine NoPanic.normal ?_
        clear hHeld
        have BF := hide (show Below w2.heap.size w2 Z4 from (CZ4.out.below _ (Nat.le_refl _) (fun _ _ e => e)))
        go_wp2_with fail
        go_meet
        case rel => exact ⟨g15, rfl, Rg15, BF⟩
      refine step_alloc_as (o := { dst := some 15, op := Op.alloc 23, type := 0, pos := "ref.go:16", after := #[], guard := none }) rfl rfl 23 rfl _ _ (alloc31 Z0) AllReadyH.nil ⟨CZ0.out.alloc _, fun hHeld => ?_⟩
      clear hHeld
      simp only [Act.put, List.setIfInBounds_toArray, List.set_cons_zero, List.set_cons_succ]
      obtain ⟨g15, hg15⟩ : ∃ gg, gg = Z0.heap.size := ⟨_, rfl⟩
      rw [← hg15]
      generalize hZ : Z0.alloc _ = Z1
      have hb2 : Below Z0.heap.size Z0 Z1 := by rw [← hZ]; exact (Below.refl _ _).alloc (Nat.le_refl _) _
      have Rg15 : Hid (Z1.heap[g15]? = some (.cells (S.v8 (S.zeros 32)) 23 (0, 0))) := by rw [← hZ, hg15]; exact heap_alloc_new _ _
      have Gg15 := hide (show w2.heap.size ≤ g15 by rw [hg15]; exact CZ0.out.size)
      clear hZ hg15
      have CZ1 : Hid (Chg (fun _ => False) w2 Z1) := CZ0.out.then hb2
      clear hb2 CZ0
      have hHeld := CZ1.out
      refine wpAnyH_ready (rs := [10]) (by kernel_rfl) (by simp) ?_
      refine AllReadyH.cons (o := { dst := some 37, op := Op.call { callee := Callee.value (Operand.func 42), args := #[Operand.tmp 30, Operand.tmp 36], argTypes := #[71, 25] }, type := 23, pos := "ref.go:16", after := #[{ on := 3, ground := Ground.data }, { on := 9, ground := Ground.data }], guard := none }) rfl (fun K hK => ?_) AllReadyH.nil
      go_simp
      refine (rsum_any gT _ (S.lastOf ts) Z1 (HH2.out.below (CZ1.out.below _ (Nat.le_refl _) (fun _ _ e => e)) (Nat.le_refl _)).t (XS.out.below (CZ1.out.below _ (Nat.le_refl _) (fun _ _ e => e)) (Nat.le_refl _)) HTL.out).mono ?_
      rintro e Z2 ⟨rfl, hb2⟩
      obtain ⟨D0, hD0⟩ : ∃ D, D = S.sum (S.lastOf ts) := ⟨_, rfl⟩
      have LD0 := hide (show D0.length = 32 by rw [hD0, S.sum_length])
      rw [← hD0]
      have ED0 := hide hD0
      clear hD0
      replace Rg15 : Hid (Z2.heap[g15]? = some (.cells (S.v8 (S.zeros 32)) 23 (0, 0))) := (hb2.block _ (block_lt_of_row Rg15.out)).trans Rg15.out
      have CZ2 : Hid (Chg (fun _ => False) w2 Z2) := CZ1.out.then hb2
      clear hb2 CZ1
      clear hHeld
      refine hK.out _ _ CZ2.out (fun hHeld => ?_)
      clear hK K
      try simp only [Act.put, List.setIfInBounds_toArray, List.set_cons_zero, List.set_cons_succ]
      refine wpAnyH_ready (rs := [15]) (by kernel_rfl) (by simp) ?_
      refine AllReadyH.cons (o := { dst := some 42, op := Op.call { callee := Callee.value (Operand.func 41), args := #[Operand.tmp 37, Operand.tmp 41], argTypes := #[23, 3] }, type := 23, pos := "ref.go:16", after := #[{ on := 10, ground := Ground.data }, { on := 14, ground := Ground.data }, { on := 10, ground := Ground.chain }], guard := none }) rfl (fun K hK => ?_) AllReadyH.nil
      go_simp
      refine (rcut_all D0 LD0.out (cwa : Int) Z2).mono ?_
      rintro e Z3 ⟨rfl, hb2⟩
      rw [show S.cut D0 (cwa : Int).toNat = D by rw [ED0.out, ED.out, HCW.out]; rfl]
      replace Rg15 : Hid (Z3.heap[g15]? = some (.cells (S.v8 (S.zeros 32)) 23 (0, 0))) := (hb2.block _ (block_lt_of_row Rg15.out)).trans Rg15.out
      have CZ3 : Hid (Chg (fun _ => False) w2 Z3) := CZ2.out.then hb2
      clear hb2 CZ2
      clear hHeld
      refine hK.out _ _ CZ3.out (fun hHeld => ?_)
      clear hK K
      try simp only [Act.put, List.setIfInBounds_toArray, List.set_cons_zero, List.set_cons_succ]
      refine wpAnyH_ready (rs := [17]) (by kernel_rfl) (by simp) ?_
      obtain ⟨Z4, hst, r6, C6, s6⟩ := store_dig Rg15.out (S.zeros_length _) LD.out
      refine step_store_as (o := { dst := none, op := Op.store 23 (Operand.tmp 15) (Operand.tmp 42), type := 0, pos := "ref.go:16", after := #[{ on := 16, ground := Ground.data }, { on := 15, ground := Ground.data }, { on := 15, ground := Ground.chain }, { on := 0, ground := Ground.phase }, { on := 1, ground := Ground.phase }, { on := 2, ground := Ground.phase }, { on := 3, ground := Ground.phase }, { on := 4, ground := Ground.phase }, { on := 5, ground := Ground.phase }, { on := 6, ground := Ground.phase }, { on := 7, ground := Ground.phase }, { on := 8, ground := Ground.phase }, { on := 9, ground := Ground.phase }, { on := 10, ground := Ground.phase }, { on := 11, ground := Ground.phase }, { on := 12, ground := Ground.phase }, { on := 13, ground := Ground.phase }, { on := 14, ground := Ground.phase }, { on := 15, ground := Ground.phase }, { on := 16, ground := Ground.phase }], guard := none }) rfl rfl 23 (.tmp 15) (.tmp 42) rfl _ _ rfl rfl Z4 hst AllReadyH.nil ⟨CZ3.out.trans C6 (fun k hk e => by have := Gg15.out; omega), fun hHeld => ?_⟩
      replace Rg15 : Hid (Z4.heap[g15]? = some (.cells (S.v8 D) 23 (0, 0))) := r6
      have CZ4 : Hid (Chg (fun _ => False) w2 Z4) := CZ3.out.trans C6 (fun k hk e => by have := Gg15.out; omega)
      clear hst r6 C6 s6 CZ3
      simp only [Act.put]
      refine wpAnyH_done (by kernel_rfl) ?_ _
      refine NoPanic.normal ?_
      clear hHeld
      have BF := hide (show Below w2.heap.size w2 Z4 from (CZ4.out.below _ (Nat.le_refl _) (fun _ _ e => e)))
      go_wp2_with fail
      go_meet
      case rel => exact ⟨g15, rfl, Rg15, BF⟩
    obtain ⟨g15, rfl, R15, BWC⟩ := hcut
    have HBC := hide (HB.out.trans (BWC.out.mono HB.out.size))
    have HHc : Hid (HsAt wc gh gT a) := HH2.out.below BWC.out (Nat.le_refl _)
    have QC : Hid (wc.heap[w.heap.size]? = some (.cells (S.v8 rt) 23 (0, 0))) := (BWC.out.block _ (block_lt_of_row Q.out)).trans Q.out
    clear HB HH2 BWC CX XS e1 Q
    go_upto_region 5 with fail
    refine wp_region_noPanic ?_
    refine wp_region_held_drew (S := (fun W => Chg (fun _ => False) wc W)) follows ((Chg.refl _ _).drew) (fun hHeld => ?_)
    clear hHeld
    have hHeld : Chg (fun _ => False) wc wc.drew := (Chg.refl _ _).drew
    have CZ0 := hide hHeld
    generalize wc.drew = Z0 at CZ0 hHeld ⊢
    refine wpAnyH_take (i := 0) (oi := { dst := some 43, op := Op.load 23 (Operand.tmp 15), type := 23, pos := "ref.go:17", after := #[], guard := none }) (v := .agg (S.v8l D).toArray) rfl (by kernel_rfl) (by kernel_rfl) (by kernel_rfl) (fun _ _ _ h => h) (yieldsIf_load_mid (by rfl) _ _ rfl g15 0 rfl (S.v8l D) _ (fun _ hSw => rangeAt_row (hSw.row R15.out (fun e => e))) Tryd.underlying23 rfl hsz2) (by assumption) ?_
    simp only [Act.put, List.setIfInBounds_toArray, List.set_cons_zero, List.set_cons_succ]
    refine wpAnyH_take (i := 1) (oi := { dst := some 44, op := Op.load 23 (Operand.tmp 11), type := 23, pos := "ref.go:17", after := #[], guard := none }) (v := .agg (S.v8l rt).toArray) rfl (by kernel_rfl) (by kernel_rfl) (by kernel_rfl) (fun _ _ _ h => h) (yieldsIf_load_mid (by rfl) _ _ rfl w.heap.size 0 rfl (S.v8l rt) _ (fun _ hSw => rangeAt_row (hSw.row QC.out (fun e => e))) Tryd.underlying23 rfl hsz) (by assumption) ?_
    simp only [Act.put, List.setIfInBounds_toArray, List.set_cons_zero, List.set_cons_succ]
    refine wpAnyH_take (i := 2) (oi := { dst := some 45, op := Op.move (Operand.tmp 0), type := 33, pos := "ref.go:17", after := #[], guard := none }) (v := ?_) rfl (by kernel_rfl) (by kernel_rfl) (by kernel_rfl) (fun _ _ _ h => h) (Or.inl ⟨by rfl, ?_⟩) (by assumption) ?_
    rotate_left
    · intro w hSw
      clear hSw
      go_simp
      all_goals with_reducible rfl
    simp only [Act.put, List.setIfInBounds_toArray, List.set_cons_zero, List.set_cons_succ]
    refine wpAnyH_take (i := 3) (oi := { dst := some 46, op := Op.nilCheck (Operand.tmp 45), type := 0, pos := "ref.go:17", after := #[{ on := 2, ground := Ground.data }], guard := none }) (v := ?_) rfl (by kernel_rfl) (by kernel_rfl) (by kernel_rfl) (fun _ _ _ h => h) (Or.inl ⟨by rfl, ?_⟩) (by assumption) ?_
    rotate_left
    · intro w hSw
      clear hSw
      go_simp
      all_goals with_reducible rfl
    simp only [Act.put, List.setIfInBounds_toArray, List.set_cons_zero, List.set_cons_succ]
    refine wpAnyH_take (i := 4) (oi := { dst := some 47, op := Op.fieldAddr 76 (Operand.tmp 46) 1, type := 0, pos := "ref.go:17", after := #[{ on := 3, ground := Ground.data }], guard := none }) (v := ?_) rfl (by kernel_rfl) (by kernel_rfl) (by kernel_rfl) (fun _ _ _ h => h) (Or.inl ⟨by rfl, ?_⟩) (by assumption) ?_
    rotate_left
    · intro w hSw
      clear hSw
      go_simp
      all_goals with_reducible rfl
    simp only [Act.put, List.setIfInBounds_toArray, List.set_cons_zero, List.set_cons_succ]
    refine wpAnyH_take (i := 5) (oi := { dst := some 48, op := Op.load 3 (Operand.tmp 47), type := 3, pos := "ref.go:17", after := #[{ on := 4, ground := Ground.data }], guard := none }) (v := ?_) rfl (by kernel_rfl) (by kernel_rfl) (by kernel_rfl) (fun _ _ _ h => h) (Or.inl ⟨by rfl, ?_⟩) (by assumption) ?_
    rotate_left
    · intro w hSw
      have c4 : w.cell? ⟨gh, 1, none⟩ = some (.int .i64 (cwa : Int)) := by rw [HCW.out]; exact (cells2 (HHc.out.below (hSw.below _ (Nat.le_refl _) (fun _ _ e => e)) (Nat.le_refl _)).h).2
      clear hSw
      go_simp
      all_goals with_reducible rfl
    simp only [Act.put, List.setIfInBounds_toArray, List.set_cons_zero, List.set_cons_succ]
    refine wpAnyH_ready (rs := [6]) (by kernel_rfl) (by simp) ?_
    refine AllReadyH.cons (o := { dst := some 49, op := Op.call { callee := Callee.value (Operand.func 41), args := #[Operand.tmp 44, Operand.tmp 48], argTypes := #[23, 3] }, type := 23, pos := "ref.go:17", after := #[{ on := 1, ground := Ground.data }, { on := 5, ground := Ground.data }], guard := none }) rfl (fun K hK => ?_) AllReadyH.nil
    go_simp
    refine (rcut_all rt HRT.out (cwa : Int) Z0).mono ?_
    rintro e Z1 ⟨rfl, hb2⟩
    rw [show S.cut rt (cwa : Int).toNat = E by rw [EE.out]; rfl]
    have CZ1 : Hid (Chg (fun _ => False) wc Z1) := CZ0.out.then hb2
    clear hb2 CZ0
    clear hHeld
    refine hK.out _ _ CZ1.out (fun hHeld => ?_)
    clear hK K
    try simp only [Act.put, List.setIfInBounds_toArray, List.set_cons_zero, List.set_cons_succ]
    refine wpAnyH_take (i := 7) (oi := { dst := some 50, op := Op.binOp BinOp.eql 23 (Operand.tmp 43) (Operand.tmp 49) 23, type := 4, pos := "ref.go:17", after := #[{ on := 0, ground := Ground.data }, { on := 6, ground := Ground.data }], guard := none }) (v := ?_) rfl (by kernel_rfl) (by kernel_rfl) (by kernel_rfl) (fun _ _ _ h => h) (Or.inl ⟨by rfl, ?_⟩) (by assumption) ?_
    rotate_left
    · intro w hSw
      clear hSw
      go_simp
      all_goals with_reducible rfl
    simp only [Act.put, List.setIfInBounds_toArray, List.set_cons_zero, List.set_cons_succ]
    refine wpAnyH_take (i := 8) (oi := { dst := some 12, op := Op.assign (Operand.tmp 50), type := 4, pos := "ref.go:17", after := #[{ on := 7, ground := Ground.data }, { on := 6, ground := Ground.chain }, { on := 0, ground := Ground.phase }, { on := 1, ground := Ground.phase }, { on := 2, ground := Ground.phase }, { on := 3, ground := Ground.phase }, { on := 4, ground := Ground.phase }, { on := 5, ground := Ground.phase }, { on := 6, ground := Ground.phase }, { on := 7, ground := Ground.phase }], guard := none }) (v := ?_) rfl (by kernel_rfl) (by kernel_rfl) (by kernel_rfl) (fun _ _ _ h => h) (Or.inl ⟨by rfl, ?_⟩) (by assumption) ?_
    rotate_left
    · intro w hSw
      clear hSw
      go_simp
      all_goals with_reducible rfl
    simp only [Act.put, List.setIfInBounds_toArray, List.set_cons_zero, List.set_cons_succ]
    refine wpAnyH_done (by kernel_rfl) ?_ _
    refine NoPanic.normal ?_
    have BF := hide (HBC.out.trans (CZ1.out.below w.heap.size HBC.out.size (fun k hk e => e)))
    clear hHeld heq
    go_wp2_with fail
    go_ret
    exact ⟨rfl, BF.out⟩
end Go.Proofs.YtlbggkmblkhjoaaDoor
namespace Go.Proofs.YtlbggkmblkhjoaaDoor
open Go.RowKit

theorem V.pre_cons (nd : List UInt8 → List UInt8 → List UInt8) (f s : Nat) (c : List UInt8) (cs : List (List UInt8)) : V.pre nd f s (c :: cs) = V.runP nd (V.low 64 f s).1 (V.low 64 f s).2 c c cs := rfl
theorem DgRow.at {B : Nat} {w : World} {v : Value} {ds : List (List UInt8)} (h : DgRow B w v ds) (hl : ds.length ≤ 1000000) (hd : ∀ d ∈ ds, d.length = 32) (k : Nat) (hk : k < ds.length) : ∃ g cap, v = .slice (some ⟨g, 0, none⟩) ds.length cap ∧ B ≤ g ∧ g < w.heap.size ∧ w.rangeAt g (k * 32) (S.v8l (ds.getD k [])) := by
  have h1 := h.dgAt hl hd
  rcases h.2 with ⟨rfl, h0⟩ | ⟨g, cap, cur, rfl, hB, hr, _⟩
  · omega
  · obtain ⟨g', off, cap', e, h3, h4, _⟩ := dg_at h1 k hk
    simp only [Value.slice.injEq, Option.some.injEq, Addr.mk.injEq] at e
    obtain ⟨⟨rfl, rfl, -⟩, -, rfl⟩ := e
    refine ⟨g, cap, rfl, hB, h3, ?_⟩
    rw [Nat.zero_add] at h4
    exact h4
theorem run_append_dig2 (w : World) (B g : Nat) (v : Value) (ds : List (List UInt8)) (D : List UInt8) (ty : TypeId) (hown : DgRow B w v ds) (hD : D.length = 32) (hu : w.heap[g]? = some (.cells (S.v8 D) 23 (0, 0))) (hl : ds.length ≤ 100000) (hB : B ≤ w.heap.size) :
    ∃ v' w', (Builtin.append_ #[32, 32] ty #[v, .slice (some ⟨g, 0, none⟩) 1 1]).run Tryd.prog w = .ok v' w' ∧ (DgRow B w' v' (ds ++ [D]) ∧ Chg (fun k => B ≤ k) w w') := by
  obtain ⟨v', w', h1, h2, h3⟩ := run_append_dig w B g v ds D ty hown hD hu hl hB
  exact ⟨v', w', h1, h2, Chg.ofBelow h3 (fun k _ h => h)⟩
theorem getD_map_cut (l : List (List UInt8)) (c k : Nat) (hk : k < l.length) : (l.take k).map (fun d => S.cut d c) ++ [S.cut (l.getD k []) c] = (l.take (k + 1)).map (fun d => S.cut d c) := by
  rw [List.take_add_one, List.map_append, List.getD_eq_getElem?_getD, List.getElem?_eq_getElem hk]
  simp
set_option maxHeartbeats 16000000 in
set_option maxRecDepth 10000 in
theorem rprefix_any (gh gT : Nat) (a : Int) (u : Value) (m n : Nat) (old rt : List UInt8) (hold : old.length = 32) (hrt : rt.length = 32) (ps : List (List UInt8)) (w : World) (hm : m < 18446744073709551616) (hn : n < 18446744073709551616) (hH : HsAt w gh gT a) (hu : DgAt w u ps) (hps : ps.length ≤ 90000) :
   Calls Tryd.prog 17 #[.pointer (some ⟨gh, 0, none⟩), .int .u64 (m : Int), .int .u64 (n : Int), .agg (S.v8 old), .agg (S.v8 rt), u] w fun e w' => e = .returned (.bool (S.vPre a m n old rt ps)) ∧ Below w.heap.size w w' := by
  obtain ⟨R, hR⟩ : ∃ R, R = S.vPre a m n old rt ps := ⟨_, rfl⟩
  rw [← hR]
  obtain ⟨uo, uc, rfl⟩ := hu.form
  have h32 : ∀ d ∈ ps, d.length = 32 := by obtain ⟨_, _, _, _, h, _⟩ := hu; exact h
  have HU := hide hu
  have HH := hide hH
  have HOL := hide hold
  have HRT := hide hrt
  have HR := hide hR
  have H32 := hide h32
  have HPS := hide hps
  obtain ⟨N, hN⟩ : ∃ N, N = ps.length := ⟨_, rfl⟩
  rw [← hN] at HU hps ⊢
  have HN := hide hN
  obtain ⟨cwa, hcwa⟩ : ∃ c, c = S.cw a := ⟨_, rfl⟩
  obtain ⟨D1, hD1⟩ : ∃ D, D = S.cut old cwa := ⟨_, rfl⟩
  obtain ⟨D2, hD2⟩ : ∃ D, D = S.cut rt cwa := ⟨_, rfl⟩
  have LD1 := hide (show D1.length = 32 by rw [hD1, S.cut_length]; exact hold)
  have LD2 := hide (show D2.length = 32 by rw [hD2, S.cut_length]; exact hrt)
  have ED1 := hide hD1
  have ED2 := hide hD2
  have HCW := hide hcwa
  clear hu hH hold hrt hN hR hD1 hD2 h32 hcwa
  go_enter Tryd.func17, Tryd.ntmps17
  go_upto_region 1 with fail
  generalize hW0 : w.alloc _ = W0
  generalize hW1 : W0.alloc _ = W1
  have B0 : Below w.heap.size w W0 := by rw [← hW0]; exact (Below.refl _ _).alloc (Nat.le_refl _) _
  have s0 : W0.heap.size = w.heap.size + 1 := by rw [← hW0]; simp
  have r0 : W0.heap[w.heap.size]? = some (.cells (S.v8 old) 23 (0, 0)) := by rw [← hW0]; exact heap_alloc_new _ _
  have B1 : Below W0.heap.size W0 W1 := by rw [← hW1]; exact (Below.refl _ _).alloc (Nat.le_refl _) _
  have s1 : W1.heap.size = w.heap.size + 2 := by rw [← hW1]; simp [s0]
  have r1 : W1.heap[w.heap.size + 1]? = some (.cells (S.v8 rt) 23 (0, 0)) := by rw [← hW1, ← s0]; exact heap_alloc_new _ _
  have BB : Hid (Below w.heap.size w W1) := (B0.trans (B1.mono (by omega)))
  have Q0 : Hid (W1.heap[w.heap.size]? = some (.cells (S.v8 old) 23 (0, 0))) := ((B1.block _ (by omega)).trans r0)
  have Q1 : Hid (W1.heap[w.heap.size + 1]? = some (.cells (S.v8 rt) 23 (0, 0))) := r1
  clear hW0 B0 s0 r0 hW1 B1 s1 r1
  by_cases c1 : m = 0
  · have q1 : ((m : Int) == 0) = true := by simp [c1]
    have HR2 := hide (show R = false by rw [HR.out, c1]; exact S.vPre_none _ _ _ _ _)
    clear c1 HR
    go_wp2_with fail
    go_ret
    exact ⟨by rw [HR2.out]; rfl, BB.out⟩
  have q1 : ((m : Int) == 0) = false := by simp [c1]
  by_cases c2 : n < m
  · have q2 : (m : Int) > (n : Int) := by omega
    have q2' : (n : Int) < (m : Int) := by omega
    have HR2 := hide (show R = false by rw [HR.out]; exact S.vPre_over _ _ _ _ _ _ c2)
    clear HR
    go_wp2_with fail
    go_ret
    exact ⟨by rw [HR2.out]; rfl, BB.out⟩
  have q2 : ¬ (m : Int) > (n : Int) := by omega
  have q2' : ¬ (n : Int) < (m : Int) := by omega
  have HHW : Hid (HsAt W1 gh gT a) := HH.out.below BB.out (Nat.le_refl _)
  have hsz := size_dig old HOL.out
  have hsz2 := size_dig rt HRT.out
  have GH := hide (show gh < w.heap.size from block_lt_of_row HH.out.h)
  go_upto_region 3 with fail
  refine wp_region_noPanic ?_
  refine wp_region_held_drew (S := (fun W => Chg (fun k => k = w.heap.size) W1 W)) follows ((Chg.refl _ _).drew) (fun hHeld => ?_)
  clear hHeld
  have hHeld : Chg (fun k => k = w.heap.size) W1 W1.drew := (Chg.refl _ _).drew
  have CZ0 := hide hHeld
  have Q0' : Hid (W1.drew.heap[w.heap.size]? = some (.cells (S.v8 old) 23 (0, 0))) := Q0.out
  have Q1' : Hid (W1.drew.heap[w.heap.size + 1]? = some (.cells (S.v8 rt) 23 (0, 0))) := Q1.out
  generalize W1.drew = Z0 at CZ0 hHeld Q0' Q1' ⊢
  refine wpAnyH_take (i := 1) (oi := { dst := some 28, op := Op.move (Operand.tmp 0), type := 33, pos := "ref.go:57", after := #[], guard := none }) (v := ?_) rfl (by kernel_rfl) (by kernel_rfl) (by kernel_rfl) (fun _ _ _ h => h) (Or.inl ⟨by rfl, ?_⟩) (by assumption) ?_
  rotate_left
  · intro w hSw
    clear hSw
    go_simp
    all_goals with_reducible rfl
  simp only [Act.put, List.setIfInBounds_toArray, List.set_cons_zero, List.set_cons_succ]
  refine wpAnyH_take (i := 2) (oi := { dst := some 29, op := Op.nilCheck (Operand.tmp 28), type := 0, pos := "ref.go:57", after := #[{ on := 1, ground := Ground.data }], guard := none }) (v := ?_) rfl (by kernel_rfl) (by kernel_rfl) (by kernel_rfl) (fun _ _ _ h => h) (Or.inl ⟨by rfl, ?_⟩) (by assumption) ?_
  rotate_left
  · intro w hSw
    clear hSw
    go_simp
    all_goals with_reducible rfl
  simp only [Act.put, List.setIfInBounds_toArray, List.set_cons_zero, List.set_cons_succ]
  refine wpAnyH_take (i := 3) (oi := { dst := some 30, op := Op.fieldAddr 76 (Operand.tmp 29) 1, type := 0, pos := "ref.go:57", after := #[{ on := 2, ground := Ground.data }], guard := none }) (v := ?_) rfl (by kernel_rfl) (by kernel_rfl) (by kernel_rfl) (fun _ _ _ h => h) (Or.inl ⟨by rfl, ?_⟩) (by assumption) ?_
  rotate_left
  · intro w hSw
    clear hSw
    go_simp
    all_goals with_reducible rfl
  simp only [Act.put, List.setIfInBounds_toArray, List.set_cons_zero, List.set_cons_succ]
  refine wpAnyH_take (i := 4) (oi := { dst := some 31, op := Op.load 3 (Operand.tmp 30), type := 3, pos := "ref.go:57", after := #[{ on := 3, ground := Ground.data }], guard := none }) (v := ?_) rfl (by kernel_rfl) (by kernel_rfl) (by kernel_rfl) (fun _ _ _ h => h) (Or.inl ⟨by rfl, ?_⟩) (by assumption) ?_
  rotate_left
  · intro w hSw
    have c4 : w.cell? ⟨gh, 1, none⟩ = some (.int .i64 (cwa : Int)) := by rw [HCW.out]; exact (cells2 ((hSw.row HHW.out.h (by have := GH.out; omega)))).2
    clear hSw
    go_simp
    all_goals with_reducible rfl
  simp only [Act.put, List.setIfInBounds_toArray, List.set_cons_zero, List.set_cons_succ]
  refine wpAnyH_ready (rs := [0]) (by kernel_rfl) (by simp) ?_
  refine step_load (o := { dst := some 27, op := Op.load 23 (Operand.tmp 9), type := 23, pos := "ref.go:57", after := #[], guard := none }) rfl rfl 23 (.tmp 9) rfl (.agg (S.v8 old)) (load_dig Q0'.out HOL.out) AllReadyH.nil ⟨CZ0.out, fun hHeld => ?_⟩
  simp only [Act.put, List.setIfInBounds_toArray, List.set_cons_zero, List.set_cons_succ]
  refine wpAnyH_ready (rs := [5]) (by kernel_rfl) (by simp) ?_
  refine AllReadyH.cons (o := { dst := some 32, op := Op.call { callee := Callee.value (Operand.func 41), args := #[Operand.tmp 27, Operand.tmp 31], argTypes := #[23, 3] }, type := 23, pos := "ref.go:57", after := #[{ on := 0, ground := Ground.data }, { on := 4, ground := Ground.data }], guard := none }) rfl (fun K hK => ?_) AllReadyH.nil
  go_simp
  refine (rcut_all old HOL.out (cwa : Int) Z0).mono ?_
  rintro e Z1 ⟨rfl, hb2⟩
  rw [show S.cut old (cwa : Int).toNat = D1 by rw [ED1.out]; rfl]
  replace Q0' : Hid (Z1.heap[w.heap.size]? = some (.cells (S.v8 old) 23 (0, 0))) := (hb2.block _ (block_lt_of_row Q0'.out)).trans Q0'.out
  replace Q1' : Hid (Z1.heap[w.heap.size + 1]? = some (.cells (S.v8 rt) 23 (0, 0))) := (hb2.block _ (block_lt_of_row Q1'.out)).trans Q1'.out
  have CZ1 : Hid (Chg (fun k => k = w.heap.size) W1 Z1) := CZ0.out.then hb2
  clear hb2 CZ0
  clear hHeld
  refine hK.out _ _ CZ1.out (fun hHeld => ?_)
  clear hK K
  try simp only [Act.put, List.setIfInBounds_toArray, List.set_cons_zero, List.set_cons_succ]
  refine wpAnyH_ready (rs := [6]) (by kernel_rfl) (by simp) ?_
  obtain ⟨Z2, hst, r6, C6, s6⟩ := store_dig Q0'.out HOL.out LD1.out
  refine step_store_as (o := { dst := none, op := Op.store 23 (Operand.tmp 9) (Operand.tmp 32), type := 0, pos := "ref.go:57", after := #[{ on := 5, ground := Ground.data }, { on := 5, ground := Ground.chain }, { on := 0, ground := Ground.phase }, { on := 1, ground := Ground.phase }, { on := 2, ground := Ground.phase }, { on := 3, ground := Ground.phase }, { on := 4, ground := Ground.phase }, { on := 5, ground := Ground.phase }], guard := none }) rfl rfl 23 (.tmp 9) (.tmp 32) rfl _ _ rfl rfl Z2 hst AllReadyH.nil ⟨CZ1.out.trans C6 (fun k hk e => by first | exact e | exact Or.inl e | exact Or.inr e | omega), fun hHeld => ?_⟩
  replace Q0' : Hid (Z2.heap[w.heap.size]? = some (.cells (S.v8 D1) 23 (0, 0))) := r6
  replace Q1' : Hid (Z2.heap[w.heap.size + 1]? = some (.cells (S.v8 rt) 23 (0, 0))) := C6.row Q1'.out (by omega)
  have CZ2 : Hid (Chg (fun k => k = w.heap.size) W1 Z2) := CZ1.out.trans C6 (fun k hk e => by first | exact e | exact Or.inl e | exact Or.inr e | omega)
  clear hst r6 C6 s6 CZ1
  simp only [Act.put]
  refine wpAnyH_done (by kernel_rfl) ?_ _
  refine NoPanic.normal ?_
  clear hHeld
  obtain ⟨ZA, hZA⟩ : ∃ Z, Z = Z2 := ⟨_, rfl⟩
  rw [← hZA] at CZ2 Q0' Q1' ⊢
  clear hZA
  have BZA := hide (BB.out.trans (CZ2.out.below w.heap.size BB.out.size (fun k hk e => by omega)))
  have HHZ : Hid (HsAt ZA gh gT a) := HH.out.below BZA.out (Nat.le_refl _)
  have K0 := Q0'
  have K1 := Q1'
  clear CZ2 Q0' Q1'
  go_upto_region 4 with fail
  refine wp_region_noPanic ?_
  refine wp_region_held_drew (S := (fun W => Chg (fun k => k = w.heap.size + 1) ZA W)) follows ((Chg.refl _ _).drew) (fun hHeld => ?_)
  clear hHeld
  have hHeld : Chg (fun k => k = w.heap.size + 1) ZA ZA.drew := (Chg.refl _ _).drew
  have CZ0 := hide hHeld
  have K1' : Hid (ZA.drew.heap[w.heap.size + 1]? = some (.cells (S.v8 rt) 23 (0, 0))) := K1.out
  have K0' : Hid (ZA.drew.heap[w.heap.size]? = some (.cells (S.v8 D1) 23 (0, 0))) := K0.out
  generalize ZA.drew = Z0 at CZ0 hHeld K1' K0' ⊢
  refine wpAnyH_take (i := 1) (oi := { dst := some 34, op := Op.move (Operand.tmp 0), type := 33, pos := "ref.go:58", after := #[], guard := none }) (v := ?_) rfl (by kernel_rfl) (by kernel_rfl) (by kernel_rfl) (fun _ _ _ h => h) (Or.inl ⟨by rfl, ?_⟩) (by assumption) ?_
  rotate_left
  · intro w hSw
    clear hSw
    go_simp
    all_goals with_reducible rfl
  simp only [Act.put, List.setIfInBounds_toArray, List.set_cons_zero, List.set_cons_succ]
  refine wpAnyH_take (i := 2) (oi := { dst := some 35, op := Op.nilCheck (Operand.tmp 34), type := 0, pos := "ref.go:58", after := #[{ on := 1, ground := Ground.data }], guard := none }) (v := ?_) rfl (by kernel_rfl) (by kernel_rfl) (by kernel_rfl) (fun _ _ _ h => h) (Or.inl ⟨by rfl, ?_⟩) (by assumption) ?_
  rotate_left
  · intro w hSw
    clear hSw
    go_simp
    all_goals with_reducible rfl
  simp only [Act.put, List.setIfInBounds_toArray, List.set_cons_zero, List.set_cons_succ]
  refine wpAnyH_take (i := 3) (oi := { dst := some 36, op := Op.fieldAddr 76 (Operand.tmp 35) 1, type := 0, pos := "ref.go:58", after := #[{ on := 2, ground := Ground.data }], guard := none }) (v := ?_) rfl (by kernel_rfl) (by kernel_rfl) (by kernel_rfl) (fun _ _ _ h => h) (Or.inl ⟨by rfl, ?_⟩) (by assumption) ?_
  rotate_left
  · intro w hSw
    clear hSw
    go_simp
    all_goals with_reducible rfl
  simp only [Act.put, List.setIfInBounds_toArray, List.set_cons_zero, List.set_cons_succ]
  refine wpAnyH_take (i := 4) (oi := { dst := some 37, op := Op.load 3 (Operand.tmp 36), type := 3, pos := "ref.go:58", after := #[{ on := 3, ground := Ground.data }], guard := none }) (v := ?_) rfl (by kernel_rfl) (by kernel_rfl) (by kernel_rfl) (fun _ _ _ h => h) (Or.inl ⟨by rfl, ?_⟩) (by assumption) ?_
  rotate_left
  · intro w hSw
    have c4 : w.cell? ⟨gh, 1, none⟩ = some (.int .i64 (cwa : Int)) := by rw [HCW.out]; exact (cells2 ((hSw.row HHZ.out.h (by have := GH.out; omega)))).2
    clear hSw
    go_simp
    all_goals with_reducible rfl
  simp only [Act.put, List.setIfInBounds_toArray, List.set_cons_zero, List.set_cons_succ]
  refine wpAnyH_ready (rs := [0]) (by kernel_rfl) (by simp) ?_
  refine step_load (o := { dst := some 33, op := Op.load 23 (Operand.tmp 10), type := 23, pos := "ref.go:58", after := #[], guard := none }) rfl rfl 23 (.tmp 10) rfl (.agg (S.v8 rt)) (load_dig K1'.out HRT.out) AllReadyH.nil ⟨CZ0.out, fun hHeld => ?_⟩
  simp only [Act.put, List.setIfInBounds_toArray, List.set_cons_zero, List.set_cons_succ]
  refine wpAnyH_ready (rs := [5]) (by kernel_rfl) (by simp) ?_
  refine AllReadyH.cons (o := { dst := some 38, op := Op.call { callee := Callee.value (Operand.func 41), args := #[Operand.tmp 33, Operand.tmp 37], argTypes := #[23, 3] }, type := 23, pos := "ref.go:58", after := #[{ on := 0, ground := Ground.data }, { on := 4, ground := Ground.data }], guard := none }) rfl (fun K hK => ?_) AllReadyH.nil
  go_simp
  refine (rcut_all rt HRT.out (cwa : Int) Z0).mono ?_
  rintro e Z1 ⟨rfl, hb2⟩
  rw [show S.cut rt (cwa : Int).toNat = D2 by rw [ED2.out]; rfl]
  replace K1' : Hid (Z1.heap[w.heap.size + 1]? = some (.cells (S.v8 rt) 23 (0, 0))) := (hb2.block _ (block_lt_of_row K1'.out)).trans K1'.out
  replace K0' : Hid (Z1.heap[w.heap.size]? = some (.cells (S.v8 D1) 23 (0, 0))) := (hb2.block _ (block_lt_of_row K0'.out)).trans K0'.out
  have CZ1 : Hid (Chg (fun k => k = w.heap.size + 1) ZA Z1) := CZ0.out.then hb2
  clear hb2 CZ0
  clear hHeld
  refine hK.out _ _ CZ1.out (fun hHeld => ?_)
  clear hK K
  try simp only [Act.put, List.setIfInBounds_toArray, List.set_cons_zero, List.set_cons_succ]
  refine wpAnyH_ready (rs := [6]) (by kernel_rfl) (by simp) ?_
  obtain ⟨Z2, hst, r6, C6, s6⟩ := store_dig K1'.out HRT.out LD2.out
  refine step_store_as (o := { dst := none, op := Op.store 23 (Operand.tmp 10) (Operand.tmp 38), type := 0, pos := "ref.go:58", after := #[{ on := 5, ground := Ground.data }, { on := 5, ground := Ground.chain }, { on := 0, ground := Ground.phase }, { on := 1, ground := Ground.phase }, { on := 2, ground := Ground.phase }, { on := 3, ground := Ground.phase }, { on := 4, ground := Ground.phase }, { on := 5, ground := Ground.phase }], guard := none }) rfl rfl 23 (.tmp 10) (.tmp 38) rfl _ _ rfl rfl Z2 hst AllReadyH.nil ⟨CZ1.out.trans C6 (fun k hk e => by first | exact e | exact Or.inl e | exact Or.inr e | omega), fun hHeld => ?_⟩
  replace K1' : Hid (Z2.heap[w.heap.size + 1]? = some (.cells (S.v8 D2) 23 (0, 0))) := r6
  replace K0' : Hid (Z2.heap[w.heap.size]? = some (.cells (S.v8 D1) 23 (0, 0))) := C6.row K0'.out (by omega)
  have CZ2 : Hid (Chg (fun k => k = w.heap.size + 1) ZA Z2) := CZ1.out.trans C6 (fun k hk e => by first | exact e | exact Or.inl e | exact Or.inr e | omega)
  clear hst r6 C6 s6 CZ1
  simp only [Act.put]
  refine wpAnyH_done (by kernel_rfl) ?_ _
  refine NoPanic.normal ?_
  clear hHeld
  obtain ⟨ZB, hZB⟩ : ∃ Z, Z = Z2 := ⟨_, rfl⟩
  rw [← hZB] at CZ2 K1' K0' ⊢
  clear hZB
  have BZB := hide (BZA.out.trans (CZ2.out.below w.heap.size BZA.out.size (fun k hk e => by omega)))
  have RQ1 := K1'
  have RQ0 := K0'
  clear CZ2 K1' K0' HHZ K0 K1 BZA
  have HHX : Hid (HsAt ZB gh gT a) := HH.out.below BZB.out (Nat.le_refl _)
  clear HHW hsz hsz2 BB Q0 Q1
  by_cases c3 : m = n
  · have q3 : ((m : Int) == (n : Int)) = true := by simp [c3]
    by_cases c4 : N = 0
    · have q4 : ((N : Int) == 0) = true := by simp [c4]
      have hpz : ps = [] := List.eq_nil_of_length_eq_zero (by rw [← HN.out, c4])
      have hR2 : R = (D1 == D2) := by
        rw [HR.out, hpz, ← c3, S.vPre_same a m c1 old rt, ← HCW.out, ← ED1.out, ← ED2.out]
        simp [Bool.beq_eq_decide_eq]
      have heq : ∀ w, (Op.equalIn 10000 23 (.agg (S.v8 D1)) (.agg (S.v8 D2))).run Tryd.prog w = .ok R w := fun w => equal_dig D1 D2 LD1.out LD2.out R hR2.symm w
      clear HR hR2 hpz c4 c3
      go_wp2_with (first | (with_reducible refine at_op { dst := some 46, op := Op.load 23 (Operand.tmp 9), type := 23, pos := "ref.go:60", after := #[{ on := 3, ground := Ground.guard }], guard := some (3, true) } ?_; refine load_dig_when rfl (.tmp 9) rfl (w.heap.size) rfl D1 RQ0.out LD1.out ?_) | (with_reducible refine at_op { dst := some 47, op := Op.load 23 (Operand.tmp 10), type := 23, pos := "ref.go:60", after := #[{ on := 3, ground := Ground.guard }], guard := some (3, true) } ?_; refine load_dig_when rfl (.tmp 10) rfl (w.heap.size + 1) rfl D2 RQ1.out LD2.out ?_))
      go_ret
      exact ⟨rfl, BZB.out⟩
    · have q4 : ((N : Int) == 0) = false := by simp [c4]
      have HR2 := hide (show R = false by
        rw [HR.out]
        unfold S.vPre
        rw [if_neg (by omega), if_pos c3]
        have : ps ≠ [] := fun e => c4 (by rw [HN.out, e]; rfl)
        simp [this])
      clear HR c3
      go_wp2_with fail
      go_ret
      exact ⟨by rw [HR2.out]; rfl, BZB.out⟩
  have q3 : ((m : Int) == (n : Int)) = false := by simp; omega
  by_cases c4 : N = 0
  · have q4 : ((N : Int) == 0) = true := by simp [c4]
    have hpz : ps = [] := List.eq_nil_of_length_eq_zero (by rw [← HN.out, c4])
    have HR2 := hide (show R = false by rw [HR.out, hpz]; exact S.vPre_nil _ _ _ (by omega) _ _)
    clear HR hpz c4
    go_wp2_with fail
    go_ret
    exact ⟨by rw [HR2.out]; rfl, BZB.out⟩
  have q4 : ((N : Int) == 0) = false := by simp [c4]
  have hne : ps ≠ [] := fun e => c4 (by rw [HN.out, e]; rfl)
  have q5 : IntKind.u64.wrap ((m : Int) - 1) = ((m - 1 : Nat) : Int) := by rw [IntKind.wrap_u64]; omega
  have q6n : IntKind.u64.wrap ((n : Int) - 1) = ((n - 1 : Nat) : Int) := by rw [IntKind.wrap_u64]; omega
  have qb := bits_and_u64_nat m (m - 1) hm (by omega)
  obtain ⟨mm, hmm⟩ : ∃ mm, mm = m &&& (m - 1) := ⟨_, rfl⟩
  rw [← hmm] at qb
  obtain ⟨l0, hl0⟩ : ∃ l : List (List UInt8), l = if mm = 0 then [D1] else [] := ⟨_, rfl⟩
  have hvp : R = decide (V.pre (S.node a) (m - 1) (n - 1) (l0 ++ ps.map fun d => S.cut d cwa) = some (D1, D2)) := by
    rw [HR.out]
    unfold S.vPre
    rw [if_neg (by omega), if_neg (by omega), if_neg hne, ← HCW.out, ← ED1.out, ← ED2.out, hl0, hmm]
  have HVP := hide hvp
  have HL0 := hide hl0
  have HLL := hide (show l0.length ≤ 1 ∧ (∀ d ∈ l0, d.length = 32) by
    rw [hl0]; split
    · exact ⟨by simp, fun d hd => by simp only [List.mem_singleton] at hd; rw [hd]; exact LD1.out⟩
    · exact ⟨by simp, fun d hd => by simp at hd⟩)
  clear hmm hl0 hvp HR
  go_upto_region 10 with fail
  -- the first of the list
  go_upto_if 57 with fail
  go_cut [13] from 53 (fun v13 wc => Hid (DgRow (w.heap.size + 2) wc v13 l0) ∧ Hid (wc.heap[w.heap.size]? = some (.cells (S.v8 D1) 23 (0, 0))) ∧ Hid (wc.heap[w.heap.size + 1]? = some (.cells (S.v8 D2) 23 (0, 0))) ∧ Hid (Below w.heap.size w wc))
  case first =>
    by_cases c5 : mm = 0
    · have q6 : ((mm : Int) == 0) = true := by simp [c5]
      have hl1 : l0 = [] ++ [D1] := by rw [HL0.out, if_pos c5]; rfl
      have hld := load_dig RQ0.out LD1.out
      have hbs := bs24one ZB D1 LD1.out
      obtain ⟨Y, hY⟩ : ∃ YQ, YQ = ZB.alloc (.cells (S.v8 D1) 23) := ⟨_, rfl⟩
      rw [← hY] at hbs
      have bY : Below ZB.heap.size ZB Y := by rw [hY]; exact (Below.refl _ _).alloc (Nat.le_refl _) _
      have rY : Y.heap[ZB.heap.size]? = some (.cells (S.v8 D1) 23 (0, 0)) := by rw [hY]; exact heap_alloc_new _ _
      have KEY := hide (run_append_dig Y (w.heap.size + 2) ZB.heap.size (.slice none 0 0) [] D1 32 (DgRow.nil _ _) LD1.out rY (by simp) (by have := block_lt_of_row RQ1.out; have := bY.size; omega))
      obtain ⟨gy, hgy⟩ : ∃ g, g = ZB.heap.size := ⟨_, rfl⟩
      rw [← hgy] at KEY hbs
      have BYY := hide (BZB.out.trans (bY.mono BZB.out.size))
      have BYZ := hide bY
      have H1 := hide hl1
      clear hl1 hY bY rY hgy c5
      go_wp2_with (first | (with_reducible refine at_op { dst := some 59, op := Op.load 23 (Operand.tmp 9), type := 23, pos := "ref.go:67", after := #[], guard := none } ?_; refine wpList_load_as rfl 23 (.tmp 9) rfl (.pointer (some ⟨w.heap.size, 0, none⟩)) rfl (.agg (S.v8 D1)) hld ?_) | (with_reducible refine at_op { dst := some 60, op := Op.buildSlice 32 1 #[(0, Operand.tmp 59)], type := 32, pos := "ref.go:67", after := #[{ on := 1, ground := Ground.data }], guard := none } ?_; refine wpList_buildSlice_as rfl 32 1 [(0, .tmp 59)] rfl [(0, .agg (S.v8 D1))] rfl _ _ hbs ?_) | (at_builtin; (refine wpList_append_known rfl (.tmp 58) (.tmp 60) 32 32 rfl _ _ rfl rfl KEY.out ?_; rintro v6 w6 ⟨hR6, hB6⟩; have R6 := hide hR6; have B6 := hide hB6; clear hR6 hB6)))
      go_meet
      case rel =>
        exact ⟨by rw [H1.out]; exact R6, (B6.out.block _ (by omega)).trans ((BYZ.out.block _ (block_lt_of_row RQ0.out)).trans RQ0.out), (B6.out.block _ (by omega)).trans ((BYZ.out.block _ (block_lt_of_row RQ1.out)).trans RQ1.out), BYY.out.trans (B6.out.mono (by omega))⟩
    · have q6 : ((mm : Int) == 0) = false := by simp [c5]
      have hl1 : l0 = [] := by rw [HL0.out, if_neg c5]
      have H1 := hide hl1
      clear hl1 c5
      go_wp2_with fail
      go_meet
      case rel => exact ⟨by rw [H1.out]; exact DgRow.nil _ _, RQ0, RQ1, BZB⟩
  obtain ⟨RL0, RC0, RC1, BC⟩ := hcut
  clear RQ0 RQ1 BZB HHX HL0
  have SZ := hide (show w.heap.size + 2 ≤ wc.heap.size from block_lt_of_row RC1.out)
  go_wp2_with fail
  clear qb
  go_loopg [13, 14] N (fun gk s13 s14 wr => ∃ k : Nat, k + gk = N ∧ s14 = .int .i64 (k : Int) ∧ Hid (DgRow (w.heap.size + 2) wr s13 (l0 ++ (ps.take k).map fun d => S.cut d cwa)) ∧ Hid (Below (w.heap.size + 2) wc wr))
  case atStart => exact ⟨0, by omega, rfl, by simpa using RL0, Below.refl _ _⟩
  case round =>
    clear RL0
    obtain ⟨k, hk, rfl, hrow, hb⟩ := hrel
    have BR := hide (BC.out.trans (hb.out.mono (by omega)))
    have LLN : Hid ((l0 ++ (ps.take k).map fun d => S.cut d cwa).length ≤ 90001) := by
      have := HLL.out.1
      show _ ≤ _
      rw [List.length_append, List.length_map, List.length_take, ← HN.out]; omega
    cases gk with
    | succ gO =>
      have qk : (k : Int) < (N : Int) := by omega
      have qk0 : (0 : Int) ≤ (k : Int) := by omega
      have qk1 : IntKind.i64.wrap ((k : Int) + 1) = (k : Int) + 1 := by rw [IntKind.wrap_i64]; omega
      obtain ⟨gu, ou, cu, eu, hgu, hru, hpl⟩ := dg_at HU.out k (by rw [← HN.out]; omega)
      simp only [Value.slice.injEq] at eu
      obtain ⟨rfl, eN, rfl⟩ := eu
      clear eN
      obtain ⟨p, hp⟩ : ∃ p, p = ps.getD k [] := ⟨_, rfl⟩
      rw [← hp] at hru hpl
      have LP := hide hpl
      have HRU : Hid (∀ W, Below w.heap.size w W → W.rangeAt gu (ou + k * 32) (S.v8l p)) := fun W hW j x hx => (hW.cell (p := ⟨gu, ou + k * 32 + j, none⟩) hgu).trans (hru j x hx)
      have HNX := hide (show (l0 ++ (ps.take k).map fun d => S.cut d cwa) ++ [S.cut p cwa] = l0 ++ (ps.take (k + 1)).map fun d => S.cut d cwa by rw [List.append_assoc, hp, getD_map_cut ps cwa k (by rw [← HN.out]; omega)])
      obtain ⟨E, hE⟩ : ∃ E, E = S.cut p cwa := ⟨_, rfl⟩
      have LE := hide (show E.length = 32 by rw [hE, S.cut_length]; exact LP.out)
      rw [← hE] at HNX
      have EE := hide hE
      obtain ⟨vo, vc, rfl⟩ := hrow.out.form
      obtain ⟨lk, hlk⟩ : ∃ l, l = (l0 ++ (ps.take k).map fun d => S.cut d cwa) := ⟨_, rfl⟩
      rw [← hlk] at hrow HNX LLN ⊢
      obtain ⟨ln, hln⟩ : ∃ n, n = lk.length := ⟨_, rfl⟩
      rw [← hln] at hrow ⊢
      have HLN := hide hln
      have hsz := size_dig p LP.out
      have SZR := hide (show w.heap.size + 2 ≤ wr.heap.size by have := SZ.out; have := hb.out.size; omega)
      have CW : Hid (∀ W, Chg (fun k => w.heap.size + 2 ≤ k) wr W → W.cell? ⟨gh, 1, none⟩ = some (.int .i64 (cwa : Int))) := fun W hW => by rw [HCW.out]; exact (cells2 (HH.out.below (BR.out.trans (hW.below w.heap.size BR.out.size (fun k hk e => by omega))) (Nat.le_refl _)).h).2
      clear hgu hru hpl hp hE hlk hln
      go_wp2_with fail
      refine wp_region_noPanic ?_
      refine wp_region_held_drew (S := (fun W => Chg (fun k => w.heap.size + 2 ≤ k) wr W)) follows ((Chg.refl _ _).drew) (fun hHeld => ?_)
      clear hHeld
      have hHeld : Chg (fun k => w.heap.size + 2 ≤ k) wr wr.drew := (Chg.refl _ _).drew
      have CZ0 := hide hHeld
      have hrow' : Hid (DgRow (w.heap.size + 2) wr.drew (.slice vo ln vc) lk) := hrow.out.below ((Below.refl _ _).drew)
      generalize wr.drew = Z0 at CZ0 hHeld hrow' ⊢
      refine wpAnyH_take (i := 0) (oi := { dst := some 68, op := Op.move (Operand.tmp 13), type := 32, pos := "ref.go:70", after := #[], guard := none }) (v := ?_) rfl (by kernel_rfl) (by kernel_rfl) (by kernel_rfl) (fun _ _ _ h => h) (Or.inl ⟨by rfl, ?_⟩) (by assumption) ?_
      rotate_left
      · intro w hSw
        clear hSw
        go_simp
        all_goals with_reducible rfl
      simp only [Act.put, List.setIfInBounds_toArray, List.set_cons_zero, List.set_cons_succ]
      refine wpAnyH_take (i := 1) (oi := { dst := some 69, op := Op.move (Operand.tmp 5), type := 32, pos := "ref.go:70", after := #[], guard := none }) (v := ?_) rfl (by kernel_rfl) (by kernel_rfl) (by kernel_rfl) (fun _ _ _ h => h) (Or.inl ⟨by rfl, ?_⟩) (by assumption) ?_
      rotate_left
      · intro w hSw
        clear hSw
        go_simp
        all_goals with_reducible rfl
      simp only [Act.put, List.setIfInBounds_toArray, List.set_cons_zero, List.set_cons_succ]
      refine wpAnyH_take (i := 2) (oi := { dst := some 70, op := Op.move (Operand.tmp 14), type := 3, pos := "ref.go:70", after := #[], guard := none }) (v := ?_) rfl (by kernel_rfl) (by kernel_rfl) (by kernel_rfl) (fun _ _ _ h => h) (Or.inl ⟨by rfl, ?_⟩) (by assumption) ?_
      rotate_left
      · intro w hSw
        clear hSw
        go_simp
        all_goals with_reducible rfl
      simp only [Act.put, List.setIfInBounds_toArray, List.set_cons_zero, List.set_cons_succ]
      refine wpAnyH_take (i := 3) (oi := { dst := some 71, op := Op.indexAddr 32 (Operand.tmp 69) (Operand.tmp 70), type := 0, pos := "ref.go:70", after := #[{ on := 1, ground := Ground.data }, { on := 2, ground := Ground.data }], guard := none }) (v := ?_) rfl (by kernel_rfl) (by kernel_rfl) (by kernel_rfl) (fun _ _ _ h => h) (Or.inl ⟨by rfl, ?_⟩) (by assumption) ?_
      rotate_left
      · intro w hSw
        clear hSw
        go_simp
        all_goals with_reducible rfl
      simp only [Act.put, List.setIfInBounds_toArray, List.set_cons_zero, List.set_cons_succ]
      refine wpAnyH_take (i := 4) (oi := { dst := some 72, op := Op.load 23 (Operand.tmp 71), type := 23, pos := "ref.go:70", after := #[{ on := 3, ground := Ground.data }], guard := none }) (v := .agg (S.v8l p).toArray) rfl (by kernel_rfl) (by kernel_rfl) (by kernel_rfl) (fun _ _ _ h => h) (yieldsIf_load_mid (by rfl) _ _ rfl gu (ou + k * 32) rfl (S.v8l p) _ (fun _ hSw => HRU.out _ (BR.out.trans (hSw.below w.heap.size BR.out.size (fun k hk e => by omega)))) Tryd.underlying23 rfl hsz) (by assumption) ?_
      simp only [Act.put, List.setIfInBounds_toArray, List.set_cons_zero, List.set_cons_succ]
      refine wpAnyH_take (i := 5) (oi := { dst := some 73, op := Op.move (Operand.tmp 0), type := 33, pos := "ref.go:70", after := #[], guard := none }) (v := ?_) rfl (by kernel_rfl) (by kernel_rfl) (by kernel_rfl) (fun _ _ _ h => h) (Or.inl ⟨by rfl, ?_⟩) (by assumption) ?_
      rotate_left
      · intro w hSw
        clear hSw
        go_simp
        all_goals with_reducible rfl
      simp only [Act.put, List.setIfInBounds_toArray, List.set_cons_zero, List.set_cons_succ]
      refine wpAnyH_take (i := 6) (oi := { dst := some 74, op := Op.nilCheck (Operand.tmp 73), type := 0, pos := "ref.go:70", after := #[{ on := 5, ground := Ground.data }], guard := none }) (v := ?_) rfl (by kernel_rfl) (by kernel_rfl) (by kernel_rfl) (fun _ _ _ h => h) (Or.inl ⟨by rfl, ?_⟩) (by assumption) ?_
      rotate_left
      · intro w hSw
        clear hSw
        go_simp
        all_goals with_reducible rfl
      simp only [Act.put, List.setIfInBounds_toArray, List.set_cons_zero, List.set_cons_succ]
      refine wpAnyH_take (i := 7) (oi := { dst := some 75, op := Op.fieldAddr 76 (Operand.tmp 74) 1, type := 0, pos := "ref.go:70", after := #[{ on := 6, ground := Ground.data }], guard := none }) (v := ?_) rfl (by kernel_rfl) (by kernel_rfl) (by kernel_rfl) (fun _ _ _ h => h) (Or.inl ⟨by rfl, ?_⟩) (by assumption) ?_
      rotate_left
      · intro w hSw
        clear hSw
        go_simp
        all_goals with_reducible rfl
      simp only [Act.put, List.setIfInBounds_toArray, List.set_cons_zero, List.set_cons_succ]
      refine wpAnyH_take (i := 8) (oi := { dst := some 76, op := Op.load 3 (Operand.tmp 75), type := 3, pos := "ref.go:70", after := #[{ on := 7, ground := Ground.data }], guard := none }) (v := ?_) rfl (by kernel_rfl) (by kernel_rfl) (by kernel_rfl) (fun _ _ _ h => h) (Or.inl ⟨by rfl, ?_⟩) (by assumption) ?_
      rotate_left
      · intro w hSw
        have c4 := CW.out _ hSw
        clear hSw
        go_simp
        all_goals with_reducible rfl
      simp only [Act.put, List.setIfInBounds_toArray, List.set_cons_zero, List.set_cons_succ]
      refine wpAnyH_ready (rs := [9]) (by kernel_rfl) (by simp) ?_
      refine AllReadyH.cons (o := { dst := some 77, op := Op.call { callee := Callee.value (Operand.func 41), args := #[Operand.tmp 72, Operand.tmp 76], argTypes := #[23, 3] }, type := 23, pos := "ref.go:70", after := #[{ on := 4, ground := Ground.data }, { on := 8, ground := Ground.data }], guard := none }) rfl (fun K hK => ?_) AllReadyH.nil
      go_simp
      refine (rcut_all p LP.out (cwa : Int) Z0).mono ?_
      rintro e Z1 ⟨rfl, hb2⟩
      rw [show S.cut p (cwa : Int).toNat = E by rw [EE.out]; rfl]
      replace hrow' : Hid (DgRow (w.heap.size + 2) Z1 (.slice vo ln vc) lk) := hrow'.out.below hb2
      have CZ1 : Hid (Chg (fun k => w.heap.size + 2 ≤ k) wr Z1) := CZ0.out.then hb2
      clear hb2 CZ0
      clear hHeld
      refine hK.out _ _ CZ1.out (fun hHeld => ?_)
      clear hK K
      try simp only [Act.put, List.setIfInBounds_toArray, List.set_cons_zero, List.set_cons_succ]
      refine wpAnyH_ready (rs := [10]) (by kernel_rfl) (by simp) ?_
      refine step_buildSlice_as (o := { dst := some 78, op := Op.buildSlice 32 1 #[(0, Operand.tmp 77)], type := 32, pos := "ref.go:70", after := #[{ on := 9, ground := Ground.data }], guard := none }) rfl rfl 32 1 [(0, .tmp 77)] rfl [(0, .agg (S.v8 E))] rfl _ _ (bs24one Z1 E LE.out) AllReadyH.nil ⟨CZ1.out.alloc _, fun hHeld => ?_⟩
      clear hHeld
      simp only [Act.put, List.setIfInBounds_toArray, List.set_cons_zero, List.set_cons_succ]
      obtain ⟨gb, hgb⟩ : ∃ gg, gg = Z1.heap.size := ⟨_, rfl⟩
      rw [← hgb]
      generalize hZ : Z1.alloc _ = Z2
      have hb2 : Below Z1.heap.size Z1 Z2 := by rw [← hZ]; exact (Below.refl _ _).alloc (Nat.le_refl _) _
      have Rgb : Hid (Z2.heap[gb]? = some (.cells (S.v8 E) 23 (0, 0))) := by rw [← hZ, hgb]; exact heap_alloc_new _ _
      have Ggb := hide (show wr.heap.size ≤ gb by rw [hgb]; exact CZ1.out.size)
      clear hZ hgb
      replace hrow' : Hid (DgRow (w.heap.size + 2) Z2 (.slice vo ln vc) lk) := hrow'.out.below hb2
      have CZ2 : Hid (Chg (fun k => w.heap.size + 2 ≤ k) wr Z2) := CZ1.out.then hb2
      clear hb2 CZ1
      have hHeld := CZ2.out
      refine wpAnyH_ready (rs := [11]) (by kernel_rfl) (by simp) ?_
      obtain ⟨vn, Z3, hst, hrn, C6⟩ := run_append_dig2 Z2 (w.heap.size + 2) gb (.slice vo ln vc) lk E 32 hrow'.out LE.out Rgb.out (by have := LLN.out; omega) (by have := SZR.out; have := CZ2.out.size; omega)
      refine step_append_as (o := { dst := some 79, op := Op.call { callee := Callee.builtin Builtin.append, args := #[Operand.tmp 68, Operand.tmp 78], argTypes := #[32, 32] }, type := 32, pos := "ref.go:70", after := #[{ on := 0, ground := Ground.data }, { on := 10, ground := Ground.data }, { on := 9, ground := Ground.chain }], guard := none }) rfl rfl (.tmp 68) (.tmp 78) 32 32 rfl (.slice vo ln vc) (.slice (some ⟨gb, 0, none⟩) 1 1) rfl rfl vn Z3 hst AllReadyH.nil ⟨CZ2.out.trans C6 (fun k hk e => e), fun hHeld => ?_⟩
      have CZ3 : Hid (Chg (fun k => w.heap.size + 2 ≤ k) wr Z3) := CZ2.out.trans C6 (fun k hk e => e)
      have RN := hide hrn
      clear hrn
      clear hst C6 CZ2
      simp only [Act.put, List.setIfInBounds_toArray, List.set_cons_zero, List.set_cons_succ]
      refine wpAnyH_take (i := 12) (oi := { dst := some 13, op := Op.assign (Operand.tmp 79), type := 32, pos := "ref.go:70", after := #[{ on := 11, ground := Ground.data }, { on := 11, ground := Ground.chain }, { on := 0, ground := Ground.phase }, { on := 1, ground := Ground.phase }, { on := 2, ground := Ground.phase }, { on := 3, ground := Ground.phase }, { on := 4, ground := Ground.phase }, { on := 5, ground := Ground.phase }, { on := 6, ground := Ground.phase }, { on := 7, ground := Ground.phase }, { on := 8, ground := Ground.phase }, { on := 9, ground := Ground.phase }, { on := 10, ground := Ground.phase }, { on := 11, ground := Ground.phase }], guard := none }) (v := ?_) rfl (by kernel_rfl) (by kernel_rfl) (by kernel_rfl) (fun _ _ _ h => h) (Or.inl ⟨by rfl, ?_⟩) (by assumption) ?_
      rotate_left
      · intro w hSw
        clear hSw
        go_simp
        all_goals with_reducible rfl
      simp only [Act.put, List.setIfInBounds_toArray, List.set_cons_zero, List.set_cons_succ]
      refine wpAnyH_done (by kernel_rfl) ?_ _
      refine NoPanic.normal ?_
      clear hHeld
      have BN := hide (hb.out.trans (CZ3.out.below (w.heap.size + 2) SZR.out (fun k hk e => by omega)))
      go_wp2_with fail
      go_roundg gO
      case measure => omega
      case rel => exact ⟨k + 1, by omega, by first | rfl | simp, by rw [← HNX.out]; exact RN, BN⟩
    | zero =>
      have hkN : k = N := by omega
      have qk : ¬ (k : Int) < (N : Int) := by omega
      have htk : ps.take k = ps := by rw [hkN, HN.out, List.take_length]
      rw [htk] at hrow LLN
      obtain ⟨lk, hlk⟩ : ∃ l, l = (l0 ++ ps.map fun d => S.cut d cwa) := ⟨_, rfl⟩
      rw [← hlk] at hrow LLN HVP
      have L32 := hide (show ∀ d ∈ lk, d.length = 32 by
        rw [hlk]
        intro d hd
        rcases List.mem_append.1 hd with hd | hd
        · exact HLL.out.2 d hd
        · obtain ⟨e, he, rfl⟩ := List.mem_map.1 hd
          rw [S.cut_length]; exact H32.out e he)
      have hl1 : 1 ≤ lk.length := by rw [hlk, List.length_append, List.length_map, ← HN.out]; omega
      obtain ⟨c, cs, hcs⟩ : ∃ c cs, lk = c :: cs := by
        cases hx : lk with
        | nil => rw [hx] at hl1; simp at hl1
        | cons c cs => exact ⟨c, cs, rfl⟩
      have LC := hide (show c.length = 32 by exact L32.out c (by rw [hcs]; simp))
      obtain ⟨O, hO⟩ : ∃ O, O = V.runP (S.node a) (V.low 64 (m - 1) (n - 1)).1 (V.low 64 (m - 1) (n - 1)).2 c c cs := ⟨_, rfl⟩
      have hvo : R = decide (O = some (D1, D2)) := by
        have h := HVP.out
        rw [hcs, V.pre_cons, ← hO] at h
        exact h
      have HVO := hide hvo
      have HO := hide hO
      obtain ⟨gl, cl, el, hgl1, hgl2, hgl3⟩ := hrow.out.at (by have := LLN.out; omega) L32.out 0 (by omega)
      rw [Nat.zero_mul, show lk.getD 0 [] = c by rw [hcs]; rfl] at hgl3
      subst el
      obtain ⟨ln, hln⟩ : ∃ n, n = lk.length := ⟨_, rfl⟩
      have HLN := hide hln
      rw [← hln] at hrow hl1 ⊢
      have LMX := hide (show ln ≤ 90001 by rw [hln]; exact LLN.out)
      have RR0 : Hid (wr.heap[w.heap.size]? = some (.cells (S.v8 D1) 23 (0, 0))) := (hb.out.block _ (by omega)).trans RC0.out
      have RR1 : Hid (wr.heap[w.heap.size + 1]? = some (.cells (S.v8 D2) 23 (0, 0))) := (hb.out.block _ (by omega)).trans RC1.out
      have hld1 := run_loadAt_mid (P := Tryd.prog) wr gl 0 23 (S.v8l c) _ hgl3 Tryd.underlying23 rfl (by rw [S.v8l_length, LC.out]; exact size23)
      rw [← S.v8_eq] at hld1
      obtain ⟨A1, Y1, ha1, hs1, ry1, bY1, sY1⟩ := lay_dig wr c LC.out
      have hld2 := run_loadAt_mid (P := Tryd.prog) Y1 gl 0 23 (S.v8l c) _ (fun j x hx => (bY1.cell (p := ⟨gl, 0 + j, none⟩) hgl2).trans (hgl3 j x hx)) Tryd.underlying23 rfl (by rw [S.v8l_length, LC.out]; exact size23)
      rw [← S.v8_eq] at hld2
      obtain ⟨A2, Y2, ha2, hs2, ry2, bY2, sY2⟩ := lay_dig Y1 c LC.out
      obtain ⟨gf, hgf⟩ : ∃ g, g = wr.heap.size := ⟨_, rfl⟩
      obtain ⟨gs, hgs⟩ : ∃ g, g = Y1.heap.size := ⟨_, rfl⟩
      have GG := hide (show gl < gf ∧ gf < gs ∧ w.heap.size + 1 < gf ∧ gs < Y2.heap.size ∧ w.heap.size + 2 ≤ gl by have := SZ.out; have := hb.out.size; omega)
      rw [← hgf] at ha1 hs1 ry1
      rw [← hgs] at ha2 hs2 ry2
      have bRY : Below wr.heap.size wr Y2 := bY1.trans (bY2.mono bY1.size)
      have RF : Hid (Y2.heap[gf]? = some (.cells (S.v8 c) 23 (0, 0))) := (bY2.block _ (block_lt_of_row ry1)).trans ry1
      have RS := hide ry2
      have RY0 : Hid (Y2.heap[w.heap.size]? = some (.cells (S.v8 D1) 23 (0, 0))) := (bRY.block _ (block_lt_of_row RR0.out)).trans RR0.out
      have RY1 : Hid (Y2.heap[w.heap.size + 1]? = some (.cells (S.v8 D2) 23 (0, 0))) := (bRY.block _ (block_lt_of_row RR1.out)).trans RR1.out
      have LROW : Hid (∀ j, j < ln → Y2.rangeAt gl (j * 32) (S.v8l (lk.getD j []))) := fun j hj => by
        obtain ⟨g', c', e', _, h2', h3'⟩ := (hrow.out.below bRY).at (by have := LLN.out; omega) L32.out j (by rw [← HLN.out]; exact hj)
        simp only [Value.slice.injEq, Option.some.injEq, Addr.mk.injEq] at e'
        obtain ⟨⟨rfl, -, -⟩, -, -⟩ := e'
        exact h3'
      have BY2 := hide (BR.out.trans (bRY.mono BR.out.size))
      have q7 : (0 : Int) < (ln : Int) := by omega
      have q7' : 0 < ln := by omega
      have HCS := hide hcs
      clear hlk hl1 hcs hO hvo hgl1 hgl2 hgl3 hln ry1 ry2 bY1 bY2 sY1 sY2 bRY hgf hgs RR0 RR1 hrow hb HVP htk hkN
      obtain ⟨f0, hf0⟩ : ∃ f, f = m - 1 := ⟨_, rfl⟩
      obtain ⟨s0, hs0⟩ : ∃ s, s = n - 1 := ⟨_, rfl⟩
      rw [← hf0] at HO q5
      rw [← hs0] at HO q6n
      have hfb : f0 < 18446744073709551616 := by omega
      have hsb : s0 < 18446744073709551616 := by omega
      clear hf0 hs0
      go_wp2_with fail
      clear q5 q6n
      go_loopg [15, 16] f0 (fun gk s15 s16 wz => ∃ (f s : Nat), gk = f ∧ s15 = .int .u64 (f : Int) ∧ s16 = .int .u64 (s : Int) ∧ f < 18446744073709551616 ∧ s < 18446744073709551616 ∧ Hid (V.low 64 f0 s0 = V.low 64 f s) ∧ wr = wz)
      case atStart => exact ⟨f0, s0, rfl, rfl, rfl, hfb, hsb, rfl, rfl⟩
      case round =>
        clear hfb hsb
        obtain ⟨f, s, hg, rfl, rfl, hf, hs, hlow, rfl⟩ := hrel
        by_cases ho : f % 2 = 1
        · have q8 : (f : Int) % 2 = 1 := by omega
          have HLO : Hid (V.low 64 f0 s0 = V.low 64 (f / 2) (s / 2)) := hlow.out.trans (V.low_odd f s ho (by simpa using hf))
          clear hlow
          go_wp2_with fail
          go_roundg (f / 2)
          case measure => omega
          case rel => exact ⟨f / 2, s / 2, rfl, rfl, rfl, by omega, by omega, HLO, rfl⟩
        · have q8 : ¬ (f : Int) % 2 = 1 := by omega
          have q8' : (f : Int) % 2 = 0 := by omega
          have HO2 : Hid (O = V.runP (S.node a) f s c c (lk.drop 1)) := by
            have := HO.out
            rw [hlow.out, V.low_even f s (by omega)] at this
            rw [HCS.out]
            exact this
          clear hlow HO
          go_wp2_with (first | (with_reducible refine at_op { dst := some 93, op := Op.load 23 (Operand.tmp 92), type := 23, pos := "ref.go:78", after := #[{ on := 1, ground := Ground.data }], guard := none } ?_; refine wpList_load_as rfl 23 (.tmp 92) rfl (.pointer (some ⟨gl, 0, none⟩)) rfl (.agg (S.v8 c)) hld1 ?_) | (with_reducible refine at_op { dst := some 17, op := Op.alloc 23, type := 0, pos := "ref.go:78", after := #[], guard := none } ?_; refine wpList_alloc_known rfl 23 rfl (.pointer (some ⟨gf, 0, none⟩)) A1 ha1 ?_) | (with_reducible refine at_op { dst := none, op := Op.store 23 (Operand.tmp 17) (Operand.tmp 93), type := 0, pos := "ref.go:78", after := #[{ on := 3, ground := Ground.data }, { on := 2, ground := Ground.data }, { on := 0, ground := Ground.phase }, { on := 1, ground := Ground.phase }, { on := 2, ground := Ground.phase }, { on := 3, ground := Ground.phase }], guard := none } ?_; refine wpList_store_as rfl 23 (.tmp 17) (.tmp 93) rfl (.pointer (some ⟨gf, 0, none⟩)) (.agg (S.v8 c)) rfl rfl Y1 hs1 ?_) | (with_reducible refine at_op { dst := some 96, op := Op.load 23 (Operand.tmp 95), type := 23, pos := "ref.go:79", after := #[{ on := 1, ground := Ground.data }], guard := none } ?_; refine wpList_load_as rfl 23 (.tmp 95) rfl (.pointer (some ⟨gl, 0, none⟩)) rfl (.agg (S.v8 c)) hld2 ?_) | (with_reducible refine at_op { dst := some 18, op := Op.alloc 23, type := 0, pos := "ref.go:79", after := #[], guard := none } ?_; refine wpList_alloc_known rfl 23 rfl (.pointer (some ⟨gs, 0, none⟩)) A2 ha2 ?_) | (with_reducible refine at_op { dst := none, op := Op.store 23 (Operand.tmp 18) (Operand.tmp 96), type := 0, pos := "ref.go:79", after := #[{ on := 3, ground := Ground.data }, { on := 2, ground := Ground.data }, { on := 0, ground := Ground.phase }, { on := 1, ground := Ground.phase }, { on := 2, ground := Ground.phase }, { on := 3, ground := Ground.phase }], guard := none } ?_; refine wpList_store_as rfl 23 (.tmp 18) (.tmp 96) rfl (.pointer (some ⟨gs, 0, none⟩)) (.agg (S.v8 c)) rfl rfl Y2 hs2 ?_))
          clear hld1 hld2 ha1 ha2 hs1 hs2 q8 q8' ho
          clear RC0 RC1 BC SZ BR
          go_loopg [15, 16, 19] (ln - 1) (fun gk s15 s16 s19 wz => ∃ (j f s : Nat) (x y : List UInt8), j + gk = ln ∧ 1 ≤ j ∧ s19 = .int .i64 (j : Int) ∧ s15 = .int .u64 (f : Int) ∧ s16 = .int .u64 (s : Int) ∧ f < 18446744073709551616 ∧ s < 18446744073709551616 ∧ Hid (O = V.runP (S.node a) f s x y (lk.drop j)) ∧ Hid (x.length = 32) ∧ Hid (y.length = 32) ∧ Hid (wz.heap[gf]? = some (.cells (S.v8 x) 23 (0, 0))) ∧ Hid (wz.heap[gs]? = some (.cells (S.v8 y) 23 (0, 0))) ∧ Hid (Chg (fun k => k = gf ∨ k = gs) Y2 wz))
          case atStart => exact ⟨1, f, s, c, c, by omega, by omega, rfl, rfl, rfl, hf, hs, HO2, LC, LC, RF, RS, Chg.refl _ _⟩
          case round =>
            clear HO2 RF RS hf hs
            obtain ⟨j, f, s, x, y, hj, hj1, rfl, rfl, rfl, hf, hs, HO, LX, LY, RX, RYY, HC⟩ := hrel
            have HB := hide (BY2.out.trans (HC.out.below w.heap.size BY2.out.size (fun k hk e => by have := GG.out; omega)))
            cases gk with
            | zero =>
              have qj : ¬ (j : Int) < (ln : Int) := by omega
              have hd : lk.drop j = [] := List.drop_eq_nil_of_le (by rw [← HLN.out]; omega)
              rw [hd] at HO
              have R0b : Hid (wr.heap[w.heap.size]? = some (.cells (S.v8 D1) 23 (0, 0))) := HC.out.row RY0.out (by have := GG.out; omega)
              have R1b : Hid (wr.heap[w.heap.size + 1]? = some (.cells (S.v8 D2) 23 (0, 0))) := HC.out.row RY1.out (by have := GG.out; omega)
              obtain ⟨sb, hsb⟩ : ∃ b : Bool, b = decide (s = 0) := ⟨_, rfl⟩
              have q3s : ((s : Int) == 0) = sb := by rw [hsb]; by_cases h : s = 0 <;> simp [h]
              have hR5 : R = (sb && (x == D1) && (y == D2)) := by
                rw [HVO.out]
                refine S.told_dd sb x y D1 D2 _ ?_
                rw [HO.out, hsb]
                by_cases h : s = 0
                · subst h; rw [V.runP_end]; simp
                · rw [V.runP_nil _ f s x y h]; simp [h]
              obtain ⟨e1, he1⟩ : ∃ e : Bool, e = (x == D1) := ⟨_, rfl⟩
              obtain ⟨e2, he2⟩ : ∃ e : Bool, e = (y == D2) := ⟨_, rfl⟩
              rw [← he1, ← he2] at hR5
              have heq1 : ∀ w, (Op.equalIn 10000 23 (.agg (S.v8 x)) (.agg (S.v8 D1))).run Tryd.prog w = .ok e1 w := fun w => equal_dig x D1 LX.out LD1.out e1 he1.symm w
              have heq2 : ∀ w, (Op.equalIn 10000 23 (.agg (S.v8 y)) (.agg (S.v8 D2))).run Tryd.prog w = .ok e2 w := fun w => equal_dig y D2 LY.out LD2.out e2 he2.symm w
              have HR5 := hide hR5
              have hl1 := load_dig RX.out LX.out
              have hl2 := load_dig R0b.out LD1.out
              clear hd hsb hR5 he1 he2
              cases e1 with
              | false =>
                go_wp2_with (first | (with_reducible refine at_op { dst := some 149, op := Op.load 23 (Operand.tmp 17), type := 23, pos := "ref.go:97", after := #[], guard := none } ?_; refine wpList_load_as rfl 23 (.tmp 17) rfl (.pointer (some ⟨gf, 0, none⟩)) rfl (.agg (S.v8 x)) hl1 ?_) | (with_reducible refine at_op { dst := some 150, op := Op.load 23 (Operand.tmp 9), type := 23, pos := "ref.go:97", after := #[], guard := none } ?_; refine wpList_load_as rfl 23 (.tmp 9) rfl (.pointer (some ⟨w.heap.size, 0, none⟩)) rfl (.agg (S.v8 D1)) hl2 ?_))
                go_ret
                exact ⟨by rw [HR5.out]; simp, HB.out⟩
              | true =>
                cases e2 with
                | false =>
                  go_wp2_with (first | (with_reducible refine at_op { dst := some 149, op := Op.load 23 (Operand.tmp 17), type := 23, pos := "ref.go:97", after := #[], guard := none } ?_; refine wpList_load_as rfl 23 (.tmp 17) rfl (.pointer (some ⟨gf, 0, none⟩)) rfl (.agg (S.v8 x)) hl1 ?_) | (with_reducible refine at_op { dst := some 150, op := Op.load 23 (Operand.tmp 9), type := 23, pos := "ref.go:97", after := #[], guard := none } ?_; refine wpList_load_as rfl 23 (.tmp 9) rfl (.pointer (some ⟨w.heap.size, 0, none⟩)) rfl (.agg (S.v8 D1)) hl2 ?_) | (with_reducible refine at_op { dst := some 153, op := Op.load 23 (Operand.tmp 18), type := 23, pos := "ref.go:97", after := #[{ on := 3, ground := Ground.guard }], guard := some (3, true) } ?_; refine load_dig_when rfl (.tmp 18) rfl gs rfl y RYY.out LY.out ?_) | (with_reducible refine at_op { dst := some 154, op := Op.load 23 (Operand.tmp 10), type := 23, pos := "ref.go:97", after := #[{ on := 3, ground := Ground.guard }], guard := some (3, true) } ?_; refine load_dig_when rfl (.tmp 10) rfl (w.heap.size + 1) rfl D2 R1b.out LD2.out ?_))
                  go_ret
                  exact ⟨by rw [HR5.out]; simp, HB.out⟩
                | true =>
                  go_wp2_with (first | (with_reducible refine at_op { dst := some 149, op := Op.load 23 (Operand.tmp 17), type := 23, pos := "ref.go:97", after := #[], guard := none } ?_; refine wpList_load_as rfl 23 (.tmp 17) rfl (.pointer (some ⟨gf, 0, none⟩)) rfl (.agg (S.v8 x)) hl1 ?_) | (with_reducible refine at_op { dst := some 150, op := Op.load 23 (Operand.tmp 9), type := 23, pos := "ref.go:97", after := #[], guard := none } ?_; refine wpList_load_as rfl 23 (.tmp 9) rfl (.pointer (some ⟨w.heap.size, 0, none⟩)) rfl (.agg (S.v8 D1)) hl2 ?_) | (with_reducible refine at_op { dst := some 153, op := Op.load 23 (Operand.tmp 18), type := 23, pos := "ref.go:97", after := #[{ on := 3, ground := Ground.guard }], guard := some (3, true) } ?_; refine load_dig_when rfl (.tmp 18) rfl gs rfl y RYY.out LY.out ?_) | (with_reducible refine at_op { dst := some 154, op := Op.load 23 (Operand.tmp 10), type := 23, pos := "ref.go:97", after := #[{ on := 3, ground := Ground.guard }], guard := some (3, true) } ?_; refine load_dig_when rfl (.tmp 10) rfl (w.heap.size + 1) rfl D2 R1b.out LD2.out ?_))
                  go_ret
                  exact ⟨by rw [HR5.out]; simp, HB.out⟩
            | succ gO =>
              have qj : (j : Int) < (ln : Int) := by omega
              have qj0 : (0 : Int) ≤ (j : Int) := by omega
              have qj1 : IntKind.i64.wrap ((j : Int) + 1) = (j : Int) + 1 := by rw [IntKind.wrap_i64]; have := LMX.out; omega
              have hjl : j < lk.length := by rw [← HLN.out]; omega
              obtain ⟨p, hp⟩ : ∃ p, p = lk.getD j [] := ⟨_, rfl⟩
              have LP := hide (show p.length = 32 by rw [hp]; exact L32.out _ (by rw [List.getD_eq_getElem?_getD, List.getElem?_eq_getElem hjl]; exact List.getElem_mem hjl))
              have hdr : lk.drop j = p :: lk.drop (j + 1) := by rw [hp]; exact drop_cons j hjl
              rw [hdr] at HO
              by_cases hs0 : s = 0
              · have q3 : ((s : Int) == 0) = true := by simp [hs0]
                have HR5 := hide (show R = false by rw [HVO.out, HO.out, hs0, V.runP_over]; simp)
                clear hs0 hdr hp HO
                go_wp2_with fail
                go_ret
                exact ⟨by rw [HR5.out]; rfl, HB.out⟩
              · have q3 : ((s : Int) == 0) = false := by simp [hs0]
                have LRr : Hid (wr.rangeAt gl (j * 32) (S.v8l p)) := fun i u hu => (World.cell?_of_block (HC.out.block gl (by have := GG.out; omega) (by have := GG.out; omega))).trans (LROW.out j (by omega) i u (by rw [← hp]; exact hu))
                have hsz := size_dig p LP.out
                clear hdr hp hjl
                by_cases hmid : f % 2 = 1 ∨ f = s
                · have HUPN : Hid (O = _) := HO.out.trans (V.runP_mid _ f s x y p _ hmid hs0)
                  clear HO
                  go_upto_region 28 with fail
                  go_cut [112] from 97 to 148 (fun v112 we => v112 = .bool true ∧ wr = we)
                  case first =>
                    by_cases ho : f % 2 = 1
                    · have q5 : (f : Int) % 2 = 1 := by omega
                      go_wp2_with fail
                      go_meet
                      case rel => exact ⟨rfl, rfl⟩
                    · have q5 : ¬ (f : Int) % 2 = 1 := by omega
                      have q5' : (f : Int) % 2 = 0 := by omega
                      have q6 : ((f : Int) == (s : Int)) = true := by simp; omega
                      go_wp2_with fail
                      go_meet
                      case rel => exact ⟨rfl, rfl⟩
                  obtain ⟨rfl, rfl⟩ := hcut
                  go_wp2_with fail
                  refine wp_region_noPanic ?_
                  refine wp_region_held_drew (S := (fun W => Chg (fun k => k = gf) wr W)) follows ((Chg.refl _ _).drew) (fun hHeld => ?_)
                  clear hHeld
                  have hHeld : Chg (fun k => k = gf) wr wr.drew := (Chg.refl _ _).drew
                  have CZ0 := hide hHeld
                  have RX' : Hid (wr.drew.heap[gf]? = some (.cells (S.v8 x) 23 (0, 0))) := RX.out
                  have RYY' : Hid (wr.drew.heap[gs]? = some (.cells (S.v8 y) 23 (0, 0))) := RYY.out
                  generalize wr.drew = Z0 at CZ0 hHeld RX' RYY' ⊢
                  refine wpAnyH_take (i := 0) (oi := { dst := some 113, op := Op.move (Operand.tmp 0), type := 33, pos := "ref.go:85", after := #[], guard := none }) (v := ?_) rfl (by kernel_rfl) (by kernel_rfl) (by kernel_rfl) (fun _ _ _ h => h) (Or.inl ⟨by rfl, ?_⟩) (by assumption) ?_
                  rotate_left
                  · intro w hSw
                    clear hSw
                    go_simp
                    all_goals with_reducible rfl
                  simp only [Act.put, List.setIfInBounds_toArray, List.set_cons_zero, List.set_cons_succ]
                  refine wpAnyH_take (i := 1) (oi := { dst := some 114, op := Op.move (Operand.tmp 13), type := 32, pos := "ref.go:85", after := #[], guard := none }) (v := ?_) rfl (by kernel_rfl) (by kernel_rfl) (by kernel_rfl) (fun _ _ _ h => h) (Or.inl ⟨by rfl, ?_⟩) (by assumption) ?_
                  rotate_left
                  · intro w hSw
                    clear hSw
                    go_simp
                    all_goals with_reducible rfl
                  simp only [Act.put, List.setIfInBounds_toArray, List.set_cons_zero, List.set_cons_succ]
                  refine wpAnyH_take (i := 2) (oi := { dst := some 115, op := Op.move (Operand.tmp 19), type := 3, pos := "ref.go:85", after := #[], guard := none }) (v := ?_) rfl (by kernel_rfl) (by kernel_rfl) (by kernel_rfl) (fun _ _ _ h => h) (Or.inl ⟨by rfl, ?_⟩) (by assumption) ?_
                  rotate_left
                  · intro w hSw
                    clear hSw
                    go_simp
                    all_goals with_reducible rfl
                  simp only [Act.put, List.setIfInBounds_toArray, List.set_cons_zero, List.set_cons_succ]
                  refine wpAnyH_take (i := 3) (oi := { dst := some 116, op := Op.indexAddr 32 (Operand.tmp 114) (Operand.tmp 115), type := 0, pos := "ref.go:85", after := #[{ on := 1, ground := Ground.data }, { on := 2, ground := Ground.data }], guard := none }) (v := ?_) rfl (by kernel_rfl) (by kernel_rfl) (by kernel_rfl) (fun _ _ _ h => h) (Or.inl ⟨by rfl, ?_⟩) (by assumption) ?_
                  rotate_left
                  · intro w hSw
                    clear hSw
                    go_simp
                    all_goals with_reducible rfl
                  simp only [Act.put, List.setIfInBounds_toArray, List.set_cons_zero, List.set_cons_succ]
                  refine wpAnyH_take (i := 4) (oi := { dst := some 117, op := Op.load 23 (Operand.tmp 116), type := 23, pos := "ref.go:85", after := #[{ on := 3, ground := Ground.data }], guard := none }) (v := .agg (S.v8l p).toArray) rfl (by kernel_rfl) (by kernel_rfl) (by kernel_rfl) (fun _ _ _ h => h) (yieldsIf_load_mid (by rfl) _ _ rfl gl (j * 32) rfl (S.v8l p) _ (fun _ hSw => (fun i u hu => (World.cell?_of_block (hSw.block gl (by have := GG.out; have := HC.out.size; omega) (by have := GG.out; omega))).trans (LRr.out i u hu))) Tryd.underlying23 rfl hsz) (by assumption) ?_
                  simp only [Act.put, List.setIfInBounds_toArray, List.set_cons_zero, List.set_cons_succ]
                  refine wpAnyH_ready (rs := [5]) (by kernel_rfl) (by simp) ?_
                  refine step_load (o := { dst := some 118, op := Op.load 23 (Operand.tmp 17), type := 23, pos := "ref.go:85", after := #[], guard := none }) rfl rfl 23 (.tmp 17) rfl (.agg (S.v8 x)) (load_dig RX'.out LX.out) AllReadyH.nil ⟨CZ0.out, fun hHeld => ?_⟩
                  simp only [Act.put, List.setIfInBounds_toArray, List.set_cons_zero, List.set_cons_succ]
                  refine wpAnyH_ready (rs := [6]) (by kernel_rfl) (by simp) ?_
                  refine AllReadyH.cons (o := { dst := some 119, op := Op.call { callee := Callee.value (Operand.func 43), args := #[Operand.tmp 113, Operand.tmp 117, Operand.tmp 118], argTypes := #[33, 23, 23] }, type := 23, pos := "ref.go:85", after := #[{ on := 0, ground := Ground.data }, { on := 4, ground := Ground.data }, { on := 5, ground := Ground.data }], guard := none }) rfl (fun K hK => ?_) AllReadyH.nil
                  go_simp
                  refine (hnode_any gh gT a p x LP.out LX.out Z0 (HH.out.below (HB.out.trans (CZ0.out.below w.heap.size HB.out.size (fun k hk e => by have := GG.out; omega))) (Nat.le_refl _))).mono ?_
                  rintro e Z1 ⟨rfl, hb2⟩
                  obtain ⟨E1, hE1⟩ : ∃ DD, DD = S.node a p x := ⟨_, rfl⟩
                  rw [← hE1]
                  have LE1 := hide (show E1.length = 32 by rw [hE1]; exact S.node_length _ _ _)
                  have EE1 := hide hE1
                  clear hE1
                  replace RX' : Hid (Z1.heap[gf]? = some (.cells (S.v8 x) 23 (0, 0))) := (hb2.block _ (block_lt_of_row RX'.out)).trans RX'.out
                  replace RYY' : Hid (Z1.heap[gs]? = some (.cells (S.v8 y) 23 (0, 0))) := (hb2.block _ (block_lt_of_row RYY'.out)).trans RYY'.out
                  have CZ1 : Hid (Chg (fun k => k = gf) wr Z1) := CZ0.out.then hb2
                  clear hb2 CZ0
                  clear hHeld
                  refine hK.out _ _ CZ1.out (fun hHeld => ?_)
                  clear hK K
                  try simp only [Act.put, List.setIfInBounds_toArray, List.set_cons_zero, List.set_cons_succ]
                  refine wpAnyH_ready (rs := [7]) (by kernel_rfl) (by simp) ?_
                  obtain ⟨Z2, hst, r6, C6, s6⟩ := store_dig RX'.out LX.out LE1.out
                  refine step_store_as (o := { dst := none, op := Op.store 23 (Operand.tmp 17) (Operand.tmp 119), type := 0, pos := "ref.go:85", after := #[{ on := 6, ground := Ground.data }, { on := 6, ground := Ground.chain }, { on := 0, ground := Ground.phase }, { on := 1, ground := Ground.phase }, { on := 2, ground := Ground.phase }, { on := 3, ground := Ground.phase }, { on := 4, ground := Ground.phase }, { on := 5, ground := Ground.phase }, { on := 6, ground := Ground.phase }], guard := none }) rfl rfl 23 (.tmp 17) (.tmp 119) rfl _ _ rfl rfl Z2 hst AllReadyH.nil ⟨CZ1.out.trans C6 (fun k hk e => by first | exact e | exact Or.inl e | exact Or.inr e | omega), fun hHeld => ?_⟩
                  replace RX' : Hid (Z2.heap[gf]? = some (.cells (S.v8 E1) 23 (0, 0))) := r6
                  replace RYY' : Hid (Z2.heap[gs]? = some (.cells (S.v8 y) 23 (0, 0))) := C6.row RYY'.out (by have := GG.out; omega)
                  have CZ2 : Hid (Chg (fun k => k = gf) wr Z2) := CZ1.out.trans C6 (fun k hk e => by first | exact e | exact Or.inl e | exact Or.inr e | omega)
                  clear hst r6 C6 s6 CZ1
                  simp only [Act.put]
                  refine wpAnyH_done (by kernel_rfl) ?_ _
                  refine NoPanic.normal ?_
                  clear hHeld
                  have HCA : Hid (Chg (fun k => k = gf ∨ k = gs) Y2 Z2) := HC.out.trans CZ2.out (fun k hk e => by omega)
                  obtain ⟨WA, hWA⟩ : ∃ W, W = Z2 := ⟨_, rfl⟩
                  rw [← hWA] at HCA RX' RYY' CZ2 ⊢
                  clear hWA
                  have LRs : Hid (WA.rangeAt gl (j * 32) (S.v8l p)) := fun i u hu => (World.cell?_of_block (HCA.out.block gl (by have := GG.out; omega) (by have := GG.out; omega))).trans ((World.cell?_of_block (HC.out.block gl (by have := GG.out; omega) (by have := GG.out; omega))).symm.trans (LRr.out i u hu))
                  have HBA := hide (BY2.out.trans (HCA.out.below w.heap.size BY2.out.size (fun k hk e => by have := GG.out; omega)))
                  clear CZ2
                  have RX2 := RX'
                  have RYY2 := RYY'
                  clear RX' RYY'
                  rw [← EE1.out] at HUPN
                  go_wp2_with fail
                  refine wp_region_noPanic ?_
                  refine wp_region_held_drew (S := (fun W => Chg (fun k => k = gs) WA W)) follows ((Chg.refl _ _).drew) (fun hHeld => ?_)
                  clear hHeld
                  have hHeld : Chg (fun k => k = gs) WA WA.drew := (Chg.refl _ _).drew
                  have CZ0 := hide hHeld
                  have RYY2' : Hid (WA.drew.heap[gs]? = some (.cells (S.v8 y) 23 (0, 0))) := RYY2.out
                  have RX2' : Hid (WA.drew.heap[gf]? = some (.cells (S.v8 E1) 23 (0, 0))) := RX2.out
                  generalize WA.drew = Z0 at CZ0 hHeld RYY2' RX2' ⊢
                  refine wpAnyH_take (i := 0) (oi := { dst := some 120, op := Op.move (Operand.tmp 0), type := 33, pos := "ref.go:86", after := #[], guard := none }) (v := ?_) rfl (by kernel_rfl) (by kernel_rfl) (by kernel_rfl) (fun _ _ _ h => h) (Or.inl ⟨by rfl, ?_⟩) (by assumption) ?_
                  rotate_left
                  · intro w hSw
                    clear hSw
                    go_simp
                    all_goals with_reducible rfl
                  simp only [Act.put, List.setIfInBounds_toArray, List.set_cons_zero, List.set_cons_succ]
                  refine wpAnyH_take (i := 1) (oi := { dst := some 121, op := Op.move (Operand.tmp 13), type := 32, pos := "ref.go:86", after := #[], guard := none }) (v := ?_) rfl (by kernel_rfl) (by kernel_rfl) (by kernel_rfl) (fun _ _ _ h => h) (Or.inl ⟨by rfl, ?_⟩) (by assumption) ?_
                  rotate_left
                  · intro w hSw
                    clear hSw
                    go_simp
                    all_goals with_reducible rfl
                  simp only [Act.put, List.setIfInBounds_toArray, List.set_cons_zero, List.set_cons_succ]
                  refine wpAnyH_take (i := 2) (oi := { dst := some 122, op := Op.move (Operand.tmp 19), type := 3, pos := "ref.go:86", after := #[], guard := none }) (v := ?_) rfl (by kernel_rfl) (by kernel_rfl) (by kernel_rfl) (fun _ _ _ h => h) (Or.inl ⟨by rfl, ?_⟩) (by assumption) ?_
                  rotate_left
                  · intro w hSw
                    clear hSw
                    go_simp
                    all_goals with_reducible rfl
                  simp only [Act.put, List.setIfInBounds_toArray, List.set_cons_zero, List.set_cons_succ]
                  refine wpAnyH_take (i := 3) (oi := { dst := some 123, op := Op.indexAddr 32 (Operand.tmp 121) (Operand.tmp 122), type := 0, pos := "ref.go:86", after := #[{ on := 1, ground := Ground.data }, { on := 2, ground := Ground.data }], guard := none }) (v := ?_) rfl (by kernel_rfl) (by kernel_rfl) (by kernel_rfl) (fun _ _ _ h => h) (Or.inl ⟨by rfl, ?_⟩) (by assumption) ?_
                  rotate_left
                  · intro w hSw
                    clear hSw
                    go_simp
                    all_goals with_reducible rfl
                  simp only [Act.put, List.setIfInBounds_toArray, List.set_cons_zero, List.set_cons_succ]
                  refine wpAnyH_take (i := 4) (oi := { dst := some 124, op := Op.load 23 (Operand.tmp 123), type := 23, pos := "ref.go:86", after := #[{ on := 3, ground := Ground.data }], guard := none }) (v := .agg (S.v8l p).toArray) rfl (by kernel_rfl) (by kernel_rfl) (by kernel_rfl) (fun _ _ _ h => h) (yieldsIf_load_mid (by rfl) _ _ rfl gl (j * 32) rfl (S.v8l p) _ (fun _ hSw => (fun i u hu => (World.cell?_of_block (hSw.block gl (by have := GG.out; have := HCA.out.size; omega) (by have := GG.out; omega))).trans (LRs.out i u hu))) Tryd.underlying23 rfl hsz) (by assumption) ?_
                  simp only [Act.put, List.setIfInBounds_toArray, List.set_cons_zero, List.set_cons_succ]
                  refine wpAnyH_ready (rs := [5]) (by kernel_rfl) (by simp) ?_
                  refine step_load (o := { dst := some 125, op := Op.load 23 (Operand.tmp 18), type := 23, pos := "ref.go:86", after := #[], guard := none }) rfl rfl 23 (.tmp 18) rfl (.agg (S.v8 y)) (load_dig RYY2'.out LY.out) AllReadyH.nil ⟨CZ0.out, fun hHeld => ?_⟩
                  simp only [Act.put, List.setIfInBounds_toArray, List.set_cons_zero, List.set_cons_succ]
                  refine wpAnyH_ready (rs := [6]) (by kernel_rfl) (by simp) ?_
                  refine AllReadyH.cons (o := { dst := some 126, op := Op.call { callee := Callee.value (Operand.func 43), args := #[Operand.tmp 120, Operand.tmp 124, Operand.tmp 125], argTypes := #[33, 23, 23] }, type := 23, pos := "ref.go:86", after := #[{ on := 0, ground := Ground.data }, { on := 4, ground := Ground.data }, { on := 5, ground := Ground.data }], guard := none }) rfl (fun K hK => ?_) AllReadyH.nil
                  go_simp
                  refine (hnode_any gh gT a p y LP.out LY.out Z0 (HH.out.below (HBA.out.trans (CZ0.out.below w.heap.size HBA.out.size (fun k hk e => by have := GG.out; omega))) (Nat.le_refl _))).mono ?_
                  rintro e Z1 ⟨rfl, hb2⟩
                  obtain ⟨E2, hE2⟩ : ∃ DD, DD = S.node a p y := ⟨_, rfl⟩
                  rw [← hE2]
                  have LE2 := hide (show E2.length = 32 by rw [hE2]; exact S.node_length _ _ _)
                  have EE2 := hide hE2
                  clear hE2
                  replace RYY2' : Hid (Z1.heap[gs]? = some (.cells (S.v8 y) 23 (0, 0))) := (hb2.block _ (block_lt_of_row RYY2'.out)).trans RYY2'.out
                  replace RX2' : Hid (Z1.heap[gf]? = some (.cells (S.v8 E1) 23 (0, 0))) := (hb2.block _ (block_lt_of_row RX2'.out)).trans RX2'.out
                  have CZ1 : Hid (Chg (fun k => k = gs) WA Z1) := CZ0.out.then hb2
                  clear hb2 CZ0
                  clear hHeld
                  refine hK.out _ _ CZ1.out (fun hHeld => ?_)
                  clear hK K
                  try simp only [Act.put, List.setIfInBounds_toArray, List.set_cons_zero, List.set_cons_succ]
                  refine wpAnyH_ready (rs := [7]) (by kernel_rfl) (by simp) ?_
                  obtain ⟨Z2, hst, r6, C6, s6⟩ := store_dig RYY2'.out LY.out LE2.out
                  refine step_store_as (o := { dst := none, op := Op.store 23 (Operand.tmp 18) (Operand.tmp 126), type := 0, pos := "ref.go:86", after := #[{ on := 6, ground := Ground.data }, { on := 6, ground := Ground.chain }, { on := 0, ground := Ground.phase }, { on := 1, ground := Ground.phase }, { on := 2, ground := Ground.phase }, { on := 3, ground := Ground.phase }, { on := 4, ground := Ground.phase }, { on := 5, ground := Ground.phase }, { on := 6, ground := Ground.phase }], guard := none }) rfl rfl 23 (.tmp 18) (.tmp 126) rfl _ _ rfl rfl Z2 hst AllReadyH.nil ⟨CZ1.out.trans C6 (fun k hk e => by first | exact e | exact Or.inl e | exact Or.inr e | omega), fun hHeld => ?_⟩
                  replace RYY2' : Hid (Z2.heap[gs]? = some (.cells (S.v8 E2) 23 (0, 0))) := r6
                  replace RX2' : Hid (Z2.heap[gf]? = some (.cells (S.v8 E1) 23 (0, 0))) := C6.row RX2'.out (by have := GG.out; omega)
                  have CZ2 : Hid (Chg (fun k => k = gs) WA Z2) := CZ1.out.trans C6 (fun k hk e => by first | exact e | exact Or.inl e | exact Or.inr e | omega)
                  clear hst r6 C6 s6 CZ1
                  simp only [Act.put]
                  refine wpAnyH_done (by kernel_rfl) ?_ _
                  refine NoPanic.normal ?_
                  clear hHeld
                  have HCF : Hid (Chg (fun k => k = gf ∨ k = gs) Y2 Z2) := HCA.out.trans CZ2.out (fun k hk e => by omega)
                  rw [← EE2.out] at HUPN
                  obtain ⟨WB, hWB⟩ : ∃ W, W = Z2 := ⟨_, rfl⟩
                  rw [← hWB] at HCF RX2' RYY2' CZ2 ⊢
                  clear hWB CZ2
                  go_wp2_with fail
                  go_loopg [15, 16] f (fun gk s15 s16 wz => ∃ (f' s' : Nat), gk = f' ∧ s15 = .int .u64 (f' : Int) ∧ s16 = .int .u64 (s' : Int) ∧ f' < 18446744073709551616 ∧ s' < 18446744073709551616 ∧ Hid (V.up 64 f s = V.up 64 f' s') ∧ WB = wz)
                  case atStart => exact ⟨f, s, rfl, rfl, rfl, hf, hs, rfl, rfl⟩
                  case round =>
                    obtain ⟨f', s', hg2, rfl, rfl, hf', hs', hup, rfl⟩ := hrel
                    by_cases hgo : f' % 2 = 0 ∧ f' ≠ 0
                    · have q8 : (f' : Int) % 2 = 0 := by omega
                      have q9 : ((f' : Int) == 0) = false := by simp; omega
                      have q9' : ((f' : Int) != 0) = true := by simp; omega
                      have HUQ : Hid (V.up 64 f s = V.up 64 (f' / 2) (s' / 2)) := hup.out.trans (V.up_even f' s' hgo.1 hgo.2 (by simpa using hf'))
                      have HNZ := hide hgo.2
                      clear hup hgo
                      go_wp2_with fail
                      go_roundg (f' / 2)
                      case measure => have := HNZ.out; omega
                      case rel => exact ⟨f' / 2, s' / 2, rfl, rfl, rfl, by omega, by omega, HUQ, rfl⟩
                    · have HUQ : Hid (V.up 64 f s = (f', s')) := hup.out.trans (V.up_stop f' s' (by omega))
                      have HUPF : Hid (O = V.runP (S.node a) (f' / 2) (s' / 2) E1 E2 (lk.drop (j + 1))) := by
                        have := HUPN.out
                        rw [HUQ.out] at this
                        exact this
                      clear hup HUPN HUQ
                      by_cases hz : f' = 0
                      · have q8 : (f' : Int) % 2 = 0 := by omega
                        have q9 : ((f' : Int) == 0) = true := by simp; omega
                        have q9' : ((f' : Int) != 0) = false := by simp; omega
                        have HZ := hide hz
                        clear hz hgo
                        go_wp2_with fail
                        go_roundg gO
                        case measure => omega
                        case rel => exact ⟨j + 1, f' / 2, s' / 2, E1, E2, by omega, by omega, by first | rfl | simp, rfl, rfl, by omega, by omega, HUPF, LE1, LE2, RX2', RYY2', HCF⟩
                      · have q8 : ¬ (f' : Int) % 2 = 0 := by omega
                        have q8' : (f' : Int) % 2 = 1 := by omega
                        clear hz hgo
                        go_wp2_with fail
                        go_roundg gO
                        case measure => omega
                        case rel => exact ⟨j + 1, f' / 2, s' / 2, E1, E2, by omega, by omega, by first | rfl | simp, rfl, rfl, by omega, by omega, HUPF, LE1, LE2, RX2', RYY2', HCF⟩
                · have ho : f % 2 = 0 := by omega
                  have hfs : f ≠ s := by omega
                  have q5 : ¬ (f : Int) % 2 = 1 := by omega
                  have q5' : (f : Int) % 2 = 0 := by omega
                  have q6 : ((f : Int) == (s : Int)) = false := by simp; omega
                  have HUPN : Hid (O = _) := HO.out.trans (V.runP_even _ f s x y p _ ho hfs hs0)
                  clear HO hmid ho hfs
                  go_wp2_with fail
                  refine wp_region_noPanic ?_
                  refine wp_region_held_drew (S := (fun W => Chg (fun k => k = gs) wr W)) follows ((Chg.refl _ _).drew) (fun hHeld => ?_)
                  clear hHeld
                  have hHeld : Chg (fun k => k = gs) wr wr.drew := (Chg.refl _ _).drew
                  have CZ0 := hide hHeld
                  have RYY' : Hid (wr.drew.heap[gs]? = some (.cells (S.v8 y) 23 (0, 0))) := RYY.out
                  have RX' : Hid (wr.drew.heap[gf]? = some (.cells (S.v8 x) 23 (0, 0))) := RX.out
                  generalize wr.drew = Z0 at CZ0 hHeld RYY' RX' ⊢
                  refine wpAnyH_take (i := 0) (oi := { dst := some 138, op := Op.move (Operand.tmp 0), type := 33, pos := "ref.go:92", after := #[], guard := none }) (v := ?_) rfl (by kernel_rfl) (by kernel_rfl) (by kernel_rfl) (fun _ _ _ h => h) (Or.inl ⟨by rfl, ?_⟩) (by assumption) ?_
                  rotate_left
                  · intro w hSw
                    clear hSw
                    go_simp
                    all_goals with_reducible rfl
                  simp only [Act.put, List.setIfInBounds_toArray, List.set_cons_zero, List.set_cons_succ]
                  refine wpAnyH_take (i := 2) (oi := { dst := some 140, op := Op.move (Operand.tmp 13), type := 32, pos := "ref.go:92", after := #[], guard := none }) (v := ?_) rfl (by kernel_rfl) (by kernel_rfl) (by kernel_rfl) (fun _ _ _ h => h) (Or.inl ⟨by rfl, ?_⟩) (by assumption) ?_
                  rotate_left
                  · intro w hSw
                    clear hSw
                    go_simp
                    all_goals with_reducible rfl
                  simp only [Act.put, List.setIfInBounds_toArray, List.set_cons_zero, List.set_cons_succ]
                  refine wpAnyH_take (i := 3) (oi := { dst := some 141, op := Op.move (Operand.tmp 19), type := 3, pos := "ref.go:92", after := #[], guard := none }) (v := ?_) rfl (by kernel_rfl) (by kernel_rfl) (by kernel_rfl) (fun _ _ _ h => h) (Or.inl ⟨by rfl, ?_⟩) (by assumption) ?_
                  rotate_left
                  · intro w hSw
                    clear hSw
                    go_simp
                    all_goals with_reducible rfl
                  simp only [Act.put, List.setIfInBounds_toArray, List.set_cons_zero, List.set_cons_succ]
                  refine wpAnyH_take (i := 4) (oi := { dst := some 142, op := Op.indexAddr 32 (Operand.tmp 140) (Operand.tmp 141), type := 0, pos := "ref.go:92", after := #[{ on := 2, ground := Ground.data }, { on := 3, ground := Ground.data }], guard := none }) (v := ?_) rfl (by kernel_rfl) (by kernel_rfl) (by kernel_rfl) (fun _ _ _ h => h) (Or.inl ⟨by rfl, ?_⟩) (by assumption) ?_
                  rotate_left
                  · intro w hSw
                    clear hSw
                    go_simp
                    all_goals with_reducible rfl
                  simp only [Act.put, List.setIfInBounds_toArray, List.set_cons_zero, List.set_cons_succ]
                  refine wpAnyH_take (i := 5) (oi := { dst := some 143, op := Op.load 23 (Operand.tmp 142), type := 23, pos := "ref.go:92", after := #[{ on := 4, ground := Ground.data }], guard := none }) (v := .agg (S.v8l p).toArray) rfl (by kernel_rfl) (by kernel_rfl) (by kernel_rfl) (fun _ _ _ h => h) (yieldsIf_load_mid (by rfl) _ _ rfl gl (j * 32) rfl (S.v8l p) _ (fun _ hSw => (fun i u hu => (World.cell?_of_block (hSw.block gl (by have := GG.out; have := HC.out.size; omega) (by have := GG.out; omega))).trans (LRr.out i u hu))) Tryd.underlying23 rfl hsz) (by assumption) ?_
                  simp only [Act.put, List.setIfInBounds_toArray, List.set_cons_zero, List.set_cons_succ]
                  refine wpAnyH_ready (rs := [1]) (by kernel_rfl) (by simp) ?_
                  refine step_load (o := { dst := some 139, op := Op.load 23 (Operand.tmp 18), type := 23, pos := "ref.go:92", after := #[], guard := none }) rfl rfl 23 (.tmp 18) rfl (.agg (S.v8 y)) (load_dig RYY'.out LY.out) AllReadyH.nil ⟨CZ0.out, fun hHeld => ?_⟩
                  simp only [Act.put, List.setIfInBounds_toArray, List.set_cons_zero, List.set_cons_succ]
                  refine wpAnyH_ready (rs := [6]) (by kernel_rfl) (by simp) ?_
                  refine AllReadyH.cons (o := { dst := some 144, op := Op.call { callee := Callee.value (Operand.func 43), args := #[Operand.tmp 138, Operand.tmp 139, Operand.tmp 143], argTypes := #[33, 23, 23] }, type := 23, pos := "ref.go:92", after := #[{ on := 0, ground := Ground.data }, { on := 1, ground := Ground.data }, { on := 5, ground := Ground.data }], guard := none }) rfl (fun K hK => ?_) AllReadyH.nil
                  go_simp
                  refine (hnode_any gh gT a y p LY.out LP.out Z0 (HH.out.below (HB.out.trans (CZ0.out.below w.heap.size HB.out.size (fun k hk e => by have := GG.out; omega))) (Nat.le_refl _))).mono ?_
                  rintro e Z1 ⟨rfl, hb2⟩
                  obtain ⟨E2, hE2⟩ : ∃ DD, DD = S.node a y p := ⟨_, rfl⟩
                  rw [← hE2]
                  have LE2 := hide (show E2.length = 32 by rw [hE2]; exact S.node_length _ _ _)
                  have EE2 := hide hE2
                  clear hE2
                  replace RYY' : Hid (Z1.heap[gs]? = some (.cells (S.v8 y) 23 (0, 0))) := (hb2.block _ (block_lt_of_row RYY'.out)).trans RYY'.out
                  replace RX' : Hid (Z1.heap[gf]? = some (.cells (S.v8 x) 23 (0, 0))) := (hb2.block _ (block_lt_of_row RX'.out)).trans RX'.out
                  have CZ1 : Hid (Chg (fun k => k = gs) wr Z1) := CZ0.out.then hb2
                  clear hb2 CZ0
                  clear hHeld
                  refine hK.out _ _ CZ1.out (fun hHeld => ?_)
                  clear hK K
                  try simp only [Act.put, List.setIfInBounds_toArray, List.set_cons_zero, List.set_cons_succ]
                  refine wpAnyH_ready (rs := [7]) (by kernel_rfl) (by simp) ?_
                  obtain ⟨Z2, hst, r6, C6, s6⟩ := store_dig RYY'.out LY.out LE2.out
                  refine step_store_as (o := { dst := none, op := Op.store 23 (Operand.tmp 18) (Operand.tmp 144), type := 0, pos := "ref.go:92", after := #[{ on := 6, ground := Ground.data }, { on := 6, ground := Ground.chain }, { on := 0, ground := Ground.phase }, { on := 1, ground := Ground.phase }, { on := 2, ground := Ground.phase }, { on := 3, ground := Ground.phase }, { on := 4, ground := Ground.phase }, { on := 5, ground := Ground.phase }, { on := 6, ground := Ground.phase }], guard := none }) rfl rfl 23 (.tmp 18) (.tmp 144) rfl _ _ rfl rfl Z2 hst AllReadyH.nil ⟨CZ1.out.trans C6 (fun k hk e => by first | exact e | exact Or.inl e | exact Or.inr e | omega), fun hHeld => ?_⟩
                  replace RYY' : Hid (Z2.heap[gs]? = some (.cells (S.v8 E2) 23 (0, 0))) := r6
                  replace RX' : Hid (Z2.heap[gf]? = some (.cells (S.v8 x) 23 (0, 0))) := C6.row RX'.out (by have := GG.out; omega)
                  have CZ2 : Hid (Chg (fun k => k = gs) wr Z2) := CZ1.out.trans C6 (fun k hk e => by first | exact e | exact Or.inl e | exact Or.inr e | omega)
                  clear hst r6 C6 s6 CZ1
                  simp only [Act.put]
                  refine wpAnyH_done (by kernel_rfl) ?_ _
                  refine NoPanic.normal ?_
                  clear hHeld
                  have HCF : Hid (Chg (fun k => k = gf ∨ k = gs) Y2 Z2) := HC.out.trans CZ2.out (fun k hk e => by omega)
                  rw [← EE2.out] at HUPN
                  go_wp2_with fail
                  go_roundg gO
                  case measure => omega
                  case rel => exact ⟨j + 1, f / 2, s / 2, x, E2, by omega, by omega, by first | rfl | simp, rfl, rfl, by omega, by omega, HUPN, LX, LE2, RX', RYY', HCF⟩
end Go.Proofs.YtlbggkmblkhjoaaDoor
