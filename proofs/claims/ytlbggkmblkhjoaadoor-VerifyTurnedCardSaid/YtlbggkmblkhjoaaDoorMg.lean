/- The path of a leaf; the proof of a beginning. -/
import Derived.Test.YtlbggkmblkhjoaaDoorMf
namespace Go.Proofs.YtlbggkmblkhjoaaDoor
open Go.RowKit

set_option maxHeartbeats 4000000 in
set_option maxRecDepth 10000 in
theorem path_any (a : Int) : ∀ N (bss : List (List UInt8)) (v : Value) (i : Nat) (w : World), bss.length = N → 1 ≤ N → N ≤ 256 → i < N → BsAt w v bss → Fit bss → KAt w →
   Calls Tryd.prog 49 #[.int .i64 a, v, .int .i64 (i : Int)] w fun e w' => ∃ v', e = .returned v' ∧ DgRow w.heap.size w' v' (S.path a bss i) ∧ Below w.heap.size w w' := by
  intro N
  induction N using Nat.strongRecOn with
  | ind N IH =>
  intro bss v i w hN h1 h256 hi hv hf hK
  obtain ⟨b, off, cap, rfl, hcap, hb, hcells⟩ := hv.src (by omega)
  have HV := hide hv
  have HF := hide hf
  have HK := hide hK
  have HI := hide @IH
  have h0 := hK.pos
  have hN2 := hide hN
  rw [hN] at hcap ⊢
  clear hv hf hK IH hcells hN
  by_cases hone : N = 1
  · have q1 : ((N : Int) == 1) = true := by simp; omega
    go_enter Tryd.func49, Tryd.ntmps49
    go_wp2_with fail
    go_ret
    exact ⟨_, rfl, by rw [S.path_one a bss i (by have := hN2.out; omega)]; exact DgRow.nil _ _, Below.refl _ _⟩
  · have q1 : ((N : Int) == 1) = false := by simp; omega
    go_enter Tryd.func49, Tryd.ntmps49
    go_wp2_with fail
    clear q1
    refine (parting_any N (by omega) h256 w).mono ?_
    rintro e w3 ⟨rfl, rfl⟩
    obtain ⟨k, hk⟩ : ∃ k, k = S.half N := ⟨_, rfl⟩
    have hkl : k < N := by rw [hk]; exact S.half_lt h256 (by omega)
    have hkp : 0 < k := by rw [hk]; exact S.half_pos N
    rw [← hk]
    have HKK := hide hk
    clear hk
    by_cases hik : i < k
    · have q1 : (i : Int) < (k : Int) := by omega
      go_wp2_with fail
      clear q1
      refine wp_region_noPanic ?_
      refine wp_region_held_drew (S := (fun _ => True)) follows trivial (fun hHeld => ?_)
      have BZ : Hid (Below w.heap.size w w.drew) := (Below.refl _ _).drew
      generalize w.drew = Z at BZ ⊢
      have q2 : (0 : Int) ≤ (k : Int) := by omega
      have q3 : (k : Int) ≤ (cap : Int) := by omega
      have q4 : (k : Int) ≤ (N : Int) := by omega
      have q5 : (N : Int) ≤ (cap : Int) := by omega
      have q6 : ¬ cap = k := by omega
      refine wpAnyH_take (i := 0) (oi := { dst := some 17, op := Op.move (Operand.tmp 0), type := 3, pos := "proof.go:20", after := #[], guard := none }) (v := ?_) rfl (by kernel_rfl) (by kernel_rfl) (by kernel_rfl) (fun _ _ _ h => h) (Or.inl ⟨by rfl, ?_⟩) (by assumption) ?_
      rotate_left
      · intro w hSw
        clear hSw
        go_simp
        all_goals with_reducible rfl
      simp only [Act.put, List.setIfInBounds_toArray, List.set_cons_zero, List.set_cons_succ]
      refine wpAnyH_take (i := 1) (oi := { dst := some 18, op := Op.move (Operand.tmp 1), type := 41, pos := "proof.go:20", after := #[], guard := none }) (v := ?_) rfl (by kernel_rfl) (by kernel_rfl) (by kernel_rfl) (fun _ _ _ h => h) (Or.inl ⟨by rfl, ?_⟩) (by assumption) ?_
      rotate_left
      · intro w hSw
        clear hSw
        go_simp
        all_goals with_reducible rfl
      simp only [Act.put, List.setIfInBounds_toArray, List.set_cons_zero, List.set_cons_succ]
      refine wpAnyH_take (i := 2) (oi := { dst := some 19, op := Op.move (Operand.tmp 7), type := 3, pos := "proof.go:20", after := #[], guard := none }) (v := ?_) rfl (by kernel_rfl) (by kernel_rfl) (by kernel_rfl) (fun _ _ _ h => h) (Or.inl ⟨by rfl, ?_⟩) (by assumption) ?_
      rotate_left
      · intro w hSw
        clear hSw
        go_simp
        all_goals with_reducible rfl
      simp only [Act.put, List.setIfInBounds_toArray, List.set_cons_zero, List.set_cons_succ]
      refine wpAnyH_take (i := 3) (oi := { dst := some 20, op := Op.slice 41 (Operand.tmp 18) none (some (Operand.tmp 19)) none, type := 41, pos := "proof.go:20", after := #[{ on := 1, ground := Ground.data }, { on := 2, ground := Ground.data }], guard := none }) (v := ?_) rfl (by kernel_rfl) (by kernel_rfl) (by kernel_rfl) (fun _ _ _ h => h) (Or.inl ⟨by rfl, ?_⟩) (by assumption) ?_
      rotate_left
      · intro w hSw
        clear hSw
        go_simp
        all_goals with_reducible rfl
      simp only [Act.put, List.setIfInBounds_toArray, List.set_cons_zero, List.set_cons_succ]
      refine wpAnyH_take (i := 4) (oi := { dst := some 21, op := Op.move (Operand.tmp 2), type := 3, pos := "proof.go:20", after := #[], guard := none }) (v := ?_) rfl (by kernel_rfl) (by kernel_rfl) (by kernel_rfl) (fun _ _ _ h => h) (Or.inl ⟨by rfl, ?_⟩) (by assumption) ?_
      rotate_left
      · intro w hSw
        clear hSw
        go_simp
        all_goals with_reducible rfl
      simp only [Act.put, List.setIfInBounds_toArray, List.set_cons_zero, List.set_cons_succ]
      refine wpAnyH_take (i := 6) (oi := { dst := some 23, op := Op.move (Operand.tmp 0), type := 3, pos := "proof.go:20", after := #[], guard := none }) (v := ?_) rfl (by kernel_rfl) (by kernel_rfl) (by kernel_rfl) (fun _ _ _ h => h) (Or.inl ⟨by rfl, ?_⟩) (by assumption) ?_
      rotate_left
      · intro w hSw
        clear hSw
        go_simp
        all_goals with_reducible rfl
      simp only [Act.put, List.setIfInBounds_toArray, List.set_cons_zero, List.set_cons_succ]
      refine wpAnyH_take (i := 7) (oi := { dst := some 24, op := Op.move (Operand.tmp 1), type := 41, pos := "proof.go:20", after := #[], guard := none }) (v := ?_) rfl (by kernel_rfl) (by kernel_rfl) (by kernel_rfl) (fun _ _ _ h => h) (Or.inl ⟨by rfl, ?_⟩) (by assumption) ?_
      rotate_left
      · intro w hSw
        clear hSw
        go_simp
        all_goals with_reducible rfl
      simp only [Act.put, List.setIfInBounds_toArray, List.set_cons_zero, List.set_cons_succ]
      refine wpAnyH_take (i := 8) (oi := { dst := some 25, op := Op.move (Operand.tmp 7), type := 3, pos := "proof.go:20", after := #[], guard := none }) (v := ?_) rfl (by kernel_rfl) (by kernel_rfl) (by kernel_rfl) (fun _ _ _ h => h) (Or.inl ⟨by rfl, ?_⟩) (by assumption) ?_
      rotate_left
      · intro w hSw
        clear hSw
        go_simp
        all_goals with_reducible rfl
      simp only [Act.put, List.setIfInBounds_toArray, List.set_cons_zero, List.set_cons_succ]
      refine wpAnyH_take (i := 9) (oi := { dst := some 26, op := Op.slice 41 (Operand.tmp 24) (some (Operand.tmp 25)) none none, type := 41, pos := "proof.go:20", after := #[{ on := 7, ground := Ground.data }, { on := 8, ground := Ground.data }], guard := none }) (v := ?_) rfl (by kernel_rfl) (by kernel_rfl) (by kernel_rfl) (fun _ _ _ h => h) (Or.inl ⟨by rfl, ?_⟩) (by assumption) ?_
      rotate_left
      · intro w hSw
        clear hSw
        go_simp
        all_goals with_reducible rfl
      simp only [Act.put, List.setIfInBounds_toArray, List.set_cons_zero, List.set_cons_succ]
      clear q2 q3 q4 q5 q6
      refine wpAnyH_ready (rs := [5]) (by kernel_rfl) (by simp) ?_
      refine AllReadyH.cons (o := { dst := some 22, op := Op.call { callee := Callee.value (Operand.func 49), args := #[Operand.tmp 17, Operand.tmp 20, Operand.tmp 21], argTypes := #[3, 41, 3] }, type := 32, pos := "proof.go:20", after := #[{ on := 0, ground := Ground.data }, { on := 3, ground := Ground.data }, { on := 4, ground := Ground.data }], guard := none }) rfl (fun K hK => ?_) AllReadyH.nil
      go_simp
      have VT := hide ((HV.out.take k (by have := hN2.out; omega)).below BZ.out (Nat.le_refl _))
      refine (HI.out k hkl (bss.take k) _ i Z (by rw [List.length_take]; have := hN2.out; omega) (by omega) (by omega) hik VT.out (HF.out.take k) (HK.out.below BZ.out h0)).mono ?_
      rintro e Z2 ⟨vp, rfl, p2, b2⟩
      obtain ⟨ds, hds⟩ : ∃ ds, ds = S.path a (bss.take k) i := ⟨_, rfl⟩
      rw [← hds] at p2
      have HDS := hide (show ds.length ≤ 100000 by rw [hds]; have := S.path_len a (bss.take k) i; rw [List.length_take] at this; have := hN2.out; omega)
      have B2 : Hid (Below w.heap.size w Z2) := BZ.out.trans (b2.mono BZ.out.size)
      have P2 := hide (p2.mono BZ.out.size)
      have HS := hide hds
      clear p2 b2 hds BZ
      clear VT
      refine hK.out _ _ trivial (fun hHeld => ?_)
      clear hK K
      try simp only [Act.put, List.setIfInBounds_toArray, List.set_cons_zero, List.set_cons_succ]
      refine wpAnyH_ready (rs := [10]) (by kernel_rfl) (by simp) ?_
      refine AllReadyH.cons (o := { dst := some 27, op := Op.call { callee := Callee.value (Operand.func 27), args := #[Operand.tmp 23, Operand.tmp 26], argTypes := #[3, 41] }, type := 23, pos := "proof.go:20", after := #[{ on := 6, ground := Ground.data }, { on := 9, ground := Ground.data }, { on := 5, ground := Ground.chain }], guard := none }) rfl (fun K hK => ?_) AllReadyH.nil
      go_simp
      have VD : Hid (BsAt Z2 (.slice (some ⟨b, off + k, none⟩) (N - k) (cap - k)) (bss.drop k)) := by have := (HV.out.drop k (by have := hN2.out; omega)).below B2.out (Nat.le_refl _); rw [hN2.out] at this; exact this
      refine (root_any a _ (bss.drop k) Z2 VD.out (by rw [List.length_drop]; have := hN2.out; omega) (HF.out.drop k) (HK.out.below B2.out h0)).mono ?_
      rintro e Z3 ⟨rfl, b3⟩
      obtain ⟨D, hD⟩ : ∃ D, D = S.root a (bss.drop k) := ⟨_, rfl⟩
      rw [← hD]
      have HDL : Hid (D.length = 32) := by rw [hD, S.root_length]; exact rfl
      have HD := hide hD
      have B3 : Hid (Below w.heap.size w Z3) := B2.out.trans (b3.mono B2.out.size)
      have P3 := hide (P2.out.below b3)
      clear b3 hD VD B2 P2
      refine hK.out _ _ trivial (fun hHeld => ?_)
      clear hK K
      try simp only [Act.put, List.setIfInBounds_toArray, List.set_cons_zero, List.set_cons_succ]
      refine wpAnyH_ready (rs := [11]) (by kernel_rfl) (by simp) ?_
      have bs1 := bs24one Z3 D HDL.out
      refine step_buildSlice_as (o := { dst := some 28, op := Op.buildSlice 32 1 #[(0, Operand.tmp 27)], type := 32, pos := "proof.go:20", after := #[{ on := 10, ground := Ground.data }], guard := none }) rfl rfl 32 1 [(0, .tmp 27)] rfl [(0, .agg (S.v8 D))] rfl _ _ bs1 AllReadyH.nil ⟨trivial, fun hHeld => ?_⟩
      clear hHeld bs1
      simp only [Act.put, List.setIfInBounds_toArray, List.set_cons_zero, List.set_cons_succ]
      obtain ⟨g4, hg4⟩ : ∃ g4, g4 = Z3.heap.size := ⟨_, rfl⟩
      generalize hZ4 : Z3.alloc _ = Z4
      have C4 : Below Z3.heap.size Z3 Z4 := by rw [← hZ4]; exact (Below.refl _ _).alloc (Nat.le_refl _) _
      have R4 : Hid (Z4.heap[g4]? = some (.cells (S.v8 D) 23 (0, 0))) := by rw [← hZ4, hg4]; exact heap_alloc_new _ _
      have B4 : Hid (Below w.heap.size w Z4) := B3.out.trans (C4.mono B3.out.size)
      have P4 := hide (P3.out.below C4)
      rw [← hg4]
      clear hZ4 C4 hg4 B3 P3
      refine wpAnyH_ready (rs := [12]) (by kernel_rfl) (by simp) ?_
      obtain ⟨v5, Z5, hr5, p5, b5⟩ := run_append_dig Z4 w.heap.size g4 vp ds D 32 P4.out HDL.out R4.out HDS.out B4.out.size
      refine step_append_as (o := { dst := some 29, op := Op.call { callee := Callee.builtin Builtin.append, args := #[Operand.tmp 22, Operand.tmp 28], argTypes := #[32, 32] }, type := 32, pos := "proof.go:20", after := #[{ on := 5, ground := Ground.data }, { on := 11, ground := Ground.data }, { on := 10, ground := Ground.chain }], guard := none }) rfl rfl (.tmp 22) (.tmp 28) 32 32 rfl _ _ rfl rfl v5 Z5 hr5 AllReadyH.nil ⟨trivial, fun hHeld => ?_⟩
      clear hHeld hr5
      simp only [Act.put, List.setIfInBounds_toArray, List.set_cons_zero, List.set_cons_succ]
      have B5 : Hid (Below w.heap.size w Z5) := B4.out.trans b5
      have P5 := hide p5
      clear p5 b5 B4 P4 R4
      refine wpAnyH_take (i := 13) (oi := { dst := some 6, op := Op.assign (Operand.tmp 29), type := 32, pos := "proof.go:20", after := #[{ on := 12, ground := Ground.data }, { on := 12, ground := Ground.chain }, { on := 0, ground := Ground.phase }, { on := 1, ground := Ground.phase }, { on := 2, ground := Ground.phase }, { on := 3, ground := Ground.phase }, { on := 4, ground := Ground.phase }, { on := 5, ground := Ground.phase }, { on := 6, ground := Ground.phase }, { on := 7, ground := Ground.phase }, { on := 8, ground := Ground.phase }, { on := 9, ground := Ground.phase }, { on := 10, ground := Ground.phase }, { on := 11, ground := Ground.phase }, { on := 12, ground := Ground.phase }], guard := none }) (v := ?_) rfl (by kernel_rfl) (by kernel_rfl) (by kernel_rfl) (fun _ _ _ h => h) (Or.inl ⟨by rfl, ?_⟩) (by assumption) ?_
      rotate_left
      · intro w hSw
        clear hSw
        go_simp
        all_goals with_reducible rfl
      simp only [Act.put, List.setIfInBounds_toArray, List.set_cons_zero, List.set_cons_succ]
      refine wpAnyH_done (by kernel_rfl) ?_ _
      refine NoPanic.normal ?_
      go_wp2_with fail
      go_ret
      exact ⟨v5, rfl, by rw [S.path_left a bss i (by have := hN2.out; omega) (by rw [hN2.out, ← HKK.out]; exact hik), hN2.out, ← HKK.out, ← HS.out, ← HD.out]; exact P5.out, B5.out⟩
    · have q1 : ¬ (i : Int) < (k : Int) := by omega
      have q1' : (k : Int) ≤ (i : Int) := by omega
      go_wp2_with fail
      clear q1 q1'
      refine wp_region_noPanic ?_
      refine wp_region_held_drew (S := (fun _ => True)) follows trivial (fun hHeld => ?_)
      have BZ : Hid (Below w.heap.size w w.drew) := (Below.refl _ _).drew
      generalize w.drew = Z at BZ ⊢
      have q2 : (0 : Int) ≤ (k : Int) := by omega
      have q3 : (k : Int) ≤ (cap : Int) := by omega
      have q4 : (k : Int) ≤ (N : Int) := by omega
      have q5 : (N : Int) ≤ (cap : Int) := by omega
      have q6 : ¬ cap = k := by omega
      have q7 : IntKind.i64.wrap ((i : Int) - (k : Int)) = ((i - k : Nat) : Int) := by rw [IntKind.wrap_i64]; omega
      refine wpAnyH_take (i := 0) (oi := { dst := some 30, op := Op.move (Operand.tmp 0), type := 3, pos := "proof.go:22", after := #[], guard := none }) (v := ?_) rfl (by kernel_rfl) (by kernel_rfl) (by kernel_rfl) (fun _ _ _ h => h) (Or.inl ⟨by rfl, ?_⟩) (by assumption) ?_
      rotate_left
      · intro w hSw
        clear hSw
        go_simp
        all_goals with_reducible rfl
      simp only [Act.put, List.setIfInBounds_toArray, List.set_cons_zero, List.set_cons_succ]
      refine wpAnyH_take (i := 1) (oi := { dst := some 31, op := Op.move (Operand.tmp 1), type := 41, pos := "proof.go:22", after := #[], guard := none }) (v := ?_) rfl (by kernel_rfl) (by kernel_rfl) (by kernel_rfl) (fun _ _ _ h => h) (Or.inl ⟨by rfl, ?_⟩) (by assumption) ?_
      rotate_left
      · intro w hSw
        clear hSw
        go_simp
        all_goals with_reducible rfl
      simp only [Act.put, List.setIfInBounds_toArray, List.set_cons_zero, List.set_cons_succ]
      refine wpAnyH_take (i := 2) (oi := { dst := some 32, op := Op.move (Operand.tmp 7), type := 3, pos := "proof.go:22", after := #[], guard := none }) (v := ?_) rfl (by kernel_rfl) (by kernel_rfl) (by kernel_rfl) (fun _ _ _ h => h) (Or.inl ⟨by rfl, ?_⟩) (by assumption) ?_
      rotate_left
      · intro w hSw
        clear hSw
        go_simp
        all_goals with_reducible rfl
      simp only [Act.put, List.setIfInBounds_toArray, List.set_cons_zero, List.set_cons_succ]
      refine wpAnyH_take (i := 3) (oi := { dst := some 33, op := Op.slice 41 (Operand.tmp 31) (some (Operand.tmp 32)) none none, type := 41, pos := "proof.go:22", after := #[{ on := 1, ground := Ground.data }, { on := 2, ground := Ground.data }], guard := none }) (v := ?_) rfl (by kernel_rfl) (by kernel_rfl) (by kernel_rfl) (fun _ _ _ h => h) (Or.inl ⟨by rfl, ?_⟩) (by assumption) ?_
      rotate_left
      · intro w hSw
        clear hSw
        go_simp
        all_goals with_reducible rfl
      simp only [Act.put, List.setIfInBounds_toArray, List.set_cons_zero, List.set_cons_succ]
      refine wpAnyH_take (i := 4) (oi := { dst := some 34, op := Op.move (Operand.tmp 2), type := 3, pos := "proof.go:22", after := #[], guard := none }) (v := ?_) rfl (by kernel_rfl) (by kernel_rfl) (by kernel_rfl) (fun _ _ _ h => h) (Or.inl ⟨by rfl, ?_⟩) (by assumption) ?_
      rotate_left
      · intro w hSw
        clear hSw
        go_simp
        all_goals with_reducible rfl
      simp only [Act.put, List.setIfInBounds_toArray, List.set_cons_zero, List.set_cons_succ]
      refine wpAnyH_take (i := 5) (oi := { dst := some 35, op := Op.move (Operand.tmp 7), type := 3, pos := "proof.go:22", after := #[], guard := none }) (v := ?_) rfl (by kernel_rfl) (by kernel_rfl) (by kernel_rfl) (fun _ _ _ h => h) (Or.inl ⟨by rfl, ?_⟩) (by assumption) ?_
      rotate_left
      · intro w hSw
        clear hSw
        go_simp
        all_goals with_reducible rfl
      simp only [Act.put, List.setIfInBounds_toArray, List.set_cons_zero, List.set_cons_succ]
      refine wpAnyH_take (i := 6) (oi := { dst := some 36, op := Op.binOp BinOp.sub 3 (Operand.tmp 34) (Operand.tmp 35) 3, type := 3, pos := "proof.go:22", after := #[{ on := 4, ground := Ground.data }, { on := 5, ground := Ground.data }], guard := none }) (v := ?_) rfl (by kernel_rfl) (by kernel_rfl) (by kernel_rfl) (fun _ _ _ h => h) (Or.inl ⟨by rfl, ?_⟩) (by assumption) ?_
      rotate_left
      · intro w hSw
        clear hSw
        go_simp
        all_goals with_reducible rfl
      simp only [Act.put, List.setIfInBounds_toArray, List.set_cons_zero, List.set_cons_succ]
      refine wpAnyH_take (i := 8) (oi := { dst := some 38, op := Op.move (Operand.tmp 0), type := 3, pos := "proof.go:22", after := #[], guard := none }) (v := ?_) rfl (by kernel_rfl) (by kernel_rfl) (by kernel_rfl) (fun _ _ _ h => h) (Or.inl ⟨by rfl, ?_⟩) (by assumption) ?_
      rotate_left
      · intro w hSw
        clear hSw
        go_simp
        all_goals with_reducible rfl
      simp only [Act.put, List.setIfInBounds_toArray, List.set_cons_zero, List.set_cons_succ]
      refine wpAnyH_take (i := 9) (oi := { dst := some 39, op := Op.move (Operand.tmp 1), type := 41, pos := "proof.go:22", after := #[], guard := none }) (v := ?_) rfl (by kernel_rfl) (by kernel_rfl) (by kernel_rfl) (fun _ _ _ h => h) (Or.inl ⟨by rfl, ?_⟩) (by assumption) ?_
      rotate_left
      · intro w hSw
        clear hSw
        go_simp
        all_goals with_reducible rfl
      simp only [Act.put, List.setIfInBounds_toArray, List.set_cons_zero, List.set_cons_succ]
      refine wpAnyH_take (i := 10) (oi := { dst := some 40, op := Op.move (Operand.tmp 7), type := 3, pos := "proof.go:22", after := #[], guard := none }) (v := ?_) rfl (by kernel_rfl) (by kernel_rfl) (by kernel_rfl) (fun _ _ _ h => h) (Or.inl ⟨by rfl, ?_⟩) (by assumption) ?_
      rotate_left
      · intro w hSw
        clear hSw
        go_simp
        all_goals with_reducible rfl
      simp only [Act.put, List.setIfInBounds_toArray, List.set_cons_zero, List.set_cons_succ]
      refine wpAnyH_take (i := 11) (oi := { dst := some 41, op := Op.slice 41 (Operand.tmp 39) none (some (Operand.tmp 40)) none, type := 41, pos := "proof.go:22", after := #[{ on := 9, ground := Ground.data }, { on := 10, ground := Ground.data }], guard := none }) (v := ?_) rfl (by kernel_rfl) (by kernel_rfl) (by kernel_rfl) (fun _ _ _ h => h) (Or.inl ⟨by rfl, ?_⟩) (by assumption) ?_
      rotate_left
      · intro w hSw
        clear hSw
        go_simp
        all_goals with_reducible rfl
      simp only [Act.put, List.setIfInBounds_toArray, List.set_cons_zero, List.set_cons_succ]
      clear q2 q3 q4 q5 q6 q7
      refine wpAnyH_ready (rs := [7]) (by kernel_rfl) (by simp) ?_
      refine AllReadyH.cons (o := { dst := some 37, op := Op.call { callee := Callee.value (Operand.func 49), args := #[Operand.tmp 30, Operand.tmp 33, Operand.tmp 36], argTypes := #[3, 41, 3] }, type := 32, pos := "proof.go:22", after := #[{ on := 0, ground := Ground.data }, { on := 3, ground := Ground.data }, { on := 6, ground := Ground.data }], guard := none }) rfl (fun K hK => ?_) AllReadyH.nil
      go_simp
      have VT : Hid (BsAt Z (.slice (some ⟨b, off + k, none⟩) (N - k) (cap - k)) (bss.drop k)) := by have := (HV.out.drop k (by have := hN2.out; omega)).below BZ.out (Nat.le_refl _); rw [hN2.out] at this; exact this
      refine (HI.out (N - k) (by omega) (bss.drop k) _ (i - k) Z (by rw [List.length_drop, hN2.out]) (by omega) (by omega) (by omega) VT.out (HF.out.drop k) (HK.out.below BZ.out h0)).mono ?_
      rintro e Z2 ⟨vp, rfl, p2, b2⟩
      obtain ⟨ds, hds⟩ : ∃ ds, ds = S.path a (bss.drop k) (i - k) := ⟨_, rfl⟩
      rw [← hds] at p2
      have HDS := hide (show ds.length ≤ 100000 by rw [hds]; have := S.path_len a (bss.drop k) (i - k); rw [List.length_drop] at this; have := hN2.out; omega)
      have B2 : Hid (Below w.heap.size w Z2) := BZ.out.trans (b2.mono BZ.out.size)
      have P2 := hide (p2.mono BZ.out.size)
      have HS := hide hds
      clear p2 b2 hds BZ
      clear VT
      refine hK.out _ _ trivial (fun hHeld => ?_)
      clear hK K
      try simp only [Act.put, List.setIfInBounds_toArray, List.set_cons_zero, List.set_cons_succ]
      refine wpAnyH_ready (rs := [12]) (by kernel_rfl) (by simp) ?_
      refine AllReadyH.cons (o := { dst := some 42, op := Op.call { callee := Callee.value (Operand.func 27), args := #[Operand.tmp 38, Operand.tmp 41], argTypes := #[3, 41] }, type := 23, pos := "proof.go:22", after := #[{ on := 8, ground := Ground.data }, { on := 11, ground := Ground.data }, { on := 7, ground := Ground.chain }], guard := none }) rfl (fun K hK => ?_) AllReadyH.nil
      go_simp
      have VD := hide ((HV.out.take k (by have := hN2.out; omega)).below B2.out (Nat.le_refl _))
      refine (root_any a _ (bss.take k) Z2 VD.out (by rw [List.length_take]; have := hN2.out; omega) (HF.out.take k) (HK.out.below B2.out h0)).mono ?_
      rintro e Z3 ⟨rfl, b3⟩
      obtain ⟨D, hD⟩ : ∃ D, D = S.root a (bss.take k) := ⟨_, rfl⟩
      rw [← hD]
      have HDL : Hid (D.length = 32) := by rw [hD, S.root_length]; exact rfl
      have HD := hide hD
      have B3 : Hid (Below w.heap.size w Z3) := B2.out.trans (b3.mono B2.out.size)
      have P3 := hide (P2.out.below b3)
      clear b3 hD VD B2 P2
      refine hK.out _ _ trivial (fun hHeld => ?_)
      clear hK K
      try simp only [Act.put, List.setIfInBounds_toArray, List.set_cons_zero, List.set_cons_succ]
      refine wpAnyH_ready (rs := [13]) (by kernel_rfl) (by simp) ?_
      have bs1 := bs24one Z3 D HDL.out
      refine step_buildSlice_as (o := { dst := some 43, op := Op.buildSlice 32 1 #[(0, Operand.tmp 42)], type := 32, pos := "proof.go:22", after := #[{ on := 12, ground := Ground.data }], guard := none }) rfl rfl 32 1 [(0, .tmp 42)] rfl [(0, .agg (S.v8 D))] rfl _ _ bs1 AllReadyH.nil ⟨trivial, fun hHeld => ?_⟩
      clear hHeld bs1
      simp only [Act.put, List.setIfInBounds_toArray, List.set_cons_zero, List.set_cons_succ]
      obtain ⟨g4, hg4⟩ : ∃ g4, g4 = Z3.heap.size := ⟨_, rfl⟩
      generalize hZ4 : Z3.alloc _ = Z4
      have C4 : Below Z3.heap.size Z3 Z4 := by rw [← hZ4]; exact (Below.refl _ _).alloc (Nat.le_refl _) _
      have R4 : Hid (Z4.heap[g4]? = some (.cells (S.v8 D) 23 (0, 0))) := by rw [← hZ4, hg4]; exact heap_alloc_new _ _
      have B4 : Hid (Below w.heap.size w Z4) := B3.out.trans (C4.mono B3.out.size)
      have P4 := hide (P3.out.below C4)
      rw [← hg4]
      clear hZ4 C4 hg4 B3 P3
      refine wpAnyH_ready (rs := [14]) (by kernel_rfl) (by simp) ?_
      obtain ⟨v5, Z5, hr5, p5, b5⟩ := run_append_dig Z4 w.heap.size g4 vp ds D 32 P4.out HDL.out R4.out HDS.out B4.out.size
      refine step_append_as (o := { dst := some 44, op := Op.call { callee := Callee.builtin Builtin.append, args := #[Operand.tmp 37, Operand.tmp 43], argTypes := #[32, 32] }, type := 32, pos := "proof.go:22", after := #[{ on := 7, ground := Ground.data }, { on := 13, ground := Ground.data }, { on := 12, ground := Ground.chain }], guard := none }) rfl rfl (.tmp 37) (.tmp 43) 32 32 rfl _ _ rfl rfl v5 Z5 hr5 AllReadyH.nil ⟨trivial, fun hHeld => ?_⟩
      clear hHeld hr5
      simp only [Act.put, List.setIfInBounds_toArray, List.set_cons_zero, List.set_cons_succ]
      have B5 : Hid (Below w.heap.size w Z5) := B4.out.trans b5
      have P5 := hide p5
      clear p5 b5 B4 P4 R4
      refine wpAnyH_take (i := 15) (oi := { dst := some 6, op := Op.assign (Operand.tmp 44), type := 32, pos := "proof.go:22", after := #[{ on := 14, ground := Ground.data }, { on := 14, ground := Ground.chain }, { on := 0, ground := Ground.phase }, { on := 1, ground := Ground.phase }, { on := 2, ground := Ground.phase }, { on := 3, ground := Ground.phase }, { on := 4, ground := Ground.phase }, { on := 5, ground := Ground.phase }, { on := 6, ground := Ground.phase }, { on := 7, ground := Ground.phase }, { on := 8, ground := Ground.phase }, { on := 9, ground := Ground.phase }, { on := 10, ground := Ground.phase }, { on := 11, ground := Ground.phase }, { on := 12, ground := Ground.phase }, { on := 13, ground := Ground.phase }, { on := 14, ground := Ground.phase }], guard := none }) (v := ?_) rfl (by kernel_rfl) (by kernel_rfl) (by kernel_rfl) (fun _ _ _ h => h) (Or.inl ⟨by rfl, ?_⟩) (by assumption) ?_
      rotate_left
      · intro w hSw
        clear hSw
        go_simp
        all_goals with_reducible rfl
      simp only [Act.put, List.setIfInBounds_toArray, List.set_cons_zero, List.set_cons_succ]
      refine wpAnyH_done (by kernel_rfl) ?_ _
      refine NoPanic.normal ?_
      go_wp2_with fail
      go_ret
      exact ⟨v5, rfl, by rw [S.path_right a bss i (by have := hN2.out; omega) (by rw [hN2.out, ← HKK.out]; exact hik), hN2.out, ← HKK.out, ← HS.out, ← HD.out]; exact P5.out, B5.out⟩

set_option maxHeartbeats 4000000 in
set_option maxRecDepth 10000 in
theorem growth_any (a : Int) : ∀ N (bss : List (List UInt8)) (v : Value) (i : Nat) (q : Bool) (w : World), bss.length = N → 1 ≤ N → N ≤ 256 → 1 ≤ i → i ≤ N → BsAt w v bss → Fit bss → KAt w →
   Calls Tryd.prog 50 #[.int .i64 a, v, .int .i64 (i : Int), .bool q] w fun e w' => ∃ v', e = .returned v' ∧ DgRow w.heap.size w' v' (S.grow a bss i q) ∧ Below w.heap.size w w' := by
  intro N
  induction N using Nat.strongRecOn with
  | ind N IH =>
  intro bss v i q w hN h1 h256 hi1 hi hv hf hK
  obtain ⟨b, off, cap, rfl, hcap, hb, hcells⟩ := hv.src (by omega)
  have HV := hide hv
  have HF := hide hf
  have HK := hide hK
  have HI := hide @IH
  have h0 := hK.pos
  have hN2 := hide hN
  rw [hN] at hcap ⊢
  clear hv hf hK IH hcells hN
  by_cases hone : i = N
  · have q1 : ((i : Int) == (N : Int)) = true := by simp; omega
    cases q with
    | true =>
      go_enter Tryd.func50, Tryd.ntmps50
      go_wp2_with fail
      go_ret
      exact ⟨_, rfl, by rw [S.grow_all a bss i (by have := hN2.out; omega)]; exact DgRow.nil _ _, Below.refl _ _⟩
    | false =>
      go_enter Tryd.func50, Tryd.ntmps50
      go_wp2_with fail
      clear q1
      have VN : Hid (BsAt w (.slice (some ⟨b, off, none⟩) N cap) bss) := by have := HV.out; rw [hN2.out] at this; exact this
      refine (root_any a _ bss w VN.out (by rw [hN2.out]; exact h256) HF.out HK.out).mono ?_
      rintro e Z3 ⟨rfl, b3⟩
      obtain ⟨D, hD⟩ : ∃ D, D = S.root a bss := ⟨_, rfl⟩
      rw [← hD]
      have HDL : Hid (D.length = 32) := by rw [hD, S.root_length]; exact rfl
      have HD := hide hD
      have B3 := hide b3
      have bs1 := bs24one Z3 D HDL.out
      clear b3 hD
      go_wp2_with (with_reducible refine at_op { dst := some 18, op := Op.buildSlice 32 1 #[(0, Operand.tmp 17)], type := 32, pos := "proof.go:39", after := #[{ on := 2, ground := Ground.data }], guard := none } ?_; refine wpList_buildSlice_as rfl 32 1 [(0, .tmp 17)] rfl [(0, .agg (S.v8 D))] rfl _ _ bs1 ?_)
      go_ret
      exact ⟨_, rfl, by rw [S.grow_part a bss i (by have := hN2.out; omega), ← HD.out]; exact dgRow_one (heap_alloc_new _ _) HDL.out B3.out.size, B3.out.alloc (by exact B3.out.size) _⟩
  · have q1 : ((i : Int) == (N : Int)) = false := by simp; omega
    go_enter Tryd.func50, Tryd.ntmps50
    go_wp2_with fail
    clear q1
    refine (parting_any N (by omega) h256 w).mono ?_
    rintro e w3 ⟨rfl, rfl⟩
    obtain ⟨k, hk⟩ : ∃ k, k = S.half N := ⟨_, rfl⟩
    have hkl : k < N := by rw [hk]; exact S.half_lt h256 (by omega)
    have hkp : 0 < k := by rw [hk]; exact S.half_pos N
    rw [← hk]
    have HKK := hide hk
    clear hk
    by_cases hik : i ≤ k
    · have q1 : (i : Int) ≤ (k : Int) := by omega
      go_wp2_with fail
      clear q1
      refine wp_region_noPanic ?_
      refine wp_region_held_drew (S := (fun _ => True)) follows trivial (fun hHeld => ?_)
      have BZ : Hid (Below w.heap.size w w.drew) := (Below.refl _ _).drew
      generalize w.drew = Z at BZ ⊢
      have q2 : (0 : Int) ≤ (k : Int) := by omega
      have q3 : (k : Int) ≤ (cap : Int) := by omega
      have q4 : (k : Int) ≤ (N : Int) := by omega
      have q5 : (N : Int) ≤ (cap : Int) := by omega
      have q6 : ¬ cap = k := by omega
      refine wpAnyH_take (i := 0) (oi := { dst := some 25, op := Op.move (Operand.tmp 0), type := 3, pos := "proof.go:43", after := #[], guard := none }) (v := ?_) rfl (by kernel_rfl) (by kernel_rfl) (by kernel_rfl) (fun _ _ _ h => h) (Or.inl ⟨by rfl, ?_⟩) (by assumption) ?_
      rotate_left
      · intro w hSw
        clear hSw
        go_simp
        all_goals with_reducible rfl
      simp only [Act.put, List.setIfInBounds_toArray, List.set_cons_zero, List.set_cons_succ]
      refine wpAnyH_take (i := 1) (oi := { dst := some 26, op := Op.move (Operand.tmp 1), type := 41, pos := "proof.go:43", after := #[], guard := none }) (v := ?_) rfl (by kernel_rfl) (by kernel_rfl) (by kernel_rfl) (fun _ _ _ h => h) (Or.inl ⟨by rfl, ?_⟩) (by assumption) ?_
      rotate_left
      · intro w hSw
        clear hSw
        go_simp
        all_goals with_reducible rfl
      simp only [Act.put, List.setIfInBounds_toArray, List.set_cons_zero, List.set_cons_succ]
      refine wpAnyH_take (i := 2) (oi := { dst := some 27, op := Op.move (Operand.tmp 9), type := 3, pos := "proof.go:43", after := #[], guard := none }) (v := ?_) rfl (by kernel_rfl) (by kernel_rfl) (by kernel_rfl) (fun _ _ _ h => h) (Or.inl ⟨by rfl, ?_⟩) (by assumption) ?_
      rotate_left
      · intro w hSw
        clear hSw
        go_simp
        all_goals with_reducible rfl
      simp only [Act.put, List.setIfInBounds_toArray, List.set_cons_zero, List.set_cons_succ]
      refine wpAnyH_take (i := 3) (oi := { dst := some 28, op := Op.slice 41 (Operand.tmp 26) none (some (Operand.tmp 27)) none, type := 41, pos := "proof.go:43", after := #[{ on := 1, ground := Ground.data }, { on := 2, ground := Ground.data }], guard := none }) (v := ?_) rfl (by kernel_rfl) (by kernel_rfl) (by kernel_rfl) (fun _ _ _ h => h) (Or.inl ⟨by rfl, ?_⟩) (by assumption) ?_
      rotate_left
      · intro w hSw
        clear hSw
        go_simp
        all_goals with_reducible rfl
      simp only [Act.put, List.setIfInBounds_toArray, List.set_cons_zero, List.set_cons_succ]
      refine wpAnyH_take (i := 4) (oi := { dst := some 29, op := Op.move (Operand.tmp 2), type := 3, pos := "proof.go:43", after := #[], guard := none }) (v := ?_) rfl (by kernel_rfl) (by kernel_rfl) (by kernel_rfl) (fun _ _ _ h => h) (Or.inl ⟨by rfl, ?_⟩) (by assumption) ?_
      rotate_left
      · intro w hSw
        clear hSw
        go_simp
        all_goals with_reducible rfl
      simp only [Act.put, List.setIfInBounds_toArray, List.set_cons_zero, List.set_cons_succ]
      refine wpAnyH_take (i := 5) (oi := { dst := some 30, op := Op.move (Operand.tmp 3), type := 4, pos := "proof.go:43", after := #[], guard := none }) (v := ?_) rfl (by kernel_rfl) (by kernel_rfl) (by kernel_rfl) (fun _ _ _ h => h) (Or.inl ⟨by rfl, ?_⟩) (by assumption) ?_
      rotate_left
      · intro w hSw
        clear hSw
        go_simp
        all_goals with_reducible rfl
      simp only [Act.put, List.setIfInBounds_toArray, List.set_cons_zero, List.set_cons_succ]
      refine wpAnyH_take (i := 7) (oi := { dst := some 32, op := Op.move (Operand.tmp 0), type := 3, pos := "proof.go:43", after := #[], guard := none }) (v := ?_) rfl (by kernel_rfl) (by kernel_rfl) (by kernel_rfl) (fun _ _ _ h => h) (Or.inl ⟨by rfl, ?_⟩) (by assumption) ?_
      rotate_left
      · intro w hSw
        clear hSw
        go_simp
        all_goals with_reducible rfl
      simp only [Act.put, List.setIfInBounds_toArray, List.set_cons_zero, List.set_cons_succ]
      refine wpAnyH_take (i := 8) (oi := { dst := some 33, op := Op.move (Operand.tmp 1), type := 41, pos := "proof.go:43", after := #[], guard := none }) (v := ?_) rfl (by kernel_rfl) (by kernel_rfl) (by kernel_rfl) (fun _ _ _ h => h) (Or.inl ⟨by rfl, ?_⟩) (by assumption) ?_
      rotate_left
      · intro w hSw
        clear hSw
        go_simp
        all_goals with_reducible rfl
      simp only [Act.put, List.setIfInBounds_toArray, List.set_cons_zero, List.set_cons_succ]
      refine wpAnyH_take (i := 9) (oi := { dst := some 34, op := Op.move (Operand.tmp 9), type := 3, pos := "proof.go:43", after := #[], guard := none }) (v := ?_) rfl (by kernel_rfl) (by kernel_rfl) (by kernel_rfl) (fun _ _ _ h => h) (Or.inl ⟨by rfl, ?_⟩) (by assumption) ?_
      rotate_left
      · intro w hSw
        clear hSw
        go_simp
        all_goals with_reducible rfl
      simp only [Act.put, List.setIfInBounds_toArray, List.set_cons_zero, List.set_cons_succ]
      refine wpAnyH_take (i := 10) (oi := { dst := some 35, op := Op.slice 41 (Operand.tmp 33) (some (Operand.tmp 34)) none none, type := 41, pos := "proof.go:43", after := #[{ on := 8, ground := Ground.data }, { on := 9, ground := Ground.data }], guard := none }) (v := ?_) rfl (by kernel_rfl) (by kernel_rfl) (by kernel_rfl) (fun _ _ _ h => h) (Or.inl ⟨by rfl, ?_⟩) (by assumption) ?_
      rotate_left
      · intro w hSw
        clear hSw
        go_simp
        all_goals with_reducible rfl
      simp only [Act.put, List.setIfInBounds_toArray, List.set_cons_zero, List.set_cons_succ]
      clear q2 q3 q4 q5 q6
      refine wpAnyH_ready (rs := [6]) (by kernel_rfl) (by simp) ?_
      refine AllReadyH.cons (o := { dst := some 31, op := Op.call { callee := Callee.value (Operand.func 50), args := #[Operand.tmp 25, Operand.tmp 28, Operand.tmp 29, Operand.tmp 30], argTypes := #[3, 41, 3, 4] }, type := 32, pos := "proof.go:43", after := #[{ on := 0, ground := Ground.data }, { on := 3, ground := Ground.data }, { on := 4, ground := Ground.data }, { on := 5, ground := Ground.data }], guard := none }) rfl (fun K hK => ?_) AllReadyH.nil
      go_simp
      have VT := hide ((HV.out.take k (by have := hN2.out; omega)).below BZ.out (Nat.le_refl _))
      refine (HI.out k hkl (bss.take k) _ i q Z (by rw [List.length_take]; have := hN2.out; omega) (by omega) (by omega) hi1 hik VT.out (HF.out.take k) (HK.out.below BZ.out h0)).mono ?_
      rintro e Z2 ⟨vp, rfl, p2, b2⟩
      obtain ⟨ds, hds⟩ : ∃ ds, ds = S.grow a (bss.take k) i q := ⟨_, rfl⟩
      rw [← hds] at p2
      have HDS := hide (show ds.length ≤ 100000 by rw [hds]; have := (S.grow_ok a (bss.take k) i q).2; rw [List.length_take] at this; have := hN2.out; omega)
      have B2 : Hid (Below w.heap.size w Z2) := BZ.out.trans (b2.mono BZ.out.size)
      have P2 := hide (p2.mono BZ.out.size)
      have HS := hide hds
      clear p2 b2 hds BZ
      clear VT
      refine hK.out _ _ trivial (fun hHeld => ?_)
      clear hK K
      try simp only [Act.put, List.setIfInBounds_toArray, List.set_cons_zero, List.set_cons_succ]
      refine wpAnyH_ready (rs := [11]) (by kernel_rfl) (by simp) ?_
      refine AllReadyH.cons (o := { dst := some 36, op := Op.call { callee := Callee.value (Operand.func 27), args := #[Operand.tmp 32, Operand.tmp 35], argTypes := #[3, 41] }, type := 23, pos := "proof.go:43", after := #[{ on := 7, ground := Ground.data }, { on := 10, ground := Ground.data }, { on := 6, ground := Ground.chain }], guard := none }) rfl (fun K hK => ?_) AllReadyH.nil
      go_simp
      have VD : Hid (BsAt Z2 (.slice (some ⟨b, off + k, none⟩) (N - k) (cap - k)) (bss.drop k)) := by have := (HV.out.drop k (by have := hN2.out; omega)).below B2.out (Nat.le_refl _); rw [hN2.out] at this; exact this
      refine (root_any a _ (bss.drop k) Z2 VD.out (by rw [List.length_drop]; have := hN2.out; omega) (HF.out.drop k) (HK.out.below B2.out h0)).mono ?_
      rintro e Z3 ⟨rfl, b3⟩
      obtain ⟨D, hD⟩ : ∃ D, D = S.root a (bss.drop k) := ⟨_, rfl⟩
      rw [← hD]
      have HDL : Hid (D.length = 32) := by rw [hD, S.root_length]; exact rfl
      have HD := hide hD
      have B3 : Hid (Below w.heap.size w Z3) := B2.out.trans (b3.mono B2.out.size)
      have P3 := hide (P2.out.below b3)
      clear b3 hD VD B2 P2
      refine hK.out _ _ trivial (fun hHeld => ?_)
      clear hK K
      try simp only [Act.put, List.setIfInBounds_toArray, List.set_cons_zero, List.set_cons_succ]
      refine wpAnyH_ready (rs := [12]) (by kernel_rfl) (by simp) ?_
      have bs1 := bs24one Z3 D HDL.out
      refine step_buildSlice_as (o := { dst := some 37, op := Op.buildSlice 32 1 #[(0, Operand.tmp 36)], type := 32, pos := "proof.go:43", after := #[{ on := 11, ground := Ground.data }], guard := none }) rfl rfl 32 1 [(0, .tmp 36)] rfl [(0, .agg (S.v8 D))] rfl _ _ bs1 AllReadyH.nil ⟨trivial, fun hHeld => ?_⟩
      clear hHeld bs1
      simp only [Act.put, List.setIfInBounds_toArray, List.set_cons_zero, List.set_cons_succ]
      obtain ⟨g4, hg4⟩ : ∃ g4, g4 = Z3.heap.size := ⟨_, rfl⟩
      generalize hZ4 : Z3.alloc _ = Z4
      have C4 : Below Z3.heap.size Z3 Z4 := by rw [← hZ4]; exact (Below.refl _ _).alloc (Nat.le_refl _) _
      have R4 : Hid (Z4.heap[g4]? = some (.cells (S.v8 D) 23 (0, 0))) := by rw [← hZ4, hg4]; exact heap_alloc_new _ _
      have B4 : Hid (Below w.heap.size w Z4) := B3.out.trans (C4.mono B3.out.size)
      have P4 := hide (P3.out.below C4)
      rw [← hg4]
      clear hZ4 C4 hg4 B3 P3
      refine wpAnyH_ready (rs := [13]) (by kernel_rfl) (by simp) ?_
      obtain ⟨v5, Z5, hr5, p5, b5⟩ := run_append_dig Z4 w.heap.size g4 vp ds D 32 P4.out HDL.out R4.out HDS.out B4.out.size
      refine step_append_as (o := { dst := some 38, op := Op.call { callee := Callee.builtin Builtin.append, args := #[Operand.tmp 31, Operand.tmp 37], argTypes := #[32, 32] }, type := 32, pos := "proof.go:43", after := #[{ on := 6, ground := Ground.data }, { on := 12, ground := Ground.data }, { on := 11, ground := Ground.chain }], guard := none }) rfl rfl (.tmp 31) (.tmp 37) 32 32 rfl _ _ rfl rfl v5 Z5 hr5 AllReadyH.nil ⟨trivial, fun hHeld => ?_⟩
      clear hHeld hr5
      simp only [Act.put, List.setIfInBounds_toArray, List.set_cons_zero, List.set_cons_succ]
      have B5 : Hid (Below w.heap.size w Z5) := B4.out.trans b5
      have P5 := hide p5
      clear p5 b5 B4 P4 R4
      refine wpAnyH_take (i := 14) (oi := { dst := some 8, op := Op.assign (Operand.tmp 38), type := 32, pos := "proof.go:43", after := #[{ on := 13, ground := Ground.data }, { on := 13, ground := Ground.chain }, { on := 0, ground := Ground.phase }, { on := 1, ground := Ground.phase }, { on := 2, ground := Ground.phase }, { on := 3, ground := Ground.phase }, { on := 4, ground := Ground.phase }, { on := 5, ground := Ground.phase }, { on := 6, ground := Ground.phase }, { on := 7, ground := Ground.phase }, { on := 8, ground := Ground.phase }, { on := 9, ground := Ground.phase }, { on := 10, ground := Ground.phase }, { on := 11, ground := Ground.phase }, { on := 12, ground := Ground.phase }, { on := 13, ground := Ground.phase }], guard := none }) (v := ?_) rfl (by kernel_rfl) (by kernel_rfl) (by kernel_rfl) (fun _ _ _ h => h) (Or.inl ⟨by rfl, ?_⟩) (by assumption) ?_
      rotate_left
      · intro w hSw
        clear hSw
        go_simp
        all_goals with_reducible rfl
      simp only [Act.put, List.setIfInBounds_toArray, List.set_cons_zero, List.set_cons_succ]
      refine wpAnyH_done (by kernel_rfl) ?_ _
      refine NoPanic.normal ?_
      go_wp2_with fail
      go_ret
      exact ⟨v5, rfl, by rw [S.grow_left a bss i q (by have := hN2.out; omega) (by rw [hN2.out]; exact hone) (by rw [hN2.out, ← HKK.out]; exact hik), hN2.out, ← HKK.out, ← HS.out, ← HD.out]; exact P5.out, B5.out⟩
    · have q1 : ¬ (i : Int) ≤ (k : Int) := by omega
      have q1' : (k : Int) < (i : Int) := by omega
      go_wp2_with fail
      clear q1 q1'
      refine wp_region_noPanic ?_
      refine wp_region_held_drew (S := (fun _ => True)) follows trivial (fun hHeld => ?_)
      have BZ : Hid (Below w.heap.size w w.drew) := (Below.refl _ _).drew
      generalize w.drew = Z at BZ ⊢
      have q2 : (0 : Int) ≤ (k : Int) := by omega
      have q3 : (k : Int) ≤ (cap : Int) := by omega
      have q4 : (k : Int) ≤ (N : Int) := by omega
      have q5 : (N : Int) ≤ (cap : Int) := by omega
      have q6 : ¬ cap = k := by omega
      have q7 : IntKind.i64.wrap ((i : Int) - (k : Int)) = ((i - k : Nat) : Int) := by rw [IntKind.wrap_i64]; omega
      refine wpAnyH_take (i := 0) (oi := { dst := some 39, op := Op.move (Operand.tmp 0), type := 3, pos := "proof.go:45", after := #[], guard := none }) (v := ?_) rfl (by kernel_rfl) (by kernel_rfl) (by kernel_rfl) (fun _ _ _ h => h) (Or.inl ⟨by rfl, ?_⟩) (by assumption) ?_
      rotate_left
      · intro w hSw
        clear hSw
        go_simp
        all_goals with_reducible rfl
      simp only [Act.put, List.setIfInBounds_toArray, List.set_cons_zero, List.set_cons_succ]
      refine wpAnyH_take (i := 1) (oi := { dst := some 40, op := Op.move (Operand.tmp 1), type := 41, pos := "proof.go:45", after := #[], guard := none }) (v := ?_) rfl (by kernel_rfl) (by kernel_rfl) (by kernel_rfl) (fun _ _ _ h => h) (Or.inl ⟨by rfl, ?_⟩) (by assumption) ?_
      rotate_left
      · intro w hSw
        clear hSw
        go_simp
        all_goals with_reducible rfl
      simp only [Act.put, List.setIfInBounds_toArray, List.set_cons_zero, List.set_cons_succ]
      refine wpAnyH_take (i := 2) (oi := { dst := some 41, op := Op.move (Operand.tmp 9), type := 3, pos := "proof.go:45", after := #[], guard := none }) (v := ?_) rfl (by kernel_rfl) (by kernel_rfl) (by kernel_rfl) (fun _ _ _ h => h) (Or.inl ⟨by rfl, ?_⟩) (by assumption) ?_
      rotate_left
      · intro w hSw
        clear hSw
        go_simp
        all_goals with_reducible rfl
      simp only [Act.put, List.setIfInBounds_toArray, List.set_cons_zero, List.set_cons_succ]
      refine wpAnyH_take (i := 3) (oi := { dst := some 42, op := Op.slice 41 (Operand.tmp 40) (some (Operand.tmp 41)) none none, type := 41, pos := "proof.go:45", after := #[{ on := 1, ground := Ground.data }, { on := 2, ground := Ground.data }], guard := none }) (v := ?_) rfl (by kernel_rfl) (by kernel_rfl) (by kernel_rfl) (fun _ _ _ h => h) (Or.inl ⟨by rfl, ?_⟩) (by assumption) ?_
      rotate_left
      · intro w hSw
        clear hSw
        go_simp
        all_goals with_reducible rfl
      simp only [Act.put, List.setIfInBounds_toArray, List.set_cons_zero, List.set_cons_succ]
      refine wpAnyH_take (i := 4) (oi := { dst := some 43, op := Op.move (Operand.tmp 2), type := 3, pos := "proof.go:45", after := #[], guard := none }) (v := ?_) rfl (by kernel_rfl) (by kernel_rfl) (by kernel_rfl) (fun _ _ _ h => h) (Or.inl ⟨by rfl, ?_⟩) (by assumption) ?_
      rotate_left
      · intro w hSw
        clear hSw
        go_simp
        all_goals with_reducible rfl
      simp only [Act.put, List.setIfInBounds_toArray, List.set_cons_zero, List.set_cons_succ]
      refine wpAnyH_take (i := 5) (oi := { dst := some 44, op := Op.move (Operand.tmp 9), type := 3, pos := "proof.go:45", after := #[], guard := none }) (v := ?_) rfl (by kernel_rfl) (by kernel_rfl) (by kernel_rfl) (fun _ _ _ h => h) (Or.inl ⟨by rfl, ?_⟩) (by assumption) ?_
      rotate_left
      · intro w hSw
        clear hSw
        go_simp
        all_goals with_reducible rfl
      simp only [Act.put, List.setIfInBounds_toArray, List.set_cons_zero, List.set_cons_succ]
      refine wpAnyH_take (i := 6) (oi := { dst := some 45, op := Op.binOp BinOp.sub 3 (Operand.tmp 43) (Operand.tmp 44) 3, type := 3, pos := "proof.go:45", after := #[{ on := 4, ground := Ground.data }, { on := 5, ground := Ground.data }], guard := none }) (v := ?_) rfl (by kernel_rfl) (by kernel_rfl) (by kernel_rfl) (fun _ _ _ h => h) (Or.inl ⟨by rfl, ?_⟩) (by assumption) ?_
      rotate_left
      · intro w hSw
        clear hSw
        go_simp
        all_goals with_reducible rfl
      simp only [Act.put, List.setIfInBounds_toArray, List.set_cons_zero, List.set_cons_succ]
      refine wpAnyH_take (i := 8) (oi := { dst := some 47, op := Op.move (Operand.tmp 0), type := 3, pos := "proof.go:45", after := #[], guard := none }) (v := ?_) rfl (by kernel_rfl) (by kernel_rfl) (by kernel_rfl) (fun _ _ _ h => h) (Or.inl ⟨by rfl, ?_⟩) (by assumption) ?_
      rotate_left
      · intro w hSw
        clear hSw
        go_simp
        all_goals with_reducible rfl
      simp only [Act.put, List.setIfInBounds_toArray, List.set_cons_zero, List.set_cons_succ]
      refine wpAnyH_take (i := 9) (oi := { dst := some 48, op := Op.move (Operand.tmp 1), type := 41, pos := "proof.go:45", after := #[], guard := none }) (v := ?_) rfl (by kernel_rfl) (by kernel_rfl) (by kernel_rfl) (fun _ _ _ h => h) (Or.inl ⟨by rfl, ?_⟩) (by assumption) ?_
      rotate_left
      · intro w hSw
        clear hSw
        go_simp
        all_goals with_reducible rfl
      simp only [Act.put, List.setIfInBounds_toArray, List.set_cons_zero, List.set_cons_succ]
      refine wpAnyH_take (i := 10) (oi := { dst := some 49, op := Op.move (Operand.tmp 9), type := 3, pos := "proof.go:45", after := #[], guard := none }) (v := ?_) rfl (by kernel_rfl) (by kernel_rfl) (by kernel_rfl) (fun _ _ _ h => h) (Or.inl ⟨by rfl, ?_⟩) (by assumption) ?_
      rotate_left
      · intro w hSw
        clear hSw
        go_simp
        all_goals with_reducible rfl
      simp only [Act.put, List.setIfInBounds_toArray, List.set_cons_zero, List.set_cons_succ]
      refine wpAnyH_take (i := 11) (oi := { dst := some 50, op := Op.slice 41 (Operand.tmp 48) none (some (Operand.tmp 49)) none, type := 41, pos := "proof.go:45", after := #[{ on := 9, ground := Ground.data }, { on := 10, ground := Ground.data }], guard := none }) (v := ?_) rfl (by kernel_rfl) (by kernel_rfl) (by kernel_rfl) (fun _ _ _ h => h) (Or.inl ⟨by rfl, ?_⟩) (by assumption) ?_
      rotate_left
      · intro w hSw
        clear hSw
        go_simp
        all_goals with_reducible rfl
      simp only [Act.put, List.setIfInBounds_toArray, List.set_cons_zero, List.set_cons_succ]
      clear q2 q3 q4 q5 q6 q7
      refine wpAnyH_ready (rs := [7]) (by kernel_rfl) (by simp) ?_
      refine AllReadyH.cons (o := { dst := some 46, op := Op.call { callee := Callee.value (Operand.func 50), args := #[Operand.tmp 39, Operand.tmp 42, Operand.tmp 45, Operand.const (Value.bool false)], argTypes := #[3, 41, 3, 4] }, type := 32, pos := "proof.go:45", after := #[{ on := 0, ground := Ground.data }, { on := 3, ground := Ground.data }, { on := 6, ground := Ground.data }], guard := none }) rfl (fun K hK => ?_) AllReadyH.nil
      go_simp
      have VT : Hid (BsAt Z (.slice (some ⟨b, off + k, none⟩) (N - k) (cap - k)) (bss.drop k)) := by have := (HV.out.drop k (by have := hN2.out; omega)).below BZ.out (Nat.le_refl _); rw [hN2.out] at this; exact this
      refine (HI.out (N - k) (by omega) (bss.drop k) _ (i - k) false Z (by rw [List.length_drop, hN2.out]) (by omega) (by omega) (by omega) (by omega) VT.out (HF.out.drop k) (HK.out.below BZ.out h0)).mono ?_
      rintro e Z2 ⟨vp, rfl, p2, b2⟩
      obtain ⟨ds, hds⟩ : ∃ ds, ds = S.grow a (bss.drop k) (i - k) false := ⟨_, rfl⟩
      rw [← hds] at p2
      have HDS := hide (show ds.length ≤ 100000 by rw [hds]; have := (S.grow_ok a (bss.drop k) (i - k) false).2; rw [List.length_drop] at this; have := hN2.out; omega)
      have B2 : Hid (Below w.heap.size w Z2) := BZ.out.trans (b2.mono BZ.out.size)
      have P2 := hide (p2.mono BZ.out.size)
      have HS := hide hds
      clear p2 b2 hds BZ
      clear VT
      refine hK.out _ _ trivial (fun hHeld => ?_)
      clear hK K
      try simp only [Act.put, List.setIfInBounds_toArray, List.set_cons_zero, List.set_cons_succ]
      refine wpAnyH_ready (rs := [12]) (by kernel_rfl) (by simp) ?_
      refine AllReadyH.cons (o := { dst := some 51, op := Op.call { callee := Callee.value (Operand.func 27), args := #[Operand.tmp 47, Operand.tmp 50], argTypes := #[3, 41] }, type := 23, pos := "proof.go:45", after := #[{ on := 8, ground := Ground.data }, { on := 11, ground := Ground.data }, { on := 7, ground := Ground.chain }], guard := none }) rfl (fun K hK => ?_) AllReadyH.nil
      go_simp
      have VD := hide ((HV.out.take k (by have := hN2.out; omega)).below B2.out (Nat.le_refl _))
      refine (root_any a _ (bss.take k) Z2 VD.out (by rw [List.length_take]; have := hN2.out; omega) (HF.out.take k) (HK.out.below B2.out h0)).mono ?_
      rintro e Z3 ⟨rfl, b3⟩
      obtain ⟨D, hD⟩ : ∃ D, D = S.root a (bss.take k) := ⟨_, rfl⟩
      rw [← hD]
      have HDL : Hid (D.length = 32) := by rw [hD, S.root_length]; exact rfl
      have HD := hide hD
      have B3 : Hid (Below w.heap.size w Z3) := B2.out.trans (b3.mono B2.out.size)
      have P3 := hide (P2.out.below b3)
      clear b3 hD VD B2 P2
      refine hK.out _ _ trivial (fun hHeld => ?_)
      clear hK K
      try simp only [Act.put, List.setIfInBounds_toArray, List.set_cons_zero, List.set_cons_succ]
      refine wpAnyH_ready (rs := [13]) (by kernel_rfl) (by simp) ?_
      have bs1 := bs24one Z3 D HDL.out
      refine step_buildSlice_as (o := { dst := some 52, op := Op.buildSlice 32 1 #[(0, Operand.tmp 51)], type := 32, pos := "proof.go:45", after := #[{ on := 12, ground := Ground.data }], guard := none }) rfl rfl 32 1 [(0, .tmp 51)] rfl [(0, .agg (S.v8 D))] rfl _ _ bs1 AllReadyH.nil ⟨trivial, fun hHeld => ?_⟩
      clear hHeld bs1
      simp only [Act.put, List.setIfInBounds_toArray, List.set_cons_zero, List.set_cons_succ]
      obtain ⟨g4, hg4⟩ : ∃ g4, g4 = Z3.heap.size := ⟨_, rfl⟩
      generalize hZ4 : Z3.alloc _ = Z4
      have C4 : Below Z3.heap.size Z3 Z4 := by rw [← hZ4]; exact (Below.refl _ _).alloc (Nat.le_refl _) _
      have R4 : Hid (Z4.heap[g4]? = some (.cells (S.v8 D) 23 (0, 0))) := by rw [← hZ4, hg4]; exact heap_alloc_new _ _
      have B4 : Hid (Below w.heap.size w Z4) := B3.out.trans (C4.mono B3.out.size)
      have P4 := hide (P3.out.below C4)
      rw [← hg4]
      clear hZ4 C4 hg4 B3 P3
      refine wpAnyH_ready (rs := [14]) (by kernel_rfl) (by simp) ?_
      obtain ⟨v5, Z5, hr5, p5, b5⟩ := run_append_dig Z4 w.heap.size g4 vp ds D 32 P4.out HDL.out R4.out HDS.out B4.out.size
      refine step_append_as (o := { dst := some 53, op := Op.call { callee := Callee.builtin Builtin.append, args := #[Operand.tmp 46, Operand.tmp 52], argTypes := #[32, 32] }, type := 32, pos := "proof.go:45", after := #[{ on := 7, ground := Ground.data }, { on := 13, ground := Ground.data }, { on := 12, ground := Ground.chain }], guard := none }) rfl rfl (.tmp 46) (.tmp 52) 32 32 rfl _ _ rfl rfl v5 Z5 hr5 AllReadyH.nil ⟨trivial, fun hHeld => ?_⟩
      clear hHeld hr5
      simp only [Act.put, List.setIfInBounds_toArray, List.set_cons_zero, List.set_cons_succ]
      have B5 : Hid (Below w.heap.size w Z5) := B4.out.trans b5
      have P5 := hide p5
      clear p5 b5 B4 P4 R4
      refine wpAnyH_take (i := 15) (oi := { dst := some 8, op := Op.assign (Operand.tmp 53), type := 32, pos := "proof.go:45", after := #[{ on := 14, ground := Ground.data }, { on := 14, ground := Ground.chain }, { on := 0, ground := Ground.phase }, { on := 1, ground := Ground.phase }, { on := 2, ground := Ground.phase }, { on := 3, ground := Ground.phase }, { on := 4, ground := Ground.phase }, { on := 5, ground := Ground.phase }, { on := 6, ground := Ground.phase }, { on := 7, ground := Ground.phase }, { on := 8, ground := Ground.phase }, { on := 9, ground := Ground.phase }, { on := 10, ground := Ground.phase }, { on := 11, ground := Ground.phase }, { on := 12, ground := Ground.phase }, { on := 13, ground := Ground.phase }, { on := 14, ground := Ground.phase }], guard := none }) (v := ?_) rfl (by kernel_rfl) (by kernel_rfl) (by kernel_rfl) (fun _ _ _ h => h) (Or.inl ⟨by rfl, ?_⟩) (by assumption) ?_
      rotate_left
      · intro w hSw
        clear hSw
        go_simp
        all_goals with_reducible rfl
      simp only [Act.put, List.setIfInBounds_toArray, List.set_cons_zero, List.set_cons_succ]
      refine wpAnyH_done (by kernel_rfl) ?_ _
      refine NoPanic.normal ?_
      go_wp2_with fail
      go_ret
      exact ⟨v5, rfl, by rw [S.grow_right a bss i q (by have := hN2.out; omega) (by rw [hN2.out]; exact hone) (by rw [hN2.out, ← HKK.out]; exact hik), hN2.out, ← HKK.out, ← HS.out, ← HD.out]; exact P5.out, B5.out⟩

/-- What Prove and Compare answer: a row of digests and a number. -/
structure Told (w w' : World) (e : Ending) (ds : List (List UInt8)) (n : Int) : Prop where
  is : ∃ v', e = .returned (.tuple #[v', .int .i64 n]) ∧ DgRow w.heap.size w' v' ds
  below : Below w.heap.size w w'
def S.prove (a : Int) (l : List (List UInt8)) (i : Nat) : List (List UInt8) := if i < l.length then S.path a l i else []
def S.proveNo (l : List (List UInt8)) (i : Nat) : Int := if i < l.length then 0 else 25
def S.comp_ (a : Int) (l : List (List UInt8)) (i : Nat) : List (List UInt8) := if i = 0 ∨ l.length < i then [] else S.grow a l i true
def S.compNo (l : List (List UInt8)) (i : Nat) : Int := if i = 0 ∨ l.length < i then 25 else 0
set_option maxHeartbeats 1000000 in
set_option maxRecDepth 10000 in
theorem prove_any (a : Int) (bss : List (List UInt8)) (v : Value) (i : Nat) (w : World) (hi : i < 18446744073709551616) (h256 : bss.length ≤ 256) (hv : BsAt w v bss) (hf : Fit bss) (hK : KAt w) :
   Calls Tryd.prog 25 #[.int .i64 a, v, .int .u64 (i : Int)] w fun e w' => Told w w' e (S.prove a bss i) (S.proveNo bss i) := by
  obtain ⟨ao, cap, rfl, hcap⟩ := hv.form
  obtain ⟨N, hN⟩ : ∃ N, N = bss.length := ⟨_, rfl⟩
  have HV := hide hv
  have HF := hide hf
  have HK := hide hK
  have HN := hide hN
  rw [← hN] at hcap HV h256 ⊢
  have q2 : IntKind.u64.wrap (N : Int) = (N : Int) := by rw [IntKind.wrap_u64]; omega
  clear hv hf hK hN
  by_cases hlt : i < N
  · have q1 : ¬ (N : Int) ≤ (i : Int) := by omega
    have q1' : (i : Int) < (N : Int) := by omega
    have q3 : IntKind.i64.wrap (i : Int) = (i : Int) := by rw [IntKind.wrap_i64]; omega
    go_enter Tryd.func25, Tryd.ntmps25
    go_wp2_with fail
    clear q1 q1' q2 q3
    refine (path_any a N bss _ i w HN.out.symm (by omega) h256 hlt HV.out HF.out HK.out).mono ?_
    rintro e w1 ⟨v1, rfl, h1, h2⟩
    obtain ⟨ao1, c1, rfl⟩ := h1.form
    have H1 := hide h1
    clear h1
    go_wp2_with fail
    go_ret2
    exact ⟨⟨_, by rw [S.proveNo, if_pos (by rw [← HN.out]; exact hlt)]; rfl, by rw [S.prove, if_pos (by rw [← HN.out]; exact hlt)]; exact H1.out⟩, h2⟩
  · have q1 : (N : Int) ≤ (i : Int) := by omega
    go_enter Tryd.func25, Tryd.ntmps25
    go_wp2_with fail
    go_ret2
    exact ⟨⟨_, by rw [S.proveNo, if_neg (by rw [← HN.out]; exact hlt)]; rfl, by rw [S.prove, if_neg (by rw [← HN.out]; exact hlt)]; exact DgRow.nil _ _⟩, Below.refl _ _⟩
set_option maxHeartbeats 1000000 in
set_option maxRecDepth 10000 in
theorem compare_any (a : Int) (bss : List (List UInt8)) (v : Value) (i : Nat) (w : World) (hi : i < 18446744073709551616) (h256 : bss.length ≤ 256) (hv : BsAt w v bss) (hf : Fit bss) (hK : KAt w) :
   Calls Tryd.prog 26 #[.int .i64 a, v, .int .u64 (i : Int)] w fun e w' => Told w w' e (S.comp_ a bss i) (S.compNo bss i) := by
  obtain ⟨ao, cap, rfl, hcap⟩ := hv.form
  obtain ⟨N, hN⟩ : ∃ N, N = bss.length := ⟨_, rfl⟩
  have HV := hide hv
  have HF := hide hf
  have HK := hide hK
  have HN := hide hN
  rw [← hN] at hcap HV h256 ⊢
  have q2 : IntKind.u64.wrap (N : Int) = (N : Int) := by rw [IntKind.wrap_u64]; omega
  clear hv hf hK hN
  by_cases hz : i = 0
  · subst hz
    go_enter Tryd.func26, Tryd.ntmps26
    go_wp2_with fail
    go_ret2
    exact ⟨⟨_, by rw [S.compNo, if_pos (Or.inl rfl)]; rfl, by rw [S.comp_, if_pos (Or.inl rfl)]; exact DgRow.nil _ _⟩, Below.refl _ _⟩
  · have qz : ((i : Int) == 0) = false := by simp; omega
    by_cases hlt : N < i
    · have q1 : (N : Int) < (i : Int) := by omega
      go_enter Tryd.func26, Tryd.ntmps26
      go_wp2_with fail
      go_ret2
      exact ⟨⟨_, by rw [S.compNo, if_pos (Or.inr (by rw [← HN.out]; exact hlt))]; rfl, by rw [S.comp_, if_pos (Or.inr (by rw [← HN.out]; exact hlt))]; exact DgRow.nil _ _⟩, Below.refl _ _⟩
    · have q1 : ¬ (N : Int) < (i : Int) := by omega
      have q1' : (i : Int) ≤ (N : Int) := by omega
      have q3 : IntKind.i64.wrap (i : Int) = (i : Int) := by rw [IntKind.wrap_i64]; omega
      go_enter Tryd.func26, Tryd.ntmps26
      go_wp2_with fail
      clear q1 q1' q2 q3 qz
      refine (growth_any a N bss _ i true w HN.out.symm (by omega) h256 (by omega) (by omega) HV.out HF.out HK.out).mono ?_
      rintro e w1 ⟨v1, rfl, h1, h2⟩
      obtain ⟨ao1, c1, rfl⟩ := h1.form
      have H1 := hide h1
      clear h1
      have hno : ¬ (i = 0 ∨ bss.length < i) := by rw [← HN.out]; omega
      have NO := hide hno
      clear hno
      go_wp2_with fail
      go_ret2
      exact ⟨⟨_, by rw [S.compNo, if_neg NO.out]; rfl, by rw [S.comp_, if_neg NO.out]; exact H1.out⟩, h2⟩
end Go.Proofs.YtlbggkmblkhjoaaDoor
