/- VerifyTakes. -/
import Derived.Test.YtlbggkmblkhjoaaDoorWj
import Derived.Test.YtlbggkmblkhjoaaDoorOa
import Derived.Test.YtlbggkmblkhjoaaDoorOd
namespace Go.Proofs.YtlbggkmblkhjoaaDoor
open Go.RowKit

theorem S.few_fit (bss : List (List UInt8)) (n m : Nat) (hm : m ≤ 100000) : Fit (S.few bss n m) := fun b hb => by
  have := S.few_mem bss n m b hb
  omega
set_option maxHeartbeats 16000000 in
set_option maxRecDepth 10000 in
theorem verifyTakes_walk (a : Int) (v : Value) (bss : List (List UInt8)) (i0 f0 : Nat) (w : World) (hv : BsAt w v bss) (hmax : bss.length ≤ 140737488355328) (hi : i0 < 18446744073709551616) (hf : f0 < 18446744073709551616) (hK : KAt w) :
   Calls Tryd.prog 6 #[.int .i64 a, v, .int .u64 (i0 : Int), .int .u64 (f0 : Int)] w fun e w' => e = .returned (.bool true) ∧ Below w.heap.size w w' := by
  obtain ⟨ao, cap0, rfl, hcap0⟩ := hv.form
  obtain ⟨N0, hN0⟩ : ∃ N, N = bss.length := ⟨_, rfl⟩
  have HV0 := hide hv
  rw [← hN0] at HV0 hmax ⊢
  have HN0 := hide hN0
  have HK := hide hK
  have h0 := hK.pos
  clear hK hv hcap0 hN0
  go_enter Tryd.func6, Tryd.ntmps6
  go_wp2_with fail
  refine (few_any bss _ 40 100 w (by omega) (by omega) HV0.out (by rw [← HN0.out]; exact hmax)).mono ?_
  rintro e w1 ⟨vl, rfl, t1, b1⟩
  obtain ⟨L, hL⟩ : ∃ L, L = S.few bss 40 100 := ⟨_, rfl⟩
  have hlen : L.length ≤ 40 := by rw [hL, S.few_length]; omega
  have hfit : Fit L := by rw [hL]; exact S.few_fit _ _ _ (by omega)
  rw [← hL] at t1
  obtain ⟨lo, lc, rfl⟩ := t1.form
  have V1 := hide t1.bsAt
  have HF := hide hfit
  obtain ⟨N, hN⟩ : ∃ N, N = L.length := ⟨_, rfl⟩
  rw [← hN] at V1 hlen ⊢
  have HN := hide hN
  have B1 := hide b1
  have qn : IntKind.u64.wrap (N : Int) = (N : Int) := by rw [IntKind.wrap_u64]; omega
  clear t1 b1 hL hfit hN HV0
  go_wp2_with fail
  refine (prove_any a L _ i0 w1 (by omega) (by rw [← HN.out]; omega) V1.out HF.out (HK.out.below B1.out h0)).mono ?_
  rintro e w4 ⟨⟨vp, rfl, p4⟩, b4⟩
  obtain ⟨po, pc, rfl⟩ := p4.form
  have P4 := hide (p4.dgAt (by have := S.prove_len a L i0 6 (by rw [← HN.out]; omega); omega) (S.prove_len32 a L i0))
  obtain ⟨ps, hps⟩ : ∃ ps, ps = S.prove a L i0 := ⟨_, rfl⟩
  obtain ⟨pn, hpn⟩ : ∃ pn, pn = S.proveNo L i0 := ⟨_, rfl⟩
  have PL := hide (show ps.length ≤ 90000 by rw [hps]; have := S.prove_len a L i0 6 (by rw [← HN.out]; omega); omega)
  rw [← hps] at P4
  rw [← hpn, ← hps]
  have HPS := hide hps
  have HPN := hide hpn
  have V4 := hide (V1.out.below b4 (Nat.le_refl _))
  have B4 := hide (B1.out.trans (b4.mono B1.out.size))
  obtain ⟨pm, hpm⟩ : ∃ pm, pm = ps.length := ⟨_, rfl⟩
  rw [← hpm] at P4 ⊢
  clear p4 b4 hps hpn hpm V1 B1
  go_wp2_with fail
  refine (compare_any a L _ f0 w4 (by omega) (by rw [← HN.out]; omega) V4.out HF.out (HK.out.below B4.out h0)).mono ?_
  rintro e w5 ⟨⟨vq, rfl, p5⟩, b5⟩
  have QC := hide p5.cap
  obtain ⟨qo, qc, rfl⟩ := p5.form
  have Q5 := hide (p5.dgAt (by have := S.comp_len a L f0 6 (by rw [← HN.out]; omega); omega) (S.comp_len32 a L f0))
  obtain ⟨qs, hqs⟩ : ∃ qs, qs = S.comp_ a L f0 := ⟨_, rfl⟩
  obtain ⟨qm', hqn⟩ : ∃ qn, qn = S.compNo L f0 := ⟨_, rfl⟩
  rw [← hqs] at Q5 QC
  rw [← hqn, ← hqs]
  have HQS := hide hqs
  have HQN := hide hqn
  have V5 := hide (V4.out.below b5 (Nat.le_refl _))
  have P5 := hide (P4.out.below b5)
  have B5 := hide (B4.out.trans (b5.mono B4.out.size))
  obtain ⟨qm, hqm⟩ : ∃ qm, qm = qs.length := ⟨_, rfl⟩
  rw [← hqm] at Q5 QC ⊢
  clear p5 b5 hqs hqn hqm V4 P4 B4
  go_upto_region 5 with fail
  go_cut [57] from 33 (fun c wc => c = .bool false ∧ Hid (Below w5.heap.size w5 wc))
  case first =>
    by_cases hin : i0 < N
    · have hp0 : pn = 0 := by rw [HPN.out, S.proveNo, if_pos (by rw [← HN.out]; exact hin)]
      have hpp : ps = S.path a L i0 := by rw [HPS.out, S.prove, if_pos (by rw [← HN.out]; exact hin)]
      subst hp0
      obtain ⟨bl, offl, cl, e9, e9', e9b, hcl⟩ := V5.out.src (by rw [← HN.out]; omega)
      simp only [Value.slice.injEq] at e9
      obtain ⟨rfl, e9n, rfl⟩ := e9
      obtain ⟨x, hx, hxs⟩ := hcl i0 (by rw [← HN.out]; exact hin)
      obtain ⟨xo, xl, xc, rfl, hxl, hxm⟩ := hxs.form
      have CX := hide hx
      have XS := hide hxs
      have HBLT := hide e9b
      have TK := hide (show S.vLeaf a (L.getD i0 []) i0 N ps (S.root a L) = true by rw [hpp, HN.out]; exact S.vLeaf_takes a L i0 (by rw [← HN.out]; omega) (by rw [← HN.out]; exact hin))
      have HFX := hide (HF.out.at i0 (by rw [← HN.out]; exact hin))
      have q1 : (0 : Int) ≤ (i0 : Int) := by omega
      have q2 : (i0 : Int) < (N : Int) := by omega
      clear e9n e9' e9b hcl hx hxs hxl hxm hpp HPS HPN
      refine wp_region_noPanic ?_
      refine wp_region_held_drew (S := (fun W => Chg (fun _ => False) w5 W)) follows ((Chg.refl _ _).drew) (fun hHeld => ?_)
      clear hHeld
      have hHeld : Chg (fun _ => False) w5 w5.drew := (Chg.refl _ _).drew
      have CZ0 := hide hHeld
      generalize w5.drew = Z0 at CZ0 hHeld ⊢
      refine wpAnyH_take (i := 0) (oi := { dst := some 33, op := Op.move (Operand.tmp 11), type := 49, pos := "law.go:106", after := #[], guard := none }) (v := ?_) rfl (by kernel_rfl) (by kernel_rfl) (by kernel_rfl) (fun _ _ _ h => h) (Or.inl ⟨by rfl, ?_⟩) (by assumption) ?_
      rotate_left
      · intro w hSw
        clear hSw
        go_simp
        all_goals with_reducible rfl
      simp only [Act.put, List.setIfInBounds_toArray, List.set_cons_zero, List.set_cons_succ]
      refine wpAnyH_take (i := 1) (oi := { dst := some 34, op := Op.binOp BinOp.eql 49 (Operand.tmp 33) (Operand.const (Value.int IntKind.i64 0)) 49, type := 4, pos := "law.go:106", after := #[{ on := 0, ground := Ground.data }], guard := none }) (v := ?_) rfl (by kernel_rfl) (by kernel_rfl) (by kernel_rfl) (fun _ _ _ h => h) (Or.inl ⟨by rfl, ?_⟩) (by assumption) ?_
      rotate_left
      · intro w hSw
        clear hSw
        go_simp
        all_goals with_reducible rfl
      simp only [Act.put, List.setIfInBounds_toArray, List.set_cons_zero, List.set_cons_succ]
      refine wpAnyH_take (i := 2) (oi := { dst := some 35, op := Op.move (Operand.tmp 34), type := 4, pos := "law.go:106", after := #[{ on := 1, ground := Ground.data }], guard := none }) (v := ?_) rfl (by kernel_rfl) (by kernel_rfl) (by kernel_rfl) (fun _ _ _ h => h) (Or.inl ⟨by rfl, ?_⟩) (by assumption) ?_
      rotate_left
      · intro w hSw
        clear hSw
        go_simp
        all_goals with_reducible rfl
      simp only [Act.put, List.setIfInBounds_toArray, List.set_cons_zero, List.set_cons_succ]
      refine wpAnyH_take (i := 3) (oi := { dst := some 36, op := Op.move (Operand.tmp 0), type := 3, pos := "law.go:106", after := #[{ on := 2, ground := Ground.guard }], guard := some (2, true) }) (v := ?_) rfl (by kernel_rfl) (by kernel_rfl) (by kernel_rfl) (fun _ _ _ h => h) (Or.inl ⟨by rfl, ?_⟩) (by assumption) ?_
      rotate_left
      · intro w hSw
        clear hSw
        go_simp
        all_goals with_reducible rfl
      simp only [Act.put, List.setIfInBounds_toArray, List.set_cons_zero, List.set_cons_succ]
      refine wpAnyH_take (i := 4) (oi := { dst := some 37, op := Op.move (Operand.tmp 1), type := 41, pos := "law.go:106", after := #[{ on := 2, ground := Ground.guard }], guard := some (2, true) }) (v := ?_) rfl (by kernel_rfl) (by kernel_rfl) (by kernel_rfl) (fun _ _ _ h => h) (Or.inl ⟨by rfl, ?_⟩) (by assumption) ?_
      rotate_left
      · intro w hSw
        clear hSw
        go_simp
        all_goals with_reducible rfl
      simp only [Act.put, List.setIfInBounds_toArray, List.set_cons_zero, List.set_cons_succ]
      refine wpAnyH_take (i := 5) (oi := { dst := some 38, op := Op.move (Operand.tmp 2), type := 28, pos := "law.go:106", after := #[{ on := 2, ground := Ground.guard }], guard := some (2, true) }) (v := ?_) rfl (by kernel_rfl) (by kernel_rfl) (by kernel_rfl) (fun _ _ _ h => h) (Or.inl ⟨by rfl, ?_⟩) (by assumption) ?_
      rotate_left
      · intro w hSw
        clear hSw
        go_simp
        all_goals with_reducible rfl
      simp only [Act.put, List.setIfInBounds_toArray, List.set_cons_zero, List.set_cons_succ]
      refine wpAnyH_take (i := 6) (oi := { dst := some 39, op := Op.indexAddr 41 (Operand.tmp 37) (Operand.tmp 38), type := 0, pos := "law.go:106", after := #[{ on := 4, ground := Ground.data }, { on := 5, ground := Ground.data }, { on := 2, ground := Ground.guard }], guard := some (2, true) }) (v := ?_) rfl (by kernel_rfl) (by kernel_rfl) (by kernel_rfl) (fun _ _ _ h => h) (Or.inl ⟨by rfl, ?_⟩) (by assumption) ?_
      rotate_left
      · intro w hSw
        clear hSw
        go_simp
        all_goals with_reducible rfl
      simp only [Act.put, List.setIfInBounds_toArray, List.set_cons_zero, List.set_cons_succ]
      refine wpAnyH_take (i := 7) (oi := { dst := some 40, op := Op.load 25 (Operand.tmp 39), type := 25, pos := "law.go:106", after := #[{ on := 6, ground := Ground.data }, { on := 2, ground := Ground.guard }], guard := some (2, true) }) (v := ?_) rfl (by kernel_rfl) (by kernel_rfl) (by kernel_rfl) (fun _ _ _ h => h) (Or.inl ⟨by rfl, ?_⟩) (by assumption) ?_
      rotate_left
      · intro w hSw
        have c4 := ((hSw.below _ (Nat.le_refl _) (fun _ _ e => e)).cell (p := ⟨bl, offl + i0, none⟩) HBLT.out).trans CX.out
        clear hSw
        go_simp
        all_goals with_reducible rfl
      simp only [Act.put, List.setIfInBounds_toArray, List.set_cons_zero, List.set_cons_succ]
      refine wpAnyH_take (i := 8) (oi := { dst := some 41, op := Op.move (Operand.tmp 2), type := 28, pos := "law.go:106", after := #[{ on := 2, ground := Ground.guard }], guard := some (2, true) }) (v := ?_) rfl (by kernel_rfl) (by kernel_rfl) (by kernel_rfl) (fun _ _ _ h => h) (Or.inl ⟨by rfl, ?_⟩) (by assumption) ?_
      rotate_left
      · intro w hSw
        clear hSw
        go_simp
        all_goals with_reducible rfl
      simp only [Act.put, List.setIfInBounds_toArray, List.set_cons_zero, List.set_cons_succ]
      refine wpAnyH_take (i := 9) (oi := { dst := some 42, op := Op.move (Operand.tmp 9), type := 28, pos := "law.go:106", after := #[{ on := 2, ground := Ground.guard }], guard := some (2, true) }) (v := ?_) rfl (by kernel_rfl) (by kernel_rfl) (by kernel_rfl) (fun _ _ _ h => h) (Or.inl ⟨by rfl, ?_⟩) (by assumption) ?_
      rotate_left
      · intro w hSw
        clear hSw
        go_simp
        all_goals with_reducible rfl
      simp only [Act.put, List.setIfInBounds_toArray, List.set_cons_zero, List.set_cons_succ]
      refine wpAnyH_take (i := 10) (oi := { dst := some 43, op := Op.move (Operand.tmp 10), type := 32, pos := "law.go:106", after := #[{ on := 2, ground := Ground.guard }], guard := some (2, true) }) (v := ?_) rfl (by kernel_rfl) (by kernel_rfl) (by kernel_rfl) (fun _ _ _ h => h) (Or.inl ⟨by rfl, ?_⟩) (by assumption) ?_
      rotate_left
      · intro w hSw
        clear hSw
        go_simp
        all_goals with_reducible rfl
      simp only [Act.put, List.setIfInBounds_toArray, List.set_cons_zero, List.set_cons_succ]
      refine wpAnyH_take (i := 11) (oi := { dst := some 44, op := Op.move (Operand.tmp 0), type := 3, pos := "law.go:106", after := #[{ on := 2, ground := Ground.guard }], guard := some (2, true) }) (v := ?_) rfl (by kernel_rfl) (by kernel_rfl) (by kernel_rfl) (fun _ _ _ h => h) (Or.inl ⟨by rfl, ?_⟩) (by assumption) ?_
      rotate_left
      · intro w hSw
        clear hSw
        go_simp
        all_goals with_reducible rfl
      simp only [Act.put, List.setIfInBounds_toArray, List.set_cons_zero, List.set_cons_succ]
      refine wpAnyH_take (i := 12) (oi := { dst := some 45, op := Op.move (Operand.tmp 1), type := 41, pos := "law.go:106", after := #[{ on := 2, ground := Ground.guard }], guard := some (2, true) }) (v := ?_) rfl (by kernel_rfl) (by kernel_rfl) (by kernel_rfl) (fun _ _ _ h => h) (Or.inl ⟨by rfl, ?_⟩) (by assumption) ?_
      rotate_left
      · intro w hSw
        clear hSw
        go_simp
        all_goals with_reducible rfl
      simp only [Act.put, List.setIfInBounds_toArray, List.set_cons_zero, List.set_cons_succ]
      refine wpAnyH_ready (rs := [13]) (by kernel_rfl) (by simp) ?_
      refine AllReadyH.cons (o := { dst := some 46, op := Op.call { callee := Callee.value (Operand.func 27), args := #[Operand.tmp 44, Operand.tmp 45], argTypes := #[3, 41] }, type := 23, pos := "law.go:106", after := #[{ on := 11, ground := Ground.data }, { on := 12, ground := Ground.data }, { on := 2, ground := Ground.chain }, { on := 2, ground := Ground.guard }], guard := some (2, true) }) rfl (fun K hK => ?_) AllReadyH.nil
      go_simp
      refine (root_any a _ L Z0 (V5.out.below (CZ0.out.below _ (Nat.le_refl _) (fun _ _ e => e)) (Nat.le_refl _)) (by rw [← HN.out]; omega) HF.out (HK.out.below (B5.out.trans (CZ0.out.below w.heap.size B5.out.size (fun k hk e => e))) h0)).mono ?_
      rintro e Z1 ⟨rfl, hb2⟩
      obtain ⟨D2, hD2⟩ : ∃ D, D = S.root a L := ⟨_, rfl⟩
      have LD2 := hide (show D2.length = 32 by rw [hD2, S.root_length])
      rw [← hD2] at TK ⊢
      clear hD2
      have CZ1 : Hid (Chg (fun _ => False) w5 Z1) := CZ0.out.then hb2
      clear hb2 CZ0
      clear hHeld
      refine hK.out _ _ CZ1.out (fun hHeld => ?_)
      clear hK K
      try simp only [Act.put, List.setIfInBounds_toArray, List.set_cons_zero, List.set_cons_succ]
      refine wpAnyH_ready (rs := [14]) (by kernel_rfl) (by simp) ?_
      refine AllReadyH.cons (o := { dst := some 47, op := Op.call { callee := Callee.value (Operand.func 11), args := #[Operand.tmp 36, Operand.tmp 40, Operand.tmp 41, Operand.tmp 42, Operand.tmp 43, Operand.tmp 46], argTypes := #[3, 25, 28, 28, 32, 23] }, type := 4, pos := "law.go:106", after := #[{ on := 3, ground := Ground.data }, { on := 7, ground := Ground.data }, { on := 8, ground := Ground.data }, { on := 9, ground := Ground.data }, { on := 10, ground := Ground.data }, { on := 13, ground := Ground.data }, { on := 13, ground := Ground.chain }, { on := 2, ground := Ground.guard }], guard := some (2, true) }) rfl (fun K hK => ?_) AllReadyH.nil
      go_simp
      refine (leafv_any a _ _ (L.getD i0 []) i0 N ps D2 LD2.out Z1 hi (by omega) (XS.out.below (CZ1.out.below _ (Nat.le_refl _) (fun _ _ e => e)) (Nat.le_refl _)) (by have := HFX.out; omega) (P5.out.below (CZ1.out.below _ (Nat.le_refl _) (fun _ _ e => e))) PL.out (HK.out.below (B5.out.trans (CZ1.out.below w.heap.size B5.out.size (fun k hk e => e))) h0)).mono ?_
      rintro e Z2 ⟨rfl, hb2⟩
      rw [TK.out]
      have CZ2 : Hid (Chg (fun _ => False) w5 Z2) := CZ1.out.then hb2
      clear hb2 CZ1
      clear hHeld
      refine hK.out _ _ CZ2.out (fun hHeld => ?_)
      clear hK K
      try simp only [Act.put, List.setIfInBounds_toArray, List.set_cons_zero, List.set_cons_succ]
      refine wpAnyH_take (i := 15) (oi := { dst := some 48, op := Op.unOp UnOp.not 4 (Operand.tmp 47), type := 4, pos := "law.go:106", after := #[{ on := 14, ground := Ground.data }, { on := 2, ground := Ground.guard }], guard := some (2, true) }) (v := ?_) rfl (by kernel_rfl) (by kernel_rfl) (by kernel_rfl) (fun _ _ _ h => h) (Or.inl ⟨by rfl, ?_⟩) (by assumption) ?_
      rotate_left
      · intro w hSw
        clear hSw
        go_simp
        all_goals with_reducible rfl
      simp only [Act.put, List.setIfInBounds_toArray, List.set_cons_zero, List.set_cons_succ]
      refine wpAnyH_take (i := 16) (oi := { dst := some 49, op := Op.pick (Operand.tmp 35) (Operand.tmp 48) (Operand.const (Value.bool false)), type := 4, pos := "law.go:106", after := #[{ on := 2, ground := Ground.data }, { on := 15, ground := Ground.data }], guard := none }) (v := ?_) rfl (by kernel_rfl) (by kernel_rfl) (by kernel_rfl) (fun _ _ _ h => h) (Or.inl ⟨by rfl, ?_⟩) (by assumption) ?_
      rotate_left
      · intro w hSw
        clear hSw
        go_simp
        all_goals with_reducible rfl
      simp only [Act.put, List.setIfInBounds_toArray, List.set_cons_zero, List.set_cons_succ]
      refine wpAnyH_take (i := 17) (oi := { dst := some 50, op := Op.move (Operand.tmp 49), type := 4, pos := "law.go:106", after := #[{ on := 16, ground := Ground.data }, { on := 14, ground := Ground.chain }], guard := none }) (v := ?_) rfl (by kernel_rfl) (by kernel_rfl) (by kernel_rfl) (fun _ _ _ h => h) (Or.inl ⟨by rfl, ?_⟩) (by assumption) ?_
      rotate_left
      · intro w hSw
        clear hSw
        go_simp
        all_goals with_reducible rfl
      simp only [Act.put, List.setIfInBounds_toArray, List.set_cons_zero, List.set_cons_succ]
      refine wpAnyH_take (i := 18) (oi := { dst := some 51, op := Op.move (Operand.tmp 11), type := 49, pos := "law.go:106", after := #[{ on := 17, ground := Ground.guard }], guard := some (17, false) }) (v := ?_) rfl (by kernel_rfl) (by kernel_rfl) (by kernel_rfl) (fun _ _ _ h => h) (Or.inl ⟨by rfl, ?_⟩) (by assumption) ?_
      rotate_left
      · intro w hSw
        clear hSw
        go_simp
        all_goals with_reducible rfl
      simp only [Act.put, List.setIfInBounds_toArray, List.set_cons_zero, List.set_cons_succ]
      refine wpAnyH_take (i := 19) (oi := { dst := some 52, op := Op.binOp BinOp.eql 49 (Operand.tmp 51) (Operand.const (Value.int IntKind.i64 0)) 49, type := 4, pos := "law.go:106", after := #[{ on := 18, ground := Ground.data }, { on := 17, ground := Ground.guard }], guard := some (17, false) }) (v := ?_) rfl (by kernel_rfl) (by kernel_rfl) (by kernel_rfl) (fun _ _ _ h => h) (Or.inl ⟨by rfl, ?_⟩) (by assumption) ?_
      rotate_left
      · intro w hSw
        clear hSw
        go_simp
        all_goals with_reducible rfl
      simp only [Act.put, List.setIfInBounds_toArray, List.set_cons_zero, List.set_cons_succ]
      refine wpAnyH_take (i := 20) (oi := { dst := some 53, op := Op.move (Operand.tmp 2), type := 28, pos := "law.go:106", after := #[{ on := 17, ground := Ground.guard }], guard := some (17, false) }) (v := ?_) rfl (by kernel_rfl) (by kernel_rfl) (by kernel_rfl) (fun _ _ _ h => h) (Or.inl ⟨by rfl, ?_⟩) (by assumption) ?_
      rotate_left
      · intro w hSw
        clear hSw
        go_simp
        all_goals with_reducible rfl
      simp only [Act.put, List.setIfInBounds_toArray, List.set_cons_zero, List.set_cons_succ]
      refine wpAnyH_take (i := 21) (oi := { dst := some 54, op := Op.move (Operand.tmp 9), type := 28, pos := "law.go:106", after := #[{ on := 17, ground := Ground.guard }], guard := some (17, false) }) (v := ?_) rfl (by kernel_rfl) (by kernel_rfl) (by kernel_rfl) (fun _ _ _ h => h) (Or.inl ⟨by rfl, ?_⟩) (by assumption) ?_
      rotate_left
      · intro w hSw
        clear hSw
        go_simp
        all_goals with_reducible rfl
      simp only [Act.put, List.setIfInBounds_toArray, List.set_cons_zero, List.set_cons_succ]
      refine wpAnyH_take (i := 22) (oi := { dst := some 55, op := Op.binOp BinOp.lss 28 (Operand.tmp 53) (Operand.tmp 54) 28, type := 4, pos := "law.go:106", after := #[{ on := 20, ground := Ground.data }, { on := 21, ground := Ground.data }, { on := 17, ground := Ground.guard }], guard := some (17, false) }) (v := ?_) rfl (by kernel_rfl) (by kernel_rfl) (by kernel_rfl) (fun _ _ _ h => h) (Or.inl ⟨by rfl, ?_⟩) (by assumption) ?_
      rotate_left
      · intro w hSw
        clear hSw
        go_simp
        all_goals with_reducible rfl
      simp only [Act.put, List.setIfInBounds_toArray, List.set_cons_zero, List.set_cons_succ]
      refine wpAnyH_take (i := 23) (oi := { dst := some 56, op := Op.binOp BinOp.neq 4 (Operand.tmp 52) (Operand.tmp 55) 4, type := 4, pos := "law.go:106", after := #[{ on := 19, ground := Ground.data }, { on := 22, ground := Ground.data }, { on := 17, ground := Ground.guard }], guard := some (17, false) }) (v := ?_) rfl (by kernel_rfl) (by kernel_rfl) (by kernel_rfl) (fun _ _ _ h => h) (Or.inl ⟨by rfl, ?_⟩) (by assumption) ?_
      rotate_left
      · intro w hSw
        clear hSw
        go_simp
        all_goals with_reducible rfl
      simp only [Act.put, List.setIfInBounds_toArray, List.set_cons_zero, List.set_cons_succ]
      refine wpAnyH_take (i := 24) (oi := { dst := some 57, op := Op.pick (Operand.tmp 50) (Operand.const (Value.bool true)) (Operand.tmp 56), type := 4, pos := "law.go:106", after := #[{ on := 17, ground := Ground.data }, { on := 23, ground := Ground.data }], guard := none }) (v := ?_) rfl (by kernel_rfl) (by kernel_rfl) (by kernel_rfl) (fun _ _ _ h => h) (Or.inl ⟨by rfl, ?_⟩) (by assumption) ?_
      rotate_left
      · intro w hSw
        clear hSw
        go_simp
        all_goals with_reducible rfl
      simp only [Act.put, List.setIfInBounds_toArray, List.set_cons_zero, List.set_cons_succ]
      refine wpAnyH_done (by kernel_rfl) ?_ _
      refine NoPanic.normal ?_
      clear hHeld
      have BF := hide (CZ2.out.below _ (Nat.le_refl _) (fun _ _ e => e))
      go_wp2_with fail
      go_meet
      case rel => exact ⟨rfl, BF⟩
    · have hp0 : pn = 25 := by rw [HPN.out, S.proveNo, if_neg (by rw [← HN.out]; exact hin)]
      subst hp0
      have q2 : ¬ (i0 : Int) < (N : Int) := by omega
      have q2' : (N : Int) ≤ (i0 : Int) := by omega
      clear HPS HPN
      refine wp_region_noPanic ?_
      refine wp_region_held_drew (S := (fun W => Chg (fun _ => False) w5 W)) follows ((Chg.refl _ _).drew) (fun hHeld => ?_)
      clear hHeld
      have hHeld : Chg (fun _ => False) w5 w5.drew := (Chg.refl _ _).drew
      have CZ0 := hide hHeld
      generalize w5.drew = Z0 at CZ0 hHeld ⊢
      refine wpAnyH_take (i := 0) (oi := { dst := some 33, op := Op.move (Operand.tmp 11), type := 49, pos := "law.go:106", after := #[], guard := none }) (v := ?_) rfl (by kernel_rfl) (by kernel_rfl) (by kernel_rfl) (fun _ _ _ h => h) (Or.inl ⟨by rfl, ?_⟩) (by assumption) ?_
      rotate_left
      · intro w hSw
        clear hSw
        go_simp
        all_goals with_reducible rfl
      simp only [Act.put, List.setIfInBounds_toArray, List.set_cons_zero, List.set_cons_succ]
      refine wpAnyH_take (i := 1) (oi := { dst := some 34, op := Op.binOp BinOp.eql 49 (Operand.tmp 33) (Operand.const (Value.int IntKind.i64 0)) 49, type := 4, pos := "law.go:106", after := #[{ on := 0, ground := Ground.data }], guard := none }) (v := ?_) rfl (by kernel_rfl) (by kernel_rfl) (by kernel_rfl) (fun _ _ _ h => h) (Or.inl ⟨by rfl, ?_⟩) (by assumption) ?_
      rotate_left
      · intro w hSw
        clear hSw
        go_simp
        all_goals with_reducible rfl
      simp only [Act.put, List.setIfInBounds_toArray, List.set_cons_zero, List.set_cons_succ]
      refine wpAnyH_take (i := 2) (oi := { dst := some 35, op := Op.move (Operand.tmp 34), type := 4, pos := "law.go:106", after := #[{ on := 1, ground := Ground.data }], guard := none }) (v := ?_) rfl (by kernel_rfl) (by kernel_rfl) (by kernel_rfl) (fun _ _ _ h => h) (Or.inl ⟨by rfl, ?_⟩) (by assumption) ?_
      rotate_left
      · intro w hSw
        clear hSw
        go_simp
        all_goals with_reducible rfl
      simp only [Act.put, List.setIfInBounds_toArray, List.set_cons_zero, List.set_cons_succ]
      refine wpAnyH_take (i := 3) (oi := { dst := some 36, op := Op.move (Operand.tmp 0), type := 3, pos := "law.go:106", after := #[{ on := 2, ground := Ground.guard }], guard := some (2, true) }) (v := undef) rfl (by kernel_rfl) (by kernel_rfl) (by kernel_rfl) (fun _ _ _ h => h) (Or.inr ⟨by rfl, rfl⟩) (by assumption) ?_
      simp only [Act.put, List.setIfInBounds_toArray, List.set_cons_zero, List.set_cons_succ]
      refine wpAnyH_take (i := 4) (oi := { dst := some 37, op := Op.move (Operand.tmp 1), type := 41, pos := "law.go:106", after := #[{ on := 2, ground := Ground.guard }], guard := some (2, true) }) (v := undef) rfl (by kernel_rfl) (by kernel_rfl) (by kernel_rfl) (fun _ _ _ h => h) (Or.inr ⟨by rfl, rfl⟩) (by assumption) ?_
      simp only [Act.put, List.setIfInBounds_toArray, List.set_cons_zero, List.set_cons_succ]
      refine wpAnyH_take (i := 5) (oi := { dst := some 38, op := Op.move (Operand.tmp 2), type := 28, pos := "law.go:106", after := #[{ on := 2, ground := Ground.guard }], guard := some (2, true) }) (v := undef) rfl (by kernel_rfl) (by kernel_rfl) (by kernel_rfl) (fun _ _ _ h => h) (Or.inr ⟨by rfl, rfl⟩) (by assumption) ?_
      simp only [Act.put, List.setIfInBounds_toArray, List.set_cons_zero, List.set_cons_succ]
      refine wpAnyH_take (i := 6) (oi := { dst := some 39, op := Op.indexAddr 41 (Operand.tmp 37) (Operand.tmp 38), type := 0, pos := "law.go:106", after := #[{ on := 4, ground := Ground.data }, { on := 5, ground := Ground.data }, { on := 2, ground := Ground.guard }], guard := some (2, true) }) (v := undef) rfl (by kernel_rfl) (by kernel_rfl) (by kernel_rfl) (fun _ _ _ h => h) (Or.inr ⟨by rfl, rfl⟩) (by assumption) ?_
      simp only [Act.put, List.setIfInBounds_toArray, List.set_cons_zero, List.set_cons_succ]
      refine wpAnyH_take (i := 7) (oi := { dst := some 40, op := Op.load 25 (Operand.tmp 39), type := 25, pos := "law.go:106", after := #[{ on := 6, ground := Ground.data }, { on := 2, ground := Ground.guard }], guard := some (2, true) }) (v := undef) rfl (by kernel_rfl) (by kernel_rfl) (by kernel_rfl) (fun _ _ _ h => h) (Or.inr ⟨by rfl, rfl⟩) (by assumption) ?_
      simp only [Act.put, List.setIfInBounds_toArray, List.set_cons_zero, List.set_cons_succ]
      refine wpAnyH_take (i := 8) (oi := { dst := some 41, op := Op.move (Operand.tmp 2), type := 28, pos := "law.go:106", after := #[{ on := 2, ground := Ground.guard }], guard := some (2, true) }) (v := undef) rfl (by kernel_rfl) (by kernel_rfl) (by kernel_rfl) (fun _ _ _ h => h) (Or.inr ⟨by rfl, rfl⟩) (by assumption) ?_
      simp only [Act.put, List.setIfInBounds_toArray, List.set_cons_zero, List.set_cons_succ]
      refine wpAnyH_take (i := 9) (oi := { dst := some 42, op := Op.move (Operand.tmp 9), type := 28, pos := "law.go:106", after := #[{ on := 2, ground := Ground.guard }], guard := some (2, true) }) (v := undef) rfl (by kernel_rfl) (by kernel_rfl) (by kernel_rfl) (fun _ _ _ h => h) (Or.inr ⟨by rfl, rfl⟩) (by assumption) ?_
      simp only [Act.put, List.setIfInBounds_toArray, List.set_cons_zero, List.set_cons_succ]
      refine wpAnyH_take (i := 10) (oi := { dst := some 43, op := Op.move (Operand.tmp 10), type := 32, pos := "law.go:106", after := #[{ on := 2, ground := Ground.guard }], guard := some (2, true) }) (v := undef) rfl (by kernel_rfl) (by kernel_rfl) (by kernel_rfl) (fun _ _ _ h => h) (Or.inr ⟨by rfl, rfl⟩) (by assumption) ?_
      simp only [Act.put, List.setIfInBounds_toArray, List.set_cons_zero, List.set_cons_succ]
      refine wpAnyH_take (i := 11) (oi := { dst := some 44, op := Op.move (Operand.tmp 0), type := 3, pos := "law.go:106", after := #[{ on := 2, ground := Ground.guard }], guard := some (2, true) }) (v := undef) rfl (by kernel_rfl) (by kernel_rfl) (by kernel_rfl) (fun _ _ _ h => h) (Or.inr ⟨by rfl, rfl⟩) (by assumption) ?_
      simp only [Act.put, List.setIfInBounds_toArray, List.set_cons_zero, List.set_cons_succ]
      refine wpAnyH_take (i := 12) (oi := { dst := some 45, op := Op.move (Operand.tmp 1), type := 41, pos := "law.go:106", after := #[{ on := 2, ground := Ground.guard }], guard := some (2, true) }) (v := undef) rfl (by kernel_rfl) (by kernel_rfl) (by kernel_rfl) (fun _ _ _ h => h) (Or.inr ⟨by rfl, rfl⟩) (by assumption) ?_
      simp only [Act.put, List.setIfInBounds_toArray, List.set_cons_zero, List.set_cons_succ]
      refine wpAnyH_take (i := 13) (oi := { dst := some 46, op := Op.call { callee := Callee.value (Operand.func 27), args := #[Operand.tmp 44, Operand.tmp 45], argTypes := #[3, 41] }, type := 23, pos := "law.go:106", after := #[{ on := 11, ground := Ground.data }, { on := 12, ground := Ground.data }, { on := 2, ground := Ground.chain }, { on := 2, ground := Ground.guard }], guard := some (2, true) }) (v := undef) rfl (by kernel_rfl) (by kernel_rfl) (by kernel_rfl) (fun _ _ _ h => h) (Or.inr ⟨by rfl, rfl⟩) (by assumption) ?_
      simp only [Act.put, List.setIfInBounds_toArray, List.set_cons_zero, List.set_cons_succ]
      refine wpAnyH_take (i := 14) (oi := { dst := some 47, op := Op.call { callee := Callee.value (Operand.func 11), args := #[Operand.tmp 36, Operand.tmp 40, Operand.tmp 41, Operand.tmp 42, Operand.tmp 43, Operand.tmp 46], argTypes := #[3, 25, 28, 28, 32, 23] }, type := 4, pos := "law.go:106", after := #[{ on := 3, ground := Ground.data }, { on := 7, ground := Ground.data }, { on := 8, ground := Ground.data }, { on := 9, ground := Ground.data }, { on := 10, ground := Ground.data }, { on := 13, ground := Ground.data }, { on := 13, ground := Ground.chain }, { on := 2, ground := Ground.guard }], guard := some (2, true) }) (v := undef) rfl (by kernel_rfl) (by kernel_rfl) (by kernel_rfl) (fun _ _ _ h => h) (Or.inr ⟨by rfl, rfl⟩) (by assumption) ?_
      simp only [Act.put, List.setIfInBounds_toArray, List.set_cons_zero, List.set_cons_succ]
      refine wpAnyH_take (i := 15) (oi := { dst := some 48, op := Op.unOp UnOp.not 4 (Operand.tmp 47), type := 4, pos := "law.go:106", after := #[{ on := 14, ground := Ground.data }, { on := 2, ground := Ground.guard }], guard := some (2, true) }) (v := undef) rfl (by kernel_rfl) (by kernel_rfl) (by kernel_rfl) (fun _ _ _ h => h) (Or.inr ⟨by rfl, rfl⟩) (by assumption) ?_
      simp only [Act.put, List.setIfInBounds_toArray, List.set_cons_zero, List.set_cons_succ]
      refine wpAnyH_take (i := 16) (oi := { dst := some 49, op := Op.pick (Operand.tmp 35) (Operand.tmp 48) (Operand.const (Value.bool false)), type := 4, pos := "law.go:106", after := #[{ on := 2, ground := Ground.data }, { on := 15, ground := Ground.data }], guard := none }) (v := ?_) rfl (by kernel_rfl) (by kernel_rfl) (by kernel_rfl) (fun _ _ _ h => h) (Or.inl ⟨by rfl, ?_⟩) (by assumption) ?_
      rotate_left
      · intro w hSw
        clear hSw
        go_simp
        all_goals with_reducible rfl
      simp only [Act.put, List.setIfInBounds_toArray, List.set_cons_zero, List.set_cons_succ]
      refine wpAnyH_take (i := 17) (oi := { dst := some 50, op := Op.move (Operand.tmp 49), type := 4, pos := "law.go:106", after := #[{ on := 16, ground := Ground.data }, { on := 14, ground := Ground.chain }], guard := none }) (v := ?_) rfl (by kernel_rfl) (by kernel_rfl) (by kernel_rfl) (fun _ _ _ h => h) (Or.inl ⟨by rfl, ?_⟩) (by assumption) ?_
      rotate_left
      · intro w hSw
        clear hSw
        go_simp
        all_goals with_reducible rfl
      simp only [Act.put, List.setIfInBounds_toArray, List.set_cons_zero, List.set_cons_succ]
      refine wpAnyH_take (i := 18) (oi := { dst := some 51, op := Op.move (Operand.tmp 11), type := 49, pos := "law.go:106", after := #[{ on := 17, ground := Ground.guard }], guard := some (17, false) }) (v := ?_) rfl (by kernel_rfl) (by kernel_rfl) (by kernel_rfl) (fun _ _ _ h => h) (Or.inl ⟨by rfl, ?_⟩) (by assumption) ?_
      rotate_left
      · intro w hSw
        clear hSw
        go_simp
        all_goals with_reducible rfl
      simp only [Act.put, List.setIfInBounds_toArray, List.set_cons_zero, List.set_cons_succ]
      refine wpAnyH_take (i := 19) (oi := { dst := some 52, op := Op.binOp BinOp.eql 49 (Operand.tmp 51) (Operand.const (Value.int IntKind.i64 0)) 49, type := 4, pos := "law.go:106", after := #[{ on := 18, ground := Ground.data }, { on := 17, ground := Ground.guard }], guard := some (17, false) }) (v := ?_) rfl (by kernel_rfl) (by kernel_rfl) (by kernel_rfl) (fun _ _ _ h => h) (Or.inl ⟨by rfl, ?_⟩) (by assumption) ?_
      rotate_left
      · intro w hSw
        clear hSw
        go_simp
        all_goals with_reducible rfl
      simp only [Act.put, List.setIfInBounds_toArray, List.set_cons_zero, List.set_cons_succ]
      refine wpAnyH_take (i := 20) (oi := { dst := some 53, op := Op.move (Operand.tmp 2), type := 28, pos := "law.go:106", after := #[{ on := 17, ground := Ground.guard }], guard := some (17, false) }) (v := ?_) rfl (by kernel_rfl) (by kernel_rfl) (by kernel_rfl) (fun _ _ _ h => h) (Or.inl ⟨by rfl, ?_⟩) (by assumption) ?_
      rotate_left
      · intro w hSw
        clear hSw
        go_simp
        all_goals with_reducible rfl
      simp only [Act.put, List.setIfInBounds_toArray, List.set_cons_zero, List.set_cons_succ]
      refine wpAnyH_take (i := 21) (oi := { dst := some 54, op := Op.move (Operand.tmp 9), type := 28, pos := "law.go:106", after := #[{ on := 17, ground := Ground.guard }], guard := some (17, false) }) (v := ?_) rfl (by kernel_rfl) (by kernel_rfl) (by kernel_rfl) (fun _ _ _ h => h) (Or.inl ⟨by rfl, ?_⟩) (by assumption) ?_
      rotate_left
      · intro w hSw
        clear hSw
        go_simp
        all_goals with_reducible rfl
      simp only [Act.put, List.setIfInBounds_toArray, List.set_cons_zero, List.set_cons_succ]
      refine wpAnyH_take (i := 22) (oi := { dst := some 55, op := Op.binOp BinOp.lss 28 (Operand.tmp 53) (Operand.tmp 54) 28, type := 4, pos := "law.go:106", after := #[{ on := 20, ground := Ground.data }, { on := 21, ground := Ground.data }, { on := 17, ground := Ground.guard }], guard := some (17, false) }) (v := ?_) rfl (by kernel_rfl) (by kernel_rfl) (by kernel_rfl) (fun _ _ _ h => h) (Or.inl ⟨by rfl, ?_⟩) (by assumption) ?_
      rotate_left
      · intro w hSw
        clear hSw
        go_simp
        all_goals with_reducible rfl
      simp only [Act.put, List.setIfInBounds_toArray, List.set_cons_zero, List.set_cons_succ]
      refine wpAnyH_take (i := 23) (oi := { dst := some 56, op := Op.binOp BinOp.neq 4 (Operand.tmp 52) (Operand.tmp 55) 4, type := 4, pos := "law.go:106", after := #[{ on := 19, ground := Ground.data }, { on := 22, ground := Ground.data }, { on := 17, ground := Ground.guard }], guard := some (17, false) }) (v := ?_) rfl (by kernel_rfl) (by kernel_rfl) (by kernel_rfl) (fun _ _ _ h => h) (Or.inl ⟨by rfl, ?_⟩) (by assumption) ?_
      rotate_left
      · intro w hSw
        clear hSw
        go_simp
        all_goals with_reducible rfl
      simp only [Act.put, List.setIfInBounds_toArray, List.set_cons_zero, List.set_cons_succ]
      refine wpAnyH_take (i := 24) (oi := { dst := some 57, op := Op.pick (Operand.tmp 50) (Operand.const (Value.bool true)) (Operand.tmp 56), type := 4, pos := "law.go:106", after := #[{ on := 17, ground := Ground.data }, { on := 23, ground := Ground.data }], guard := none }) (v := ?_) rfl (by kernel_rfl) (by kernel_rfl) (by kernel_rfl) (fun _ _ _ h => h) (Or.inl ⟨by rfl, ?_⟩) (by assumption) ?_
      rotate_left
      · intro w hSw
        clear hSw
        go_simp
        all_goals with_reducible rfl
      simp only [Act.put, List.setIfInBounds_toArray, List.set_cons_zero, List.set_cons_succ]
      refine wpAnyH_done (by kernel_rfl) ?_ _
      refine NoPanic.normal ?_
      clear hHeld
      have BF := hide (CZ0.out.below _ (Nat.le_refl _) (fun _ _ e => e))
      go_wp2_with fail
      go_meet
      case rel => exact ⟨rfl, BF⟩
  obtain ⟨rfl, hbc⟩ := hcut
  have V6 := hide (V5.out.below hbc.out (Nat.le_refl _))
  have Q6 := hide (Q5.out.below hbc.out)
  have B6 := hide (B5.out.trans (hbc.out.mono B5.out.size))
  clear V5 Q5 B5 P5 hbc
  by_cases hin : f0 = 0 ∨ N < f0
  · have hp0 : qm' = 25 := by rw [HQN.out, S.compNo, if_pos (by rw [← HN.out]; exact hin)]
    subst hp0
    by_cases hz0 : f0 = 0
    · have q1 : ¬ (f0 : Int) > 0 := by omega
      have q1' : ¬ (0 : Int) < (f0 : Int) := by omega
      clear hin
      go_wp2_with fail
      refine (known9_any wc (HK.out.below B6.out h0)).mono ?_
      rintro e wk ⟨rfl, bk⟩
      have BK := hide (B6.out.trans (bk.mono B6.out.size))
      clear bk
      go_wp2_with fail
      go_ret
      exact ⟨rfl, BK.out⟩
    · have q1 : (f0 : Int) > 0 := by omega
      have q1' : (0 : Int) < (f0 : Int) := by omega
      have q2 : ¬ (f0 : Int) ≤ (N : Int) := by omega
      have q2' : (N : Int) < (f0 : Int) := by omega
      clear hin
      go_wp2_with fail
      refine (known9_any wc (HK.out.below B6.out h0)).mono ?_
      rintro e wk ⟨rfl, bk⟩
      have BK := hide (B6.out.trans (bk.mono B6.out.size))
      clear bk
      go_wp2_with fail
      go_ret
      exact ⟨rfl, BK.out⟩
  · have hp0 : qm' = 0 := by rw [HQN.out, S.compNo, if_neg (by rw [← HN.out]; exact hin)]
    have hpp : qs = S.grow a L f0 true := by rw [HQS.out, S.comp_, if_neg (by rw [← HN.out]; exact hin)]
    subst hp0
    obtain ⟨bl, offl, cl, e9, e9', e9b, hcl⟩ := V6.out.src (by rw [← HN.out]; omega)
    simp only [Value.slice.injEq] at e9
    obtain ⟨rfl, e9n, rfl⟩ := e9
    have TK := hide (show S.vPre a f0 N (S.root a (L.take f0)) (S.root a L) qs = true by rw [hpp, HN.out]; exact S.vPre_takes a L f0 (by rw [← HN.out]; omega) (by omega) (by rw [← HN.out]; omega))
    have q1 : (f0 : Int) > 0 := by omega
    have q1' : (0 : Int) < (f0 : Int) := by omega
    have q2 : (f0 : Int) ≤ (N : Int) := by omega
    have q3 : (0 : Int) ≤ (f0 : Int) := by omega
    have q4 : (N : Int) ≤ (lc : Int) := by have := HN.out; omega
    have q5 : (f0 : Int) ≤ (lc : Int) := by have := HN.out; omega
    have VT := hide (V6.out.take f0 (by rw [← HN.out]; omega))
    clear e9n e9' e9b hcl hpp hin
    go_wp2_with fail
    refine (root_any a _ (L.take f0) wc VT.out (by rw [List.length_take, ← HN.out]; omega) (HF.out.take f0) (HK.out.below B6.out h0)).mono ?_
    rintro e w7 ⟨rfl, b7⟩
    obtain ⟨D1, hD1⟩ : ∃ D, D = S.root a (L.take f0) := ⟨_, rfl⟩
    have LD1 := hide (show D1.length = 32 by rw [hD1, S.root_length])
    rw [← hD1] at TK ⊢
    have V7 := hide (V6.out.below b7 (Nat.le_refl _))
    have Q7 := hide (Q6.out.below b7)
    have B7 := hide (B6.out.trans (b7.mono B6.out.size))
    clear b7 hD1 V6 Q6 B6 VT
    go_wp2_with fail
    refine (root_any a _ L w7 V7.out (by rw [← HN.out]; omega) HF.out (HK.out.below B7.out h0)).mono ?_
    rintro e w8 ⟨rfl, b8⟩
    obtain ⟨D2, hD2⟩ : ∃ D, D = S.root a L := ⟨_, rfl⟩
    have LD2 := hide (show D2.length = 32 by rw [hD2, S.root_length])
    rw [← hD2] at TK ⊢
    have Q8 := hide (Q7.out.below b8)
    have B8 := hide (B7.out.trans (b8.mono B7.out.size))
    clear b8 hD2 V7 Q7 B7
    go_wp2_with fail
    refine (prefix_any a _ f0 N D1 D2 LD1.out LD2.out qs w8 hf (by omega) Q8.out QC.out (HK.out.below B8.out h0)).mono ?_
    rintro e w9 ⟨rfl, b9⟩
    rw [TK.out]
    have B6 := hide (B8.out.trans (b9.mono B8.out.size))
    clear b9 Q8 B8
    go_wp2_with fail
    refine (known9_any w9 (HK.out.below B6.out h0)).mono ?_
    rintro e wk ⟨rfl, bk⟩
    have BK := hide (B6.out.trans (bk.mono B6.out.size))
    clear bk
    go_wp2_with fail
    go_ret
    exact ⟨rfl, BK.out⟩
end Go.Proofs.YtlbggkmblkhjoaaDoor
