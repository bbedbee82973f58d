/- VerifyEvery. -/
import Derived.Test.YtlbggkmblkhjoaaDoorWj
import Derived.Test.YtlbggkmblkhjoaaDoorOa
import Derived.Test.YtlbggkmblkhjoaaDoorMh
import Derived.Test.YtlbggkmblkhjoaaDoorWithin
namespace Go.Proofs.YtlbggkmblkhjoaaDoor
open Go.RowKit

set_option maxHeartbeats 16000000 in
set_option maxRecDepth 10000 in
theorem verifyEvery_walk (a kk : Int) (c : UInt8) (w : World) (h1 : -9223372036854775808 ≤ kk) (h2 : kk ≤ 9223372036854775807) (hK : KAt w) :
   Calls Tryd.prog 7 #[.int .i64 a, .int .i64 kk, .int .u8 (c.toNat : Int)] w fun e w' => e = .returned (.bool true) ∧ Below w.heap.size w w' := by
  have HK := hide hK
  have h0 := hK.pos
  clear hK
  go_enter Tryd.func7, Tryd.ntmps7
  go_wp2_with fail
  refine (within_any kk 24 w h1 h2 (by omega) (by omega)).mono ?_
  rintro e w0 ⟨rfl, rfl⟩
  have hkl := S.within_le kk 24 (by omega)
  obtain ⟨k0, hk0⟩ : ∃ k, k = S.within kk 24 := ⟨_, rfl⟩
  rw [← hk0] at hkl ⊢
  obtain ⟨n, hn⟩ : ∃ n, n = k0 + 1 := ⟨_, rfl⟩
  have q0 : IntKind.i64.wrap ((k0 : Int) + 1) = (n : Int) := by rw [IntKind.wrap_i64]; omega
  have hn25 : n ≤ 25 := by omega
  have hn1 : 1 ≤ n := by omega
  clear hk0 hkl hn
  go_wp2_with fail
  clear q0
  refine (list_any n c (by omega) w).mono ?_
  rintro e w1 ⟨vl, rfl, t1, b1⟩
  obtain ⟨L, hL⟩ : ∃ L, L = S.lst n c := ⟨_, rfl⟩
  rw [← hL] at t1
  have hN : L.length = n := by rw [hL, S.lst_length]
  have HF := hide (show Fit L by rw [hL]; exact S.lst_fit n c)
  obtain ⟨lo, lc, rfl⟩ := t1.form
  have V1 := hide t1.bsAt
  rw [hN] at V1 ⊢
  have HN := hide hN
  have B1 := hide b1
  clear t1 b1 hL hN
  go_wp2_with fail
  refine (root_any a _ L w1 V1.out (by rw [HN.out]; omega) HF.out (HK.out.below B1.out h0)).mono ?_
  rintro e w2 ⟨rfl, b2⟩
  obtain ⟨D, hD⟩ : ∃ D, D = S.root a L := ⟨_, rfl⟩
  have LD := hide (show D.length = 32 by rw [hD, S.root_length])
  rw [← hD]
  have ED := hide hD
  obtain ⟨AL, Y, hal, hst, ry, by1, sy⟩ := lay_dig w2 D LD.out
  obtain ⟨gr, hgr⟩ : ∃ g, g = w2.heap.size := ⟨_, rfl⟩
  rw [← hgr] at hal hst ry
  have b1Y : Below w1.heap.size w1 Y := b2.trans (by1.mono b2.size)
  have BY := hide (B1.out.trans (b1Y.mono B1.out.size))
  have RY := hide ry
  have VY := hide (V1.out.below b1Y (Nat.le_refl _))
  clear hD b2 by1 sy hgr ry b1Y V1 B1
  go_wp2_with (first | (with_reducible refine at_op { dst := some 8, op := Op.alloc 23, type := 0, pos := "law.go:119", after := #[], guard := none } ?_; refine wpList_alloc_known rfl 23 rfl (.pointer (some ⟨gr, 0, none⟩)) AL hal ?_) | (with_reducible refine at_op { dst := none, op := Op.store 23 (Operand.tmp 8) (Operand.tmp 22), type := 0, pos := "law.go:119", after := #[{ on := 3, ground := Ground.data }, { on := 2, ground := Ground.data }, { on := 2, ground := Ground.chain }, { on := 0, ground := Ground.phase }, { on := 1, ground := Ground.phase }, { on := 2, ground := Ground.phase }, { on := 3, ground := Ground.phase }], guard := none } ?_; refine wpList_store_as rfl 23 (.tmp 8) (.tmp 22) rfl (.pointer (some ⟨gr, 0, none⟩)) (.agg (S.v8 D)) rfl rfl Y hst ?_))
  clear hal hst
  go_loopg [9] n (fun gk s9 wr => ∃ k : Nat, k + gk = n ∧ s9 = .int .i64 (k : Int) ∧ Hid (Below Y.heap.size Y wr))
  case atStart => exact ⟨0, by omega, rfl, Below.refl _ _⟩
  case round =>
    obtain ⟨k, hk, rfl, hb⟩ := hrel
    have V3 := hide (VY.out.below hb.out (Nat.le_refl _))
    have R3 : Hid (wr.heap[gr]? = some (.cells (S.v8 D) 23 (0, 0))) := (hb.out.block _ (block_lt_of_row RY.out)).trans RY.out
    have B3 := hide (BY.out.trans (hb.out.mono BY.out.size))
    cases gk with
    | zero =>
      have qk : ¬ (k : Int) < (n : Int) := by omega
      go_wp2_with fail
      refine (known9_any wr (HK.out.below B3.out h0)).mono ?_
      rintro e wk ⟨rfl, bk⟩
      have BK := hide (B3.out.trans (bk.mono B3.out.size))
      clear bk
      go_wp2_with fail
      go_ret
      exact ⟨rfl, BK.out⟩
    | succ gO =>
      have hkn : k < n := by omega
      have qk : (k : Int) < (n : Int) := by omega
      have qk0 : (0 : Int) ≤ (k : Int) := by omega
      have qk1 : IntKind.i64.wrap ((k : Int) + 1) = ((k + 1 : Nat) : Int) := by rw [IntKind.wrap_i64]; omega
      have qk2 : IntKind.u64.wrap (k : Int) = (k : Int) := by rw [IntKind.wrap_u64]; omega
      have qk3 : IntKind.u64.wrap ((k + 1 : Nat) : Int) = ((k + 1 : Nat) : Int) := by rw [IntKind.wrap_u64]; omega
      have qn : IntKind.u64.wrap (n : Int) = (n : Int) := by rw [IntKind.wrap_u64]; omega
      obtain ⟨k1, hk1⟩ : ∃ k1, k1 = k + 1 := ⟨_, rfl⟩
      rw [← hk1] at qk1 qk3
      have HK1 := hide hk1
      clear hk1
      go_wp2_with fail
      refine (prove_any a L _ k wr (by omega) (by rw [HN.out]; omega) V3.out HF.out (HK.out.below B3.out h0)).mono ?_
      rintro e w4 ⟨⟨vp, rfl, p4⟩, b4⟩
      obtain ⟨po, pc, rfl⟩ := p4.form
      have P4 := hide (p4.dgAt (by have := S.prove_len a L k 6 (by rw [HN.out]; omega); omega) (S.prove_len32 a L k))
      have hpp : S.prove a L k = S.path a L k := by rw [S.prove, if_pos (by rw [HN.out]; exact hkn)]
      have hp0 : S.proveNo L k = 0 := by rw [S.proveNo, if_pos (by rw [HN.out]; exact hkn)]
      rw [hp0]
      obtain ⟨ps, hps⟩ : ∃ ps, ps = S.prove a L k := ⟨_, rfl⟩
      have PL := hide (show ps.length ≤ 90000 by rw [hps]; have := S.prove_len a L k 6 (by rw [HN.out]; omega); omega)
      have TK1 := hide (show S.vLeaf a (L.getD k []) k n ps D = true by rw [ED.out, hps, hpp, ← HN.out]; exact S.vLeaf_takes a L k (by rw [HN.out]; omega) (by rw [HN.out]; exact hkn))
      rw [← hps] at P4
      rw [← hps]
      have V4 := hide (V3.out.below b4 (Nat.le_refl _))
      have R4 : Hid (w4.heap[gr]? = some (.cells (S.v8 D) 23 (0, 0))) := (b4.block _ (block_lt_of_row R3.out)).trans R3.out
      have BB4 := hide (hb.out.trans (b4.mono hb.out.size))
      obtain ⟨pm, hpm⟩ : ∃ pm, pm = ps.length := ⟨_, rfl⟩
      rw [← hpm] at P4 ⊢
      clear p4 b4 hps hpm hpp hp0 V3 B3 R3 hb
      have B4 := hide (BY.out.trans (BB4.out.mono BY.out.size))
      go_wp2_with fail
      refine (compare_any a L _ k1 w4 (by have := HK1.out; omega) (by rw [HN.out]; omega) V4.out HF.out (HK.out.below B4.out h0)).mono ?_
      rintro e w5 ⟨⟨vq, rfl, p5⟩, b5⟩
      have QC := hide p5.cap
      obtain ⟨qo, qc, rfl⟩ := p5.form
      have Q5 := hide (p5.dgAt (by have := S.comp_len a L k1 6 (by rw [HN.out]; omega); omega) (S.comp_len32 a L k1))
      have hpp : S.comp_ a L k1 = S.grow a L k1 true := by rw [S.comp_, if_neg (by rw [HN.out]; have := HK1.out; omega)]
      have hp0 : S.compNo L k1 = 0 := by rw [S.compNo, if_neg (by rw [HN.out]; have := HK1.out; omega)]
      rw [hp0]
      obtain ⟨qs, hqs⟩ : ∃ qs, qs = S.comp_ a L k1 := ⟨_, rfl⟩
      have TK2 := hide (show S.vPre a k1 n (S.root a (L.take k1)) D qs = true by rw [ED.out, hqs, hpp, ← HN.out]; exact S.vPre_takes a L k1 (by rw [HN.out]; omega) (by have := HK1.out; omega) (by rw [HN.out]; have := HK1.out; omega))
      rw [← hqs] at Q5 QC
      rw [← hqs]
      have V5 := hide (V4.out.below b5 (Nat.le_refl _))
      have P5 := hide (P4.out.below b5)
      have R5 : Hid (w5.heap[gr]? = some (.cells (S.v8 D) 23 (0, 0))) := (b5.block _ (block_lt_of_row R4.out)).trans R4.out
      have BB5 := hide (BB4.out.trans (b5.mono BB4.out.size))
      have B5 := hide (BY.out.trans (BB5.out.mono BY.out.size))
      obtain ⟨qm, hqm⟩ : ∃ qm, qm = qs.length := ⟨_, rfl⟩
      rw [← hqm] at Q5 QC ⊢
      obtain ⟨bl, offl, cl, e9, e9', e9b, hcl⟩ := V5.out.src (by rw [HN.out]; omega)
      simp only [Value.slice.injEq] at e9
      obtain ⟨rfl, e9n, rfl⟩ := e9
      obtain ⟨x, hx, hxs⟩ := hcl k (by rw [HN.out]; exact hkn)
      obtain ⟨xo, xl, xc, rfl, hxl, hxm⟩ := hxs.form
      have CX := hide hx
      have XS := hide hxs
      have HBLT := hide e9b
      have HFX := hide (HF.out.at k (by rw [HN.out]; exact hkn))
      have VT := hide (V5.out.take k1 (by rw [HN.out]; have := HK1.out; omega))
      have q3 : (0 : Int) ≤ (k1 : Int) := by omega
      have q4 : (n : Int) ≤ (lc : Int) := by have := HN.out; omega
      have q5 : (k1 : Int) ≤ (lc : Int) := by have := HN.out; have := HK1.out; omega
      have q6 : (k1 : Int) ≤ (n : Int) := by have := HK1.out; omega
      have hsz := size_dig D LD.out
      clear p5 b5 hqs hqm hpp hp0 V4 P4 R4 BB4 B4 e9n e9' e9b hcl hx hxs hxl hxm
      go_wp2_with fail
      refine wp_region_noPanic ?_
      refine wp_region_held_drew (S := (fun W => Chg (fun _ => False) w5 W)) follows ((Chg.refl _ _).drew) (fun hHeld => ?_)
      clear hHeld
      have hHeld : Chg (fun _ => False) w5 w5.drew := (Chg.refl _ _).drew
      have CZ0 := hide hHeld
      generalize w5.drew = Z0 at CZ0 hHeld ⊢
      refine wpAnyH_take (i := 0) (oi := { dst := some 45, op := Op.move (Operand.tmp 11), type := 49, pos := "law.go:123", after := #[], guard := none }) (v := ?_) rfl (by kernel_rfl) (by kernel_rfl) (by kernel_rfl) (fun _ _ _ h => h) (Or.inl ⟨by rfl, ?_⟩) (by assumption) ?_
      rotate_left
      · intro w hSw
        clear hSw
        go_simp
        all_goals with_reducible rfl
      simp only [Act.put, List.setIfInBounds_toArray, List.set_cons_zero, List.set_cons_succ]
      refine wpAnyH_take (i := 1) (oi := { dst := some 46, op := Op.binOp BinOp.neq 49 (Operand.tmp 45) (Operand.const (Value.int IntKind.i64 0)) 49, type := 4, pos := "law.go:123", after := #[{ on := 0, ground := Ground.data }], guard := none }) (v := ?_) rfl (by kernel_rfl) (by kernel_rfl) (by kernel_rfl) (fun _ _ _ h => h) (Or.inl ⟨by rfl, ?_⟩) (by assumption) ?_
      rotate_left
      · intro w hSw
        clear hSw
        go_simp
        all_goals with_reducible rfl
      simp only [Act.put, List.setIfInBounds_toArray, List.set_cons_zero, List.set_cons_succ]
      refine wpAnyH_take (i := 2) (oi := { dst := some 47, op := Op.move (Operand.tmp 46), type := 4, pos := "law.go:123", after := #[{ on := 1, ground := Ground.data }], guard := none }) (v := ?_) rfl (by kernel_rfl) (by kernel_rfl) (by kernel_rfl) (fun _ _ _ h => h) (Or.inl ⟨by rfl, ?_⟩) (by assumption) ?_
      rotate_left
      · intro w hSw
        clear hSw
        go_simp
        all_goals with_reducible rfl
      simp only [Act.put, List.setIfInBounds_toArray, List.set_cons_zero, List.set_cons_succ]
      refine wpAnyH_take (i := 3) (oi := { dst := some 48, op := Op.move (Operand.tmp 13), type := 49, pos := "law.go:123", after := #[{ on := 2, ground := Ground.guard }], guard := some (2, false) }) (v := ?_) rfl (by kernel_rfl) (by kernel_rfl) (by kernel_rfl) (fun _ _ _ h => h) (Or.inl ⟨by rfl, ?_⟩) (by assumption) ?_
      rotate_left
      · intro w hSw
        clear hSw
        go_simp
        all_goals with_reducible rfl
      simp only [Act.put, List.setIfInBounds_toArray, List.set_cons_zero, List.set_cons_succ]
      refine wpAnyH_take (i := 4) (oi := { dst := some 49, op := Op.binOp BinOp.neq 49 (Operand.tmp 48) (Operand.const (Value.int IntKind.i64 0)) 49, type := 4, pos := "law.go:123", after := #[{ on := 3, ground := Ground.data }, { on := 2, ground := Ground.guard }], guard := some (2, false) }) (v := ?_) rfl (by kernel_rfl) (by kernel_rfl) (by kernel_rfl) (fun _ _ _ h => h) (Or.inl ⟨by rfl, ?_⟩) (by assumption) ?_
      rotate_left
      · intro w hSw
        clear hSw
        go_simp
        all_goals with_reducible rfl
      simp only [Act.put, List.setIfInBounds_toArray, List.set_cons_zero, List.set_cons_succ]
      refine wpAnyH_take (i := 5) (oi := { dst := some 50, op := Op.pick (Operand.tmp 47) (Operand.const (Value.bool true)) (Operand.tmp 49), type := 4, pos := "law.go:123", after := #[{ on := 2, ground := Ground.data }, { on := 4, ground := Ground.data }], guard := none }) (v := ?_) rfl (by kernel_rfl) (by kernel_rfl) (by kernel_rfl) (fun _ _ _ h => h) (Or.inl ⟨by rfl, ?_⟩) (by assumption) ?_
      rotate_left
      · intro w hSw
        clear hSw
        go_simp
        all_goals with_reducible rfl
      simp only [Act.put, List.setIfInBounds_toArray, List.set_cons_zero, List.set_cons_succ]
      refine wpAnyH_take (i := 6) (oi := { dst := some 51, op := Op.move (Operand.tmp 50), type := 4, pos := "law.go:123", after := #[{ on := 5, ground := Ground.data }, { on := 2, ground := Ground.chain }], guard := none }) (v := ?_) rfl (by kernel_rfl) (by kernel_rfl) (by kernel_rfl) (fun _ _ _ h => h) (Or.inl ⟨by rfl, ?_⟩) (by assumption) ?_
      rotate_left
      · intro w hSw
        clear hSw
        go_simp
        all_goals with_reducible rfl
      simp only [Act.put, List.setIfInBounds_toArray, List.set_cons_zero, List.set_cons_succ]
      refine wpAnyH_take (i := 7) (oi := { dst := some 52, op := Op.move (Operand.tmp 0), type := 3, pos := "law.go:123", after := #[{ on := 6, ground := Ground.guard }], guard := some (6, false) }) (v := ?_) rfl (by kernel_rfl) (by kernel_rfl) (by kernel_rfl) (fun _ _ _ h => h) (Or.inl ⟨by rfl, ?_⟩) (by assumption) ?_
      rotate_left
      · intro w hSw
        clear hSw
        go_simp
        all_goals with_reducible rfl
      simp only [Act.put, List.setIfInBounds_toArray, List.set_cons_zero, List.set_cons_succ]
      refine wpAnyH_take (i := 8) (oi := { dst := some 53, op := Op.move (Operand.tmp 7), type := 41, pos := "law.go:123", after := #[{ on := 6, ground := Ground.guard }], guard := some (6, false) }) (v := ?_) rfl (by kernel_rfl) (by kernel_rfl) (by kernel_rfl) (fun _ _ _ h => h) (Or.inl ⟨by rfl, ?_⟩) (by assumption) ?_
      rotate_left
      · intro w hSw
        clear hSw
        go_simp
        all_goals with_reducible rfl
      simp only [Act.put, List.setIfInBounds_toArray, List.set_cons_zero, List.set_cons_succ]
      refine wpAnyH_take (i := 9) (oi := { dst := some 54, op := Op.move (Operand.tmp 9), type := 3, pos := "law.go:123", after := #[{ on := 6, ground := Ground.guard }], guard := some (6, false) }) (v := ?_) rfl (by kernel_rfl) (by kernel_rfl) (by kernel_rfl) (fun _ _ _ h => h) (Or.inl ⟨by rfl, ?_⟩) (by assumption) ?_
      rotate_left
      · intro w hSw
        clear hSw
        go_simp
        all_goals with_reducible rfl
      simp only [Act.put, List.setIfInBounds_toArray, List.set_cons_zero, List.set_cons_succ]
      refine wpAnyH_take (i := 10) (oi := { dst := some 55, op := Op.indexAddr 41 (Operand.tmp 53) (Operand.tmp 54), type := 0, pos := "law.go:123", after := #[{ on := 8, ground := Ground.data }, { on := 9, ground := Ground.data }, { on := 6, ground := Ground.guard }], guard := some (6, false) }) (v := ?_) rfl (by kernel_rfl) (by kernel_rfl) (by kernel_rfl) (fun _ _ _ h => h) (Or.inl ⟨by rfl, ?_⟩) (by assumption) ?_
      rotate_left
      · intro w hSw
        clear hSw
        go_simp
        all_goals with_reducible rfl
      simp only [Act.put, List.setIfInBounds_toArray, List.set_cons_zero, List.set_cons_succ]
      refine wpAnyH_take (i := 11) (oi := { dst := some 56, op := Op.load 25 (Operand.tmp 55), type := 25, pos := "law.go:123", after := #[{ on := 10, ground := Ground.data }, { on := 6, ground := Ground.guard }], guard := some (6, false) }) (v := ?_) rfl (by kernel_rfl) (by kernel_rfl) (by kernel_rfl) (fun _ _ _ h => h) (Or.inl ⟨by rfl, ?_⟩) (by assumption) ?_
      rotate_left
      · intro w hSw
        have c4 := ((hSw.below _ (Nat.le_refl _) (fun _ _ e => e)).cell (p := ⟨bl, offl + k, none⟩) HBLT.out).trans CX.out
        clear hSw
        go_simp
        all_goals with_reducible rfl
      simp only [Act.put, List.setIfInBounds_toArray, List.set_cons_zero, List.set_cons_succ]
      refine wpAnyH_take (i := 12) (oi := { dst := some 57, op := Op.move (Operand.tmp 9), type := 3, pos := "law.go:123", after := #[{ on := 6, ground := Ground.guard }], guard := some (6, false) }) (v := ?_) rfl (by kernel_rfl) (by kernel_rfl) (by kernel_rfl) (fun _ _ _ h => h) (Or.inl ⟨by rfl, ?_⟩) (by assumption) ?_
      rotate_left
      · intro w hSw
        clear hSw
        go_simp
        all_goals with_reducible rfl
      simp only [Act.put, List.setIfInBounds_toArray, List.set_cons_zero, List.set_cons_succ]
      refine wpAnyH_take (i := 13) (oi := { dst := some 58, op := Op.convert 3 28 (Operand.tmp 57), type := 28, pos := "law.go:123", after := #[{ on := 12, ground := Ground.data }, { on := 6, ground := Ground.guard }], guard := some (6, false) }) (v := ?_) rfl (by kernel_rfl) (by kernel_rfl) (by kernel_rfl) (fun _ _ _ h => h) (Or.inl ⟨by rfl, ?_⟩) (by assumption) ?_
      rotate_left
      · intro w hSw
        clear hSw
        go_simp
        all_goals with_reducible rfl
      simp only [Act.put, List.setIfInBounds_toArray, List.set_cons_zero, List.set_cons_succ]
      refine wpAnyH_take (i := 14) (oi := { dst := some 59, op := Op.move (Operand.tmp 1), type := 3, pos := "law.go:123", after := #[{ on := 6, ground := Ground.guard }], guard := some (6, false) }) (v := ?_) rfl (by kernel_rfl) (by kernel_rfl) (by kernel_rfl) (fun _ _ _ h => h) (Or.inl ⟨by rfl, ?_⟩) (by assumption) ?_
      rotate_left
      · intro w hSw
        clear hSw
        go_simp
        all_goals with_reducible rfl
      simp only [Act.put, List.setIfInBounds_toArray, List.set_cons_zero, List.set_cons_succ]
      refine wpAnyH_take (i := 15) (oi := { dst := some 60, op := Op.convert 3 28 (Operand.tmp 59), type := 28, pos := "law.go:123", after := #[{ on := 14, ground := Ground.data }, { on := 6, ground := Ground.guard }], guard := some (6, false) }) (v := ?_) rfl (by kernel_rfl) (by kernel_rfl) (by kernel_rfl) (fun _ _ _ h => h) (Or.inl ⟨by rfl, ?_⟩) (by assumption) ?_
      rotate_left
      · intro w hSw
        clear hSw
        go_simp
        all_goals with_reducible rfl
      simp only [Act.put, List.setIfInBounds_toArray, List.set_cons_zero, List.set_cons_succ]
      refine wpAnyH_take (i := 16) (oi := { dst := some 61, op := Op.move (Operand.tmp 10), type := 32, pos := "law.go:123", after := #[{ on := 6, ground := Ground.guard }], guard := some (6, false) }) (v := ?_) rfl (by kernel_rfl) (by kernel_rfl) (by kernel_rfl) (fun _ _ _ h => h) (Or.inl ⟨by rfl, ?_⟩) (by assumption) ?_
      rotate_left
      · intro w hSw
        clear hSw
        go_simp
        all_goals with_reducible rfl
      simp only [Act.put, List.setIfInBounds_toArray, List.set_cons_zero, List.set_cons_succ]
      refine wpAnyH_take (i := 17) (oi := { dst := some 62, op := Op.load 23 (Operand.tmp 8), type := 23, pos := "law.go:123", after := #[{ on := 6, ground := Ground.guard }], guard := some (6, false) }) (v := .agg (S.v8l D).toArray) rfl (by kernel_rfl) (by kernel_rfl) (by kernel_rfl) (fun _ _ _ h => h) (yieldsIf_load_mid (by rfl) _ _ rfl gr 0 rfl (S.v8l D) _ (fun _ hSw => rangeAt_row (hSw.row R5.out (fun e => e))) Tryd.underlying23 rfl hsz) (by assumption) ?_
      simp only [Act.put, List.setIfInBounds_toArray, List.set_cons_zero, List.set_cons_succ]
      refine wpAnyH_ready (rs := [18]) (by kernel_rfl) (by simp) ?_
      refine AllReadyH.cons (o := { dst := some 63, op := Op.call { callee := Callee.value (Operand.func 11), args := #[Operand.tmp 52, Operand.tmp 56, Operand.tmp 58, Operand.tmp 60, Operand.tmp 61, Operand.tmp 62], argTypes := #[3, 25, 28, 28, 32, 23] }, type := 4, pos := "law.go:123", after := #[{ on := 7, ground := Ground.data }, { on := 11, ground := Ground.data }, { on := 13, ground := Ground.data }, { on := 15, ground := Ground.data }, { on := 16, ground := Ground.data }, { on := 17, ground := Ground.data }, { on := 6, ground := Ground.chain }, { on := 6, ground := Ground.guard }], guard := some (6, false) }) rfl (fun K hK => ?_) AllReadyH.nil
      go_simp
      refine (leafv_any a _ _ (L.getD k []) k n ps D LD.out Z0 (by omega) (by omega) (XS.out.below (CZ0.out.below _ (Nat.le_refl _) (fun _ _ e => e)) (Nat.le_refl _)) (by have := HFX.out; omega) (P5.out.below (CZ0.out.below _ (Nat.le_refl _) (fun _ _ e => e))) PL.out (HK.out.below (B5.out.trans (CZ0.out.below w.heap.size B5.out.size (fun k hk e => e))) h0)).mono ?_
      rintro e Z1 ⟨rfl, hb2⟩
      rw [TK1.out]
      have CZ1 : Hid (Chg (fun _ => False) w5 Z1) := CZ0.out.then hb2
      clear hb2 CZ0
      clear hHeld
      refine hK.out _ _ CZ1.out (fun hHeld => ?_)
      clear hK K
      try simp only [Act.put, List.setIfInBounds_toArray, List.set_cons_zero, List.set_cons_succ]
      refine wpAnyH_take (i := 19) (oi := { dst := some 64, op := Op.unOp UnOp.not 4 (Operand.tmp 63), type := 4, pos := "law.go:123", after := #[{ on := 18, ground := Ground.data }, { on := 6, ground := Ground.guard }], guard := some (6, false) }) (v := ?_) rfl (by kernel_rfl) (by kernel_rfl) (by kernel_rfl) (fun _ _ _ h => h) (Or.inl ⟨by rfl, ?_⟩) (by assumption) ?_
      rotate_left
      · intro w hSw
        clear hSw
        go_simp
        all_goals with_reducible rfl
      simp only [Act.put, List.setIfInBounds_toArray, List.set_cons_zero, List.set_cons_succ]
      refine wpAnyH_take (i := 20) (oi := { dst := some 65, op := Op.pick (Operand.tmp 51) (Operand.const (Value.bool true)) (Operand.tmp 64), type := 4, pos := "law.go:123", after := #[{ on := 6, ground := Ground.data }, { on := 19, ground := Ground.data }], guard := none }) (v := ?_) rfl (by kernel_rfl) (by kernel_rfl) (by kernel_rfl) (fun _ _ _ h => h) (Or.inl ⟨by rfl, ?_⟩) (by assumption) ?_
      rotate_left
      · intro w hSw
        clear hSw
        go_simp
        all_goals with_reducible rfl
      simp only [Act.put, List.setIfInBounds_toArray, List.set_cons_zero, List.set_cons_succ]
      refine wpAnyH_take (i := 21) (oi := { dst := some 66, op := Op.move (Operand.tmp 65), type := 4, pos := "law.go:123", after := #[{ on := 20, ground := Ground.data }, { on := 18, ground := Ground.chain }], guard := none }) (v := ?_) rfl (by kernel_rfl) (by kernel_rfl) (by kernel_rfl) (fun _ _ _ h => h) (Or.inl ⟨by rfl, ?_⟩) (by assumption) ?_
      rotate_left
      · intro w hSw
        clear hSw
        go_simp
        all_goals with_reducible rfl
      simp only [Act.put, List.setIfInBounds_toArray, List.set_cons_zero, List.set_cons_succ]
      refine wpAnyH_take (i := 22) (oi := { dst := some 67, op := Op.move (Operand.tmp 0), type := 3, pos := "law.go:123", after := #[{ on := 21, ground := Ground.guard }], guard := some (21, false) }) (v := ?_) rfl (by kernel_rfl) (by kernel_rfl) (by kernel_rfl) (fun _ _ _ h => h) (Or.inl ⟨by rfl, ?_⟩) (by assumption) ?_
      rotate_left
      · intro w hSw
        clear hSw
        go_simp
        all_goals with_reducible rfl
      simp only [Act.put, List.setIfInBounds_toArray, List.set_cons_zero, List.set_cons_succ]
      refine wpAnyH_take (i := 23) (oi := { dst := some 68, op := Op.move (Operand.tmp 9), type := 3, pos := "law.go:123", after := #[{ on := 21, ground := Ground.guard }], guard := some (21, false) }) (v := ?_) rfl (by kernel_rfl) (by kernel_rfl) (by kernel_rfl) (fun _ _ _ h => h) (Or.inl ⟨by rfl, ?_⟩) (by assumption) ?_
      rotate_left
      · intro w hSw
        clear hSw
        go_simp
        all_goals with_reducible rfl
      simp only [Act.put, List.setIfInBounds_toArray, List.set_cons_zero, List.set_cons_succ]
      refine wpAnyH_take (i := 24) (oi := { dst := some 69, op := Op.binOp BinOp.add 3 (Operand.tmp 68) (Operand.const (Value.int IntKind.i64 1)) 3, type := 3, pos := "law.go:123", after := #[{ on := 23, ground := Ground.data }, { on := 21, ground := Ground.guard }], guard := some (21, false) }) (v := ?_) rfl (by kernel_rfl) (by kernel_rfl) (by kernel_rfl) (fun _ _ _ h => h) (Or.inl ⟨by rfl, ?_⟩) (by assumption) ?_
      rotate_left
      · intro w hSw
        clear hSw
        go_simp
        all_goals with_reducible rfl
      simp only [Act.put, List.setIfInBounds_toArray, List.set_cons_zero, List.set_cons_succ]
      refine wpAnyH_take (i := 25) (oi := { dst := some 70, op := Op.convert 3 28 (Operand.tmp 69), type := 28, pos := "law.go:123", after := #[{ on := 24, ground := Ground.data }, { on := 21, ground := Ground.guard }], guard := some (21, false) }) (v := ?_) rfl (by kernel_rfl) (by kernel_rfl) (by kernel_rfl) (fun _ _ _ h => h) (Or.inl ⟨by rfl, ?_⟩) (by assumption) ?_
      rotate_left
      · intro w hSw
        clear hSw
        go_simp
        all_goals with_reducible rfl
      simp only [Act.put, List.setIfInBounds_toArray, List.set_cons_zero, List.set_cons_succ]
      refine wpAnyH_take (i := 26) (oi := { dst := some 71, op := Op.move (Operand.tmp 1), type := 3, pos := "law.go:123", after := #[{ on := 21, ground := Ground.guard }], guard := some (21, false) }) (v := ?_) rfl (by kernel_rfl) (by kernel_rfl) (by kernel_rfl) (fun _ _ _ h => h) (Or.inl ⟨by rfl, ?_⟩) (by assumption) ?_
      rotate_left
      · intro w hSw
        clear hSw
        go_simp
        all_goals with_reducible rfl
      simp only [Act.put, List.setIfInBounds_toArray, List.set_cons_zero, List.set_cons_succ]
      refine wpAnyH_take (i := 27) (oi := { dst := some 72, op := Op.convert 3 28 (Operand.tmp 71), type := 28, pos := "law.go:123", after := #[{ on := 26, ground := Ground.data }, { on := 21, ground := Ground.guard }], guard := some (21, false) }) (v := ?_) rfl (by kernel_rfl) (by kernel_rfl) (by kernel_rfl) (fun _ _ _ h => h) (Or.inl ⟨by rfl, ?_⟩) (by assumption) ?_
      rotate_left
      · intro w hSw
        clear hSw
        go_simp
        all_goals with_reducible rfl
      simp only [Act.put, List.setIfInBounds_toArray, List.set_cons_zero, List.set_cons_succ]
      refine wpAnyH_take (i := 28) (oi := { dst := some 73, op := Op.move (Operand.tmp 0), type := 3, pos := "law.go:123", after := #[{ on := 21, ground := Ground.guard }], guard := some (21, false) }) (v := ?_) rfl (by kernel_rfl) (by kernel_rfl) (by kernel_rfl) (fun _ _ _ h => h) (Or.inl ⟨by rfl, ?_⟩) (by assumption) ?_
      rotate_left
      · intro w hSw
        clear hSw
        go_simp
        all_goals with_reducible rfl
      simp only [Act.put, List.setIfInBounds_toArray, List.set_cons_zero, List.set_cons_succ]
      refine wpAnyH_take (i := 29) (oi := { dst := some 74, op := Op.move (Operand.tmp 7), type := 41, pos := "law.go:123", after := #[{ on := 21, ground := Ground.guard }], guard := some (21, false) }) (v := ?_) rfl (by kernel_rfl) (by kernel_rfl) (by kernel_rfl) (fun _ _ _ h => h) (Or.inl ⟨by rfl, ?_⟩) (by assumption) ?_
      rotate_left
      · intro w hSw
        clear hSw
        go_simp
        all_goals with_reducible rfl
      simp only [Act.put, List.setIfInBounds_toArray, List.set_cons_zero, List.set_cons_succ]
      refine wpAnyH_take (i := 30) (oi := { dst := some 75, op := Op.move (Operand.tmp 9), type := 3, pos := "law.go:123", after := #[{ on := 21, ground := Ground.guard }], guard := some (21, false) }) (v := ?_) rfl (by kernel_rfl) (by kernel_rfl) (by kernel_rfl) (fun _ _ _ h => h) (Or.inl ⟨by rfl, ?_⟩) (by assumption) ?_
      rotate_left
      · intro w hSw
        clear hSw
        go_simp
        all_goals with_reducible rfl
      simp only [Act.put, List.setIfInBounds_toArray, List.set_cons_zero, List.set_cons_succ]
      refine wpAnyH_take (i := 31) (oi := { dst := some 76, op := Op.binOp BinOp.add 3 (Operand.tmp 75) (Operand.const (Value.int IntKind.i64 1)) 3, type := 3, pos := "law.go:123", after := #[{ on := 30, ground := Ground.data }, { on := 21, ground := Ground.guard }], guard := some (21, false) }) (v := ?_) rfl (by kernel_rfl) (by kernel_rfl) (by kernel_rfl) (fun _ _ _ h => h) (Or.inl ⟨by rfl, ?_⟩) (by assumption) ?_
      rotate_left
      · intro w hSw
        clear hSw
        go_simp
        all_goals with_reducible rfl
      simp only [Act.put, List.setIfInBounds_toArray, List.set_cons_zero, List.set_cons_succ]
      refine wpAnyH_take (i := 32) (oi := { dst := some 77, op := Op.slice 41 (Operand.tmp 74) none (some (Operand.tmp 76)) none, type := 41, pos := "law.go:123", after := #[{ on := 29, ground := Ground.data }, { on := 31, ground := Ground.data }, { on := 21, ground := Ground.guard }], guard := some (21, false) }) (v := ?_) rfl (by kernel_rfl) (by kernel_rfl) (by kernel_rfl) (fun _ _ _ h => h) (Or.inl ⟨by rfl, ?_⟩) (by assumption) ?_
      rotate_left
      · intro w hSw
        clear hSw
        go_simp
        all_goals with_reducible rfl
      simp only [Act.put, List.setIfInBounds_toArray, List.set_cons_zero, List.set_cons_succ]
      refine wpAnyH_take (i := 34) (oi := { dst := some 79, op := Op.load 23 (Operand.tmp 8), type := 23, pos := "law.go:123", after := #[{ on := 21, ground := Ground.guard }], guard := some (21, false) }) (v := .agg (S.v8l D).toArray) rfl (by kernel_rfl) (by kernel_rfl) (by kernel_rfl) (fun _ _ _ h => h) (yieldsIf_load_mid (by rfl) _ _ rfl gr 0 rfl (S.v8l D) _ (fun _ hSw => rangeAt_row (hSw.row R5.out (fun e => e))) Tryd.underlying23 rfl hsz) (by assumption) ?_
      simp only [Act.put, List.setIfInBounds_toArray, List.set_cons_zero, List.set_cons_succ]
      refine wpAnyH_take (i := 35) (oi := { dst := some 80, op := Op.move (Operand.tmp 12), type := 32, pos := "law.go:123", after := #[{ on := 21, ground := Ground.guard }], guard := some (21, false) }) (v := ?_) rfl (by kernel_rfl) (by kernel_rfl) (by kernel_rfl) (fun _ _ _ h => h) (Or.inl ⟨by rfl, ?_⟩) (by assumption) ?_
      rotate_left
      · intro w hSw
        clear hSw
        go_simp
        all_goals with_reducible rfl
      simp only [Act.put, List.setIfInBounds_toArray, List.set_cons_zero, List.set_cons_succ]
      refine wpAnyH_ready (rs := [33]) (by kernel_rfl) (by simp) ?_
      refine AllReadyH.cons (o := { dst := some 78, op := Op.call { callee := Callee.value (Operand.func 27), args := #[Operand.tmp 73, Operand.tmp 77], argTypes := #[3, 41] }, type := 23, pos := "law.go:123", after := #[{ on := 28, ground := Ground.data }, { on := 32, ground := Ground.data }, { on := 21, ground := Ground.chain }, { on := 21, ground := Ground.guard }], guard := some (21, false) }) rfl (fun K hK => ?_) AllReadyH.nil
      go_simp
      refine (root_any a _ (L.take k1) Z1 (VT.out.below (CZ1.out.below _ (Nat.le_refl _) (fun _ _ e => e)) (Nat.le_refl _)) (by rw [List.length_take, HN.out]; omega) (HF.out.take k1) (HK.out.below (B5.out.trans (CZ1.out.below w.heap.size B5.out.size (fun k hk e => e))) h0)).mono ?_
      rintro e Z2 ⟨rfl, hb2⟩
      obtain ⟨D2, hD2⟩ : ∃ D, D = S.root a (L.take k1) := ⟨_, rfl⟩
      have LD2 := hide (show D2.length = 32 by rw [hD2, S.root_length])
      rw [← hD2] at TK2 ⊢
      clear hD2
      have CZ2 : Hid (Chg (fun _ => False) w5 Z2) := CZ1.out.then hb2
      clear hb2 CZ1
      clear hHeld
      refine hK.out _ _ CZ2.out (fun hHeld => ?_)
      clear hK K
      try simp only [Act.put, List.setIfInBounds_toArray, List.set_cons_zero, List.set_cons_succ]
      refine wpAnyH_ready (rs := [36]) (by kernel_rfl) (by simp) ?_
      refine AllReadyH.cons (o := { dst := some 81, op := Op.call { callee := Callee.value (Operand.func 12), args := #[Operand.tmp 67, Operand.tmp 70, Operand.tmp 72, Operand.tmp 78, Operand.tmp 79, Operand.tmp 80], argTypes := #[3, 28, 28, 23, 23, 32] }, type := 4, pos := "law.go:123", after := #[{ on := 22, ground := Ground.data }, { on := 25, ground := Ground.data }, { on := 27, ground := Ground.data }, { on := 33, ground := Ground.data }, { on := 34, ground := Ground.data }, { on := 35, ground := Ground.data }, { on := 33, ground := Ground.chain }, { on := 21, ground := Ground.guard }], guard := some (21, false) }) rfl (fun K hK => ?_) AllReadyH.nil
      go_simp
      refine (prefix_any a _ k1 n D2 D LD2.out LD.out qs Z2 (by have := HK1.out; omega) (by omega) (Q5.out.below (CZ2.out.below _ (Nat.le_refl _) (fun _ _ e => e))) QC.out (HK.out.below (B5.out.trans (CZ2.out.below w.heap.size B5.out.size (fun k hk e => e))) h0)).mono ?_
      rintro e Z3 ⟨rfl, hb2⟩
      rw [TK2.out]
      have CZ3 : Hid (Chg (fun _ => False) w5 Z3) := CZ2.out.then hb2
      clear hb2 CZ2
      clear hHeld
      refine hK.out _ _ CZ3.out (fun hHeld => ?_)
      clear hK K
      try simp only [Act.put, List.setIfInBounds_toArray, List.set_cons_zero, List.set_cons_succ]
      refine wpAnyH_take (i := 37) (oi := { dst := some 82, op := Op.unOp UnOp.not 4 (Operand.tmp 81), type := 4, pos := "law.go:123", after := #[{ on := 36, ground := Ground.data }, { on := 21, ground := Ground.guard }], guard := some (21, false) }) (v := ?_) rfl (by kernel_rfl) (by kernel_rfl) (by kernel_rfl) (fun _ _ _ h => h) (Or.inl ⟨by rfl, ?_⟩) (by assumption) ?_
      rotate_left
      · intro w hSw
        clear hSw
        go_simp
        all_goals with_reducible rfl
      simp only [Act.put, List.setIfInBounds_toArray, List.set_cons_zero, List.set_cons_succ]
      refine wpAnyH_take (i := 38) (oi := { dst := some 83, op := Op.pick (Operand.tmp 66) (Operand.const (Value.bool true)) (Operand.tmp 82), type := 4, pos := "law.go:123", after := #[{ on := 21, ground := Ground.data }, { on := 37, ground := Ground.data }], guard := none }) (v := ?_) rfl (by kernel_rfl) (by kernel_rfl) (by kernel_rfl) (fun _ _ _ h => h) (Or.inl ⟨by rfl, ?_⟩) (by assumption) ?_
      rotate_left
      · intro w hSw
        clear hSw
        go_simp
        all_goals with_reducible rfl
      simp only [Act.put, List.setIfInBounds_toArray, List.set_cons_zero, List.set_cons_succ]
      refine wpAnyH_done (by kernel_rfl) ?_ _
      refine NoPanic.normal ?_
      clear hHeld
      have BF := hide (BB5.out.trans ((CZ3.out.below _ (Nat.le_refl _) (fun _ _ e => e)).mono BB5.out.size))
      go_wp2_with fail
      go_roundg gO
      case measure => omega
      case rel => exact ⟨k + 1, by omega, by rw [HK1.out], BF⟩
end Go.Proofs.YtlbggkmblkhjoaaDoor
