/- MerkleRoots. -/
import Derived.Test.YtmhmebblmgfgaaaDoorOa
import Derived.Test.YtmhmebblmgfgaaaDoorNd
import Derived.Test.YtmhmebblmgfgaaaDoorMj
import Derived.Test.YtmhmebblmgfgaaaDoorOe
namespace Go.Proofs.YtmhmebblmgfgaaaDoor
open Go.RowKit

theorem S.few_few (bss : List (List UInt8)) (n m : Nat) : S.few (S.few bss n m) n m = S.few bss n m := by
  unfold S.few
  rw [← List.map_take, List.take_take, Nat.min_self, List.map_map]
  congr 1
  funext x
  simp [List.take_take]
theorem S.few_fit (bss : List (List UInt8)) (n m : Nat) (hm : m ≤ 100000) : Fit (S.few bss n m) := fun b hb => by
  have := S.few_mem bss n m b hb
  omega
theorem mark_at {w : World} {x : UInt8} {c : Int} {r : Nat × Nat} (hc : c = (x.toNat : Int)) : ∀ W, Below (w.heap.size + 1) (w.alloc (.cells #[.int .u8 c] 5 r)) W → SliceAt W (.slice (some ⟨w.heap.size, 0, none⟩) 1 1) [x] := fun W hW => by
  refine Or.inr (Or.inr ⟨w.heap.size, 0, 1, rfl, by simp, by simp, Nat.lt_of_lt_of_le (by simp) hW.size, fun j hj => ?_⟩)
  rw [hW.cell (p := ⟨w.heap.size, 0 + j, none⟩) (by show w.heap.size < _; omega)]
  obtain rfl : j = 0 := by simp at hj; exact hj
  rw [World.cell?_alloc_mark, hc]
  rfl
set_option maxHeartbeats 16000000 in
set_option maxRecDepth 10000 in
theorem merkleRoots_walk (a : Int) (v : Value) (bss : List (List UInt8)) (i0 f0 : Nat) (w : World) (hv : BsAt w v bss) (hmax : bss.length ≤ 140737488355328) (hi : i0 < 18446744073709551616) (hf : f0 < 18446744073709551616) (hK : KAt w) :
   Calls Tryd.prog 4 #[.int .i64 a, v, .int .u64 (i0 : Int), .int .u64 (f0 : Int)] w fun e w' => e = .returned (.bool true) ∧ Below w.heap.size w w' := by
  obtain ⟨ao, cap0, rfl, hcap0⟩ := hv.form
  obtain ⟨N0, hN0⟩ : ∃ N, N = bss.length := ⟨_, rfl⟩
  have HV0 := hide hv
  rw [← hN0] at HV0 hmax ⊢
  have HN0 := hide hN0
  have HK := hide hK
  have h0 := hK.pos
  have kc := fun (w : World) (C : Array Value) (n c : Nat) => Lib.run_convert_bytes_const (P := Tryd.prog) w 34 5 C n c Tryd.underlying34 Tryd.underlying5
  clear hK hv hcap0 hN0
  go_enter Tryd.func4, Tryd.ntmps4
  go_wp2_with fail
  refine (few_any bss _ 40 300 w (by omega) (by omega) HV0.out (by rw [← HN0.out]; exact hmax)).mono ?_
  rintro e w1 ⟨vl, rfl, t1, b1⟩
  obtain ⟨L, hL⟩ : ∃ L, L = S.few bss 40 300 := ⟨_, rfl⟩
  have hlen : L.length ≤ 40 := by rw [hL, S.few_length]; omega
  have hfit : Fit L := by rw [hL]; exact S.few_fit _ _ _ (by omega)
  have hff : S.few L 40 300 = L := by rw [hL, S.few_few]
  rw [← hL] at t1
  obtain ⟨lo, lc, rfl⟩ := t1.form
  have V1 := hide t1.bsAt
  have HF := hide hfit
  have HLL := hide hlen
  have HFF := hide hff
  obtain ⟨N, hN⟩ : ∃ N, N = L.length := ⟨_, rfl⟩
  rw [← hN] at V1 ⊢
  have HN := hide hN
  have B1 := hide b1
  clear t1 b1 hL hlen hfit hff hN HV0
  go_wp2_with fail
  refine (few_any L _ 40 300 w1 (by omega) (by omega) V1.out (by have := HLL.out; omega)).mono ?_
  rintro e w2 ⟨vw, rfl, t2, b2⟩
  rw [HFF.out] at t2
  obtain ⟨wo, wc, rfl⟩ := t2.form
  have W2 := hide t2.bsAt
  rw [← HN.out] at W2 ⊢
  have V2 := hide (V1.out.below b2 (Nat.le_refl _))
  have B2 := hide (B1.out.trans (b2.mono B1.out.size))
  clear t2 b2 V1 B1 HFF
  go_wp2_with fail
  refine (hasher_any a w2).mono ?_
  rintro e w3 ⟨gh, gT, rfl, hs3, b3⟩
  have H3 := hide hs3
  have V3 := hide (V2.out.below b3 (Nat.le_refl _))
  have W3 := hide (W2.out.below b3 (Nat.le_refl _))
  have B3 := hide (B2.out.trans (b3.mono B2.out.size))
  clear hs3 b3 V2 W2 B2
  go_wp2_with fail
  refine (prove_any a L _ i0 w3 (by omega) (by have := HLL.out; omega) V3.out HF.out (HK.out.below B3.out h0)).mono ?_
  rintro e w4 ⟨⟨vp, rfl, p4⟩, b4⟩
  obtain ⟨po, pc, rfl⟩ := p4.form
  have P4 := hide (p4.dgAt (by have := S.prove_len a L i0 6 (by have := HLL.out; omega); omega) (S.prove_len32 a L i0))
  obtain ⟨ps, hps⟩ : ∃ ps, ps = S.prove a L i0 := ⟨_, rfl⟩
  obtain ⟨pn, hpn⟩ : ∃ pn, pn = S.proveNo L i0 := ⟨_, rfl⟩
  rw [← hps] at P4
  rw [← hpn, ← hps]
  have HPS := hide hps
  have HPN := hide hpn
  have V4 := hide (V3.out.below b4 (Nat.le_refl _))
  have W4 := hide (W3.out.below b4 (Nat.le_refl _))
  have H4 := hide (H3.out.below b4 (Nat.le_refl _))
  have B4 := hide (B3.out.trans (b4.mono B3.out.size))
  obtain ⟨pm, hpm⟩ : ∃ pm, pm = ps.length := ⟨_, rfl⟩
  rw [← hpm] at P4 ⊢
  have HPM := hide hpm
  clear p4 b4 hps hpn hpm V3 W3 H3 B3
  go_wp2_with fail
  refine (hprove_any gh gT a L _ i0 w4 (by omega) (by have := HLL.out; omega) V4.out HF.out H4.out).mono ?_
  rintro e w5 ⟨⟨vq, rfl, p5⟩, b5⟩
  obtain ⟨qo, qc, rfl⟩ := p5.form
  rw [← HPN.out, ← HPS.out]
  rw [← HPS.out] at p5
  have Q5 := hide (p5.dgAt (by obtain ⟨_, _, _, h, _⟩ := P4.out; exact h) (by obtain ⟨_, _, _, _, h, _⟩ := P4.out; exact h))
  rw [← HPM.out] at Q5 ⊢
  have P5 := hide (P4.out.below b5)
  have V5 := hide (V4.out.below b5 (Nat.le_refl _))
  have W5 := hide (W4.out.below b5 (Nat.le_refl _))
  have H5 := hide (H4.out.below b5 (Nat.le_refl _))
  have B5 := hide (B4.out.trans (b5.mono B4.out.size))
  clear p5 b5 P4 V4 W4 H4 B4 HPS HPN HPM
  go_wp2_with fail
  refine (compare_any a L _ f0 w5 (by omega) (by have := HLL.out; omega) V5.out HF.out (HK.out.below B5.out h0)).mono ?_
  rintro e w6 ⟨⟨vr, rfl, p6⟩, b6⟩
  obtain ⟨ro, rc, rfl⟩ := p6.form
  have R6 := hide (p6.dgAt (by have := S.comp_len a L f0 6 (by have := HLL.out; omega); omega) (S.comp_len32 a L f0))
  obtain ⟨rs, hrs⟩ : ∃ rs, rs = S.comp_ a L f0 := ⟨_, rfl⟩
  obtain ⟨rn, hrn⟩ : ∃ rn, rn = S.compNo L f0 := ⟨_, rfl⟩
  rw [← hrs] at R6
  rw [← hrn, ← hrs]
  have HRS := hide hrs
  have HRN := hide hrn
  have P6 := hide (P5.out.below b6)
  have Q6 := hide (Q5.out.below b6)
  have V6 := hide (V5.out.below b6 (Nat.le_refl _))
  have W6 := hide (W5.out.below b6 (Nat.le_refl _))
  have H6 := hide (H5.out.below b6 (Nat.le_refl _))
  have B6 := hide (B5.out.trans (b6.mono B5.out.size))
  obtain ⟨rm, hrm⟩ : ∃ rm, rm = rs.length := ⟨_, rfl⟩
  rw [← hrm] at R6 ⊢
  have HRM := hide hrm
  clear p6 b6 hrs hrn hrm P5 Q5 V5 W5 H5 B5
  go_wp2_with fail
  refine (hcompare_any gh gT a L _ f0 w6 (by omega) (by have := HLL.out; omega) V6.out HF.out H6.out).mono ?_
  rintro e w7 ⟨⟨vs, rfl, p7⟩, b7⟩
  obtain ⟨so, sc, rfl⟩ := p7.form
  rw [← HRN.out, ← HRS.out]
  rw [← HRS.out] at p7
  have S7 := hide (p7.dgAt (by obtain ⟨_, _, _, h, _⟩ := R6.out; exact h) (by obtain ⟨_, _, _, _, h, _⟩ := R6.out; exact h))
  rw [← HRM.out] at S7 ⊢
  have P7 := hide (P6.out.below b7)
  have Q7 := hide (Q6.out.below b7)
  have R7 := hide (R6.out.below b7)
  have V7 := hide (V6.out.below b7 (Nat.le_refl _))
  have W7 := hide (W6.out.below b7 (Nat.le_refl _))
  have H7 := hide (H6.out.below b7 (Nat.le_refl _))
  have B7 := hide (B6.out.trans (b7.mono B6.out.size))
  clear p7 b7 P6 Q6 R6 V6 W6 H6 B6 HRS HRN HRM
  go_wp2_with fail
  obtain ⟨YA, hYA⟩ : ∃ Y, Y = w7.alloc (.cells #[.int .u8 97] 5 (1, 2)) := ⟨_, rfl⟩
  have bA : Below w7.heap.size w7 YA := by rw [hYA]; exact (Below.refl _ _).alloc (Nat.le_refl _) _
  have sA : SliceAt YA (.slice (some ⟨w7.heap.size, 0, none⟩) 1 1) [97] := mark_at (x := 97) rfl YA (by rw [hYA]; exact Below.refl _ _)
  rw [← hYA]
  have SA := hide sA
  have BA := hide (B7.out.trans (bA.mono B7.out.size))
  have BA7 := hide bA
  clear hYA bA sA kc
  refine (leaf_any a _ [97] YA SA.out (by simp) (HK.out.below BA.out h0)).mono ?_
  rintro e w8 ⟨rfl, b8⟩
  obtain ⟨A, hA⟩ : ∃ D, D = S.leaf a [97] := ⟨_, rfl⟩
  rw [← hA]
  have LA := hide (show A.length = 32 by rw [hA, S.leaf_length])
  obtain ⟨AL, Y, hal, hst, ry, by1, sy⟩ := lay_dig w8 A LA.out
  obtain ⟨g2, hg2⟩ : ∃ g2, g2 = w8.heap.size := ⟨_, rfl⟩
  rw [← hg2] at hal hst ry
  have b7Y : Below w7.heap.size w7 Y := (BA7.out.trans (b8.mono BA7.out.size)).trans (by1.mono (Nat.le_trans BA7.out.size b8.size))
  have BY := hide (B7.out.trans (b7Y.mono B7.out.size))
  have RY := hide ry
  have P := hide (P7.out.below b7Y)
  have Q := hide (Q7.out.below b7Y)
  have R := hide (R7.out.below b7Y)
  have T := hide (S7.out.below b7Y)
  have V := hide (V7.out.below b7Y (Nat.le_refl _))
  have U := hide (W7.out.below b7Y (Nat.le_refl _))
  have H := hide (H7.out.below b7Y (Nat.le_refl _))
  clear hA b8 by1 sy hg2 ry b7Y P7 Q7 R7 S7 V7 W7 H7 B7 BA BA7 SA
  go_wp2_with (first | (with_reducible refine at_op { dst := some 19, op := Op.alloc 31, type := 0, pos := "law.go:55", after := #[], guard := none } ?_; refine wpList_alloc_known rfl 31 rfl (.pointer (some ⟨g2, 0, none⟩)) AL hal ?_) | (with_reducible refine at_op { dst := none, op := Op.store 31 (Operand.tmp 19) (Operand.tmp 57), type := 0, pos := "law.go:55", after := #[{ on := 4, ground := Ground.data }, { on := 3, ground := Ground.data }, { on := 3, ground := Ground.chain }, { on := 0, ground := Ground.phase }, { on := 1, ground := Ground.phase }, { on := 2, ground := Ground.phase }, { on := 3, ground := Ground.phase }, { on := 4, ground := Ground.phase }], guard := none } ?_; refine wpList_store_as rfl 31 (.tmp 19) (.tmp 57) rfl (.pointer (some ⟨g2, 0, none⟩)) (.agg (S.v8 A)) rfl rfl Y hst ?_))
  clear hal hst
  have hsz := size_dig A LA.out
  refine wp_region_noPanic ?_
  refine wp_region_held_drew (S := (fun W => W.rangeAt g2 0 (S.v8l A))) follows (rangeAt_row RY.out) (fun hHeld => ?_)
  have BZ0 : Hid (Below Y.heap.size Y Y.drew) := (Below.refl _ _).drew
  generalize Y.drew = Z0 at BZ0 hHeld ⊢
  refine wpAnyH_take (i := 0) (oi := { dst := some 58, op := Op.move (Operand.tmp 0), type := 3, pos := "law.go:56", after := #[], guard := none }) (v := ?_) rfl (by kernel_rfl) (by kernel_rfl) (by kernel_rfl) (fun _ _ _ h => h) (Or.inl ⟨by rfl, ?_⟩) (by assumption) ?_
  rotate_left
  · intro w hSw
    clear hSw
    go_simp
    all_goals with_reducible rfl
  simp only [Act.put, List.setIfInBounds_toArray, List.set_cons_zero, List.set_cons_succ]
  refine wpAnyH_take (i := 1) (oi := { dst := some 59, op := Op.move (Operand.tmp 1), type := 22, pos := "law.go:56", after := #[], guard := none }) (v := ?_) rfl (by kernel_rfl) (by kernel_rfl) (by kernel_rfl) (fun _ _ _ h => h) (Or.inl ⟨by rfl, ?_⟩) (by assumption) ?_
  rotate_left
  · intro w hSw
    clear hSw
    go_simp
    all_goals with_reducible rfl
  simp only [Act.put, List.setIfInBounds_toArray, List.set_cons_zero, List.set_cons_succ]
  refine wpAnyH_take (i := 3) (oi := { dst := some 61, op := Op.move (Operand.tmp 10), type := 37, pos := "law.go:56", after := #[], guard := none }) (v := ?_) rfl (by kernel_rfl) (by kernel_rfl) (by kernel_rfl) (fun _ _ _ h => h) (Or.inl ⟨by rfl, ?_⟩) (by assumption) ?_
  rotate_left
  · intro w hSw
    clear hSw
    go_simp
    all_goals with_reducible rfl
  simp only [Act.put, List.setIfInBounds_toArray, List.set_cons_zero, List.set_cons_succ]
  refine wpAnyH_take (i := 4) (oi := { dst := some 62, op := Op.move (Operand.tmp 1), type := 22, pos := "law.go:56", after := #[], guard := none }) (v := ?_) rfl (by kernel_rfl) (by kernel_rfl) (by kernel_rfl) (fun _ _ _ h => h) (Or.inl ⟨by rfl, ?_⟩) (by assumption) ?_
  rotate_left
  · intro w hSw
    clear hSw
    go_simp
    all_goals with_reducible rfl
  simp only [Act.put, List.setIfInBounds_toArray, List.set_cons_zero, List.set_cons_succ]
  refine wpAnyH_ready (rs := [2]) (by kernel_rfl) (by simp) ?_
  refine AllReadyH.cons (o := { dst := some 60, op := Op.call { callee := Callee.value (Operand.func 13), args := #[Operand.tmp 58, Operand.tmp 59], argTypes := #[3, 22] }, type := 31, pos := "law.go:56", after := #[{ on := 0, ground := Ground.data }, { on := 1, ground := Ground.data }], guard := none }) rfl (fun K hK => ?_) AllReadyH.nil
  go_simp
  refine (root_any a _ L Z0 (V.out.below BZ0.out (Nat.le_refl _)) (by have := HLL.out; omega) HF.out (HK.out.below (BY.out.trans (BZ0.out.mono BY.out.size)) h0)).mono ?_
  rintro e Z1 ⟨rfl, hb2⟩
  obtain ⟨D, hD⟩ : ∃ DD, DD = S.root a L := ⟨_, rfl⟩
  rw [← hD]
  have LD := hide (show D.length = 32 by rw [hD, S.root_length])
  have HD := hide hD
  clear hD
  have BZ1 : Hid (Below Y.heap.size Y Z1) := BZ0.out.trans (hb2.mono BZ0.out.size)
  clear BZ0 hb2 hHeld
  refine hK.out _ _ (rangeAt_row ((BZ1.out.block g2 (block_lt_of_row RY.out)).trans RY.out)) (fun hHeld => ?_)
  clear hK K
  try simp only [Act.put, List.setIfInBounds_toArray, List.set_cons_zero, List.set_cons_succ]
  refine wpAnyH_ready (rs := [5]) (by kernel_rfl) (by simp) ?_
  refine AllReadyH.cons (o := { dst := some 63, op := Op.call { callee := Callee.value (Operand.func 20), args := #[Operand.tmp 61, Operand.tmp 62], argTypes := #[37, 22] }, type := 31, pos := "law.go:56", after := #[{ on := 3, ground := Ground.data }, { on := 4, ground := Ground.data }, { on := 2, ground := Ground.chain }], guard := none }) rfl (fun K hK => ?_) AllReadyH.nil
  go_simp
  refine (hroot_any gh gT a _ L _ Z1 rfl (by have := HLL.out; omega) (V.out.below BZ1.out (Nat.le_refl _)) HF.out (H.out.below BZ1.out (Nat.le_refl _))).mono ?_
  rintro e Z2 ⟨rfl, hb2⟩
  rw [← HD.out]
  have heq : ∀ w, (Op.equalIn 10000 31 (.agg (S.v8 D)) (.agg (S.v8 D))).run Tryd.prog w = .ok true w := fun w => equal_dig D D LD.out LD.out true (by simp) w
  have BZ2 : Hid (Below Y.heap.size Y Z2) := BZ1.out.trans (hb2.mono BZ1.out.size)
  clear BZ1 hb2 hHeld
  refine hK.out _ _ (rangeAt_row ((BZ2.out.block g2 (block_lt_of_row RY.out)).trans RY.out)) (fun hHeld => ?_)
  clear hK K
  try simp only [Act.put, List.setIfInBounds_toArray, List.set_cons_zero, List.set_cons_succ]
  refine wpAnyH_take (i := 6) (oi := { dst := some 64, op := Op.binOp BinOp.eql 31 (Operand.tmp 60) (Operand.tmp 63) 31, type := 4, pos := "law.go:56", after := #[{ on := 2, ground := Ground.data }, { on := 5, ground := Ground.data }], guard := none }) (v := ?_) rfl (by kernel_rfl) (by kernel_rfl) (by kernel_rfl) (fun _ _ _ h => h) (Or.inl ⟨by rfl, ?_⟩) (by assumption) ?_
  rotate_left
  · intro w hSw
    clear hSw
    go_simp
    all_goals with_reducible rfl
  simp only [Act.put, List.setIfInBounds_toArray, List.set_cons_zero, List.set_cons_succ]
  refine wpAnyH_take (i := 7) (oi := { dst := some 65, op := Op.move (Operand.tmp 64), type := 4, pos := "law.go:56", after := #[{ on := 6, ground := Ground.data }, { on := 5, ground := Ground.chain }], guard := none }) (v := ?_) rfl (by kernel_rfl) (by kernel_rfl) (by kernel_rfl) (fun _ _ _ h => h) (Or.inl ⟨by rfl, ?_⟩) (by assumption) ?_
  rotate_left
  · intro w hSw
    clear hSw
    go_simp
    all_goals with_reducible rfl
  simp only [Act.put, List.setIfInBounds_toArray, List.set_cons_zero, List.set_cons_succ]
  refine wpAnyH_take (i := 8) (oi := { dst := some 66, op := Op.move (Operand.tmp 11), type := 24, pos := "law.go:56", after := #[{ on := 7, ground := Ground.guard }], guard := some (7, true) }) (v := ?_) rfl (by kernel_rfl) (by kernel_rfl) (by kernel_rfl) (fun _ _ _ h => h) (Or.inl ⟨by rfl, ?_⟩) (by assumption) ?_
  rotate_left
  · intro w hSw
    clear hSw
    go_simp
    all_goals with_reducible rfl
  simp only [Act.put, List.setIfInBounds_toArray, List.set_cons_zero, List.set_cons_succ]
  refine wpAnyH_take (i := 9) (oi := { dst := some 67, op := Op.move (Operand.tmp 13), type := 24, pos := "law.go:56", after := #[{ on := 7, ground := Ground.guard }], guard := some (7, true) }) (v := ?_) rfl (by kernel_rfl) (by kernel_rfl) (by kernel_rfl) (fun _ _ _ h => h) (Or.inl ⟨by rfl, ?_⟩) (by assumption) ?_
  rotate_left
  · intro w hSw
    clear hSw
    go_simp
    all_goals with_reducible rfl
  simp only [Act.put, List.setIfInBounds_toArray, List.set_cons_zero, List.set_cons_succ]
  refine wpAnyH_ready (rs := [10]) (by kernel_rfl) (by simp) ?_
  refine AllReadyH.cons (o := { dst := some 68, op := Op.call { callee := Callee.value (Operand.func 12), args := #[Operand.tmp 66, Operand.tmp 67], argTypes := #[24, 24] }, type := 4, pos := "law.go:56", after := #[{ on := 8, ground := Ground.data }, { on := 9, ground := Ground.data }, { on := 7, ground := Ground.chain }, { on := 7, ground := Ground.guard }], guard := some (7, true) }) rfl (fun K hK => ?_) AllReadyH.nil
  go_simp
  refine (same_dg _ _ ps Z2 (P.out.below BZ2.out) (Q.out.below BZ2.out)).mono ?_
  rintro e Z3 ⟨rfl, hb2⟩
  have BZ3 : Hid (Below Y.heap.size Y Z3) := BZ2.out.trans (hb2.below _)
  clear BZ2 hb2 hHeld
  refine hK.out _ _ (rangeAt_row ((BZ3.out.block g2 (block_lt_of_row RY.out)).trans RY.out)) (fun hHeld => ?_)
  clear hK K
  try simp only [Act.put, List.setIfInBounds_toArray, List.set_cons_zero, List.set_cons_succ]
  refine wpAnyH_take (i := 11) (oi := { dst := some 69, op := Op.pick (Operand.tmp 65) (Operand.tmp 68) (Operand.const (Value.bool false)), type := 4, pos := "law.go:56", after := #[{ on := 7, ground := Ground.data }, { on := 10, ground := Ground.data }], guard := none }) (v := ?_) rfl (by kernel_rfl) (by kernel_rfl) (by kernel_rfl) (fun _ _ _ h => h) (Or.inl ⟨by rfl, ?_⟩) (by assumption) ?_
  rotate_left
  · intro w hSw
    clear hSw
    go_simp
    all_goals with_reducible rfl
  simp only [Act.put, List.setIfInBounds_toArray, List.set_cons_zero, List.set_cons_succ]
  refine wpAnyH_take (i := 12) (oi := { dst := some 70, op := Op.move (Operand.tmp 69), type := 4, pos := "law.go:56", after := #[{ on := 11, ground := Ground.data }, { on := 10, ground := Ground.chain }], guard := none }) (v := ?_) rfl (by kernel_rfl) (by kernel_rfl) (by kernel_rfl) (fun _ _ _ h => h) (Or.inl ⟨by rfl, ?_⟩) (by assumption) ?_
  rotate_left
  · intro w hSw
    clear hSw
    go_simp
    all_goals with_reducible rfl
  simp only [Act.put, List.setIfInBounds_toArray, List.set_cons_zero, List.set_cons_succ]
  refine wpAnyH_take (i := 13) (oi := { dst := some 71, op := Op.move (Operand.tmp 12), type := 25, pos := "law.go:56", after := #[{ on := 12, ground := Ground.guard }], guard := some (12, true) }) (v := ?_) rfl (by kernel_rfl) (by kernel_rfl) (by kernel_rfl) (fun _ _ _ h => h) (Or.inl ⟨by rfl, ?_⟩) (by assumption) ?_
  rotate_left
  · intro w hSw
    clear hSw
    go_simp
    all_goals with_reducible rfl
  simp only [Act.put, List.setIfInBounds_toArray, List.set_cons_zero, List.set_cons_succ]
  refine wpAnyH_take (i := 14) (oi := { dst := some 72, op := Op.move (Operand.tmp 14), type := 3, pos := "law.go:56", after := #[{ on := 12, ground := Ground.guard }], guard := some (12, true) }) (v := ?_) rfl (by kernel_rfl) (by kernel_rfl) (by kernel_rfl) (fun _ _ _ h => h) (Or.inl ⟨by rfl, ?_⟩) (by assumption) ?_
  rotate_left
  · intro w hSw
    clear hSw
    go_simp
    all_goals with_reducible rfl
  simp only [Act.put, List.setIfInBounds_toArray, List.set_cons_zero, List.set_cons_succ]
  refine wpAnyH_take (i := 15) (oi := { dst := some 73, op := Op.binOp BinOp.eql 3 (Operand.tmp 71) (Operand.tmp 72) 3, type := 4, pos := "law.go:56", after := #[{ on := 13, ground := Ground.data }, { on := 14, ground := Ground.data }, { on := 12, ground := Ground.guard }], guard := some (12, true) }) (v := ?_) rfl (by kernel_rfl) (by kernel_rfl) (by kernel_rfl) (fun _ _ _ h => h) (Or.inl ⟨by rfl, ?_⟩) (by assumption) ?_
  rotate_left
  · intro w hSw
    clear hSw
    go_simp
    all_goals with_reducible rfl
  simp only [Act.put, List.setIfInBounds_toArray, List.set_cons_zero, List.set_cons_succ]
  refine wpAnyH_take (i := 16) (oi := { dst := some 74, op := Op.pick (Operand.tmp 70) (Operand.tmp 73) (Operand.const (Value.bool false)), type := 4, pos := "law.go:56", after := #[{ on := 12, ground := Ground.data }, { on := 15, ground := Ground.data }], guard := none }) (v := ?_) rfl (by kernel_rfl) (by kernel_rfl) (by kernel_rfl) (fun _ _ _ h => h) (Or.inl ⟨by rfl, ?_⟩) (by assumption) ?_
  rotate_left
  · intro w hSw
    clear hSw
    go_simp
    all_goals with_reducible rfl
  simp only [Act.put, List.setIfInBounds_toArray, List.set_cons_zero, List.set_cons_succ]
  refine wpAnyH_take (i := 17) (oi := { dst := some 75, op := Op.move (Operand.tmp 74), type := 4, pos := "law.go:56", after := #[{ on := 16, ground := Ground.data }, { on := 12, ground := Ground.chain }], guard := none }) (v := ?_) rfl (by kernel_rfl) (by kernel_rfl) (by kernel_rfl) (fun _ _ _ h => h) (Or.inl ⟨by rfl, ?_⟩) (by assumption) ?_
  rotate_left
  · intro w hSw
    clear hSw
    go_simp
    all_goals with_reducible rfl
  simp only [Act.put, List.setIfInBounds_toArray, List.set_cons_zero, List.set_cons_succ]
  refine wpAnyH_take (i := 18) (oi := { dst := some 76, op := Op.move (Operand.tmp 15), type := 24, pos := "law.go:56", after := #[{ on := 17, ground := Ground.guard }], guard := some (17, true) }) (v := ?_) rfl (by kernel_rfl) (by kernel_rfl) (by kernel_rfl) (fun _ _ _ h => h) (Or.inl ⟨by rfl, ?_⟩) (by assumption) ?_
  rotate_left
  · intro w hSw
    clear hSw
    go_simp
    all_goals with_reducible rfl
  simp only [Act.put, List.setIfInBounds_toArray, List.set_cons_zero, List.set_cons_succ]
  refine wpAnyH_take (i := 19) (oi := { dst := some 77, op := Op.move (Operand.tmp 17), type := 24, pos := "law.go:56", after := #[{ on := 17, ground := Ground.guard }], guard := some (17, true) }) (v := ?_) rfl (by kernel_rfl) (by kernel_rfl) (by kernel_rfl) (fun _ _ _ h => h) (Or.inl ⟨by rfl, ?_⟩) (by assumption) ?_
  rotate_left
  · intro w hSw
    clear hSw
    go_simp
    all_goals with_reducible rfl
  simp only [Act.put, List.setIfInBounds_toArray, List.set_cons_zero, List.set_cons_succ]
  refine wpAnyH_ready (rs := [20]) (by kernel_rfl) (by simp) ?_
  refine AllReadyH.cons (o := { dst := some 78, op := Op.call { callee := Callee.value (Operand.func 12), args := #[Operand.tmp 76, Operand.tmp 77], argTypes := #[24, 24] }, type := 4, pos := "law.go:56", after := #[{ on := 18, ground := Ground.data }, { on := 19, ground := Ground.data }, { on := 17, ground := Ground.chain }, { on := 17, ground := Ground.guard }], guard := some (17, true) }) rfl (fun K hK => ?_) AllReadyH.nil
  go_simp
  refine (same_dg _ _ rs Z3 (R.out.below BZ3.out) (T.out.below BZ3.out)).mono ?_
  rintro e Z4 ⟨rfl, hb2⟩
  have BZ4 : Hid (Below Y.heap.size Y Z4) := BZ3.out.trans (hb2.below _)
  clear BZ3 hb2 hHeld
  refine hK.out _ _ (rangeAt_row ((BZ4.out.block g2 (block_lt_of_row RY.out)).trans RY.out)) (fun hHeld => ?_)
  clear hK K
  try simp only [Act.put, List.setIfInBounds_toArray, List.set_cons_zero, List.set_cons_succ]
  refine wpAnyH_take (i := 21) (oi := { dst := some 79, op := Op.pick (Operand.tmp 75) (Operand.tmp 78) (Operand.const (Value.bool false)), type := 4, pos := "law.go:56", after := #[{ on := 17, ground := Ground.data }, { on := 20, ground := Ground.data }], guard := none }) (v := ?_) rfl (by kernel_rfl) (by kernel_rfl) (by kernel_rfl) (fun _ _ _ h => h) (Or.inl ⟨by rfl, ?_⟩) (by assumption) ?_
  rotate_left
  · intro w hSw
    clear hSw
    go_simp
    all_goals with_reducible rfl
  simp only [Act.put, List.setIfInBounds_toArray, List.set_cons_zero, List.set_cons_succ]
  refine wpAnyH_take (i := 22) (oi := { dst := some 80, op := Op.move (Operand.tmp 79), type := 4, pos := "law.go:56", after := #[{ on := 21, ground := Ground.data }, { on := 20, ground := Ground.chain }], guard := none }) (v := ?_) rfl (by kernel_rfl) (by kernel_rfl) (by kernel_rfl) (fun _ _ _ h => h) (Or.inl ⟨by rfl, ?_⟩) (by assumption) ?_
  rotate_left
  · intro w hSw
    clear hSw
    go_simp
    all_goals with_reducible rfl
  simp only [Act.put, List.setIfInBounds_toArray, List.set_cons_zero, List.set_cons_succ]
  refine wpAnyH_take (i := 23) (oi := { dst := some 81, op := Op.move (Operand.tmp 16), type := 25, pos := "law.go:56", after := #[{ on := 22, ground := Ground.guard }], guard := some (22, true) }) (v := ?_) rfl (by kernel_rfl) (by kernel_rfl) (by kernel_rfl) (fun _ _ _ h => h) (Or.inl ⟨by rfl, ?_⟩) (by assumption) ?_
  rotate_left
  · intro w hSw
    clear hSw
    go_simp
    all_goals with_reducible rfl
  simp only [Act.put, List.setIfInBounds_toArray, List.set_cons_zero, List.set_cons_succ]
  refine wpAnyH_take (i := 24) (oi := { dst := some 82, op := Op.move (Operand.tmp 18), type := 3, pos := "law.go:56", after := #[{ on := 22, ground := Ground.guard }], guard := some (22, true) }) (v := ?_) rfl (by kernel_rfl) (by kernel_rfl) (by kernel_rfl) (fun _ _ _ h => h) (Or.inl ⟨by rfl, ?_⟩) (by assumption) ?_
  rotate_left
  · intro w hSw
    clear hSw
    go_simp
    all_goals with_reducible rfl
  simp only [Act.put, List.setIfInBounds_toArray, List.set_cons_zero, List.set_cons_succ]
  refine wpAnyH_take (i := 25) (oi := { dst := some 83, op := Op.binOp BinOp.eql 3 (Operand.tmp 81) (Operand.tmp 82) 3, type := 4, pos := "law.go:56", after := #[{ on := 23, ground := Ground.data }, { on := 24, ground := Ground.data }, { on := 22, ground := Ground.guard }], guard := some (22, true) }) (v := ?_) rfl (by kernel_rfl) (by kernel_rfl) (by kernel_rfl) (fun _ _ _ h => h) (Or.inl ⟨by rfl, ?_⟩) (by assumption) ?_
  rotate_left
  · intro w hSw
    clear hSw
    go_simp
    all_goals with_reducible rfl
  simp only [Act.put, List.setIfInBounds_toArray, List.set_cons_zero, List.set_cons_succ]
  refine wpAnyH_take (i := 26) (oi := { dst := some 84, op := Op.pick (Operand.tmp 80) (Operand.tmp 83) (Operand.const (Value.bool false)), type := 4, pos := "law.go:56", after := #[{ on := 22, ground := Ground.data }, { on := 25, ground := Ground.data }], guard := none }) (v := ?_) rfl (by kernel_rfl) (by kernel_rfl) (by kernel_rfl) (fun _ _ _ h => h) (Or.inl ⟨by rfl, ?_⟩) (by assumption) ?_
  rotate_left
  · intro w hSw
    clear hSw
    go_simp
    all_goals with_reducible rfl
  simp only [Act.put, List.setIfInBounds_toArray, List.set_cons_zero, List.set_cons_succ]
  refine wpAnyH_take (i := 27) (oi := { dst := some 85, op := Op.move (Operand.tmp 84), type := 4, pos := "law.go:56", after := #[{ on := 26, ground := Ground.data }, { on := 22, ground := Ground.chain }], guard := none }) (v := ?_) rfl (by kernel_rfl) (by kernel_rfl) (by kernel_rfl) (fun _ _ _ h => h) (Or.inl ⟨by rfl, ?_⟩) (by assumption) ?_
  rotate_left
  · intro w hSw
    clear hSw
    go_simp
    all_goals with_reducible rfl
  simp only [Act.put, List.setIfInBounds_toArray, List.set_cons_zero, List.set_cons_succ]
  refine wpAnyH_take (i := 28) (oi := { dst := some 86, op := Op.move (Operand.tmp 0), type := 3, pos := "law.go:56", after := #[{ on := 27, ground := Ground.guard }], guard := some (27, true) }) (v := ?_) rfl (by kernel_rfl) (by kernel_rfl) (by kernel_rfl) (fun _ _ _ h => h) (Or.inl ⟨by rfl, ?_⟩) (by assumption) ?_
  rotate_left
  · intro w hSw
    clear hSw
    go_simp
    all_goals with_reducible rfl
  simp only [Act.put, List.setIfInBounds_toArray, List.set_cons_zero, List.set_cons_succ]
  refine wpAnyH_take (i := 29) (oi := { dst := some 87, op := Op.load 31 (Operand.tmp 19), type := 31, pos := "law.go:56", after := #[{ on := 27, ground := Ground.guard }], guard := some (27, true) }) (v := .agg (S.v8l A).toArray) rfl (by kernel_rfl) (by kernel_rfl) (by kernel_rfl) (fun _ _ _ h => h) (yieldsIf_load_mid (by rfl) _ _ rfl g2 0 rfl (S.v8l A) _ (fun _ hSw => hSw) Tryd.underlying31 rfl hsz) (by assumption) ?_
  simp only [Act.put, List.setIfInBounds_toArray, List.set_cons_zero, List.set_cons_succ]
  refine wpAnyH_take (i := 30) (oi := { dst := some 88, op := Op.move (Operand.tmp 0), type := 3, pos := "law.go:56", after := #[{ on := 27, ground := Ground.guard }], guard := some (27, true) }) (v := ?_) rfl (by kernel_rfl) (by kernel_rfl) (by kernel_rfl) (fun _ _ _ h => h) (Or.inl ⟨by rfl, ?_⟩) (by assumption) ?_
  rotate_left
  · intro w hSw
    clear hSw
    go_simp
    all_goals with_reducible rfl
  simp only [Act.put, List.setIfInBounds_toArray, List.set_cons_zero, List.set_cons_succ]
  refine wpAnyH_take (i := 31) (oi := { dst := some 89, op := Op.move (Operand.tmp 1), type := 22, pos := "law.go:56", after := #[{ on := 27, ground := Ground.guard }], guard := some (27, true) }) (v := ?_) rfl (by kernel_rfl) (by kernel_rfl) (by kernel_rfl) (fun _ _ _ h => h) (Or.inl ⟨by rfl, ?_⟩) (by assumption) ?_
  rotate_left
  · intro w hSw
    clear hSw
    go_simp
    all_goals with_reducible rfl
  simp only [Act.put, List.setIfInBounds_toArray, List.set_cons_zero, List.set_cons_succ]
  refine wpAnyH_take (i := 34) (oi := { dst := some 92, op := Op.move (Operand.tmp 10), type := 37, pos := "law.go:56", after := #[{ on := 27, ground := Ground.guard }], guard := some (27, true) }) (v := ?_) rfl (by kernel_rfl) (by kernel_rfl) (by kernel_rfl) (fun _ _ _ h => h) (Or.inl ⟨by rfl, ?_⟩) (by assumption) ?_
  rotate_left
  · intro w hSw
    clear hSw
    go_simp
    all_goals with_reducible rfl
  simp only [Act.put, List.setIfInBounds_toArray, List.set_cons_zero, List.set_cons_succ]
  refine wpAnyH_take (i := 35) (oi := { dst := some 93, op := Op.load 31 (Operand.tmp 19), type := 31, pos := "law.go:56", after := #[{ on := 27, ground := Ground.guard }], guard := some (27, true) }) (v := .agg (S.v8l A).toArray) rfl (by kernel_rfl) (by kernel_rfl) (by kernel_rfl) (fun _ _ _ h => h) (yieldsIf_load_mid (by rfl) _ _ rfl g2 0 rfl (S.v8l A) _ (fun _ hSw => hSw) Tryd.underlying31 rfl hsz) (by assumption) ?_
  simp only [Act.put, List.setIfInBounds_toArray, List.set_cons_zero, List.set_cons_succ]
  refine wpAnyH_take (i := 36) (oi := { dst := some 94, op := Op.move (Operand.tmp 10), type := 37, pos := "law.go:56", after := #[{ on := 27, ground := Ground.guard }], guard := some (27, true) }) (v := ?_) rfl (by kernel_rfl) (by kernel_rfl) (by kernel_rfl) (fun _ _ _ h => h) (Or.inl ⟨by rfl, ?_⟩) (by assumption) ?_
  rotate_left
  · intro w hSw
    clear hSw
    go_simp
    all_goals with_reducible rfl
  simp only [Act.put, List.setIfInBounds_toArray, List.set_cons_zero, List.set_cons_succ]
  refine wpAnyH_take (i := 37) (oi := { dst := some 95, op := Op.move (Operand.tmp 1), type := 22, pos := "law.go:56", after := #[{ on := 27, ground := Ground.guard }], guard := some (27, true) }) (v := ?_) rfl (by kernel_rfl) (by kernel_rfl) (by kernel_rfl) (fun _ _ _ h => h) (Or.inl ⟨by rfl, ?_⟩) (by assumption) ?_
  rotate_left
  · intro w hSw
    clear hSw
    go_simp
    all_goals with_reducible rfl
  simp only [Act.put, List.setIfInBounds_toArray, List.set_cons_zero, List.set_cons_succ]
  refine wpAnyH_ready (rs := [32]) (by kernel_rfl) (by simp) ?_
  refine AllReadyH.cons (o := { dst := some 90, op := Op.call { callee := Callee.value (Operand.func 13), args := #[Operand.tmp 88, Operand.tmp 89], argTypes := #[3, 22] }, type := 31, pos := "law.go:56", after := #[{ on := 30, ground := Ground.data }, { on := 31, ground := Ground.data }, { on := 27, ground := Ground.chain }, { on := 27, ground := Ground.guard }], guard := some (27, true) }) rfl (fun K hK => ?_) AllReadyH.nil
  go_simp
  refine (root_any a _ L Z4 (V.out.below BZ4.out (Nat.le_refl _)) (by have := HLL.out; omega) HF.out (HK.out.below (BY.out.trans (BZ4.out.mono BY.out.size)) h0)).mono ?_
  rintro e Z5 ⟨rfl, hb2⟩
  rw [← HD.out]
  clear heq
  have BZ5 : Hid (Below Y.heap.size Y Z5) := BZ4.out.trans (hb2.mono BZ4.out.size)
  clear BZ4 hb2 hHeld
  refine hK.out _ _ (rangeAt_row ((BZ5.out.block g2 (block_lt_of_row RY.out)).trans RY.out)) (fun hHeld => ?_)
  clear hK K
  try simp only [Act.put, List.setIfInBounds_toArray, List.set_cons_zero, List.set_cons_succ]
  refine wpAnyH_ready (rs := [33]) (by kernel_rfl) (by simp) ?_
  refine AllReadyH.cons (o := { dst := some 91, op := Op.call { callee := Callee.value (Operand.func 21), args := #[Operand.tmp 86, Operand.tmp 87, Operand.tmp 90], argTypes := #[3, 31, 31] }, type := 31, pos := "law.go:56", after := #[{ on := 28, ground := Ground.data }, { on := 29, ground := Ground.data }, { on := 32, ground := Ground.data }, { on := 32, ground := Ground.chain }, { on := 27, ground := Ground.guard }], guard := some (27, true) }) rfl (fun K hK => ?_) AllReadyH.nil
  go_simp
  refine (node_any a A D LA.out LD.out Z5 (HK.out.below (BY.out.trans (BZ5.out.mono BY.out.size)) h0)).mono ?_
  rintro e Z6 ⟨rfl, hb2⟩
  obtain ⟨E, hE⟩ : ∃ DD, DD = S.node a A D := ⟨_, rfl⟩
  rw [← hE]
  have LE := hide (show E.length = 32 by rw [hE, S.node_length])
  have HE := hide hE
  clear hE
  have BZ6 : Hid (Below Y.heap.size Y Z6) := BZ5.out.trans (hb2.mono BZ5.out.size)
  clear BZ5 hb2 hHeld
  refine hK.out _ _ (rangeAt_row ((BZ6.out.block g2 (block_lt_of_row RY.out)).trans RY.out)) (fun hHeld => ?_)
  clear hK K
  try simp only [Act.put, List.setIfInBounds_toArray, List.set_cons_zero, List.set_cons_succ]
  refine wpAnyH_ready (rs := [38]) (by kernel_rfl) (by simp) ?_
  refine AllReadyH.cons (o := { dst := some 96, op := Op.call { callee := Callee.value (Operand.func 20), args := #[Operand.tmp 94, Operand.tmp 95], argTypes := #[37, 22] }, type := 31, pos := "law.go:56", after := #[{ on := 36, ground := Ground.data }, { on := 37, ground := Ground.data }, { on := 33, ground := Ground.chain }, { on := 27, ground := Ground.guard }], guard := some (27, true) }) rfl (fun K hK => ?_) AllReadyH.nil
  go_simp
  refine (hroot_any gh gT a _ L _ Z6 rfl (by have := HLL.out; omega) (V.out.below BZ6.out (Nat.le_refl _)) HF.out (H.out.below BZ6.out (Nat.le_refl _))).mono ?_
  rintro e Z7 ⟨rfl, hb2⟩
  rw [← HD.out]
  have BZ7 : Hid (Below Y.heap.size Y Z7) := BZ6.out.trans (hb2.mono BZ6.out.size)
  clear BZ6 hb2 hHeld
  refine hK.out _ _ (rangeAt_row ((BZ7.out.block g2 (block_lt_of_row RY.out)).trans RY.out)) (fun hHeld => ?_)
  clear hK K
  try simp only [Act.put, List.setIfInBounds_toArray, List.set_cons_zero, List.set_cons_succ]
  refine wpAnyH_ready (rs := [39]) (by kernel_rfl) (by simp) ?_
  refine AllReadyH.cons (o := { dst := some 97, op := Op.call { callee := Callee.value (Operand.func 22), args := #[Operand.tmp 92, Operand.tmp 93, Operand.tmp 96], argTypes := #[37, 31, 31] }, type := 31, pos := "law.go:56", after := #[{ on := 34, ground := Ground.data }, { on := 35, ground := Ground.data }, { on := 38, ground := Ground.data }, { on := 38, ground := Ground.chain }, { on := 27, ground := Ground.guard }], guard := some (27, true) }) rfl (fun K hK => ?_) AllReadyH.nil
  go_simp
  refine (hnode_any gh gT a A D LA.out LD.out Z7 (H.out.below BZ7.out (Nat.le_refl _))).mono ?_
  rintro e Z8 ⟨rfl, hb2⟩
  rw [← HE.out]
  have heq2 : ∀ w, (Op.equalIn 10000 31 (.agg (S.v8 E)) (.agg (S.v8 E))).run Tryd.prog w = .ok true w := fun w => equal_dig E E LE.out LE.out true (by simp) w
  have BZ8 : Hid (Below Y.heap.size Y Z8) := BZ7.out.trans (hb2.mono BZ7.out.size)
  clear BZ7 hb2 hHeld
  refine hK.out _ _ (rangeAt_row ((BZ8.out.block g2 (block_lt_of_row RY.out)).trans RY.out)) (fun hHeld => ?_)
  clear hK K
  try simp only [Act.put, List.setIfInBounds_toArray, List.set_cons_zero, List.set_cons_succ]
  refine wpAnyH_take (i := 40) (oi := { dst := some 98, op := Op.binOp BinOp.eql 31 (Operand.tmp 91) (Operand.tmp 97) 31, type := 4, pos := "law.go:56", after := #[{ on := 33, ground := Ground.data }, { on := 39, ground := Ground.data }, { on := 27, ground := Ground.guard }], guard := some (27, true) }) (v := ?_) rfl (by kernel_rfl) (by kernel_rfl) (by kernel_rfl) (fun _ _ _ h => h) (Or.inl ⟨by rfl, ?_⟩) (by assumption) ?_
  rotate_left
  · intro w hSw
    clear hSw
    go_simp
    all_goals with_reducible rfl
  simp only [Act.put, List.setIfInBounds_toArray, List.set_cons_zero, List.set_cons_succ]
  refine wpAnyH_take (i := 41) (oi := { dst := some 99, op := Op.pick (Operand.tmp 85) (Operand.tmp 98) (Operand.const (Value.bool false)), type := 4, pos := "law.go:56", after := #[{ on := 27, ground := Ground.data }, { on := 40, ground := Ground.data }], guard := none }) (v := ?_) rfl (by kernel_rfl) (by kernel_rfl) (by kernel_rfl) (fun _ _ _ h => h) (Or.inl ⟨by rfl, ?_⟩) (by assumption) ?_
  rotate_left
  · intro w hSw
    clear hSw
    go_simp
    all_goals with_reducible rfl
  simp only [Act.put, List.setIfInBounds_toArray, List.set_cons_zero, List.set_cons_succ]
  refine wpAnyH_take (i := 42) (oi := { dst := some 100, op := Op.move (Operand.tmp 99), type := 4, pos := "law.go:56", after := #[{ on := 41, ground := Ground.data }, { on := 39, ground := Ground.chain }], guard := none }) (v := ?_) rfl (by kernel_rfl) (by kernel_rfl) (by kernel_rfl) (fun _ _ _ h => h) (Or.inl ⟨by rfl, ?_⟩) (by assumption) ?_
  rotate_left
  · intro w hSw
    clear hSw
    go_simp
    all_goals with_reducible rfl
  simp only [Act.put, List.setIfInBounds_toArray, List.set_cons_zero, List.set_cons_succ]
  refine wpAnyH_take (i := 43) (oi := { dst := some 101, op := Op.move (Operand.tmp 1), type := 22, pos := "law.go:56", after := #[{ on := 42, ground := Ground.guard }], guard := some (42, true) }) (v := ?_) rfl (by kernel_rfl) (by kernel_rfl) (by kernel_rfl) (fun _ _ _ h => h) (Or.inl ⟨by rfl, ?_⟩) (by assumption) ?_
  rotate_left
  · intro w hSw
    clear hSw
    go_simp
    all_goals with_reducible rfl
  simp only [Act.put, List.setIfInBounds_toArray, List.set_cons_zero, List.set_cons_succ]
  refine wpAnyH_take (i := 44) (oi := { dst := some 102, op := Op.move (Operand.tmp 9), type := 22, pos := "law.go:56", after := #[{ on := 42, ground := Ground.guard }], guard := some (42, true) }) (v := ?_) rfl (by kernel_rfl) (by kernel_rfl) (by kernel_rfl) (fun _ _ _ h => h) (Or.inl ⟨by rfl, ?_⟩) (by assumption) ?_
  rotate_left
  · intro w hSw
    clear hSw
    go_simp
    all_goals with_reducible rfl
  simp only [Act.put, List.setIfInBounds_toArray, List.set_cons_zero, List.set_cons_succ]
  refine wpAnyH_ready (rs := [45]) (by kernel_rfl) (by simp) ?_
  refine AllReadyH.cons (o := { dst := some 103, op := Op.call { callee := Callee.value (Operand.func 23), args := #[Operand.tmp 101, Operand.tmp 102], argTypes := #[22, 22] }, type := 4, pos := "law.go:56", after := #[{ on := 43, ground := Ground.data }, { on := 44, ground := Ground.data }, { on := 42, ground := Ground.chain }, { on := 42, ground := Ground.guard }], guard := some (42, true) }) rfl (fun K hK => ?_) AllReadyH.nil
  go_simp
  refine (sames_any _ _ L Z8 (V.out.below BZ8.out (Nat.le_refl _)) (U.out.below BZ8.out (Nat.le_refl _)) (by have := HLL.out; omega)).mono ?_
  rintro e Z9 ⟨rfl, hb2⟩
  clear heq2
  have BZ9 : Hid (Below Y.heap.size Y Z9) := BZ8.out.trans (hb2.below _)
  clear BZ8 hb2 hHeld
  refine hK.out _ _ (rangeAt_row ((BZ9.out.block g2 (block_lt_of_row RY.out)).trans RY.out)) (fun hHeld => ?_)
  clear hK K
  try simp only [Act.put, List.setIfInBounds_toArray, List.set_cons_zero, List.set_cons_succ]
  refine wpAnyH_take (i := 46) (oi := { dst := some 104, op := Op.pick (Operand.tmp 100) (Operand.tmp 103) (Operand.const (Value.bool false)), type := 4, pos := "law.go:56", after := #[{ on := 42, ground := Ground.data }, { on := 45, ground := Ground.data }], guard := none }) (v := ?_) rfl (by kernel_rfl) (by kernel_rfl) (by kernel_rfl) (fun _ _ _ h => h) (Or.inl ⟨by rfl, ?_⟩) (by assumption) ?_
  rotate_left
  · intro w hSw
    clear hSw
    go_simp
    all_goals with_reducible rfl
  simp only [Act.put, List.setIfInBounds_toArray, List.set_cons_zero, List.set_cons_succ]
  refine wpAnyH_take (i := 47) (oi := { dst := some 105, op := Op.move (Operand.tmp 104), type := 4, pos := "law.go:56", after := #[{ on := 46, ground := Ground.data }, { on := 45, ground := Ground.chain }], guard := none }) (v := ?_) rfl (by kernel_rfl) (by kernel_rfl) (by kernel_rfl) (fun _ _ _ h => h) (Or.inl ⟨by rfl, ?_⟩) (by assumption) ?_
  rotate_left
  · intro w hSw
    clear hSw
    go_simp
    all_goals with_reducible rfl
  simp only [Act.put, List.setIfInBounds_toArray, List.set_cons_zero, List.set_cons_succ]
  refine wpAnyH_ready (rs := [48]) (by kernel_rfl) (by simp) ?_
  refine AllReadyH.cons (o := { dst := some 106, op := Op.call { callee := Callee.value (Operand.func 15), args := #[], argTypes := #[] }, type := 4, pos := "law.go:56", after := #[{ on := 47, ground := Ground.chain }, { on := 47, ground := Ground.guard }], guard := some (47, true) }) rfl (fun K hK => ?_) AllReadyH.nil
  go_simp
  refine (known_any Z9 (HK.out.below (BY.out.trans (BZ9.out.mono BY.out.size)) h0)).mono ?_
  rintro e Z10 ⟨rfl, hb2⟩
  have BZf : Hid (Below w.heap.size w Z10) := (BY.out.trans (BZ9.out.mono BY.out.size)).trans (hb2.mono (Nat.le_trans BY.out.size BZ9.out.size))
  have BZ10 : Hid (Below Y.heap.size Y Z10) := BZ9.out.trans (hb2.mono BZ9.out.size)
  clear BZ9 hb2 hHeld
  refine hK.out _ _ (rangeAt_row ((BZ10.out.block g2 (block_lt_of_row RY.out)).trans RY.out)) (fun hHeld => ?_)
  clear hK K
  try simp only [Act.put, List.setIfInBounds_toArray, List.set_cons_zero, List.set_cons_succ]
  refine wpAnyH_take (i := 49) (oi := { dst := some 107, op := Op.pick (Operand.tmp 105) (Operand.tmp 106) (Operand.const (Value.bool false)), type := 4, pos := "law.go:56", after := #[{ on := 47, ground := Ground.data }, { on := 48, ground := Ground.data }], guard := none }) (v := ?_) rfl (by kernel_rfl) (by kernel_rfl) (by kernel_rfl) (fun _ _ _ h => h) (Or.inl ⟨by rfl, ?_⟩) (by assumption) ?_
  rotate_left
  · intro w hSw
    clear hSw
    go_simp
    all_goals with_reducible rfl
  simp only [Act.put, List.setIfInBounds_toArray, List.set_cons_zero, List.set_cons_succ]
  refine wpAnyH_take (i := 50) (oi := { dst := some 8, op := Op.assign (Operand.tmp 107), type := 4, pos := "law.go:56", after := #[{ on := 49, ground := Ground.data }, { on := 48, ground := Ground.chain }, { on := 0, ground := Ground.phase }, { on := 1, ground := Ground.phase }, { on := 2, ground := Ground.phase }, { on := 3, ground := Ground.phase }, { on := 4, ground := Ground.phase }, { on := 5, ground := Ground.phase }, { on := 6, ground := Ground.phase }, { on := 7, ground := Ground.phase }, { on := 8, ground := Ground.phase }, { on := 9, ground := Ground.phase }, { on := 10, ground := Ground.phase }, { on := 11, ground := Ground.phase }, { on := 12, ground := Ground.phase }, { on := 13, ground := Ground.phase }, { on := 14, ground := Ground.phase }, { on := 15, ground := Ground.phase }, { on := 16, ground := Ground.phase }, { on := 17, ground := Ground.phase }, { on := 18, ground := Ground.phase }, { on := 19, ground := Ground.phase }, { on := 20, ground := Ground.phase }, { on := 21, ground := Ground.phase }, { on := 22, ground := Ground.phase }, { on := 23, ground := Ground.phase }, { on := 24, ground := Ground.phase }, { on := 25, ground := Ground.phase }, { on := 26, ground := Ground.phase }, { on := 27, ground := Ground.phase }, { on := 28, ground := Ground.phase }, { on := 29, ground := Ground.phase }, { on := 30, ground := Ground.phase }, { on := 31, ground := Ground.phase }, { on := 32, ground := Ground.phase }, { on := 33, ground := Ground.phase }, { on := 34, ground := Ground.phase }, { on := 35, ground := Ground.phase }, { on := 36, ground := Ground.phase }, { on := 37, ground := Ground.phase }, { on := 38, ground := Ground.phase }, { on := 39, ground := Ground.phase }, { on := 40, ground := Ground.phase }, { on := 41, ground := Ground.phase }, { on := 42, ground := Ground.phase }, { on := 43, ground := Ground.phase }, { on := 44, ground := Ground.phase }, { on := 45, ground := Ground.phase }, { on := 46, ground := Ground.phase }, { on := 47, ground := Ground.phase }, { on := 48, ground := Ground.phase }, { on := 49, ground := Ground.phase }], guard := none }) (v := ?_) rfl (by kernel_rfl) (by kernel_rfl) (by kernel_rfl) (fun _ _ _ h => h) (Or.inl ⟨by rfl, ?_⟩) (by assumption) ?_
  rotate_left
  · intro w hSw
    clear hSw
    go_simp
    all_goals with_reducible rfl
  simp only [Act.put, List.setIfInBounds_toArray, List.set_cons_zero, List.set_cons_succ]
  refine wpAnyH_done (by kernel_rfl) ?_ _
  refine NoPanic.normal ?_
  clear hHeld
  go_wp2_with fail
  go_ret
  exact ⟨rfl, BZf.out⟩
end Go.Proofs.YtmhmebblmgfgaaaDoor
