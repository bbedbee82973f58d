/- MerkleTurned. -/
import Derived.Test.YtmhmebblmgfgaaaDoorOa
import Derived.Test.YtmhmebblmgfgaaaDoorNd
import Derived.Test.YtmhmebblmgfgaaaDoorMj
import Derived.Test.YtmhmebblmgfgaaaDoorOg
import Derived.Test.YtmhmebblmgfgaaaDoorWithin
import Derived.Test.YtmhmebblmgfgaaaDoorOf
namespace Go.Proofs.YtmhmebblmgfgaaaDoor
open Go.RowKit

theorem S.set_same (l : List (List UInt8)) (k : Nat) (hk : k < l.length) : l.set k (l.getD k []) = l := by
  apply List.ext_getElem?
  intro j
  rw [List.getElem?_set]
  by_cases h : k = j
  · subst h
    rw [if_pos rfl, if_pos hk, List.getD_eq_getElem?_getD, List.getElem?_eq_getElem hk]
    rfl
  · rw [if_neg h]
theorem Fit.snoc {l : List (List UInt8)} {b : List UInt8} (h : Fit l) (hb : b.length + 1 ≤ 140737488355000) : Fit (l ++ [b]) := fun x hx => by
  rw [List.mem_append, List.mem_singleton] at hx
  rcases hx with hx | rfl
  · exact h x hx
  · exact hb
theorem Fit.set {l : List (List UInt8)} {b : List UInt8} (h : Fit l) (k : Nat) (hb : b.length + 1 ≤ 140737488355000) : Fit (l.set k b) := fun x hx => by
  rcases List.mem_or_eq_of_mem_set hx with hx | rfl
  · exact h x hx
  · exact hb
theorem pow_wrap {d : Nat} (h : d ≤ 5) : wrap64 ((2 : Int) ^ d) = ((2 ^ d : Nat) : Int) := by
  have : ∀ y : Fin 8, wrap64 ((2 : Int) ^ y.val) = ((2 ^ y.val : Nat) : Int) := by decide +kernel
  exact this ⟨d, by omega⟩
set_option maxHeartbeats 16000000 in
set_option maxRecDepth 10000 in
theorem merkleTurned_walk (v0 vb : Value) (bss : List (List UInt8)) (at0 : Int) (bs : List UInt8) (w : World) (hv : BsAt w v0 bss) (hmax : bss.length ≤ 140737488355328) (h1 : -9223372036854775808 ≤ at0) (h2 : at0 ≤ 9223372036854775807) (hb : SliceAt w vb bs) (hbl : bs.length + 1 ≤ 140737488355000) (hK : KAt w) :
   Calls Tryd.prog 8 #[v0, .int .i64 at0, vb] w fun e w' => e = .returned (.bool true) ∧ Below w.heap.size w w' := by
  obtain ⟨ao, cap0, rfl, hcap0⟩ := hv.form
  obtain ⟨bo, bn, bc, rfl, hbn, hbm⟩ := hb.form
  obtain ⟨N0, hN0⟩ : ∃ N, N = bss.length := ⟨_, rfl⟩
  have HV0 := hide hv
  rw [← hN0] at HV0 hmax ⊢
  have HN0 := hide hN0
  have HK := hide hK
  have h0 := hK.pos
  have BS := hide hb
  have HBL := hide hbl
  clear hK hv hcap0 hN0 hb hbl hbn hbm
  go_enter Tryd.func8, Tryd.ntmps8
  go_wp2_with fail
  refine (few_any bss _ 30 40 w (by omega) (by omega) HV0.out (by rw [← HN0.out]; exact hmax)).mono ?_
  rintro e w1 ⟨vl, rfl, t1, b1⟩
  obtain ⟨L, hL⟩ : ∃ L, L = S.few bss 30 40 := ⟨_, rfl⟩
  have hlen : L.length ≤ 30 := by rw [hL, S.few_length]; omega
  have hfit : Fit L := by rw [hL]; exact S.few_fit _ _ _ (by omega)
  have hff : S.few L 30 40 = L := by rw [hL, S.few_few]
  rw [← hL] at t1
  obtain ⟨lo, lc, rfl⟩ := t1.form
  have T1 := hide t1
  have HF := hide hfit
  have HFF := hide hff
  obtain ⟨N, hN⟩ : ∃ N, N = L.length := ⟨_, rfl⟩
  rw [← hN] at T1 hlen ⊢
  have HN := hide hN
  have B1 := hide b1
  clear t1 b1 hL hfit hff hN HV0
  go_wp2_with fail
  refine (root_any 32 _ L w1 T1.out.bsAt (by rw [← HN.out]; omega) HF.out (HK.out.below B1.out h0)).mono ?_
  rintro e w2 ⟨rfl, b2⟩
  obtain ⟨D, hD⟩ : ∃ DD, DD = S.root 32 L := ⟨_, rfl⟩
  rw [← hD]
  have LD := hide (show D.length = 32 by rw [hD, S.root_length])
  have HD := hide hD
  obtain ⟨AL, Y, hal, hst, ry, by1, sy⟩ := lay_dig w2 D LD.out
  obtain ⟨g7, hg7⟩ : ∃ g2, g2 = w2.heap.size := ⟨_, rfl⟩
  rw [← hg7] at hal hst ry
  have b1Y : Below w1.heap.size w1 Y := b2.trans (by1.mono b2.size)
  have BY := hide (B1.out.trans (b1Y.mono B1.out.size))
  have RY := hide ry
  have TY := hide (T1.out.below b1Y)
  clear hD b2 by1 sy hg7 ry b1Y T1 B1
  go_wp2_with (first | (with_reducible refine at_op { dst := some 7, op := Op.alloc 31, type := 0, pos := "law.go:107", after := #[], guard := none } ?_; refine wpList_alloc_known rfl 31 rfl (.pointer (some ⟨g7, 0, none⟩)) AL hal ?_) | (with_reducible refine at_op { dst := none, op := Op.store 31 (Operand.tmp 7) (Operand.tmp 17), type := 0, pos := "law.go:107", after := #[{ on := 2, ground := Ground.data }, { on := 1, ground := Ground.data }, { on := 1, ground := Ground.chain }, { on := 0, ground := Ground.phase }, { on := 1, ground := Ground.phase }, { on := 2, ground := Ground.phase }], guard := none } ?_; refine wpList_store_as rfl 31 (.tmp 7) (.tmp 17) rfl (.pointer (some ⟨g7, 0, none⟩)) (.agg (S.v8 D)) rfl rfl Y hst ?_))
  clear hal hst
  refine (hasher_any 32 Y).mono ?_
  rintro e w3 ⟨gh, gT, rfl, hs3, b3⟩
  have H3 := hide hs3
  have T3 := hide (TY.out.below b3)
  have R3 : Hid (w3.heap[g7]? = some (.cells (S.v8 D) 31 (0, 0))) := (b3.block _ (block_lt_of_row RY.out)).trans RY.out
  have B3 := hide (BY.out.trans (b3.mono BY.out.size))
  clear hs3 b3 TY RY BY
  -- more
  obtain ⟨W3, hW3⟩ : ∃ W, W = w3.alloc (.cells #[] 34) := ⟨_, rfl⟩
  have bW3 : Below w3.heap.size w3 W3 := by rw [hW3]; exact (Below.refl _ _).alloc (Nat.le_refl _) _
  have rW3 : W3.heap[w3.heap.size]? = some (.cells #[] 34 (0, 0)) := by rw [hW3]; exact heap_alloc_new _ _
  have KC := hide (run_copy_tx W3 w.heap.size w3.heap.size (.slice lo N lc) L 22 rW3 (T3.out.below bW3) (fun k hk => by obtain ⟨vs, q1, _⟩ := T3.out.ls; exact q1.lt hk) (fun W hW => T3.out.below (bW3.trans hW)) (by rw [← HN.out]; omega))
  have KD : Hid (∀ (o4 : Option Addr) (c4 : Nat) (w4 : World), TxRow w3.heap.size w4 (.slice o4 N c4) L → Below w3.heap.size W3 w4 → ∃ v5 w5, (Builtin.append_ #[22, 22] 22 #[.slice o4 N c4, .slice (some ⟨w4.heap.size, 0, none⟩) 1 1]).run Tryd.prog (w4.alloc (.cells #[.slice bo bn bc] 34)) = .ok v5 w5 ∧ (TxRow w3.heap.size w5 v5 (L ++ [bs]) ∧ Below w3.heap.size w3 w5)) := fun o4 c4 w4 ht hb4 => by
    have b4 : Below w4.heap.size w4 (w4.alloc (.cells #[.slice bo bn bc] 34)) := (Below.refl _ _).alloc (Nat.le_refl _) _
    have b34 : Below w3.heap.size w3 w4 := bW3.trans hb4
    have b3a : Below w3.heap.size w3 (w4.alloc (.cells #[.slice bo bn bc] 34)) := b34.trans (b4.mono b34.size)
    obtain ⟨v5, w5, a1, a2, a3⟩ := run_append_tx (w4.alloc (.cells #[.slice bo bn bc] 34)) w3.heap.size w4.heap.size (.slice o4 N c4) bo bn bc L bs 22 (ht.below b4) (heap_alloc_new _ _) (fun W hW => by
      obtain ⟨_, _, _, q3, _⟩ := ht.ls
      have hWb : Below w3.heap.size w3 W := b3a.trans (hW.below _ b3a.size (fun k hk e => by have := q3 k e; omega))
      exact BS.out.below (B3.out.trans (hWb.mono B3.out.size)) (Nat.le_refl _)) (by rw [← HN.out]; omega) b3a.size
    exact ⟨v5, w5, a1, a2, b3a.trans a3⟩
  rw [hW3] at KC KD
  clear hW3 bW3 rW3
  go_wp2_with (first | (at_builtin; (refine wpList_append_known rfl (.tmp 19) (.tmp 20) 22 22 rfl _ _ rfl rfl KC.out ?_; rintro v4 w4 ⟨ht4, hb4⟩; obtain ⟨o4, c4, rfl⟩ := ht4.form; rw [← HN.out] at ht4 ⊢; have K4 := hide (KD.out o4 c4 w4 ht4 hb4); clear ht4 hb4)) | (at_builtin; (refine wpList_append_known rfl (.tmp 21) (.tmp 23) 22 22 rfl _ _ rfl rfl K4.out ?_; rintro v5 w5 ⟨ht5, hb5⟩; obtain ⟨o5, c5, rfl⟩ := ht5.form; obtain ⟨N1, hN1⟩ : ∃ N1, N1 = (L ++ [bs]).length := ⟨_, rfl⟩; have M5 := hide ht5.bsAt; rw [← hN1] at M5 ⊢; have B35 := hide hb5; clear ht5 hb5 hN1)))
  have HN1 := hide (show (L ++ [bs]).length ≤ 256 by rw [List.length_append, ← HN.out]; simp; omega)
  have R5 : Hid (w5.heap[g7]? = some (.cells (S.v8 D) 31 (0, 0))) := (B35.out.block _ (block_lt_of_row R3.out)).trans R3.out
  have T5 := hide (T3.out.below B35.out)
  have H5 := hide (H3.out.below B35.out (Nat.le_refl _))
  have B5 := hide (B3.out.trans (B35.out.mono B3.out.size))
  clear KC KD K4 T3 R3 H3 B3 B35
  have hsz := size_dig D LD.out
  refine wp_region_noPanic ?_
  refine wp_region_held_drew (S := (fun W => Below w5.heap.size w5 W)) follows ((Below.refl _ _).drew) (fun hHeld => ?_)
  clear hHeld
  have hHeld : Below w5.heap.size w5 w5.drew := (Below.refl _ _).drew
  have BZ0 := hide hHeld
  generalize w5.drew = Z0 at BZ0 hHeld ⊢
  refine wpAnyH_take (i := 0) (oi := { dst := some 25, op := Op.move (Operand.tmp 9), type := 22, pos := "law.go:110", after := #[], guard := none }) (v := ?_) rfl (by kernel_rfl) (by kernel_rfl) (by kernel_rfl) (fun _ _ _ h => h) (Or.inl ⟨by rfl, ?_⟩) (by assumption) ?_
  rotate_left
  · intro w hSw
    clear hSw
    go_simp
    all_goals with_reducible rfl
  simp only [Act.put, List.setIfInBounds_toArray, List.set_cons_zero, List.set_cons_succ]
  refine wpAnyH_take (i := 2) (oi := { dst := some 27, op := Op.load 31 (Operand.tmp 7), type := 31, pos := "law.go:110", after := #[], guard := none }) (v := .agg (S.v8l D).toArray) rfl (by kernel_rfl) (by kernel_rfl) (by kernel_rfl) (fun _ _ _ h => h) (yieldsIf_load_mid (by rfl) _ _ rfl g7 0 rfl (S.v8l D) _ (fun _ hSw => rangeAt_row ((hSw.block g7 (block_lt_of_row R5.out)).trans R5.out)) Tryd.underlying31 rfl hsz) (by assumption) ?_
  simp only [Act.put, List.setIfInBounds_toArray, List.set_cons_zero, List.set_cons_succ]
  refine wpAnyH_take (i := 4) (oi := { dst := some 29, op := Op.move (Operand.tmp 8), type := 37, pos := "law.go:110", after := #[], guard := none }) (v := ?_) rfl (by kernel_rfl) (by kernel_rfl) (by kernel_rfl) (fun _ _ _ h => h) (Or.inl ⟨by rfl, ?_⟩) (by assumption) ?_
  rotate_left
  · intro w hSw
    clear hSw
    go_simp
    all_goals with_reducible rfl
  simp only [Act.put, List.setIfInBounds_toArray, List.set_cons_zero, List.set_cons_succ]
  refine wpAnyH_take (i := 5) (oi := { dst := some 30, op := Op.move (Operand.tmp 9), type := 22, pos := "law.go:110", after := #[], guard := none }) (v := ?_) rfl (by kernel_rfl) (by kernel_rfl) (by kernel_rfl) (fun _ _ _ h => h) (Or.inl ⟨by rfl, ?_⟩) (by assumption) ?_
  rotate_left
  · intro w hSw
    clear hSw
    go_simp
    all_goals with_reducible rfl
  simp only [Act.put, List.setIfInBounds_toArray, List.set_cons_zero, List.set_cons_succ]
  refine wpAnyH_take (i := 7) (oi := { dst := some 32, op := Op.move (Operand.tmp 8), type := 37, pos := "law.go:110", after := #[], guard := none }) (v := ?_) rfl (by kernel_rfl) (by kernel_rfl) (by kernel_rfl) (fun _ _ _ h => h) (Or.inl ⟨by rfl, ?_⟩) (by assumption) ?_
  rotate_left
  · intro w hSw
    clear hSw
    go_simp
    all_goals with_reducible rfl
  simp only [Act.put, List.setIfInBounds_toArray, List.set_cons_zero, List.set_cons_succ]
  refine wpAnyH_take (i := 8) (oi := { dst := some 33, op := Op.move (Operand.tmp 0), type := 22, pos := "law.go:110", after := #[], guard := none }) (v := ?_) rfl (by kernel_rfl) (by kernel_rfl) (by kernel_rfl) (fun _ _ _ h => h) (Or.inl ⟨by rfl, ?_⟩) (by assumption) ?_
  rotate_left
  · intro w hSw
    clear hSw
    go_simp
    all_goals with_reducible rfl
  simp only [Act.put, List.setIfInBounds_toArray, List.set_cons_zero, List.set_cons_succ]
  refine wpAnyH_ready (rs := [1]) (by kernel_rfl) (by simp) ?_
  refine AllReadyH.cons (o := { dst := some 26, op := Op.call { callee := Callee.value (Operand.func 13), args := #[Operand.const (Value.int IntKind.i64 32), Operand.tmp 25], argTypes := #[3, 22] }, type := 31, pos := "law.go:110", after := #[{ on := 0, ground := Ground.data }], guard := none }) rfl (fun K hK => ?_) AllReadyH.nil
  go_simp
  refine (root_any 32 _ (L ++ [bs]) Z0 (M5.out.below BZ0.out (Nat.le_refl _)) HN1.out (HF.out.snoc HBL.out) (HK.out.below (B5.out.trans (BZ0.out.mono B5.out.size)) h0)).mono ?_
  rintro e Z1 ⟨rfl, hb2⟩
  obtain ⟨X, hX⟩ : ∃ DD, DD = S.root 32 (L ++ [bs]) := ⟨_, rfl⟩
  rw [← hX]
  have LX := hide (show X.length = 32 by rw [hX, S.root_length])
  have HX := hide hX
  clear hX
  obtain ⟨eb, heb⟩ : ∃ b : Bool, b = (X == D) := ⟨_, rfl⟩
  have heq1 : ∀ w, (Op.equalIn 10000 31 (.agg (S.v8 X)) (.agg (S.v8l D).toArray)).run Tryd.prog w = .ok eb w := fun w => equal_dig X D LX.out LD.out eb heb.symm w
  have heq2 : ∀ w, (Op.equalIn 10000 31 (.agg (S.v8 X)) (.agg (S.v8 D))).run Tryd.prog w = .ok eb w := fun w => equal_dig X D LX.out LD.out eb heb.symm w
  have HEB := hide heb
  clear heb
  have BZ1 : Hid (Below w5.heap.size w5 Z1) := BZ0.out.trans (hb2.mono BZ0.out.size)
  clear BZ0 hb2 hHeld
  refine hK.out _ _ BZ1.out (fun hHeld => ?_)
  clear hK K
  try simp only [Act.put, List.setIfInBounds_toArray, List.set_cons_zero, List.set_cons_succ]
  refine wpAnyH_take (i := 3) (oi := { dst := some 28, op := Op.binOp BinOp.eql 31 (Operand.tmp 26) (Operand.tmp 27) 31, type := 4, pos := "law.go:110", after := #[{ on := 1, ground := Ground.data }, { on := 2, ground := Ground.data }], guard := none }) (v := ?_) rfl (by kernel_rfl) (by kernel_rfl) (by kernel_rfl) (fun _ _ _ h => h) (Or.inl ⟨by rfl, ?_⟩) (by assumption) ?_
  rotate_left
  · intro w hSw
    clear hSw
    go_simp
    all_goals with_reducible rfl
  simp only [Act.put, List.setIfInBounds_toArray, List.set_cons_zero, List.set_cons_succ]
  refine wpAnyH_ready (rs := [6]) (by kernel_rfl) (by simp) ?_
  refine AllReadyH.cons (o := { dst := some 31, op := Op.call { callee := Callee.value (Operand.func 20), args := #[Operand.tmp 29, Operand.tmp 30], argTypes := #[37, 22] }, type := 31, pos := "law.go:110", after := #[{ on := 4, ground := Ground.data }, { on := 5, ground := Ground.data }, { on := 1, ground := Ground.chain }], guard := none }) rfl (fun K hK => ?_) AllReadyH.nil
  go_simp
  refine (hroot_any gh gT 32 _ (L ++ [bs]) _ Z1 rfl HN1.out (M5.out.below BZ1.out (Nat.le_refl _)) (HF.out.snoc HBL.out) (H5.out.below BZ1.out (Nat.le_refl _))).mono ?_
  rintro e Z2 ⟨rfl, hb2⟩
  rw [← HX.out]
  have BZ2 : Hid (Below w5.heap.size w5 Z2) := BZ1.out.trans (hb2.mono BZ1.out.size)
  clear BZ1 hb2 hHeld
  refine hK.out _ _ BZ2.out (fun hHeld => ?_)
  clear hK K
  try simp only [Act.put, List.setIfInBounds_toArray, List.set_cons_zero, List.set_cons_succ]
  refine wpAnyH_ready (rs := [9]) (by kernel_rfl) (by simp) ?_
  refine AllReadyH.cons (o := { dst := some 34, op := Op.call { callee := Callee.value (Operand.func 20), args := #[Operand.tmp 32, Operand.tmp 33], argTypes := #[37, 22] }, type := 31, pos := "law.go:110", after := #[{ on := 7, ground := Ground.data }, { on := 8, ground := Ground.data }, { on := 6, ground := Ground.chain }], guard := none }) rfl (fun K hK => ?_) AllReadyH.nil
  go_simp
  refine (hroot_any gh gT 32 _ L _ Z2 rfl (by rw [← HN.out]; omega) (T5.out.bsAt.below BZ2.out (Nat.le_refl _)) HF.out (H5.out.below BZ2.out (Nat.le_refl _))).mono ?_
  rintro e Z3 ⟨rfl, hb2⟩
  rw [← HD.out]
  have BZ3 : Hid (Below w5.heap.size w5 Z3) := BZ2.out.trans (hb2.mono BZ2.out.size)
  clear BZ2 hb2 hHeld
  refine hK.out _ _ BZ3.out (fun hHeld => ?_)
  clear hK K
  try simp only [Act.put, List.setIfInBounds_toArray, List.set_cons_zero, List.set_cons_succ]
  refine wpAnyH_take (i := 10) (oi := { dst := some 35, op := Op.binOp BinOp.eql 31 (Operand.tmp 31) (Operand.tmp 34) 31, type := 4, pos := "law.go:110", after := #[{ on := 6, ground := Ground.data }, { on := 9, ground := Ground.data }], guard := none }) (v := ?_) rfl (by kernel_rfl) (by kernel_rfl) (by kernel_rfl) (fun _ _ _ h => h) (Or.inl ⟨by rfl, ?_⟩) (by assumption) ?_
  rotate_left
  · intro w hSw
    clear hSw
    go_simp
    all_goals with_reducible rfl
  simp only [Act.put, List.setIfInBounds_toArray, List.set_cons_zero, List.set_cons_succ]
  refine wpAnyH_take (i := 11) (oi := { dst := some 36, op := Op.binOp BinOp.neq 4 (Operand.tmp 28) (Operand.tmp 35) 4, type := 4, pos := "law.go:110", after := #[{ on := 3, ground := Ground.data }, { on := 10, ground := Ground.data }], guard := none }) (v := ?_) rfl (by kernel_rfl) (by kernel_rfl) (by kernel_rfl) (fun _ _ _ h => h) (Or.inl ⟨by rfl, ?_⟩) (by assumption) ?_
  rotate_left
  · intro w hSw
    clear hSw
    go_simp
    all_goals with_reducible rfl
  simp only [Act.put, List.setIfInBounds_toArray, List.set_cons_zero, List.set_cons_succ]
  refine wpAnyH_done (by kernel_rfl) ?_ _
  refine NoPanic.normal ?_
  clear hHeld
  obtain ⟨Zf, hZf⟩ : ∃ Z, Z = Z3 := ⟨_, rfl⟩
  rw [← hZf] at BZ3 ⊢
  clear hZf
  have BZf := hide (B5.out.trans (BZ3.out.mono B5.out.size))
  have T6 := hide (T5.out.below BZ3.out)
  have H6 := hide (H5.out.below BZ3.out (Nat.le_refl _))
  have R6 : Hid (Zf.heap[g7]? = some (.cells (S.v8 D) 31 (0, 0))) := (BZ3.out.block _ (block_lt_of_row R5.out)).trans R5.out
  clear BZ3 T5 H5 R5 B5 M5 HN1 heq1 heq2 HEB HX LX
  by_cases hz : N = 0
  · subst hz
    go_wp2_with fail
    refine (known_any Zf (HK.out.below BZf.out h0)).mono ?_
    rintro e w9 ⟨rfl, b9⟩
    have B9 := hide (BZf.out.trans (b9.mono BZf.out.size))
    clear b9
    go_wp2_with fail
    go_ret
    exact ⟨rfl, B9.out⟩
  have qz : ((N : Int) == 0) = false := by simp; omega
  have qn : IntKind.i64.wrap ((N : Int) - 1) = (N : Int) - 1 := by rw [IntKind.wrap_i64]; omega
  go_wp2_with fail
  clear qz qn
  refine (within_any at0 ((N : Int) - 1) Zf h1 h2 (by omega) (by omega)).mono ?_
  rintro e w6 ⟨rfl, rfl⟩
  have hkl := S.within_le at0 ((N : Int) - 1) (by omega)
  obtain ⟨k, hk⟩ : ∃ k, k = S.within at0 ((N : Int) - 1) := ⟨_, rfl⟩
  rw [← hk] at hkl ⊢
  have hkN : k < N := by omega
  clear hk hkl
  go_wp2_with fail
  refine (few_any L _ 30 40 Zf (by omega) (by omega) T6.out.bsAt (by rw [← HN.out]; omega)).mono ?_
  rintro e w7 ⟨vm, rfl, t7, b7⟩
  rw [HFF.out] at t7
  obtain ⟨vs7, l7, n7, base7, el7⟩ := t7.ls
  rcases l7 with ⟨rfl, rfl⟩ | ⟨gm, om, cm, cur7, rfl, q1, q2, q3, q4⟩
  · exfalso; simp at n7; have := HN.out; omega
  rw [n7, ← HN.out]
  have hv7 : vs7[k]? = some (vs7[k]'(by have := HN.out; omega)) := List.getElem?_eq_getElem _
  have c1 : w7.cell? ⟨gm, om + k, none⟩ = some (vs7[k]'(by have := HN.out; omega)) := by rw [cell_of_row w7 gm (om + k) _ _ _ q1]; exact q4 k _ hv7
  have cf : w7.frozen? ⟨gm, om + k, none⟩ = false := frozen_of_row _ _ (om + k) _ _ q1
  generalize vs7[k]'(by have := HN.out; omega) = xold at c1
  have hgm : Zf.heap.size ≤ gm := base7 gm rfl
  have T7 : Hid (TxRow Zf.heap.size w7 (.slice (some ⟨gm, om, none⟩) N cm) L) := by have := t7; rw [n7, ← HN.out] at this; exact this
  have SET := T7.out.set k (by rw [← HN.out]; exact hkN) (.slice bo bn bc) bs (fun W hW => BS.out.below ((BZf.out.trans (b7.mono BZf.out.size)).trans (hW.below w.heap.size (Nat.le_trans BZf.out.size b7.size) (fun j hj e => by have := BZf.out.size; omega))) (Nat.le_refl _))
  obtain ⟨W8, hW8⟩ : ∃ W, W = w7.setCell ⟨gm, om + k, none⟩ (.slice bo bn bc) := ⟨_, rfl⟩
  rw [← hW8] at SET
  have b8 : Below Zf.heap.size Zf W8 := b7.trans (SET.2.mono hgm)
  have M8 := hide SET.1
  have T8 := hide (T6.out.below b8)
  have H8 := hide (H6.out.below b8 (Nat.le_refl _))
  have R8 : Hid (W8.heap[g7]? = some (.cells (S.v8 D) 31 (0, 0))) := (b8.block _ (block_lt_of_row R6.out)).trans R6.out
  have B8 := hide (BZf.out.trans (b8.mono BZf.out.size))
  have p1 : (0 : Int) ≤ (k : Int) := by omega
  have p2 : (k : Int) < (N : Int) := by omega
  have HW8 := hide hW8
  clear SET hW8 b8 hv7 T7 t7 base7 el7 hgm q1 q2 q3 q4 b7 n7 T6 H6 R6 BZf
  go_wp2_with fail
  rw [← HW8.out]
  clear c1 cf HW8
  obtain ⟨bl, offl, cl, e9, e9', e9b, hcl⟩ := T8.out.bsAt.src (by rw [← HN.out]; omega)
  simp only [Value.slice.injEq] at e9
  obtain ⟨rfl, e9n, rfl⟩ := e9
  obtain ⟨x, hx, hxs⟩ := hcl k (by rw [← HN.out]; exact hkN)
  obtain ⟨xo, xl, xc, rfl, hxl, hxm⟩ := hxs.form
  have CX := hide hx
  have XS := hide hxs
  have HBLT := hide e9b
  have B8S := hide (BS.out.below B8.out (Nat.le_refl _))
  have FS := hide (HF.out.set k HBL.out)
  have LS := hide (show (L.set k bs).length ≤ 256 by rw [List.length_set, ← HN.out]; omega)
  clear e9n e9' e9b hcl hx hxs hxl hxm
  by_cases hsame : bs = L.getD k []
  · have ESET := hide (show L.set k bs = L by rw [hsame]; exact S.set_same L k (by rw [← HN.out]; exact hkN))
    obtain ⟨Tx, hTx⟩ : ∃ T, T = (⟨bs.toArray⟩ : ByteArray) := ⟨_, rfl⟩
    have K1 : Hid (∀ W : World, Below W8.heap.size W8 W → (convert 34 9 (.slice bo bn bc)).run Tryd.prog W = .ok (.string Tx) W) := fun W hW => by rw [hTx]; exact conv_slice (B8S.out.below hW (Nat.le_refl _))
    have K2 : Hid (∀ W : World, Below W8.heap.size W8 W → (convert 34 9 (.slice xo xl xc)).run Tryd.prog W = .ok (.string Tx) W) := fun W hW => by rw [hTx, hsame]; exact conv_slice (XS.out.below hW (Nat.le_refl _))
    clear hTx hsame
    refine wp_region_noPanic ?_
    refine wp_region_held_drew (S := (fun W => Below W8.heap.size W8 W)) follows ((Below.refl _ _).drew) (fun hHeld => ?_)
    clear hHeld
    have hHeld : Below W8.heap.size W8 W8.drew := (Below.refl _ _).drew
    have BZ0 := hide hHeld
    generalize W8.drew = Z0 at BZ0 hHeld ⊢
    refine wpAnyH_take (i := 0) (oi := { dst := some 52, op := Op.move (Operand.tmp 10), type := 22, pos := "law.go:119", after := #[], guard := none }) (v := ?_) rfl (by kernel_rfl) (by kernel_rfl) (by kernel_rfl) (fun _ _ _ h => h) (Or.inl ⟨by rfl, ?_⟩) (by assumption) ?_
    rotate_left
    · intro w hSw
      clear hSw
      go_simp
      all_goals with_reducible rfl
    simp only [Act.put, List.setIfInBounds_toArray, List.set_cons_zero, List.set_cons_succ]
    refine wpAnyH_take (i := 2) (oi := { dst := some 54, op := Op.load 31 (Operand.tmp 7), type := 31, pos := "law.go:119", after := #[], guard := none }) (v := .agg (S.v8l D).toArray) rfl (by kernel_rfl) (by kernel_rfl) (by kernel_rfl) (fun _ _ _ h => h) (yieldsIf_load_mid (by rfl) _ _ rfl g7 0 rfl (S.v8l D) _ (fun _ hSw => rangeAt_row ((hSw.block g7 (block_lt_of_row R8.out)).trans R8.out)) Tryd.underlying31 rfl hsz) (by assumption) ?_
    simp only [Act.put, List.setIfInBounds_toArray, List.set_cons_zero, List.set_cons_succ]
    refine wpAnyH_take (i := 4) (oi := { dst := some 56, op := Op.move (Operand.tmp 8), type := 37, pos := "law.go:119", after := #[], guard := none }) (v := ?_) rfl (by kernel_rfl) (by kernel_rfl) (by kernel_rfl) (fun _ _ _ h => h) (Or.inl ⟨by rfl, ?_⟩) (by assumption) ?_
    rotate_left
    · intro w hSw
      clear hSw
      go_simp
      all_goals with_reducible rfl
    simp only [Act.put, List.setIfInBounds_toArray, List.set_cons_zero, List.set_cons_succ]
    refine wpAnyH_take (i := 5) (oi := { dst := some 57, op := Op.move (Operand.tmp 10), type := 22, pos := "law.go:119", after := #[], guard := none }) (v := ?_) rfl (by kernel_rfl) (by kernel_rfl) (by kernel_rfl) (fun _ _ _ h => h) (Or.inl ⟨by rfl, ?_⟩) (by assumption) ?_
    rotate_left
    · intro w hSw
      clear hSw
      go_simp
      all_goals with_reducible rfl
    simp only [Act.put, List.setIfInBounds_toArray, List.set_cons_zero, List.set_cons_succ]
    refine wpAnyH_take (i := 7) (oi := { dst := some 59, op := Op.move (Operand.tmp 8), type := 37, pos := "law.go:119", after := #[], guard := none }) (v := ?_) rfl (by kernel_rfl) (by kernel_rfl) (by kernel_rfl) (fun _ _ _ h => h) (Or.inl ⟨by rfl, ?_⟩) (by assumption) ?_
    rotate_left
    · intro w hSw
      clear hSw
      go_simp
      all_goals with_reducible rfl
    simp only [Act.put, List.setIfInBounds_toArray, List.set_cons_zero, List.set_cons_succ]
    refine wpAnyH_take (i := 8) (oi := { dst := some 60, op := Op.move (Operand.tmp 0), type := 22, pos := "law.go:119", after := #[], guard := none }) (v := ?_) rfl (by kernel_rfl) (by kernel_rfl) (by kernel_rfl) (fun _ _ _ h => h) (Or.inl ⟨by rfl, ?_⟩) (by assumption) ?_
    rotate_left
    · intro w hSw
      clear hSw
      go_simp
      all_goals with_reducible rfl
    simp only [Act.put, List.setIfInBounds_toArray, List.set_cons_zero, List.set_cons_succ]
    refine wpAnyH_ready (rs := [1]) (by kernel_rfl) (by simp) ?_
    refine AllReadyH.cons (o := { dst := some 53, op := Op.call { callee := Callee.value (Operand.func 13), args := #[Operand.const (Value.int IntKind.i64 32), Operand.tmp 52], argTypes := #[3, 22] }, type := 31, pos := "law.go:119", after := #[{ on := 0, ground := Ground.data }], guard := none }) rfl (fun K hK => ?_) AllReadyH.nil
    go_simp
    refine (root_any 32 _ (L.set k bs) Z0 (M8.out.below BZ0.out (Nat.le_refl _)) LS.out FS.out (HK.out.below (B8.out.trans (BZ0.out.mono B8.out.size)) h0)).mono ?_
    rintro e Z1 ⟨rfl, hb2⟩
    obtain ⟨X, hX⟩ : ∃ DD, DD = S.root 32 (L.set k bs) := ⟨_, rfl⟩
    rw [← hX]
    have LX := hide (show X.length = 32 by rw [hX, S.root_length])
    have HX := hide hX
    clear hX
    obtain ⟨eb, heb⟩ : ∃ b : Bool, b = (X == D) := ⟨_, rfl⟩
    have heq1 : ∀ w, (Op.equalIn 10000 31 (.agg (S.v8 X)) (.agg (S.v8l D).toArray)).run Tryd.prog w = .ok eb w := fun w => equal_dig X D LX.out LD.out eb heb.symm w
    have heq2 : ∀ w, (Op.equalIn 10000 31 (.agg (S.v8 X)) (.agg (S.v8 D))).run Tryd.prog w = .ok eb w := fun w => equal_dig X D LX.out LD.out eb heb.symm w
    have HEB := hide heb
    clear heb
    have BZ1 : Hid (Below W8.heap.size W8 Z1) := BZ0.out.trans (hb2.mono BZ0.out.size)
    clear BZ0 hb2 hHeld
    refine hK.out _ _ BZ1.out (fun hHeld => ?_)
    clear hK K
    try simp only [Act.put, List.setIfInBounds_toArray, List.set_cons_zero, List.set_cons_succ]
    refine wpAnyH_take (i := 3) (oi := { dst := some 55, op := Op.binOp BinOp.eql 31 (Operand.tmp 53) (Operand.tmp 54) 31, type := 4, pos := "law.go:119", after := #[{ on := 1, ground := Ground.data }, { on := 2, ground := Ground.data }], guard := none }) (v := ?_) rfl (by kernel_rfl) (by kernel_rfl) (by kernel_rfl) (fun _ _ _ h => h) (Or.inl ⟨by rfl, ?_⟩) (by assumption) ?_
    rotate_left
    · intro w hSw
      clear hSw
      go_simp
      all_goals with_reducible rfl
    simp only [Act.put, List.setIfInBounds_toArray, List.set_cons_zero, List.set_cons_succ]
    refine wpAnyH_ready (rs := [6]) (by kernel_rfl) (by simp) ?_
    refine AllReadyH.cons (o := { dst := some 58, op := Op.call { callee := Callee.value (Operand.func 20), args := #[Operand.tmp 56, Operand.tmp 57], argTypes := #[37, 22] }, type := 31, pos := "law.go:119", after := #[{ on := 4, ground := Ground.data }, { on := 5, ground := Ground.data }, { on := 1, ground := Ground.chain }], guard := none }) rfl (fun K hK => ?_) AllReadyH.nil
    go_simp
    refine (hroot_any gh gT 32 _ (L.set k bs) _ Z1 rfl LS.out (M8.out.below BZ1.out (Nat.le_refl _)) FS.out (H8.out.below BZ1.out (Nat.le_refl _))).mono ?_
    rintro e Z2 ⟨rfl, hb2⟩
    rw [← HX.out]
    have BZ2 : Hid (Below W8.heap.size W8 Z2) := BZ1.out.trans (hb2.mono BZ1.out.size)
    clear BZ1 hb2 hHeld
    refine hK.out _ _ BZ2.out (fun hHeld => ?_)
    clear hK K
    try simp only [Act.put, List.setIfInBounds_toArray, List.set_cons_zero, List.set_cons_succ]
    refine wpAnyH_ready (rs := [9]) (by kernel_rfl) (by simp) ?_
    refine AllReadyH.cons (o := { dst := some 61, op := Op.call { callee := Callee.value (Operand.func 20), args := #[Operand.tmp 59, Operand.tmp 60], argTypes := #[37, 22] }, type := 31, pos := "law.go:119", after := #[{ on := 7, ground := Ground.data }, { on := 8, ground := Ground.data }, { on := 6, ground := Ground.chain }], guard := none }) rfl (fun K hK => ?_) AllReadyH.nil
    go_simp
    refine (hroot_any gh gT 32 _ L _ Z2 rfl (by rw [← HN.out]; omega) (T8.out.bsAt.below BZ2.out (Nat.le_refl _)) HF.out (H8.out.below BZ2.out (Nat.le_refl _))).mono ?_
    rintro e Z3 ⟨rfl, hb2⟩
    rw [← HD.out]
    have BZ3 : Hid (Below W8.heap.size W8 Z3) := BZ2.out.trans (hb2.mono BZ2.out.size)
    clear BZ2 hb2 hHeld
    refine hK.out _ _ BZ3.out (fun hHeld => ?_)
    clear hK K
    try simp only [Act.put, List.setIfInBounds_toArray, List.set_cons_zero, List.set_cons_succ]
    refine wpAnyH_take (i := 10) (oi := { dst := some 62, op := Op.binOp BinOp.eql 31 (Operand.tmp 58) (Operand.tmp 61) 31, type := 4, pos := "law.go:119", after := #[{ on := 6, ground := Ground.data }, { on := 9, ground := Ground.data }], guard := none }) (v := ?_) rfl (by kernel_rfl) (by kernel_rfl) (by kernel_rfl) (fun _ _ _ h => h) (Or.inl ⟨by rfl, ?_⟩) (by assumption) ?_
    rotate_left
    · intro w hSw
      clear hSw
      go_simp
      all_goals with_reducible rfl
    simp only [Act.put, List.setIfInBounds_toArray, List.set_cons_zero, List.set_cons_succ]
    refine wpAnyH_take (i := 11) (oi := { dst := some 63, op := Op.binOp BinOp.neq 4 (Operand.tmp 55) (Operand.tmp 62) 4, type := 4, pos := "law.go:119", after := #[{ on := 3, ground := Ground.data }, { on := 10, ground := Ground.data }], guard := none }) (v := ?_) rfl (by kernel_rfl) (by kernel_rfl) (by kernel_rfl) (fun _ _ _ h => h) (Or.inl ⟨by rfl, ?_⟩) (by assumption) ?_
    rotate_left
    · intro w hSw
      clear hSw
      go_simp
      all_goals with_reducible rfl
    simp only [Act.put, List.setIfInBounds_toArray, List.set_cons_zero, List.set_cons_succ]
    refine wpAnyH_take (i := 12) (oi := { dst := some 64, op := Op.move (Operand.tmp 63), type := 4, pos := "law.go:119", after := #[{ on := 11, ground := Ground.data }, { on := 9, ground := Ground.chain }], guard := none }) (v := ?_) rfl (by kernel_rfl) (by kernel_rfl) (by kernel_rfl) (fun _ _ _ h => h) (Or.inl ⟨by rfl, ?_⟩) (by assumption) ?_
    rotate_left
    · intro w hSw
      clear hSw
      go_simp
      all_goals with_reducible rfl
    simp only [Act.put, List.setIfInBounds_toArray, List.set_cons_zero, List.set_cons_succ]
    refine wpAnyH_take (i := 13) (oi := { dst := some 65, op := Op.move (Operand.tmp 2), type := 34, pos := "law.go:119", after := #[{ on := 12, ground := Ground.guard }], guard := some (12, false) }) (v := ?_) rfl (by kernel_rfl) (by kernel_rfl) (by kernel_rfl) (fun _ _ _ h => h) (Or.inl ⟨by rfl, ?_⟩) (by assumption) ?_
    rotate_left
    · intro w hSw
      clear hSw
      go_simp
      all_goals with_reducible rfl
    simp only [Act.put, List.setIfInBounds_toArray, List.set_cons_zero, List.set_cons_succ]
    refine wpAnyH_take (i := 14) (oi := { dst := some 66, op := Op.convert 34 9 (Operand.tmp 65), type := 9, pos := "law.go:119", after := #[{ on := 13, ground := Ground.data }, { on := 12, ground := Ground.guard }], guard := some (12, false) }) (v := ?_) rfl (by kernel_rfl) (by kernel_rfl) (by kernel_rfl) (fun _ _ _ h => h) (Or.inl ⟨by rfl, ?_⟩) (by assumption) ?_
    rotate_left
    · intro w hSw
      have c4 := K1.out w hSw
      clear hSw
      go_simp
      all_goals with_reducible rfl
    simp only [Act.put, List.setIfInBounds_toArray, List.set_cons_zero, List.set_cons_succ]
    refine wpAnyH_take (i := 15) (oi := { dst := some 67, op := Op.move (Operand.tmp 0), type := 22, pos := "law.go:119", after := #[{ on := 12, ground := Ground.guard }], guard := some (12, false) }) (v := ?_) rfl (by kernel_rfl) (by kernel_rfl) (by kernel_rfl) (fun _ _ _ h => h) (Or.inl ⟨by rfl, ?_⟩) (by assumption) ?_
    rotate_left
    · intro w hSw
      clear hSw
      go_simp
      all_goals with_reducible rfl
    simp only [Act.put, List.setIfInBounds_toArray, List.set_cons_zero, List.set_cons_succ]
    refine wpAnyH_take (i := 16) (oi := { dst := some 68, op := Op.move (Operand.tmp 1), type := 3, pos := "law.go:119", after := #[{ on := 12, ground := Ground.guard }], guard := some (12, false) }) (v := ?_) rfl (by kernel_rfl) (by kernel_rfl) (by kernel_rfl) (fun _ _ _ h => h) (Or.inl ⟨by rfl, ?_⟩) (by assumption) ?_
    rotate_left
    · intro w hSw
      clear hSw
      go_simp
      all_goals with_reducible rfl
    simp only [Act.put, List.setIfInBounds_toArray, List.set_cons_zero, List.set_cons_succ]
    refine wpAnyH_take (i := 17) (oi := { dst := some 69, op := Op.indexAddr 22 (Operand.tmp 67) (Operand.tmp 68), type := 0, pos := "law.go:119", after := #[{ on := 15, ground := Ground.data }, { on := 16, ground := Ground.data }, { on := 12, ground := Ground.guard }], guard := some (12, false) }) (v := ?_) rfl (by kernel_rfl) (by kernel_rfl) (by kernel_rfl) (fun _ _ _ h => h) (Or.inl ⟨by rfl, ?_⟩) (by assumption) ?_
    rotate_left
    · intro w hSw
      clear hSw
      go_simp
      all_goals with_reducible rfl
    simp only [Act.put, List.setIfInBounds_toArray, List.set_cons_zero, List.set_cons_succ]
    refine wpAnyH_take (i := 18) (oi := { dst := some 70, op := Op.load 34 (Operand.tmp 69), type := 34, pos := "law.go:119", after := #[{ on := 17, ground := Ground.data }, { on := 12, ground := Ground.guard }], guard := some (12, false) }) (v := ?_) rfl (by kernel_rfl) (by kernel_rfl) (by kernel_rfl) (fun _ _ _ h => h) (Or.inl ⟨by rfl, ?_⟩) (by assumption) ?_
    rotate_left
    · intro w hSw
      have c4 := (hSw.cell (p := ⟨bl, offl + k, none⟩) HBLT.out).trans CX.out
      clear hSw
      go_simp
      all_goals with_reducible rfl
    simp only [Act.put, List.setIfInBounds_toArray, List.set_cons_zero, List.set_cons_succ]
    refine wpAnyH_take (i := 19) (oi := { dst := some 71, op := Op.convert 34 9 (Operand.tmp 70), type := 9, pos := "law.go:119", after := #[{ on := 18, ground := Ground.data }, { on := 12, ground := Ground.guard }], guard := some (12, false) }) (v := ?_) rfl (by kernel_rfl) (by kernel_rfl) (by kernel_rfl) (fun _ _ _ h => h) (Or.inl ⟨by rfl, ?_⟩) (by assumption) ?_
    rotate_left
    · intro w hSw
      have c4 := K2.out w hSw
      clear hSw
      go_simp
      all_goals with_reducible rfl
    simp only [Act.put, List.setIfInBounds_toArray, List.set_cons_zero, List.set_cons_succ]
    refine wpAnyH_take (i := 20) (oi := { dst := some 72, op := Op.binOp BinOp.eql 9 (Operand.tmp 66) (Operand.tmp 71) 9, type := 4, pos := "law.go:119", after := #[{ on := 14, ground := Ground.data }, { on := 19, ground := Ground.data }, { on := 12, ground := Ground.guard }], guard := some (12, false) }) (v := ?_) rfl (by kernel_rfl) (by kernel_rfl) (by kernel_rfl) (fun _ _ _ h => h) (Or.inl ⟨by rfl, ?_⟩) (by assumption) ?_
    rotate_left
    · intro w hSw
      clear hSw
      go_simp
      all_goals with_reducible rfl
    simp only [Act.put, List.setIfInBounds_toArray, List.set_cons_zero, List.set_cons_succ]
    refine wpAnyH_take (i := 21) (oi := { dst := some 73, op := Op.move (Operand.tmp 72), type := 4, pos := "law.go:119", after := #[{ on := 20, ground := Ground.data }, { on := 12, ground := Ground.chain }, { on := 12, ground := Ground.guard }], guard := some (12, false) }) (v := ?_) rfl (by kernel_rfl) (by kernel_rfl) (by kernel_rfl) (fun _ _ _ h => h) (Or.inl ⟨by rfl, ?_⟩) (by assumption) ?_
    rotate_left
    · intro w hSw
      clear hSw
      go_simp
      all_goals with_reducible rfl
    simp only [Act.put, List.setIfInBounds_toArray, List.set_cons_zero, List.set_cons_succ]
    refine wpAnyH_take (i := 22) (oi := { dst := some 74, op := Op.move (Operand.tmp 10), type := 22, pos := "law.go:119", after := #[{ on := 21, ground := Ground.guard }], guard := some (21, true) }) (v := ?_) rfl (by kernel_rfl) (by kernel_rfl) (by kernel_rfl) (fun _ _ _ h => h) (Or.inl ⟨by rfl, ?_⟩) (by assumption) ?_
    rotate_left
    · intro w hSw
      clear hSw
      go_simp
      all_goals with_reducible rfl
    simp only [Act.put, List.setIfInBounds_toArray, List.set_cons_zero, List.set_cons_succ]
    refine wpAnyH_take (i := 24) (oi := { dst := some 76, op := Op.load 31 (Operand.tmp 7), type := 31, pos := "law.go:119", after := #[{ on := 21, ground := Ground.guard }], guard := some (21, true) }) (v := .agg (S.v8l D).toArray) rfl (by kernel_rfl) (by kernel_rfl) (by kernel_rfl) (fun _ _ _ h => h) (yieldsIf_load_mid (by rfl) _ _ rfl g7 0 rfl (S.v8l D) _ (fun _ hSw => rangeAt_row ((hSw.block g7 (block_lt_of_row R8.out)).trans R8.out)) Tryd.underlying31 rfl hsz) (by assumption) ?_
    simp only [Act.put, List.setIfInBounds_toArray, List.set_cons_zero, List.set_cons_succ]
    refine wpAnyH_ready (rs := [23]) (by kernel_rfl) (by simp) ?_
    refine AllReadyH.cons (o := { dst := some 75, op := Op.call { callee := Callee.value (Operand.func 13), args := #[Operand.const (Value.int IntKind.i64 32), Operand.tmp 74], argTypes := #[3, 22] }, type := 31, pos := "law.go:119", after := #[{ on := 22, ground := Ground.data }, { on := 21, ground := Ground.chain }, { on := 21, ground := Ground.guard }], guard := some (21, true) }) rfl (fun K hK => ?_) AllReadyH.nil
    go_simp
    refine (root_any 32 _ (L.set k bs) Z3 (M8.out.below BZ3.out (Nat.le_refl _)) LS.out FS.out (HK.out.below (B8.out.trans (BZ3.out.mono B8.out.size)) h0)).mono ?_
    rintro e Z4 ⟨rfl, hb2⟩
    rw [← HX.out]
    have hXD : X = D := by rw [HX.out, HD.out, ESET.out]
    have heq3 : ∀ w, (Op.equalIn 10000 31 (.agg (S.v8 X)) (.agg (S.v8l D).toArray)).run Tryd.prog w = .ok true w := fun w => equal_dig X D LX.out LD.out true (by rw [hXD]; simp) w
    clear heq1 heq2 hXD
    have BZ4 : Hid (Below W8.heap.size W8 Z4) := BZ3.out.trans (hb2.mono BZ3.out.size)
    clear BZ3 hb2 hHeld
    refine hK.out _ _ BZ4.out (fun hHeld => ?_)
    clear hK K
    try simp only [Act.put, List.setIfInBounds_toArray, List.set_cons_zero, List.set_cons_succ]
    refine wpAnyH_take (i := 25) (oi := { dst := some 77, op := Op.binOp BinOp.neq 31 (Operand.tmp 75) (Operand.tmp 76) 31, type := 4, pos := "law.go:119", after := #[{ on := 23, ground := Ground.data }, { on := 24, ground := Ground.data }, { on := 21, ground := Ground.guard }], guard := some (21, true) }) (v := ?_) rfl (by kernel_rfl) (by kernel_rfl) (by kernel_rfl) (fun _ _ _ h => h) (Or.inl ⟨by rfl, ?_⟩) (by assumption) ?_
    rotate_left
    · intro w hSw
      clear hSw
      go_simp
      all_goals with_reducible rfl
    simp only [Act.put, List.setIfInBounds_toArray, List.set_cons_zero, List.set_cons_succ]
    refine wpAnyH_take (i := 26) (oi := { dst := some 78, op := Op.pick (Operand.tmp 73) (Operand.tmp 77) (Operand.const (Value.bool false)), type := 4, pos := "law.go:119", after := #[{ on := 21, ground := Ground.data }, { on := 25, ground := Ground.data }, { on := 12, ground := Ground.guard }], guard := some (12, false) }) (v := ?_) rfl (by kernel_rfl) (by kernel_rfl) (by kernel_rfl) (fun _ _ _ h => h) (Or.inl ⟨by rfl, ?_⟩) (by assumption) ?_
    rotate_left
    · intro w hSw
      clear hSw
      go_simp
      all_goals with_reducible rfl
    simp only [Act.put, List.setIfInBounds_toArray, List.set_cons_zero, List.set_cons_succ]
    refine wpAnyH_take (i := 27) (oi := { dst := some 79, op := Op.pick (Operand.tmp 64) (Operand.const (Value.bool true)) (Operand.tmp 78), type := 4, pos := "law.go:119", after := #[{ on := 12, ground := Ground.data }, { on := 26, ground := Ground.data }], guard := none }) (v := ?_) rfl (by kernel_rfl) (by kernel_rfl) (by kernel_rfl) (fun _ _ _ h => h) (Or.inl ⟨by rfl, ?_⟩) (by assumption) ?_
    rotate_left
    · intro w hSw
      clear hSw
      go_simp
      all_goals with_reducible rfl
    simp only [Act.put, List.setIfInBounds_toArray, List.set_cons_zero, List.set_cons_succ]
    refine wpAnyH_done (by kernel_rfl) ?_ _
    refine NoPanic.normal ?_
    clear hHeld
    obtain ⟨Zg, hZg⟩ : ∃ Z, Z = Z4 := ⟨_, rfl⟩
    rw [← hZg] at BZ4 ⊢
    clear hZg
    have BG := hide (B8.out.trans (BZ4.out.mono B8.out.size))
    have TG := hide (T8.out.below BZ4.out)
    clear BZ4 T8 H8 R8 B8 M8 HEB HX LX K1 K2 heq3
    have qu : IntKind.u64.wrap (k : Int) = (k : Int) := by rw [IntKind.wrap_u64]; omega
    go_wp2_with fail
    clear qu
    refine (prove_any 32 L _ k Zg (by omega) (by rw [← HN.out]; omega) TG.out.bsAt HF.out (HK.out.below BG.out h0)).mono ?_
    rintro e wp ⟨⟨vp, rfl, pp⟩, bp⟩
    obtain ⟨po, pc, rfl⟩ := pp.form
    rw [show S.proveNo L k = 0 by rw [S.proveNo, if_pos (by rw [← HN.out]; exact hkN)]]
    have DEEP : Hid (∀ d, N ≤ 2 ^ d → (S.prove 32 L k).length ≤ d) := fun d hd => S.prove_len 32 L k d (by rw [← HN.out]; exact hd)
    obtain ⟨pm, hpm⟩ : ∃ pm, pm = (S.prove 32 L k).length := ⟨_, rfl⟩
    rw [← hpm] at DEEP ⊢
    have BP := hide (BG.out.trans (bp.mono BG.out.size))
    clear pp bp hpm TG BG
    go_wp2_with fail
    go_loopw [13] (fun i wr => ∃ d : Nat, d ≤ 5 ∧ i = .int .i64 (d : Int) ∧ wp = wr) (fun i _ => 6 - (intOf i).toNat)
    case atStart => exact ⟨0, by omega, rfl, rfl⟩
    case round =>
      obtain ⟨d, hd, rfl, rfl⟩ := hrel
      have q4 : IntKind.i64.wrap ((d : Int) + 1) = (d : Int) + 1 := by rw [IntKind.wrap_i64]; omega
      have q5 : IntKind.u64.wrap (d : Int) = (d : Int) := by rw [IntKind.wrap_u64]; omega
      have q6 := pow_wrap hd
      have q7 : (0 : Int) ≤ (d : Int) := by omega
      obtain ⟨pw, hpw⟩ : ∃ pw, pw = 2 ^ d := ⟨_, rfl⟩
      rw [← hpw] at q6
      have HPW := hide hpw
      clear hpw
      by_cases hlt : pw < N
      · have q8 : (pw : Int) < (N : Int) := by omega
        go_wp2_with fail
        go_roundw
        case rel =>
          refine ⟨d + 1, ?_, by go_num, trivial⟩
          by_cases h5 : d = 5
          · subst h5; have := HPW.out; omega
          · omega
        case measure => simp [intOf]; omega
      · have q8 : ¬ (pw : Int) < (N : Int) := by omega
        have q9 : (N : Int) ≤ (pw : Int) := by omega
        have hdp := DEEP.out d (by rw [← HPW.out]; omega)
        have q10 : (pm : Int) ≤ (d : Int) := by omega
        go_wp2_with fail
        refine (known_any wp (HK.out.below BP.out h0)).mono ?_
        rintro e w9 ⟨rfl, b9⟩
        have B9 := hide (BP.out.trans (b9.mono BP.out.size))
        clear b9
        go_wp2_with fail
        go_ret
        exact ⟨rfl, B9.out⟩
  · obtain ⟨Tx, hTx⟩ : ∃ T, T = (⟨bs.toArray⟩ : ByteArray) := ⟨_, rfl⟩
    obtain ⟨Ty, hTy⟩ : ∃ T, T = (⟨(L.getD k []).toArray⟩ : ByteArray) := ⟨_, rfl⟩
    have K1 : Hid (∀ W : World, Below W8.heap.size W8 W → (convert 34 9 (.slice bo bn bc)).run Tryd.prog W = .ok (.string Tx) W) := fun W hW => by rw [hTx]; exact conv_slice (B8S.out.below hW (Nat.le_refl _))
    have K2 : Hid (∀ W : World, Below W8.heap.size W8 W → (convert 34 9 (.slice xo xl xc)).run Tryd.prog W = .ok (.string Ty) W) := fun W hW => by rw [hTy]; exact conv_slice (XS.out.below hW (Nat.le_refl _))
    have hne2 : (Tx.toList == Ty.toList) = false := by
      rw [hTx, hTy, ByteArray.toList_eq, ByteArray.toList_eq]
      simp only [beq_eq_false_iff_ne, ne_eq]
      exact hsame
    clear hTx hTy hsame
    refine wp_region_noPanic ?_
    refine wp_region_held_drew (S := (fun W => Below W8.heap.size W8 W)) follows ((Below.refl _ _).drew) (fun hHeld => ?_)
    clear hHeld
    have hHeld : Below W8.heap.size W8 W8.drew := (Below.refl _ _).drew
    have BZ0 := hide hHeld
    generalize W8.drew = Z0 at BZ0 hHeld ⊢
    refine wpAnyH_take (i := 0) (oi := { dst := some 52, op := Op.move (Operand.tmp 10), type := 22, pos := "law.go:119", after := #[], guard := none }) (v := ?_) rfl (by kernel_rfl) (by kernel_rfl) (by kernel_rfl) (fun _ _ _ h => h) (Or.inl ⟨by rfl, ?_⟩) (by assumption) ?_
    rotate_left
    · intro w hSw
      clear hSw
      go_simp
      all_goals with_reducible rfl
    simp only [Act.put, List.setIfInBounds_toArray, List.set_cons_zero, List.set_cons_succ]
    refine wpAnyH_take (i := 2) (oi := { dst := some 54, op := Op.load 31 (Operand.tmp 7), type := 31, pos := "law.go:119", after := #[], guard := none }) (v := .agg (S.v8l D).toArray) rfl (by kernel_rfl) (by kernel_rfl) (by kernel_rfl) (fun _ _ _ h => h) (yieldsIf_load_mid (by rfl) _ _ rfl g7 0 rfl (S.v8l D) _ (fun _ hSw => rangeAt_row ((hSw.block g7 (block_lt_of_row R8.out)).trans R8.out)) Tryd.underlying31 rfl hsz) (by assumption) ?_
    simp only [Act.put, List.setIfInBounds_toArray, List.set_cons_zero, List.set_cons_succ]
    refine wpAnyH_take (i := 4) (oi := { dst := some 56, op := Op.move (Operand.tmp 8), type := 37, pos := "law.go:119", after := #[], guard := none }) (v := ?_) rfl (by kernel_rfl) (by kernel_rfl) (by kernel_rfl) (fun _ _ _ h => h) (Or.inl ⟨by rfl, ?_⟩) (by assumption) ?_
    rotate_left
    · intro w hSw
      clear hSw
      go_simp
      all_goals with_reducible rfl
    simp only [Act.put, List.setIfInBounds_toArray, List.set_cons_zero, List.set_cons_succ]
    refine wpAnyH_take (i := 5) (oi := { dst := some 57, op := Op.move (Operand.tmp 10), type := 22, pos := "law.go:119", after := #[], guard := none }) (v := ?_) rfl (by kernel_rfl) (by kernel_rfl) (by kernel_rfl) (fun _ _ _ h => h) (Or.inl ⟨by rfl, ?_⟩) (by assumption) ?_
    rotate_left
    · intro w hSw
      clear hSw
      go_simp
      all_goals with_reducible rfl
    simp only [Act.put, List.setIfInBounds_toArray, List.set_cons_zero, List.set_cons_succ]
    refine wpAnyH_take (i := 7) (oi := { dst := some 59, op := Op.move (Operand.tmp 8), type := 37, pos := "law.go:119", after := #[], guard := none }) (v := ?_) rfl (by kernel_rfl) (by kernel_rfl) (by kernel_rfl) (fun _ _ _ h => h) (Or.inl ⟨by rfl, ?_⟩) (by assumption) ?_
    rotate_left
    · intro w hSw
      clear hSw
      go_simp
      all_goals with_reducible rfl
    simp only [Act.put, List.setIfInBounds_toArray, List.set_cons_zero, List.set_cons_succ]
    refine wpAnyH_take (i := 8) (oi := { dst := some 60, op := Op.move (Operand.tmp 0), type := 22, pos := "law.go:119", after := #[], guard := none }) (v := ?_) rfl (by kernel_rfl) (by kernel_rfl) (by kernel_rfl) (fun _ _ _ h => h) (Or.inl ⟨by rfl, ?_⟩) (by assumption) ?_
    rotate_left
    · intro w hSw
      clear hSw
      go_simp
      all_goals with_reducible rfl
    simp only [Act.put, List.setIfInBounds_toArray, List.set_cons_zero, List.set_cons_succ]
    refine wpAnyH_ready (rs := [1]) (by kernel_rfl) (by simp) ?_
    refine AllReadyH.cons (o := { dst := some 53, op := Op.call { callee := Callee.value (Operand.func 13), args := #[Operand.const (Value.int IntKind.i64 32), Operand.tmp 52], argTypes := #[3, 22] }, type := 31, pos := "law.go:119", after := #[{ on := 0, ground := Ground.data }], guard := none }) rfl (fun K hK => ?_) AllReadyH.nil
    go_simp
    refine (root_any 32 _ (L.set k bs) Z0 (M8.out.below BZ0.out (Nat.le_refl _)) LS.out FS.out (HK.out.below (B8.out.trans (BZ0.out.mono B8.out.size)) h0)).mono ?_
    rintro e Z1 ⟨rfl, hb2⟩
    obtain ⟨X, hX⟩ : ∃ DD, DD = S.root 32 (L.set k bs) := ⟨_, rfl⟩
    rw [← hX]
    have LX := hide (show X.length = 32 by rw [hX, S.root_length])
    have HX := hide hX
    clear hX
    obtain ⟨eb, heb⟩ : ∃ b : Bool, b = (X == D) := ⟨_, rfl⟩
    have heq1 : ∀ w, (Op.equalIn 10000 31 (.agg (S.v8 X)) (.agg (S.v8l D).toArray)).run Tryd.prog w = .ok eb w := fun w => equal_dig X D LX.out LD.out eb heb.symm w
    have heq2 : ∀ w, (Op.equalIn 10000 31 (.agg (S.v8 X)) (.agg (S.v8 D))).run Tryd.prog w = .ok eb w := fun w => equal_dig X D LX.out LD.out eb heb.symm w
    have HEB := hide heb
    clear heb
    have BZ1 : Hid (Below W8.heap.size W8 Z1) := BZ0.out.trans (hb2.mono BZ0.out.size)
    clear BZ0 hb2 hHeld
    refine hK.out _ _ BZ1.out (fun hHeld => ?_)
    clear hK K
    try simp only [Act.put, List.setIfInBounds_toArray, List.set_cons_zero, List.set_cons_succ]
    refine wpAnyH_take (i := 3) (oi := { dst := some 55, op := Op.binOp BinOp.eql 31 (Operand.tmp 53) (Operand.tmp 54) 31, type := 4, pos := "law.go:119", after := #[{ on := 1, ground := Ground.data }, { on := 2, ground := Ground.data }], guard := none }) (v := ?_) rfl (by kernel_rfl) (by kernel_rfl) (by kernel_rfl) (fun _ _ _ h => h) (Or.inl ⟨by rfl, ?_⟩) (by assumption) ?_
    rotate_left
    · intro w hSw
      clear hSw
      go_simp
      all_goals with_reducible rfl
    simp only [Act.put, List.setIfInBounds_toArray, List.set_cons_zero, List.set_cons_succ]
    refine wpAnyH_ready (rs := [6]) (by kernel_rfl) (by simp) ?_
    refine AllReadyH.cons (o := { dst := some 58, op := Op.call { callee := Callee.value (Operand.func 20), args := #[Operand.tmp 56, Operand.tmp 57], argTypes := #[37, 22] }, type := 31, pos := "law.go:119", after := #[{ on := 4, ground := Ground.data }, { on := 5, ground := Ground.data }, { on := 1, ground := Ground.chain }], guard := none }) rfl (fun K hK => ?_) AllReadyH.nil
    go_simp
    refine (hroot_any gh gT 32 _ (L.set k bs) _ Z1 rfl LS.out (M8.out.below BZ1.out (Nat.le_refl _)) FS.out (H8.out.below BZ1.out (Nat.le_refl _))).mono ?_
    rintro e Z2 ⟨rfl, hb2⟩
    rw [← HX.out]
    have BZ2 : Hid (Below W8.heap.size W8 Z2) := BZ1.out.trans (hb2.mono BZ1.out.size)
    clear BZ1 hb2 hHeld
    refine hK.out _ _ BZ2.out (fun hHeld => ?_)
    clear hK K
    try simp only [Act.put, List.setIfInBounds_toArray, List.set_cons_zero, List.set_cons_succ]
    refine wpAnyH_ready (rs := [9]) (by kernel_rfl) (by simp) ?_
    refine AllReadyH.cons (o := { dst := some 61, op := Op.call { callee := Callee.value (Operand.func 20), args := #[Operand.tmp 59, Operand.tmp 60], argTypes := #[37, 22] }, type := 31, pos := "law.go:119", after := #[{ on := 7, ground := Ground.data }, { on := 8, ground := Ground.data }, { on := 6, ground := Ground.chain }], guard := none }) rfl (fun K hK => ?_) AllReadyH.nil
    go_simp
    refine (hroot_any gh gT 32 _ L _ Z2 rfl (by rw [← HN.out]; omega) (T8.out.bsAt.below BZ2.out (Nat.le_refl _)) HF.out (H8.out.below BZ2.out (Nat.le_refl _))).mono ?_
    rintro e Z3 ⟨rfl, hb2⟩
    rw [← HD.out]
    have BZ3 : Hid (Below W8.heap.size W8 Z3) := BZ2.out.trans (hb2.mono BZ2.out.size)
    clear BZ2 hb2 hHeld
    refine hK.out _ _ BZ3.out (fun hHeld => ?_)
    clear hK K
    try simp only [Act.put, List.setIfInBounds_toArray, List.set_cons_zero, List.set_cons_succ]
    refine wpAnyH_take (i := 10) (oi := { dst := some 62, op := Op.binOp BinOp.eql 31 (Operand.tmp 58) (Operand.tmp 61) 31, type := 4, pos := "law.go:119", after := #[{ on := 6, ground := Ground.data }, { on := 9, ground := Ground.data }], guard := none }) (v := ?_) rfl (by kernel_rfl) (by kernel_rfl) (by kernel_rfl) (fun _ _ _ h => h) (Or.inl ⟨by rfl, ?_⟩) (by assumption) ?_
    rotate_left
    · intro w hSw
      clear hSw
      go_simp
      all_goals with_reducible rfl
    simp only [Act.put, List.setIfInBounds_toArray, List.set_cons_zero, List.set_cons_succ]
    refine wpAnyH_take (i := 11) (oi := { dst := some 63, op := Op.binOp BinOp.neq 4 (Operand.tmp 55) (Operand.tmp 62) 4, type := 4, pos := "law.go:119", after := #[{ on := 3, ground := Ground.data }, { on := 10, ground := Ground.data }], guard := none }) (v := ?_) rfl (by kernel_rfl) (by kernel_rfl) (by kernel_rfl) (fun _ _ _ h => h) (Or.inl ⟨by rfl, ?_⟩) (by assumption) ?_
    rotate_left
    · intro w hSw
      clear hSw
      go_simp
      all_goals with_reducible rfl
    simp only [Act.put, List.setIfInBounds_toArray, List.set_cons_zero, List.set_cons_succ]
    refine wpAnyH_take (i := 12) (oi := { dst := some 64, op := Op.move (Operand.tmp 63), type := 4, pos := "law.go:119", after := #[{ on := 11, ground := Ground.data }, { on := 9, ground := Ground.chain }], guard := none }) (v := ?_) rfl (by kernel_rfl) (by kernel_rfl) (by kernel_rfl) (fun _ _ _ h => h) (Or.inl ⟨by rfl, ?_⟩) (by assumption) ?_
    rotate_left
    · intro w hSw
      clear hSw
      go_simp
      all_goals with_reducible rfl
    simp only [Act.put, List.setIfInBounds_toArray, List.set_cons_zero, List.set_cons_succ]
    refine wpAnyH_take (i := 13) (oi := { dst := some 65, op := Op.move (Operand.tmp 2), type := 34, pos := "law.go:119", after := #[{ on := 12, ground := Ground.guard }], guard := some (12, false) }) (v := ?_) rfl (by kernel_rfl) (by kernel_rfl) (by kernel_rfl) (fun _ _ _ h => h) (Or.inl ⟨by rfl, ?_⟩) (by assumption) ?_
    rotate_left
    · intro w hSw
      clear hSw
      go_simp
      all_goals with_reducible rfl
    simp only [Act.put, List.setIfInBounds_toArray, List.set_cons_zero, List.set_cons_succ]
    refine wpAnyH_take (i := 14) (oi := { dst := some 66, op := Op.convert 34 9 (Operand.tmp 65), type := 9, pos := "law.go:119", after := #[{ on := 13, ground := Ground.data }, { on := 12, ground := Ground.guard }], guard := some (12, false) }) (v := ?_) rfl (by kernel_rfl) (by kernel_rfl) (by kernel_rfl) (fun _ _ _ h => h) (Or.inl ⟨by rfl, ?_⟩) (by assumption) ?_
    rotate_left
    · intro w hSw
      have c4 := K1.out w hSw
      clear hSw
      go_simp
      all_goals with_reducible rfl
    simp only [Act.put, List.setIfInBounds_toArray, List.set_cons_zero, List.set_cons_succ]
    refine wpAnyH_take (i := 15) (oi := { dst := some 67, op := Op.move (Operand.tmp 0), type := 22, pos := "law.go:119", after := #[{ on := 12, ground := Ground.guard }], guard := some (12, false) }) (v := ?_) rfl (by kernel_rfl) (by kernel_rfl) (by kernel_rfl) (fun _ _ _ h => h) (Or.inl ⟨by rfl, ?_⟩) (by assumption) ?_
    rotate_left
    · intro w hSw
      clear hSw
      go_simp
      all_goals with_reducible rfl
    simp only [Act.put, List.setIfInBounds_toArray, List.set_cons_zero, List.set_cons_succ]
    refine wpAnyH_take (i := 16) (oi := { dst := some 68, op := Op.move (Operand.tmp 1), type := 3, pos := "law.go:119", after := #[{ on := 12, ground := Ground.guard }], guard := some (12, false) }) (v := ?_) rfl (by kernel_rfl) (by kernel_rfl) (by kernel_rfl) (fun _ _ _ h => h) (Or.inl ⟨by rfl, ?_⟩) (by assumption) ?_
    rotate_left
    · intro w hSw
      clear hSw
      go_simp
      all_goals with_reducible rfl
    simp only [Act.put, List.setIfInBounds_toArray, List.set_cons_zero, List.set_cons_succ]
    refine wpAnyH_take (i := 17) (oi := { dst := some 69, op := Op.indexAddr 22 (Operand.tmp 67) (Operand.tmp 68), type := 0, pos := "law.go:119", after := #[{ on := 15, ground := Ground.data }, { on := 16, ground := Ground.data }, { on := 12, ground := Ground.guard }], guard := some (12, false) }) (v := ?_) rfl (by kernel_rfl) (by kernel_rfl) (by kernel_rfl) (fun _ _ _ h => h) (Or.inl ⟨by rfl, ?_⟩) (by assumption) ?_
    rotate_left
    · intro w hSw
      clear hSw
      go_simp
      all_goals with_reducible rfl
    simp only [Act.put, List.setIfInBounds_toArray, List.set_cons_zero, List.set_cons_succ]
    refine wpAnyH_take (i := 18) (oi := { dst := some 70, op := Op.load 34 (Operand.tmp 69), type := 34, pos := "law.go:119", after := #[{ on := 17, ground := Ground.data }, { on := 12, ground := Ground.guard }], guard := some (12, false) }) (v := ?_) rfl (by kernel_rfl) (by kernel_rfl) (by kernel_rfl) (fun _ _ _ h => h) (Or.inl ⟨by rfl, ?_⟩) (by assumption) ?_
    rotate_left
    · intro w hSw
      have c4 := (hSw.cell (p := ⟨bl, offl + k, none⟩) HBLT.out).trans CX.out
      clear hSw
      go_simp
      all_goals with_reducible rfl
    simp only [Act.put, List.setIfInBounds_toArray, List.set_cons_zero, List.set_cons_succ]
    refine wpAnyH_take (i := 19) (oi := { dst := some 71, op := Op.convert 34 9 (Operand.tmp 70), type := 9, pos := "law.go:119", after := #[{ on := 18, ground := Ground.data }, { on := 12, ground := Ground.guard }], guard := some (12, false) }) (v := ?_) rfl (by kernel_rfl) (by kernel_rfl) (by kernel_rfl) (fun _ _ _ h => h) (Or.inl ⟨by rfl, ?_⟩) (by assumption) ?_
    rotate_left
    · intro w hSw
      have c4 := K2.out w hSw
      clear hSw
      go_simp
      all_goals with_reducible rfl
    simp only [Act.put, List.setIfInBounds_toArray, List.set_cons_zero, List.set_cons_succ]
    refine wpAnyH_take (i := 20) (oi := { dst := some 72, op := Op.binOp BinOp.eql 9 (Operand.tmp 66) (Operand.tmp 71) 9, type := 4, pos := "law.go:119", after := #[{ on := 14, ground := Ground.data }, { on := 19, ground := Ground.data }, { on := 12, ground := Ground.guard }], guard := some (12, false) }) (v := ?_) rfl (by kernel_rfl) (by kernel_rfl) (by kernel_rfl) (fun _ _ _ h => h) (Or.inl ⟨by rfl, ?_⟩) (by assumption) ?_
    rotate_left
    · intro w hSw
      clear hSw
      go_simp
      all_goals with_reducible rfl
    simp only [Act.put, List.setIfInBounds_toArray, List.set_cons_zero, List.set_cons_succ]
    refine wpAnyH_take (i := 21) (oi := { dst := some 73, op := Op.move (Operand.tmp 72), type := 4, pos := "law.go:119", after := #[{ on := 20, ground := Ground.data }, { on := 12, ground := Ground.chain }, { on := 12, ground := Ground.guard }], guard := some (12, false) }) (v := ?_) rfl (by kernel_rfl) (by kernel_rfl) (by kernel_rfl) (fun _ _ _ h => h) (Or.inl ⟨by rfl, ?_⟩) (by assumption) ?_
    rotate_left
    · intro w hSw
      clear hSw
      go_simp
      all_goals with_reducible rfl
    simp only [Act.put, List.setIfInBounds_toArray, List.set_cons_zero, List.set_cons_succ]
    refine wpAnyH_take (i := 22) (oi := { dst := some 74, op := Op.move (Operand.tmp 10), type := 22, pos := "law.go:119", after := #[{ on := 21, ground := Ground.guard }], guard := some (21, true) }) (v := undef) rfl (by kernel_rfl) (by kernel_rfl) (by kernel_rfl) (fun _ _ _ h => h) (Or.inr ⟨by rfl, rfl⟩) (by assumption) ?_
    simp only [Act.put, List.setIfInBounds_toArray, List.set_cons_zero, List.set_cons_succ]
    refine wpAnyH_take (i := 24) (oi := { dst := some 76, op := Op.load 31 (Operand.tmp 7), type := 31, pos := "law.go:119", after := #[{ on := 21, ground := Ground.guard }], guard := some (21, true) }) (v := undef) rfl (by kernel_rfl) (by kernel_rfl) (by kernel_rfl) (fun _ _ _ h => h) (Or.inr ⟨by rfl, rfl⟩) (by assumption) ?_
    simp only [Act.put, List.setIfInBounds_toArray, List.set_cons_zero, List.set_cons_succ]
    refine wpAnyH_take (i := 23) (oi := { dst := some 75, op := Op.call { callee := Callee.value (Operand.func 13), args := #[Operand.const (Value.int IntKind.i64 32), Operand.tmp 74], argTypes := #[3, 22] }, type := 31, pos := "law.go:119", after := #[{ on := 22, ground := Ground.data }, { on := 21, ground := Ground.chain }, { on := 21, ground := Ground.guard }], guard := some (21, true) }) (v := undef) rfl (by kernel_rfl) (by kernel_rfl) (by kernel_rfl) (fun _ _ _ h => h) (Or.inr ⟨by rfl, rfl⟩) (by assumption) ?_
    simp only [Act.put, List.setIfInBounds_toArray, List.set_cons_zero, List.set_cons_succ]
    refine wpAnyH_take (i := 25) (oi := { dst := some 77, op := Op.binOp BinOp.neq 31 (Operand.tmp 75) (Operand.tmp 76) 31, type := 4, pos := "law.go:119", after := #[{ on := 23, ground := Ground.data }, { on := 24, ground := Ground.data }, { on := 21, ground := Ground.guard }], guard := some (21, true) }) (v := undef) rfl (by kernel_rfl) (by kernel_rfl) (by kernel_rfl) (fun _ _ _ h => h) (Or.inr ⟨by rfl, rfl⟩) (by assumption) ?_
    simp only [Act.put, List.setIfInBounds_toArray, List.set_cons_zero, List.set_cons_succ]
    refine wpAnyH_take (i := 26) (oi := { dst := some 78, op := Op.pick (Operand.tmp 73) (Operand.tmp 77) (Operand.const (Value.bool false)), type := 4, pos := "law.go:119", after := #[{ on := 21, ground := Ground.data }, { on := 25, ground := Ground.data }, { on := 12, ground := Ground.guard }], guard := some (12, false) }) (v := ?_) rfl (by kernel_rfl) (by kernel_rfl) (by kernel_rfl) (fun _ _ _ h => h) (Or.inl ⟨by rfl, ?_⟩) (by assumption) ?_
    rotate_left
    · intro w hSw
      clear hSw
      go_simp
      all_goals with_reducible rfl
    simp only [Act.put, List.setIfInBounds_toArray, List.set_cons_zero, List.set_cons_succ]
    refine wpAnyH_take (i := 27) (oi := { dst := some 79, op := Op.pick (Operand.tmp 64) (Operand.const (Value.bool true)) (Operand.tmp 78), type := 4, pos := "law.go:119", after := #[{ on := 12, ground := Ground.data }, { on := 26, ground := Ground.data }], guard := none }) (v := ?_) rfl (by kernel_rfl) (by kernel_rfl) (by kernel_rfl) (fun _ _ _ h => h) (Or.inl ⟨by rfl, ?_⟩) (by assumption) ?_
    rotate_left
    · intro w hSw
      clear hSw
      go_simp
      all_goals with_reducible rfl
    simp only [Act.put, List.setIfInBounds_toArray, List.set_cons_zero, List.set_cons_succ]
    refine wpAnyH_done (by kernel_rfl) ?_ _
    refine NoPanic.normal ?_
    clear hHeld
    obtain ⟨Zg, hZg⟩ : ∃ Z, Z = Z3 := ⟨_, rfl⟩
    rw [← hZg] at BZ3 ⊢
    clear hZg
    have BG := hide (B8.out.trans (BZ3.out.mono B8.out.size))
    have TG := hide (T8.out.below BZ3.out)
    clear BZ3 T8 H8 R8 B8 M8 HEB HX LX K1 K2 heq1 heq2 hne2
    have qu : IntKind.u64.wrap (k : Int) = (k : Int) := by rw [IntKind.wrap_u64]; omega
    go_wp2_with fail
    clear qu
    refine (prove_any 32 L _ k Zg (by omega) (by rw [← HN.out]; omega) TG.out.bsAt HF.out (HK.out.below BG.out h0)).mono ?_
    rintro e wp ⟨⟨vp, rfl, pp⟩, bp⟩
    obtain ⟨po, pc, rfl⟩ := pp.form
    rw [show S.proveNo L k = 0 by rw [S.proveNo, if_pos (by rw [← HN.out]; exact hkN)]]
    have DEEP : Hid (∀ d, N ≤ 2 ^ d → (S.prove 32 L k).length ≤ d) := fun d hd => S.prove_len 32 L k d (by rw [← HN.out]; exact hd)
    obtain ⟨pm, hpm⟩ : ∃ pm, pm = (S.prove 32 L k).length := ⟨_, rfl⟩
    rw [← hpm] at DEEP ⊢
    have BP := hide (BG.out.trans (bp.mono BG.out.size))
    clear pp bp hpm TG BG
    go_wp2_with fail
    go_loopw [13] (fun i wr => ∃ d : Nat, d ≤ 5 ∧ i = .int .i64 (d : Int) ∧ wp = wr) (fun i _ => 6 - (intOf i).toNat)
    case atStart => exact ⟨0, by omega, rfl, rfl⟩
    case round =>
      obtain ⟨d, hd, rfl, rfl⟩ := hrel
      have q4 : IntKind.i64.wrap ((d : Int) + 1) = (d : Int) + 1 := by rw [IntKind.wrap_i64]; omega
      have q5 : IntKind.u64.wrap (d : Int) = (d : Int) := by rw [IntKind.wrap_u64]; omega
      have q6 := pow_wrap hd
      have q7 : (0 : Int) ≤ (d : Int) := by omega
      obtain ⟨pw, hpw⟩ : ∃ pw, pw = 2 ^ d := ⟨_, rfl⟩
      rw [← hpw] at q6
      have HPW := hide hpw
      clear hpw
      by_cases hlt : pw < N
      · have q8 : (pw : Int) < (N : Int) := by omega
        go_wp2_with fail
        go_roundw
        case rel =>
          refine ⟨d + 1, ?_, by go_num, trivial⟩
          by_cases h5 : d = 5
          · subst h5; have := HPW.out; omega
          · omega
        case measure => simp [intOf]; omega
      · have q8 : ¬ (pw : Int) < (N : Int) := by omega
        have q9 : (N : Int) ≤ (pw : Int) := by omega
        have hdp := DEEP.out d (by rw [← HPW.out]; omega)
        have q10 : (pm : Int) ≤ (d : Int) := by omega
        go_wp2_with fail
        refine (known_any wp (HK.out.below BP.out h0)).mono ?_
        rintro e w9 ⟨rfl, b9⟩
        have B9 := hide (BP.out.trans (b9.mono BP.out.size))
        clear b9
        go_wp2_with fail
        go_ret
        exact ⟨rfl, B9.out⟩
end Go.Proofs.YtmhmebblmgfgaaaDoor
