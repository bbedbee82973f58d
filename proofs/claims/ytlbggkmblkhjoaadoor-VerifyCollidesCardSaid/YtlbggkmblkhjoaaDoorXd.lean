/- VerifyCollides. -/
import Derived.Test.YtlbggkmblkhjoaaDoorXc
import Derived.Test.YtlbggkmblkhjoaaDoorOa
import Derived.Test.YtlbggkmblkhjoaaDoorMh
import Derived.Test.YtlbggkmblkhjoaaDoorWithin
namespace Go.Proofs.YtlbggkmblkhjoaaDoor
open Go.RowKit

def Found (w w' : World) (e : Ending) (x : List UInt8) : Prop :=
  ∃ fo fl fc ok, e = .returned (.tuple #[.slice fo fl fc, .bool ok]) ∧ (ok = true → ∃ b : List UInt8, SliceAt w' (.slice fo fl fc) b ∧ b.length = 3 ∧ S.leaf 1 b = S.leaf 1 x ∧ b ≠ x) ∧ Below w.heap.size w w'
set_option maxHeartbeats 16000000 in
set_option maxRecDepth 10000 in
theorem found_any (v : Value) (L : List (List UInt8)) (i : Nat) (w : World) (hv : BsAt w v L) (hf : Fit L) (hi : i < L.length) (h256 : L.length ≤ 256) (hK : KAt w) :
   Calls Tryd.prog 28 #[v, .int .i64 (i : Int)] w fun e w' => Found w w' e (L.getD i []) := by
  obtain ⟨bl, offl, cl, rfl, e9', e9b, hcl⟩ := hv.src (by omega)
  obtain ⟨x, hx, hxs⟩ := hcl i hi
  obtain ⟨xo, xl, xc, rfl, hxl, hxm⟩ := hxs.form
  have CX := hide hx
  have XS := hide hxs
  have HBLT := hide e9b
  have HFX := hide (hf.at i hi)
  have HK := hide hK
  have h0 := hK.pos
  obtain ⟨N, hN⟩ : ∃ N, N = L.length := ⟨_, rfl⟩
  rw [← hN] at hi h256 ⊢
  have q1 : (0 : Int) ≤ (i : Int) := by omega
  have q2 : (i : Int) < (N : Int) := by omega
  have c0 := hx
  clear hv hf hcl e9' e9b hxs hxl hxm hK hN hx
  go_enter Tryd.func28, Tryd.ntmps28
  go_wp2_with fail
  clear c0
  refine (leaf_any 1 _ (L.getD i []) w XS.out (by have := HFX.out; omega) HK.out).mono ?_
  rintro e w1 ⟨rfl, b1⟩
  obtain ⟨D, hD⟩ : ∃ D, D = S.leaf 1 (L.getD i []) := ⟨_, rfl⟩
  have LD := hide (show D.length = 32 by rw [hD, S.leaf_length])
  rw [← hD]
  have ED := hide hD
  obtain ⟨AL, Y, hal, hst, ry, by1, sy⟩ := lay_dig w1 D LD.out
  obtain ⟨gr, hgr⟩ : ∃ g, g = w1.heap.size := ⟨_, rfl⟩
  rw [← hgr] at hal hst ry
  have BY := hide (b1.trans (by1.mono b1.size))
  have RY := hide ry
  clear hD b1 by1 sy hgr ry
  go_wp2_with (first | (with_reducible refine at_op { dst := some 6, op := Op.alloc 23, type := 0, pos := "law.go:132", after := #[], guard := none } ?_; refine wpList_alloc_known rfl 23 rfl (.pointer (some ⟨gr, 0, none⟩)) AL hal ?_) | (with_reducible refine at_op { dst := none, op := Op.store 23 (Operand.tmp 6) (Operand.tmp 13), type := 0, pos := "law.go:132", after := #[{ on := 5, ground := Ground.data }, { on := 4, ground := Ground.data }, { on := 4, ground := Ground.chain }, { on := 0, ground := Ground.phase }, { on := 1, ground := Ground.phase }, { on := 2, ground := Ground.phase }, { on := 3, ground := Ground.phase }, { on := 4, ground := Ground.phase }, { on := 5, ground := Ground.phase }], guard := none } ?_; refine wpList_store_as rfl 23 (.tmp 6) (.tmp 13) rfl (.pointer (some ⟨gr, 0, none⟩)) (.agg (S.v8 D)) rfl rfl Y hst ?_))
  clear hal hst
  go_loopg [7] 3000 (fun gk s7 wr => ∃ k : Nat, k + gk = 3000 ∧ s7 = .int .i64 (k : Int) ∧ Hid (Below Y.heap.size Y wr))
  case atStart => exact ⟨0, by omega, rfl, Below.refl _ _⟩
  case round =>
    obtain ⟨k, hk, rfl, hb⟩ := hrel
    have B3 := hide (BY.out.trans (hb.out.mono BY.out.size))
    cases gk with
    | zero =>
      have qk : ¬ (k : Int) < 3000 := by omega
      go_wp2_with fail
      go_ret2
      exact ⟨none, 0, 0, false, rfl, (fun h => nomatch h), B3.out⟩
    | succ gO =>
      have qk : (k : Int) < 3000 := by omega
      have qk1 : IntKind.i64.wrap ((k : Int) + 1) = (k : Int) + 1 := by rw [IntKind.wrap_i64]; omega
      have e1 : (k : Int) % 256 = ((UInt8.ofNat k).toNat : Int) := byte_cast k
      have e2 : (k : Int) / 256 = ((UInt8.ofNat (k / 256)).toNat : Int) := by rw [← byte_cast]; omega
      obtain ⟨y, hy⟩ : ∃ y, y = UInt8.ofNat k := ⟨_, rfl⟩
      obtain ⟨z, hz⟩ : ∃ z, z = UInt8.ofNat (k / 256) := ⟨_, rfl⟩
      rw [← hy] at e1
      rw [← hz] at e2
      clear hy hz
      obtain ⟨X0, hX0⟩ : ∃ X0, X0 = wr.alloc (.cells #[.int .u8 (y.toNat : Int), .int .u8 (z.toNat : Int), .int .u8 200] 5) := ⟨_, rfl⟩
      have bX : Below wr.heap.size wr X0 := by rw [hX0]; exact (Below.refl _ _).alloc (Nat.le_refl _) _
      have rX : X0.heap[wr.heap.size]? = some (.cells #[.int .u8 (y.toNat : Int), .int .u8 (z.toNat : Int), .int .u8 ((200 : UInt8).toNat : Int)] 5 (0, 0)) := by rw [hX0]; exact heap_alloc_new _ _
      have S0 := hide (three8_at rX)
      obtain ⟨b, hbb⟩ : ∃ b : List UInt8, b = [y, z, 200] := ⟨_, rfl⟩
      rw [← hbb] at S0
      have HB3 := hide (show b.length = 3 by rw [hbb]; rfl)
      have BX := hide (hb.out.trans (bX.mono hb.out.size))
      have BB := hide (BY.out.trans (BX.out.mono BY.out.size))
      have HX0 := hide hX0
      obtain ⟨gb, hgb⟩ : ∃ g, g = wr.heap.size := ⟨_, rfl⟩
      rw [← hgb] at S0
      have HGB := hide hgb
      clear hX0 bX rX hbb hgb hb B3
      go_upto_region 6 with fail
      rw [← HX0.out, ← HGB.out]
      clear e1 e2 HX0
      have hsz := size_dig D LD.out
      obtain ⟨T1, hT1⟩ : ∃ T, T = (⟨b.toArray⟩ : ByteArray) := ⟨_, rfl⟩
      obtain ⟨T2, hT2⟩ : ∃ T, T = (⟨(L.getD i []).toArray⟩ : ByteArray) := ⟨_, rfl⟩
      have KA1 : Hid (∀ W : World, Below X0.heap.size X0 W → (convert 25 9 (.slice (some ⟨gb, 0, none⟩) 3 3)).run Tryd.prog W = .ok (.string T1) W) := fun W hW => by rw [hT1]; exact conv_slice (S0.out.below hW (Nat.le_refl _))
      have KA2 : Hid (∀ W : World, Below X0.heap.size X0 W → (convert 25 9 (.slice xo xl xc)).run Tryd.prog W = .ok (.string T2) W) := fun W hW => by rw [hT2]; exact conv_slice ((XS.out.below BB.out (Nat.le_refl _)).below hW (Nat.le_refl _))
      have KA3 : Hid (∀ W : World, Below X0.heap.size X0 W → W.cell? ⟨bl, offl + i, none⟩ = some (.slice xo xl xc)) := fun W hW => ((BB.out.trans (hW.mono BB.out.size)).cell (p := ⟨bl, offl + i, none⟩) HBLT.out).trans CX.out
      have RX : Hid (X0.heap[gr]? = some (.cells (S.v8 D) 23 (0, 0))) := (BX.out.block _ (block_lt_of_row RY.out)).trans RY.out
      obtain ⟨E, hE⟩ : ∃ E, E = S.leaf 1 b := ⟨_, rfl⟩
      have LE := hide (show E.length = 32 by rw [hE, S.leaf_length])
      have EE := hide hE
      obtain ⟨nb, hnb⟩ : ∃ q : Bool, q = (T1.toList == T2.toList) := ⟨_, rfl⟩
      have hnb2 : (T1.toList == T2.toList) = nb := hnb.symm
      have HNB := hide (show nb = (b == L.getD i []) by rw [hnb, hT1, hT2, ByteArray.toList_eq, ByteArray.toList_eq])
      clear hT1 hT2 hE hnb
      by_cases hdd : E = D
      · have heqv : ∀ w, (Op.equalIn 10000 23 (.agg (S.v8 E)) (.agg (S.v8l D).toArray)).run Tryd.prog w = .ok true w := fun w => by rw [← S.v8_eq]; exact equal_dig E D LE.out LD.out true (by rw [hdd]; simp) w
        have HDD := hide hdd
        clear hdd
        refine wp_region_noPanic ?_
        refine wp_region_held_drew (S := (fun W => Chg (fun _ => False) X0 W)) follows ((Chg.refl _ _).drew) (fun hHeld => ?_)
        clear hHeld
        have hHeld : Chg (fun _ => False) X0 X0.drew := (Chg.refl _ _).drew
        have CZ0 := hide hHeld
        generalize X0.drew = Z0 at CZ0 hHeld ⊢
        refine wpAnyH_take (i := 0) (oi := { dst := some 24, op := Op.move (Operand.tmp 8), type := 25, pos := "law.go:135", after := #[], guard := none }) (v := ?_) rfl (by kernel_rfl) (by kernel_rfl) (by kernel_rfl) (fun _ _ _ h => h) (Or.inl ⟨by rfl, ?_⟩) (by assumption) ?_
        rotate_left
        · intro w hSw
          clear hSw
          go_simp
          all_goals with_reducible rfl
        simp only [Act.put, List.setIfInBounds_toArray, List.set_cons_zero, List.set_cons_succ]
        refine wpAnyH_take (i := 2) (oi := { dst := some 26, op := Op.load 23 (Operand.tmp 6), type := 23, pos := "law.go:135", after := #[], guard := none }) (v := .agg (S.v8l D).toArray) rfl (by kernel_rfl) (by kernel_rfl) (by kernel_rfl) (fun _ _ _ h => h) (yieldsIf_load_mid (by rfl) _ _ rfl gr 0 rfl (S.v8l D) _ (fun _ hSw => rangeAt_row (hSw.row RX.out (fun e => e))) Tryd.underlying23 rfl hsz) (by assumption) ?_
        simp only [Act.put, List.setIfInBounds_toArray, List.set_cons_zero, List.set_cons_succ]
        refine wpAnyH_ready (rs := [1]) (by kernel_rfl) (by simp) ?_
        refine AllReadyH.cons (o := { dst := some 25, op := Op.call { callee := Callee.value (Operand.func 9), args := #[Operand.const (Value.int IntKind.i64 1), Operand.tmp 24], argTypes := #[3, 25] }, type := 23, pos := "law.go:135", after := #[{ on := 0, ground := Ground.data }], guard := none }) rfl (fun K hK => ?_) AllReadyH.nil
        go_simp
        refine (leaf_any 1 _ b Z0 (S0.out.below (CZ0.out.below _ (Nat.le_refl _) (fun _ _ e => e)) (Nat.le_refl _)) (by rw [HB3.out]; omega) (HK.out.below (BB.out.trans (CZ0.out.below w.heap.size BB.out.size (fun k hk e => e))) h0)).mono ?_
        rintro e Z1 ⟨rfl, hb2⟩
        rw [← EE.out]
        have CZ1 : Hid (Chg (fun _ => False) X0 Z1) := CZ0.out.then hb2
        clear hb2 CZ0
        clear hHeld
        refine hK.out _ _ CZ1.out (fun hHeld => ?_)
        clear hK K
        try simp only [Act.put, List.setIfInBounds_toArray, List.set_cons_zero, List.set_cons_succ]
        refine wpAnyH_take (i := 3) (oi := { dst := some 27, op := Op.binOp BinOp.eql 23 (Operand.tmp 25) (Operand.tmp 26) 23, type := 4, pos := "law.go:135", after := #[{ on := 1, ground := Ground.data }, { on := 2, ground := Ground.data }], guard := none }) (v := ?_) rfl (by kernel_rfl) (by kernel_rfl) (by kernel_rfl) (fun _ _ _ h => h) (Or.inl ⟨by rfl, ?_⟩) (by assumption) ?_
        rotate_left
        · intro w hSw
          clear hSw
          go_simp
          all_goals with_reducible rfl
        simp only [Act.put, List.setIfInBounds_toArray, List.set_cons_zero, List.set_cons_succ]
        refine wpAnyH_take (i := 4) (oi := { dst := some 28, op := Op.move (Operand.tmp 27), type := 4, pos := "law.go:135", after := #[{ on := 3, ground := Ground.data }, { on := 1, ground := Ground.chain }], guard := none }) (v := ?_) rfl (by kernel_rfl) (by kernel_rfl) (by kernel_rfl) (fun _ _ _ h => h) (Or.inl ⟨by rfl, ?_⟩) (by assumption) ?_
        rotate_left
        · intro w hSw
          clear hSw
          go_simp
          all_goals with_reducible rfl
        simp only [Act.put, List.setIfInBounds_toArray, List.set_cons_zero, List.set_cons_succ]
        refine wpAnyH_take (i := 5) (oi := { dst := some 29, op := Op.move (Operand.tmp 8), type := 25, pos := "law.go:135", after := #[{ on := 4, ground := Ground.guard }], guard := some (4, true) }) (v := ?_) rfl (by kernel_rfl) (by kernel_rfl) (by kernel_rfl) (fun _ _ _ h => h) (Or.inl ⟨by rfl, ?_⟩) (by assumption) ?_
        rotate_left
        · intro w hSw
          clear hSw
          go_simp
          all_goals with_reducible rfl
        simp only [Act.put, List.setIfInBounds_toArray, List.set_cons_zero, List.set_cons_succ]
        refine wpAnyH_take (i := 6) (oi := { dst := some 30, op := Op.convert 25 9 (Operand.tmp 29), type := 9, pos := "law.go:135", after := #[{ on := 5, ground := Ground.data }, { on := 4, ground := Ground.guard }], guard := some (4, true) }) (v := ?_) rfl (by kernel_rfl) (by kernel_rfl) (by kernel_rfl) (fun _ _ _ h => h) (Or.inl ⟨by rfl, ?_⟩) (by assumption) ?_
        rotate_left
        · intro w hSw
          have c4 := KA1.out w (hSw.below _ (Nat.le_refl _) (fun _ _ e => e))
          clear hSw
          go_simp
          all_goals with_reducible rfl
        simp only [Act.put, List.setIfInBounds_toArray, List.set_cons_zero, List.set_cons_succ]
        refine wpAnyH_take (i := 7) (oi := { dst := some 31, op := Op.move (Operand.tmp 0), type := 41, pos := "law.go:135", after := #[{ on := 4, ground := Ground.guard }], guard := some (4, true) }) (v := ?_) rfl (by kernel_rfl) (by kernel_rfl) (by kernel_rfl) (fun _ _ _ h => h) (Or.inl ⟨by rfl, ?_⟩) (by assumption) ?_
        rotate_left
        · intro w hSw
          clear hSw
          go_simp
          all_goals with_reducible rfl
        simp only [Act.put, List.setIfInBounds_toArray, List.set_cons_zero, List.set_cons_succ]
        refine wpAnyH_take (i := 8) (oi := { dst := some 32, op := Op.move (Operand.tmp 1), type := 3, pos := "law.go:135", after := #[{ on := 4, ground := Ground.guard }], guard := some (4, true) }) (v := ?_) rfl (by kernel_rfl) (by kernel_rfl) (by kernel_rfl) (fun _ _ _ h => h) (Or.inl ⟨by rfl, ?_⟩) (by assumption) ?_
        rotate_left
        · intro w hSw
          clear hSw
          go_simp
          all_goals with_reducible rfl
        simp only [Act.put, List.setIfInBounds_toArray, List.set_cons_zero, List.set_cons_succ]
        refine wpAnyH_take (i := 9) (oi := { dst := some 33, op := Op.indexAddr 41 (Operand.tmp 31) (Operand.tmp 32), type := 0, pos := "law.go:135", after := #[{ on := 7, ground := Ground.data }, { on := 8, ground := Ground.data }, { on := 4, ground := Ground.guard }], guard := some (4, true) }) (v := ?_) rfl (by kernel_rfl) (by kernel_rfl) (by kernel_rfl) (fun _ _ _ h => h) (Or.inl ⟨by rfl, ?_⟩) (by assumption) ?_
        rotate_left
        · intro w hSw
          clear hSw
          go_simp
          all_goals with_reducible rfl
        simp only [Act.put, List.setIfInBounds_toArray, List.set_cons_zero, List.set_cons_succ]
        refine wpAnyH_take (i := 10) (oi := { dst := some 34, op := Op.load 25 (Operand.tmp 33), type := 25, pos := "law.go:135", after := #[{ on := 9, ground := Ground.data }, { on := 4, ground := Ground.guard }], guard := some (4, true) }) (v := ?_) rfl (by kernel_rfl) (by kernel_rfl) (by kernel_rfl) (fun _ _ _ h => h) (Or.inl ⟨by rfl, ?_⟩) (by assumption) ?_
        rotate_left
        · intro w hSw
          have c4 := KA3.out w (hSw.below _ (Nat.le_refl _) (fun _ _ e => e))
          clear hSw
          go_simp
          all_goals with_reducible rfl
        simp only [Act.put, List.setIfInBounds_toArray, List.set_cons_zero, List.set_cons_succ]
        refine wpAnyH_take (i := 11) (oi := { dst := some 35, op := Op.convert 25 9 (Operand.tmp 34), type := 9, pos := "law.go:135", after := #[{ on := 10, ground := Ground.data }, { on := 4, ground := Ground.guard }], guard := some (4, true) }) (v := ?_) rfl (by kernel_rfl) (by kernel_rfl) (by kernel_rfl) (fun _ _ _ h => h) (Or.inl ⟨by rfl, ?_⟩) (by assumption) ?_
        rotate_left
        · intro w hSw
          have c4 := KA2.out w (hSw.below _ (Nat.le_refl _) (fun _ _ e => e))
          clear hSw
          go_simp
          all_goals with_reducible rfl
        simp only [Act.put, List.setIfInBounds_toArray, List.set_cons_zero, List.set_cons_succ]
        refine wpAnyH_take (i := 12) (oi := { dst := some 36, op := Op.binOp BinOp.neq 9 (Operand.tmp 30) (Operand.tmp 35) 9, type := 4, pos := "law.go:135", after := #[{ on := 6, ground := Ground.data }, { on := 11, ground := Ground.data }, { on := 4, ground := Ground.guard }], guard := some (4, true) }) (v := ?_) rfl (by kernel_rfl) (by kernel_rfl) (by kernel_rfl) (fun _ _ _ h => h) (Or.inl ⟨by rfl, ?_⟩) (by assumption) ?_
        rotate_left
        · intro w hSw
          clear hSw
          go_simp
          all_goals with_reducible rfl
        simp only [Act.put, List.setIfInBounds_toArray, List.set_cons_zero, List.set_cons_succ]
        refine wpAnyH_take (i := 13) (oi := { dst := some 37, op := Op.pick (Operand.tmp 28) (Operand.tmp 36) (Operand.const (Value.bool false)), type := 4, pos := "law.go:135", after := #[{ on := 4, ground := Ground.data }, { on := 12, ground := Ground.data }], guard := none }) (v := ?_) rfl (by kernel_rfl) (by kernel_rfl) (by kernel_rfl) (fun _ _ _ h => h) (Or.inl ⟨by rfl, ?_⟩) (by assumption) ?_
        rotate_left
        · intro w hSw
          clear hSw
          go_simp
          all_goals with_reducible rfl
        simp only [Act.put, List.setIfInBounds_toArray, List.set_cons_zero, List.set_cons_succ]
        refine wpAnyH_done (by kernel_rfl) ?_ _
        refine NoPanic.normal ?_
        clear hHeld heqv
        have BZ := hide (CZ1.out.below _ (Nat.le_refl _) (fun _ _ e => e))
        have BF := hide (BB.out.trans (CZ1.out.below w.heap.size BB.out.size (fun k hk e => e)))
        have BG := hide (BX.out.trans (BZ.out.mono BX.out.size))
        clear CZ1
        clear hnb2
        cases nb with
        | false =>
          simp only [Bool.not_false]
          go_wp2_with fail
          go_ret2
          exact ⟨some ⟨gb, 0, none⟩, 3, 3, true, rfl, (fun _ => ⟨b, S0.out.below BZ.out (Nat.le_refl _), HB3.out, by rw [← EE.out, HDD.out, ED.out], by have := HNB.out; intro e; rw [e] at this; simp at this⟩), BF.out⟩
        | true =>
          simp only [Bool.not_true]
          go_wp2_with fail
          go_roundg gO
          case measure => omega
          case rel => exact ⟨k + 1, by omega, by first | rfl | simp, BG⟩
      · have heqv : ∀ w, (Op.equalIn 10000 23 (.agg (S.v8 E)) (.agg (S.v8l D).toArray)).run Tryd.prog w = .ok false w := fun w => by rw [← S.v8_eq]; exact equal_dig E D LE.out LD.out false (by simp [hdd]) w
        clear hdd hnb2
        refine wp_region_noPanic ?_
        refine wp_region_held_drew (S := (fun W => Chg (fun _ => False) X0 W)) follows ((Chg.refl _ _).drew) (fun hHeld => ?_)
        clear hHeld
        have hHeld : Chg (fun _ => False) X0 X0.drew := (Chg.refl _ _).drew
        have CZ0 := hide hHeld
        generalize X0.drew = Z0 at CZ0 hHeld ⊢
        refine wpAnyH_take (i := 0) (oi := { dst := some 24, op := Op.move (Operand.tmp 8), type := 25, pos := "law.go:135", after := #[], guard := none }) (v := ?_) rfl (by kernel_rfl) (by kernel_rfl) (by kernel_rfl) (fun _ _ _ h => h) (Or.inl ⟨by rfl, ?_⟩) (by assumption) ?_
        rotate_left
        · intro w hSw
          clear hSw
          go_simp
          all_goals with_reducible rfl
        simp only [Act.put, List.setIfInBounds_toArray, List.set_cons_zero, List.set_cons_succ]
        refine wpAnyH_take (i := 2) (oi := { dst := some 26, op := Op.load 23 (Operand.tmp 6), type := 23, pos := "law.go:135", after := #[], guard := none }) (v := .agg (S.v8l D).toArray) rfl (by kernel_rfl) (by kernel_rfl) (by kernel_rfl) (fun _ _ _ h => h) (yieldsIf_load_mid (by rfl) _ _ rfl gr 0 rfl (S.v8l D) _ (fun _ hSw => rangeAt_row (hSw.row RX.out (fun e => e))) Tryd.underlying23 rfl hsz) (by assumption) ?_
        simp only [Act.put, List.setIfInBounds_toArray, List.set_cons_zero, List.set_cons_succ]
        refine wpAnyH_ready (rs := [1]) (by kernel_rfl) (by simp) ?_
        refine AllReadyH.cons (o := { dst := some 25, op := Op.call { callee := Callee.value (Operand.func 9), args := #[Operand.const (Value.int IntKind.i64 1), Operand.tmp 24], argTypes := #[3, 25] }, type := 23, pos := "law.go:135", after := #[{ on := 0, ground := Ground.data }], guard := none }) rfl (fun K hK => ?_) AllReadyH.nil
        go_simp
        refine (leaf_any 1 _ b Z0 (S0.out.below (CZ0.out.below _ (Nat.le_refl _) (fun _ _ e => e)) (Nat.le_refl _)) (by rw [HB3.out]; omega) (HK.out.below (BB.out.trans (CZ0.out.below w.heap.size BB.out.size (fun k hk e => e))) h0)).mono ?_
        rintro e Z1 ⟨rfl, hb2⟩
        rw [← EE.out]
        have CZ1 : Hid (Chg (fun _ => False) X0 Z1) := CZ0.out.then hb2
        clear hb2 CZ0
        clear hHeld
        refine hK.out _ _ CZ1.out (fun hHeld => ?_)
        clear hK K
        try simp only [Act.put, List.setIfInBounds_toArray, List.set_cons_zero, List.set_cons_succ]
        refine wpAnyH_take (i := 3) (oi := { dst := some 27, op := Op.binOp BinOp.eql 23 (Operand.tmp 25) (Operand.tmp 26) 23, type := 4, pos := "law.go:135", after := #[{ on := 1, ground := Ground.data }, { on := 2, ground := Ground.data }], guard := none }) (v := ?_) rfl (by kernel_rfl) (by kernel_rfl) (by kernel_rfl) (fun _ _ _ h => h) (Or.inl ⟨by rfl, ?_⟩) (by assumption) ?_
        rotate_left
        · intro w hSw
          clear hSw
          go_simp
          all_goals with_reducible rfl
        simp only [Act.put, List.setIfInBounds_toArray, List.set_cons_zero, List.set_cons_succ]
        refine wpAnyH_take (i := 4) (oi := { dst := some 28, op := Op.move (Operand.tmp 27), type := 4, pos := "law.go:135", after := #[{ on := 3, ground := Ground.data }, { on := 1, ground := Ground.chain }], guard := none }) (v := ?_) rfl (by kernel_rfl) (by kernel_rfl) (by kernel_rfl) (fun _ _ _ h => h) (Or.inl ⟨by rfl, ?_⟩) (by assumption) ?_
        rotate_left
        · intro w hSw
          clear hSw
          go_simp
          all_goals with_reducible rfl
        simp only [Act.put, List.setIfInBounds_toArray, List.set_cons_zero, List.set_cons_succ]
        refine wpAnyH_take (i := 5) (oi := { dst := some 29, op := Op.move (Operand.tmp 8), type := 25, pos := "law.go:135", after := #[{ on := 4, ground := Ground.guard }], guard := some (4, true) }) (v := undef) rfl (by kernel_rfl) (by kernel_rfl) (by kernel_rfl) (fun _ _ _ h => h) (Or.inr ⟨by rfl, rfl⟩) (by assumption) ?_
        simp only [Act.put, List.setIfInBounds_toArray, List.set_cons_zero, List.set_cons_succ]
        refine wpAnyH_take (i := 6) (oi := { dst := some 30, op := Op.convert 25 9 (Operand.tmp 29), type := 9, pos := "law.go:135", after := #[{ on := 5, ground := Ground.data }, { on := 4, ground := Ground.guard }], guard := some (4, true) }) (v := undef) rfl (by kernel_rfl) (by kernel_rfl) (by kernel_rfl) (fun _ _ _ h => h) (Or.inr ⟨by rfl, rfl⟩) (by assumption) ?_
        simp only [Act.put, List.setIfInBounds_toArray, List.set_cons_zero, List.set_cons_succ]
        refine wpAnyH_take (i := 7) (oi := { dst := some 31, op := Op.move (Operand.tmp 0), type := 41, pos := "law.go:135", after := #[{ on := 4, ground := Ground.guard }], guard := some (4, true) }) (v := undef) rfl (by kernel_rfl) (by kernel_rfl) (by kernel_rfl) (fun _ _ _ h => h) (Or.inr ⟨by rfl, rfl⟩) (by assumption) ?_
        simp only [Act.put, List.setIfInBounds_toArray, List.set_cons_zero, List.set_cons_succ]
        refine wpAnyH_take (i := 8) (oi := { dst := some 32, op := Op.move (Operand.tmp 1), type := 3, pos := "law.go:135", after := #[{ on := 4, ground := Ground.guard }], guard := some (4, true) }) (v := undef) rfl (by kernel_rfl) (by kernel_rfl) (by kernel_rfl) (fun _ _ _ h => h) (Or.inr ⟨by rfl, rfl⟩) (by assumption) ?_
        simp only [Act.put, List.setIfInBounds_toArray, List.set_cons_zero, List.set_cons_succ]
        refine wpAnyH_take (i := 9) (oi := { dst := some 33, op := Op.indexAddr 41 (Operand.tmp 31) (Operand.tmp 32), type := 0, pos := "law.go:135", after := #[{ on := 7, ground := Ground.data }, { on := 8, ground := Ground.data }, { on := 4, ground := Ground.guard }], guard := some (4, true) }) (v := undef) rfl (by kernel_rfl) (by kernel_rfl) (by kernel_rfl) (fun _ _ _ h => h) (Or.inr ⟨by rfl, rfl⟩) (by assumption) ?_
        simp only [Act.put, List.setIfInBounds_toArray, List.set_cons_zero, List.set_cons_succ]
        refine wpAnyH_take (i := 10) (oi := { dst := some 34, op := Op.load 25 (Operand.tmp 33), type := 25, pos := "law.go:135", after := #[{ on := 9, ground := Ground.data }, { on := 4, ground := Ground.guard }], guard := some (4, true) }) (v := undef) rfl (by kernel_rfl) (by kernel_rfl) (by kernel_rfl) (fun _ _ _ h => h) (Or.inr ⟨by rfl, rfl⟩) (by assumption) ?_
        simp only [Act.put, List.setIfInBounds_toArray, List.set_cons_zero, List.set_cons_succ]
        refine wpAnyH_take (i := 11) (oi := { dst := some 35, op := Op.convert 25 9 (Operand.tmp 34), type := 9, pos := "law.go:135", after := #[{ on := 10, ground := Ground.data }, { on := 4, ground := Ground.guard }], guard := some (4, true) }) (v := undef) rfl (by kernel_rfl) (by kernel_rfl) (by kernel_rfl) (fun _ _ _ h => h) (Or.inr ⟨by rfl, rfl⟩) (by assumption) ?_
        simp only [Act.put, List.setIfInBounds_toArray, List.set_cons_zero, List.set_cons_succ]
        refine wpAnyH_take (i := 12) (oi := { dst := some 36, op := Op.binOp BinOp.neq 9 (Operand.tmp 30) (Operand.tmp 35) 9, type := 4, pos := "law.go:135", after := #[{ on := 6, ground := Ground.data }, { on := 11, ground := Ground.data }, { on := 4, ground := Ground.guard }], guard := some (4, true) }) (v := undef) rfl (by kernel_rfl) (by kernel_rfl) (by kernel_rfl) (fun _ _ _ h => h) (Or.inr ⟨by rfl, rfl⟩) (by assumption) ?_
        simp only [Act.put, List.setIfInBounds_toArray, List.set_cons_zero, List.set_cons_succ]
        refine wpAnyH_take (i := 13) (oi := { dst := some 37, op := Op.pick (Operand.tmp 28) (Operand.tmp 36) (Operand.const (Value.bool false)), type := 4, pos := "law.go:135", after := #[{ on := 4, ground := Ground.data }, { on := 12, ground := Ground.data }], guard := none }) (v := ?_) rfl (by kernel_rfl) (by kernel_rfl) (by kernel_rfl) (fun _ _ _ h => h) (Or.inl ⟨by rfl, ?_⟩) (by assumption) ?_
        rotate_left
        · intro w hSw
          clear hSw
          go_simp
          all_goals with_reducible rfl
        simp only [Act.put, List.setIfInBounds_toArray, List.set_cons_zero, List.set_cons_succ]
        refine wpAnyH_done (by kernel_rfl) ?_ _
        refine NoPanic.normal ?_
        clear hHeld heqv
        have BZ := hide (CZ1.out.below _ (Nat.le_refl _) (fun _ _ e => e))
        have BF := hide (BB.out.trans (CZ1.out.below w.heap.size BB.out.size (fun k hk e => e)))
        have BG := hide (BX.out.trans (BZ.out.mono BX.out.size))
        clear CZ1
        go_wp2_with fail
        go_roundg gO
        case measure => omega
        case rel => exact ⟨k + 1, by omega, by first | rfl | simp, BG⟩

theorem cut_lit (d : List UInt8) (hd : d.length = 32) (a : Nat) (z : Int) (hz : z = (a : Int)) (ha : a ≤ 9223372036854775807) (w : World) :
   Calls Tryd.prog 29 #[.agg (S.v8 d), .int .i64 z] w fun e w' => e = .returned (.agg (S.v8 (S.cut d a))) ∧ Below w.heap.size w w' := by
  rw [hz]
  exact cut_any d hd a ha w
theorem S.vLeaf_alike {a : Int} {b c : List UInt8} (h : S.leaf a b = S.leaf a c) (i n : Nat) (ps : List (List UInt8)) (rt : List UInt8) : S.vLeaf a b i n ps rt = S.vLeaf a c i n ps rt := by
  unfold S.vLeaf; rw [h]
set_option maxHeartbeats 16000000 in
set_option maxRecDepth 10000 in
theorem verifyCollides_walk (kk : Int) (ix : Nat) (c : UInt8) (w : World) (h1 : -9223372036854775808 ≤ kk) (h2 : kk ≤ 9223372036854775807) (hix : ix < 18446744073709551616) (hK : KAt w) :
   Calls Tryd.prog 8 #[.int .i64 kk, .int .u64 (ix : Int), .int .u8 (c.toNat : Int)] w fun e w' => e = .returned (.bool true) ∧ Below w.heap.size w w' := by
  have HK := hide hK
  have h0 := hK.pos
  clear hK
  go_enter Tryd.func8, Tryd.ntmps8
  go_wp2_with fail
  refine (within_any kk 20 w h1 h2 (by omega) (by omega)).mono ?_
  rintro e w0 ⟨rfl, rfl⟩
  have hkl := S.within_le kk 20 (by omega)
  obtain ⟨k0, hk0⟩ : ∃ k, k = S.within kk 20 := ⟨_, rfl⟩
  rw [← hk0] at hkl ⊢
  obtain ⟨n, hn⟩ : ∃ n, n = k0 + 1 := ⟨_, rfl⟩
  have q0 : IntKind.i64.wrap ((k0 : Int) + 1) = (n : Int) := by rw [IntKind.wrap_i64]; omega
  have hn21 : n ≤ 21 := by omega
  have hn1 : 1 ≤ n := by omega
  clear hk0 hkl hn
  go_wp2_with fail
  clear q0
  refine (list_any n c (by omega) w).mono ?_
  rintro e w1 ⟨vl, rfl, t1, b1⟩
  obtain ⟨L, hL⟩ : ∃ L, L = S.lst n c := ⟨_, rfl⟩
  rw [← hL] at t1
  have hN : L.length = n := by rw [hL, S.lst_length]
  have HF := hide (show Fit L by rw [hL]; exact S.lst_fit n c)
  obtain ⟨lo, lc, rfl⟩ := t1.form
  have V1 := hide t1.bsAt
  rw [hN] at V1 ⊢
  have HN := hide hN
  have B1 := hide b1
  obtain ⟨i, hi⟩ : ∃ i, i = ix % n := ⟨_, rfl⟩
  have hin : i < n := by rw [hi]; exact Nat.mod_lt _ (by omega)
  have qn : IntKind.u64.wrap (n : Int) = (n : Int) := by rw [IntKind.wrap_u64]; omega
  have qi : (ix : Int) % (n : Int) = (i : Int) := by rw [hi]; rfl
  have qz : ((n : Int) == 0) = false := by simp; omega
  have qz2 : ¬ (n : Int) = 0 := by omega
  have qu : IntKind.u64.wrap (i : Int) = (i : Int) := by rw [IntKind.wrap_u64]; omega
  have qs : IntKind.i64.wrap (i : Int) = (i : Int) := by rw [IntKind.wrap_i64]; omega
  clear t1 b1 hL hN hi
  go_wp2_with fail
  refine (found_any _ L i w1 V1.out HF.out (by rw [HN.out]; exact hin) (by rw [HN.out]; omega) (HK.out.below B1.out h0)).mono ?_
  rintro e w2 ⟨fo, fl, fc, ok, rfl, hok, b2⟩
  have B2 := hide (B1.out.trans (b2.mono B1.out.size))
  have V2 := hide (V1.out.below b2 (Nat.le_refl _))
  cases ok with
  | false =>
    clear hok b2 V1 B1
    go_wp2_with fail
    refine (known9_any w2 (HK.out.below B2.out h0)).mono ?_
    rintro e wk ⟨rfl, bk⟩
    have BK := hide (B2.out.trans (bk.mono B2.out.size))
    clear bk
    go_wp2_with fail
    go_ret
    exact ⟨rfl, BK.out⟩
  | true =>
    obtain ⟨b, hbs, hb3, hbl, hbx⟩ := hok rfl
    have SB := hide hbs
    have HB3 := hide hb3
    have HBL := hide hbl
    have HBX := hide hbx
    clear hok b2 V1 B1 hbs hb3 hbl hbx
    go_wp2_with fail
    refine (prove_any 1 L _ i w2 (by omega) (by rw [HN.out]; omega) V2.out HF.out (HK.out.below B2.out h0)).mono ?_
    rintro e w4 ⟨⟨vp, rfl, p4⟩, b4⟩
    obtain ⟨po, pc, rfl⟩ := p4.form
    have P4 := hide (p4.dgAt (by have := S.prove_len 1 L i 6 (by rw [HN.out]; omega); omega) (S.prove_len32 1 L i))
    have hpp : S.prove 1 L i = S.path 1 L i := by rw [S.prove, if_pos (by rw [HN.out]; exact hin)]
    have hp0 : S.proveNo L i = 0 := by rw [S.proveNo, if_pos (by rw [HN.out]; exact hin)]
    rw [hp0]
    obtain ⟨ps, hps⟩ : ∃ ps, ps = S.prove 1 L i := ⟨_, rfl⟩
    have PL := hide (show ps.length ≤ 90000 by rw [hps]; have := S.prove_len 1 L i 6 (by rw [HN.out]; omega); omega)
    have P32 := hide (show ∀ p ∈ ps, p.length = 32 by rw [hps]; exact S.prove_len32 1 L i)
    have HPS := hide (hps.trans hpp)
    rw [← hps] at P4
    rw [← hps]
    have V4 := hide (V2.out.below b4 (Nat.le_refl _))
    have S4 := hide (SB.out.below b4 (Nat.le_refl _))
    have B4 := hide (B2.out.trans (b4.mono B2.out.size))
    obtain ⟨pm, hpm⟩ : ∃ pm, pm = ps.length := ⟨_, rfl⟩
    rw [← hpm] at P4 ⊢
    clear p4 b4 hps hpm hpp hp0 V2 B2 SB
    go_wp2_with fail
    refine (root_any 1 _ L w4 V4.out (by rw [HN.out]; omega) HF.out (HK.out.below B4.out h0)).mono ?_
    rintro e w5 ⟨rfl, b5⟩
    obtain ⟨D, hD⟩ : ∃ D, D = S.root 1 L := ⟨_, rfl⟩
    have LD := hide (show D.length = 32 by rw [hD, S.root_length])
    rw [← hD]
    have TK1 := hide (show S.vLeaf 1 (L.getD i []) i n ps D = true by rw [hD, HPS.out, ← HN.out]; exact S.vLeaf_takes 1 L i (by rw [HN.out]; omega) (by rw [HN.out]; exact hin))
    have TK2 := hide (show S.vLeaf 1 b i n ps D = true by rw [S.vLeaf_alike HBL.out]; exact TK1.out)
    obtain ⟨AL, Y, hal, hst, ry, by1, sy⟩ := lay_dig w5 D LD.out
    obtain ⟨gr, hgr⟩ : ∃ g, g = w5.heap.size := ⟨_, rfl⟩
    rw [← hgr] at hal hst ry
    have b4Y : Below w4.heap.size w4 Y := b5.trans (by1.mono b5.size)
    have BY := hide (B4.out.trans (b4Y.mono B4.out.size))
    have RY := hide ry
    have V5 := hide (V4.out.below b4Y (Nat.le_refl _))
    have S5 := hide (S4.out.below b4Y (Nat.le_refl _))
    have P5 := hide (P4.out.below b4Y)
    obtain ⟨bl, offl, cl, e9, e9', e9b, hcl⟩ := V5.out.src (by rw [HN.out]; omega)
    simp only [Value.slice.injEq] at e9
    obtain ⟨rfl, e9n, rfl⟩ := e9
    obtain ⟨x, hx, hxs⟩ := hcl i (by rw [HN.out]; exact hin)
    obtain ⟨xo, xl, xc, rfl, hxl, hxm⟩ := hxs.form
    have CX := hide hx
    have XS := hide hxs
    have HBLT := hide e9b
    have HFX := hide (HF.out.at i (by rw [HN.out]; exact hin))
    have q1 : (0 : Int) ≤ (i : Int) := by omega
    have q2 : (i : Int) < (n : Int) := by omega
    have hsz := size_dig D LD.out
    clear hD b5 by1 sy hgr ry b4Y V4 S4 P4 B4 e9n e9' e9b hcl hx hxs hxl hxm
    go_upto_region 9 with (first | (with_reducible refine at_op { dst := some 13, op := Op.alloc 23, type := 0, pos := "law.go:152", after := #[], guard := none } ?_; refine wpList_alloc_known rfl 23 rfl (.pointer (some ⟨gr, 0, none⟩)) AL hal ?_) | (with_reducible refine at_op { dst := none, op := Op.store 23 (Operand.tmp 13) (Operand.tmp 45), type := 0, pos := "law.go:152", after := #[{ on := 2, ground := Ground.data }, { on := 1, ground := Ground.data }, { on := 1, ground := Ground.chain }, { on := 0, ground := Ground.phase }, { on := 1, ground := Ground.phase }, { on := 2, ground := Ground.phase }], guard := none } ?_; refine wpList_store_as rfl 23 (.tmp 13) (.tmp 45) rfl (.pointer (some ⟨gr, 0, none⟩)) (.agg (S.v8 D)) rfl rfl Y hst ?_))
    clear hal hst
    refine wp_region_noPanic ?_
    refine wp_region_held_drew (S := (fun W => Chg (fun _ => False) Y W)) follows ((Chg.refl _ _).drew) (fun hHeld => ?_)
    clear hHeld
    have hHeld : Chg (fun _ => False) Y Y.drew := (Chg.refl _ _).drew
    have CZ0 := hide hHeld
    generalize Y.drew = Z0 at CZ0 hHeld ⊢
    refine wpAnyH_take (i := 0) (oi := { dst := some 46, op := Op.move (Operand.tmp 7), type := 41, pos := "law.go:153", after := #[], guard := none }) (v := ?_) rfl (by kernel_rfl) (by kernel_rfl) (by kernel_rfl) (fun _ _ _ h => h) (Or.inl ⟨by rfl, ?_⟩) (by assumption) ?_
    rotate_left
    · intro w hSw
      clear hSw
      go_simp
      all_goals with_reducible rfl
    simp only [Act.put, List.setIfInBounds_toArray, List.set_cons_zero, List.set_cons_succ]
    refine wpAnyH_take (i := 1) (oi := { dst := some 47, op := Op.move (Operand.tmp 8), type := 3, pos := "law.go:153", after := #[], guard := none }) (v := ?_) rfl (by kernel_rfl) (by kernel_rfl) (by kernel_rfl) (fun _ _ _ h => h) (Or.inl ⟨by rfl, ?_⟩) (by assumption) ?_
    rotate_left
    · intro w hSw
      clear hSw
      go_simp
      all_goals with_reducible rfl
    simp only [Act.put, List.setIfInBounds_toArray, List.set_cons_zero, List.set_cons_succ]
    refine wpAnyH_take (i := 2) (oi := { dst := some 48, op := Op.indexAddr 41 (Operand.tmp 46) (Operand.tmp 47), type := 0, pos := "law.go:153", after := #[{ on := 0, ground := Ground.data }, { on := 1, ground := Ground.data }], guard := none }) (v := ?_) rfl (by kernel_rfl) (by kernel_rfl) (by kernel_rfl) (fun _ _ _ h => h) (Or.inl ⟨by rfl, ?_⟩) (by assumption) ?_
    rotate_left
    · intro w hSw
      clear hSw
      go_simp
      all_goals with_reducible rfl
    simp only [Act.put, List.setIfInBounds_toArray, List.set_cons_zero, List.set_cons_succ]
    refine wpAnyH_take (i := 3) (oi := { dst := some 49, op := Op.load 25 (Operand.tmp 48), type := 25, pos := "law.go:153", after := #[{ on := 2, ground := Ground.data }], guard := none }) (v := ?_) rfl (by kernel_rfl) (by kernel_rfl) (by kernel_rfl) (fun _ _ _ h => h) (Or.inl ⟨by rfl, ?_⟩) (by assumption) ?_
    rotate_left
    · intro w hSw
      have c4 := ((hSw.below _ (Nat.le_refl _) (fun _ _ e => e)).cell (p := ⟨bl, offl + i, none⟩) HBLT.out).trans CX.out
      clear hSw
      go_simp
      all_goals with_reducible rfl
    simp only [Act.put, List.setIfInBounds_toArray, List.set_cons_zero, List.set_cons_succ]
    refine wpAnyH_take (i := 4) (oi := { dst := some 50, op := Op.move (Operand.tmp 8), type := 3, pos := "law.go:153", after := #[], guard := none }) (v := ?_) rfl (by kernel_rfl) (by kernel_rfl) (by kernel_rfl) (fun _ _ _ h => h) (Or.inl ⟨by rfl, ?_⟩) (by assumption) ?_
    rotate_left
    · intro w hSw
      clear hSw
      go_simp
      all_goals with_reducible rfl
    simp only [Act.put, List.setIfInBounds_toArray, List.set_cons_zero, List.set_cons_succ]
    refine wpAnyH_take (i := 5) (oi := { dst := some 51, op := Op.convert 3 28 (Operand.tmp 50), type := 28, pos := "law.go:153", after := #[{ on := 4, ground := Ground.data }], guard := none }) (v := ?_) rfl (by kernel_rfl) (by kernel_rfl) (by kernel_rfl) (fun _ _ _ h => h) (Or.inl ⟨by rfl, ?_⟩) (by assumption) ?_
    rotate_left
    · intro w hSw
      clear hSw
      go_simp
      all_goals with_reducible rfl
    simp only [Act.put, List.setIfInBounds_toArray, List.set_cons_zero, List.set_cons_succ]
    refine wpAnyH_take (i := 6) (oi := { dst := some 52, op := Op.move (Operand.tmp 0), type := 3, pos := "law.go:153", after := #[], guard := none }) (v := ?_) rfl (by kernel_rfl) (by kernel_rfl) (by kernel_rfl) (fun _ _ _ h => h) (Or.inl ⟨by rfl, ?_⟩) (by assumption) ?_
    rotate_left
    · intro w hSw
      clear hSw
      go_simp
      all_goals with_reducible rfl
    simp only [Act.put, List.setIfInBounds_toArray, List.set_cons_zero, List.set_cons_succ]
    refine wpAnyH_take (i := 7) (oi := { dst := some 53, op := Op.convert 3 28 (Operand.tmp 52), type := 28, pos := "law.go:153", after := #[{ on := 6, ground := Ground.data }], guard := none }) (v := ?_) rfl (by kernel_rfl) (by kernel_rfl) (by kernel_rfl) (fun _ _ _ h => h) (Or.inl ⟨by rfl, ?_⟩) (by assumption) ?_
    rotate_left
    · intro w hSw
      clear hSw
      go_simp
      all_goals with_reducible rfl
    simp only [Act.put, List.setIfInBounds_toArray, List.set_cons_zero, List.set_cons_succ]
    refine wpAnyH_take (i := 8) (oi := { dst := some 54, op := Op.move (Operand.tmp 11), type := 32, pos := "law.go:153", after := #[], guard := none }) (v := ?_) rfl (by kernel_rfl) (by kernel_rfl) (by kernel_rfl) (fun _ _ _ h => h) (Or.inl ⟨by rfl, ?_⟩) (by assumption) ?_
    rotate_left
    · intro w hSw
      clear hSw
      go_simp
      all_goals with_reducible rfl
    simp only [Act.put, List.setIfInBounds_toArray, List.set_cons_zero, List.set_cons_succ]
    refine wpAnyH_take (i := 9) (oi := { dst := some 55, op := Op.load 23 (Operand.tmp 13), type := 23, pos := "law.go:153", after := #[], guard := none }) (v := .agg (S.v8l D).toArray) rfl (by kernel_rfl) (by kernel_rfl) (by kernel_rfl) (fun _ _ _ h => h) (yieldsIf_load_mid (by rfl) _ _ rfl gr 0 rfl (S.v8l D) _ (fun _ hSw => rangeAt_row (hSw.row RY.out (fun e => e))) Tryd.underlying23 rfl hsz) (by assumption) ?_
    simp only [Act.put, List.setIfInBounds_toArray, List.set_cons_zero, List.set_cons_succ]
    refine wpAnyH_ready (rs := [10]) (by kernel_rfl) (by simp) ?_
    refine AllReadyH.cons (o := { dst := some 56, op := Op.call { callee := Callee.value (Operand.func 11), args := #[Operand.const (Value.int IntKind.i64 1), Operand.tmp 49, Operand.tmp 51, Operand.tmp 53, Operand.tmp 54, Operand.tmp 55], argTypes := #[3, 25, 28, 28, 32, 23] }, type := 4, pos := "law.go:153", after := #[{ on := 3, ground := Ground.data }, { on := 5, ground := Ground.data }, { on := 7, ground := Ground.data }, { on := 8, ground := Ground.data }, { on := 9, ground := Ground.data }], guard := none }) rfl (fun K hK => ?_) AllReadyH.nil
    go_simp
    refine (leafv_any 1 _ _ (L.getD i []) i n ps D LD.out Z0 (by omega) (by omega) (XS.out.below (CZ0.out.below _ (Nat.le_refl _) (fun _ _ e => e)) (Nat.le_refl _)) (by have := HFX.out; omega) (P5.out.below (CZ0.out.below _ (Nat.le_refl _) (fun _ _ e => e))) PL.out (HK.out.below (BY.out.trans (CZ0.out.below w.heap.size BY.out.size (fun k hk e => e))) h0)).mono ?_
    rintro e Z1 ⟨rfl, hb2⟩
    rw [TK1.out]
    have CZ1 : Hid (Chg (fun _ => False) Y Z1) := CZ0.out.then hb2
    clear hb2 CZ0
    clear hHeld
    refine hK.out _ _ CZ1.out (fun hHeld => ?_)
    clear hK K
    try simp only [Act.put, List.setIfInBounds_toArray, List.set_cons_zero, List.set_cons_succ]
    refine wpAnyH_take (i := 11) (oi := { dst := some 57, op := Op.unOp UnOp.not 4 (Operand.tmp 56), type := 4, pos := "law.go:153", after := #[{ on := 10, ground := Ground.data }], guard := none }) (v := ?_) rfl (by kernel_rfl) (by kernel_rfl) (by kernel_rfl) (fun _ _ _ h => h) (Or.inl ⟨by rfl, ?_⟩) (by assumption) ?_
    rotate_left
    · intro w hSw
      clear hSw
      go_simp
      all_goals with_reducible rfl
    simp only [Act.put, List.setIfInBounds_toArray, List.set_cons_zero, List.set_cons_succ]
    refine wpAnyH_take (i := 12) (oi := { dst := some 58, op := Op.move (Operand.tmp 57), type := 4, pos := "law.go:153", after := #[{ on := 11, ground := Ground.data }, { on := 10, ground := Ground.chain }], guard := none }) (v := ?_) rfl (by kernel_rfl) (by kernel_rfl) (by kernel_rfl) (fun _ _ _ h => h) (Or.inl ⟨by rfl, ?_⟩) (by assumption) ?_
    rotate_left
    · intro w hSw
      clear hSw
      go_simp
      all_goals with_reducible rfl
    simp only [Act.put, List.setIfInBounds_toArray, List.set_cons_zero, List.set_cons_succ]
    refine wpAnyH_take (i := 13) (oi := { dst := some 59, op := Op.move (Operand.tmp 9), type := 25, pos := "law.go:153", after := #[{ on := 12, ground := Ground.guard }], guard := some (12, false) }) (v := ?_) rfl (by kernel_rfl) (by kernel_rfl) (by kernel_rfl) (fun _ _ _ h => h) (Or.inl ⟨by rfl, ?_⟩) (by assumption) ?_
    rotate_left
    · intro w hSw
      clear hSw
      go_simp
      all_goals with_reducible rfl
    simp only [Act.put, List.setIfInBounds_toArray, List.set_cons_zero, List.set_cons_succ]
    refine wpAnyH_take (i := 14) (oi := { dst := some 60, op := Op.move (Operand.tmp 8), type := 3, pos := "law.go:153", after := #[{ on := 12, ground := Ground.guard }], guard := some (12, false) }) (v := ?_) rfl (by kernel_rfl) (by kernel_rfl) (by kernel_rfl) (fun _ _ _ h => h) (Or.inl ⟨by rfl, ?_⟩) (by assumption) ?_
    rotate_left
    · intro w hSw
      clear hSw
      go_simp
      all_goals with_reducible rfl
    simp only [Act.put, List.setIfInBounds_toArray, List.set_cons_zero, List.set_cons_succ]
    refine wpAnyH_take (i := 15) (oi := { dst := some 61, op := Op.convert 3 28 (Operand.tmp 60), type := 28, pos := "law.go:153", after := #[{ on := 14, ground := Ground.data }, { on := 12, ground := Ground.guard }], guard := some (12, false) }) (v := ?_) rfl (by kernel_rfl) (by kernel_rfl) (by kernel_rfl) (fun _ _ _ h => h) (Or.inl ⟨by rfl, ?_⟩) (by assumption) ?_
    rotate_left
    · intro w hSw
      clear hSw
      go_simp
      all_goals with_reducible rfl
    simp only [Act.put, List.setIfInBounds_toArray, List.set_cons_zero, List.set_cons_succ]
    refine wpAnyH_take (i := 16) (oi := { dst := some 62, op := Op.move (Operand.tmp 0), type := 3, pos := "law.go:153", after := #[{ on := 12, ground := Ground.guard }], guard := some (12, false) }) (v := ?_) rfl (by kernel_rfl) (by kernel_rfl) (by kernel_rfl) (fun _ _ _ h => h) (Or.inl ⟨by rfl, ?_⟩) (by assumption) ?_
    rotate_left
    · intro w hSw
      clear hSw
      go_simp
      all_goals with_reducible rfl
    simp only [Act.put, List.setIfInBounds_toArray, List.set_cons_zero, List.set_cons_succ]
    refine wpAnyH_take (i := 17) (oi := { dst := some 63, op := Op.convert 3 28 (Operand.tmp 62), type := 28, pos := "law.go:153", after := #[{ on := 16, ground := Ground.data }, { on := 12, ground := Ground.guard }], guard := some (12, false) }) (v := ?_) rfl (by kernel_rfl) (by kernel_rfl) (by kernel_rfl) (fun _ _ _ h => h) (Or.inl ⟨by rfl, ?_⟩) (by assumption) ?_
    rotate_left
    · intro w hSw
      clear hSw
      go_simp
      all_goals with_reducible rfl
    simp only [Act.put, List.setIfInBounds_toArray, List.set_cons_zero, List.set_cons_succ]
    refine wpAnyH_take (i := 18) (oi := { dst := some 64, op := Op.move (Operand.tmp 11), type := 32, pos := "law.go:153", after := #[{ on := 12, ground := Ground.guard }], guard := some (12, false) }) (v := ?_) rfl (by kernel_rfl) (by kernel_rfl) (by kernel_rfl) (fun _ _ _ h => h) (Or.inl ⟨by rfl, ?_⟩) (by assumption) ?_
    rotate_left
    · intro w hSw
      clear hSw
      go_simp
      all_goals with_reducible rfl
    simp only [Act.put, List.setIfInBounds_toArray, List.set_cons_zero, List.set_cons_succ]
    refine wpAnyH_take (i := 19) (oi := { dst := some 65, op := Op.load 23 (Operand.tmp 13), type := 23, pos := "law.go:153", after := #[{ on := 12, ground := Ground.guard }], guard := some (12, false) }) (v := .agg (S.v8l D).toArray) rfl (by kernel_rfl) (by kernel_rfl) (by kernel_rfl) (fun _ _ _ h => h) (yieldsIf_load_mid (by rfl) _ _ rfl gr 0 rfl (S.v8l D) _ (fun _ hSw => rangeAt_row (hSw.row RY.out (fun e => e))) Tryd.underlying23 rfl hsz) (by assumption) ?_
    simp only [Act.put, List.setIfInBounds_toArray, List.set_cons_zero, List.set_cons_succ]
    refine wpAnyH_ready (rs := [20]) (by kernel_rfl) (by simp) ?_
    refine AllReadyH.cons (o := { dst := some 66, op := Op.call { callee := Callee.value (Operand.func 11), args := #[Operand.const (Value.int IntKind.i64 1), Operand.tmp 59, Operand.tmp 61, Operand.tmp 63, Operand.tmp 64, Operand.tmp 65], argTypes := #[3, 25, 28, 28, 32, 23] }, type := 4, pos := "law.go:153", after := #[{ on := 13, ground := Ground.data }, { on := 15, ground := Ground.data }, { on := 17, ground := Ground.data }, { on := 18, ground := Ground.data }, { on := 19, ground := Ground.data }, { on := 12, ground := Ground.chain }, { on := 12, ground := Ground.guard }], guard := some (12, false) }) rfl (fun K hK => ?_) AllReadyH.nil
    go_simp
    refine (leafv_any 1 _ _ b i n ps D LD.out Z1 (by omega) (by omega) (S5.out.below (CZ1.out.below _ (Nat.le_refl _) (fun _ _ e => e)) (Nat.le_refl _)) (by rw [HB3.out]; omega) (P5.out.below (CZ1.out.below _ (Nat.le_refl _) (fun _ _ e => e))) PL.out (HK.out.below (BY.out.trans (CZ1.out.below w.heap.size BY.out.size (fun k hk e => e))) h0)).mono ?_
    rintro e Z2 ⟨rfl, hb2⟩
    rw [TK2.out]
    have CZ2 : Hid (Chg (fun _ => False) Y Z2) := CZ1.out.then hb2
    clear hb2 CZ1
    clear hHeld
    refine hK.out _ _ CZ2.out (fun hHeld => ?_)
    clear hK K
    try simp only [Act.put, List.setIfInBounds_toArray, List.set_cons_zero, List.set_cons_succ]
    refine wpAnyH_take (i := 21) (oi := { dst := some 67, op := Op.unOp UnOp.not 4 (Operand.tmp 66), type := 4, pos := "law.go:153", after := #[{ on := 20, ground := Ground.data }, { on := 12, ground := Ground.guard }], guard := some (12, false) }) (v := ?_) rfl (by kernel_rfl) (by kernel_rfl) (by kernel_rfl) (fun _ _ _ h => h) (Or.inl ⟨by rfl, ?_⟩) (by assumption) ?_
    rotate_left
    · intro w hSw
      clear hSw
      go_simp
      all_goals with_reducible rfl
    simp only [Act.put, List.setIfInBounds_toArray, List.set_cons_zero, List.set_cons_succ]
    refine wpAnyH_take (i := 22) (oi := { dst := some 68, op := Op.pick (Operand.tmp 58) (Operand.const (Value.bool true)) (Operand.tmp 67), type := 4, pos := "law.go:153", after := #[{ on := 12, ground := Ground.data }, { on := 21, ground := Ground.data }], guard := none }) (v := ?_) rfl (by kernel_rfl) (by kernel_rfl) (by kernel_rfl) (fun _ _ _ h => h) (Or.inl ⟨by rfl, ?_⟩) (by assumption) ?_
    rotate_left
    · intro w hSw
      clear hSw
      go_simp
      all_goals with_reducible rfl
    simp only [Act.put, List.setIfInBounds_toArray, List.set_cons_zero, List.set_cons_succ]
    refine wpAnyH_done (by kernel_rfl) ?_ _
    refine NoPanic.normal ?_
    clear hHeld
    obtain ⟨Zf, hZf⟩ : ∃ Z, Z = Z2 := ⟨_, rfl⟩
    rw [← hZf] at CZ2 ⊢
    clear hZf
    have BZ := hide (CZ2.out.below _ (Nat.le_refl _) (fun _ _ e => e))
    have BF := hide (BY.out.trans (CZ2.out.below w.heap.size BY.out.size (fun k hk e => e)))
    clear CZ2
    have c0 : Zf.cell? ⟨bl, offl + i, none⟩ = some (.slice xo xl xc) := (BZ.out.cell (p := ⟨bl, offl + i, none⟩) HBLT.out).trans CX.out
    have XS2 := hide (XS.out.below BZ.out (Nat.le_refl _))
    have S6 := hide (S5.out.below BZ.out (Nat.le_refl _))
    have P6 := hide (P5.out.below BZ.out)
    clear V5 S5 P5 XS CX
    go_wp2_with fail
    clear c0
    refine (collide_any 1 _ _ _ _ (L.getD i []) b i n ps ps Zf (by omega) XS2.out S6.out (by have := HFX.out; omega) (by rw [HB3.out]; omega) P6.out PL.out P6.out PL.out (HK.out.below BF.out h0)).mono ?_
    rintro e w7 hT
    obtain ⟨u, v, hv, huv, hhv⟩ := S.vColl_tells 1 (L.getD i []) b i n ps ps D (by simpa using Nat.lt_of_lt_of_le hin (by omega)) P32.out P32.out TK1.out TK2.out (Ne.symm HBX.out)
    rw [hv] at hT
    obtain ⟨⟨ao, al, ac, yo, yl, yc, rfl, sx, sy⟩, b7⟩ := hT
    simp only [Option.isSome_some]
    have B7 := hide (BF.out.trans (b7.mono BF.out.size))
    obtain ⟨TX, hTX⟩ : ∃ T, T = (⟨u.toArray⟩ : ByteArray) := ⟨_, rfl⟩
    obtain ⟨TY, hTY⟩ : ∃ T, T = (⟨v.toArray⟩ : ByteArray) := ⟨_, rfl⟩
    have c1 : (convert 25 9 (.slice ao al ac)).run Tryd.prog w7 = .ok (.string TX) w7 := by rw [hTX]; exact conv_slice sx
    have c2 : (convert 25 9 (.slice yo yl yc)).run Tryd.prog w7 = .ok (.string TY) w7 := by rw [hTY]; exact conv_slice sy
    have hne : (TX.toList == TY.toList) = false := by rw [hTX, hTY, ByteArray.toList_eq, ByteArray.toList_eq]; simpa using huv
    have SX := hide (show SliceAt w7 (.slice ao al ac) u from sx)
    have SY := hide (show SliceAt w7 (.slice yo yl yc) v from sy)
    have HHV := hide (show S.cut (S.sum u) 1 = S.cut (S.sum v) 1 from hhv)
    clear hv huv hhv sx sy b7 hTX hTY XS2 S6 P6
    go_wp2_with fail
    clear c1 c2 hne
    refine (Sum_any _ u w7 SX.out (HK.out.below B7.out h0)).mono ?_
    rintro e w8 ⟨rfl, b8⟩
    obtain ⟨E1, hE1⟩ : ∃ E, E = S.sum u := ⟨_, rfl⟩
    have LE1 := hide (show E1.length = 32 by rw [hE1, S.sum_length])
    rw [← hE1] at HHV ⊢
    have SY8 := hide (SY.out.below b8 (Nat.le_refl _))
    have B8 := hide (B7.out.trans (b8.mono B7.out.size))
    clear hE1 b8 SX SY B7
    go_wp2_with fail
    refine (cut_lit E1 LE1.out 1 1 rfl (by omega) w8).mono ?_
    rintro e w9 ⟨rfl, b9⟩
    obtain ⟨E2, hE2⟩ : ∃ E, E = S.cut E1 1 := ⟨_, rfl⟩
    have LE2 := hide (show E2.length = 32 by rw [hE2, S.cut_length]; exact LE1.out)
    rw [← hE2] at HHV ⊢
    have SY9 := hide (SY8.out.below b9 (Nat.le_refl _))
    have B9 := hide (B8.out.trans (b9.mono B8.out.size))
    clear hE2 b9 SY8 B8
    go_wp2_with fail
    refine (Sum_any _ v w9 SY9.out (HK.out.below B9.out h0)).mono ?_
    rintro e w10 ⟨rfl, b10⟩
    obtain ⟨E3, hE3⟩ : ∃ E, E = S.sum v := ⟨_, rfl⟩
    have LE3 := hide (show E3.length = 32 by rw [hE3, S.sum_length])
    rw [← hE3] at HHV ⊢
    have B10 := hide (B9.out.trans (b10.mono B9.out.size))
    clear hE3 b10 SY9 B9
    go_wp2_with fail
    refine (cut_lit E3 LE3.out 1 1 rfl (by omega) w10).mono ?_
    rintro e w11 ⟨rfl, b11⟩
    rw [← HHV.out]
    have B11 := hide (B10.out.trans (b11.mono B10.out.size))
    have heqv : ∀ w, (Op.equalIn 10000 23 (.agg (S.v8 E2)) (.agg (S.v8 E2))).run Tryd.prog w = .ok true w := fun w => equal_dig E2 E2 LE2.out LE2.out true (by simp) w
    clear b11 B10
    go_wp2_with fail
    clear heqv
    refine (known9_any w11 (HK.out.below B11.out h0)).mono ?_
    rintro e wk ⟨rfl, bk⟩
    have BK := hide (B11.out.trans (bk.mono B11.out.size))
    clear bk
    go_wp2_with fail
    go_ret
    exact ⟨rfl, BK.out⟩
end Go.Proofs.YtlbggkmblkhjoaaDoor
