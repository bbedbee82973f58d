/- The runs that are known. -/
import Derived.Test.YtkljajfgdelfgaaDoorGa
namespace Go.Proofs.YtkljajfgdelfgaaDoor
open Go.RowKit

theorem blocks_lit (b e : Nat) (zb ze : Int) (hzb : zb = (b : Int)) (hze : ze = (e : Int)) (w : World) (hb : b < 18446744073709551616) (he : e < 18446744073709551616) :
   Calls Tryd.prog 15 #[.int .u64 zb, .int .u64 ze] w fun r w' => (∃ v, r = .returned v ∧ NRow w.heap.size w' v (C.blocks b e)) ∧ Below w.heap.size w w' := by
  subst hzb hze
  exact blocks_any b e w hb he
theorem empty_lit (p : Nat) (z : Int) (hz : z = (p : Int)) (w : World) :
   Calls Tryd.prog 10 #[.int .u64 z] w fun r w' => r = .returned (.agg #[.int .u64 z, .int .u64 z, .slice none 0 0]) ∧ Below w.heap.size w w' := by
  subst hz
  exact empty_any p w
theorem rootc_lit (a : Int) (b e : Nat) (zb ze : Int) (hzb : zb = (b : Int)) (hze : ze = (e : Int)) (u : Value) (hs : List (List UInt8)) (w : World) (hb : b < 18446744073709551616) (he : e < 18446744073709551616) (hu : DgAt w u hs) (hcap : ∀ ao n c, u = .slice ao n c → n ≤ c) (hK : KAt w) :
   Calls Tryd.prog 9 #[.int .i64 a, .agg #[.int .u64 zb, .int .u64 ze, u]] w fun r w' => r = .returned (.tuple #[.agg (S.v8 (C.rootA a b e hs).1), .int .i64 ((C.rootA a b e hs).2 : Int)]) ∧ Below w.heap.size w w' := by
  subst hzb hze
  exact rootc_any a b e u hs w hb he hu hcap hK
theorem step_buildSlice_w {md : Region.Mode} {ops : Array Oper} {Q : Exit → Act → World → Prop} {S : World → Prop} {fuel : Nat} {listed : Array Bool} {a : Act} {w : World} {i : Nat} {o : Oper} {rs : List Nat} (ho : ops[i]? = some o) (hw : Region.wanted o (yielded ops a.tmps) = true) (t : TypeId) (n : Nat) (parts : List (Nat × Operand))
    (hop : o.op = .buildSlice t n parts.toArray) (vs : List (Nat × Value)) (hvs : (parts.map fun p => (p.1, a.eval p.2)) = vs) (v' : Value) (w' : World) (hr : (Instr.buildSlice t n vs.toArray).run Tryd.prog w = .ok v' w') (hrest : AllReadyH Tryd.prog md ops Q S fuel listed a w rs)
    (h : S w' ∧ (S w' → wpAnyH Tryd.prog md ops Q S fuel (listed.setIfInBounds i true) (a.put o.dst v') w')) : AllReadyH Tryd.prog md ops Q S fuel listed a w (i :: rs) := by
  subst hvs
  refine AllReadyH.cons ho (fun K hK => ?_) hrest
  rw [if_pos hw]
  unfold Oper.wp execOp
  simp only [hop, Sem.run_bind, List.map_toArray, hr, Result.andThen_ok]
  exact hK.out _ _ h.1 h.2
theorem bs38three (W : World) (a b c : Int) : (Instr.buildSlice 38 3 #[(0, .int .u64 a), (1, .int .u64 b), (2, .int .u64 c)]).run Tryd.prog W = .ok (.slice (some ⟨W.heap.size, 0, none⟩) 3 3) (W.alloc (.cells #[.int .u64 a, .int .u64 b, .int .u64 c] 27)) := by
  go_simp
theorem C.blocks_07 : C.blocks 0 7 = [4, 2, 1] := by
  rw [C.blocks_cons 0 7 (by omega) (by omega), show C.blk 0 7 = 4 by decide, C.blocks_cons (0 + 4) 7 (by omega) (by omega), show C.blk (0 + 4) 7 = 2 by decide, C.blocks_cons (0 + 4 + 2) 7 (by omega) (by omega), show C.blk (0 + 4 + 2) 7 = 1 by decide, C.blocks_none _ 7 (by omega)]
theorem C.blocks_310 : C.blocks 3 10 = [1, 4, 2] := by
  rw [C.blocks_cons 3 10 (by omega) (by omega), show C.blk 3 10 = 1 by decide, C.blocks_cons (3 + 1) 10 (by omega) (by omega), show C.blk (3 + 1) 10 = 4 by decide, C.blocks_cons (3 + 1 + 4) 10 (by omega) (by omega), show C.blk (3 + 1 + 4) 10 = 2 by decide, C.blocks_none _ 10 (by omega)]
theorem C.rootA_00 (a : Int) : C.rootA a 0 0 [] = (S.root a [], 0) := by
  rw [C.rootA, if_pos (by simp [S.right, C.blocks_none 0 0 (by omega)]), if_pos rfl, if_pos rfl]
set_option maxHeartbeats 20000000 in
set_option maxRecDepth 10000 in
theorem known10_any (w : World) (hK : KAt w) : Calls Tryd.prog 17 #[] w fun e w' => e = .returned (.bool true) ∧ Below w.heap.size w w' := by
  have HK := hide hK
  have h0 := hK.pos
  clear hK
  go_enter Tryd.func17, Tryd.ntmps17
  go_wp2_with fail
  refine (empty_lit 0 0 rfl w).mono ?_
  rintro r W0 ⟨rfl, hb0⟩
  have B0 := hide hb0
  clear hb0
  go_wp2_with fail
  refine (rootc_lit 32 0 0 0 0 rfl rfl (.slice none 0 0) [] W0 (by omega) (by omega) (DgAt.nil _) (fun ao n c e => by simp only [Value.slice.injEq] at e; omega) (HK.out.below B0.out h0)).mono ?_
  rintro r W1 ⟨rfl, hb1⟩
  rw [C.rootA_00]
  obtain ⟨D, hD⟩ : ∃ D, D = S.root 32 [] := ⟨_, rfl⟩
  have LD := hide (show D.length = 32 by rw [hD]; exact S.root_length _ _)
  have HD := hide hD
  rw [← hD]
  obtain ⟨A, Y, hal, hst, ry, by_, sy⟩ := lay_dig W1 D LD.out
  have B1 := hide (B0.out.trans (hb1.mono B0.out.size))
  have BY := hide (B1.out.trans (by_.mono B1.out.size))
  obtain ⟨gd, hgd⟩ : ∃ g, g = W1.heap.size := ⟨_, rfl⟩
  rw [← hgd] at hal hst ry
  have RD := hide ry
  have GD := hide (show w.heap.size ≤ gd by rw [hgd]; exact B1.out.size)
  clear hD hb1 by_ sy hgd ry B0 B1
  have hsz := size_dig D LD.out
  have heq : ∀ w, (Op.equalIn 10000 23 (.agg (S.v8l D).toArray) (.agg (S.v8 D))).run Tryd.prog w = .ok true w := fun w => by rw [← S.v8_eq]; exact equal_dig D D LD.out LD.out true (by simp) w
  go_wp2_with (first | (with_reducible refine at_op { dst := some 1, op := Op.alloc 23, type := 0, pos := "law.go:33", after := #[], guard := none } ?_; refine wpList_alloc_known rfl 23 rfl (.pointer (some ⟨gd, 0, none⟩)) A hal ?_) | (with_reducible refine at_op { dst := none, op := Op.store 23 (Operand.tmp 1) (Operand.tmp 6), type := 0, pos := "law.go:33", after := #[{ on := 5, ground := Ground.data }, { on := 3, ground := Ground.data }, { on := 1, ground := Ground.chain }, { on := 0, ground := Ground.phase }, { on := 1, ground := Ground.phase }, { on := 2, ground := Ground.phase }, { on := 3, ground := Ground.phase }, { on := 4, ground := Ground.textOnly Departure.lateStores }, { on := 5, ground := Ground.phase }], guard := none } ?_; refine wpList_store_as rfl 23 (.tmp 1) (.tmp 6) rfl (.pointer (some ⟨gd, 0, none⟩)) (.agg (S.v8 D)) rfl rfl Y hst ?_))
  clear hal hst
  refine wp_region_noPanic ?_
  refine wp_region_held_drew (S := (fun W => Chg (fun _ => False) Y W)) follows ((Chg.refl _ _).drew) (fun hHeld => ?_)
  clear hHeld
  have hHeld : Chg (fun _ => False) Y Y.drew := (Chg.refl _ _).drew
  have CZ0 := hide hHeld
  generalize Y.drew = Z0 at CZ0 hHeld ⊢
  refine wpAnyH_ready (rs := [0, 1]) (by kernel_rfl) (by simp) ?_
  refine AllReadyH.cons (o := { dst := some 8, op := Op.call { callee := Callee.value (Operand.func 15), args := #[Operand.const (Value.int IntKind.u64 0), Operand.const (Value.int IntKind.u64 7)], argTypes := #[27, 27] }, type := 38, pos := "law.go:34", after := #[], guard := none }) rfl (fun K hK => ?_) ?_
  · skip
    go_simp
    refine (blocks_lit 0 7 0 7 rfl rfl Z0 (by omega) (by omega)).mono ?_
    rintro e Z1 ⟨⟨vb, rfl, hv⟩, hb2⟩
    rw [C.blocks_07] at hv
    obtain ⟨X1o, X1c, rfl⟩ := hv.form
    have X1 : Hid (NRow 0 _ (.slice X1o 3 X1c) [4, 2, 1]) := hv.mono (Nat.zero_le _)
    clear hv
    rw [show ([4, 2, 1] : List Nat).length = 3 from rfl]
    have CZ1 : Hid (Chg (fun _ => False) Y Z1) := CZ0.out.then hb2
    clear hb2 CZ0
    clear hHeld
    refine hK.out _ _ CZ1.out (fun hHeld => ?_)
    clear hK K
    try simp only [Act.put, List.setIfInBounds_toArray, List.set_cons_zero, List.set_cons_succ]
    refine wpAnyH_ready (rs := [1]) (by kernel_rfl) (by simp) ?_
    refine step_buildSlice_w (o := { dst := some 9, op := Op.buildSlice 38 3 #[(0, Operand.const (Value.int IntKind.u64 4)), (1, Operand.const (Value.int IntKind.u64 2)), (2, Operand.const (Value.int IntKind.u64 1))], type := 38, pos := "law.go:34", after := #[], guard := none }) rfl rfl 38 3 [(0, .const (.int .u64 4)), (1, .const (.int .u64 2)), (2, .const (.int .u64 1))] rfl [(0, .int .u64 4), (1, .int .u64 2), (2, .int .u64 1)] rfl _ _ (bs38three Z1 4 2 1) AllReadyH.nil ⟨CZ1.out.alloc _, fun hHeld => ?_⟩
    clear hHeld
    simp only [Act.put, List.setIfInBounds_toArray, List.set_cons_zero, List.set_cons_succ]
    obtain ⟨ga, hga⟩ : ∃ gg, gg = Z1.heap.size := ⟨_, rfl⟩
    rw [← hga]
    generalize hZ : Z1.alloc _ = Z2
    have hb2 : Below Z1.heap.size Z1 Z2 := by rw [← hZ]; exact (Below.refl _ _).alloc (Nat.le_refl _) _
    have Rga : Hid (Z2.heap[ga]? = some (.cells #[.int .u64 4, .int .u64 2, .int .u64 1] 27 (0, 0))) := by rw [← hZ, hga]; exact heap_alloc_new _ _
    have Gga := hide (show Y.heap.size ≤ ga by rw [hga]; exact CZ1.out.size)
    clear hZ hga
    replace X1 : Hid (NRow 0 Z2 (.slice X1o 3 X1c) [4, 2, 1]) := X1.out.below hb2
    have CZ2 : Hid (Chg (fun _ => False) Y Z2) := CZ1.out.then hb2
    clear hb2 CZ1
    have hHeld := CZ2.out
    refine wpAnyH_ready (rs := [2]) (by kernel_rfl) (by simp) ?_
    refine AllReadyH.cons (o := { dst := some 10, op := Op.call { callee := Callee.value (Operand.func 16), args := #[Operand.tmp 8, Operand.tmp 9], argTypes := #[38, 38] }, type := 4, pos := "law.go:34", after := #[{ on := 0, ground := Ground.data }, { on := 1, ground := Ground.data }, { on := 0, ground := Ground.chain }], guard := none }) rfl (fun K hK => ?_) AllReadyH.nil
    go_simp
    refine (samen_any 0 0 (.slice X1o 3 X1c) (.slice (some ⟨ga, 0, none⟩) 3 3) [4, 2, 1] Z2 X1.out (NRow.lit (ns := [4, 2, 1]) Rga.out (by simp) (Nat.zero_le _)) (by simp)).mono ?_
    rintro e Z3 ⟨rfl, hb2⟩
    replace Rga : Hid (Z3.heap[ga]? = some (.cells #[.int .u64 4, .int .u64 2, .int .u64 1] 27 (0, 0))) := (hb2.block _ (block_lt_of_row Rga.out)).trans Rga.out
    replace X1 : Hid (NRow 0 Z3 (.slice X1o 3 X1c) [4, 2, 1]) := X1.out.below hb2
    have CZ3 : Hid (Chg (fun _ => False) Y Z3) := CZ2.out.then hb2
    clear hb2 CZ2
    clear hHeld
    refine hK.out _ _ CZ3.out (fun hHeld => ?_)
    clear hK K
    try simp only [Act.put, List.setIfInBounds_toArray, List.set_cons_zero, List.set_cons_succ]
    refine wpAnyH_take (i := 3) (oi := { dst := some 11, op := Op.move (Operand.tmp 10), type := 4, pos := "law.go:34", after := #[{ on := 2, ground := Ground.data }, { on := 2, ground := Ground.chain }], guard := none }) (v := ?_) rfl (by kernel_rfl) (by kernel_rfl) (by kernel_rfl) (fun _ _ _ h => h) (Or.inl ⟨by rfl, ?_⟩) (by assumption) ?_
    rotate_left
    · intro w hSw
      clear hSw
      go_simp
      all_goals with_reducible rfl
    simp only [Act.put, List.setIfInBounds_toArray, List.set_cons_zero, List.set_cons_succ]
    refine wpAnyH_ready (rs := [4, 5]) (by kernel_rfl) (by simp) ?_
    refine AllReadyH.cons (o := { dst := some 12, op := Op.call { callee := Callee.value (Operand.func 15), args := #[Operand.const (Value.int IntKind.u64 3), Operand.const (Value.int IntKind.u64 10)], argTypes := #[27, 27] }, type := 38, pos := "law.go:34", after := #[{ on := 3, ground := Ground.chain }, { on := 3, ground := Ground.guard }], guard := some (3, true) }) rfl (fun K hK => ?_) ?_
    · skip
      go_simp
      refine (blocks_lit 3 10 3 10 rfl rfl Z3 (by omega) (by omega)).mono ?_
      rintro e Z4 ⟨⟨vb, rfl, hv⟩, hb2⟩
      rw [C.blocks_310] at hv
      obtain ⟨X2o, X2c, rfl⟩ := hv.form
      have X2 : Hid (NRow 0 _ (.slice X2o 3 X2c) [1, 4, 2]) := hv.mono (Nat.zero_le _)
      clear hv
      rw [show ([1, 4, 2] : List Nat).length = 3 from rfl]
      replace Rga : Hid (Z4.heap[ga]? = some (.cells #[.int .u64 4, .int .u64 2, .int .u64 1] 27 (0, 0))) := (hb2.block _ (block_lt_of_row Rga.out)).trans Rga.out
      replace X1 : Hid (NRow 0 Z4 (.slice X1o 3 X1c) [4, 2, 1]) := X1.out.below hb2
      have CZ4 : Hid (Chg (fun _ => False) Y Z4) := CZ3.out.then hb2
      clear hb2 CZ3
      clear hHeld
      refine hK.out _ _ CZ4.out (fun hHeld => ?_)
      clear hK K
      try simp only [Act.put, List.setIfInBounds_toArray, List.set_cons_zero, List.set_cons_succ]
      refine wpAnyH_ready (rs := [5]) (by kernel_rfl) (by simp) ?_
      refine step_buildSlice_w (o := { dst := some 13, op := Op.buildSlice 38 3 #[(0, Operand.const (Value.int IntKind.u64 1)), (1, Operand.const (Value.int IntKind.u64 4)), (2, Operand.const (Value.int IntKind.u64 2))], type := 38, pos := "law.go:34", after := #[{ on := 3, ground := Ground.guard }], guard := some (3, true) }) rfl rfl 38 3 [(0, .const (.int .u64 1)), (1, .const (.int .u64 4)), (2, .const (.int .u64 2))] rfl [(0, .int .u64 1), (1, .int .u64 4), (2, .int .u64 2)] rfl _ _ (bs38three Z4 1 4 2) AllReadyH.nil ⟨CZ4.out.alloc _, fun hHeld => ?_⟩
      clear hHeld
      simp only [Act.put, List.setIfInBounds_toArray, List.set_cons_zero, List.set_cons_succ]
      obtain ⟨gb, hgb⟩ : ∃ gg, gg = Z4.heap.size := ⟨_, rfl⟩
      rw [← hgb]
      generalize hZ : Z4.alloc _ = Z5
      have hb2 : Below Z4.heap.size Z4 Z5 := by rw [← hZ]; exact (Below.refl _ _).alloc (Nat.le_refl _) _
      have Rgb : Hid (Z5.heap[gb]? = some (.cells #[.int .u64 1, .int .u64 4, .int .u64 2] 27 (0, 0))) := by rw [← hZ, hgb]; exact heap_alloc_new _ _
      have Ggb := hide (show Y.heap.size ≤ gb by rw [hgb]; exact CZ4.out.size)
      clear hZ hgb
      replace Rga : Hid (Z5.heap[ga]? = some (.cells #[.int .u64 4, .int .u64 2, .int .u64 1] 27 (0, 0))) := (hb2.block _ (block_lt_of_row Rga.out)).trans Rga.out
      replace X1 : Hid (NRow 0 Z5 (.slice X1o 3 X1c) [4, 2, 1]) := X1.out.below hb2
      replace X2 : Hid (NRow 0 Z5 (.slice X2o 3 X2c) [1, 4, 2]) := X2.out.below hb2
      have CZ5 : Hid (Chg (fun _ => False) Y Z5) := CZ4.out.then hb2
      clear hb2 CZ4
      have hHeld := CZ5.out
      refine wpAnyH_ready (rs := [6]) (by kernel_rfl) (by simp) ?_
      refine AllReadyH.cons (o := { dst := some 14, op := Op.call { callee := Callee.value (Operand.func 16), args := #[Operand.tmp 12, Operand.tmp 13], argTypes := #[38, 38] }, type := 4, pos := "law.go:34", after := #[{ on := 4, ground := Ground.data }, { on := 5, ground := Ground.data }, { on := 4, ground := Ground.chain }, { on := 3, ground := Ground.guard }], guard := some (3, true) }) rfl (fun K hK => ?_) AllReadyH.nil
      go_simp
      refine (samen_any 0 0 (.slice X2o 3 X2c) (.slice (some ⟨gb, 0, none⟩) 3 3) [1, 4, 2] Z5 X2.out (NRow.lit (ns := [1, 4, 2]) Rgb.out (by simp) (Nat.zero_le _)) (by simp)).mono ?_
      rintro e Z6 ⟨rfl, hb2⟩
      replace Rga : Hid (Z6.heap[ga]? = some (.cells #[.int .u64 4, .int .u64 2, .int .u64 1] 27 (0, 0))) := (hb2.block _ (block_lt_of_row Rga.out)).trans Rga.out
      replace Rgb : Hid (Z6.heap[gb]? = some (.cells #[.int .u64 1, .int .u64 4, .int .u64 2] 27 (0, 0))) := (hb2.block _ (block_lt_of_row Rgb.out)).trans Rgb.out
      replace X1 : Hid (NRow 0 Z6 (.slice X1o 3 X1c) [4, 2, 1]) := X1.out.below hb2
      replace X2 : Hid (NRow 0 Z6 (.slice X2o 3 X2c) [1, 4, 2]) := X2.out.below hb2
      have CZ6 : Hid (Chg (fun _ => False) Y Z6) := CZ5.out.then hb2
      clear hb2 CZ5
      clear hHeld
      refine hK.out _ _ CZ6.out (fun hHeld => ?_)
      clear hK K
      try simp only [Act.put, List.setIfInBounds_toArray, List.set_cons_zero, List.set_cons_succ]
      refine wpAnyH_take (i := 7) (oi := { dst := some 15, op := Op.pick (Operand.tmp 11) (Operand.tmp 14) (Operand.const (Value.bool false)), type := 4, pos := "law.go:34", after := #[{ on := 3, ground := Ground.data }, { on := 6, ground := Ground.data }], guard := none }) (v := ?_) rfl (by kernel_rfl) (by kernel_rfl) (by kernel_rfl) (fun _ _ _ h => h) (Or.inl ⟨by rfl, ?_⟩) (by assumption) ?_
      rotate_left
      · intro w hSw
        clear hSw
        go_simp
        all_goals with_reducible rfl
      simp only [Act.put, List.setIfInBounds_toArray, List.set_cons_zero, List.set_cons_succ]
      refine wpAnyH_take (i := 8) (oi := { dst := some 16, op := Op.move (Operand.tmp 15), type := 4, pos := "law.go:34", after := #[{ on := 7, ground := Ground.data }, { on := 6, ground := Ground.chain }], guard := none }) (v := ?_) rfl (by kernel_rfl) (by kernel_rfl) (by kernel_rfl) (fun _ _ _ h => h) (Or.inl ⟨by rfl, ?_⟩) (by assumption) ?_
      rotate_left
      · intro w hSw
        clear hSw
        go_simp
        all_goals with_reducible rfl
      simp only [Act.put, List.setIfInBounds_toArray, List.set_cons_zero, List.set_cons_succ]
      refine wpAnyH_take (i := 9) (oi := { dst := some 17, op := Op.load 23 (Operand.tmp 1), type := 23, pos := "law.go:34", after := #[{ on := 8, ground := Ground.guard }], guard := some (8, true) }) (v := .agg (S.v8l D).toArray) rfl (by kernel_rfl) (by kernel_rfl) (by kernel_rfl) (fun _ _ _ h => h) (yieldsIf_load_mid (by rfl) _ _ rfl gd 0 rfl (S.v8l D) _ (fun _ hSw => rangeAt_row (show _ = some (Obj.cells (S.v8l D).toArray 23 (0, 0)) by rw [← S.v8_eq]; exact hSw.row RD.out (fun e => e))) Tryd.underlying23 rfl (show _ = some (S.v8l D).toArray.size by rw [← S.v8_eq]; exact hsz)) (by assumption) ?_
      simp only [Act.put, List.setIfInBounds_toArray, List.set_cons_zero, List.set_cons_succ]
      refine wpAnyH_ready (rs := [10]) (by kernel_rfl) (by simp) ?_
      refine AllReadyH.cons (o := { dst := some 18, op := Op.call { callee := Callee.value (Operand.func 31), args := #[Operand.const (Value.int IntKind.i64 32), Operand.const (Value.slice none 0 0)], argTypes := #[3, 53] }, type := 23, pos := "law.go:34", after := #[{ on := 8, ground := Ground.chain }, { on := 8, ground := Ground.guard }], guard := some (8, true) }) rfl (fun K hK => ?_) AllReadyH.nil
      go_simp
      refine (root_any 32 (.slice none 0 0) [] Z6 (BsAt.nil _) (by simp) (fun x hx => by simp at hx) (HK.out.below (BY.out.trans (CZ6.out.below w.heap.size BY.out.size (fun k hk e => by omega))) h0)).mono ?_
      rintro e Z7 ⟨rfl, hb2⟩
      rw [← HD.out]
      replace Rga : Hid (Z7.heap[ga]? = some (.cells #[.int .u64 4, .int .u64 2, .int .u64 1] 27 (0, 0))) := (hb2.block _ (block_lt_of_row Rga.out)).trans Rga.out
      replace Rgb : Hid (Z7.heap[gb]? = some (.cells #[.int .u64 1, .int .u64 4, .int .u64 2] 27 (0, 0))) := (hb2.block _ (block_lt_of_row Rgb.out)).trans Rgb.out
      replace X1 : Hid (NRow 0 Z7 (.slice X1o 3 X1c) [4, 2, 1]) := X1.out.below hb2
      replace X2 : Hid (NRow 0 Z7 (.slice X2o 3 X2c) [1, 4, 2]) := X2.out.below hb2
      have CZ7 : Hid (Chg (fun _ => False) Y Z7) := CZ6.out.then hb2
      clear hb2 CZ6
      clear hHeld
      refine hK.out _ _ CZ7.out (fun hHeld => ?_)
      clear hK K
      try simp only [Act.put, List.setIfInBounds_toArray, List.set_cons_zero, List.set_cons_succ]
      refine wpAnyH_take (i := 11) (oi := { dst := some 19, op := Op.binOp BinOp.eql 23 (Operand.tmp 17) (Operand.tmp 18) 23, type := 4, pos := "law.go:34", after := #[{ on := 9, ground := Ground.data }, { on := 10, ground := Ground.data }, { on := 8, ground := Ground.guard }], guard := some (8, true) }) (v := ?_) rfl (by kernel_rfl) (by kernel_rfl) (by kernel_rfl) (fun _ _ _ h => h) (Or.inl ⟨by rfl, ?_⟩) (by assumption) ?_
      rotate_left
      · intro w hSw
        clear hSw
        go_simp
        all_goals with_reducible rfl
      simp only [Act.put, List.setIfInBounds_toArray, List.set_cons_zero, List.set_cons_succ]
      refine wpAnyH_take (i := 12) (oi := { dst := some 20, op := Op.pick (Operand.tmp 16) (Operand.tmp 19) (Operand.const (Value.bool false)), type := 4, pos := "law.go:34", after := #[{ on := 8, ground := Ground.data }, { on := 11, ground := Ground.data }], guard := none }) (v := ?_) rfl (by kernel_rfl) (by kernel_rfl) (by kernel_rfl) (fun _ _ _ h => h) (Or.inl ⟨by rfl, ?_⟩) (by assumption) ?_
      rotate_left
      · intro w hSw
        clear hSw
        go_simp
        all_goals with_reducible rfl
      simp only [Act.put, List.setIfInBounds_toArray, List.set_cons_zero, List.set_cons_succ]
      refine wpAnyH_take (i := 13) (oi := { dst := some 21, op := Op.move (Operand.tmp 20), type := 4, pos := "law.go:34", after := #[{ on := 12, ground := Ground.data }, { on := 10, ground := Ground.chain }], guard := none }) (v := ?_) rfl (by kernel_rfl) (by kernel_rfl) (by kernel_rfl) (fun _ _ _ h => h) (Or.inl ⟨by rfl, ?_⟩) (by assumption) ?_
      rotate_left
      · intro w hSw
        clear hSw
        go_simp
        all_goals with_reducible rfl
      simp only [Act.put, List.setIfInBounds_toArray, List.set_cons_zero, List.set_cons_succ]
      refine wpAnyH_take (i := 14) (oi := { dst := some 22, op := Op.move (Operand.tmp 2), type := 24, pos := "law.go:34", after := #[{ on := 13, ground := Ground.guard }], guard := some (13, true) }) (v := ?_) rfl (by kernel_rfl) (by kernel_rfl) (by kernel_rfl) (fun _ _ _ h => h) (Or.inl ⟨by rfl, ?_⟩) (by assumption) ?_
      rotate_left
      · intro w hSw
        clear hSw
        go_simp
        all_goals with_reducible rfl
      simp only [Act.put, List.setIfInBounds_toArray, List.set_cons_zero, List.set_cons_succ]
      refine wpAnyH_take (i := 15) (oi := { dst := some 23, op := Op.binOp BinOp.eql 24 (Operand.tmp 22) (Operand.const (Value.int IntKind.i64 0)) 24, type := 4, pos := "law.go:34", after := #[{ on := 14, ground := Ground.data }, { on := 13, ground := Ground.guard }], guard := some (13, true) }) (v := ?_) rfl (by kernel_rfl) (by kernel_rfl) (by kernel_rfl) (fun _ _ _ h => h) (Or.inl ⟨by rfl, ?_⟩) (by assumption) ?_
      rotate_left
      · intro w hSw
        clear hSw
        go_simp
        all_goals with_reducible rfl
      simp only [Act.put, List.setIfInBounds_toArray, List.set_cons_zero, List.set_cons_succ]
      refine wpAnyH_take (i := 16) (oi := { dst := some 24, op := Op.pick (Operand.tmp 21) (Operand.tmp 23) (Operand.const (Value.bool false)), type := 4, pos := "law.go:34", after := #[{ on := 13, ground := Ground.data }, { on := 15, ground := Ground.data }], guard := none }) (v := ?_) rfl (by kernel_rfl) (by kernel_rfl) (by kernel_rfl) (fun _ _ _ h => h) (Or.inl ⟨by rfl, ?_⟩) (by assumption) ?_
      rotate_left
      · intro w hSw
        clear hSw
        go_simp
        all_goals with_reducible rfl
      simp only [Act.put, List.setIfInBounds_toArray, List.set_cons_zero, List.set_cons_succ]
      refine wpAnyH_take (i := 17) (oi := { dst := some 0, op := Op.assign (Operand.tmp 24), type := 4, pos := "law.go:34", after := #[{ on := 16, ground := Ground.data }, { on := 13, ground := Ground.chain }, { on := 0, ground := Ground.phase }, { on := 1, ground := Ground.phase }, { on := 2, ground := Ground.phase }, { on := 3, ground := Ground.phase }, { on := 4, ground := Ground.phase }, { on := 5, ground := Ground.phase }, { on := 6, ground := Ground.phase }, { on := 7, ground := Ground.phase }, { on := 8, ground := Ground.phase }, { on := 9, ground := Ground.phase }, { on := 10, ground := Ground.phase }, { on := 11, ground := Ground.phase }, { on := 12, ground := Ground.phase }, { on := 13, ground := Ground.phase }, { on := 14, ground := Ground.phase }, { on := 15, ground := Ground.phase }, { on := 16, ground := Ground.phase }], guard := none }) (v := ?_) rfl (by kernel_rfl) (by kernel_rfl) (by kernel_rfl) (fun _ _ _ h => h) (Or.inl ⟨by rfl, ?_⟩) (by assumption) ?_
      rotate_left
      · intro w hSw
        clear hSw
        go_simp
        all_goals with_reducible rfl
      simp only [Act.put, List.setIfInBounds_toArray, List.set_cons_zero]
      refine wpAnyH_done (by kernel_rfl) ?_ _
      refine NoPanic.normal ?_
      clear hHeld
      have BF := hide (BY.out.trans (CZ7.out.below w.heap.size BY.out.size (fun k hk e => by omega)))
      go_wp2_with fail
      go_ret
      exact ⟨rfl, BF.out⟩
    refine step_buildSlice_w (o := { dst := some 13, op := Op.buildSlice 38 3 #[(0, Operand.const (Value.int IntKind.u64 1)), (1, Operand.const (Value.int IntKind.u64 4)), (2, Operand.const (Value.int IntKind.u64 2))], type := 38, pos := "law.go:34", after := #[{ on := 3, ground := Ground.guard }], guard := some (3, true) }) rfl rfl 38 3 [(0, .const (.int .u64 1)), (1, .const (.int .u64 4)), (2, .const (.int .u64 2))] rfl [(0, .int .u64 1), (1, .int .u64 4), (2, .int .u64 2)] rfl _ _ (bs38three Z3 1 4 2) AllReadyH.nil ⟨CZ3.out.alloc _, fun hHeld => ?_⟩
    clear hHeld
    simp only [Act.put, List.setIfInBounds_toArray, List.set_cons_zero, List.set_cons_succ]
    obtain ⟨gb, hgb⟩ : ∃ gg, gg = Z3.heap.size := ⟨_, rfl⟩
    rw [← hgb]
    generalize hZ : Z3.alloc _ = Z4
    have hb2 : Below Z3.heap.size Z3 Z4 := by rw [← hZ]; exact (Below.refl _ _).alloc (Nat.le_refl _) _
    have Rgb : Hid (Z4.heap[gb]? = some (.cells #[.int .u64 1, .int .u64 4, .int .u64 2] 27 (0, 0))) := by rw [← hZ, hgb]; exact heap_alloc_new _ _
    have Ggb := hide (show Y.heap.size ≤ gb by rw [hgb]; exact CZ3.out.size)
    clear hZ hgb
    replace Rga : Hid (Z4.heap[ga]? = some (.cells #[.int .u64 4, .int .u64 2, .int .u64 1] 27 (0, 0))) := (hb2.block _ (block_lt_of_row Rga.out)).trans Rga.out
    replace X1 : Hid (NRow 0 Z4 (.slice X1o 3 X1c) [4, 2, 1]) := X1.out.below hb2
    have CZ4 : Hid (Chg (fun _ => False) Y Z4) := CZ3.out.then hb2
    clear hb2 CZ3
    have hHeld := CZ4.out
    refine wpAnyH_ready (rs := [4]) (by kernel_rfl) (by simp) ?_
    refine AllReadyH.cons (o := { dst := some 12, op := Op.call { callee := Callee.value (Operand.func 15), args := #[Operand.const (Value.int IntKind.u64 3), Operand.const (Value.int IntKind.u64 10)], argTypes := #[27, 27] }, type := 38, pos := "law.go:34", after := #[{ on := 3, ground := Ground.chain }, { on := 3, ground := Ground.guard }], guard := some (3, true) }) rfl (fun K hK => ?_) AllReadyH.nil
    go_simp
    refine (blocks_lit 3 10 3 10 rfl rfl Z4 (by omega) (by omega)).mono ?_
    rintro e Z5 ⟨⟨vb, rfl, hv⟩, hb2⟩
    rw [C.blocks_310] at hv
    obtain ⟨X2o, X2c, rfl⟩ := hv.form
    have X2 : Hid (NRow 0 _ (.slice X2o 3 X2c) [1, 4, 2]) := hv.mono (Nat.zero_le _)
    clear hv
    rw [show ([1, 4, 2] : List Nat).length = 3 from rfl]
    replace Rga : Hid (Z5.heap[ga]? = some (.cells #[.int .u64 4, .int .u64 2, .int .u64 1] 27 (0, 0))) := (hb2.block _ (block_lt_of_row Rga.out)).trans Rga.out
    replace Rgb : Hid (Z5.heap[gb]? = some (.cells #[.int .u64 1, .int .u64 4, .int .u64 2] 27 (0, 0))) := (hb2.block _ (block_lt_of_row Rgb.out)).trans Rgb.out
    replace X1 : Hid (NRow 0 Z5 (.slice X1o 3 X1c) [4, 2, 1]) := X1.out.below hb2
    have CZ5 : Hid (Chg (fun _ => False) Y Z5) := CZ4.out.then hb2
    clear hb2 CZ4
    clear hHeld
    refine hK.out _ _ CZ5.out (fun hHeld => ?_)
    clear hK K
    try simp only [Act.put, List.setIfInBounds_toArray, List.set_cons_zero, List.set_cons_succ]
    refine wpAnyH_ready (rs := [6]) (by kernel_rfl) (by simp) ?_
    refine AllReadyH.cons (o := { dst := some 14, op := Op.call { callee := Callee.value (Operand.func 16), args := #[Operand.tmp 12, Operand.tmp 13], argTypes := #[38, 38] }, type := 4, pos := "law.go:34", after := #[{ on := 4, ground := Ground.data }, { on := 5, ground := Ground.data }, { on := 4, ground := Ground.chain }, { on := 3, ground := Ground.guard }], guard := some (3, true) }) rfl (fun K hK => ?_) AllReadyH.nil
    go_simp
    refine (samen_any 0 0 (.slice X2o 3 X2c) (.slice (some ⟨gb, 0, none⟩) 3 3) [1, 4, 2] Z5 X2.out (NRow.lit (ns := [1, 4, 2]) Rgb.out (by simp) (Nat.zero_le _)) (by simp)).mono ?_
    rintro e Z6 ⟨rfl, hb2⟩
    replace Rga : Hid (Z6.heap[ga]? = some (.cells #[.int .u64 4, .int .u64 2, .int .u64 1] 27 (0, 0))) := (hb2.block _ (block_lt_of_row Rga.out)).trans Rga.out
    replace Rgb : Hid (Z6.heap[gb]? = some (.cells #[.int .u64 1, .int .u64 4, .int .u64 2] 27 (0, 0))) := (hb2.block _ (block_lt_of_row Rgb.out)).trans Rgb.out
    replace X1 : Hid (NRow 0 Z6 (.slice X1o 3 X1c) [4, 2, 1]) := X1.out.below hb2
    replace X2 : Hid (NRow 0 Z6 (.slice X2o 3 X2c) [1, 4, 2]) := X2.out.below hb2
    have CZ6 : Hid (Chg (fun _ => False) Y Z6) := CZ5.out.then hb2
    clear hb2 CZ5
    clear hHeld
    refine hK.out _ _ CZ6.out (fun hHeld => ?_)
    clear hK K
    try simp only [Act.put, List.setIfInBounds_toArray, List.set_cons_zero, List.set_cons_succ]
    refine wpAnyH_take (i := 7) (oi := { dst := some 15, op := Op.pick (Operand.tmp 11) (Operand.tmp 14) (Operand.const (Value.bool false)), type := 4, pos := "law.go:34", after := #[{ on := 3, ground := Ground.data }, { on := 6, ground := Ground.data }], guard := none }) (v := ?_) rfl (by kernel_rfl) (by kernel_rfl) (by kernel_rfl) (fun _ _ _ h => h) (Or.inl ⟨by rfl, ?_⟩) (by assumption) ?_
    rotate_left
    · intro w hSw
      clear hSw
      go_simp
      all_goals with_reducible rfl
    simp only [Act.put, List.setIfInBounds_toArray, List.set_cons_zero, List.set_cons_succ]
    refine wpAnyH_take (i := 8) (oi := { dst := some 16, op := Op.move (Operand.tmp 15), type := 4, pos := "law.go:34", after := #[{ on := 7, ground := Ground.data }, { on := 6, ground := Ground.chain }], guard := none }) (v := ?_) rfl (by kernel_rfl) (by kernel_rfl) (by kernel_rfl) (fun _ _ _ h => h) (Or.inl ⟨by rfl, ?_⟩) (by assumption) ?_
    rotate_left
    · intro w hSw
      clear hSw
      go_simp
      all_goals with_reducible rfl
    simp only [Act.put, List.setIfInBounds_toArray, List.set_cons_zero, List.set_cons_succ]
    refine wpAnyH_take (i := 9) (oi := { dst := some 17, op := Op.load 23 (Operand.tmp 1), type := 23, pos := "law.go:34", after := #[{ on := 8, ground := Ground.guard }], guard := some (8, true) }) (v := .agg (S.v8l D).toArray) rfl (by kernel_rfl) (by kernel_rfl) (by kernel_rfl) (fun _ _ _ h => h) (yieldsIf_load_mid (by rfl) _ _ rfl gd 0 rfl (S.v8l D) _ (fun _ hSw => rangeAt_row (show _ = some (Obj.cells (S.v8l D).toArray 23 (0, 0)) by rw [← S.v8_eq]; exact hSw.row RD.out (fun e => e))) Tryd.underlying23 rfl (show _ = some (S.v8l D).toArray.size by rw [← S.v8_eq]; exact hsz)) (by assumption) ?_
    simp only [Act.put, List.setIfInBounds_toArray, List.set_cons_zero, List.set_cons_succ]
    refine wpAnyH_ready (rs := [10]) (by kernel_rfl) (by simp) ?_
    refine AllReadyH.cons (o := { dst := some 18, op := Op.call { callee := Callee.value (Operand.func 31), args := #[Operand.const (Value.int IntKind.i64 32), Operand.const (Value.slice none 0 0)], argTypes := #[3, 53] }, type := 23, pos := "law.go:34", after := #[{ on := 8, ground := Ground.chain }, { on := 8, ground := Ground.guard }], guard := some (8, true) }) rfl (fun K hK => ?_) AllReadyH.nil
    go_simp
    refine (root_any 32 (.slice none 0 0) [] Z6 (BsAt.nil _) (by simp) (fun x hx => by simp at hx) (HK.out.below (BY.out.trans (CZ6.out.below w.heap.size BY.out.size (fun k hk e => by omega))) h0)).mono ?_
    rintro e Z7 ⟨rfl, hb2⟩
    rw [← HD.out]
    replace Rga : Hid (Z7.heap[ga]? = some (.cells #[.int .u64 4, .int .u64 2, .int .u64 1] 27 (0, 0))) := (hb2.block _ (block_lt_of_row Rga.out)).trans Rga.out
    replace Rgb : Hid (Z7.heap[gb]? = some (.cells #[.int .u64 1, .int .u64 4, .int .u64 2] 27 (0, 0))) := (hb2.block _ (block_lt_of_row Rgb.out)).trans Rgb.out
    replace X1 : Hid (NRow 0 Z7 (.slice X1o 3 X1c) [4, 2, 1]) := X1.out.below hb2
    replace X2 : Hid (NRow 0 Z7 (.slice X2o 3 X2c) [1, 4, 2]) := X2.out.below hb2
    have CZ7 : Hid (Chg (fun _ => False) Y Z7) := CZ6.out.then hb2
    clear hb2 CZ6
    clear hHeld
    refine hK.out _ _ CZ7.out (fun hHeld => ?_)
    clear hK K
    try simp only [Act.put, List.setIfInBounds_toArray, List.set_cons_zero, List.set_cons_succ]
    refine wpAnyH_take (i := 11) (oi := { dst := some 19, op := Op.binOp BinOp.eql 23 (Operand.tmp 17) (Operand.tmp 18) 23, type := 4, pos := "law.go:34", after := #[{ on := 9, ground := Ground.data }, { on := 10, ground := Ground.data }, { on := 8, ground := Ground.guard }], guard := some (8, true) }) (v := ?_) rfl (by kernel_rfl) (by kernel_rfl) (by kernel_rfl) (fun _ _ _ h => h) (Or.inl ⟨by rfl, ?_⟩) (by assumption) ?_
    rotate_left
    · intro w hSw
      clear hSw
      go_simp
      all_goals with_reducible rfl
    simp only [Act.put, List.setIfInBounds_toArray, List.set_cons_zero, List.set_cons_succ]
    refine wpAnyH_take (i := 12) (oi := { dst := some 20, op := Op.pick (Operand.tmp 16) (Operand.tmp 19) (Operand.const (Value.bool false)), type := 4, pos := "law.go:34", after := #[{ on := 8, ground := Ground.data }, { on := 11, ground := Ground.data }], guard := none }) (v := ?_) rfl (by kernel_rfl) (by kernel_rfl) (by kernel_rfl) (fun _ _ _ h => h) (Or.inl ⟨by rfl, ?_⟩) (by assumption) ?_
    rotate_left
    · intro w hSw
      clear hSw
      go_simp
      all_goals with_reducible rfl
    simp only [Act.put, List.setIfInBounds_toArray, List.set_cons_zero, List.set_cons_succ]
    refine wpAnyH_take (i := 13) (oi := { dst := some 21, op := Op.move (Operand.tmp 20), type := 4, pos := "law.go:34", after := #[{ on := 12, ground := Ground.data }, { on := 10, ground := Ground.chain }], guard := none }) (v := ?_) rfl (by kernel_rfl) (by kernel_rfl) (by kernel_rfl) (fun _ _ _ h => h) (Or.inl ⟨by rfl, ?_⟩) (by assumption) ?_
    rotate_left
    · intro w hSw
      clear hSw
      go_simp
      all_goals with_reducible rfl
    simp only [Act.put, List.setIfInBounds_toArray, List.set_cons_zero, List.set_cons_succ]
    refine wpAnyH_take (i := 14) (oi := { dst := some 22, op := Op.move (Operand.tmp 2), type := 24, pos := "law.go:34", after := #[{ on := 13, ground := Ground.guard }], guard := some (13, true) }) (v := ?_) rfl (by kernel_rfl) (by kernel_rfl) (by kernel_rfl) (fun _ _ _ h => h) (Or.inl ⟨by rfl, ?_⟩) (by assumption) ?_
    rotate_left
    · intro w hSw
      clear hSw
      go_simp
      all_goals with_reducible rfl
    simp only [Act.put, List.setIfInBounds_toArray, List.set_cons_zero, List.set_cons_succ]
    refine wpAnyH_take (i := 15) (oi := { dst := some 23, op := Op.binOp BinOp.eql 24 (Operand.tmp 22) (Operand.const (Value.int IntKind.i64 0)) 24, type := 4, pos := "law.go:34", after := #[{ on := 14, ground := Ground.data }, { on := 13, ground := Ground.guard }], guard := some (13, true) }) (v := ?_) rfl (by kernel_rfl) (by kernel_rfl) (by kernel_rfl) (fun _ _ _ h => h) (Or.inl ⟨by rfl, ?_⟩) (by assumption) ?_
    rotate_left
    · intro w hSw
      clear hSw
      go_simp
      all_goals with_reducible rfl
    simp only [Act.put, List.setIfInBounds_toArray, List.set_cons_zero, List.set_cons_succ]
    refine wpAnyH_take (i := 16) (oi := { dst := some 24, op := Op.pick (Operand.tmp 21) (Operand.tmp 23) (Operand.const (Value.bool false)), type := 4, pos := "law.go:34", after := #[{ on := 13, ground := Ground.data }, { on := 15, ground := Ground.data }], guard := none }) (v := ?_) rfl (by kernel_rfl) (by kernel_rfl) (by kernel_rfl) (fun _ _ _ h => h) (Or.inl ⟨by rfl, ?_⟩) (by assumption) ?_
    rotate_left
    · intro w hSw
      clear hSw
      go_simp
      all_goals with_reducible rfl
    simp only [Act.put, List.setIfInBounds_toArray, List.set_cons_zero, List.set_cons_succ]
    refine wpAnyH_take (i := 17) (oi := { dst := some 0, op := Op.assign (Operand.tmp 24), type := 4, pos := "law.go:34", after := #[{ on := 16, ground := Ground.data }, { on := 13, ground := Ground.chain }, { on := 0, ground := Ground.phase }, { on := 1, ground := Ground.phase }, { on := 2, ground := Ground.phase }, { on := 3, ground := Ground.phase }, { on := 4, ground := Ground.phase }, { on := 5, ground := Ground.phase }, { on := 6, ground := Ground.phase }, { on := 7, ground := Ground.phase }, { on := 8, ground := Ground.phase }, { on := 9, ground := Ground.phase }, { on := 10, ground := Ground.phase }, { on := 11, ground := Ground.phase }, { on := 12, ground := Ground.phase }, { on := 13, ground := Ground.phase }, { on := 14, ground := Ground.phase }, { on := 15, ground := Ground.phase }, { on := 16, ground := Ground.phase }], guard := none }) (v := ?_) rfl (by kernel_rfl) (by kernel_rfl) (by kernel_rfl) (fun _ _ _ h => h) (Or.inl ⟨by rfl, ?_⟩) (by assumption) ?_
    rotate_left
    · intro w hSw
      clear hSw
      go_simp
      all_goals with_reducible rfl
    simp only [Act.put, List.setIfInBounds_toArray, List.set_cons_zero]
    refine wpAnyH_done (by kernel_rfl) ?_ _
    refine NoPanic.normal ?_
    clear hHeld
    have BF := hide (BY.out.trans (CZ7.out.below w.heap.size BY.out.size (fun k hk e => by omega)))
    go_wp2_with fail
    go_ret
    exact ⟨rfl, BF.out⟩
  refine step_buildSlice_w (o := { dst := some 9, op := Op.buildSlice 38 3 #[(0, Operand.const (Value.int IntKind.u64 4)), (1, Operand.const (Value.int IntKind.u64 2)), (2, Operand.const (Value.int IntKind.u64 1))], type := 38, pos := "law.go:34", after := #[], guard := none }) rfl rfl 38 3 [(0, .const (.int .u64 4)), (1, .const (.int .u64 2)), (2, .const (.int .u64 1))] rfl [(0, .int .u64 4), (1, .int .u64 2), (2, .int .u64 1)] rfl _ _ (bs38three Z0 4 2 1) AllReadyH.nil ⟨CZ0.out.alloc _, fun hHeld => ?_⟩
  clear hHeld
  simp only [Act.put, List.setIfInBounds_toArray, List.set_cons_zero, List.set_cons_succ]
  obtain ⟨ga, hga⟩ : ∃ gg, gg = Z0.heap.size := ⟨_, rfl⟩
  rw [← hga]
  generalize hZ : Z0.alloc _ = Z1
  have hb2 : Below Z0.heap.size Z0 Z1 := by rw [← hZ]; exact (Below.refl _ _).alloc (Nat.le_refl _) _
  have Rga : Hid (Z1.heap[ga]? = some (.cells #[.int .u64 4, .int .u64 2, .int .u64 1] 27 (0, 0))) := by rw [← hZ, hga]; exact heap_alloc_new _ _
  have Gga := hide (show Y.heap.size ≤ ga by rw [hga]; exact CZ0.out.size)
  clear hZ hga
  have CZ1 : Hid (Chg (fun _ => False) Y Z1) := CZ0.out.then hb2
  clear hb2 CZ0
  have hHeld := CZ1.out
  refine wpAnyH_ready (rs := [0]) (by kernel_rfl) (by simp) ?_
  refine AllReadyH.cons (o := { dst := some 8, op := Op.call { callee := Callee.value (Operand.func 15), args := #[Operand.const (Value.int IntKind.u64 0), Operand.const (Value.int IntKind.u64 7)], argTypes := #[27, 27] }, type := 38, pos := "law.go:34", after := #[], guard := none }) rfl (fun K hK => ?_) AllReadyH.nil
  go_simp
  refine (blocks_lit 0 7 0 7 rfl rfl Z1 (by omega) (by omega)).mono ?_
  rintro e Z2 ⟨⟨vb, rfl, hv⟩, hb2⟩
  rw [C.blocks_07] at hv
  obtain ⟨X1o, X1c, rfl⟩ := hv.form
  have X1 : Hid (NRow 0 _ (.slice X1o 3 X1c) [4, 2, 1]) := hv.mono (Nat.zero_le _)
  clear hv
  rw [show ([4, 2, 1] : List Nat).length = 3 from rfl]
  replace Rga : Hid (Z2.heap[ga]? = some (.cells #[.int .u64 4, .int .u64 2, .int .u64 1] 27 (0, 0))) := (hb2.block _ (block_lt_of_row Rga.out)).trans Rga.out
  have CZ2 : Hid (Chg (fun _ => False) Y Z2) := CZ1.out.then hb2
  clear hb2 CZ1
  clear hHeld
  refine hK.out _ _ CZ2.out (fun hHeld => ?_)
  clear hK K
  try simp only [Act.put, List.setIfInBounds_toArray, List.set_cons_zero, List.set_cons_succ]
  refine wpAnyH_ready (rs := [2]) (by kernel_rfl) (by simp) ?_
  refine AllReadyH.cons (o := { dst := some 10, op := Op.call { callee := Callee.value (Operand.func 16), args := #[Operand.tmp 8, Operand.tmp 9], argTypes := #[38, 38] }, type := 4, pos := "law.go:34", after := #[{ on := 0, ground := Ground.data }, { on := 1, ground := Ground.data }, { on := 0, ground := Ground.chain }], guard := none }) rfl (fun K hK => ?_) AllReadyH.nil
  go_simp
  refine (samen_any 0 0 (.slice X1o 3 X1c) (.slice (some ⟨ga, 0, none⟩) 3 3) [4, 2, 1] Z2 X1.out (NRow.lit (ns := [4, 2, 1]) Rga.out (by simp) (Nat.zero_le _)) (by simp)).mono ?_
  rintro e Z3 ⟨rfl, hb2⟩
  replace Rga : Hid (Z3.heap[ga]? = some (.cells #[.int .u64 4, .int .u64 2, .int .u64 1] 27 (0, 0))) := (hb2.block _ (block_lt_of_row Rga.out)).trans Rga.out
  replace X1 : Hid (NRow 0 Z3 (.slice X1o 3 X1c) [4, 2, 1]) := X1.out.below hb2
  have CZ3 : Hid (Chg (fun _ => False) Y Z3) := CZ2.out.then hb2
  clear hb2 CZ2
  clear hHeld
  refine hK.out _ _ CZ3.out (fun hHeld => ?_)
  clear hK K
  try simp only [Act.put, List.setIfInBounds_toArray, List.set_cons_zero, List.set_cons_succ]
  refine wpAnyH_take (i := 3) (oi := { dst := some 11, op := Op.move (Operand.tmp 10), type := 4, pos := "law.go:34", after := #[{ on := 2, ground := Ground.data }, { on := 2, ground := Ground.chain }], guard := none }) (v := ?_) rfl (by kernel_rfl) (by kernel_rfl) (by kernel_rfl) (fun _ _ _ h => h) (Or.inl ⟨by rfl, ?_⟩) (by assumption) ?_
  rotate_left
  · intro w hSw
    clear hSw
    go_simp
    all_goals with_reducible rfl
  simp only [Act.put, List.setIfInBounds_toArray, List.set_cons_zero, List.set_cons_succ]
  refine wpAnyH_ready (rs := [4, 5]) (by kernel_rfl) (by simp) ?_
  refine AllReadyH.cons (o := { dst := some 12, op := Op.call { callee := Callee.value (Operand.func 15), args := #[Operand.const (Value.int IntKind.u64 3), Operand.const (Value.int IntKind.u64 10)], argTypes := #[27, 27] }, type := 38, pos := "law.go:34", after := #[{ on := 3, ground := Ground.chain }, { on := 3, ground := Ground.guard }], guard := some (3, true) }) rfl (fun K hK => ?_) ?_
  · skip
    go_simp
    refine (blocks_lit 3 10 3 10 rfl rfl Z3 (by omega) (by omega)).mono ?_
    rintro e Z4 ⟨⟨vb, rfl, hv⟩, hb2⟩
    rw [C.blocks_310] at hv
    obtain ⟨X2o, X2c, rfl⟩ := hv.form
    have X2 : Hid (NRow 0 _ (.slice X2o 3 X2c) [1, 4, 2]) := hv.mono (Nat.zero_le _)
    clear hv
    rw [show ([1, 4, 2] : List Nat).length = 3 from rfl]
    replace Rga : Hid (Z4.heap[ga]? = some (.cells #[.int .u64 4, .int .u64 2, .int .u64 1] 27 (0, 0))) := (hb2.block _ (block_lt_of_row Rga.out)).trans Rga.out
    replace X1 : Hid (NRow 0 Z4 (.slice X1o 3 X1c) [4, 2, 1]) := X1.out.below hb2
    have CZ4 : Hid (Chg (fun _ => False) Y Z4) := CZ3.out.then hb2
    clear hb2 CZ3
    clear hHeld
    refine hK.out _ _ CZ4.out (fun hHeld => ?_)
    clear hK K
    try simp only [Act.put, List.setIfInBounds_toArray, List.set_cons_zero, List.set_cons_succ]
    refine wpAnyH_ready (rs := [5]) (by kernel_rfl) (by simp) ?_
    refine step_buildSlice_w (o := { dst := some 13, op := Op.buildSlice 38 3 #[(0, Operand.const (Value.int IntKind.u64 1)), (1, Operand.const (Value.int IntKind.u64 4)), (2, Operand.const (Value.int IntKind.u64 2))], type := 38, pos := "law.go:34", after := #[{ on := 3, ground := Ground.guard }], guard := some (3, true) }) rfl rfl 38 3 [(0, .const (.int .u64 1)), (1, .const (.int .u64 4)), (2, .const (.int .u64 2))] rfl [(0, .int .u64 1), (1, .int .u64 4), (2, .int .u64 2)] rfl _ _ (bs38three Z4 1 4 2) AllReadyH.nil ⟨CZ4.out.alloc _, fun hHeld => ?_⟩
    clear hHeld
    simp only [Act.put, List.setIfInBounds_toArray, List.set_cons_zero, List.set_cons_succ]
    obtain ⟨gb, hgb⟩ : ∃ gg, gg = Z4.heap.size := ⟨_, rfl⟩
    rw [← hgb]
    generalize hZ : Z4.alloc _ = Z5
    have hb2 : Below Z4.heap.size Z4 Z5 := by rw [← hZ]; exact (Below.refl _ _).alloc (Nat.le_refl _) _
    have Rgb : Hid (Z5.heap[gb]? = some (.cells #[.int .u64 1, .int .u64 4, .int .u64 2] 27 (0, 0))) := by rw [← hZ, hgb]; exact heap_alloc_new _ _
    have Ggb := hide (show Y.heap.size ≤ gb by rw [hgb]; exact CZ4.out.size)
    clear hZ hgb
    replace Rga : Hid (Z5.heap[ga]? = some (.cells #[.int .u64 4, .int .u64 2, .int .u64 1] 27 (0, 0))) := (hb2.block _ (block_lt_of_row Rga.out)).trans Rga.out
    replace X1 : Hid (NRow 0 Z5 (.slice X1o 3 X1c) [4, 2, 1]) := X1.out.below hb2
    replace X2 : Hid (NRow 0 Z5 (.slice X2o 3 X2c) [1, 4, 2]) := X2.out.below hb2
    have CZ5 : Hid (Chg (fun _ => False) Y Z5) := CZ4.out.then hb2
    clear hb2 CZ4
    have hHeld := CZ5.out
    refine wpAnyH_ready (rs := [6]) (by kernel_rfl) (by simp) ?_
    refine AllReadyH.cons (o := { dst := some 14, op := Op.call { callee := Callee.value (Operand.func 16), args := #[Operand.tmp 12, Operand.tmp 13], argTypes := #[38, 38] }, type := 4, pos := "law.go:34", after := #[{ on := 4, ground := Ground.data }, { on := 5, ground := Ground.data }, { on := 4, ground := Ground.chain }, { on := 3, ground := Ground.guard }], guard := some (3, true) }) rfl (fun K hK => ?_) AllReadyH.nil
    go_simp
    refine (samen_any 0 0 (.slice X2o 3 X2c) (.slice (some ⟨gb, 0, none⟩) 3 3) [1, 4, 2] Z5 X2.out (NRow.lit (ns := [1, 4, 2]) Rgb.out (by simp) (Nat.zero_le _)) (by simp)).mono ?_
    rintro e Z6 ⟨rfl, hb2⟩
    replace Rga : Hid (Z6.heap[ga]? = some (.cells #[.int .u64 4, .int .u64 2, .int .u64 1] 27 (0, 0))) := (hb2.block _ (block_lt_of_row Rga.out)).trans Rga.out
    replace Rgb : Hid (Z6.heap[gb]? = some (.cells #[.int .u64 1, .int .u64 4, .int .u64 2] 27 (0, 0))) := (hb2.block _ (block_lt_of_row Rgb.out)).trans Rgb.out
    replace X1 : Hid (NRow 0 Z6 (.slice X1o 3 X1c) [4, 2, 1]) := X1.out.below hb2
    replace X2 : Hid (NRow 0 Z6 (.slice X2o 3 X2c) [1, 4, 2]) := X2.out.below hb2
    have CZ6 : Hid (Chg (fun _ => False) Y Z6) := CZ5.out.then hb2
    clear hb2 CZ5
    clear hHeld
    refine hK.out _ _ CZ6.out (fun hHeld => ?_)
    clear hK K
    try simp only [Act.put, List.setIfInBounds_toArray, List.set_cons_zero, List.set_cons_succ]
    refine wpAnyH_take (i := 7) (oi := { dst := some 15, op := Op.pick (Operand.tmp 11) (Operand.tmp 14) (Operand.const (Value.bool false)), type := 4, pos := "law.go:34", after := #[{ on := 3, ground := Ground.data }, { on := 6, ground := Ground.data }], guard := none }) (v := ?_) rfl (by kernel_rfl) (by kernel_rfl) (by kernel_rfl) (fun _ _ _ h => h) (Or.inl ⟨by rfl, ?_⟩) (by assumption) ?_
    rotate_left
    · intro w hSw
      clear hSw
      go_simp
      all_goals with_reducible rfl
    simp only [Act.put, List.setIfInBounds_toArray, List.set_cons_zero, List.set_cons_succ]
    refine wpAnyH_take (i := 8) (oi := { dst := some 16, op := Op.move (Operand.tmp 15), type := 4, pos := "law.go:34", after := #[{ on := 7, ground := Ground.data }, { on := 6, ground := Ground.chain }], guard := none }) (v := ?_) rfl (by kernel_rfl) (by kernel_rfl) (by kernel_rfl) (fun _ _ _ h => h) (Or.inl ⟨by rfl, ?_⟩) (by assumption) ?_
    rotate_left
    · intro w hSw
      clear hSw
      go_simp
      all_goals with_reducible rfl
    simp only [Act.put, List.setIfInBounds_toArray, List.set_cons_zero, List.set_cons_succ]
    refine wpAnyH_take (i := 9) (oi := { dst := some 17, op := Op.load 23 (Operand.tmp 1), type := 23, pos := "law.go:34", after := #[{ on := 8, ground := Ground.guard }], guard := some (8, true) }) (v := .agg (S.v8l D).toArray) rfl (by kernel_rfl) (by kernel_rfl) (by kernel_rfl) (fun _ _ _ h => h) (yieldsIf_load_mid (by rfl) _ _ rfl gd 0 rfl (S.v8l D) _ (fun _ hSw => rangeAt_row (show _ = some (Obj.cells (S.v8l D).toArray 23 (0, 0)) by rw [← S.v8_eq]; exact hSw.row RD.out (fun e => e))) Tryd.underlying23 rfl (show _ = some (S.v8l D).toArray.size by rw [← S.v8_eq]; exact hsz)) (by assumption) ?_
    simp only [Act.put, List.setIfInBounds_toArray, List.set_cons_zero, List.set_cons_succ]
    refine wpAnyH_ready (rs := [10]) (by kernel_rfl) (by simp) ?_
    refine AllReadyH.cons (o := { dst := some 18, op := Op.call { callee := Callee.value (Operand.func 31), args := #[Operand.const (Value.int IntKind.i64 32), Operand.const (Value.slice none 0 0)], argTypes := #[3, 53] }, type := 23, pos := "law.go:34", after := #[{ on := 8, ground := Ground.chain }, { on := 8, ground := Ground.guard }], guard := some (8, true) }) rfl (fun K hK => ?_) AllReadyH.nil
    go_simp
    refine (root_any 32 (.slice none 0 0) [] Z6 (BsAt.nil _) (by simp) (fun x hx => by simp at hx) (HK.out.below (BY.out.trans (CZ6.out.below w.heap.size BY.out.size (fun k hk e => by omega))) h0)).mono ?_
    rintro e Z7 ⟨rfl, hb2⟩
    rw [← HD.out]
    replace Rga : Hid (Z7.heap[ga]? = some (.cells #[.int .u64 4, .int .u64 2, .int .u64 1] 27 (0, 0))) := (hb2.block _ (block_lt_of_row Rga.out)).trans Rga.out
    replace Rgb : Hid (Z7.heap[gb]? = some (.cells #[.int .u64 1, .int .u64 4, .int .u64 2] 27 (0, 0))) := (hb2.block _ (block_lt_of_row Rgb.out)).trans Rgb.out
    replace X1 : Hid (NRow 0 Z7 (.slice X1o 3 X1c) [4, 2, 1]) := X1.out.below hb2
    replace X2 : Hid (NRow 0 Z7 (.slice X2o 3 X2c) [1, 4, 2]) := X2.out.below hb2
    have CZ7 : Hid (Chg (fun _ => False) Y Z7) := CZ6.out.then hb2
    clear hb2 CZ6
    clear hHeld
    refine hK.out _ _ CZ7.out (fun hHeld => ?_)
    clear hK K
    try simp only [Act.put, List.setIfInBounds_toArray, List.set_cons_zero, List.set_cons_succ]
    refine wpAnyH_take (i := 11) (oi := { dst := some 19, op := Op.binOp BinOp.eql 23 (Operand.tmp 17) (Operand.tmp 18) 23, type := 4, pos := "law.go:34", after := #[{ on := 9, ground := Ground.data }, { on := 10, ground := Ground.data }, { on := 8, ground := Ground.guard }], guard := some (8, true) }) (v := ?_) rfl (by kernel_rfl) (by kernel_rfl) (by kernel_rfl) (fun _ _ _ h => h) (Or.inl ⟨by rfl, ?_⟩) (by assumption) ?_
    rotate_left
    · intro w hSw
      clear hSw
      go_simp
      all_goals with_reducible rfl
    simp only [Act.put, List.setIfInBounds_toArray, List.set_cons_zero, List.set_cons_succ]
    refine wpAnyH_take (i := 12) (oi := { dst := some 20, op := Op.pick (Operand.tmp 16) (Operand.tmp 19) (Operand.const (Value.bool false)), type := 4, pos := "law.go:34", after := #[{ on := 8, ground := Ground.data }, { on := 11, ground := Ground.data }], guard := none }) (v := ?_) rfl (by kernel_rfl) (by kernel_rfl) (by kernel_rfl) (fun _ _ _ h => h) (Or.inl ⟨by rfl, ?_⟩) (by assumption) ?_
    rotate_left
    · intro w hSw
      clear hSw
      go_simp
      all_goals with_reducible rfl
    simp only [Act.put, List.setIfInBounds_toArray, List.set_cons_zero, List.set_cons_succ]
    refine wpAnyH_take (i := 13) (oi := { dst := some 21, op := Op.move (Operand.tmp 20), type := 4, pos := "law.go:34", after := #[{ on := 12, ground := Ground.data }, { on := 10, ground := Ground.chain }], guard := none }) (v := ?_) rfl (by kernel_rfl) (by kernel_rfl) (by kernel_rfl) (fun _ _ _ h => h) (Or.inl ⟨by rfl, ?_⟩) (by assumption) ?_
    rotate_left
    · intro w hSw
      clear hSw
      go_simp
      all_goals with_reducible rfl
    simp only [Act.put, List.setIfInBounds_toArray, List.set_cons_zero, List.set_cons_succ]
    refine wpAnyH_take (i := 14) (oi := { dst := some 22, op := Op.move (Operand.tmp 2), type := 24, pos := "law.go:34", after := #[{ on := 13, ground := Ground.guard }], guard := some (13, true) }) (v := ?_) rfl (by kernel_rfl) (by kernel_rfl) (by kernel_rfl) (fun _ _ _ h => h) (Or.inl ⟨by rfl, ?_⟩) (by assumption) ?_
    rotate_left
    · intro w hSw
      clear hSw
      go_simp
      all_goals with_reducible rfl
    simp only [Act.put, List.setIfInBounds_toArray, List.set_cons_zero, List.set_cons_succ]
    refine wpAnyH_take (i := 15) (oi := { dst := some 23, op := Op.binOp BinOp.eql 24 (Operand.tmp 22) (Operand.const (Value.int IntKind.i64 0)) 24, type := 4, pos := "law.go:34", after := #[{ on := 14, ground := Ground.data }, { on := 13, ground := Ground.guard }], guard := some (13, true) }) (v := ?_) rfl (by kernel_rfl) (by kernel_rfl) (by kernel_rfl) (fun _ _ _ h => h) (Or.inl ⟨by rfl, ?_⟩) (by assumption) ?_
    rotate_left
    · intro w hSw
      clear hSw
      go_simp
      all_goals with_reducible rfl
    simp only [Act.put, List.setIfInBounds_toArray, List.set_cons_zero, List.set_cons_succ]
    refine wpAnyH_take (i := 16) (oi := { dst := some 24, op := Op.pick (Operand.tmp 21) (Operand.tmp 23) (Operand.const (Value.bool false)), type := 4, pos := "law.go:34", after := #[{ on := 13, ground := Ground.data }, { on := 15, ground := Ground.data }], guard := none }) (v := ?_) rfl (by kernel_rfl) (by kernel_rfl) (by kernel_rfl) (fun _ _ _ h => h) (Or.inl ⟨by rfl, ?_⟩) (by assumption) ?_
    rotate_left
    · intro w hSw
      clear hSw
      go_simp
      all_goals with_reducible rfl
    simp only [Act.put, List.setIfInBounds_toArray, List.set_cons_zero, List.set_cons_succ]
    refine wpAnyH_take (i := 17) (oi := { dst := some 0, op := Op.assign (Operand.tmp 24), type := 4, pos := "law.go:34", after := #[{ on := 16, ground := Ground.data }, { on := 13, ground := Ground.chain }, { on := 0, ground := Ground.phase }, { on := 1, ground := Ground.phase }, { on := 2, ground := Ground.phase }, { on := 3, ground := Ground.phase }, { on := 4, ground := Ground.phase }, { on := 5, ground := Ground.phase }, { on := 6, ground := Ground.phase }, { on := 7, ground := Ground.phase }, { on := 8, ground := Ground.phase }, { on := 9, ground := Ground.phase }, { on := 10, ground := Ground.phase }, { on := 11, ground := Ground.phase }, { on := 12, ground := Ground.phase }, { on := 13, ground := Ground.phase }, { on := 14, ground := Ground.phase }, { on := 15, ground := Ground.phase }, { on := 16, ground := Ground.phase }], guard := none }) (v := ?_) rfl (by kernel_rfl) (by kernel_rfl) (by kernel_rfl) (fun _ _ _ h => h) (Or.inl ⟨by rfl, ?_⟩) (by assumption) ?_
    rotate_left
    · intro w hSw
      clear hSw
      go_simp
      all_goals with_reducible rfl
    simp only [Act.put, List.setIfInBounds_toArray, List.set_cons_zero]
    refine wpAnyH_done (by kernel_rfl) ?_ _
    refine NoPanic.normal ?_
    clear hHeld
    have BF := hide (BY.out.trans (CZ7.out.below w.heap.size BY.out.size (fun k hk e => by omega)))
    go_wp2_with fail
    go_ret
    exact ⟨rfl, BF.out⟩
  refine step_buildSlice_w (o := { dst := some 13, op := Op.buildSlice 38 3 #[(0, Operand.const (Value.int IntKind.u64 1)), (1, Operand.const (Value.int IntKind.u64 4)), (2, Operand.const (Value.int IntKind.u64 2))], type := 38, pos := "law.go:34", after := #[{ on := 3, ground := Ground.guard }], guard := some (3, true) }) rfl rfl 38 3 [(0, .const (.int .u64 1)), (1, .const (.int .u64 4)), (2, .const (.int .u64 2))] rfl [(0, .int .u64 1), (1, .int .u64 4), (2, .int .u64 2)] rfl _ _ (bs38three Z3 1 4 2) AllReadyH.nil ⟨CZ3.out.alloc _, fun hHeld => ?_⟩
  clear hHeld
  simp only [Act.put, List.setIfInBounds_toArray, List.set_cons_zero, List.set_cons_succ]
  obtain ⟨gb, hgb⟩ : ∃ gg, gg = Z3.heap.size := ⟨_, rfl⟩
  rw [← hgb]
  generalize hZ : Z3.alloc _ = Z4
  have hb2 : Below Z3.heap.size Z3 Z4 := by rw [← hZ]; exact (Below.refl _ _).alloc (Nat.le_refl _) _
  have Rgb : Hid (Z4.heap[gb]? = some (.cells #[.int .u64 1, .int .u64 4, .int .u64 2] 27 (0, 0))) := by rw [← hZ, hgb]; exact heap_alloc_new _ _
  have Ggb := hide (show Y.heap.size ≤ gb by rw [hgb]; exact CZ3.out.size)
  clear hZ hgb
  replace Rga : Hid (Z4.heap[ga]? = some (.cells #[.int .u64 4, .int .u64 2, .int .u64 1] 27 (0, 0))) := (hb2.block _ (block_lt_of_row Rga.out)).trans Rga.out
  replace X1 : Hid (NRow 0 Z4 (.slice X1o 3 X1c) [4, 2, 1]) := X1.out.below hb2
  have CZ4 : Hid (Chg (fun _ => False) Y Z4) := CZ3.out.then hb2
  clear hb2 CZ3
  have hHeld := CZ4.out
  refine wpAnyH_ready (rs := [4]) (by kernel_rfl) (by simp) ?_
  refine AllReadyH.cons (o := { dst := some 12, op := Op.call { callee := Callee.value (Operand.func 15), args := #[Operand.const (Value.int IntKind.u64 3), Operand.const (Value.int IntKind.u64 10)], argTypes := #[27, 27] }, type := 38, pos := "law.go:34", after := #[{ on := 3, ground := Ground.chain }, { on := 3, ground := Ground.guard }], guard := some (3, true) }) rfl (fun K hK => ?_) AllReadyH.nil
  go_simp
  refine (blocks_lit 3 10 3 10 rfl rfl Z4 (by omega) (by omega)).mono ?_
  rintro e Z5 ⟨⟨vb, rfl, hv⟩, hb2⟩
  rw [C.blocks_310] at hv
  obtain ⟨X2o, X2c, rfl⟩ := hv.form
  have X2 : Hid (NRow 0 _ (.slice X2o 3 X2c) [1, 4, 2]) := hv.mono (Nat.zero_le _)
  clear hv
  rw [show ([1, 4, 2] : List Nat).length = 3 from rfl]
  replace Rga : Hid (Z5.heap[ga]? = some (.cells #[.int .u64 4, .int .u64 2, .int .u64 1] 27 (0, 0))) := (hb2.block _ (block_lt_of_row Rga.out)).trans Rga.out
  replace Rgb : Hid (Z5.heap[gb]? = some (.cells #[.int .u64 1, .int .u64 4, .int .u64 2] 27 (0, 0))) := (hb2.block _ (block_lt_of_row Rgb.out)).trans Rgb.out
  replace X1 : Hid (NRow 0 Z5 (.slice X1o 3 X1c) [4, 2, 1]) := X1.out.below hb2
  have CZ5 : Hid (Chg (fun _ => False) Y Z5) := CZ4.out.then hb2
  clear hb2 CZ4
  clear hHeld
  refine hK.out _ _ CZ5.out (fun hHeld => ?_)
  clear hK K
  try simp only [Act.put, List.setIfInBounds_toArray, List.set_cons_zero, List.set_cons_succ]
  refine wpAnyH_ready (rs := [6]) (by kernel_rfl) (by simp) ?_
  refine AllReadyH.cons (o := { dst := some 14, op := Op.call { callee := Callee.value (Operand.func 16), args := #[Operand.tmp 12, Operand.tmp 13], argTypes := #[38, 38] }, type := 4, pos := "law.go:34", after := #[{ on := 4, ground := Ground.data }, { on := 5, ground := Ground.data }, { on := 4, ground := Ground.chain }, { on := 3, ground := Ground.guard }], guard := some (3, true) }) rfl (fun K hK => ?_) AllReadyH.nil
  go_simp
  refine (samen_any 0 0 (.slice X2o 3 X2c) (.slice (some ⟨gb, 0, none⟩) 3 3) [1, 4, 2] Z5 X2.out (NRow.lit (ns := [1, 4, 2]) Rgb.out (by simp) (Nat.zero_le _)) (by simp)).mono ?_
  rintro e Z6 ⟨rfl, hb2⟩
  replace Rga : Hid (Z6.heap[ga]? = some (.cells #[.int .u64 4, .int .u64 2, .int .u64 1] 27 (0, 0))) := (hb2.block _ (block_lt_of_row Rga.out)).trans Rga.out
  replace Rgb : Hid (Z6.heap[gb]? = some (.cells #[.int .u64 1, .int .u64 4, .int .u64 2] 27 (0, 0))) := (hb2.block _ (block_lt_of_row Rgb.out)).trans Rgb.out
  replace X1 : Hid (NRow 0 Z6 (.slice X1o 3 X1c) [4, 2, 1]) := X1.out.below hb2
  replace X2 : Hid (NRow 0 Z6 (.slice X2o 3 X2c) [1, 4, 2]) := X2.out.below hb2
  have CZ6 : Hid (Chg (fun _ => False) Y Z6) := CZ5.out.then hb2
  clear hb2 CZ5
  clear hHeld
  refine hK.out _ _ CZ6.out (fun hHeld => ?_)
  clear hK K
  try simp only [Act.put, List.setIfInBounds_toArray, List.set_cons_zero, List.set_cons_succ]
  refine wpAnyH_take (i := 7) (oi := { dst := some 15, op := Op.pick (Operand.tmp 11) (Operand.tmp 14) (Operand.const (Value.bool false)), type := 4, pos := "law.go:34", after := #[{ on := 3, ground := Ground.data }, { on := 6, ground := Ground.data }], guard := none }) (v := ?_) rfl (by kernel_rfl) (by kernel_rfl) (by kernel_rfl) (fun _ _ _ h => h) (Or.inl ⟨by rfl, ?_⟩) (by assumption) ?_
  rotate_left
  · intro w hSw
    clear hSw
    go_simp
    all_goals with_reducible rfl
  simp only [Act.put, List.setIfInBounds_toArray, List.set_cons_zero, List.set_cons_succ]
  refine wpAnyH_take (i := 8) (oi := { dst := some 16, op := Op.move (Operand.tmp 15), type := 4, pos := "law.go:34", after := #[{ on := 7, ground := Ground.data }, { on := 6, ground := Ground.chain }], guard := none }) (v := ?_) rfl (by kernel_rfl) (by kernel_rfl) (by kernel_rfl) (fun _ _ _ h => h) (Or.inl ⟨by rfl, ?_⟩) (by assumption) ?_
  rotate_left
  · intro w hSw
    clear hSw
    go_simp
    all_goals with_reducible rfl
  simp only [Act.put, List.setIfInBounds_toArray, List.set_cons_zero, List.set_cons_succ]
  refine wpAnyH_take (i := 9) (oi := { dst := some 17, op := Op.load 23 (Operand.tmp 1), type := 23, pos := "law.go:34", after := #[{ on := 8, ground := Ground.guard }], guard := some (8, true) }) (v := .agg (S.v8l D).toArray) rfl (by kernel_rfl) (by kernel_rfl) (by kernel_rfl) (fun _ _ _ h => h) (yieldsIf_load_mid (by rfl) _ _ rfl gd 0 rfl (S.v8l D) _ (fun _ hSw => rangeAt_row (show _ = some (Obj.cells (S.v8l D).toArray 23 (0, 0)) by rw [← S.v8_eq]; exact hSw.row RD.out (fun e => e))) Tryd.underlying23 rfl (show _ = some (S.v8l D).toArray.size by rw [← S.v8_eq]; exact hsz)) (by assumption) ?_
  simp only [Act.put, List.setIfInBounds_toArray, List.set_cons_zero, List.set_cons_succ]
  refine wpAnyH_ready (rs := [10]) (by kernel_rfl) (by simp) ?_
  refine AllReadyH.cons (o := { dst := some 18, op := Op.call { callee := Callee.value (Operand.func 31), args := #[Operand.const (Value.int IntKind.i64 32), Operand.const (Value.slice none 0 0)], argTypes := #[3, 53] }, type := 23, pos := "law.go:34", after := #[{ on := 8, ground := Ground.chain }, { on := 8, ground := Ground.guard }], guard := some (8, true) }) rfl (fun K hK => ?_) AllReadyH.nil
  go_simp
  refine (root_any 32 (.slice none 0 0) [] Z6 (BsAt.nil _) (by simp) (fun x hx => by simp at hx) (HK.out.below (BY.out.trans (CZ6.out.below w.heap.size BY.out.size (fun k hk e => by omega))) h0)).mono ?_
  rintro e Z7 ⟨rfl, hb2⟩
  rw [← HD.out]
  replace Rga : Hid (Z7.heap[ga]? = some (.cells #[.int .u64 4, .int .u64 2, .int .u64 1] 27 (0, 0))) := (hb2.block _ (block_lt_of_row Rga.out)).trans Rga.out
  replace Rgb : Hid (Z7.heap[gb]? = some (.cells #[.int .u64 1, .int .u64 4, .int .u64 2] 27 (0, 0))) := (hb2.block _ (block_lt_of_row Rgb.out)).trans Rgb.out
  replace X1 : Hid (NRow 0 Z7 (.slice X1o 3 X1c) [4, 2, 1]) := X1.out.below hb2
  replace X2 : Hid (NRow 0 Z7 (.slice X2o 3 X2c) [1, 4, 2]) := X2.out.below hb2
  have CZ7 : Hid (Chg (fun _ => False) Y Z7) := CZ6.out.then hb2
  clear hb2 CZ6
  clear hHeld
  refine hK.out _ _ CZ7.out (fun hHeld => ?_)
  clear hK K
  try simp only [Act.put, List.setIfInBounds_toArray, List.set_cons_zero, List.set_cons_succ]
  refine wpAnyH_take (i := 11) (oi := { dst := some 19, op := Op.binOp BinOp.eql 23 (Operand.tmp 17) (Operand.tmp 18) 23, type := 4, pos := "law.go:34", after := #[{ on := 9, ground := Ground.data }, { on := 10, ground := Ground.data }, { on := 8, ground := Ground.guard }], guard := some (8, true) }) (v := ?_) rfl (by kernel_rfl) (by kernel_rfl) (by kernel_rfl) (fun _ _ _ h => h) (Or.inl ⟨by rfl, ?_⟩) (by assumption) ?_
  rotate_left
  · intro w hSw
    clear hSw
    go_simp
    all_goals with_reducible rfl
  simp only [Act.put, List.setIfInBounds_toArray, List.set_cons_zero, List.set_cons_succ]
  refine wpAnyH_take (i := 12) (oi := { dst := some 20, op := Op.pick (Operand.tmp 16) (Operand.tmp 19) (Operand.const (Value.bool false)), type := 4, pos := "law.go:34", after := #[{ on := 8, ground := Ground.data }, { on := 11, ground := Ground.data }], guard := none }) (v := ?_) rfl (by kernel_rfl) (by kernel_rfl) (by kernel_rfl) (fun _ _ _ h => h) (Or.inl ⟨by rfl, ?_⟩) (by assumption) ?_
  rotate_left
  · intro w hSw
    clear hSw
    go_simp
    all_goals with_reducible rfl
  simp only [Act.put, List.setIfInBounds_toArray, List.set_cons_zero, List.set_cons_succ]
  refine wpAnyH_take (i := 13) (oi := { dst := some 21, op := Op.move (Operand.tmp 20), type := 4, pos := "law.go:34", after := #[{ on := 12, ground := Ground.data }, { on := 10, ground := Ground.chain }], guard := none }) (v := ?_) rfl (by kernel_rfl) (by kernel_rfl) (by kernel_rfl) (fun _ _ _ h => h) (Or.inl ⟨by rfl, ?_⟩) (by assumption) ?_
  rotate_left
  · intro w hSw
    clear hSw
    go_simp
    all_goals with_reducible rfl
  simp only [Act.put, List.setIfInBounds_toArray, List.set_cons_zero, List.set_cons_succ]
  refine wpAnyH_take (i := 14) (oi := { dst := some 22, op := Op.move (Operand.tmp 2), type := 24, pos := "law.go:34", after := #[{ on := 13, ground := Ground.guard }], guard := some (13, true) }) (v := ?_) rfl (by kernel_rfl) (by kernel_rfl) (by kernel_rfl) (fun _ _ _ h => h) (Or.inl ⟨by rfl, ?_⟩) (by assumption) ?_
  rotate_left
  · intro w hSw
    clear hSw
    go_simp
    all_goals with_reducible rfl
  simp only [Act.put, List.setIfInBounds_toArray, List.set_cons_zero, List.set_cons_succ]
  refine wpAnyH_take (i := 15) (oi := { dst := some 23, op := Op.binOp BinOp.eql 24 (Operand.tmp 22) (Operand.const (Value.int IntKind.i64 0)) 24, type := 4, pos := "law.go:34", after := #[{ on := 14, ground := Ground.data }, { on := 13, ground := Ground.guard }], guard := some (13, true) }) (v := ?_) rfl (by kernel_rfl) (by kernel_rfl) (by kernel_rfl) (fun _ _ _ h => h) (Or.inl ⟨by rfl, ?_⟩) (by assumption) ?_
  rotate_left
  · intro w hSw
    clear hSw
    go_simp
    all_goals with_reducible rfl
  simp only [Act.put, List.setIfInBounds_toArray, List.set_cons_zero, List.set_cons_succ]
  refine wpAnyH_take (i := 16) (oi := { dst := some 24, op := Op.pick (Operand.tmp 21) (Operand.tmp 23) (Operand.const (Value.bool false)), type := 4, pos := "law.go:34", after := #[{ on := 13, ground := Ground.data }, { on := 15, ground := Ground.data }], guard := none }) (v := ?_) rfl (by kernel_rfl) (by kernel_rfl) (by kernel_rfl) (fun _ _ _ h => h) (Or.inl ⟨by rfl, ?_⟩) (by assumption) ?_
  rotate_left
  · intro w hSw
    clear hSw
    go_simp
    all_goals with_reducible rfl
  simp only [Act.put, List.setIfInBounds_toArray, List.set_cons_zero, List.set_cons_succ]
  refine wpAnyH_take (i := 17) (oi := { dst := some 0, op := Op.assign (Operand.tmp 24), type := 4, pos := "law.go:34", after := #[{ on := 16, ground := Ground.data }, { on := 13, ground := Ground.chain }, { on := 0, ground := Ground.phase }, { on := 1, ground := Ground.phase }, { on := 2, ground := Ground.phase }, { on := 3, ground := Ground.phase }, { on := 4, ground := Ground.phase }, { on := 5, ground := Ground.phase }, { on := 6, ground := Ground.phase }, { on := 7, ground := Ground.phase }, { on := 8, ground := Ground.phase }, { on := 9, ground := Ground.phase }, { on := 10, ground := Ground.phase }, { on := 11, ground := Ground.phase }, { on := 12, ground := Ground.phase }, { on := 13, ground := Ground.phase }, { on := 14, ground := Ground.phase }, { on := 15, ground := Ground.phase }, { on := 16, ground := Ground.phase }], guard := none }) (v := ?_) rfl (by kernel_rfl) (by kernel_rfl) (by kernel_rfl) (fun _ _ _ h => h) (Or.inl ⟨by rfl, ?_⟩) (by assumption) ?_
  rotate_left
  · intro w hSw
    clear hSw
    go_simp
    all_goals with_reducible rfl
  simp only [Act.put, List.setIfInBounds_toArray, List.set_cons_zero]
  refine wpAnyH_done (by kernel_rfl) ?_ _
  refine NoPanic.normal ?_
  clear hHeld
  have BF := hide (BY.out.trans (CZ7.out.below w.heap.size BY.out.size (fun k hk e => by omega)))
  go_wp2_with fail
  go_ret
  exact ⟨rfl, BF.out⟩
end Go.Proofs.YtkljajfgdelfgaaDoor
