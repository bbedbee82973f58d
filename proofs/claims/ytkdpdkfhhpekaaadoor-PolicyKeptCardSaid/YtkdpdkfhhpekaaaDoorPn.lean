/- A book of lists that are none: kept, they stay, and are apart. -/
import Derived.Test.YtkdpdkfhhpekaaaDoorWap
import Derived.Test.YtkdpdkfhhpekaaaDoorPh
namespace Go.Proofs.YtkdpdkfhhpekaaaDoor
open Go.RowKit

theorem Chg.then {p : Nat → Prop} {a b c : World} (h : Chg p a b) (k : Below b.heap.size b c) : Chg p a c := h.trans (Chg.ofBelow' (p := fun _ => False) k) (fun _ _ e => e.elim)
def nilS : Value := .slice none 0 0
/-- The book in block gB holds n lists that are nil. -/
structure NilBk (w : World) (gB : Nat) (vl vw : Value) (n : Nat) : Prop where
  row : w.heap[gB]? = some (.cells #[vl, vw, .int .i64 (n : Int), .bool false] 35 (0, 0))
  lists : Lists w vl (List.replicate n nilS)
  was : Lists w vw (List.replicate n nilS)
  vlSep : ∀ k, vl.ownBlock = some k → gB < k
  vwSep : ∀ k, vw.ownBlock = some k → gB < k ∧ vl.ownBlock ≠ some k
theorem NilBk.still {w W : World} {gB n : Nat} {vl vw : Value} (h : NilBk w gB vl vw n) (hs : Still w W) : NilBk W gB vl vw n :=
  ⟨by rw [hs.1]; exact h.row, h.lists.kept (fun k _ => by rw [hs.1]), h.was.kept (fun k _ => by rw [hs.1]), h.vlSep, h.vwSep⟩
theorem rep_get {n k : Nat} (h : k < n) : (List.replicate n nilS).getD k default = nilS := by
  rw [List.getD_eq_getElem?_getD, List.getElem?_replicate, if_pos h]; rfl
theorem rep_more (n : Nat) : List.replicate n nilS ++ [nilS] = List.replicate (n + 1) nilS := by
  rw [List.replicate_succ']
theorem app_nil (w : World) : (Builtin.append_ #[22, 22] 22 #[.slice none 0 0, .slice none 0 0]).run Tryd.prog w = .ok (.slice none 0 0) w := by
  obtain ⟨i, hi, hz0, hz1, hz2⟩ := info_parts info5
  simp [Builtin.append_, run_underlying Tryd.underlying22, sizeOf, typeInfo, hi, Builtin.lenOf, Builtin.firstCells]
def NilMid (w : World) (gB : Nat) (v1 : Value) (n : Nat) (W : World) : Prop := ∃ v2, W.heap[gB]? = some (.cells #[v1, v2, .int .i64 (n : Int), .bool false] 35 (0, 0)) ∧ Lists W v1 (List.replicate (n + 1) nilS) ∧ Lists W v2 (List.replicate (n + 1) nilS) ∧ (∀ k, v2.ownBlock = some k → gB < k ∧ v1.ownBlock ≠ some k) ∧ Below gB w W
set_option maxHeartbeats 4000000 in
set_option maxRecDepth 100000 in
theorem keep_nil (gB n : Nat) (vl vw : Value) (w : World) (hbk : NilBk w gB vl vw n) (hn : n ≤ 10) :
   Calls Tryd.prog 17 #[.pointer (some ⟨gB, 0, none⟩), .slice none 0 0] w fun e w' => e = .returned (.tuple #[]) ∧ (∃ vl' vw', NilBk w' gB vl' vw' (n + 1)) ∧ Below gB w w' := by
  have HBK := hide hbk
  have HM : Hid ((List.replicate n nilS).length ≤ 1000000) := by show _ ≤ _; simp; omega
  have c0 := (cells4 hbk.row).1
  have hgl := block_lt_of_row hbk.row
  have HV : Hid (∀ k, vl.ownBlock = some k → gB < k) := hbk.vlSep
  have HW : Hid (∀ k, vw.ownBlock = some k → gB < k ∧ vl.ownBlock ≠ some k) := hbk.vwSep
  have HL := hide hbk.lists
  have HWA := hide hbk.was
  clear hbk
  go_enter Tryd.func17, Tryd.ntmps17
  go_wp2_with (at_builtin; (refine wpList_append_known rfl (.tmp 8) (.tmp 10) 33 33 rfl _ _ rfl rfl (run_append_list _ vl nilS w.heap.size (List.replicate n nilS) 33 (HL.out.kept (fun k hk => heap_alloc_old _ _ (HL.out.lt hk))) (heap_alloc_new _ _) rfl HM.out) ?_; rintro v0 w1 ⟨hL1, hg1, ho1⟩; obtain ⟨ao1, cc1, hv1⟩ := hL1.shape; subst hv1; have hr1 : w1.heap[gB]? = some (.cells #[vl, vw, .int .i64 (n : Int), .bool false] 35 (0, 0)) := (hg1.block gB (by simp; omega) (fun e => by have := HV.out gB e.symm; omega)).trans ((heap_alloc_old _ _ (by omega)).trans HBK.out.row); have c0' := (cells4 hr1).1; have f0' := frozen_of_row _ _ 0 _ _ hr1))
  rw [rep_more] at hL1
  rw [List.length_replicate] at hL1
  simp only [List.length_append, List.length_replicate, List.length_singleton] at ho1
  try simp only [List.length_append, List.length_replicate, List.length_singleton]
  generalize hv1 : Value.slice ao1 (n + 1) cc1 = v1 at *
  generalize hW1 : World.setCell w1 ⟨gB, 0, none⟩ v1 = W1
  have HV1 : Hid (∀ k, v1.ownBlock = some k → vl.ownBlock = some k ∨ w.heap.size ≤ k) := fun k hk => by
    rcases ho1 with h' | h'
    · exact Or.inl (h' ▸ hk)
    · rw [hk] at h'
      have := Option.some.inj h'
      right
      rw [this]
      simp
  have hv1B : ∀ k, v1.ownBlock = some k → gB < k := fun k hk => by
    rcases HV1.out k hk with h' | h'
    · exact HV.out k h'
    · omega
  have hb1 : Below gB w w1 := ((Below.refl _ _).alloc (by omega) _).grown hg1 (by simp; omega) (fun k hk => by have := HV.out k hk; omega)
  have R : Hid (W1.heap[gB]? = some (.cells #[v1, vw, .int .i64 (n : Int), .bool false] 35 (0, 0))) := by
    show W1.heap[gB]? = some (.cells #[v1, vw, .int .i64 (n : Int), .bool false] 35 (0, 0))
    rw [← hW1, heap_setCell_same _ _ _ _ _ _ hr1]
    rfl
  have B : Hid (Below gB w W1) := by rw [← hW1]; exact hb1.setCell (Nat.le_refl _) _
  have L : Hid (Lists W1 v1 (List.replicate (n + 1) nilS)) := by
    rw [← hW1]
    exact hL1.kept (fun k hk => heap_setCell_other _ _ _ _ (by have := hv1B k hk; show k ≠ gB; omega))
  have V : Hid (Lists W1 vw (List.replicate n nilS)) := by
    rw [← hW1]
    exact HWA.out.kept (fun k hk => (heap_setCell_other _ _ _ _ (by have := (HW.out k hk).1; show k ≠ gB; omega)).trans ((hg1.block k (by have := HWA.out.lt hk; simp; omega) (fun e => (HW.out k hk).2 e.symm)).trans (heap_alloc_old _ _ (HWA.out.lt hk))))
  have hsz : w.heap.size ≤ W1.heap.size := by rw [← hW1]; simp; have := hg1.size; simp at this; omega
  have HSV : Hid (∀ k, v1.ownBlock = some k → gB < k ∧ vw.ownBlock ≠ some k) := fun k hk => ⟨hv1B k hk, fun e => by
    rcases HV1.out k hk with h' | h'
    · exact (HW.out k e).2 h'
    · have := HWA.out.lt e; omega⟩
  have HVL : Hid (∀ k, v1.ownBlock = some k → gB < k) := hv1B
  clear hv1 hW1 hr1 hL1 hg1 ho1 hb1 hv1B c0 c0' f0'
  have HL1 : Hid (gB < W1.heap.size) := block_lt_of_row R.out
  go_cut [] from 14 (fun wc => NilMid w gB v1 n wc)
  case first =>
    refine wp_region_noPanic ?_
    refine wp_region_held_drew (S := (fun W => Chg (fun k => k = gB ∨ vw.ownBlock = some k) W1 W)) follows ((Chg.refl _ _).drew) (fun hHeld => ?_)
    clear hHeld
    have hHeld : Chg (fun k => k = gB ∨ vw.ownBlock = some k) W1 W1.drew := (Chg.refl _ _).drew
    have CZ0 := hide hHeld
    have R' : Hid (W1.drew.heap[gB]? = some (.cells #[v1, vw, .int .i64 (n : Int), .bool false] 35 (0, 0))) := R.out
    have V' : Hid (Lists W1.drew vw (List.replicate n nilS)) := hide (V.out.kept (fun k hk => (((Below.refl _ _).drew)).block k (V.out.lt hk)))
    have L' : Hid (Lists W1.drew v1 (List.replicate (n + 1) nilS)) := hide (L.out.kept (fun k hk => (((Below.refl _ _).drew)).block k (L.out.lt hk)))
    generalize W1.drew = Z0 at CZ0 hHeld R' V' L' ⊢
    refine wpAnyH_take (i := 0) (oi := { dst := some 14, op := Op.move (Operand.tmp 0), type := 50, pos := "book.go:27", after := #[], guard := none }) (v := ?_) rfl (by kernel_rfl) (by kernel_rfl) (by kernel_rfl) (fun _ _ _ h => h) (Or.inl ⟨by rfl, ?_⟩) (by assumption) ?_
    rotate_left
    · intro w hSw
      clear hSw
      go_simp
      all_goals with_reducible rfl
    simp only [Act.put, List.setIfInBounds_toArray, List.set_cons_zero, List.set_cons_succ]
    refine wpAnyH_take (i := 1) (oi := { dst := some 15, op := Op.move (Operand.tmp 0), type := 50, pos := "book.go:27", after := #[], guard := none }) (v := ?_) rfl (by kernel_rfl) (by kernel_rfl) (by kernel_rfl) (fun _ _ _ h => h) (Or.inl ⟨by rfl, ?_⟩) (by assumption) ?_
    rotate_left
    · intro w hSw
      clear hSw
      go_simp
      all_goals with_reducible rfl
    simp only [Act.put, List.setIfInBounds_toArray, List.set_cons_zero, List.set_cons_succ]
    refine wpAnyH_take (i := 2) (oi := { dst := some 16, op := Op.nilCheck (Operand.tmp 15), type := 0, pos := "book.go:27", after := #[{ on := 1, ground := Ground.data }], guard := none }) (v := ?_) rfl (by kernel_rfl) (by kernel_rfl) (by kernel_rfl) (fun _ _ _ h => h) (Or.inl ⟨by rfl, ?_⟩) (by assumption) ?_
    rotate_left
    · intro w hSw
      clear hSw
      go_simp
      all_goals with_reducible rfl
    simp only [Act.put, List.setIfInBounds_toArray, List.set_cons_zero, List.set_cons_succ]
    refine wpAnyH_take (i := 3) (oi := { dst := some 17, op := Op.fieldAddr 35 (Operand.tmp 16) 1, type := 0, pos := "book.go:27", after := #[{ on := 2, ground := Ground.data }], guard := none }) (v := ?_) rfl (by kernel_rfl) (by kernel_rfl) (by kernel_rfl) (fun _ _ _ h => h) (Or.inl ⟨by rfl, ?_⟩) (by assumption) ?_
    rotate_left
    · intro w hSw
      clear hSw
      go_simp
      all_goals with_reducible rfl
    simp only [Act.put, List.setIfInBounds_toArray, List.set_cons_zero, List.set_cons_succ]
    refine wpAnyH_take (i := 5) (oi := { dst := some 19, op := Op.move (Operand.tmp 1), type := 22, pos := "book.go:27", after := #[], guard := none }) (v := ?_) rfl (by kernel_rfl) (by kernel_rfl) (by kernel_rfl) (fun _ _ _ h => h) (Or.inl ⟨by rfl, ?_⟩) (by assumption) ?_
    rotate_left
    · intro w hSw
      clear hSw
      go_simp
      all_goals with_reducible rfl
    simp only [Act.put, List.setIfInBounds_toArray, List.set_cons_zero, List.set_cons_succ]
    refine wpAnyH_ready (rs := [4, 6]) (by kernel_rfl) (by simp) ?_
    refine AllReadyH.cons (o := { dst := some 18, op := Op.load 33 (Operand.tmp 17), type := 33, pos := "book.go:27", after := #[{ on := 3, ground := Ground.data }], guard := none }) rfl (fun K hK => ?_) ?_
    · skip
      have c1 := (cells4 R'.out).2.1
      go_simp
      refine hK.out _ _ CZ0.out (fun hHeld => ?_)
      clear hK K c1
      try simp only [Act.put, List.setIfInBounds_toArray, List.set_cons_zero, List.set_cons_succ]
      refine wpAnyH_ready (rs := [6]) (by kernel_rfl) (by simp) ?_
      refine AllReadyH.cons (o := { dst := some 20, op := Op.call { callee := Callee.builtin Builtin.append, args := #[Operand.const (Value.slice none 0 0), Operand.tmp 19], argTypes := #[22, 22] }, type := 22, pos := "book.go:27", after := #[{ on := 5, ground := Ground.data }], guard := none }) rfl (fun K hK => ?_) AllReadyH.nil
      have ap := app_nil Z0
      go_simp
      refine hK.out _ _ CZ0.out (fun hHeld => ?_)
      clear hK K ap
      try simp only [Act.put, List.setIfInBounds_toArray, List.set_cons_zero, List.set_cons_succ]
      refine wpAnyH_ready (rs := [7]) (by kernel_rfl) (by simp) ?_
      refine AllReadyH.cons (o := { dst := some 21, op := Op.buildSlice 33 1 #[(0, Operand.tmp 20)], type := 33, pos := "book.go:27", after := #[{ on := 6, ground := Ground.data }], guard := none }) rfl (fun K hK => ?_) AllReadyH.nil
      go_simp
      refine hK.out _ _ (CZ0.out.alloc _) (fun hHeld => ?_)
      clear hK K hHeld
      try simp only [Act.put, List.setIfInBounds_toArray, List.set_cons_zero, List.set_cons_succ]
      obtain ⟨gx, hgx⟩ : ∃ gg, gg = Z0.heap.size := ⟨_, rfl⟩
      rw [← hgx]
      generalize hZ : World.alloc Z0 _ = Z1
      have hb2 : Below Z0.heap.size Z0 Z1 := by rw [← hZ]; exact (Below.refl _ _).alloc (Nat.le_refl _) _
      have RX : Hid (Z1.heap[gx]? = some (.cells #[nilS] 22 (0, 0))) := by rw [← hZ, hgx]; exact heap_alloc_new _ _
      clear hZ hgx
      replace R' : Hid (Z1.heap[gB]? = some (.cells #[v1, vw, .int .i64 (n : Int), .bool false] 35 (0, 0))) := (hb2.block _ (block_lt_of_row R'.out)).trans R'.out
      replace V' : Hid (Lists Z1 vw (List.replicate n nilS)) := hide (V'.out.kept (fun k hk => (hb2).block k (V'.out.lt hk)))
      replace L' : Hid (Lists Z1 v1 (List.replicate (n + 1) nilS)) := hide (L'.out.kept (fun k hk => (hb2).block k (L'.out.lt hk)))
      have CZ1 : Hid (Chg (fun k => k = gB ∨ vw.ownBlock = some k) W1 Z1) := CZ0.out.then hb2
      clear hb2 CZ0
      have hHeld := CZ1.out
      refine wpAnyH_ready (rs := [8]) (by kernel_rfl) (by simp) ?_
      have hM2 : (List.replicate n nilS).length ≤ 1000000 := HM.out
      refine step_append (o := { dst := some 22, op := Op.call { callee := Callee.builtin Builtin.append, args := #[Operand.tmp 18, Operand.tmp 21], argTypes := #[33, 33] }, type := 33, pos := "book.go:27", after := #[{ on := 4, ground := Ground.data }, { on := 7, ground := Ground.data }, { on := 6, ground := Ground.chain }], guard := none }) rfl rfl _ _ 33 33 rfl _ _ rfl rfl (run_append_list _ vw nilS gx (List.replicate n nilS) 33 V'.out RX.out rfl hM2) AllReadyH.nil ?_
      rintro v2 Z2 ⟨hV, hg, ho⟩
      rw [rep_more] at hV
      have CZ2 := hide (CZ1.out.grown hg (fun k _ h => Or.inr h))
      refine ⟨CZ2.out, fun hHeld => ?_⟩
      try simp only [Act.put, List.setIfInBounds_toArray, List.set_cons_zero, List.set_cons_succ]
      have RB : Hid (Z2.heap[gB]? = some (.cells #[v1, vw, .int .i64 (n : Int), .bool false] 35 (0, 0))) := hide ((hg.block gB (block_lt_of_row R'.out) (fun e => by have := (HW.out gB e.symm).1; omega)).trans R'.out)
      have LB := hide (L'.out.kept (fun k hk => hg.block k (L'.out.lt hk) (fun e => (HSV.out k hk).2 e.symm)))
      have HV2 : Hid (∀ k, v2.ownBlock = some k → gB < k ∧ v1.ownBlock ≠ some k) := fun k hk => by
        rcases ho with h' | h'
        · rw [hk] at h'; exact ⟨(HW.out k h'.symm).1, fun e => (HSV.out k e).2 h'.symm⟩
        · rw [hk] at h'
          have hk2 := Option.some.inj h'
          exact ⟨by rw [hk2]; have := block_lt_of_row R'.out; omega, fun e => absurd (L'.out.lt e) (by omega)⟩
      have VB := hide hV
      obtain ⟨ao2, cc2, hv2⟩ := hV.shape
      rw [List.length_replicate] at hv2
      clear hg ho hV R' V' L' RX hM2
      subst hv2
      refine wpAnyH_take (i := 9) (oi := { dst := some 23, op := Op.nilCheck (Operand.tmp 14), type := 0, pos := "book.go:27", after := #[{ on := 0, ground := Ground.data }, { on := 0, ground := Ground.phase }, { on := 1, ground := Ground.phase }, { on := 2, ground := Ground.phase }, { on := 3, ground := Ground.phase }, { on := 4, ground := Ground.phase }, { on := 5, ground := Ground.phase }, { on := 6, ground := Ground.phase }, { on := 7, ground := Ground.phase }, { on := 8, ground := Ground.phase }], guard := none }) (v := ?_) rfl (by kernel_rfl) (by kernel_rfl) (by kernel_rfl) (fun _ _ _ h => h) (Or.inl ⟨by rfl, ?_⟩) (by assumption) ?_
      rotate_left
      · intro w hSw
        clear hSw
        go_simp
        all_goals with_reducible rfl
      simp only [Act.put, List.setIfInBounds_toArray, List.set_cons_zero, List.set_cons_succ]
      refine wpAnyH_take (i := 10) (oi := { dst := some 24, op := Op.fieldAddr 35 (Operand.tmp 23) 1, type := 0, pos := "book.go:27", after := #[{ on := 9, ground := Ground.data }, { on := 0, ground := Ground.phase }, { on := 1, ground := Ground.phase }, { on := 2, ground := Ground.phase }, { on := 3, ground := Ground.phase }, { on := 4, ground := Ground.phase }, { on := 5, ground := Ground.phase }, { on := 6, ground := Ground.phase }, { on := 7, ground := Ground.phase }, { on := 8, ground := Ground.phase }], guard := none }) (v := ?_) rfl (by kernel_rfl) (by kernel_rfl) (by kernel_rfl) (fun _ _ _ h => h) (Or.inl ⟨by rfl, ?_⟩) (by assumption) ?_
      rotate_left
      · intro w hSw
        clear hSw
        go_simp
        all_goals with_reducible rfl
      simp only [Act.put, List.setIfInBounds_toArray, List.set_cons_zero, List.set_cons_succ]
      refine wpAnyH_ready (rs := [11]) (by kernel_rfl) (by simp) ?_
      refine AllReadyH.cons (o := { dst := none, op := Op.store 33 (Operand.tmp 24) (Operand.tmp 22), type := 0, pos := "book.go:27", after := #[{ on := 10, ground := Ground.data }, { on := 8, ground := Ground.data }, { on := 8, ground := Ground.chain }, { on := 0, ground := Ground.phase }, { on := 1, ground := Ground.phase }, { on := 2, ground := Ground.phase }, { on := 3, ground := Ground.phase }, { on := 4, ground := Ground.phase }, { on := 5, ground := Ground.phase }, { on := 6, ground := Ground.phase }, { on := 7, ground := Ground.phase }, { on := 8, ground := Ground.phase }], guard := none }) rfl (fun K hK => ?_) AllReadyH.nil
      have c1 := (cells4 RB.out).2.1
      have f1 := frozen_of_row _ _ 1 _ _ RB.out
      go_simp
      refine hK.out _ _ (CZ2.out.setCell gB 1 _ (fun _ => Or.inl rfl)) (fun hHeld => ?_)
      clear hK K c1 f1
      try simp only [Act.put, List.setIfInBounds_toArray, List.set_cons_zero, List.set_cons_succ]
      refine wpAnyH_done (by kernel_rfl) ?_ _
      refine NoPanic.normal ?_
      clear hHeld
      go_wp2_with fail
      go_meet
      refine ⟨.slice ao2 (n + 1) cc2, ?_, LB.out.kept (fun k hk => heap_setCell_other _ _ _ _ (by have := HVL.out k hk; show k ≠ gB; omega)), VB.out.kept (fun k hk => heap_setCell_other _ _ _ _ (by have := (HV2.out k hk).1; show k ≠ gB; omega)), HV2.out, ?_⟩
      · rw [heap_setCell_same _ _ _ _ _ _ RB.out]; rfl
      · exact (B.out.trans (CZ2.out.below gB (by have := HL1.out; omega) (fun k hk e => by rcases e with e | e; omega; have := (HW.out k e).1; omega))).setCell (Nat.le_refl _) _
    refine AllReadyH.cons (o := { dst := some 20, op := Op.call { callee := Callee.builtin Builtin.append, args := #[Operand.const (Value.slice none 0 0), Operand.tmp 19], argTypes := #[22, 22] }, type := 22, pos := "book.go:27", after := #[{ on := 5, ground := Ground.data }], guard := none }) rfl (fun K hK => ?_) AllReadyH.nil
    have ap := app_nil Z0
    go_simp
    refine hK.out _ _ CZ0.out (fun hHeld => ?_)
    clear hK K ap
    try simp only [Act.put, List.setIfInBounds_toArray, List.set_cons_zero, List.set_cons_succ]
    refine wpAnyH_ready (rs := [4, 7]) (by kernel_rfl) (by simp) ?_
    refine AllReadyH.cons (o := { dst := some 18, op := Op.load 33 (Operand.tmp 17), type := 33, pos := "book.go:27", after := #[{ on := 3, ground := Ground.data }], guard := none }) rfl (fun K hK => ?_) ?_
    · skip
      have c1 := (cells4 R'.out).2.1
      go_simp
      refine hK.out _ _ CZ0.out (fun hHeld => ?_)
      clear hK K c1
      try simp only [Act.put, List.setIfInBounds_toArray, List.set_cons_zero, List.set_cons_succ]
      refine wpAnyH_ready (rs := [7]) (by kernel_rfl) (by simp) ?_
      refine AllReadyH.cons (o := { dst := some 21, op := Op.buildSlice 33 1 #[(0, Operand.tmp 20)], type := 33, pos := "book.go:27", after := #[{ on := 6, ground := Ground.data }], guard := none }) rfl (fun K hK => ?_) AllReadyH.nil
      go_simp
      refine hK.out _ _ (CZ0.out.alloc _) (fun hHeld => ?_)
      clear hK K hHeld
      try simp only [Act.put, List.setIfInBounds_toArray, List.set_cons_zero, List.set_cons_succ]
      obtain ⟨gx, hgx⟩ : ∃ gg, gg = Z0.heap.size := ⟨_, rfl⟩
      rw [← hgx]
      generalize hZ : World.alloc Z0 _ = Z1
      have hb2 : Below Z0.heap.size Z0 Z1 := by rw [← hZ]; exact (Below.refl _ _).alloc (Nat.le_refl _) _
      have RX : Hid (Z1.heap[gx]? = some (.cells #[nilS] 22 (0, 0))) := by rw [← hZ, hgx]; exact heap_alloc_new _ _
      clear hZ hgx
      replace R' : Hid (Z1.heap[gB]? = some (.cells #[v1, vw, .int .i64 (n : Int), .bool false] 35 (0, 0))) := (hb2.block _ (block_lt_of_row R'.out)).trans R'.out
      replace V' : Hid (Lists Z1 vw (List.replicate n nilS)) := hide (V'.out.kept (fun k hk => (hb2).block k (V'.out.lt hk)))
      replace L' : Hid (Lists Z1 v1 (List.replicate (n + 1) nilS)) := hide (L'.out.kept (fun k hk => (hb2).block k (L'.out.lt hk)))
      have CZ1 : Hid (Chg (fun k => k = gB ∨ vw.ownBlock = some k) W1 Z1) := CZ0.out.then hb2
      clear hb2 CZ0
      have hHeld := CZ1.out
      refine wpAnyH_ready (rs := [8]) (by kernel_rfl) (by simp) ?_
      have hM2 : (List.replicate n nilS).length ≤ 1000000 := HM.out
      refine step_append (o := { dst := some 22, op := Op.call { callee := Callee.builtin Builtin.append, args := #[Operand.tmp 18, Operand.tmp 21], argTypes := #[33, 33] }, type := 33, pos := "book.go:27", after := #[{ on := 4, ground := Ground.data }, { on := 7, ground := Ground.data }, { on := 6, ground := Ground.chain }], guard := none }) rfl rfl _ _ 33 33 rfl _ _ rfl rfl (run_append_list _ vw nilS gx (List.replicate n nilS) 33 V'.out RX.out rfl hM2) AllReadyH.nil ?_
      rintro v2 Z2 ⟨hV, hg, ho⟩
      rw [rep_more] at hV
      have CZ2 := hide (CZ1.out.grown hg (fun k _ h => Or.inr h))
      refine ⟨CZ2.out, fun hHeld => ?_⟩
      try simp only [Act.put, List.setIfInBounds_toArray, List.set_cons_zero, List.set_cons_succ]
      have RB : Hid (Z2.heap[gB]? = some (.cells #[v1, vw, .int .i64 (n : Int), .bool false] 35 (0, 0))) := hide ((hg.block gB (block_lt_of_row R'.out) (fun e => by have := (HW.out gB e.symm).1; omega)).trans R'.out)
      have LB := hide (L'.out.kept (fun k hk => hg.block k (L'.out.lt hk) (fun e => (HSV.out k hk).2 e.symm)))
      have HV2 : Hid (∀ k, v2.ownBlock = some k → gB < k ∧ v1.ownBlock ≠ some k) := fun k hk => by
        rcases ho with h' | h'
        · rw [hk] at h'; exact ⟨(HW.out k h'.symm).1, fun e => (HSV.out k e).2 h'.symm⟩
        · rw [hk] at h'
          have hk2 := Option.some.inj h'
          exact ⟨by rw [hk2]; have := block_lt_of_row R'.out; omega, fun e => absurd (L'.out.lt e) (by omega)⟩
      have VB := hide hV
      obtain ⟨ao2, cc2, hv2⟩ := hV.shape
      rw [List.length_replicate] at hv2
      clear hg ho hV R' V' L' RX hM2
      subst hv2
      refine wpAnyH_take (i := 9) (oi := { dst := some 23, op := Op.nilCheck (Operand.tmp 14), type := 0, pos := "book.go:27", after := #[{ on := 0, ground := Ground.data }, { on := 0, ground := Ground.phase }, { on := 1, ground := Ground.phase }, { on := 2, ground := Ground.phase }, { on := 3, ground := Ground.phase }, { on := 4, ground := Ground.phase }, { on := 5, ground := Ground.phase }, { on := 6, ground := Ground.phase }, { on := 7, ground := Ground.phase }, { on := 8, ground := Ground.phase }], guard := none }) (v := ?_) rfl (by kernel_rfl) (by kernel_rfl) (by kernel_rfl) (fun _ _ _ h => h) (Or.inl ⟨by rfl, ?_⟩) (by assumption) ?_
      rotate_left
      · intro w hSw
        clear hSw
        go_simp
        all_goals with_reducible rfl
      simp only [Act.put, List.setIfInBounds_toArray, List.set_cons_zero, List.set_cons_succ]
      refine wpAnyH_take (i := 10) (oi := { dst := some 24, op := Op.fieldAddr 35 (Operand.tmp 23) 1, type := 0, pos := "book.go:27", after := #[{ on := 9, ground := Ground.data }, { on := 0, ground := Ground.phase }, { on := 1, ground := Ground.phase }, { on := 2, ground := Ground.phase }, { on := 3, ground := Ground.phase }, { on := 4, ground := Ground.phase }, { on := 5, ground := Ground.phase }, { on := 6, ground := Ground.phase }, { on := 7, ground := Ground.phase }, { on := 8, ground := Ground.phase }], guard := none }) (v := ?_) rfl (by kernel_rfl) (by kernel_rfl) (by kernel_rfl) (fun _ _ _ h => h) (Or.inl ⟨by rfl, ?_⟩) (by assumption) ?_
      rotate_left
      · intro w hSw
        clear hSw
        go_simp
        all_goals with_reducible rfl
      simp only [Act.put, List.setIfInBounds_toArray, List.set_cons_zero, List.set_cons_succ]
      refine wpAnyH_ready (rs := [11]) (by kernel_rfl) (by simp) ?_
      refine AllReadyH.cons (o := { dst := none, op := Op.store 33 (Operand.tmp 24) (Operand.tmp 22), type := 0, pos := "book.go:27", after := #[{ on := 10, ground := Ground.data }, { on := 8, ground := Ground.data }, { on := 8, ground := Ground.chain }, { on := 0, ground := Ground.phase }, { on := 1, ground := Ground.phase }, { on := 2, ground := Ground.phase }, { on := 3, ground := Ground.phase }, { on := 4, ground := Ground.phase }, { on := 5, ground := Ground.phase }, { on := 6, ground := Ground.phase }, { on := 7, ground := Ground.phase }, { on := 8, ground := Ground.phase }], guard := none }) rfl (fun K hK => ?_) AllReadyH.nil
      have c1 := (cells4 RB.out).2.1
      have f1 := frozen_of_row _ _ 1 _ _ RB.out
      go_simp
      refine hK.out _ _ (CZ2.out.setCell gB 1 _ (fun _ => Or.inl rfl)) (fun hHeld => ?_)
      clear hK K c1 f1
      try simp only [Act.put, List.setIfInBounds_toArray, List.set_cons_zero, List.set_cons_succ]
      refine wpAnyH_done (by kernel_rfl) ?_ _
      refine NoPanic.normal ?_
      clear hHeld
      go_wp2_with fail
      go_meet
      refine ⟨.slice ao2 (n + 1) cc2, ?_, LB.out.kept (fun k hk => heap_setCell_other _ _ _ _ (by have := HVL.out k hk; show k ≠ gB; omega)), VB.out.kept (fun k hk => heap_setCell_other _ _ _ _ (by have := (HV2.out k hk).1; show k ≠ gB; omega)), HV2.out, ?_⟩
      · rw [heap_setCell_same _ _ _ _ _ _ RB.out]; rfl
      · exact (B.out.trans (CZ2.out.below gB (by have := HL1.out; omega) (fun k hk e => by rcases e with e | e; omega; have := (HW.out k e).1; omega))).setCell (Nat.le_refl _) _
    refine AllReadyH.cons (o := { dst := some 21, op := Op.buildSlice 33 1 #[(0, Operand.tmp 20)], type := 33, pos := "book.go:27", after := #[{ on := 6, ground := Ground.data }], guard := none }) rfl (fun K hK => ?_) AllReadyH.nil
    go_simp
    refine hK.out _ _ (CZ0.out.alloc _) (fun hHeld => ?_)
    clear hK K hHeld
    try simp only [Act.put, List.setIfInBounds_toArray, List.set_cons_zero, List.set_cons_succ]
    obtain ⟨gx, hgx⟩ : ∃ gg, gg = Z0.heap.size := ⟨_, rfl⟩
    rw [← hgx]
    generalize hZ : World.alloc Z0 _ = Z1
    have hb2 : Below Z0.heap.size Z0 Z1 := by rw [← hZ]; exact (Below.refl _ _).alloc (Nat.le_refl _) _
    have RX : Hid (Z1.heap[gx]? = some (.cells #[nilS] 22 (0, 0))) := by rw [← hZ, hgx]; exact heap_alloc_new _ _
    clear hZ hgx
    replace R' : Hid (Z1.heap[gB]? = some (.cells #[v1, vw, .int .i64 (n : Int), .bool false] 35 (0, 0))) := (hb2.block _ (block_lt_of_row R'.out)).trans R'.out
    replace V' : Hid (Lists Z1 vw (List.replicate n nilS)) := hide (V'.out.kept (fun k hk => (hb2).block k (V'.out.lt hk)))
    replace L' : Hid (Lists Z1 v1 (List.replicate (n + 1) nilS)) := hide (L'.out.kept (fun k hk => (hb2).block k (L'.out.lt hk)))
    have CZ1 : Hid (Chg (fun k => k = gB ∨ vw.ownBlock = some k) W1 Z1) := CZ0.out.then hb2
    clear hb2 CZ0
    have hHeld := CZ1.out
    refine wpAnyH_ready (rs := [4]) (by kernel_rfl) (by simp) ?_
    refine AllReadyH.cons (o := { dst := some 18, op := Op.load 33 (Operand.tmp 17), type := 33, pos := "book.go:27", after := #[{ on := 3, ground := Ground.data }], guard := none }) rfl (fun K hK => ?_) AllReadyH.nil
    have c1 := (cells4 R'.out).2.1
    go_simp
    refine hK.out _ _ CZ1.out (fun hHeld => ?_)
    clear hK K c1
    try simp only [Act.put, List.setIfInBounds_toArray, List.set_cons_zero, List.set_cons_succ]
    refine wpAnyH_ready (rs := [8]) (by kernel_rfl) (by simp) ?_
    have hM2 : (List.replicate n nilS).length ≤ 1000000 := HM.out
    refine step_append (o := { dst := some 22, op := Op.call { callee := Callee.builtin Builtin.append, args := #[Operand.tmp 18, Operand.tmp 21], argTypes := #[33, 33] }, type := 33, pos := "book.go:27", after := #[{ on := 4, ground := Ground.data }, { on := 7, ground := Ground.data }, { on := 6, ground := Ground.chain }], guard := none }) rfl rfl _ _ 33 33 rfl _ _ rfl rfl (run_append_list _ vw nilS gx (List.replicate n nilS) 33 V'.out RX.out rfl hM2) AllReadyH.nil ?_
    rintro v2 Z2 ⟨hV, hg, ho⟩
    rw [rep_more] at hV
    have CZ2 := hide (CZ1.out.grown hg (fun k _ h => Or.inr h))
    refine ⟨CZ2.out, fun hHeld => ?_⟩
    try simp only [Act.put, List.setIfInBounds_toArray, List.set_cons_zero, List.set_cons_succ]
    have RB : Hid (Z2.heap[gB]? = some (.cells #[v1, vw, .int .i64 (n : Int), .bool false] 35 (0, 0))) := hide ((hg.block gB (block_lt_of_row R'.out) (fun e => by have := (HW.out gB e.symm).1; omega)).trans R'.out)
    have LB := hide (L'.out.kept (fun k hk => hg.block k (L'.out.lt hk) (fun e => (HSV.out k hk).2 e.symm)))
    have HV2 : Hid (∀ k, v2.ownBlock = some k → gB < k ∧ v1.ownBlock ≠ some k) := fun k hk => by
      rcases ho with h' | h'
      · rw [hk] at h'; exact ⟨(HW.out k h'.symm).1, fun e => (HSV.out k e).2 h'.symm⟩
      · rw [hk] at h'
        have hk2 := Option.some.inj h'
        exact ⟨by rw [hk2]; have := block_lt_of_row R'.out; omega, fun e => absurd (L'.out.lt e) (by omega)⟩
    have VB := hide hV
    obtain ⟨ao2, cc2, hv2⟩ := hV.shape
    rw [List.length_replicate] at hv2
    clear hg ho hV R' V' L' RX hM2
    subst hv2
    refine wpAnyH_take (i := 9) (oi := { dst := some 23, op := Op.nilCheck (Operand.tmp 14), type := 0, pos := "book.go:27", after := #[{ on := 0, ground := Ground.data }, { on := 0, ground := Ground.phase }, { on := 1, ground := Ground.phase }, { on := 2, ground := Ground.phase }, { on := 3, ground := Ground.phase }, { on := 4, ground := Ground.phase }, { on := 5, ground := Ground.phase }, { on := 6, ground := Ground.phase }, { on := 7, ground := Ground.phase }, { on := 8, ground := Ground.phase }], guard := none }) (v := ?_) rfl (by kernel_rfl) (by kernel_rfl) (by kernel_rfl) (fun _ _ _ h => h) (Or.inl ⟨by rfl, ?_⟩) (by assumption) ?_
    rotate_left
    · intro w hSw
      clear hSw
      go_simp
      all_goals with_reducible rfl
    simp only [Act.put, List.setIfInBounds_toArray, List.set_cons_zero, List.set_cons_succ]
    refine wpAnyH_take (i := 10) (oi := { dst := some 24, op := Op.fieldAddr 35 (Operand.tmp 23) 1, type := 0, pos := "book.go:27", after := #[{ on := 9, ground := Ground.data }, { on := 0, ground := Ground.phase }, { on := 1, ground := Ground.phase }, { on := 2, ground := Ground.phase }, { on := 3, ground := Ground.phase }, { on := 4, ground := Ground.phase }, { on := 5, ground := Ground.phase }, { on := 6, ground := Ground.phase }, { on := 7, ground := Ground.phase }, { on := 8, ground := Ground.phase }], guard := none }) (v := ?_) rfl (by kernel_rfl) (by kernel_rfl) (by kernel_rfl) (fun _ _ _ h => h) (Or.inl ⟨by rfl, ?_⟩) (by assumption) ?_
    rotate_left
    · intro w hSw
      clear hSw
      go_simp
      all_goals with_reducible rfl
    simp only [Act.put, List.setIfInBounds_toArray, List.set_cons_zero, List.set_cons_succ]
    refine wpAnyH_ready (rs := [11]) (by kernel_rfl) (by simp) ?_
    refine AllReadyH.cons (o := { dst := none, op := Op.store 33 (Operand.tmp 24) (Operand.tmp 22), type := 0, pos := "book.go:27", after := #[{ on := 10, ground := Ground.data }, { on := 8, ground := Ground.data }, { on := 8, ground := Ground.chain }, { on := 0, ground := Ground.phase }, { on := 1, ground := Ground.phase }, { on := 2, ground := Ground.phase }, { on := 3, ground := Ground.phase }, { on := 4, ground := Ground.phase }, { on := 5, ground := Ground.phase }, { on := 6, ground := Ground.phase }, { on := 7, ground := Ground.phase }, { on := 8, ground := Ground.phase }], guard := none }) rfl (fun K hK => ?_) AllReadyH.nil
    have c1 := (cells4 RB.out).2.1
    have f1 := frozen_of_row _ _ 1 _ _ RB.out
    go_simp
    refine hK.out _ _ (CZ2.out.setCell gB 1 _ (fun _ => Or.inl rfl)) (fun hHeld => ?_)
    clear hK K c1 f1
    try simp only [Act.put, List.setIfInBounds_toArray, List.set_cons_zero, List.set_cons_succ]
    refine wpAnyH_done (by kernel_rfl) ?_ _
    refine NoPanic.normal ?_
    clear hHeld
    go_wp2_with fail
    go_meet
    refine ⟨.slice ao2 (n + 1) cc2, ?_, LB.out.kept (fun k hk => heap_setCell_other _ _ _ _ (by have := HVL.out k hk; show k ≠ gB; omega)), VB.out.kept (fun k hk => heap_setCell_other _ _ _ _ (by have := (HV2.out k hk).1; show k ≠ gB; omega)), HV2.out, ?_⟩
    · rw [heap_setCell_same _ _ _ _ _ _ RB.out]; rfl
    · exact (B.out.trans (CZ2.out.below gB (by have := HL1.out; omega) (fun k hk e => by rcases e with e | e; omega; have := (HW.out k e).1; omega))).setCell (Nat.le_refl _) _
  case rest =>
  clear R L V B
  obtain ⟨v2, R, L, V, HS2, B⟩ := hcut
  have HR := hide R
  have HL3 := hide L
  have HV3 := hide V
  have HB := hide B
  have HS3 := hide HS2
  clear L V B HS2
  obtain ⟨c0, c1, c2, c3⟩ := cells4 R
  have f2 := frozen_of_row _ _ 2 _ _ R
  obtain ⟨ao2, cc2, hv2⟩ := HL3.out.shape
  rw [List.length_replicate] at hv2
  subst hv2
  clear R
  have q1 : IntKind.i64.wrap (IntKind.i64.wrap ((n : Int) + 0) + 1) = ((n + 1 : Nat) : Int) := by rw [IntKind.wrap_i64, IntKind.wrap_i64]; omega
  have q1b : IntKind.i64.wrap ((n : Int) + 0) = (n : Int) := by rw [IntKind.wrap_i64]; omega
  have q1c : IntKind.i64.wrap ((n : Int) + 1) = ((n + 1 : Nat) : Int) := by rw [IntKind.wrap_i64]; omega
  go_upto_region 3 with fail
  generalize hW3 : World.setCell wc ⟨gB, 2, none⟩ _ = W3
  have R3 : W3.heap[gB]? = some (.cells #[.slice ao2 (n + 1) cc2, v2, .int .i64 ((n + 1 : Nat) : Int), .bool false] 35 (0, 0)) := by
    rw [← hW3, heap_setCell_same _ _ _ _ _ _ HR.out]
    rfl
  have L3 : Hid (Lists W3 (.slice ao2 (n + 1) cc2) (List.replicate (n + 1) nilS)) := by
    rw [← hW3]
    exact HL3.out.kept (fun k hk => heap_setCell_other _ _ _ _ (by have := HVL.out k hk; show k ≠ gB; omega))
  have V3 : Hid (Lists W3 v2 (List.replicate (n + 1) nilS)) := by
    rw [← hW3]
    exact HV3.out.kept (fun k hk => heap_setCell_other _ _ _ _ (by have := (HS3.out k hk).1; show k ≠ gB; omega))
  have B3 : Hid (Below gB w W3) := by rw [← hW3]; exact HB.out.setCell (Nat.le_refl _) _
  clear hW3 c0 c1 c2 c3 f2
  obtain ⟨c0, c1, c2, c3⟩ := cells4 R3
  have HR3 := hide R3
  clear R3
  go_wp2_with fail
  have CL := hide (show ∃ m : Nat, m = n + 1 from ⟨_, rfl⟩)
  obtain ⟨m, hm⟩ := CL.out
  rw [← hm] at c0 c2 HR3 L3 V3 HVL HS3
  have HMM := hide hm
  have hm11 : m ≤ 11 := by omega
  clear hm CL q1 q1b q1c HV1 HSV
  by_cases h1 : 1 < m
  · have p1 : decide ((1 : Int) < (m : Int)) = true := by simp; omega
    have p2 : decide ((1000000 : Int) < (m : Int)) = false := by simp; omega
    have p3 : decide ((4000 : Int) < (m : Int)) = false := by simp; omega
    clear hm11
    refine wp_loop_rounds 1 ?_
    rw [rounds_succ]
    go_wp2_with fail
    exact bodyPost_end (results_none rfl _ _ _) rfl ⟨rfl, ⟨_, _, by rw [← HMM.out]; exact ⟨HR3.out, L3.out, V3.out, HVL.out, HS3.out⟩⟩, B3.out⟩
  · have p1 : decide ((1 : Int) < (m : Int)) = false := by simp; omega
    clear hm11
    refine wp_loop_rounds 1 ?_
    rw [rounds_succ]
    go_wp2_with fail
    exact bodyPost_end (results_none rfl _ _ _) rfl ⟨rfl, ⟨_, _, by rw [← HMM.out]; exact ⟨HR3.out, L3.out, V3.out, HVL.out, HS3.out⟩⟩, B3.out⟩
end Go.Proofs.YtkdpdkfhhpekaaaDoor
