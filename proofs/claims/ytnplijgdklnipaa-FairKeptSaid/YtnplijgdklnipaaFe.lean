/- A lane has its turn. -/
import Derived.Test.YtnplijgdklnipaaFd
import Derived.Deep.CutBlock
namespace Go.Proofs.Ytnplijgdklnipaa
open Go.RowKit
theorem Still.blw {w W : World} (h : Still w W) (B : Nat) : Below B w W := ⟨h.2.1, h.2.2.1, h.2.2.2, by rw [h.1]; exact Nat.le_refl _, fun _ _ => by rw [h.1]⟩
/-- A variable of three cells. -/
structure Cel (w : World) (g : Nat) (t : TypeId) (x y z : Value) : Prop where
  row : w.heap[g]? = some (.cells #[x, y, z] t (0, 0))
section
variable {w W : World} {g : Nat} {t : TypeId} {x y z : Value}
theorem Cel.lt (h : Cel w g t x y z) : g < w.heap.size := block_lt_of_row h.row
theorem Cel.c (h : Cel w g t x y z) : w.cell? ⟨g, 0, none⟩ = some x ∧ w.cell? ⟨g, 1, none⟩ = some y ∧ w.cell? ⟨g, 2, none⟩ = some z := cells3 h.row
theorem Cel.fz (h : Cel w g t x y z) (j : Nat) : w.frozen? ⟨g, j, none⟩ = false := frozen_of_row w g j _ _ h.row
theorem Cel.below (h : Cel w g t x y z) (hb : Below w.heap.size w W) : Cel W g t x y z := ⟨(hb.block g h.lt).trans h.row⟩
theorem Cel.up {B : Nat} (h : Cel w g t x y z) (hb : Below B w W) (hg : g < B) : Cel W g t x y z := ⟨(hb.block g hg).trans h.row⟩
theorem Cel.set0 (h : Cel w g t x y z) (u : Value) : Cel (w.setCell ⟨g, 0, none⟩ u) g t u y z := ⟨by rw [heap_setCell_same w g 0 _ t _ h.row]; rfl⟩
theorem Cel.set1 (h : Cel w g t x y z) (u : Value) : Cel (w.setCell ⟨g, 1, none⟩ u) g t x u z := ⟨by rw [heap_setCell_same w g 1 _ t _ h.row]; rfl⟩
theorem Cel.set2 (h : Cel w g t x y z) (u : Value) : Cel (w.setCell ⟨g, 2, none⟩ u) g t x y u := ⟨by rw [heap_setCell_same w g 2 _ t _ h.row]; rfl⟩
theorem Cel.new (w : World) (t : TypeId) (x y z : Value) : Cel (w.alloc (.cells #[x, y, z] t)) w.heap.size t x y z := ⟨heap_alloc_new _ _⟩
end
theorem Cel.load28 {w : World} {g : Nat} {x y z : Value} (h : Cel w g 28 x y z) : (Instr.loadAt 28 (.pointer (some ⟨g, 0, none⟩))).run Try.prog w = .ok (.agg #[x, y, z]) w := by
  simp only [Instr.loadAt, Instr.sureAddr, Sem.run_bind, Sem.run_pure, Result.andThen_ok, var28 h.row]
theorem Cel.store28 {w : World} {g : Nat} {x y z : Value} (h : Cel w g 28 x y z) (a b c : Int) :
    ∃ w', (Instr.storeAt 28 (.pointer (some ⟨g, 0, none⟩)) (.agg #[.int .i64 a, .int .i64 b, .int .i64 c])).run Try.prog w = .ok () w' ∧ Cel w' g 28 (.int .i64 a) (.int .i64 b) (.int .i64 c) ∧ Chg (fun k => k = g) w w' ∧ w'.heap.size = w.heap.size := by
  have hr := run_storeVar_row (P := Try.prog) w g 28 28 #[x, y, z] #[.int .i64 a, .int .i64 b, .int .i64 c] h.row size28 rfl (by simp [Value.oneCell'])
  refine ⟨w.setRow g #[.int .i64 a, .int .i64 b, .int .i64 c], ?_, ⟨setRow_heap _ _ _ _ _ _ h.row⟩, ⟨rfl, rfl, rfl, by simp, fun k _ hk => setRow_other _ _ _ _ hk⟩, by simp⟩
  simp only [Instr.storeAt, Instr.sureAddr, Sem.run_bind, Sem.run_pure, Result.andThen_ok, hr]
theorem Cel.load39 {w : World} {g : Nat} {x y z : Value} (h : Cel w g 39 x y z) : (Instr.loadAt 39 (.pointer (some ⟨g, 0, none⟩))).run Try.prog w = .ok (.agg #[x, y, z]) w := by
  simp only [Instr.loadAt, Instr.sureAddr, Sem.run_bind, Sem.run_pure, Result.andThen_ok, var39 h.row]
theorem Cel.store39 {w : World} {g : Nat} {x y z : Value} (h : Cel w g 39 x y z) (a b c : Int) :
    ∃ w', (Instr.storeAt 39 (.pointer (some ⟨g, 0, none⟩)) (.agg #[.int .i64 a, .int .i64 b, .int .i64 c])).run Try.prog w = .ok () w' ∧ Cel w' g 39 (.int .i64 a) (.int .i64 b) (.int .i64 c) ∧ Chg (fun k => k = g) w w' ∧ w'.heap.size = w.heap.size := by
  have hr := run_storeVar_row (P := Try.prog) w g 39 39 #[x, y, z] #[.int .i64 a, .int .i64 b, .int .i64 c] h.row size39 rfl (by simp [Value.oneCell'])
  refine ⟨w.setRow g #[.int .i64 a, .int .i64 b, .int .i64 c], ?_, ⟨setRow_heap _ _ _ _ _ _ h.row⟩, ⟨rfl, rfl, rfl, by simp, fun k _ hk => setRow_other _ _ _ _ hk⟩, by simp⟩
  simp only [Instr.storeAt, Instr.sureAddr, Sem.run_bind, Sem.run_pure, Result.andThen_ok, hr]
theorem Cel.load23 {w : World} {g : Nat} {x y z : Value} (h : Cel w g 23 x y z) : (Instr.loadAt 23 (.pointer (some ⟨g, 0, none⟩))).run Try.prog w = .ok (.agg #[x, y, z]) w := by
  simp only [Instr.loadAt, Instr.sureAddr, Sem.run_bind, Sem.run_pure, Result.andThen_ok, var23 h.row]
theorem Cel.store23 {w : World} {g : Nat} {x y z : Value} (h : Cel w g 23 x y z) (a b c : Int) :
    ∃ w', (Instr.storeAt 23 (.pointer (some ⟨g, 0, none⟩)) (.agg #[.int .i64 a, .int .i64 b, .int .i64 c])).run Try.prog w = .ok () w' ∧ Cel w' g 23 (.int .i64 a) (.int .i64 b) (.int .i64 c) ∧ Chg (fun k => k = g) w w' ∧ w'.heap.size = w.heap.size := by
  have hr := run_storeVar_row (P := Try.prog) w g 23 23 #[x, y, z] #[.int .i64 a, .int .i64 b, .int .i64 c] h.row size23 rfl (by simp [Value.oneCell'])
  refine ⟨w.setRow g #[.int .i64 a, .int .i64 b, .int .i64 c], ?_, ⟨setRow_heap _ _ _ _ _ _ h.row⟩, ⟨rfl, rfl, rfl, by simp, fun k _ hk => setRow_other _ _ _ _ hk⟩, by simp⟩
  simp only [Instr.storeAt, Instr.sureAddr, Sem.run_bind, Sem.run_pure, Result.andThen_ok, hr]
theorem Cel.load33 {w : World} {g : Nat} {x y z : Value} (h : Cel w g 33 x y z) : (Instr.loadAt 33 (.pointer (some ⟨g, 0, none⟩))).run Try.prog w = .ok (.agg #[x, y, z]) w := by
  simp only [Instr.loadAt, Instr.sureAddr, Sem.run_bind, Sem.run_pure, Result.andThen_ok, var33 h.row]
theorem Cel.store33 {w : World} {g : Nat} {x y z : Value} (h : Cel w g 33 x y z) (a b c : Int) :
    ∃ w', (Instr.storeAt 33 (.pointer (some ⟨g, 0, none⟩)) (.agg #[.int .i64 a, .int .i64 b, .int .i64 c])).run Try.prog w = .ok () w' ∧ Cel w' g 33 (.int .i64 a) (.int .i64 b) (.int .i64 c) ∧ Chg (fun k => k = g) w w' ∧ w'.heap.size = w.heap.size := by
  have hr := run_storeVar_row (P := Try.prog) w g 33 33 #[x, y, z] #[.int .i64 a, .int .i64 b, .int .i64 c] h.row size33 rfl (by simp [Value.oneCell'])
  refine ⟨w.setRow g #[.int .i64 a, .int .i64 b, .int .i64 c], ?_, ⟨setRow_heap _ _ _ _ _ _ h.row⟩, ⟨rfl, rfl, rfl, by simp, fun k _ hk => setRow_other _ _ _ _ hk⟩, by simp⟩
  simp only [Instr.storeAt, Instr.sureAddr, Sem.run_bind, Sem.run_pure, Result.andThen_ok, hr]
/-- The lane in its own variable, and the answer's. -/
structure Sv (w W : World) (x y z : Value) : Prop where
  a : Cel W w.heap.size 28 x y z
  b : Cel W (w.heap.size + 1) 28 (.int .i64 0) (.int .i64 0) (.int .i64 0)
  u : Below w.heap.size w W
theorem Sv.drew {w W : World} {x y z : Value} (h : Sv w W x y z) : Sv w W.drew x y z := ⟨⟨h.a.row⟩, ⟨h.b.row⟩, h.u.trans ((Below.refl _ _).drew)⟩
theorem Sv.set1 {w W : World} {x y z : Value} (h : Sv w W x y z) (v : Value) : Sv w (W.setCell ⟨w.heap.size, 1, none⟩ v) x v z :=
  ⟨h.a.set1 v, ⟨(heap_setCell_other _ _ _ _ (show w.heap.size + 1 ≠ w.heap.size by omega)).trans h.b.row⟩, h.u.setCell (p := ⟨w.heap.size, 1, none⟩) (Nat.le_refl _) v⟩
theorem Sv.set2 {w W : World} {x y z : Value} (h : Sv w W x y z) (v : Value) : Sv w (W.setCell ⟨w.heap.size, 2, none⟩ v) x y v :=
  ⟨h.a.set2 v, ⟨(heap_setCell_other _ _ _ _ (show w.heap.size + 1 ≠ w.heap.size by omega)).trans h.b.row⟩, h.u.setCell (p := ⟨w.heap.size, 2, none⟩) (Nat.le_refl _) v⟩
set_option maxHeartbeats 3200000 in
set_option maxRecDepth 100000 in
theorem serve_any (x : S.Ln) (q : Int) (hm : S.Mild x) (w : World) :
   Calls Try.prog 24 #[.agg (encL x).toArray, .int .i64 q] w fun e w' => e = .returned (.tuple #[.agg (encL (S.one x q)).toArray, .int .i64 (S.tk x q)]) ∧ Below w.heap.size w w' := by
  obtain ⟨xw, xb, xd⟩ := x
  obtain ⟨hm1, ⟨hb1, hb2⟩, ⟨hd1, hd2⟩⟩ := hm
  replace hb1 : -100000000 ≤ xb := hb1
  replace hb2 : xb ≤ 100000000 := hb2
  replace hd1 : -100000000 ≤ xd := hd1
  replace hd2 : xd ≤ 100000000 := hd2
  have hs := S.sh_bounds xw q
  obtain ⟨s, es⟩ : ∃ s, s = S.sh xw q := ⟨_, rfl⟩
  obtain ⟨t, et⟩ : ∃ t, t = S.tk ⟨xw, xb, xd⟩ q := ⟨_, rfl⟩
  have et2 : t = max (min (xd + s) xb) 0 := by rw [et, es]; rfl
  have HT := hide et2
  have HO : Hid (S.one ⟨xw, xb, xd⟩ q = ⟨xw, xb - t, if xb - t = 0 then 0 else xd + s - t⟩) := by show S.one _ _ = _; rw [et, es]; rfl
  rw [← es] at hs
  have Q1 : Hid (IntKind.i64.wrap (xd + s - t) = xd + s - t) := wrap_small (by omega) (by omega)
  have Q2 : Hid (IntKind.i64.wrap (xb - t) = xb - t) := wrap_small (by omega) (by omega)
  have ES := hide es
  have ET := hide et
  have G1 : Hid (-100000000 ≤ xd ∧ xd ≤ 100000000 ∧ 1 ≤ s ∧ s ≤ 8) := ⟨hd1, hd2, hs.1, hs.2⟩
  show Calls Try.prog 24 #[.agg #[.int .i64 xw, .int .i64 xb, .int .i64 xd], .int .i64 q] w _
  rw [← et]
  clear es et et2 hm1 hs hb1 hb2 hd1 hd2
  go_enter Try.func24, Try.ntmps24
  go_upto_region 1 with fail
  generalize hA : World.alloc _ _ = W0
  have S0 : Hid (Sv w W0 (.int .i64 xw) (.int .i64 xb) (.int .i64 xd)) := by
    show Sv w W0 _ _ _
    rw [← hA]
    exact ⟨(Cel.new _ _ _ _ _).below (one_below _ _), ⟨two_top _ _ _⟩, two_below _ _ _⟩
  clear hA
  go_cut [] from 7 (fun wx => Hid (Sv w wx (.int .i64 xw) (.int .i64 xb) (.int .i64 (xd + s))))
  case first =>
    refine wp_region_noPanic ?_
    refine wp_region_held_drew (S := (fun W => ∃ z, Sv w W (.int .i64 xw) (.int .i64 xb) z)) follows ⟨_, S0.out.drew⟩ (fun hHeld => ?_)
    clear hHeld
    have SZ := hide S0.out.drew
    have hHeld : ∃ z, Sv w W0.drew (.int .i64 xw) (.int .i64 xb) z := ⟨_, SZ.out⟩
    generalize W0.drew = Z0 at SZ hHeld ⊢
    clear S0
    refine wpAnyH_take (i := 0) (oi := { dst := some 7, op := Op.fieldAddr 28 (Operand.tmp 2) 2, type := 0, pos := "fair.go:56", after := #[], guard := none }) (v := ?_) rfl (by kernel_rfl) (by kernel_rfl) (by kernel_rfl) (fun _ _ _ h => h) (Or.inl ⟨by rfl, ?_⟩) (by assumption) ?_
    rotate_left
    · intro w hSw
      clear hSw
      go_simp
      all_goals with_reducible rfl
    simp only [Act.put, List.setIfInBounds_toArray, List.set_cons_zero, List.set_cons_succ]
    refine wpAnyH_take (i := 2) (oi := { dst := some 9, op := Op.fieldAddr 28 (Operand.tmp 2) 0, type := 0, pos := "fair.go:56", after := #[], guard := none }) (v := ?_) rfl (by kernel_rfl) (by kernel_rfl) (by kernel_rfl) (fun _ _ _ h => h) (Or.inl ⟨by rfl, ?_⟩) (by assumption) ?_
    rotate_left
    · intro w hSw
      clear hSw
      go_simp
      all_goals with_reducible rfl
    simp only [Act.put, List.setIfInBounds_toArray, List.set_cons_zero, List.set_cons_succ]
    refine wpAnyH_take (i := 3) (oi := { dst := some 10, op := Op.load 3 (Operand.tmp 9), type := 3, pos := "fair.go:56", after := #[{ on := 2, ground := Ground.data }], guard := none }) (v := ?_) rfl (by kernel_rfl) (by kernel_rfl) (by kernel_rfl) (fun _ _ _ h => h) (Or.inl ⟨by rfl, ?_⟩) (by assumption) ?_
    rotate_left
    · intro w hSw
      obtain ⟨z, hz⟩ := id hSw
      have c0 := hz.a.c.1
      clear hz
      clear hSw
      go_simp
      all_goals with_reducible rfl
    simp only [Act.put, List.setIfInBounds_toArray, List.set_cons_zero, List.set_cons_succ]
    refine wpAnyH_take (i := 4) (oi := { dst := some 11, op := Op.move (Operand.tmp 1), type := 3, pos := "fair.go:56", after := #[], guard := none }) (v := ?_) rfl (by kernel_rfl) (by kernel_rfl) (by kernel_rfl) (fun _ _ _ h => h) (Or.inl ⟨by rfl, ?_⟩) (by assumption) ?_
    rotate_left
    · intro w hSw
      clear hSw
      go_simp
      all_goals with_reducible rfl
    simp only [Act.put, List.setIfInBounds_toArray, List.set_cons_zero, List.set_cons_succ]
    refine wpAnyH_ready (rs := [1, 5]) (by kernel_rfl) (by simp) ?_
    refine AllReadyH.cons (o := { dst := some 8, op := Op.load 3 (Operand.tmp 7), type := 3, pos := "fair.go:56", after := #[{ on := 0, ground := Ground.data }], guard := none }) rfl (fun K hK => ?_) ?_
    · have c2 := SZ.out.a.c.2.2
      go_simp
      refine hK.out _ _ hHeld (fun hHeld => ?_)
      clear hK K c2
      try simp only [Act.put, List.setIfInBounds_toArray, List.set_cons_zero, List.set_cons_succ]
      refine wpAnyH_ready (rs := [5]) (by kernel_rfl) (by simp) ?_
      refine AllReadyH.cons (o := { dst := some 12, op := Op.call { callee := Callee.value (Operand.func 25), args := #[Operand.tmp 10, Operand.tmp 11], argTypes := #[3, 3] }, type := 3, pos := "fair.go:56", after := #[{ on := 3, ground := Ground.data }, { on := 4, ground := Ground.data }], guard := none }) rfl (fun K hK => ?_) AllReadyH.nil
      go_simp
      refine (share_any xw q Z0).mono ?_
      rintro e Z1 ⟨rfl, rfl⟩
      rw [← ES.out]
      refine hK.out _ _ hHeld (fun hHeld => ?_)
      clear hK K
      try simp only [Act.put, List.setIfInBounds_toArray, List.set_cons_zero, List.set_cons_succ]
      refine wpAnyH_ready (rs := [6]) (by kernel_rfl) (by simp) ?_
      refine AllReadyH.cons (o := { dst := some 13, op := Op.call { callee := Callee.value (Operand.func 30), args := #[Operand.tmp 8, Operand.tmp 12], argTypes := #[3, 3] }, type := 3, pos := "fair.go:56", after := #[{ on := 1, ground := Ground.data }, { on := 5, ground := Ground.data }, { on := 5, ground := Ground.chain }], guard := none }) rfl (fun K hK => ?_) AllReadyH.nil
      go_simp
      refine (grown_any xd s G1.out.1 G1.out.2.1 G1.out.2.2.1 G1.out.2.2.2 Z0).mono ?_
      rintro e Z1 ⟨rfl, rfl⟩
      refine hK.out _ _ hHeld (fun hHeld => ?_)
      clear hK K
      try simp only [Act.put, List.setIfInBounds_toArray, List.set_cons_zero, List.set_cons_succ]
      refine wpAnyH_take (i := 7) (oi := { dst := some 14, op := Op.fieldAddr 28 (Operand.tmp 2) 2, type := 0, pos := "fair.go:56", after := #[{ on := 0, ground := Ground.phase }, { on := 1, ground := Ground.phase }, { on := 2, ground := Ground.phase }, { on := 3, ground := Ground.phase }, { on := 4, ground := Ground.phase }, { on := 5, ground := Ground.phase }, { on := 6, ground := Ground.phase }], guard := none }) (v := ?_) rfl (by kernel_rfl) (by kernel_rfl) (by kernel_rfl) (fun _ _ _ h => h) (Or.inl ⟨by rfl, ?_⟩) (by assumption) ?_
      rotate_left
      · intro w hSw
        clear hSw
        go_simp
        all_goals with_reducible rfl
      simp only [Act.put, List.setIfInBounds_toArray, List.set_cons_zero, List.set_cons_succ]
      refine wpAnyH_ready (rs := [8]) (by kernel_rfl) (by simp) ?_
      refine AllReadyH.cons (o := { dst := none, op := Op.store 3 (Operand.tmp 14) (Operand.tmp 13), type := 0, pos := "fair.go:56", after := #[{ on := 7, ground := Ground.data }, { on := 6, ground := Ground.data }, { on := 6, ground := Ground.chain }, { on := 0, ground := Ground.phase }, { on := 1, ground := Ground.phase }, { on := 2, ground := Ground.phase }, { on := 3, ground := Ground.phase }, { on := 4, ground := Ground.phase }, { on := 5, ground := Ground.phase }, { on := 6, ground := Ground.phase }], guard := none }) rfl (fun K hK => ?_) AllReadyH.nil
      have c2 := SZ.out.a.c.2.2
      have f2 := SZ.out.a.fz 2
      go_simp
      have S1 := hide (SZ.out.set2 (.int .i64 (xd + s)))
      refine hK.out _ _ ⟨_, S1.out⟩ (fun hHeld => ?_)
      clear hK K c2 f2
      try simp only [Act.put, List.setIfInBounds_toArray, List.set_cons_zero, List.set_cons_succ]
      refine wpAnyH_done (by kernel_rfl) ?_ _
      refine NoPanic.normal ?_
      generalize World.setCell Z0 _ _ = W1 at S1 ⊢
      clear SZ hHeld
      go_wp2_with fail
      go_meet
      exact S1
    · refine AllReadyH.cons (o := { dst := some 12, op := Op.call { callee := Callee.value (Operand.func 25), args := #[Operand.tmp 10, Operand.tmp 11], argTypes := #[3, 3] }, type := 3, pos := "fair.go:56", after := #[{ on := 3, ground := Ground.data }, { on := 4, ground := Ground.data }], guard := none }) rfl (fun K hK => ?_) AllReadyH.nil
      go_simp
      refine (share_any xw q Z0).mono ?_
      rintro e Z1 ⟨rfl, rfl⟩
      rw [← ES.out]
      refine hK.out _ _ hHeld (fun hHeld => ?_)
      clear hK K
      try simp only [Act.put, List.setIfInBounds_toArray, List.set_cons_zero, List.set_cons_succ]
      refine wpAnyH_ready (rs := [1]) (by kernel_rfl) (by simp) ?_
      refine AllReadyH.cons (o := { dst := some 8, op := Op.load 3 (Operand.tmp 7), type := 3, pos := "fair.go:56", after := #[{ on := 0, ground := Ground.data }], guard := none }) rfl (fun K hK => ?_) AllReadyH.nil
      have c2 := SZ.out.a.c.2.2
      go_simp
      refine hK.out _ _ hHeld (fun hHeld => ?_)
      clear hK K c2
      try simp only [Act.put, List.setIfInBounds_toArray, List.set_cons_zero, List.set_cons_succ]
      refine wpAnyH_ready (rs := [6]) (by kernel_rfl) (by simp) ?_
      refine AllReadyH.cons (o := { dst := some 13, op := Op.call { callee := Callee.value (Operand.func 30), args := #[Operand.tmp 8, Operand.tmp 12], argTypes := #[3, 3] }, type := 3, pos := "fair.go:56", after := #[{ on := 1, ground := Ground.data }, { on := 5, ground := Ground.data }, { on := 5, ground := Ground.chain }], guard := none }) rfl (fun K hK => ?_) AllReadyH.nil
      go_simp
      refine (grown_any xd s G1.out.1 G1.out.2.1 G1.out.2.2.1 G1.out.2.2.2 Z0).mono ?_
      rintro e Z1 ⟨rfl, rfl⟩
      refine hK.out _ _ hHeld (fun hHeld => ?_)
      clear hK K
      try simp only [Act.put, List.setIfInBounds_toArray, List.set_cons_zero, List.set_cons_succ]
      refine wpAnyH_take (i := 7) (oi := { dst := some 14, op := Op.fieldAddr 28 (Operand.tmp 2) 2, type := 0, pos := "fair.go:56", after := #[{ on := 0, ground := Ground.phase }, { on := 1, ground := Ground.phase }, { on := 2, ground := Ground.phase }, { on := 3, ground := Ground.phase }, { on := 4, ground := Ground.phase }, { on := 5, ground := Ground.phase }, { on := 6, ground := Ground.phase }], guard := none }) (v := ?_) rfl (by kernel_rfl) (by kernel_rfl) (by kernel_rfl) (fun _ _ _ h => h) (Or.inl ⟨by rfl, ?_⟩) (by assumption) ?_
      rotate_left
      · intro w hSw
        clear hSw
        go_simp
        all_goals with_reducible rfl
      simp only [Act.put, List.setIfInBounds_toArray, List.set_cons_zero, List.set_cons_succ]
      refine wpAnyH_ready (rs := [8]) (by kernel_rfl) (by simp) ?_
      refine AllReadyH.cons (o := { dst := none, op := Op.store 3 (Operand.tmp 14) (Operand.tmp 13), type := 0, pos := "fair.go:56", after := #[{ on := 7, ground := Ground.data }, { on := 6, ground := Ground.data }, { on := 6, ground := Ground.chain }, { on := 0, ground := Ground.phase }, { on := 1, ground := Ground.phase }, { on := 2, ground := Ground.phase }, { on := 3, ground := Ground.phase }, { on := 4, ground := Ground.phase }, { on := 5, ground := Ground.phase }, { on := 6, ground := Ground.phase }], guard := none }) rfl (fun K hK => ?_) AllReadyH.nil
      have c2 := SZ.out.a.c.2.2
      have f2 := SZ.out.a.fz 2
      go_simp
      have S1 := hide (SZ.out.set2 (.int .i64 (xd + s)))
      refine hK.out _ _ ⟨_, S1.out⟩ (fun hHeld => ?_)
      clear hK K c2 f2
      try simp only [Act.put, List.setIfInBounds_toArray, List.set_cons_zero, List.set_cons_succ]
      refine wpAnyH_done (by kernel_rfl) ?_ _
      refine NoPanic.normal ?_
      generalize World.setCell Z0 _ _ = W1 at S1 ⊢
      clear SZ hHeld
      go_wp2_with fail
      go_meet
      exact S1
  case rest =>
    clear S0
    have S1 : Hid (Sv w wc (.int .i64 xw) (.int .i64 xb) (.int .i64 (xd + s))) := hcut
    clear hcut
    have c1 := S1.out.a.c.2.1
    have c2 := S1.out.a.c.2.2
    go_upto_region 2 with fail
    obtain ⟨wo, rfl⟩ : ∃ wo : World, wo = wc := ⟨_, rfl⟩
    go_cut [6] from 7 (fun s6 wx => s6 = .int .i64 t ∧ wx = wo)
    case first =>
      obtain ⟨g1, g2, g3, g4⟩ := G1.out
      have hT := HT.out
      go_wp2_with fail
      all_goals (
        go_meet
        exact ⟨congrArg (fun r : Int => Value.int .i64 r) (by omega), rfl⟩)
    case rest =>
      obtain ⟨rfl, rfl⟩ := hcut
      have f1 := S1.out.a.fz 1
      have f2 := S1.out.a.fz 2
      have q1 := Q1.out
      have q2 := Q2.out
      go_upto_region 4 with fail
      have S2 := hide (S1.out.set2 (.int .i64 (xd + s - t)))
      generalize World.setCell wc _ _ = W2 at S2 ⊢
      clear c1 c2 f1 f2 S1
      have c1 := S2.out.a.c.2.1
      have f1 := S2.out.a.fz 1
      go_upto_region 5 with fail
      have S3 := hide (S2.out.set1 (.int .i64 (xb - t)))
      generalize World.setCell W2 _ _ = W3 at S3 ⊢
      clear c1 f1 S2
      have c1 := S3.out.a.c.2.1
      by_cases h0 : xb - t = 0
      · have HE : Hid (S.one ⟨xw, xb, xd⟩ q = ⟨xw, 0, 0⟩) := by show S.one _ _ = _; rw [HO.out, if_pos h0, h0]
        have eb : (xb - t == 0) = true := by simp [h0]
        have f2 := S3.out.a.fz 2
        have c2 := S3.out.a.c.2.2
        go_upto_region 7 with fail
        have S4 := hide (S3.out.set2 (.int .i64 0))
        generalize World.setCell W3 _ _ = W4 at S4 ⊢
        clear c1 c2 f2 S3
        obtain ⟨c0, c1, c2⟩ := S4.out.a.c
        obtain ⟨d0, d1, d2⟩ := S4.out.b.c
        have e0 := S4.out.b.fz 0
        have e1 := S4.out.b.fz 1
        have e2 := S4.out.b.fz 2
        have K5 := hide (((S4.out.b.set0 (.int .i64 xw)).set1 (.int .i64 0)).set2 (.int .i64 0))
        have B5 := hide (((S4.out.u.setCell (p := ⟨w.heap.size + 1, 0, none⟩) (by simp) (.int .i64 xw)).setCell (p := ⟨w.heap.size + 1, 1, none⟩) (by simp) (.int .i64 0)).setCell (p := ⟨w.heap.size + 1, 2, none⟩) (by simp) (.int .i64 0))
        go_wp2
        refine bodyPost_ret (results_rt Try.results24 _ _ (w.heap.size + 1) _ rfl (var28 K5.out.row)) rfl ?_
        exact ⟨by rw [HE.out]; rfl, B5.out⟩
      · have HE : Hid (S.one ⟨xw, xb, xd⟩ q = ⟨xw, xb - t, xd + s - t⟩) := by show S.one _ _ = _; rw [HO.out, if_neg h0]
        have eb : (xb - t == 0) = false := by simp [h0]
        go_upto_region 7 with fail
        clear c1
        obtain ⟨c0, c1, c2⟩ := S3.out.a.c
        obtain ⟨d0, d1, d2⟩ := S3.out.b.c
        have e0 := S3.out.b.fz 0
        have e1 := S3.out.b.fz 1
        have e2 := S3.out.b.fz 2
        have K5 := hide (((S3.out.b.set0 (.int .i64 xw)).set1 (.int .i64 (xb - t))).set2 (.int .i64 (xd + s - t)))
        have B5 := hide (((S3.out.u.setCell (p := ⟨w.heap.size + 1, 0, none⟩) (by simp) (.int .i64 xw)).setCell (p := ⟨w.heap.size + 1, 1, none⟩) (by simp) (.int .i64 (xb - t))).setCell (p := ⟨w.heap.size + 1, 2, none⟩) (by simp) (.int .i64 (xd + s - t)))
        go_wp2
        refine bodyPost_ret (results_rt Try.results24 _ _ (w.heap.size + 1) _ rfl (var28 K5.out.row)) rfl ?_
        exact ⟨by rw [HE.out]; rfl, B5.out⟩
end Go.Proofs.Ytnplijgdklnipaa
