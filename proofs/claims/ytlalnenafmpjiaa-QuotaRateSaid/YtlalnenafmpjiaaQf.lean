/- What is taken over any ticks is no more than the burst and the rate of each tick. -/
import Derived.Test.YtlalnenafmpjiaaQb
namespace Go.Proofs.Ytlalnenafmpjiaa
open Go.RowKit
/-- Of the blocks that were there only those of p may have changed. -/
structure Chg (p : Nat → Prop) (w W : World) : Prop where
  os : W.os = w.os
  tape : W.tape = w.tape
  output : W.output = w.output
  size : w.heap.size ≤ W.heap.size
  block : ∀ k, k < w.heap.size → ¬ p k → W.heap[k]? = w.heap[k]?
theorem Chg.refl (p : Nat → Prop) (w : World) : Chg p w w := ⟨rfl, rfl, rfl, Nat.le_refl _, fun _ _ _ => rfl⟩
theorem Chg.trans {p q : Nat → Prop} {a b c : World} (h : Chg p a b) (k : Chg q b c) (hq : ∀ j, j < a.heap.size → q j → p j) : Chg p a c :=
  ⟨k.os.trans h.os, k.tape.trans h.tape, k.output.trans h.output, Nat.le_trans h.size k.size, fun j hj hp => (k.block j (Nat.lt_of_lt_of_le hj h.size) (fun e => hp (hq j hj e))).trans (h.block j hj hp)⟩
theorem Chg.drew {p : Nat → Prop} {w W : World} (h : Chg p w W) : Chg p w W.drew := ⟨h.os, h.tape, h.output, h.size, h.block⟩
theorem Chg.drewN {p : Nat → Prop} {w W : World} (n : Nat) (h : Chg p w W) : Chg p w (W.drewN n) := ⟨h.os, h.tape, h.output, h.size, h.block⟩
theorem Chg.alloc {p : Nat → Prop} {w W : World} (h : Chg p w W) (o : Obj) : Chg p w (W.alloc o) :=
  ⟨h.os, h.tape, h.output, Nat.le_trans h.size (by simp), fun k hk hp => (heap_alloc_old W o (Nat.lt_of_lt_of_le hk h.size)).trans (h.block k hk hp)⟩
theorem Chg.setCell {p : Nat → Prop} {w W : World} (h : Chg p w W) (g i : Nat) (v : Value) (hg : g < w.heap.size → p g) : Chg p w (W.setCell ⟨g, i, none⟩ v) :=
  have hb := (Below.refl 0 W).setCell (p := ⟨g, i, none⟩) (Nat.zero_le _) v
  ⟨hb.os.trans h.os, hb.tape.trans h.tape, hb.output.trans h.output, Nat.le_trans h.size hb.size, fun k hk hp => (heap_setCell_other W ⟨g, i, none⟩ k v (fun e => hp (by have e' : k = g := e; rw [e'] at hk ⊢; exact hg hk))).trans (h.block k hk hp)⟩
theorem Chg.grown {p : Nat → Prop} {w W W' : World} {row : Option Nat} (h : Chg p w W) (hg : W.grownBy W' row) (hrow : ∀ k, k < w.heap.size → row = some k → p k) : Chg p w W' :=
  ⟨hg.os.trans h.os, hg.tape.trans h.tape, hg.output.trans h.output, Nat.le_trans h.size hg.size, fun k hk hp => (hg.block k (Nat.lt_of_lt_of_le hk h.size) (fun e => hp (hrow k hk e.symm))).trans (h.block k hk hp)⟩
theorem Chg.mono {p q : Nat → Prop} {w W : World} (h : Chg p w W) (hq : ∀ k, k < w.heap.size → p k → q k) : Chg q w W := ⟨h.os, h.tape, h.output, h.size, fun k hk hp => h.block k hk (fun e => hp (hq k hk e))⟩
theorem Chg.below {p : Nat → Prop} {w W : World} (h : Chg p w W) (B : Nat) (hB : B ≤ w.heap.size) (hp : ∀ k, k < B → ¬ p k) : Below B w W := ⟨h.os, h.tape, h.output, h.size, fun k hk => h.block k (Nat.lt_of_lt_of_le hk hB) (hp k hk)⟩
theorem Chg.ofBelow {p : Nat → Prop} {w W : World} {B : Nat} (h : Below B w W) (hp : ∀ k, k < w.heap.size → B ≤ k → p k) : Chg p w W := ⟨h.os, h.tape, h.output, h.size, fun k hk hn => h.block k (by by_cases e : k < B; exact e; exact absurd (hp k hk (by omega)) hn)⟩
theorem Chg.ofBelow' {p : Nat → Prop} {w W : World} (h : Below w.heap.size w W) : Chg p w W := Chg.ofBelow h (fun k hk hn => by omega)
theorem Chg.row {p : Nat → Prop} {w W : World} (h : Chg p w W) {g : Nat} {o : Obj} (hr : w.heap[g]? = some o) (hp : ¬ p g) : W.heap[g]? = some o := (h.block g (block_lt_of_row hr) hp).trans hr
theorem at_op (o : Oper) {ops : Array Oper} {rest : List Oper} {a : Act} {Q : Exit → Act → World → Prop} {w : World} (h : wpList Try.prog ops Q (o :: rest) a w) : wpList Try.prog ops Q (o :: rest) a w := h
theorem wpList_store_known {w : World} {ops : Array Oper} {rest : List Oper} {o : Oper} {a : Act} {Q : Exit → Act → World → Prop} (hgd : o.guard = none) (t : TypeId) (x y : Operand) (ho : o.op = .store t x y) (w' : World)
    (hr : (Instr.storeAt t (a.eval x) (a.eval y)).run Try.prog w = .ok () w') (h : wpList Try.prog ops Q rest (a.put o.dst undef) w') : wpList Try.prog ops Q (o :: rest) a w :=
  wpList_plain hgd fun _ hK => by
    unfold Oper.wp execOp
    simp only [ho, Sem.run_bind, hr, Result.andThen_ok, Sem.run_pure]
    exact hK _ _ h
theorem wpList_store_as {w : World} {ops : Array Oper} {rest : List Oper} {o : Oper} {a : Act} {Q : Exit → Act → World → Prop} (hgd : o.guard = none) (t : TypeId) (x y : Operand) (ho : o.op = .store t x y) (vx vy : Value) (hx : a.eval x = vx) (hy : a.eval y = vy) (w' : World)
    (hr : (Instr.storeAt t vx vy).run Try.prog w = .ok () w') (h : wpList Try.prog ops Q rest (a.put o.dst undef) w') : wpList Try.prog ops Q (o :: rest) a w := by
  subst hx; subst hy
  exact wpList_store_known hgd t x y ho w' hr h
theorem wpList_load_known {w : World} {ops : Array Oper} {rest : List Oper} {o : Oper} {a : Act} {Q : Exit → Act → World → Prop} (hgd : o.guard = none) (t : TypeId) (x : Operand) (ho : o.op = .load t x) (v : Value)
    (hr : (Instr.loadAt t (a.eval x)).run Try.prog w = .ok v w) (h : wpList Try.prog ops Q rest (a.put o.dst v) w) : wpList Try.prog ops Q (o :: rest) a w :=
  wpList_plain hgd fun _ hK => by
    unfold Oper.wp execOp
    simp only [ho, Sem.run_bind, hr, Result.andThen_ok]
    exact hK _ _ h
theorem wpList_load_as {w : World} {ops : Array Oper} {rest : List Oper} {o : Oper} {a : Act} {Q : Exit → Act → World → Prop} (hgd : o.guard = none) (t : TypeId) (x : Operand) (ho : o.op = .load t x) (vx : Value) (hx : a.eval x = vx) (v : Value)
    (hr : (Instr.loadAt t vx).run Try.prog w = .ok v w) (h : wpList Try.prog ops Q rest (a.put o.dst v) w) : wpList Try.prog ops Q (o :: rest) a w := by
  subst hx
  exact wpList_load_known hgd t x ho v hr h
theorem step_alloc_as {md : Region.Mode} {ops : Array Oper} {Q : Exit → Act → World → Prop} {S : World → Prop} {fuel : Nat} {listed : Array Bool} {a : Act} {w : World} {i : Nat} {o : Oper} {rs : List Nat} (ho : ops[i]? = some o) (hgd : o.guard = none) (t : TypeId)
    (hop : o.op = .alloc t) (v' : Value) (w' : World) (hr : (Instr.alloc t true (.tuple #[])).run Try.prog w = .ok v' w') (hrest : AllReadyH Try.prog md ops Q S fuel listed a w rs)
    (h : S w' ∧ (S w' → wpAnyH Try.prog md ops Q S fuel (listed.setIfInBounds i true) (a.put o.dst v') w')) : AllReadyH Try.prog md ops Q S fuel listed a w (i :: rs) := by
  refine AllReadyH.cons ho (fun K hK => ?_) hrest
  rw [if_pos (by simp [Region.wanted, hgd])]
  unfold Oper.wp execOp
  simp only [hop, Sem.run_bind, hr, Result.andThen_ok]
  exact hK.out _ _ h.1 h.2
theorem step_store {md : Region.Mode} {ops : Array Oper} {Q : Exit → Act → World → Prop} {S : World → Prop} {fuel : Nat} {listed : Array Bool} {a : Act} {w : World} {i : Nat} {o : Oper} {rs : List Nat} (ho : ops[i]? = some o) (hgd : o.guard = none) (t : TypeId) (x y : Operand)
    (hop : o.op = .store t x y) (w' : World) (hr : (Instr.storeAt t (a.eval x) (a.eval y)).run Try.prog w = .ok () w') (hrest : AllReadyH Try.prog md ops Q S fuel listed a w rs)
    (h : S w' ∧ (S w' → wpAnyH Try.prog md ops Q S fuel (listed.setIfInBounds i true) (a.put o.dst undef) w')) : AllReadyH Try.prog md ops Q S fuel listed a w (i :: rs) := by
  refine AllReadyH.cons ho (fun K hK => ?_) hrest
  rw [if_pos (by simp [Region.wanted, hgd])]
  unfold Oper.wp execOp
  simp only [hop, Sem.run_bind, hr, Result.andThen_ok, Sem.run_pure]
  exact hK.out _ _ h.1 h.2
theorem step_store_as {md : Region.Mode} {ops : Array Oper} {Q : Exit → Act → World → Prop} {S : World → Prop} {fuel : Nat} {listed : Array Bool} {a : Act} {w : World} {i : Nat} {o : Oper} {rs : List Nat} (ho : ops[i]? = some o) (hgd : o.guard = none) (t : TypeId) (x y : Operand)
    (hop : o.op = .store t x y) (vx vy : Value) (hx : a.eval x = vx) (hy : a.eval y = vy) (w' : World) (hr : (Instr.storeAt t vx vy).run Try.prog w = .ok () w') (hrest : AllReadyH Try.prog md ops Q S fuel listed a w rs)
    (h : S w' ∧ (S w' → wpAnyH Try.prog md ops Q S fuel (listed.setIfInBounds i true) (a.put o.dst undef) w')) : AllReadyH Try.prog md ops Q S fuel listed a w (i :: rs) := by
  subst hx; subst hy
  exact step_store ho hgd t x y hop w' hr hrest h
theorem store24 {w : World} {g : Nat} {x0 y0 z0 x y z : Value} (h : w.heap[g]? = some (.cells #[x0, y0, z0] 24 (0, 0))) (hx : x.oneCell' = true) (hy : y.oneCell' = true) (hz : z.oneCell' = true) :
    ∃ w', (Instr.storeAt 24 (.pointer (some ⟨g, 0, none⟩)) (.agg #[x, y, z])).run Try.prog w = .ok () w' ∧ w'.heap[g]? = some (.cells #[x, y, z] 24 (0, 0)) ∧ Chg (fun k => k = g) w w' := by
  have hr := run_storeVar_row (P := Try.prog) w g 24 24 #[x0, y0, z0] #[x, y, z] h size24 rfl (by simp [hx, hy, hz])
  refine ⟨w.setRow g #[x, y, z], ?_, setRow_heap _ _ _ _ _ _ h, ?_⟩
  · simp only [Instr.storeAt, Instr.sureAddr, Sem.run_bind, Sem.run_pure, Result.andThen_ok, hr]
  · exact ⟨rfl, rfl, rfl, by simp, fun k _ hk => setRow_other _ _ _ _ hk⟩
theorem alloc24 (w : World) : (Instr.alloc 24 true (.tuple #[])).run Try.prog w = .ok (.pointer (some ⟨w.heap.size, 0, none⟩)) (w.alloc (.cells #[.int .u32 0, .int .u32 0, .int .u32 0] 24)) := by
  have h : (Try.prog.info? 24).map (fun i => (i.zero, i.size, i.bytes)) = some (some (.agg #[.int .u32 0, .int .u32 0, .int .u32 0]), 3, 12) := by kernel_rfl
  obtain ⟨i, hi, he⟩ := Option.map_eq_some_iff.1 h
  have hz : i.zero = some (.agg #[.int .u32 0, .int .u32 0, .int .u32 0]) := congrArg (·.1) he
  simp [Instr.alloc, zeroValue, typeInfo, hi, hz, newVar, newRow, Value.cells]
theorem Cel.row {w : World} {g : Nat} {x y z : Value} {t : TypeId} (h : w.heap[g]? = some (.cells #[x, y, z] t (0, 0))) : Cel w g x y z :=
  ⟨block_lt_of_row h, by rw [cell_of_row _ g 0 _ t _ h]; rfl, by rw [cell_of_row _ g 1 _ t _ h]; rfl, by rw [cell_of_row _ g 2 _ t _ h]; rfl⟩
set_option maxHeartbeats 40000000 in
set_option maxRecDepth 10000 in
theorem quotaRate_walk (r s : Nat) (ao : Option Addr) (len cap : Nat) (zs : List Nat) (w : World)
   (hs : 0 < len → ∃ b off, ao = some ⟨b, off, none⟩ ∧ b < w.heap.size ∧ ∀ j, j < len → w.cell? ⟨b, off + j, none⟩ = some (.int .u32 ((zs.getD j 0 : Nat) : Int))) :
   Calls Try.prog 6 #[.int .u32 (r : Int), .int .u32 (s : Int), .slice ao len cap] w fun e w' => e = .returned (.bool true) ∧ Below w.heap.size w w' := by
  have HS := hide hs
  clear hs
  obtain ⟨r1, hr1⟩ : ∃ r1, r1 = r % 2000 := ⟨_, rfl⟩
  obtain ⟨s1, hs1⟩ : ∃ s1, s1 = s % 2000 := ⟨_, rfl⟩
  have qr : (r : Int) % 2000 = (r1 : Int) := by omega
  have qr' : (r : Int).tmod 2000 = (r1 : Int) := by rw [hr1]; rfl
  have qs : (s : Int) % 2000 = (s1 : Int) := by omega
  have qs' : (s : Int).tmod 2000 = (s1 : Int) := by rw [hs1]; rfl
  have HR := hide (show r1 < 2000 by omega)
  have HT := hide (show s1 < 2000 by omega)
  clear hr1 hs1
  have HN : Hid (S.new r1 s1 = (⟨r1, s1, s1⟩, 0)) := by
    show S.new _ _ = _
    have h1 := HR.out
    have h2 := HT.out
    simp only [S.new]
    rw [if_neg (by omega)]
  go_enter Try.func6, Try.ntmps6
  go_wp2_with fail
  refine (new_is r1 s1 rfl rfl (a := (r1 : Int)) (b := (s1 : Int)) (c := (s1 : Int)) (k := 0) (by rw [HN.out]; rfl) (by rw [HN.out]) _).mono ?_
  rintro e w1 ⟨rfl, b1⟩
  clear qr qr' qs qs'
  go_upto_region 4 with fail
  generalize hA : w1.alloc _ = A1
  have B1 := hide (show Below w.heap.size w A1 by rw [← hA]; exact below_new b1 _)
  have R1 : Hid (A1.heap[w1.heap.size]? = some (.cells #[.int .u32 (r1 : Int), .int .u32 (s1 : Int), .int .u32 (s1 : Int)] 24 (0, 0))) := by rw [← hA]; exact heap_alloc_new _ _
  have HG := hide (show w.heap.size ≤ w1.heap.size from b1.size)
  generalize w1.heap.size = g7 at R1 HG ⊢
  clear hA b1
  obtain ⟨-, c0, c1, c2⟩ := Cel.row R1.out
  have qc : IntKind.u64.wrap (s1 : Int) = (s1 : Int) := by rw [IntKind.wrap_u64]; have := HT.out; omega
  have qd : (s1 : Int) < 2000 := by have := HT.out; omega
  go_wp2_with fail
  clear qc qd c0 c1 c2
  go_loopg [9, 10, 11] 60 (fun gk s9 s10 s11 wr => ∃ (i T k M : Nat), i + gk = 60 ∧ s9 = .int .u64 (T : Int) ∧ s10 = .int .u64 (M : Int) ∧ s11 = .int .i64 (i : Int) ∧ Hid (T + k ≤ M) ∧ Hid (M ≤ 1999 + i * 1999) ∧ Hid (k ≤ s1) ∧ Hid (wr.heap[g7]? = some (.cells #[.int .u32 (r1 : Int), .int .u32 (s1 : Int), .int .u32 (k : Int)] 24 (0, 0))) ∧ Hid (Below w.heap.size w wr))
  case atStart => exact ⟨0, 0, s1, s1, rfl, rfl, rfl, rfl, hide (by omega), hide (by have := HT.out; omega), hide (Nat.le_refl _), R1, B1⟩
  case round =>
    clear R1 B1
    obtain ⟨i, T, k, M, hi, rfl, rfl, rfl, HM1, HM2, HK, RW, BW⟩ := hrel
    have q0 : (0 : Int) ≤ (i : Int) := by omega
    by_cases h1 : i < len
    rotate_left
    · have q1 : ¬ (i : Int) < (len : Int) := by omega
      clear h1 hi
      go_wp2_with fail
      refine (known_any _).mono ?_
      rintro e w6 ⟨rfl, b8⟩
      have B6 := hide (below_up BW.out b8)
      clear b8
      go_wp2_with fail
      go_ret
      exact ⟨rfl, B6.out⟩
    have q1 : (i : Int) < (len : Int) := by omega
    by_cases h2 : i < 60
    rotate_left
    · have q2 : ¬ (i : Int) < 60 := by omega
      clear h1 h2 hi
      go_wp2_with fail
      refine (known_any _).mono ?_
      rintro e w6 ⟨rfl, b8⟩
      have B6 := hide (below_up BW.out b8)
      clear b8
      go_wp2_with fail
      go_ret
      exact ⟨rfl, B6.out⟩
    have q2 : (i : Int) < 60 := by omega
    cases gk with
    | zero => omega
    | succ gO =>
    have qw : IntKind.i64.wrap ((i : Int) + 1) = ((i + 1 : Nat) : Int) := by rw [IntKind.wrap_i64]; omega
    obtain ⟨b, off, rfl, hb, hc⟩ := HS.out (by omega)
    have hz := hc i h1
    obtain ⟨z, hzz⟩ : ∃ z, z = zs.getD i 0 := ⟨_, rfl⟩
    rw [← hzz] at hz
    have HZ := hide (show wr.cell? ⟨b, off + i, none⟩ = some (.int .u32 (z : Int)) from (BW.out.cell (p := ⟨b, off + i, none⟩) (by exact hb)).trans hz)
    have LB := hide (show b < wr.heap.size from Nat.lt_of_lt_of_le hb BW.out.size)
    have LG := hide (show g7 ≠ b by have := HG.out; omega)
    clear hb hc hz hzz
    obtain ⟨q, hq⟩ : ∃ q, q = z % 50 := ⟨_, rfl⟩
    have q3 : (z : Int) % 50 = (q : Int) := by omega
    have q4 : (z : Int).tmod 50 = (q : Int) := by rw [hq]; rfl
    have Q3 := hide q3
    have Q4 := hide q4
    have HQ := hide (show q < 50 by omega)
    clear hq q3 q4
    go_upto_region 9 with fail
    obtain ⟨K, C, hC⟩ : ∃ (K : Bool) (C : Nat), S.take ⟨r1, s1, k⟩ q = (⟨r1, s1, C⟩, K) ∧ ((K = true ∧ C + q = k) ∨ (K = false ∧ C = k)) := by
      by_cases h : k < q
      · exact ⟨false, k, by simp only [S.take]; rw [if_pos h], Or.inr ⟨rfl, rfl⟩⟩
      · exact ⟨true, k - q, by simp only [S.take]; rw [if_neg h], Or.inl ⟨rfl, by omega⟩⟩
    have HC1 : Hid (encB (S.take ⟨r1, s1, k⟩ q).1 = #[.int .u32 (r1 : Int), .int .u32 (s1 : Int), .int .u32 (C : Int)]) := by show encB (S.take _ _).1 = _; rw [hC.1]; rfl
    have HC2 : Hid ((S.take ⟨r1, s1, k⟩ q).2 = K) := by show (S.take _ _).2 = _; rw [hC.1]
    have HC3 := hide hC.2
    clear hC
    go_cut [12, 13] (fun vp vk wc => ∃ g12, vp = .pointer (some ⟨g12, 0, none⟩) ∧ vk = .bool K ∧ Hid (Cel wc g12 (.int .u32 (r1 : Int)) (.int .u32 (s1 : Int)) (.int .u32 (C : Int))) ∧ Hid (Below wr.heap.size wr wc))
    case first =>
      refine wp_region_noPanic ?_
      refine wp_region_held_drew (S := (fun W => Below wr.heap.size wr W)) follows ((Below.refl _ _).drew) (fun hHeld => ?_)
      clear hHeld
      have hHeld : Below wr.heap.size wr wr.drew := (Below.refl _ _).drew
      have CZ0 := hide hHeld
      generalize wr.drew = Z0 at CZ0 hHeld ⊢
      refine wpAnyH_take (i := 0) (oi := { dst := some 38, op := Op.load 24 (Operand.tmp 7), type := 24, pos := "law.go:66", after := #[], guard := none }) (v := ?_) rfl (by kernel_rfl) (by kernel_rfl) (by kernel_rfl) (fun _ _ _ h => h) (Or.inl ⟨by rfl, ?_⟩) (by assumption) ?_
      rotate_left
      · intro w hSw
        obtain ⟨-, c0, c1, c2⟩ := (Cel.row RW.out).up hSw
        clear hSw
        go_simp
        all_goals with_reducible rfl
      simp only [Act.put, List.setIfInBounds_toArray, List.set_cons_zero, List.set_cons_succ]
      refine wpAnyH_take (i := 1) (oi := { dst := some 39, op := Op.move (Operand.tmp 2), type := 43, pos := "law.go:66", after := #[], guard := none }) (v := ?_) rfl (by kernel_rfl) (by kernel_rfl) (by kernel_rfl) (fun _ _ _ h => h) (Or.inl ⟨by rfl, ?_⟩) (by assumption) ?_
      rotate_left
      · intro w hSw
        clear hSw
        go_simp
        all_goals with_reducible rfl
      simp only [Act.put, List.setIfInBounds_toArray, List.set_cons_zero, List.set_cons_succ]
      refine wpAnyH_take (i := 2) (oi := { dst := some 40, op := Op.move (Operand.tmp 11), type := 3, pos := "law.go:66", after := #[], guard := none }) (v := ?_) rfl (by kernel_rfl) (by kernel_rfl) (by kernel_rfl) (fun _ _ _ h => h) (Or.inl ⟨by rfl, ?_⟩) (by assumption) ?_
      rotate_left
      · intro w hSw
        clear hSw
        go_simp
        all_goals with_reducible rfl
      simp only [Act.put, List.setIfInBounds_toArray, List.set_cons_zero, List.set_cons_succ]
      refine wpAnyH_take (i := 3) (oi := { dst := some 41, op := Op.indexAddr 43 (Operand.tmp 39) (Operand.tmp 40), type := 0, pos := "law.go:66", after := #[{ on := 1, ground := Ground.data }, { on := 2, ground := Ground.data }], guard := none }) (v := ?_) rfl (by kernel_rfl) (by kernel_rfl) (by kernel_rfl) (fun _ _ _ h => h) (Or.inl ⟨by rfl, ?_⟩) (by assumption) ?_
      rotate_left
      · intro w hSw
        have ct := (hSw.cell (p := ⟨b, off + i, none⟩) (by exact LB.out)).trans HZ.out
        clear hSw
        go_simp
        all_goals with_reducible rfl
      simp only [Act.put, List.setIfInBounds_toArray, List.set_cons_zero, List.set_cons_succ]
      refine wpAnyH_take (i := 4) (oi := { dst := some 42, op := Op.load 22 (Operand.tmp 41), type := 22, pos := "law.go:66", after := #[{ on := 3, ground := Ground.data }], guard := none }) (v := ?_) rfl (by kernel_rfl) (by kernel_rfl) (by kernel_rfl) (fun _ _ _ h => h) (Or.inl ⟨by rfl, ?_⟩) (by assumption) ?_
      rotate_left
      · intro w hSw
        have ct := (hSw.cell (p := ⟨b, off + i, none⟩) (by exact LB.out)).trans HZ.out
        clear hSw
        go_simp
        all_goals with_reducible rfl
      simp only [Act.put, List.setIfInBounds_toArray, List.set_cons_zero, List.set_cons_succ]
      refine wpAnyH_take (i := 5) (oi := { dst := some 43, op := Op.binOp BinOp.rem 22 (Operand.tmp 42) (Operand.const (Value.int IntKind.u32 50)) 22, type := 22, pos := "law.go:66", after := #[{ on := 4, ground := Ground.data }], guard := none }) (v := ?_) rfl (by kernel_rfl) (by kernel_rfl) (by kernel_rfl) (fun _ _ _ h => h) (Or.inl ⟨by rfl, ?_⟩) (by assumption) ?_
      rotate_left
      · intro w hSw
        have q3 := Q3.out
        have q4 := Q4.out
        clear hSw
        go_simp
        all_goals with_reducible rfl
      simp only [Act.put, List.setIfInBounds_toArray, List.set_cons_zero, List.set_cons_succ]
      refine wpAnyH_ready (rs := [6, 10]) (by kernel_rfl) (by simp) ?_
      refine AllReadyH.cons (o := { dst := some 44, op := Op.call { callee := Callee.value (Operand.func 8), args := #[Operand.tmp 38, Operand.tmp 43], argTypes := #[24, 22] }, type := 28, pos := "law.go:66", after := #[{ on := 0, ground := Ground.data }, { on := 5, ground := Ground.data }], guard := none }) rfl (fun K hK => ?_) ?_
      · skip
        go_simp
        refine (take_is r1 s1 k q (by have := HK.out; have := HT.out; omega) rfl rfl rfl rfl HC1.out HC2.out _).mono ?_
        rintro e Z1 ⟨rfl, hb2⟩
        have CZ1 : Hid (Below wr.heap.size wr Z1) := below_up CZ0.out hb2
        clear hb2 CZ0 hHeld
        refine hK.out _ _ CZ1.out (fun hHeld => ?_)
        clear hK K
        try simp only [Act.put, List.setIfInBounds_toArray, List.set_cons_zero, List.set_cons_succ]
        refine wpAnyH_take (i := 7) (oi := { dst := some 37, op := Op.move (Operand.tmp 44), type := 28, pos := "law.go:66", after := #[{ on := 6, ground := Ground.data }], guard := none }) (v := ?_) rfl (by kernel_rfl) (by kernel_rfl) (by kernel_rfl) (fun _ _ _ h => h) (Or.inl ⟨by rfl, ?_⟩) (by assumption) ?_
        rotate_left
        · intro w hSw
          clear hSw
          go_simp
          all_goals with_reducible rfl
        simp only [Act.put, List.setIfInBounds_toArray, List.set_cons_zero, List.set_cons_succ]
        refine wpAnyH_take (i := 8) (oi := { dst := some 45, op := Op.extract (Operand.tmp 37) 0, type := 24, pos := "law.go:66", after := #[{ on := 7, ground := Ground.data }], guard := none }) (v := ?_) rfl (by kernel_rfl) (by kernel_rfl) (by kernel_rfl) (fun _ _ _ h => h) (Or.inl ⟨by rfl, ?_⟩) (by assumption) ?_
        rotate_left
        · intro w hSw
          clear hSw
          go_simp
          all_goals with_reducible rfl
        simp only [Act.put, List.setIfInBounds_toArray, List.set_cons_zero, List.set_cons_succ]
        refine wpAnyH_take (i := 9) (oi := { dst := some 46, op := Op.extract (Operand.tmp 37) 1, type := 4, pos := "law.go:66", after := #[{ on := 7, ground := Ground.data }, { on := 11, ground := Ground.gcOnly Departure.lateStores }], guard := none }) (v := ?_) rfl (by kernel_rfl) (by kernel_rfl) (by kernel_rfl) (fun _ _ _ h => h) (Or.inl ⟨by rfl, ?_⟩) (by assumption) ?_
        rotate_left
        · intro w hSw
          clear hSw
          go_simp
          all_goals with_reducible rfl
        simp only [Act.put, List.setIfInBounds_toArray, List.set_cons_zero, List.set_cons_succ]
        refine wpAnyH_ready (rs := [10]) (by kernel_rfl) (by simp) ?_
        refine step_alloc_as (o := { dst := some 12, op := Op.alloc 24, type := 0, pos := "law.go:66", after := #[], guard := none }) rfl rfl 24 rfl _ _ (alloc24 Z1) AllReadyH.nil ⟨CZ1.out.trans (((Below.refl _ _).alloc (Nat.le_refl _) _).mono CZ1.out.size), fun hHeld => ?_⟩
        clear hHeld
        simp only [Act.put, List.setIfInBounds_toArray, List.set_cons_zero, List.set_cons_succ]
        generalize hZ : Z1.alloc _ = Z2
        have hb2 : Below Z1.heap.size Z1 Z2 := by rw [← hZ]; exact one_below _ _
        have RA : Hid (Z2.heap[Z1.heap.size]? = some (.cells #[.int .u32 0, .int .u32 0, .int .u32 0] 24 (0, 0))) := by rw [← hZ]; exact heap_alloc_new _ _
        have GA := hide (show wr.heap.size ≤ Z1.heap.size from CZ1.out.size)
        obtain ⟨ga, hga⟩ : ∃ g, g = Z1.heap.size := ⟨_, rfl⟩
        rw [← hga] at RA GA ⊢
        have CZ2 : Hid (Below wr.heap.size wr Z2) := below_up CZ1.out hb2
        clear hZ hga hb2 CZ1
        have hHeld := CZ2.out
        refine wpAnyH_ready (rs := [11]) (by kernel_rfl) (by simp) ?_
        obtain ⟨Z3, hst, r6, C6⟩ := store24 (x := .int .u32 (r1 : Int)) (y := .int .u32 (s1 : Int)) (z := .int .u32 (C : Int)) RA.out rfl rfl rfl
        have hb6 : Below wr.heap.size wr Z3 := CZ2.out.trans (C6.below _ CZ2.out.size (fun k hk e => by have := GA.out; omega))
        refine step_store_as (o := { dst := none, op := Op.store 24 (Operand.tmp 12) (Operand.tmp 45), type := 0, pos := "law.go:66", after := #[{ on := 10, ground := Ground.data }, { on := 8, ground := Ground.data }, { on := 6, ground := Ground.chain }, { on := 0, ground := Ground.phase }, { on := 1, ground := Ground.phase }, { on := 2, ground := Ground.phase }, { on := 3, ground := Ground.phase }, { on := 4, ground := Ground.phase }, { on := 5, ground := Ground.phase }, { on := 6, ground := Ground.phase }, { on := 7, ground := Ground.phase }, { on := 8, ground := Ground.phase }, { on := 9, ground := Ground.textOnly Departure.lateStores }, { on := 10, ground := Ground.phase }], guard := none }) rfl rfl 24 (.tmp 12) (.tmp 45) rfl _ _ rfl rfl Z3 hst AllReadyH.nil ⟨hb6, fun hHeld => ?_⟩
        simp only [Act.put]
        refine wpAnyH_take (i := 12) (oi := { dst := some 13, op := Op.assign (Operand.tmp 46), type := 4, pos := "law.go:66", after := #[{ on := 9, ground := Ground.data }, { on := 11, ground := Ground.chain }, { on := 0, ground := Ground.phase }, { on := 1, ground := Ground.phase }, { on := 2, ground := Ground.phase }, { on := 3, ground := Ground.phase }, { on := 4, ground := Ground.phase }, { on := 5, ground := Ground.phase }, { on := 6, ground := Ground.phase }, { on := 7, ground := Ground.phase }, { on := 8, ground := Ground.phase }, { on := 9, ground := Ground.phase }, { on := 10, ground := Ground.phase }, { on := 11, ground := Ground.phase }], guard := none }) (v := ?_) rfl (by kernel_rfl) (by kernel_rfl) (by kernel_rfl) (fun _ _ _ h => h) (Or.inl ⟨by rfl, ?_⟩) (by assumption) ?_
        rotate_left
        · intro w hSw
          clear hSw
          go_simp
          all_goals with_reducible rfl
        simp only [Act.put, List.setIfInBounds_toArray, List.set_cons_zero, List.set_cons_succ]
        refine wpAnyH_done (by kernel_rfl) ?_ _
        refine NoPanic.normal ?_
        have R12 := hide r6
        have B12 := hide hb6
        clear hHeld hst r6 C6 hb6
        go_wp2_with fail
        go_meet
        case rel => exact ⟨ga, rfl, rfl, hide (Cel.row R12.out), B12⟩
      refine step_alloc_as (o := { dst := some 12, op := Op.alloc 24, type := 0, pos := "law.go:66", after := #[], guard := none }) rfl rfl 24 rfl _ _ (alloc24 Z0) AllReadyH.nil ⟨CZ0.out.trans (((Below.refl _ _).alloc (Nat.le_refl _) _).mono CZ0.out.size), fun hHeld => ?_⟩
      clear hHeld
      simp only [Act.put, List.setIfInBounds_toArray, List.set_cons_zero, List.set_cons_succ]
      generalize hZ : Z0.alloc _ = Z1
      have hb2 : Below Z0.heap.size Z0 Z1 := by rw [← hZ]; exact one_below _ _
      have RA : Hid (Z1.heap[Z0.heap.size]? = some (.cells #[.int .u32 0, .int .u32 0, .int .u32 0] 24 (0, 0))) := by rw [← hZ]; exact heap_alloc_new _ _
      have GA := hide (show wr.heap.size ≤ Z0.heap.size from CZ0.out.size)
      obtain ⟨ga, hga⟩ : ∃ g, g = Z0.heap.size := ⟨_, rfl⟩
      rw [← hga] at RA GA ⊢
      have CZ1 : Hid (Below wr.heap.size wr Z1) := below_up CZ0.out hb2
      clear hZ hga hb2 CZ0
      have hHeld := CZ1.out
      refine wpAnyH_ready (rs := [6]) (by kernel_rfl) (by simp) ?_
      refine AllReadyH.cons (o := { dst := some 44, op := Op.call { callee := Callee.value (Operand.func 8), args := #[Operand.tmp 38, Operand.tmp 43], argTypes := #[24, 22] }, type := 28, pos := "law.go:66", after := #[{ on := 0, ground := Ground.data }, { on := 5, ground := Ground.data }], guard := none }) rfl (fun K hK => ?_) AllReadyH.nil
      go_simp
      refine (take_is r1 s1 k q (by have := HK.out; have := HT.out; omega) rfl rfl rfl rfl HC1.out HC2.out _).mono ?_
      rintro e Z2 ⟨rfl, hb2⟩
      replace RA : Hid (Z2.heap[ga]? = some (.cells #[.int .u32 0, .int .u32 0, .int .u32 0] 24 (0, 0))) := (hb2.block _ (block_lt_of_row RA.out)).trans RA.out
      have CZ2 : Hid (Below wr.heap.size wr Z2) := below_up CZ1.out hb2
      clear hb2 CZ1 hHeld
      refine hK.out _ _ CZ2.out (fun hHeld => ?_)
      clear hK K
      try simp only [Act.put, List.setIfInBounds_toArray, List.set_cons_zero, List.set_cons_succ]
      refine wpAnyH_take (i := 7) (oi := { dst := some 37, op := Op.move (Operand.tmp 44), type := 28, pos := "law.go:66", after := #[{ on := 6, ground := Ground.data }], guard := none }) (v := ?_) rfl (by kernel_rfl) (by kernel_rfl) (by kernel_rfl) (fun _ _ _ h => h) (Or.inl ⟨by rfl, ?_⟩) (by assumption) ?_
      rotate_left
      · intro w hSw
        clear hSw
        go_simp
        all_goals with_reducible rfl
      simp only [Act.put, List.setIfInBounds_toArray, List.set_cons_zero, List.set_cons_succ]
      refine wpAnyH_take (i := 8) (oi := { dst := some 45, op := Op.extract (Operand.tmp 37) 0, type := 24, pos := "law.go:66", after := #[{ on := 7, ground := Ground.data }], guard := none }) (v := ?_) rfl (by kernel_rfl) (by kernel_rfl) (by kernel_rfl) (fun _ _ _ h => h) (Or.inl ⟨by rfl, ?_⟩) (by assumption) ?_
      rotate_left
      · intro w hSw
        clear hSw
        go_simp
        all_goals with_reducible rfl
      simp only [Act.put, List.setIfInBounds_toArray, List.set_cons_zero, List.set_cons_succ]
      refine wpAnyH_take (i := 9) (oi := { dst := some 46, op := Op.extract (Operand.tmp 37) 1, type := 4, pos := "law.go:66", after := #[{ on := 7, ground := Ground.data }, { on := 11, ground := Ground.gcOnly Departure.lateStores }], guard := none }) (v := ?_) rfl (by kernel_rfl) (by kernel_rfl) (by kernel_rfl) (fun _ _ _ h => h) (Or.inl ⟨by rfl, ?_⟩) (by assumption) ?_
      rotate_left
      · intro w hSw
        clear hSw
        go_simp
        all_goals with_reducible rfl
      simp only [Act.put, List.setIfInBounds_toArray, List.set_cons_zero, List.set_cons_succ]
      refine wpAnyH_ready (rs := [11]) (by kernel_rfl) (by simp) ?_
      obtain ⟨Z3, hst, r6, C6⟩ := store24 (x := .int .u32 (r1 : Int)) (y := .int .u32 (s1 : Int)) (z := .int .u32 (C : Int)) RA.out rfl rfl rfl
      have hb6 : Below wr.heap.size wr Z3 := CZ2.out.trans (C6.below _ CZ2.out.size (fun k hk e => by have := GA.out; omega))
      refine step_store_as (o := { dst := none, op := Op.store 24 (Operand.tmp 12) (Operand.tmp 45), type := 0, pos := "law.go:66", after := #[{ on := 10, ground := Ground.data }, { on := 8, ground := Ground.data }, { on := 6, ground := Ground.chain }, { on := 0, ground := Ground.phase }, { on := 1, ground := Ground.phase }, { on := 2, ground := Ground.phase }, { on := 3, ground := Ground.phase }, { on := 4, ground := Ground.phase }, { on := 5, ground := Ground.phase }, { on := 6, ground := Ground.phase }, { on := 7, ground := Ground.phase }, { on := 8, ground := Ground.phase }, { on := 9, ground := Ground.textOnly Departure.lateStores }, { on := 10, ground := Ground.phase }], guard := none }) rfl rfl 24 (.tmp 12) (.tmp 45) rfl _ _ rfl rfl Z3 hst AllReadyH.nil ⟨hb6, fun hHeld => ?_⟩
      simp only [Act.put]
      refine wpAnyH_take (i := 12) (oi := { dst := some 13, op := Op.assign (Operand.tmp 46), type := 4, pos := "law.go:66", after := #[{ on := 9, ground := Ground.data }, { on := 11, ground := Ground.chain }, { on := 0, ground := Ground.phase }, { on := 1, ground := Ground.phase }, { on := 2, ground := Ground.phase }, { on := 3, ground := Ground.phase }, { on := 4, ground := Ground.phase }, { on := 5, ground := Ground.phase }, { on := 6, ground := Ground.phase }, { on := 7, ground := Ground.phase }, { on := 8, ground := Ground.phase }, { on := 9, ground := Ground.phase }, { on := 10, ground := Ground.phase }, { on := 11, ground := Ground.phase }], guard := none }) (v := ?_) rfl (by kernel_rfl) (by kernel_rfl) (by kernel_rfl) (fun _ _ _ h => h) (Or.inl ⟨by rfl, ?_⟩) (by assumption) ?_
      rotate_left
      · intro w hSw
        clear hSw
        go_simp
        all_goals with_reducible rfl
      simp only [Act.put, List.setIfInBounds_toArray, List.set_cons_zero, List.set_cons_succ]
      refine wpAnyH_done (by kernel_rfl) ?_ _
      refine NoPanic.normal ?_
      have R12 := hide r6
      have B12 := hide hb6
      clear hHeld hst r6 C6 hb6
      go_wp2_with fail
      go_meet
      case rel => exact ⟨ga, rfl, rfl, hide (Cel.row R12.out), B12⟩
    obtain ⟨g12, rfl, rfl, HD, BC⟩ := hcut
    have RC := hide (show wc.heap[g7]? = some (.cells #[.int .u32 (r1 : Int), .int .u32 (s1 : Int), .int .u32 (k : Int)] 24 (0, 0)) from (BC.out.block _ (block_lt_of_row RW.out)).trans RW.out)
    have HZc := hide (show wc.cell? ⟨b, off + i, none⟩ = some (.int .u32 (z : Int)) from (BC.out.cell (p := ⟨b, off + i, none⟩) (by exact LB.out)).trans HZ.out)
    have BW2 := hide (below_up BW.out BC.out)
    clear BC RW BW HZ
    obtain ⟨D, hD⟩ : ∃ D, D = min (C + r1) s1 := ⟨_, rfl⟩
    have HTK : Hid (encB (S.tick ⟨r1, s1, C⟩ 1) = #[.int .u32 (r1 : Int), .int .u32 (s1 : Int), .int .u32 (D : Int)]) := by
      show encB (S.tick _ _) = _
      simp only [S.tick, encB]
      rcases Nat.eq_zero_or_pos s1 with h | h
      · rw [hD, h]
        simp
      · rw [show min 1 s1 = 1 by omega, Nat.one_mul, hD]
    have HD1 := hide (show D ≤ s1 ∧ D ≤ C + r1 by omega)
    clear hD
    obtain ⟨T', hT'⟩ : ∃ T' : Nat, T' = if K then T + q else T := ⟨_, rfl⟩
    have HT1 := hide (show T' + C ≤ M by
      rcases HC3.out with ⟨h, e⟩ | ⟨h, e⟩
      · rw [hT', h]; have := HM1.out; simp; omega
      · rw [hT', h]; have := HM1.out; simp; omega)
    have HB2 := hide (show M ≤ 1999 + 59 * 1999 by have := HM2.out; omega)
    clear h1 h2
    obtain ⟨-, c0, c1, c2⟩ := HD.out
    obtain ⟨-, d0, d1, d2⟩ := Cel.row RC.out
    have ct := HZc.out
    have q3 := Q3.out
    have q4 := Q4.out
    have e1 : (T' : Int) ≤ (M : Int) := by have := HT1.out; omega
    have e2 : ¬ (T' : Int) > (M : Int) := by omega
    have e3 : IntKind.u64.wrap (q : Int) = (q : Int) := by rw [IntKind.wrap_u64]; have := HQ.out; omega
    have QW := hide qw
    clear qw
    rcases HC3.out with ⟨rfl, hCq⟩ | ⟨rfl, hCk⟩
    · have e4 : IntKind.u64.wrap ((T : Int) + (q : Int)) = (T' : Int) := by
        rw [hT', IntKind.wrap_u64]
        have := HM1.out
        have := HB2.out
        simp
        omega
      clear hCq hT'
      go_upto_region 14 with fail
      clear c0 c1 c2 d0 d1 d2 ct q3 q4 e1 e2 e3
      obtain ⟨-, c0, c1, c2⟩ := HD.out
      go_wp2_with fail
      refine (tick_is r1 s1 C 1 (by have := HR.out; omega) (by have := HT.out; omega) (by have := HC3.out; have := HK.out; have := HT.out; omega) rfl rfl rfl rfl HTK.out _).mono ?_
      rintro e wt ⟨rfl, bt⟩
      have RT := hide ((bt.block _ (block_lt_of_row RC.out)).trans RC.out)
      have BT := hide (below_up BW2.out bt)
      clear bt c0 c1 c2
      obtain ⟨wu, hst, ru, Cu⟩ := store24 (x := .int .u32 (r1 : Int)) (y := .int .u32 (s1 : Int)) (z := .int .u32 (D : Int)) RT.out rfl rfl rfl
      have RU := hide ru
      have BU := hide (show Below w.heap.size w wu from BT.out.trans (Cu.below _ BT.out.size (fun k hk e => by have := HG.out; omega)))
      clear ru Cu
      obtain ⟨-, d0, d1, d2⟩ := Cel.row RU.out
      have e1 : (T' : Int) ≤ (M : Int) := by have := HT1.out; omega
      have e2 : ¬ (T' : Int) > (M : Int) := by omega
      have e6 : IntKind.u64.wrap (r1 : Int) = (r1 : Int) := by rw [IntKind.wrap_u64]; have := HR.out; omega
      have e7 : IntKind.u64.wrap ((M : Int) + (r1 : Int)) = ((M + r1 : Nat) : Int) := by rw [IntKind.wrap_u64]; have := HR.out; have := HB2.out; omega
      have qw := QW.out
      go_wp2_with (refine at_op { dst := none, op := Op.store 24 (Operand.tmp 7) (Operand.tmp 60), type := 0, pos := "law.go:72", after := #[{ on := 1, ground := Ground.data }, { on := 1, ground := Ground.chain }, { on := 0, ground := Ground.phase }, { on := 1, ground := Ground.phase }], guard := none } ?_; refine wpList_store_as rfl 24 (.tmp 7) (.tmp 60) rfl (.pointer (some ⟨g7, 0, none⟩)) (.agg #[.int .u32 (r1 : Int), .int .u32 (s1 : Int), .int .u32 (D : Int)]) rfl rfl wu hst ?_)
      go_roundg gO
      case measure => omega
      case rel => exact ⟨i + 1, T', D, M + r1, by omega, rfl, by first | rfl | simp, by first | rfl | simp, hide (by have := HT1.out; have := HD1.out; omega), hide (by have := HM2.out; have := HR.out; omega), hide HD1.out.1, RU, BU⟩
    · have e5 : T' = T := by rw [hT']; rfl
      subst hCk
      clear hT'
      subst e5
      go_upto_region 14 with fail
      clear c0 c1 c2 d0 d1 d2 ct q3 q4 e1 e2 e3
      obtain ⟨-, c0, c1, c2⟩ := HD.out
      go_wp2_with fail
      refine (tick_is r1 s1 C 1 (by have := HR.out; omega) (by have := HT.out; omega) (by have := HC3.out; have := HK.out; have := HT.out; omega) rfl rfl rfl rfl HTK.out _).mono ?_
      rintro e wt ⟨rfl, bt⟩
      have RT := hide ((bt.block _ (block_lt_of_row RC.out)).trans RC.out)
      have BT := hide (below_up BW2.out bt)
      clear bt c0 c1 c2
      obtain ⟨wu, hst, ru, Cu⟩ := store24 (x := .int .u32 (r1 : Int)) (y := .int .u32 (s1 : Int)) (z := .int .u32 (D : Int)) RT.out rfl rfl rfl
      have RU := hide ru
      have BU := hide (show Below w.heap.size w wu from BT.out.trans (Cu.below _ BT.out.size (fun k hk e => by have := HG.out; omega)))
      clear ru Cu
      obtain ⟨-, d0, d1, d2⟩ := Cel.row RU.out
      have e1 : (T' : Int) ≤ (M : Int) := by have := HT1.out; omega
      have e2 : ¬ (T' : Int) > (M : Int) := by omega
      have e6 : IntKind.u64.wrap (r1 : Int) = (r1 : Int) := by rw [IntKind.wrap_u64]; have := HR.out; omega
      have e7 : IntKind.u64.wrap ((M : Int) + (r1 : Int)) = ((M + r1 : Nat) : Int) := by rw [IntKind.wrap_u64]; have := HR.out; have := HB2.out; omega
      have qw := QW.out
      go_wp2_with (refine at_op { dst := none, op := Op.store 24 (Operand.tmp 7) (Operand.tmp 60), type := 0, pos := "law.go:72", after := #[{ on := 1, ground := Ground.data }, { on := 1, ground := Ground.chain }, { on := 0, ground := Ground.phase }, { on := 1, ground := Ground.phase }], guard := none } ?_; refine wpList_store_as rfl 24 (.tmp 7) (.tmp 60) rfl (.pointer (some ⟨g7, 0, none⟩)) (.agg #[.int .u32 (r1 : Int), .int .u32 (s1 : Int), .int .u32 (D : Int)]) rfl rfl wu hst ?_)
      go_roundg gO
      case measure => omega
      case rel => exact ⟨i + 1, T', D, M + r1, by omega, rfl, by first | rfl | simp, by first | rfl | simp, hide (by have := HT1.out; have := HD1.out; omega), hide (by have := HM2.out; have := HR.out; omega), hide HD1.out.1, RU, BU⟩
end Go.Proofs.Ytlalnenafmpjiaa
