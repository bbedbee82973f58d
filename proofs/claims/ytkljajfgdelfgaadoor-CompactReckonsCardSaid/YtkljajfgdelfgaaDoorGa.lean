/- Rows of numbers, and ranges, are the same; a range of the document's out of the program's; the list of leaves. -/
import Derived.Test.YtkljajfgdelfgaaDoorFj
import Derived.Test.YtkljajfgdelfgaaDoorMj
namespace Go.Proofs.YtkljajfgdelfgaaDoor
open Go.RowKit

theorem NRow.lit {B : Nat} {w : World} {g : Nat} {ns : List Nat} (h : w.heap[g]? = some (.cells (ns.flatMap encU).toArray 27 (0, 0))) (hl : ns.length ≤ 1000) (hB : B ≤ g) : NRow B w (.slice (some ⟨g, 0, none⟩) ns.length ns.length) ns := by
  have hf : (ns.flatMap encU).length = ns.length * 1 := flat_gen ns (encU_len ns)
  refine ⟨hf, Or.inr ⟨g, ns.length, _, rfl, hB, h, Nat.le_refl _, by simp only [maxLen]; omega, by rw [List.size_toArray, hf], ?_⟩⟩
  rw [List.toList_toArray, ← hf, List.take_length]
set_option maxHeartbeats 4000000 in
set_option maxRecDepth 10000 in
theorem samen_any (B B' : Nat) (v u : Value) (ns : List Nat) (w : World) (hv : NRow B w v ns) (hu : NRow B' w u ns) (hl : ns.length ≤ 100000) :
   Calls Tryd.prog 16 #[v, u] w fun e w' => e = .returned (.bool true) ∧ Below w.heap.size w w' := by
  obtain ⟨ao, ac, rfl⟩ := hv.form
  obtain ⟨bo, bc, rfl⟩ := hu.form
  have HV := hide hv
  have HU := hide hu
  obtain ⟨N, hN⟩ : ∃ N, N = ns.length := ⟨_, rfl⟩
  rw [← hN] at HV HU hl ⊢
  have HN := hide hN
  clear hv hu hN
  go_enter Tryd.func16, Tryd.ntmps16
  go_wp2_with fail
  go_loopg [5] N (fun gk s5 wr => ∃ k : Nat, k + gk = N ∧ s5 = .int .i64 (k : Int) ∧ Hid (Below w.heap.size w wr))
  case atStart => exact ⟨0, by omega, rfl, Below.refl _ _⟩
  case round =>
    obtain ⟨k, hk, rfl, BR⟩ := hrel
    cases gk with
    | zero =>
      have qk : ¬ (k : Int) < (N : Int) := by omega
      clear hk
      go_wp2_with fail
      go_ret
      exact ⟨rfl, BR.out⟩
    | succ gO =>
      have qk : (k : Int) < (N : Int) := by omega
      have qk0 : (0 : Int) ≤ (k : Int) := by omega
      have qk1 : IntKind.i64.wrap ((k : Int) + 1) = (k : Int) + 1 := by rw [IntKind.wrap_i64]; omega
      obtain ⟨t, ht⟩ : ∃ t, ns[k]? = some t := ⟨_, List.getElem?_eq_getElem (by rw [← HN.out]; omega)⟩
      obtain ⟨g1, c1, e1, l1, -, h1⟩ := HV.out.cell k t ht
      obtain ⟨g2, c2, e2, l2, -, h2⟩ := HU.out.cell k t ht
      simp only [Value.slice.injEq] at e1 e2
      obtain ⟨rfl, -, rfl⟩ := e1
      obtain ⟨rfl, -, rfl⟩ := e2
      have H1 := hide ((BR.out.cell (p := ⟨g1, k, none⟩) l1).trans h1)
      have H2 := hide ((BR.out.cell (p := ⟨g2, k, none⟩) l2).trans h2)
      have L1 := hide (Nat.lt_of_lt_of_le l1 BR.out.size)
      have L2 := hide (Nat.lt_of_lt_of_le l2 BR.out.size)
      clear h1 h2 l1 l2 ht
      go_wp2_with fail
      refine wp_region_noPanic ?_
      refine wp_region_held_drew (S := (fun W => Chg (fun _ => False) wr W)) follows ((Chg.refl _ _).drew) (fun hHeld => ?_)
      clear hHeld
      have hHeld : Chg (fun _ => False) wr wr.drew := (Chg.refl _ _).drew
      have CZ0 := hide hHeld
      generalize wr.drew = Z0 at CZ0 hHeld ⊢
      refine wpAnyH_take (i := 0) (oi := { dst := some 17, op := Op.move (Operand.tmp 0), type := 38, pos := "book.go:17", after := #[], guard := none }) (v := ?_) rfl (by kernel_rfl) (by kernel_rfl) (by kernel_rfl) (fun _ _ _ h => h) (Or.inl ⟨by rfl, ?_⟩) (by assumption) ?_
      rotate_left
      · intro w hSw
        clear hSw
        go_simp
        all_goals with_reducible rfl
      simp only [Act.put, List.setIfInBounds_toArray, List.set_cons_zero, List.set_cons_succ]
      refine wpAnyH_take (i := 1) (oi := { dst := some 18, op := Op.move (Operand.tmp 5), type := 3, pos := "book.go:17", after := #[], guard := none }) (v := ?_) rfl (by kernel_rfl) (by kernel_rfl) (by kernel_rfl) (fun _ _ _ h => h) (Or.inl ⟨by rfl, ?_⟩) (by assumption) ?_
      rotate_left
      · intro w hSw
        clear hSw
        go_simp
        all_goals with_reducible rfl
      simp only [Act.put, List.setIfInBounds_toArray, List.set_cons_zero, List.set_cons_succ]
      refine wpAnyH_take (i := 2) (oi := { dst := some 19, op := Op.indexAddr 38 (Operand.tmp 17) (Operand.tmp 18), type := 0, pos := "book.go:17", after := #[{ on := 0, ground := Ground.data }, { on := 1, ground := Ground.data }], guard := none }) (v := ?_) rfl (by kernel_rfl) (by kernel_rfl) (by kernel_rfl) (fun _ _ _ h => h) (Or.inl ⟨by rfl, ?_⟩) (by assumption) ?_
      rotate_left
      · intro w hSw
        clear hSw
        go_simp
        all_goals with_reducible rfl
      simp only [Act.put, List.setIfInBounds_toArray, List.set_cons_zero, List.set_cons_succ]
      refine wpAnyH_take (i := 3) (oi := { dst := some 20, op := Op.load 27 (Operand.tmp 19), type := 27, pos := "book.go:17", after := #[{ on := 2, ground := Ground.data }], guard := none }) (v := ?_) rfl (by kernel_rfl) (by kernel_rfl) (by kernel_rfl) (fun _ _ _ h => h) (Or.inl ⟨by rfl, ?_⟩) (by assumption) ?_
      rotate_left
      · intro w hSw
        have q := (World.cell?_of_block (a := ⟨g1, k, none⟩) (hSw.block g1 L1.out (fun e => e))).trans H1.out
        clear hSw
        go_simp
        all_goals with_reducible rfl
      simp only [Act.put, List.setIfInBounds_toArray, List.set_cons_zero, List.set_cons_succ]
      refine wpAnyH_take (i := 4) (oi := { dst := some 21, op := Op.move (Operand.tmp 1), type := 38, pos := "book.go:17", after := #[], guard := none }) (v := ?_) rfl (by kernel_rfl) (by kernel_rfl) (by kernel_rfl) (fun _ _ _ h => h) (Or.inl ⟨by rfl, ?_⟩) (by assumption) ?_
      rotate_left
      · intro w hSw
        clear hSw
        go_simp
        all_goals with_reducible rfl
      simp only [Act.put, List.setIfInBounds_toArray, List.set_cons_zero, List.set_cons_succ]
      refine wpAnyH_take (i := 5) (oi := { dst := some 22, op := Op.move (Operand.tmp 5), type := 3, pos := "book.go:17", after := #[], guard := none }) (v := ?_) rfl (by kernel_rfl) (by kernel_rfl) (by kernel_rfl) (fun _ _ _ h => h) (Or.inl ⟨by rfl, ?_⟩) (by assumption) ?_
      rotate_left
      · intro w hSw
        clear hSw
        go_simp
        all_goals with_reducible rfl
      simp only [Act.put, List.setIfInBounds_toArray, List.set_cons_zero, List.set_cons_succ]
      refine wpAnyH_take (i := 6) (oi := { dst := some 23, op := Op.indexAddr 38 (Operand.tmp 21) (Operand.tmp 22), type := 0, pos := "book.go:17", after := #[{ on := 4, ground := Ground.data }, { on := 5, ground := Ground.data }], guard := none }) (v := ?_) rfl (by kernel_rfl) (by kernel_rfl) (by kernel_rfl) (fun _ _ _ h => h) (Or.inl ⟨by rfl, ?_⟩) (by assumption) ?_
      rotate_left
      · intro w hSw
        clear hSw
        go_simp
        all_goals with_reducible rfl
      simp only [Act.put, List.setIfInBounds_toArray, List.set_cons_zero, List.set_cons_succ]
      refine wpAnyH_take (i := 7) (oi := { dst := some 24, op := Op.load 27 (Operand.tmp 23), type := 27, pos := "book.go:17", after := #[{ on := 6, ground := Ground.data }], guard := none }) (v := ?_) rfl (by kernel_rfl) (by kernel_rfl) (by kernel_rfl) (fun _ _ _ h => h) (Or.inl ⟨by rfl, ?_⟩) (by assumption) ?_
      rotate_left
      · intro w hSw
        have q := (World.cell?_of_block (a := ⟨g2, k, none⟩) (hSw.block g2 L2.out (fun e => e))).trans H2.out
        clear hSw
        go_simp
        all_goals with_reducible rfl
      simp only [Act.put, List.setIfInBounds_toArray, List.set_cons_zero, List.set_cons_succ]
      refine wpAnyH_take (i := 8) (oi := { dst := some 25, op := Op.binOp BinOp.neq 27 (Operand.tmp 20) (Operand.tmp 24) 27, type := 4, pos := "book.go:17", after := #[{ on := 3, ground := Ground.data }, { on := 7, ground := Ground.data }], guard := none }) (v := ?_) rfl (by kernel_rfl) (by kernel_rfl) (by kernel_rfl) (fun _ _ _ h => h) (Or.inl ⟨by rfl, ?_⟩) (by assumption) ?_
      rotate_left
      · intro w hSw
        clear hSw
        go_simp
        all_goals with_reducible rfl
      simp only [Act.put, List.setIfInBounds_toArray, List.set_cons_zero, List.set_cons_succ]
      refine wpAnyH_done (by kernel_rfl) ?_ _
      refine NoPanic.normal ?_
      clear hHeld
      have BF := hide (BR.out.trans (CZ0.out.below w.heap.size BR.out.size (fun k hk e => by omega)))
      go_wp2_with fail
      go_roundg gO
      case measure => omega
      case rel => exact ⟨k + 1, by omega, by first | rfl | simp, BF⟩
def S.l10 (n : Nat) : List (List UInt8) := (List.range n).map (fun i => [UInt8.ofNat i, 5])
theorem S.l10_length (n : Nat) : (S.l10 n).length = n := by simp [S.l10]
theorem S.l10_succ (n : Nat) : S.l10 (n + 1) = S.l10 n ++ [[UInt8.ofNat n, 5]] := by simp [S.l10, List.range_succ]
theorem S.l10_fit (n : Nat) : Fit (S.l10 n) := fun b hb => by
  simp only [S.l10, List.mem_map] at hb
  obtain ⟨i, _, rfl⟩ := hb
  simp
theorem two8_at {w : World} {g : Nat} {x y : UInt8} (h : w.heap[g]? = some (.cells #[.int .u8 (x.toNat : Int), .int .u8 (y.toNat : Int)] 5 (0, 0))) : SliceAt w (.slice (some ⟨g, 0, none⟩) 2 2) [x, y] :=
  Or.inr (Or.inr ⟨g, 0, 2, rfl, Nat.le_refl _, by simp, block_lt_of_row h, fun j hj => by
    rcases (by simp at hj; omega : j = 0 ∨ j = 1) with rfl | rfl <;> rw [cell_of_row w g _ _ _ _ h] <;> rfl⟩)
set_option maxHeartbeats 4000000 in
set_option maxRecDepth 10000 in
theorem list10_any (n : Nat) (hn : n ≤ 1000) (w : World) :
   Calls Tryd.prog 29 #[.int .i64 (n : Int)] w fun e w' => ∃ v, e = .returned v ∧ TxRow w.heap.size w' v (S.l10 n) ∧ Below w.heap.size w w' := by
  go_enter Tryd.func29, Tryd.ntmps29
  go_wp2
  go_loopw [3, 4] (fun s i wr => ∃ k : Nat, k ≤ n ∧ i = .int .i64 (k : Int) ∧ TxRow w.heap.size wr s (S.l10 k) ∧ Below w.heap.size w wr) (fun _ i _ => n - (intOf i).toNat)
  case atStart => exact ⟨0, by omega, rfl, TxRow.nil _ _, Below.refl _ _⟩
  case round =>
    obtain ⟨k, hk, rfl, hT, hB⟩ := hrel
    obtain ⟨so, sc, rfl⟩ := hT.form
    by_cases hlt : k < n
    · have q1 : (k : Int) < (n : Int) := by omega
      have q4 : IntKind.i64.wrap ((k : Int) + 1) = (k : Int) + 1 := by rw [IntKind.wrap_i64]; omega
      have TH := hide hT
      have BH := hide hB
      obtain ⟨m, hm⟩ : ∃ m, m = (S.l10 k).length := ⟨_, rfl⟩
      rw [← hm] at TH ⊢
      have HM := hide hm
      have e1 : (k : Int) % 256 = ((UInt8.ofNat k).toNat : Int) := byte_cast k
      obtain ⟨y, hy⟩ : ∃ y, y = UInt8.ofNat k := ⟨_, rfl⟩
      rw [← hy] at e1
      have HY := hide hy
      clear hT hB hm hy
      obtain ⟨X0, hX0⟩ : ∃ X0, X0 = wr.alloc (.cells #[.int .u8 (y.toNat : Int), .int .u8 5] 5) := ⟨_, rfl⟩
      obtain ⟨X1, hX1⟩ : ∃ X1, X1 = X0.alloc (.cells #[.slice (some ⟨wr.heap.size, 0, none⟩) 2 2] 60) := ⟨_, rfl⟩
      have s0 : X0.heap.size = wr.heap.size + 1 := by rw [hX0]; simp
      have s1 : X1.heap.size = wr.heap.size + 2 := by rw [hX1]; simp [s0]
      have b0 : Below wr.heap.size wr X0 := by rw [hX0]; exact (Below.refl _ _).alloc (Nat.le_refl _) _
      have b1 : Below X0.heap.size X0 X1 := by rw [hX1]; exact (Below.refl _ _).alloc (Nat.le_refl _) _
      have r0 : X0.heap[wr.heap.size]? = some (.cells #[.int .u8 (y.toNat : Int), .int .u8 ((5 : UInt8).toNat : Int)] 5 (0, 0)) := by rw [hX0]; exact heap_alloc_new _ _
      have r1 : X1.heap[wr.heap.size + 1]? = some (.cells #[.slice (some ⟨wr.heap.size, 0, none⟩) 2 2] 60 (0, 0)) := by rw [hX1, ← s0]; exact heap_alloc_new _ _
      have bb : Below wr.heap.size wr X1 := b0.trans (b1.mono (by omega))
      have hlt0 : ∀ k', (Value.slice so m sc).ownBlock = some k' → k' < wr.heap.size := fun k' hk' => by
        obtain ⟨vs, h1, _⟩ := TH.out.ls
        exact h1.lt hk'
      have KEY := hide (run_append_tx X1 w.heap.size (wr.heap.size + 1) (.slice so m sc) (some ⟨wr.heap.size, 0, none⟩) 2 2 (S.l10 k) [y, 5] 53 (TH.out.below bb) r1 (fun W hW => two8_at ((hW.block wr.heap.size (by omega) (fun e => by have := hlt0 _ e; omega)).trans ((b1.block _ (by omega)).trans r0))) (by rw [S.l10_length]; omega) (Nat.le_trans BH.out.size bb.size))
      have BX := hide (BH.out.trans (bb.mono BH.out.size))
      rw [hX1, hX0] at KEY BX
      clear hX0 hX1 s0 s1 b0 b1 r0 r1 bb hlt0
      go_wp2_with (at_builtin; (refine wpList_append_known rfl (.tmp 10) (.tmp 14) 53 53 rfl _ _ rfl rfl KEY.out ?_; rintro v' w' ⟨hR', hB'⟩))
      have hR2 := hide hR'
      exact ⟨⟨k + 1, by omega, by simp, by rw [S.l10_succ, ← HY.out]; exact hR2.out, BX.out.trans hB'⟩, by simp [intOf]; omega⟩
    · obtain rfl : k = n := by omega
      go_wp2
      go_ret
      exact ⟨_, rfl, hT, hB⟩
theorem size37 (a b c : Value) : (Tryd.prog.info? 37).map (·.size) = some #[a, b, c].size := by kernel_rfl
/-- A range of the document's is stored where another one lay. -/
theorem store_rr {n : Nat} {w0 w : World} {g : Nat} {a b c x y z : Value} (h : w.heap[g]? = some (.cells #[a, b, c] 37 (0, 0))) (hx : x.oneCell' = true) (hy : y.oneCell' = true) (hz : z.oneCell' = true) (hg : n ≤ g) (hb : Below n w0 w) :
    ∃ w', (Instr.storeAt 37 (.pointer (some ⟨g, 0, none⟩)) (.agg #[x, y, z])).run Tryd.prog w = .ok () w' ∧ w'.heap[g]? = some (.cells #[x, y, z] 37 (0, 0)) ∧ Below n w0 w' := by
  have hr := run_storeVar_row (P := Tryd.prog) w g 37 37 #[a, b, c] #[x, y, z] h (size37 x y z) rfl (all_oneCell_toArray (cs := [x, y, z]) (fun v hv => by simp only [List.mem_cons, List.not_mem_nil, or_false] at hv; rcases hv with rfl | rfl | rfl <;> assumption))
  refine ⟨w.setRow g #[x, y, z], ?_, setRow_heap _ _ _ _ _ _ h, below_setRow hb hg _⟩
  simp only [Instr.storeAt, Instr.sureAddr, Sem.run_bind, Sem.run_pure, Result.andThen_ok, hr]
set_option maxHeartbeats 4000000 in
theorem plain_any (b e : Nat) (ao : Option Addr) (n c : Nat) (w : World) :
   Calls Tryd.prog 21 #[.agg #[.int .u64 (b : Int), .int .u64 (e : Int), .slice ao n c]] w fun r w' => r = .returned (.agg #[.int .u64 (b : Int), .int .u64 (e : Int), .slice ao n c]) ∧ Below w.heap.size w w' := by
  go_enter Tryd.func21, Tryd.ntmps21
  go_upto_region 1 with fail
  generalize hW0 : w.alloc _ = W0
  generalize hW1 : W0.alloc _ = W1
  have B0 : Below w.heap.size w W0 := by rw [← hW0]; exact (Below.refl _ _).alloc (Nat.le_refl _) _
  have s0 : W0.heap.size = w.heap.size + 1 := by rw [← hW0]; simp
  have r0 : W0.heap[w.heap.size]? = some (.cells #[.int .u64 (b : Int), .int .u64 (e : Int), .slice ao n c] 30 (0, 0)) := by rw [← hW0]; exact heap_alloc_new _ _
  have B1 : Below W0.heap.size W0 W1 := by rw [← hW1]; exact (Below.refl _ _).alloc (Nat.le_refl _) _
  have s1 : W1.heap.size = w.heap.size + 2 := by rw [← hW1]; simp [s0]
  have r1 : W1.heap[w.heap.size + 1]? = some (.cells #[.int .u64 0, .int .u64 0, .slice none 0 0] 37 (0, 0)) := by rw [← hW1, ← s0]; exact heap_alloc_new _ _
  have BB : Hid (Below w.heap.size w W1) := (B0.trans (B1.mono (by omega)))
  have Q0 : Hid (W1.heap[w.heap.size]? = some (.cells #[.int .u64 (b : Int), .int .u64 (e : Int), .slice ao n c] 30 (0, 0))) := ((B1.block _ (by omega)).trans r0)
  have Q1 : Hid (W1.heap[w.heap.size + 1]? = some (.cells #[.int .u64 0, .int .u64 0, .slice none 0 0] 37 (0, 0))) := r1
  clear hW0 B0 s0 r0 hW1 B1 s1 r1
  obtain ⟨c0, c1, c2⟩ := cells3 Q0.out
  obtain ⟨d0, d1, d2⟩ := cells3 Q1.out
  obtain ⟨YF, hsf, rf, bf⟩ := store_rr (x := .int .u64 (b : Int)) (y := .int .u64 (e : Int)) (z := .slice ao n c) Q1.out rfl rfl rfl (hg := Nat.le_add_right w.heap.size 1) BB.out
  have RF := hide rf
  have BF := hide bf
  clear rf bf Q1 d0 d1 d2
  go_wp2_with (with_reducible refine at_op { dst := none, op := Op.store 37 (Operand.tmp 2) (Operand.tmp 9), type := 0, pos := "law.go:21", after := #[{ on := 6, ground := Ground.data }, { on := 0, ground := Ground.phase }, { on := 1, ground := Ground.phase }, { on := 2, ground := Ground.phase }, { on := 3, ground := Ground.phase }, { on := 4, ground := Ground.phase }, { on := 5, ground := Ground.phase }, { on := 6, ground := Ground.phase }], guard := none } ?_; refine wpList_store_as rfl 37 (.tmp 2) (.tmp 9) rfl (.pointer (some ⟨w.heap.size + 1, 0, none⟩)) (.agg #[.int .u64 (b : Int), .int .u64 (e : Int), .slice ao n c]) rfl rfl YF hsf ?_)
  exact bodyPost_ret (v := .agg #[.int .u64 (b : Int), .int .u64 (e : Int), .slice ao n c]) (results_cell_row (g := w.heap.size + 1) (t := 37) (fr := (0, 0)) Tryd.results21 _ _ _ _ rfl RF.out Tryd.underlying37 rfl (size37 _ _ _)) rfl ⟨rfl, BF.out⟩
set_option maxHeartbeats 4000000 in
set_option maxRecDepth 10000 in
theorem same14_any (b e : Nat) (v u : Value) (ds : List (List UInt8)) (w : World) (hv : DgAt w v ds) (hu : DgAt w u ds) :
   Calls Tryd.prog 14 #[.agg #[.int .u64 (b : Int), .int .u64 (e : Int), v], .agg #[.int .u64 (b : Int), .int .u64 (e : Int), u]] w fun r w' => r = .returned (.bool true) ∧ Below w.heap.size w w' := by
  obtain ⟨ao, ac, rfl⟩ := hv.form
  obtain ⟨bo, bc, rfl⟩ := hu.form
  have HV := hide hv
  have HU := hide hu
  obtain ⟨N, hN⟩ : ∃ N, N = ds.length := ⟨_, rfl⟩
  rw [← hN] at HV HU ⊢
  clear hv hu hN
  go_enter Tryd.func14, Tryd.ntmps14
  go_upto_region 1 with fail
  generalize hW0 : w.alloc _ = W0
  generalize hW1 : W0.alloc _ = W1
  have B0 : Below w.heap.size w W0 := by rw [← hW0]; exact (Below.refl _ _).alloc (Nat.le_refl _) _
  have s0 : W0.heap.size = w.heap.size + 1 := by rw [← hW0]; simp
  have r0 : W0.heap[w.heap.size]? = some (.cells #[.int .u64 (b : Int), .int .u64 (e : Int), .slice ao N ac] 30 (0, 0)) := by rw [← hW0]; exact heap_alloc_new _ _
  have B1 : Below W0.heap.size W0 W1 := by rw [← hW1]; exact (Below.refl _ _).alloc (Nat.le_refl _) _
  have s1 : W1.heap.size = w.heap.size + 2 := by rw [← hW1]; simp [s0]
  have r1 : W1.heap[w.heap.size + 1]? = some (.cells #[.int .u64 (b : Int), .int .u64 (e : Int), .slice bo N bc] 37 (0, 0)) := by rw [← hW1, ← s0]; exact heap_alloc_new _ _
  have BB : Hid (Below w.heap.size w W1) := (B0.trans (B1.mono (by omega)))
  have Q0 : Hid (W1.heap[w.heap.size]? = some (.cells #[.int .u64 (b : Int), .int .u64 (e : Int), .slice ao N ac] 30 (0, 0))) := ((B1.block _ (by omega)).trans r0)
  have Q1 : Hid (W1.heap[w.heap.size + 1]? = some (.cells #[.int .u64 (b : Int), .int .u64 (e : Int), .slice bo N bc] 37 (0, 0))) := r1
  clear hW0 B0 s0 r0 hW1 B1 s1 r1
  obtain ⟨c0, c1, c2⟩ := cells3 Q0.out
  obtain ⟨d0, d1, d2⟩ := cells3 Q1.out
  go_wp2_with fail
  refine (same_dg _ _ ds W1 (HV.out.below BB.out) (HU.out.below BB.out)).mono ?_
  rintro r W2 ⟨rfl, hst⟩
  have BF := hide (BB.out.trans (hst.below w.heap.size))
  clear hst
  go_wp2_with fail
  go_ret
  exact ⟨rfl, BF.out⟩
end Go.Proofs.YtkljajfgdelfgaaDoor
