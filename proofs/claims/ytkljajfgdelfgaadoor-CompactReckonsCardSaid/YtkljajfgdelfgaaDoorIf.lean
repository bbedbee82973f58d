/- The document's root of a range. -/
import Derived.Test.YtkljajfgdelfgaaDoorIe
import Derived.Test.YtkljajfgdelfgaaDoorFj
namespace Go.Proofs.YtkljajfgdelfgaaDoor
open Go.RowKit

theorem C.fold_drop (nd : List UInt8 → List UInt8 → List UInt8) (z : List UInt8) (hs : List (List UInt8)) (k : Nat) (h : k + 1 < hs.length) : C.fold nd z (hs.drop k) = nd (hs.getD k []) (C.fold nd z (hs.drop (k + 1))) := by
  rw [drop_cons k (by omega)]
  cases hx : hs.drop (k + 1) with
  | nil => have := congrArg List.length hx; simp at this; omega
  | cons g t => rw [C.fold]
theorem C.fold_last (nd : List UInt8 → List UInt8 → List UInt8) (z : List UInt8) (hs : List (List UInt8)) (k : Nat) (h : k + 1 = hs.length) : C.fold nd z (hs.drop k) = hs.getD k [] := by
  rw [drop_cons k (by omega), List.drop_eq_nil_of_le (by omega)]; rfl
theorem C.fold_len (a : Int) (hs : List (List UInt8)) (h32 : ∀ d ∈ hs, d.length = 32) (k : Nat) (h : k < hs.length) : (C.fold (S.node a) [] (hs.drop k)).length = 32 := by
  by_cases h2 : k + 1 < hs.length
  · rw [C.fold_drop _ _ _ _ h2]; exact S.node_length _ _ _
  · rw [C.fold_last _ _ _ _ (by omega), List.getD_eq_getElem?_getD, List.getElem?_eq_getElem h]
    exact h32 _ (List.getElem_mem _)
set_option maxHeartbeats 20000000 in
set_option maxRecDepth 10000 in
theorem rroot_any (a : Int) (gh gT b e : Nat) (u : Value) (hs : List (List UInt8)) (w : World) (hb : b < 18446744073709551616) (he : e < 18446744073709551616) (hu : DgAt w u hs) (hH : HsAt w gh gT a) :
   Calls Tryd.prog 23 #[.pointer (some ⟨gh, 0, none⟩), .agg #[.int .u64 (b : Int), .int .u64 (e : Int), u]] w fun r w' => r = .returned (.tuple #[.agg (S.v8 (C.rootA a b e hs).1), .int .i64 ((C.rootA a b e hs).2 : Int)]) ∧ Below w.heap.size w w' := by
  obtain ⟨uo, uc, rfl⟩ := hu.form
  obtain ⟨A, hA⟩ : ∃ A, A = C.rootA a b e hs := ⟨_, rfl⟩
  rw [← hA]
  have HA := hide hA
  obtain ⟨N, hN⟩ : ∃ N, N = hs.length := ⟨_, rfl⟩
  have hmax : hs.length ≤ 1000000 := by obtain ⟨_, _, _, h, _⟩ := hu; exact h
  have h32 : ∀ d ∈ hs, d.length = 32 := by obtain ⟨_, _, _, _, h, _⟩ := hu; exact h
  have HN := hide hN
  have HU := hide hu
  have H32 := hide h32
  have HH := hide hH
  rw [← hN] at HU hmax ⊢
  clear hu hH hA hN h32
  go_enter Tryd.func23, Tryd.ntmps23
  go_upto_region 1 with (with_reducible refine at_op { dst := some 4, op := Op.alloc 23, type := 0, pos := "ref.go:103", after := #[], guard := none } ?_; refine wpList_alloc_known rfl 23 rfl _ _ (alloc31 _) ?_)
  generalize hW0 : w.alloc _ = W0
  generalize hW1 : W0.alloc _ = W1
  have B0 : Below w.heap.size w W0 := by rw [← hW0]; exact (Below.refl _ _).alloc (Nat.le_refl _) _
  have s0 : W0.heap.size = w.heap.size + 1 := by rw [← hW0]; simp
  have r0 : W0.heap[w.heap.size]? = some (.cells #[.int .u64 (b : Int), .int .u64 (e : Int), .slice uo N uc] 37 (0, 0)) := by rw [← hW0]; exact heap_alloc_new _ _
  have B1 : Below W0.heap.size W0 W1 := by rw [← hW1]; exact (Below.refl _ _).alloc (Nat.le_refl _) _
  have s1 : W1.heap.size = w.heap.size + 2 := by rw [← hW1]; simp [s0]
  have r1 : W1.heap[w.heap.size + 1]? = some (.cells (S.v8 (S.zeros 32)) 23 (0, 0)) := by rw [← hW1, ← s0]; exact heap_alloc_new _ _
  have BB : Hid (Below w.heap.size w W1) := (B0.trans (B1.mono (by omega)))
  have Q0 : Hid (W1.heap[w.heap.size]? = some (.cells #[.int .u64 (b : Int), .int .u64 (e : Int), .slice uo N uc] 37 (0, 0))) := ((B1.block _ (by omega)).trans r0)
  have Q1 : Hid (W1.heap[w.heap.size + 1]? = some (.cells (S.v8 (S.zeros 32)) 23 (0, 0))) := r1
  clear hW0 B0 s0 r0 hW1 B1 s1 r1
  obtain ⟨c0, c1, c2⟩ := cells3 Q0.out
  go_wp2_with fail
  refine (rright_any b e N uc uo W1 hb he).mono ?_
  rintro r W3 ⟨rfl, hb3⟩
  have R0 : Hid (W3.heap[w.heap.size]? = some (.cells #[.int .u64 (b : Int), .int .u64 (e : Int), .slice uo N uc] 37 (0, 0))) := (hb3.block _ (block_lt_of_row Q0.out)).trans Q0.out
  have R2 : Hid (W3.heap[w.heap.size + 1]? = some (.cells (S.v8 (S.zeros 32)) 23 (0, 0))) := (hb3.block _ (block_lt_of_row Q1.out)).trans Q1.out
  have B3 := hide (BB.out.trans (hb3.mono BB.out.size))
  clear hb3 Q0 Q1 BB c0 c1 c2
  obtain ⟨c0, c1, c2⟩ := cells3 R0.out
  have hbu : ∀ W : World, (Instr.build 23 #[]).run Tryd.prog W = .ok (.agg (S.v8 (S.zeros 32))) W := fun W => congrFun zero_dig W
  obtain ⟨YZ, hsz, rz, cz, sz⟩ := store_dig R2.out (S.zeros_length 32) (S.zeros_length 32)
  have RZ := hide rz
  have BZ := hide (B3.out.trans (cz.below w.heap.size B3.out.size (fun j hj e => by omega)))
  clear rz cz sz
  by_cases hr : S.right b e N = true
  · obtain ⟨t1, t2, t3⟩ := S.right_of hr
    rw [hr]
    by_cases hb0 : b = 0
    · subst hb0
      by_cases he0 : e = 0
      · subst he0
        have hA2 := hide (show A = (S.root a [], 0) by rw [HA.out, C.rootA, if_pos (by rw [← HN.out]; exact hr), if_pos rfl, if_pos rfl])
        obtain rfl : N = 0 := by rw [t3, C.blocks_none 0 0 (by omega)]; rfl
        clear hr t1 t2 t3
        go_wp2_with fail
        refine (hroot_any gh gT a 0 [] (.slice none 0 0) W3 rfl (by omega) (BsAt.nil _) (fun x hx => by simp at hx) (HH.out.below B3.out (Nat.le_refl _))).mono ?_
        rintro r W4 ⟨rfl, hb4⟩
        obtain ⟨D, hD⟩ : ∃ D, D = S.root a [] := ⟨_, rfl⟩
        have LD := hide (show D.length = 32 by rw [hD]; exact S.root_length _ _)
        rw [← hD]
        rw [← hD] at hA2
        obtain ⟨YF, hsf, rf, cf, sf⟩ := store_dig ((hb4.block _ (block_lt_of_row R2.out)).trans R2.out) (S.zeros_length 32) LD.out
        have RF := hide rf
        have B4 := hide (B3.out.trans (hb4.mono B3.out.size))
        have BF := hide (B4.out.trans (cf.below w.heap.size B4.out.size (fun j hj e => by omega)))
        clear rf cf sf hb4 hD
        go_wp2_with (with_reducible refine at_op { dst := none, op := Op.store 23 (Operand.tmp 4) (Operand.tmp 23), type := 0, pos := "ref.go:112", after := #[{ on := 1, ground := Ground.data }, { on := 1, ground := Ground.chain }, { on := 0, ground := Ground.phase }, { on := 1, ground := Ground.phase }], guard := none } ?_; refine wpList_store_as rfl 23 (.tmp 4) (.tmp 23) rfl (.pointer (some ⟨w.heap.size + 1, 0, none⟩)) (.agg (S.v8 D)) rfl rfl YF hsf ?_)
        exact bodyPost_ret (v := .tuple #[.agg (S.v8 D), .int .i64 0]) (results_rt Tryd.results23 _ _ (w.heap.size + 1) _ rfl (var23 RF.out LD.out)) rfl ⟨by rw [hA2.out]; rfl, BF.out⟩
      · have hN1 : 0 < N := by
          rw [t3, C.blocks_cons 0 e (by omega) (by omega)]; simp
        have hA2 := hide (show A = (C.fold (S.node a) [] hs, 0) by rw [HA.out, C.rootA, if_pos (by rw [← HN.out]; exact hr), if_pos rfl, if_neg he0])
        have q1 : ((N : Int) == 0) = false := by simp; omega
        have q1' : ¬ (N : Int) = 0 := by omega
        have q1n : ¬ N = 0 := by omega
        obtain ⟨m, hm⟩ : ∃ m, m = N - 1 := ⟨_, rfl⟩
        have HM := hide (show m + 1 = N by omega)
        have qm : IntKind.i64.wrap ((N : Int) - 1) = (m : Int) := by rw [IntKind.wrap_i64]; omega
        have qm2 : IntKind.i64.wrap ((N : Int) - 2) = (m : Int) - 1 := by rw [IntKind.wrap_i64]; omega
        have q2 : (0 : Int) ≤ (m : Int) := by omega
        have q3 : (m : Int) < (N : Int) := by omega
        obtain ⟨gu, ou, cu, eu, hgu, hru, hpl⟩ := dg_at HU.out m (by rw [← HN.out]; omega)
        simp only [Value.slice.injEq] at eu
        obtain ⟨rfl, -, rfl⟩ := eu
        obtain ⟨L, hL⟩ : ∃ L, L = hs.getD m [] := ⟨_, rfl⟩
        rw [← hL] at hru hpl
        have LL := hide hpl
        have FL := hide (show C.fold (S.node a) [] (hs.drop m) = L by rw [hL]; exact C.fold_last _ _ _ _ (by rw [← HN.out]; omega))
        have hld := load_dmid (below_range B3.out hgu hru) hpl
        obtain ⟨A7, Y7, hal, hst, ry, by_, sy⟩ := lay_dig W3 L hpl
        obtain ⟨g7, hg7⟩ : ∃ g, g = W3.heap.size := ⟨_, rfl⟩
        rw [← hg7] at hal hst ry
        have RG := hide ry
        have P0 : Hid (Y7.heap[w.heap.size]? = some (.cells #[.int .u64 ((0 : Nat) : Int), .int .u64 (e : Int), .slice (some ⟨gu, ou, none⟩) N uc] 37 (0, 0))) := (by_.block _ (block_lt_of_row R0.out)).trans R0.out
        have P2 : Hid (Y7.heap[w.heap.size + 1]? = some (.cells (S.v8 (S.zeros 32)) 23 (0, 0))) := (by_.block _ (block_lt_of_row R2.out)).trans R2.out
        have B7 := hide (B3.out.trans (by_.mono B3.out.size))
        have G7 := hide (show w.heap.size + 1 < g7 by rw [hg7]; exact block_lt_of_row R2.out)
        have GU := hide hgu
        obtain ⟨VL, hVL⟩ : ∃ V, V = Value.agg (S.v8 L) := ⟨_, rfl⟩
        rw [← hVL] at hld hst
        clear hr t1 t2 t3 he0 hm hg7 ry by_ sy hVL hL hru hpl hgu R0 R2 hsz RZ BZ
        go_wp2_with (first | (with_reducible refine at_op { dst := some 29, op := Op.load 23 (Operand.tmp 28), type := 23, pos := "ref.go:114", after := #[{ on := 4, ground := Ground.data }], guard := none } ?_; refine wpList_load_as rfl 23 (.tmp 28) rfl (.pointer (some ⟨gu, ou + m * 32, none⟩)) rfl VL hld ?_) | (with_reducible refine at_op { dst := some 7, op := Op.alloc 23, type := 0, pos := "ref.go:114", after := #[], guard := none } ?_; refine wpList_alloc_known rfl 23 rfl (.pointer (some ⟨g7, 0, none⟩)) A7 hal ?_) | (with_reducible refine at_op { dst := none, op := Op.store 23 (Operand.tmp 7) (Operand.tmp 29), type := 0, pos := "ref.go:114", after := #[{ on := 6, ground := Ground.data }, { on := 5, ground := Ground.data }, { on := 0, ground := Ground.phase }, { on := 1, ground := Ground.phase }, { on := 2, ground := Ground.phase }, { on := 3, ground := Ground.phase }, { on := 4, ground := Ground.phase }, { on := 5, ground := Ground.phase }, { on := 6, ground := Ground.phase }], guard := none } ?_; refine wpList_store_as rfl 23 (.tmp 7) (.tmp 29) rfl (.pointer (some ⟨g7, 0, none⟩)) VL rfl rfl Y7 hst ?_))
        go_loopg [8] m (fun gk s8 wr => ∃ z : Int, gk ≤ m ∧ z = (gk : Int) - 1 ∧ s8 = .int .i64 z ∧ Hid (wr.heap[g7]? = some (.cells (S.v8 (C.fold (S.node a) [] (hs.drop gk))) 23 (0, 0))) ∧ Hid (Chg (fun k => k = g7) Y7 wr))
        case atStart => exact ⟨_, Nat.le_refl _, rfl, rfl, by rw [FL.out]; exact RG, hide (Chg.refl _ _)⟩
        case round =>
          clear RG c0 c1 c2 hal hst hld
          obtain ⟨z, hgk, hz, rfl, RG, CW⟩ := hrel
          obtain ⟨D, hD⟩ : ∃ D, D = C.fold (S.node a) [] (hs.drop gk) := ⟨_, rfl⟩
          have LD := hide (show D.length = 32 by rw [hD]; exact C.fold_len a hs H32.out gk (by have := HM.out; rw [← HN.out]; omega))
          rw [← hD] at RG
          have HD := hide hD
          have BW := hide (B7.out.trans (CW.out.below w.heap.size B7.out.size (fun k hk e => by have := G7.out; omega)))
          have RR := hide (CW.out.row P0.out (by have := G7.out; omega))
          have RQ := hide (CW.out.row P2.out (by have := G7.out; omega))
          clear hD
          cases gk with
          | zero =>
            obtain rfl : z = -1 := by omega
            have hl3 := load_dig RG.out LD.out
            obtain ⟨YF, hsf, rf, cf, sf⟩ := store_dig RQ.out (S.zeros_length 32) LD.out
            have RF := hide rf
            have BF := hide (BW.out.trans (cf.below w.heap.size BW.out.size (fun k hk e => by omega)))
            have hA3 := hide (show A = (D, 0) by rw [hA2.out, HD.out]; rfl)
            clear rf cf sf hgk hz
            go_wp2_with (first | (with_reducible refine at_op { dst := some 44, op := Op.load 23 (Operand.tmp 7), type := 23, pos := "ref.go:118", after := #[], guard := none } ?_; refine wpList_load_as rfl 23 (.tmp 7) rfl (.pointer (some ⟨g7, 0, none⟩)) rfl (.agg (S.v8 D)) hl3 ?_) | (with_reducible refine at_op { dst := none, op := Op.store 23 (Operand.tmp 4) (Operand.tmp 44), type := 0, pos := "ref.go:118", after := #[{ on := 0, ground := Ground.data }, { on := 0, ground := Ground.phase }], guard := none } ?_; refine wpList_store_as rfl 23 (.tmp 4) (.tmp 44) rfl (.pointer (some ⟨w.heap.size + 1, 0, none⟩)) (.agg (S.v8 D)) rfl rfl YF hsf ?_))
            exact bodyPost_ret (v := .tuple #[.agg (S.v8 D), .int .i64 0]) (results_rt Tryd.results23 _ _ (w.heap.size + 1) _ rfl (var23 RF.out LD.out)) rfl ⟨by rw [hA3.out]; rfl, BF.out⟩
          | succ gO =>
            obtain rfl : z = (gO : Int) := by omega
            have qi : (gO : Int) ≥ 0 := by omega
            have qi' : (0 : Int) ≤ (gO : Int) := by omega
            have ql : (gO : Int) < (N : Int) := by have := HM.out; omega
            have qd : IntKind.i64.wrap ((gO : Int) - 1) = (gO : Int) - 1 := by rw [IntKind.wrap_i64]; omega
            obtain ⟨gu', ou', cu', eu, hgu, hru, hpl⟩ := dg_at HU.out gO (by have := HM.out; rw [← HN.out]; omega)
            simp only [Value.slice.injEq, Option.some.injEq, Addr.mk.injEq, and_true] at eu
            obtain ⟨⟨rfl, rfl⟩, -, rfl⟩ := eu
            obtain ⟨X, hX⟩ : ∃ X, X = hs.getD gO [] := ⟨_, rfl⟩
            rw [← hX] at hru hpl
            have LX := hide hpl
            have RU := hide (below_range BW.out hgu hru)
            have hD2 := hide (show C.fold (S.node a) [] (hs.drop gO) = S.node a X D by rw [HD.out, hX]; exact C.fold_drop _ _ _ _ (by have := HM.out; rw [← HN.out]; omega))
            have hszX := size_dig X hpl
            clear hX hru hpl hgu hz
            go_wp2_with fail
            refine wp_region_noPanic ?_
            refine wp_region_held_drew (S := (fun W => Chg (fun k => k = g7) wr W)) follows ((Chg.refl _ _).drew) (fun hHeld => ?_)
            clear hHeld
            have hHeld : Chg (fun k => k = g7) wr wr.drew := (Chg.refl _ _).drew
            have CZ0 := hide hHeld
            have RG' : Hid (wr.drew.heap[g7]? = some (.cells (S.v8 D) 23 (0, 0))) := RG.out
            generalize wr.drew = Z0 at CZ0 hHeld RG' ⊢
            refine wpAnyH_take (i := 0) (oi := { dst := some 36, op := Op.move (Operand.tmp 0), type := 42, pos := "ref.go:116", after := #[], guard := none }) (v := ?_) rfl (by kernel_rfl) (by kernel_rfl) (by kernel_rfl) (fun _ _ _ h => h) (Or.inl ⟨by rfl, ?_⟩) (by assumption) ?_
            rotate_left
            · intro w hSw
              clear hSw
              go_simp
              all_goals with_reducible rfl
            simp only [Act.put, List.setIfInBounds_toArray, List.set_cons_zero, List.set_cons_succ]
            refine wpAnyH_take (i := 1) (oi := { dst := some 37, op := Op.fieldAddr 37 (Operand.tmp 3) 2, type := 0, pos := "ref.go:116", after := #[], guard := none }) (v := ?_) rfl (by kernel_rfl) (by kernel_rfl) (by kernel_rfl) (fun _ _ _ h => h) (Or.inl ⟨by rfl, ?_⟩) (by assumption) ?_
            rotate_left
            · intro w hSw
              clear hSw
              go_simp
              all_goals with_reducible rfl
            simp only [Act.put, List.setIfInBounds_toArray, List.set_cons_zero, List.set_cons_succ]
            refine wpAnyH_take (i := 2) (oi := { dst := some 38, op := Op.load 28 (Operand.tmp 37), type := 28, pos := "ref.go:116", after := #[{ on := 1, ground := Ground.data }], guard := none }) (v := ?_) rfl (by kernel_rfl) (by kernel_rfl) (by kernel_rfl) (fun _ _ _ h => h) (Or.inl ⟨by rfl, ?_⟩) (by assumption) ?_
            rotate_left
            · intro w hSw
              obtain ⟨f0, f1, f2⟩ := cells3 (hSw.row RR.out (by have := G7.out; omega))
              clear hSw
              go_simp
              all_goals with_reducible rfl
            simp only [Act.put, List.setIfInBounds_toArray, List.set_cons_zero, List.set_cons_succ]
            refine wpAnyH_take (i := 3) (oi := { dst := some 39, op := Op.move (Operand.tmp 8), type := 3, pos := "ref.go:116", after := #[], guard := none }) (v := ?_) rfl (by kernel_rfl) (by kernel_rfl) (by kernel_rfl) (fun _ _ _ h => h) (Or.inl ⟨by rfl, ?_⟩) (by assumption) ?_
            rotate_left
            · intro w hSw
              clear hSw
              go_simp
              all_goals with_reducible rfl
            simp only [Act.put, List.setIfInBounds_toArray, List.set_cons_zero, List.set_cons_succ]
            refine wpAnyH_take (i := 4) (oi := { dst := some 40, op := Op.indexAddr 28 (Operand.tmp 38) (Operand.tmp 39), type := 0, pos := "ref.go:116", after := #[{ on := 2, ground := Ground.data }, { on := 3, ground := Ground.data }], guard := none }) (v := ?_) rfl (by kernel_rfl) (by kernel_rfl) (by kernel_rfl) (fun _ _ _ h => h) (Or.inl ⟨by rfl, ?_⟩) (by assumption) ?_
            rotate_left
            · intro w hSw
              clear hSw
              go_simp
              all_goals with_reducible rfl
            simp only [Act.put, List.setIfInBounds_toArray, List.set_cons_zero, List.set_cons_succ]
            refine wpAnyH_take (i := 5) (oi := { dst := some 41, op := Op.load 23 (Operand.tmp 40), type := 23, pos := "ref.go:116", after := #[{ on := 4, ground := Ground.data }], guard := none }) (v := .agg (S.v8l X).toArray) rfl (by kernel_rfl) (by kernel_rfl) (by kernel_rfl) (fun _ _ _ h => h) (yieldsIf_load_mid (by rfl) _ _ rfl gu (ou + gO * 32) rfl (S.v8l X) _ (fun _ hSw => below_range (hSw.below w.heap.size BW.out.size (fun k hk e => by have := G7.out; omega)) GU.out RU.out) Tryd.underlying23 rfl (show _ = some (S.v8l X).toArray.size by rw [← S.v8_eq]; exact hszX)) (by assumption) ?_
            simp only [Act.put, List.setIfInBounds_toArray, List.set_cons_zero, List.set_cons_succ]
            refine wpAnyH_ready (rs := [6]) (by kernel_rfl) (by simp) ?_
            refine step_load (o := { dst := some 42, op := Op.load 23 (Operand.tmp 7), type := 23, pos := "ref.go:116", after := #[], guard := none }) rfl rfl 23 (.tmp 7) rfl (.agg (S.v8 D)) (load_dig RG'.out LD.out) AllReadyH.nil ⟨CZ0.out, fun hHeld => ?_⟩
            simp only [Act.put, List.setIfInBounds_toArray, List.set_cons_zero, List.set_cons_succ]
            refine wpAnyH_ready (rs := [7]) (by kernel_rfl) (by simp) ?_
            refine AllReadyH.cons (o := { dst := some 43, op := Op.call { callee := Callee.value (Operand.func 45), args := #[Operand.tmp 36, Operand.tmp 41, Operand.tmp 42], argTypes := #[42, 23, 23] }, type := 23, pos := "ref.go:116", after := #[{ on := 0, ground := Ground.data }, { on := 5, ground := Ground.data }, { on := 6, ground := Ground.data }], guard := none }) rfl (fun K hK => ?_) AllReadyH.nil
            go_simp
            refine (hnode_any gh gT a X D LX.out LD.out Z0 (HH.out.below (BW.out.trans (CZ0.out.below w.heap.size BW.out.size (fun k hk e => by have := G7.out; omega))) (Nat.le_refl _))).mono ?_
            rintro e Z1 ⟨rfl, hb2⟩
            rw [← hD2.out]
            replace RG' : Hid (Z1.heap[g7]? = some (.cells (S.v8 D) 23 (0, 0))) := (hb2.block _ (block_lt_of_row RG'.out)).trans RG'.out
            have CZ1 : Hid (Chg (fun k => k = g7) wr Z1) := CZ0.out.then hb2
            clear hb2 CZ0
            clear hHeld
            refine hK.out _ _ CZ1.out (fun hHeld => ?_)
            clear hK K
            try simp only [Act.put, List.setIfInBounds_toArray, List.set_cons_zero, List.set_cons_succ]
            refine wpAnyH_ready (rs := [8]) (by kernel_rfl) (by simp) ?_
            obtain ⟨Z2, hst, r6, C6, s6⟩ := store_dig RG'.out LD.out (C.fold_len a hs H32.out gO (by have := HM.out; rw [← HN.out]; omega))
            refine step_store_as (o := { dst := none, op := Op.store 23 (Operand.tmp 7) (Operand.tmp 43), type := 0, pos := "ref.go:116", after := #[{ on := 7, ground := Ground.data }, { on := 7, ground := Ground.chain }, { on := 0, ground := Ground.phase }, { on := 1, ground := Ground.phase }, { on := 2, ground := Ground.phase }, { on := 3, ground := Ground.phase }, { on := 4, ground := Ground.phase }, { on := 5, ground := Ground.phase }, { on := 6, ground := Ground.phase }, { on := 7, ground := Ground.phase }], guard := none }) rfl rfl 23 (.tmp 7) (.tmp 43) rfl _ _ rfl rfl Z2 hst AllReadyH.nil ⟨CZ1.out.trans C6 (fun k hk e => by first | exact e | exact Or.inl e | exact Or.inr e | omega), fun hHeld => ?_⟩
            replace RG' : Hid (Z2.heap[g7]? = some (.cells (S.v8 (C.fold (S.node a) [] (hs.drop gO))) 23 (0, 0))) := r6
            have CZ2 : Hid (Chg (fun k => k = g7) wr Z2) := CZ1.out.trans C6 (fun k hk e => by first | exact e | exact Or.inl e | exact Or.inr e | omega)
            clear hst r6 C6 s6 CZ1
            simp only [Act.put]
            refine wpAnyH_done (by kernel_rfl) ?_ _
            refine NoPanic.normal ?_
            clear hHeld
            have CF := hide (CW.out.trans CZ2.out (fun k hk e => e))
            generalize Z2 = Y at CF RG' ⊢
            clear CZ2
            go_wp2_with fail
            go_roundg gO
            case measure => omega
            case rel => exact ⟨_, by omega, rfl, rfl, RG', CF⟩
    · have hA2 := hide (show A = (S.zeros 32, 25) by rw [HA.out, C.rootA, if_pos (by rw [← HN.out]; exact hr), if_neg hb0])
      have q1 : ((b : Int) != 0) = true := by simp; omega
      have q1' : ¬ (b : Int) = 0 := by omega
      clear hr t1 t2 t3
      go_wp2_with (first | (with_reducible refine at_op { dst := some 16, op := Op.build 23 #[], type := 23, pos := "ref.go:108", after := #[], guard := none } ?_; refine wpList_build_as rfl 23 [] rfl [] rfl (.agg (S.v8 (S.zeros 32))) (hbu _) ?_) | (with_reducible refine at_op { dst := none, op := Op.store 23 (Operand.tmp 4) (Operand.tmp 16), type := 0, pos := "ref.go:108", after := #[{ on := 0, ground := Ground.data }, { on := 0, ground := Ground.phase }], guard := none } ?_; refine wpList_store_as rfl 23 (.tmp 4) (.tmp 16) rfl (.pointer (some ⟨w.heap.size + 1, 0, none⟩)) (.agg (S.v8 (S.zeros 32))) rfl rfl YZ hsz ?_))
      exact bodyPost_ret (v := .tuple #[.agg (S.v8 (S.zeros 32)), .int .i64 25]) (results_rt Tryd.results23 _ _ (w.heap.size + 1) _ rfl (var23 RZ.out (S.zeros_length 32))) rfl ⟨by rw [hA2.out]; rfl, BZ.out⟩
  · have hA2 := hide (show A = (S.zeros 32, 1) by rw [HA.out, C.rootA, if_neg (by rw [← HN.out]; exact hr)])
    rw [show S.right b e N = false by simpa using hr]
    clear hr
    go_wp2_with (first | (with_reducible refine at_op { dst := some 12, op := Op.build 23 #[], type := 23, pos := "ref.go:105", after := #[], guard := none } ?_; refine wpList_build_as rfl 23 [] rfl [] rfl (.agg (S.v8 (S.zeros 32))) (hbu _) ?_) | (with_reducible refine at_op { dst := none, op := Op.store 23 (Operand.tmp 4) (Operand.tmp 12), type := 0, pos := "ref.go:105", after := #[{ on := 0, ground := Ground.data }, { on := 0, ground := Ground.phase }], guard := none } ?_; refine wpList_store_as rfl 23 (.tmp 4) (.tmp 12) rfl (.pointer (some ⟨w.heap.size + 1, 0, none⟩)) (.agg (S.v8 (S.zeros 32))) rfl rfl YZ hsz ?_))
    exact bodyPost_ret (v := .tuple #[.agg (S.v8 (S.zeros 32)), .int .i64 1]) (results_rt Tryd.results23 _ _ (w.heap.size + 1) _ rfl (var23 RZ.out (S.zeros_length 32))) rfl ⟨by rw [hA2.out]; rfl, BZ.out⟩
end Go.Proofs.YtkljajfgdelfgaaDoor
