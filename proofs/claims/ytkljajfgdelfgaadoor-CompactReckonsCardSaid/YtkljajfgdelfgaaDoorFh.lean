/- One leaf more; two ranges side by side. -/
import Derived.Test.YtkljajfgdelfgaaDoorFg
namespace Go.Proofs.YtkljajfgdelfgaaDoor
open Go.RowKit

theorem S.right_of {b e n : Nat} (h : S.right b e n = true) : b ≤ e ∧ e ≤ 4294967296 ∧ n = (C.blocks b e).length := by
  simpa [S.right] using h
theorem blocks_next (e : Nat) (h : e < 4294967296) : (C.blocks e (e + 1)).length = 1 := by
  rw [show e + 1 = e + 2 ^ 0 from rfl, C.blocks_pow e 0 (Nat.one_dvd e) (by rw [Nat.pow_zero]; omega)]; rfl
set_option maxHeartbeats 20000000 in
set_option maxRecDepth 10000 in
theorem add_any (a : Int) (b e : Nat) (u : Value) (hs : List (List UInt8)) (d : List UInt8) (w : World) (hb : b < 18446744073709551616) (he : e < 18446744073709551616) (hd : d.length = 32) (hu : DgAt w u hs) (hK : KAt w) :
   Calls Tryd.prog 11 #[.int .i64 a, .agg #[.int .u64 (b : Int), .int .u64 (e : Int), u], .agg (S.v8 d)] w fun r w' => Ansd w w' r (C.addA a b e hs d) := by
  obtain ⟨uo, uc, rfl⟩ := hu.form
  obtain ⟨A, hA⟩ : ∃ A, A = C.addA a b e hs d := ⟨_, rfl⟩
  rw [← hA]
  have HA := hide hA
  obtain ⟨N, hN⟩ : ∃ N, N = hs.length := ⟨_, rfl⟩
  have HN := hide hN
  have HU := hide hu
  have HD := hide hd
  have HK := hide hK
  have h0 := hK.pos
  rw [← hN] at HU ⊢
  clear hu hd hK hA hN
  go_enter Tryd.func11, Tryd.ntmps11
  go_upto_region 1 with fail
  generalize hW0 : w.alloc _ = W0
  generalize hW1 : W0.alloc _ = W1
  generalize hW2 : W1.alloc _ = W2
  have B0 : Below w.heap.size w W0 := by rw [← hW0]; exact (Below.refl _ _).alloc (Nat.le_refl _) _
  have s0 : W0.heap.size = w.heap.size + 1 := by rw [← hW0]; simp
  have r0 : W0.heap[w.heap.size]? = some (.cells #[.int .u64 (b : Int), .int .u64 (e : Int), .slice uo N uc] 30 (0, 0)) := by rw [← hW0]; exact heap_alloc_new _ _
  have B1 : Below W0.heap.size W0 W1 := by rw [← hW1]; exact (Below.refl _ _).alloc (Nat.le_refl _) _
  have s1 : W1.heap.size = w.heap.size + 2 := by rw [← hW1]; simp [s0]
  have r1 : W1.heap[w.heap.size + 1]? = some (.cells (S.v8 d) 23 (0, 0)) := by rw [← hW1, ← s0]; exact heap_alloc_new _ _
  have B2 : Below W1.heap.size W1 W2 := by rw [← hW2]; exact (Below.refl _ _).alloc (Nat.le_refl _) _
  have s2 : W2.heap.size = w.heap.size + 3 := by rw [← hW2]; simp [s1]
  have r2 : W2.heap[w.heap.size + 2]? = some (.cells #[.int .u64 0, .int .u64 0, .slice none 0 0] 30 (0, 0)) := by rw [← hW2, ← s1]; exact heap_alloc_new _ _
  have BB : Hid (Below w.heap.size w W2) := ((B0.trans (B1.mono (by omega))).trans (B2.mono (by omega)))
  have Q0 : Hid (W2.heap[w.heap.size]? = some (.cells #[.int .u64 (b : Int), .int .u64 (e : Int), .slice uo N uc] 30 (0, 0))) := ((B2.block _ (by omega)).trans ((B1.block _ (by omega)).trans r0))
  have Q1 : Hid (W2.heap[w.heap.size + 1]? = some (.cells (S.v8 d) 23 (0, 0))) := ((B2.block _ (by omega)).trans r1)
  have Q2 : Hid (W2.heap[w.heap.size + 2]? = some (.cells #[.int .u64 0, .int .u64 0, .slice none 0 0] 30 (0, 0))) := r2
  clear hW0 B0 s0 r0 hW1 B1 s1 r1 hW2 B2 s2 r2
  obtain ⟨c0, c1, c2⟩ := cells3 Q0.out
  go_wp2_with fail
  refine (right_any b e N uc uo W2 hb he).mono ?_
  rintro r W3 ⟨rfl, hb3⟩
  have R0 : Hid (W3.heap[w.heap.size]? = some (.cells #[.int .u64 (b : Int), .int .u64 (e : Int), .slice uo N uc] 30 (0, 0))) := (hb3.block _ (block_lt_of_row Q0.out)).trans Q0.out
  have R1 : Hid (W3.heap[w.heap.size + 1]? = some (.cells (S.v8 d) 23 (0, 0))) := (hb3.block _ (block_lt_of_row Q1.out)).trans Q1.out
  have R2 : Hid (W3.heap[w.heap.size + 2]? = some (.cells #[.int .u64 0, .int .u64 0, .slice none 0 0] 30 (0, 0))) := (hb3.block _ (block_lt_of_row Q2.out)).trans Q2.out
  have B3 := hide (BB.out.trans (hb3.mono BB.out.size))
  clear hb3 Q0 Q1 Q2 BB c0 c1 c2
  obtain ⟨c0, c1, c2⟩ := cells3 R0.out
  by_cases hr : S.right b e N = true ∧ e ≠ 4294967296
  · obtain ⟨hr1, hr2⟩ := hr
    rw [hr1]
    obtain ⟨t1, t2, t3⟩ := S.right_of hr1
    have q1 : ((e : Int) == 4294967296) = false := by simp; omega
    have q1' : ¬ (e : Int) = 4294967296 := by omega
    have qa : IntKind.u64.wrap ((e : Int) + 1) = ((e + 1 : Nat) : Int) := by rw [IntKind.wrap_u64]; omega
    have hA2 := hide (show A = ⟨b, e + 1, C.glue (S.node a) [] b e (e + 1) hs [d], 0⟩ by rw [HA.out, C.addA, if_pos ⟨by rw [← HN.out]; exact hr1, hr2⟩])
    obtain ⟨e1, he1⟩ : ∃ n, n = e + 1 := ⟨_, rfl⟩
    rw [← he1] at qa hA2
    have HE1 := hide he1
    have H3 := hide (And.intro t1 (And.intro t2 t3))
    have hld := load_dig R1.out HD.out
    have hbs := bs24one W3 d HD.out
    obtain ⟨X, hX⟩ : ∃ X, X = W3.alloc (.cells (S.v8 d) 23) := ⟨_, rfl⟩
    rw [← hX] at hbs
    have bx : Below W3.heap.size W3 X := by rw [hX]; exact (Below.refl _ _).alloc (Nat.le_refl _) _
    have rx : X.heap[W3.heap.size]? = some (.cells (S.v8 d) 23 (0, 0)) := by rw [hX]; exact heap_alloc_new _ _
    obtain ⟨gx, hgx⟩ : ∃ g, g = W3.heap.size := ⟨_, rfl⟩
    rw [← hgx] at hbs rx
    have BX := hide (B3.out.trans (bx.mono B3.out.size))
    have X0 : Hid (X.heap[w.heap.size]? = some (.cells #[.int .u64 (b : Int), .int .u64 (e : Int), .slice uo N uc] 30 (0, 0))) := (bx.block _ (block_lt_of_row R0.out)).trans R0.out
    have X2 : Hid (X.heap[w.heap.size + 2]? = some (.cells #[.int .u64 0, .int .u64 0, .slice none 0 0] 30 (0, 0))) := (bx.block _ (block_lt_of_row R2.out)).trans R2.out
    have RX := hide rx
    obtain ⟨VD, hVD⟩ : ∃ V, V = Value.agg (S.v8 d) := ⟨_, rfl⟩
    rw [← hVD] at hld hbs
    clear t1 t2 t3 he1 bx rx hX hgx hVD hr1 hr2
    go_upto_region 4 with (first | (with_reducible refine at_op { dst := some 23, op := Op.load 23 (Operand.tmp 5), type := 23, pos := "compact.go:39", after := #[], guard := none } ?_; refine wpList_load_as rfl 23 (.tmp 5) rfl (.pointer (some ⟨w.heap.size + 1, 0, none⟩)) rfl VD hld ?_) | (with_reducible refine at_op { dst := some 24, op := Op.buildSlice 28 1 #[(0, Operand.tmp 23)], type := 28, pos := "compact.go:39", after := #[{ on := 5, ground := Ground.data }], guard := none } ?_; refine wpList_buildSlice_as rfl 28 1 [(0, .tmp 23)] rfl [(0, VD)] rfl _ _ hbs ?_))
    generalize hY : X.alloc _ = Y
    have by_ : Below X.heap.size X Y := by rw [← hY]; exact (Below.refl _ _).alloc (Nat.le_refl _) _
    have ry : Y.heap[X.heap.size]? = some (.cells #[.int .u64 (e : Int), .int .u64 (e1 : Int), .slice (some ⟨gx, 0, none⟩) 1 1] 30 (0, 0)) := by rw [← hY]; exact heap_alloc_new _ _
    obtain ⟨gy, hgy⟩ : ∃ g, g = X.heap.size := ⟨_, rfl⟩
    rw [← hgy] at ry ⊢
    have Y0 : Hid (Y.heap[w.heap.size]? = some (.cells #[.int .u64 (b : Int), .int .u64 (e : Int), .slice uo N uc] 30 (0, 0))) := (by_.block _ (block_lt_of_row X0.out)).trans X0.out
    have Y2 : Hid (Y.heap[w.heap.size + 2]? = some (.cells #[.int .u64 0, .int .u64 0, .slice none 0 0] 30 (0, 0))) := (by_.block _ (block_lt_of_row X2.out)).trans X2.out
    have YX : Hid (Y.heap[gx]? = some (.cells (S.v8 d) 23 (0, 0))) := (by_.block _ (block_lt_of_row RX.out)).trans RX.out
    have BY := hide (BX.out.trans (by_.mono BX.out.size))
    have HUY := hide (HU.out.below BY.out)
    have HDY := hide ((dgRow_one (B := 0) YX.out HD.out (Nat.zero_le _)).dgAt (by simp) (by simpa using HD.out))
    obtain ⟨m0, m1, m2⟩ := cells3 Y0.out
    obtain ⟨k0, k1, k2⟩ := cells3 ry
    clear by_ ry hY hgy R0 R1 R2 X0 X2 c0 c1 c2 BX B3 RX
    go_wp2_with fail
    refine (joined_any a b e e1 (.slice uo N uc) (.slice (some ⟨gx, 0, none⟩) 1 1) hs [d] Y H3.out.1 (by have := HE1.out; omega) (by have := HE1.out; have := H3.out.2.1; omega) HUY.out HDY.out (by rw [← HN.out]; exact H3.out.2.2) (by rw [HE1.out, blocks_next e (by have := H3.out.2.1; omega)]; rfl) (HK.out.below BY.out h0)).mono ?_
    rintro r Z ⟨⟨v, rfl, hv⟩, hbz⟩
    have HV := hide (hv.mono BY.out.size)
    obtain ⟨vo, vc, rfl⟩ := hv.form
    obtain ⟨vn, hvn⟩ : ∃ n, n = (C.glue (S.node a) [] b e e1 hs [d]).length := ⟨_, rfl⟩
    rw [← hvn] at HV ⊢
    have Z2 : Hid (Z.heap[w.heap.size + 2]? = some (.cells #[.int .u64 0, .int .u64 0, .slice none 0 0] 30 (0, 0))) := (hbz.block _ (block_lt_of_row Y2.out)).trans Y2.out
    obtain ⟨YF, hsf, rf, cf, sf⟩ := store_rg (x := .int .u64 (b : Int)) (y := .int .u64 (e1 : Int)) (z := .slice vo vn vc) Z2.out rfl rfl rfl
    have RF := hide rf
    have BZ := hide (BY.out.trans (hbz.mono BY.out.size))
    have DFF := hide (Rw.chg (el := 23) HV.out cf (fun j hj e => (Rw.apart (el := 23) HV.out Z2.out (by decide)) (by rw [← e]; exact hj)))
    have BFF := hide (BZ.out.trans (cf.below w.heap.size BZ.out.size (fun j hj e => by omega)))
    clear rf cf sf hv hbz hvn Z2 Y0 Y2 YX HUY HDY m0 m1 m2 k0 k1 k2
    go_wp2_with (with_reducible refine at_op { dst := none, op := Op.store 30 (Operand.tmp 6) (Operand.tmp 29), type := 0, pos := "compact.go:40", after := #[{ on := 3, ground := Ground.data }, { on := 3, ground := Ground.chain }, { on := 0, ground := Ground.phase }, { on := 1, ground := Ground.phase }, { on := 2, ground := Ground.phase }, { on := 3, ground := Ground.phase }], guard := none } ?_; refine wpList_store_as rfl 30 (.tmp 6) (.tmp 29) rfl (.pointer (some ⟨w.heap.size + 1 + 1, 0, none⟩)) (.agg #[.int .u64 (b : Int), .int .u64 (e1 : Int), .slice vo vn vc]) rfl rfl YF hsf ?_)
    exact bodyPost_ret (v := .tuple #[.agg #[.int .u64 (b : Int), .int .u64 (e1 : Int), .slice vo vn vc], .int .i64 0]) (results_rt Tryd.results11 _ _ (w.heap.size + 2) _ rfl (var30 RF.out)) rfl ⟨⟨_, by rw [hA2.out]; rfl, by rw [hA2.out]; exact DFF.out⟩, BFF.out⟩
  · have hA2 := hide (show A = C.no1 by rw [HA.out, C.addA, if_neg (by rw [← HN.out]; exact hr)])
    obtain ⟨YF, hsf, rf, cf, sf⟩ := store_rg (x := .int .u64 0) (y := .int .u64 0) (z := .slice none 0 0) R2.out rfl rfl rfl
    have RF := hide rf
    have BF := hide (B3.out.trans (cf.below w.heap.size B3.out.size (fun j hj e => by omega)))
    clear rf cf sf
    by_cases hr1 : S.right b e N = true
    · have hr2 : e = 4294967296 := by
        by_cases h : e = 4294967296
        · exact h
        · exact absurd ⟨hr1, h⟩ hr
      rw [hr1]
      have q1 : (e : Int) = 4294967296 := by omega
      clear hr hr1 hr2
      go_wp2_with (with_reducible refine at_op { dst := none, op := Op.store 30 (Operand.tmp 6) (Operand.tmp 17), type := 0, pos := "compact.go:37", after := #[{ on := 0, ground := Ground.data }, { on := 0, ground := Ground.phase }], guard := none } ?_; refine wpList_store_as rfl 30 (.tmp 6) (.tmp 17) rfl (.pointer (some ⟨w.heap.size + 1 + 1, 0, none⟩)) (.agg #[.int .u64 0, .int .u64 0, .slice none 0 0]) rfl rfl YF hsf ?_)
      exact bodyPost_ret (v := .tuple #[.agg #[.int .u64 0, .int .u64 0, .slice none 0 0], .int .i64 1]) (results_rt Tryd.results11 _ _ (w.heap.size + 2) _ rfl (var30 RF.out)) rfl ⟨⟨_, by rw [hA2.out]; rfl, by rw [hA2.out]; exact DgRow.nil _ _⟩, BF.out⟩
    · rw [show S.right b e N = false by simpa using hr1]
      clear hr hr1
      go_wp2_with (with_reducible refine at_op { dst := none, op := Op.store 30 (Operand.tmp 6) (Operand.tmp 17), type := 0, pos := "compact.go:37", after := #[{ on := 0, ground := Ground.data }, { on := 0, ground := Ground.phase }], guard := none } ?_; refine wpList_store_as rfl 30 (.tmp 6) (.tmp 17) rfl (.pointer (some ⟨w.heap.size + 1 + 1, 0, none⟩)) (.agg #[.int .u64 0, .int .u64 0, .slice none 0 0]) rfl rfl YF hsf ?_)
      exact bodyPost_ret (v := .tuple #[.agg #[.int .u64 0, .int .u64 0, .slice none 0 0], .int .i64 1]) (results_rt Tryd.results11 _ _ (w.heap.size + 2) _ rfl (var30 RF.out)) rfl ⟨⟨_, by rw [hA2.out]; rfl, by rw [hA2.out]; exact DgRow.nil _ _⟩, BF.out⟩
set_option maxHeartbeats 20000000 in
set_option maxRecDepth 10000 in
theorem merge_any (a : Int) (b e b' e' : Nat) (u u' : Value) (hs hs' : List (List UInt8)) (w : World) (hb : b < 18446744073709551616) (he : e < 18446744073709551616) (hb' : b' < 18446744073709551616) (he' : e' < 18446744073709551616) (hu : DgAt w u hs) (hu' : DgAt w u' hs') (hK : KAt w) :
   Calls Tryd.prog 13 #[.int .i64 a, .agg #[.int .u64 (b : Int), .int .u64 (e : Int), u], .agg #[.int .u64 (b' : Int), .int .u64 (e' : Int), u']] w fun r w' => Ansd w w' r (C.mergeA a b e hs b' e' hs') := by
  obtain ⟨uo, uc, rfl⟩ := hu.form
  obtain ⟨vo, vc, rfl⟩ := hu'.form
  obtain ⟨A, hA⟩ : ∃ A, A = C.mergeA a b e hs b' e' hs' := ⟨_, rfl⟩
  rw [← hA]
  have HA := hide hA
  obtain ⟨N, hN⟩ : ∃ N, N = hs.length := ⟨_, rfl⟩
  obtain ⟨M, hM⟩ : ∃ M, M = hs'.length := ⟨_, rfl⟩
  have HN := hide (And.intro hN hM)
  have HU := hide hu
  have HU' := hide hu'
  have HK := hide hK
  have h0 := hK.pos
  rw [← hN] at HU ⊢
  rw [← hM] at HU' ⊢
  clear hu hu' hK hA hN hM
  go_enter Tryd.func13, Tryd.ntmps13
  go_upto_region 1 with fail
  generalize hW0 : w.alloc _ = W0
  generalize hW1 : W0.alloc _ = W1
  generalize hW2 : W1.alloc _ = W2
  have B0 : Below w.heap.size w W0 := by rw [← hW0]; exact (Below.refl _ _).alloc (Nat.le_refl _) _
  have s0 : W0.heap.size = w.heap.size + 1 := by rw [← hW0]; simp
  have r0 : W0.heap[w.heap.size]? = some (.cells #[.int .u64 (b : Int), .int .u64 (e : Int), .slice uo N uc] 30 (0, 0)) := by rw [← hW0]; exact heap_alloc_new _ _
  have B1 : Below W0.heap.size W0 W1 := by rw [← hW1]; exact (Below.refl _ _).alloc (Nat.le_refl _) _
  have s1 : W1.heap.size = w.heap.size + 2 := by rw [← hW1]; simp [s0]
  have r1 : W1.heap[w.heap.size + 1]? = some (.cells #[.int .u64 (b' : Int), .int .u64 (e' : Int), .slice vo M vc] 30 (0, 0)) := by rw [← hW1, ← s0]; exact heap_alloc_new _ _
  have B2 : Below W1.heap.size W1 W2 := by rw [← hW2]; exact (Below.refl _ _).alloc (Nat.le_refl _) _
  have s2 : W2.heap.size = w.heap.size + 3 := by rw [← hW2]; simp [s1]
  have r2 : W2.heap[w.heap.size + 2]? = some (.cells #[.int .u64 0, .int .u64 0, .slice none 0 0] 30 (0, 0)) := by rw [← hW2, ← s1]; exact heap_alloc_new _ _
  have BB : Hid (Below w.heap.size w W2) := ((B0.trans (B1.mono (by omega))).trans (B2.mono (by omega)))
  have Q0 : Hid (W2.heap[w.heap.size]? = some (.cells #[.int .u64 (b : Int), .int .u64 (e : Int), .slice uo N uc] 30 (0, 0))) := ((B2.block _ (by omega)).trans ((B1.block _ (by omega)).trans r0))
  have Q1 : Hid (W2.heap[w.heap.size + 1]? = some (.cells #[.int .u64 (b' : Int), .int .u64 (e' : Int), .slice vo M vc] 30 (0, 0))) := ((B2.block _ (by omega)).trans r1)
  have Q2 : Hid (W2.heap[w.heap.size + 2]? = some (.cells #[.int .u64 0, .int .u64 0, .slice none 0 0] 30 (0, 0))) := r2
  clear hW0 B0 s0 r0 hW1 B1 s1 r1 hW2 B2 s2 r2
  obtain ⟨c0, c1, c2⟩ := cells3 Q0.out
  obtain ⟨d0, d1, d2⟩ := cells3 Q1.out
  go_wp2_with fail
  refine (right_any b e N uc uo W2 hb he).mono ?_
  rintro r W3 ⟨rfl, hb3⟩
  have S0 : Hid (W3.heap[w.heap.size]? = some (.cells #[.int .u64 (b : Int), .int .u64 (e : Int), .slice uo N uc] 30 (0, 0))) := (hb3.block _ (block_lt_of_row Q0.out)).trans Q0.out
  have S1 : Hid (W3.heap[w.heap.size + 1]? = some (.cells #[.int .u64 (b' : Int), .int .u64 (e' : Int), .slice vo M vc] 30 (0, 0))) := (hb3.block _ (block_lt_of_row Q1.out)).trans Q1.out
  have S2 : Hid (W3.heap[w.heap.size + 2]? = some (.cells #[.int .u64 0, .int .u64 0, .slice none 0 0] 30 (0, 0))) := (hb3.block _ (block_lt_of_row Q2.out)).trans Q2.out
  have B3 := hide (BB.out.trans (hb3.mono BB.out.size))
  clear hb3 Q0 Q1 Q2 c0 c1 c2 d0 d1 d2 BB
  obtain ⟨c0, c1, c2⟩ := cells3 S0.out
  obtain ⟨d0, d1, d2⟩ := cells3 S1.out
  by_cases hr1 : S.right b e N = true
  · rw [hr1]
    go_wp2_with fail
    refine (right_any b' e' M vc vo W3 hb' he').mono ?_
    rintro r W4 ⟨rfl, hb4⟩
    have T0 : Hid (W4.heap[w.heap.size]? = some (.cells #[.int .u64 (b : Int), .int .u64 (e : Int), .slice uo N uc] 30 (0, 0))) := (hb4.block _ (block_lt_of_row S0.out)).trans S0.out
    have T1 : Hid (W4.heap[w.heap.size + 1]? = some (.cells #[.int .u64 (b' : Int), .int .u64 (e' : Int), .slice vo M vc] 30 (0, 0))) := (hb4.block _ (block_lt_of_row S1.out)).trans S1.out
    have T2 : Hid (W4.heap[w.heap.size + 2]? = some (.cells #[.int .u64 0, .int .u64 0, .slice none 0 0] 30 (0, 0))) := (hb4.block _ (block_lt_of_row S2.out)).trans S2.out
    have B4 := hide (B3.out.trans (hb4.mono B3.out.size))
    clear hb4 S0 S1 S2 c0 c1 c2 d0 d1 d2
    obtain ⟨c0, c1, c2⟩ := cells3 T0.out
    obtain ⟨d0, d1, d2⟩ := cells3 T1.out
    by_cases hr2 : S.right b' e' M = true
    · rw [hr2]
      obtain ⟨t1, t2, t3⟩ := S.right_of hr1
      obtain ⟨s1, s2, s3⟩ := S.right_of hr2
      by_cases hm : e = b'
      · have hA2 := hide (show A = ⟨b, e', C.glue (S.node a) [] b e e' hs hs', 0⟩ by rw [HA.out, C.mergeA, if_pos ⟨by rw [← HN.out.1]; exact hr1, by rw [← HN.out.2]; exact hr2⟩, if_pos hm])
        subst hm
        clear hr1 hr2
        have H3 := hide (And.intro (And.intro t1 s1) (And.intro s2 (And.intro t3 s3)))
        have HUY := hide (HU.out.below B4.out)
        have HVY := hide (HU'.out.below B4.out)
        clear t1 t2 t3 s1 s2 s3
        go_wp2_with fail
        refine (joined_any a b e e' (.slice uo N uc) (.slice vo M vc) hs hs' W4 H3.out.1.1 H3.out.1.2 H3.out.2.1 HUY.out HVY.out (by rw [← HN.out.1]; exact H3.out.2.2.1) (by rw [← HN.out.2]; exact H3.out.2.2.2) (HK.out.below B4.out h0)).mono ?_
        rintro r Z ⟨⟨v, rfl, hv⟩, hbz⟩
        have HV := hide (hv.mono B4.out.size)
        obtain ⟨wo, wc, rfl⟩ := hv.form
        obtain ⟨wn, hwn⟩ : ∃ n, n = (C.glue (S.node a) [] b e e' hs hs').length := ⟨_, rfl⟩
        rw [← hwn] at HV ⊢
        have Z2 : Hid (Z.heap[w.heap.size + 2]? = some (.cells #[.int .u64 0, .int .u64 0, .slice none 0 0] 30 (0, 0))) := (hbz.block _ (block_lt_of_row T2.out)).trans T2.out
        obtain ⟨YF, hsf, rf, cf, sf⟩ := store_rg (x := .int .u64 (b : Int)) (y := .int .u64 (e' : Int)) (z := .slice wo wn wc) Z2.out rfl rfl rfl
        have RF := hide rf
        have BZ := hide (B4.out.trans (hbz.mono B4.out.size))
        have DFF := hide (Rw.chg (el := 23) HV.out cf (fun j hj e => (Rw.apart (el := 23) HV.out Z2.out (by decide)) (by rw [← e]; exact hj)))
        have BFF := hide (BZ.out.trans (cf.below w.heap.size BZ.out.size (fun j hj e => by omega)))
        clear rf cf sf hv hbz hwn Z2 HUY HVY c0 c1 c2 d0 d1 d2
        go_wp2_with (with_reducible refine at_op { dst := none, op := Op.store 30 (Operand.tmp 6) (Operand.tmp 28), type := 0, pos := "compact.go:51", after := #[{ on := 3, ground := Ground.data }, { on := 3, ground := Ground.chain }, { on := 0, ground := Ground.phase }, { on := 1, ground := Ground.phase }, { on := 2, ground := Ground.phase }, { on := 3, ground := Ground.phase }], guard := none } ?_; refine wpList_store_as rfl 30 (.tmp 6) (.tmp 28) rfl (.pointer (some ⟨w.heap.size + 1 + 1, 0, none⟩)) (.agg #[.int .u64 (b : Int), .int .u64 (e' : Int), .slice wo wn wc]) rfl rfl YF hsf ?_)
        exact bodyPost_ret (v := .tuple #[.agg #[.int .u64 (b : Int), .int .u64 (e' : Int), .slice wo wn wc], .int .i64 0]) (results_rt Tryd.results13 _ _ (w.heap.size + 2) _ rfl (var30 RF.out)) rfl ⟨⟨_, by rw [hA2.out]; rfl, by rw [hA2.out]; exact DFF.out⟩, BFF.out⟩
      · have hA2 := hide (show A = C.no25 by rw [HA.out, C.mergeA, if_pos ⟨by rw [← HN.out.1]; exact hr1, by rw [← HN.out.2]; exact hr2⟩, if_neg hm])
        have q1 : ((e : Int) != (b' : Int)) = true := by simp; omega
        have q1' : ¬ (e : Int) = (b' : Int) := by omega
        obtain ⟨YF, hsf, rf, cf, sf⟩ := store_rg (x := .int .u64 0) (y := .int .u64 0) (z := .slice none 0 0) T2.out rfl rfl rfl
        have RF := hide rf
        have BF := hide (B4.out.trans (cf.below w.heap.size B4.out.size (fun j hj e => by omega)))
        clear rf cf sf hr1 hr2 t1 t2 t3 s1 s2 s3
        go_wp2_with (with_reducible refine at_op { dst := none, op := Op.store 30 (Operand.tmp 6) (Operand.tmp 24), type := 0, pos := "compact.go:49", after := #[{ on := 0, ground := Ground.data }, { on := 0, ground := Ground.phase }], guard := none } ?_; refine wpList_store_as rfl 30 (.tmp 6) (.tmp 24) rfl (.pointer (some ⟨w.heap.size + 1 + 1, 0, none⟩)) (.agg #[.int .u64 0, .int .u64 0, .slice none 0 0]) rfl rfl YF hsf ?_)
        exact bodyPost_ret (v := .tuple #[.agg #[.int .u64 0, .int .u64 0, .slice none 0 0], .int .i64 25]) (results_rt Tryd.results13 _ _ (w.heap.size + 2) _ rfl (var30 RF.out)) rfl ⟨⟨_, by rw [hA2.out]; rfl, by rw [hA2.out]; exact DgRow.nil _ _⟩, BF.out⟩
    · have hA2 := hide (show A = C.no1 by rw [HA.out, C.mergeA, if_neg (by rw [← HN.out.2]; exact fun c => hr2 c.2)])
      rw [show S.right b' e' M = false by simpa using hr2]
      obtain ⟨YF, hsf, rf, cf, sf⟩ := store_rg (x := .int .u64 0) (y := .int .u64 0) (z := .slice none 0 0) T2.out rfl rfl rfl
      have RF := hide rf
      have BF := hide (B4.out.trans (cf.below w.heap.size B4.out.size (fun j hj e => by omega)))
      clear rf cf sf hr1 hr2
      go_wp2_with (with_reducible refine at_op { dst := none, op := Op.store 30 (Operand.tmp 6) (Operand.tmp 17), type := 0, pos := "compact.go:47", after := #[{ on := 0, ground := Ground.data }, { on := 0, ground := Ground.phase }], guard := none } ?_; refine wpList_store_as rfl 30 (.tmp 6) (.tmp 17) rfl (.pointer (some ⟨w.heap.size + 1 + 1, 0, none⟩)) (.agg #[.int .u64 0, .int .u64 0, .slice none 0 0]) rfl rfl YF hsf ?_)
      exact bodyPost_ret (v := .tuple #[.agg #[.int .u64 0, .int .u64 0, .slice none 0 0], .int .i64 1]) (results_rt Tryd.results13 _ _ (w.heap.size + 2) _ rfl (var30 RF.out)) rfl ⟨⟨_, by rw [hA2.out]; rfl, by rw [hA2.out]; exact DgRow.nil _ _⟩, BF.out⟩
  · have hA2 := hide (show A = C.no1 by rw [HA.out, C.mergeA, if_neg (by rw [← HN.out.1]; exact fun c => hr1 c.1)])
    rw [show S.right b e N = false by simpa using hr1]
    obtain ⟨YF, hsf, rf, cf, sf⟩ := store_rg (x := .int .u64 0) (y := .int .u64 0) (z := .slice none 0 0) S2.out rfl rfl rfl
    have RF := hide rf
    have BF := hide (B3.out.trans (cf.below w.heap.size B3.out.size (fun j hj e => by omega)))
    clear rf cf sf hr1 
    go_wp2_with (with_reducible refine at_op { dst := none, op := Op.store 30 (Operand.tmp 6) (Operand.tmp 17), type := 0, pos := "compact.go:47", after := #[{ on := 0, ground := Ground.data }, { on := 0, ground := Ground.phase }], guard := none } ?_; refine wpList_store_as rfl 30 (.tmp 6) (.tmp 17) rfl (.pointer (some ⟨w.heap.size + 1 + 1, 0, none⟩)) (.agg #[.int .u64 0, .int .u64 0, .slice none 0 0]) rfl rfl YF hsf ?_)
    exact bodyPost_ret (v := .tuple #[.agg #[.int .u64 0, .int .u64 0, .slice none 0 0], .int .i64 1]) (results_rt Tryd.results13 _ _ (w.heap.size + 2) _ rfl (var30 RF.out)) rfl ⟨⟨_, by rw [hA2.out]; rfl, by rw [hA2.out]; exact DgRow.nil _ _⟩, BF.out⟩
end Go.Proofs.YtkljajfgdelfgaaDoor
