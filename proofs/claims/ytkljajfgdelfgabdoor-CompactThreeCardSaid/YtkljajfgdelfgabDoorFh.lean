/- One leaf more; two ranges side by side. -/
import Derived.Test.YtkljajfgdelfgabDoorFg
namespace Go.Proofs.YtkljajfgdelfgabDoor
open Go.RowKit

theorem S.right_of {b e n : Nat} (h : S.right b e n = true) : b ≤ e ∧ e ≤ 4294967296 ∧ n = (C.blocks b e).length := by
  simpa [S.right] using h
theorem blocks_next (e : Nat) (h : e < 4294967296) : (C.blocks e (e + 1)).length = 1 := by
  rw [show e + 1 = e + 2 ^ 0 from rfl, C.blocks_pow e 0 (Nat.one_dvd e) (by rw [Nat.pow_zero]; omega)]; rfl
set_option maxHeartbeats 20000000 in
set_option maxRecDepth 10000 in
theorem merge_any (a : Int) (b e b' e' : Nat) (u u' : Value) (hs hs' : List (List UInt8)) (w : World) (hb : b < 18446744073709551616) (he : e < 18446744073709551616) (hb' : b' < 18446744073709551616) (he' : e' < 18446744073709551616) (hu : DgAt w u hs) (hu' : DgAt w u' hs') (hK : KAt w) :
   Calls Tryd.prog 7 #[.int .i64 a, .agg #[.int .u64 (b : Int), .int .u64 (e : Int), u], .agg #[.int .u64 (b' : Int), .int .u64 (e' : Int), u']] w fun r w' => Ansd w w' r (C.mergeA a b e hs b' e' hs') := by
  obtain ⟨uo, uc, rfl⟩ := hu.form
  obtain ⟨vo, vc, rfl⟩ := hu'.form
  obtain ⟨A, hA⟩ : ∃ A, A = C.mergeA a b e hs b' e' hs' := ⟨_, rfl⟩
  rw [← hA]
  have HA := hide hA
  obtain ⟨N, hN⟩ : ∃ N, N = hs.length := ⟨_, rfl⟩
  obtain ⟨M, hM⟩ : ∃ M, M = hs'.length := ⟨_, rfl⟩
  have HN := hide (And.intro hN hM)
  have HU := hide hu
  have HU' := hide hu'
  have HK := hide hK
  have h0 := hK.pos
  rw [← hN] at HU ⊢
  rw [← hM] at HU' ⊢
  clear hu hu' hK hA hN hM
  go_enter Tryd.func7, Tryd.ntmps7
  go_upto_region 1 with fail
  generalize hW0 : w.alloc _ = W0
  generalize hW1 : W0.alloc _ = W1
  generalize hW2 : W1.alloc _ = W2
  have B0 : Below w.heap.size w W0 := by rw [← hW0]; exact (Below.refl _ _).alloc (Nat.le_refl _) _
  have s0 : W0.heap.size = w.heap.size + 1 := by rw [← hW0]; simp
  have r0 : W0.heap[w.heap.size]? = some (.cells #[.int .u64 (b : Int), .int .u64 (e : Int), .slice uo N uc] 28 (0, 0)) := by rw [← hW0]; exact heap_alloc_new _ _
  have B1 : Below W0.heap.size W0 W1 := by rw [← hW1]; exact (Below.refl _ _).alloc (Nat.le_refl _) _
  have s1 : W1.heap.size = w.heap.size + 2 := by rw [← hW1]; simp [s0]
  have r1 : W1.heap[w.heap.size + 1]? = some (.cells #[.int .u64 (b' : Int), .int .u64 (e' : Int), .slice vo M vc] 28 (0, 0)) := by rw [← hW1, ← s0]; exact heap_alloc_new _ _
  have B2 : Below W1.heap.size W1 W2 := by rw [← hW2]; exact (Below.refl _ _).alloc (Nat.le_refl _) _
  have s2 : W2.heap.size = w.heap.size + 3 := by rw [← hW2]; simp [s1]
  have r2 : W2.heap[w.heap.size + 2]? = some (.cells #[.int .u64 0, .int .u64 0, .slice none 0 0] 28 (0, 0)) := by rw [← hW2, ← s1]; exact heap_alloc_new _ _
  have BB : Hid (Below w.heap.size w W2) := ((B0.trans (B1.mono (by omega))).trans (B2.mono (by omega)))
  have Q0 : Hid (W2.heap[w.heap.size]? = some (.cells #[.int .u64 (b : Int), .int .u64 (e : Int), .slice uo N uc] 28 (0, 0))) := ((B2.block _ (by omega)).trans ((B1.block _ (by omega)).trans r0))
  have Q1 : Hid (W2.heap[w.heap.size + 1]? = some (.cells #[.int .u64 (b' : Int), .int .u64 (e' : Int), .slice vo M vc] 28 (0, 0))) := ((B2.block _ (by omega)).trans r1)
  have Q2 : Hid (W2.heap[w.heap.size + 2]? = some (.cells #[.int .u64 0, .int .u64 0, .slice none 0 0] 28 (0, 0))) := r2
  clear hW0 B0 s0 r0 hW1 B1 s1 r1 hW2 B2 s2 r2
  obtain ⟨c0, c1, c2⟩ := cells3 Q0.out
  obtain ⟨d0, d1, d2⟩ := cells3 Q1.out
  go_wp2_with fail
  refine (right_any b e N uc uo W2 hb he).mono ?_
  rintro r W3 ⟨rfl, hb3⟩
  have S0 : Hid (W3.heap[w.heap.size]? = some (.cells #[.int .u64 (b : Int), .int .u64 (e : Int), .slice uo N uc] 28 (0, 0))) := (hb3.block _ (block_lt_of_row Q0.out)).trans Q0.out
  have S1 : Hid (W3.heap[w.heap.size + 1]? = some (.cells #[.int .u64 (b' : Int), .int .u64 (e' : Int), .slice vo M vc] 28 (0, 0))) := (hb3.block _ (block_lt_of_row Q1.out)).trans Q1.out
  have S2 : Hid (W3.heap[w.heap.size + 2]? = some (.cells #[.int .u64 0, .int .u64 0, .slice none 0 0] 28 (0, 0))) := (hb3.block _ (block_lt_of_row Q2.out)).trans Q2.out
  have B3 := hide (BB.out.trans (hb3.mono BB.out.size))
  clear hb3 Q0 Q1 Q2 c0 c1 c2 d0 d1 d2 BB
  obtain ⟨c0, c1, c2⟩ := cells3 S0.out
  obtain ⟨d0, d1, d2⟩ := cells3 S1.out
  by_cases hr1 : S.right b e N = true
  · rw [hr1]
    go_wp2_with fail
    refine (right_any b' e' M vc vo W3 hb' he').mono ?_
    rintro r W4 ⟨rfl, hb4⟩
    have T0 : Hid (W4.heap[w.heap.size]? = some (.cells #[.int .u64 (b : Int), .int .u64 (e : Int), .slice uo N uc] 28 (0, 0))) := (hb4.block _ (block_lt_of_row S0.out)).trans S0.out
    have T1 : Hid (W4.heap[w.heap.size + 1]? = some (.cells #[.int .u64 (b' : Int), .int .u64 (e' : Int), .slice vo M vc] 28 (0, 0))) := (hb4.block _ (block_lt_of_row S1.out)).trans S1.out
    have T2 : Hid (W4.heap[w.heap.size + 2]? = some (.cells #[.int .u64 0, .int .u64 0, .slice none 0 0] 28 (0, 0))) := (hb4.block _ (block_lt_of_row S2.out)).trans S2.out
    have B4 := hide (B3.out.trans (hb4.mono B3.out.size))
    clear hb4 S0 S1 S2 c0 c1 c2 d0 d1 d2
    obtain ⟨c0, c1, c2⟩ := cells3 T0.out
    obtain ⟨d0, d1, d2⟩ := cells3 T1.out
    by_cases hr2 : S.right b' e' M = true
    · rw [hr2]
      obtain ⟨t1, t2, t3⟩ := S.right_of hr1
      obtain ⟨s1, s2, s3⟩ := S.right_of hr2
      by_cases hm : e = b'
      · have hA2 := hide (show A = ⟨b, e', C.glue (S.node a) [] b e e' hs hs', 0⟩ by rw [HA.out, C.mergeA, if_pos ⟨by rw [← HN.out.1]; exact hr1, by rw [← HN.out.2]; exact hr2⟩, if_pos hm])
        subst hm
        clear hr1 hr2
        have H3 := hide (And.intro (And.intro t1 s1) (And.intro s2 (And.intro t3 s3)))
        have HUY := hide (HU.out.below B4.out)
        have HVY := hide (HU'.out.below B4.out)
        clear t1 t2 t3 s1 s2 s3
        go_wp2_with fail
        refine (joined_any a b e e' (.slice uo N uc) (.slice vo M vc) hs hs' W4 H3.out.1.1 H3.out.1.2 H3.out.2.1 HUY.out HVY.out (by rw [← HN.out.1]; exact H3.out.2.2.1) (by rw [← HN.out.2]; exact H3.out.2.2.2) (HK.out.below B4.out h0)).mono ?_
        rintro r Z ⟨⟨v, rfl, hv⟩, hbz⟩
        have HV := hide (hv.mono B4.out.size)
        obtain ⟨wo, wc, rfl⟩ := hv.form
        obtain ⟨wn, hwn⟩ : ∃ n, n = (C.glue (S.node a) [] b e e' hs hs').length := ⟨_, rfl⟩
        rw [← hwn] at HV ⊢
        have Z2 : Hid (Z.heap[w.heap.size + 2]? = some (.cells #[.int .u64 0, .int .u64 0, .slice none 0 0] 28 (0, 0))) := (hbz.block _ (block_lt_of_row T2.out)).trans T2.out
        obtain ⟨YF, hsf, rf, cf, sf⟩ := store_rg (x := .int .u64 (b : Int)) (y := .int .u64 (e' : Int)) (z := .slice wo wn wc) Z2.out rfl rfl rfl
        have RF := hide rf
        have BZ := hide (B4.out.trans (hbz.mono B4.out.size))
        have DFF := hide (Rw.chg (el := 42) HV.out cf (fun j hj e => (Rw.apart (el := 42) HV.out Z2.out (by decide)) (by rw [← e]; exact hj)))
        have BFF := hide (BZ.out.trans (cf.below w.heap.size BZ.out.size (fun j hj e => by omega)))
        clear rf cf sf hv hbz hwn Z2 HUY HVY c0 c1 c2 d0 d1 d2
        go_wp2_with (with_reducible refine at_op { dst := none, op := Op.store 28 (Operand.tmp 6) (Operand.tmp 28), type := 0, pos := "compact.go:51", after := #[{ on := 3, ground := Ground.data }, { on := 3, ground := Ground.chain }, { on := 0, ground := Ground.phase }, { on := 1, ground := Ground.phase }, { on := 2, ground := Ground.phase }, { on := 3, ground := Ground.phase }], guard := none } ?_; refine wpList_store_as rfl 28 (.tmp 6) (.tmp 28) rfl (.pointer (some ⟨w.heap.size + 1 + 1, 0, none⟩)) (.agg #[.int .u64 (b : Int), .int .u64 (e' : Int), .slice wo wn wc]) rfl rfl YF hsf ?_)
        exact bodyPost_ret (v := .tuple #[.agg #[.int .u64 (b : Int), .int .u64 (e' : Int), .slice wo wn wc], .int .i64 0]) (results_rt Tryd.results7 _ _ (w.heap.size + 2) _ rfl (var30 RF.out)) rfl ⟨⟨_, by rw [hA2.out]; rfl, by rw [hA2.out]; exact DFF.out⟩, BFF.out⟩
      · have hA2 := hide (show A = C.no25 by rw [HA.out, C.mergeA, if_pos ⟨by rw [← HN.out.1]; exact hr1, by rw [← HN.out.2]; exact hr2⟩, if_neg hm])
        have q1 : ((e : Int) != (b' : Int)) = true := by simp; omega
        have q1' : ¬ (e : Int) = (b' : Int) := by omega
        obtain ⟨YF, hsf, rf, cf, sf⟩ := store_rg (x := .int .u64 0) (y := .int .u64 0) (z := .slice none 0 0) T2.out rfl rfl rfl
        have RF := hide rf
        have BF := hide (B4.out.trans (cf.below w.heap.size B4.out.size (fun j hj e => by omega)))
        clear rf cf sf hr1 hr2 t1 t2 t3 s1 s2 s3
        go_wp2_with (with_reducible refine at_op { dst := none, op := Op.store 28 (Operand.tmp 6) (Operand.tmp 24), type := 0, pos := "compact.go:49", after := #[{ on := 0, ground := Ground.data }, { on := 0, ground := Ground.phase }], guard := none } ?_; refine wpList_store_as rfl 28 (.tmp 6) (.tmp 24) rfl (.pointer (some ⟨w.heap.size + 1 + 1, 0, none⟩)) (.agg #[.int .u64 0, .int .u64 0, .slice none 0 0]) rfl rfl YF hsf ?_)
        exact bodyPost_ret (v := .tuple #[.agg #[.int .u64 0, .int .u64 0, .slice none 0 0], .int .i64 25]) (results_rt Tryd.results7 _ _ (w.heap.size + 2) _ rfl (var30 RF.out)) rfl ⟨⟨_, by rw [hA2.out]; rfl, by rw [hA2.out]; exact DgRow.nil _ _⟩, BF.out⟩
    · have hA2 := hide (show A = C.no1 by rw [HA.out, C.mergeA, if_neg (by rw [← HN.out.2]; exact fun c => hr2 c.2)])
      rw [show S.right b' e' M = false by simpa using hr2]
      obtain ⟨YF, hsf, rf, cf, sf⟩ := store_rg (x := .int .u64 0) (y := .int .u64 0) (z := .slice none 0 0) T2.out rfl rfl rfl
      have RF := hide rf
      have BF := hide (B4.out.trans (cf.below w.heap.size B4.out.size (fun j hj e => by omega)))
      clear rf cf sf hr1 hr2
      go_wp2_with (with_reducible refine at_op { dst := none, op := Op.store 28 (Operand.tmp 6) (Operand.tmp 17), type := 0, pos := "compact.go:47", after := #[{ on := 0, ground := Ground.data }, { on := 0, ground := Ground.phase }], guard := none } ?_; refine wpList_store_as rfl 28 (.tmp 6) (.tmp 17) rfl (.pointer (some ⟨w.heap.size + 1 + 1, 0, none⟩)) (.agg #[.int .u64 0, .int .u64 0, .slice none 0 0]) rfl rfl YF hsf ?_)
      exact bodyPost_ret (v := .tuple #[.agg #[.int .u64 0, .int .u64 0, .slice none 0 0], .int .i64 1]) (results_rt Tryd.results7 _ _ (w.heap.size + 2) _ rfl (var30 RF.out)) rfl ⟨⟨_, by rw [hA2.out]; rfl, by rw [hA2.out]; exact DgRow.nil _ _⟩, BF.out⟩
  · have hA2 := hide (show A = C.no1 by rw [HA.out, C.mergeA, if_neg (by rw [← HN.out.1]; exact fun c => hr1 c.1)])
    rw [show S.right b e N = false by simpa using hr1]
    obtain ⟨YF, hsf, rf, cf, sf⟩ := store_rg (x := .int .u64 0) (y := .int .u64 0) (z := .slice none 0 0) S2.out rfl rfl rfl
    have RF := hide rf
    have BF := hide (B3.out.trans (cf.below w.heap.size B3.out.size (fun j hj e => by omega)))
    clear rf cf sf hr1 
    go_wp2_with (with_reducible refine at_op { dst := none, op := Op.store 28 (Operand.tmp 6) (Operand.tmp 17), type := 0, pos := "compact.go:47", after := #[{ on := 0, ground := Ground.data }, { on := 0, ground := Ground.phase }], guard := none } ?_; refine wpList_store_as rfl 28 (.tmp 6) (.tmp 17) rfl (.pointer (some ⟨w.heap.size + 1 + 1, 0, none⟩)) (.agg #[.int .u64 0, .int .u64 0, .slice none 0 0]) rfl rfl YF hsf ?_)
    exact bodyPost_ret (v := .tuple #[.agg #[.int .u64 0, .int .u64 0, .slice none 0 0], .int .i64 1]) (results_rt Tryd.results7 _ _ (w.heap.size + 2) _ rfl (var30 RF.out)) rfl ⟨⟨_, by rw [hA2.out]; rfl, by rw [hA2.out]; exact DgRow.nil _ _⟩, BF.out⟩
end Go.Proofs.YtkljajfgdelfgabDoor
