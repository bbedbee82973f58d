/- finish of a text of no bytes: the digest is the Lean function's; nothing that was there changes. -/
import Derived.Test.YtlbggkmblkhjoaaDoorFin
namespace Go.Proofs.YtlbggkmblkhjoaaDoor
open Go.RowKit
set_option maxHeartbeats 800000 in
set_option maxRecDepth 100000 in
theorem finish_nil (st : List UInt32) (hst : st.length = 8) (before : Nat) (hbef : before ≤ 64) (w : World) (hK : KAt w) :
   Calls Tryd.prog 54 #[.agg (S.v32 st), .int .u64 (before : Int), .slice none 0 0] w fun e w' => e = .returned (.agg (S.v8 (S.fin st before []))) ∧ Below w.heap.size w w' := by
  have HK := hide hK
  have HS := hide hst
  clear hK hst
  go_enter Tryd.func54, Tryd.ntmps54
  go_wp2
  generalize hW0 : (w.alloc (.cells (S.v32 st) 87)).alloc _ = W0
  have r0 : W0.heap[w.heap.size]? = some (.cells (S.v32 st) 87 (0, 0)) := by rw [← hW0]; exact heap_alloc2_old _ _ _
  have r1 : W0.heap[w.heap.size + 1]? = some (.cells (S.v8 (S.zeros 32)) 23 (0, 0)) := by rw [← hW0]; exact heap_alloc2_new _ _ _
  have hnx : Below w.heap.size w W0 := by rw [← hW0]; exact ((Below.refl _ _).alloc (Nat.le_refl _) _).alloc (by simp) _
  have hz0 : w.heap.size + 2 ≤ W0.heap.size := by rw [← hW0]; simp
  have h0 : 0 < w.heap.size := HK.out.pos
  have hs : (Tryd.prog.info? 87).map (·.size) = some (S.v32 st).size := by rw [S.v32_size, HS.out]; exact size49
  have J0 := hide r0
  have J1 := hide r1
  have J2 := hide hnx
  have J3 := hide hs
  clear hW0 r0 r1 hnx hs
  refine region_tail 4 (by kernel_rfl) ?_
  simp only [List.take_succ_cons, List.take_zero, List.drop_succ_cons, List.drop_zero]
  refine wpStill_load_row rfl 87 _ rfl w.heap.size rfl 87 _ _ _ J0.out Tryd.underlying87 rfl J3.out ?_
  simp only [Act.put, List.setIfInBounds_toArray, List.set_cons_succ, List.set_cons_zero]
  repeat still_step
  refine wpStill_nil ?_
  go_wp2_with fail
  refine (takeBlocks_none st HS.out _ _ W0.drew).mono ?_
  rintro e w1 ⟨rfl, hb1⟩
  have a0 : w1.heap[w.heap.size]? = some (.cells (S.v32 st) 87 (0, 0)) := (hb1.block _ (by show w.heap.size < W0.heap.size; omega)).trans J0.out
  have a1 : w1.heap[w.heap.size + 1]? = some (.cells (S.v8 (S.zeros 32)) 23 (0, 0)) := (hb1.block _ (by show w.heap.size + 1 < W0.heap.size; omega)).trans J1.out
  have hn1 : Below w.heap.size w w1 := J2.out.drew.trans (hb1.mono (by show w.heap.size ≤ W0.heap.size; omega))
  have hz1 : w.heap.size + 2 ≤ w1.heap.size := Nat.le_trans hz0 hb1.size
  have I0 := hide a0
  clear hb1 J0 J1 J2 hz0 a0
  go_wp2_with (refine wpList_store_row rfl 87 _ _ rfl w.heap.size (S.v32 st) rfl rfl 87 _ I0.out J3.out rfl (S.v32_one _) ?_)
  simp only [Act.put]
  generalize hW1 : w1.setRow w.heap.size (S.v32 st) = W1
  have r0 : W1.heap[w.heap.size]? = some (.cells (S.v32 st) 87 (0, 0)) := by rw [← hW1]; exact setRow_heap _ _ _ _ _ _ I0.out
  have r1 : W1.heap[w.heap.size + 1]? = some (.cells (S.v8 (S.zeros 32)) 23 (0, 0)) := by rw [← hW1]; exact (setRow_other _ _ _ _ (by omega)).trans a1
  have hnx : Below w.heap.size w W1 := by rw [← hW1]; exact below_setRow hn1 (Nat.le_refl _) _
  have hz0 : w.heap.size + 2 ≤ W1.heap.size := by rw [← hW1]; simpa using hz1
  have J1 := hide r1
  have J2 := hide hnx
  clear hW1 I0 a1 hn1 hz1 r1 hnx
  clear w1
  obtain ⟨L, hL⟩ : ∃ L : Nat, L = before := ⟨_, rfl⟩
  subst hL
  have hw0 : IntKind.u64.wrap 0 = 0 := by decide
  have hadd : IntKind.u64.wrap (L : Int) = (L : Int) := wrap_u64_lt L (by omega)
  have hL8 : Hid (8 * L < 18446744073709551616) := by show 8 * L < 18446744073709551616; omega
  obtain ⟨s, hs0⟩ : ∃ s : S.R8, s = S.toR st := ⟨_, rfl⟩
  have hof : S.ofR s = st := by rw [hs0]; exact S.ofR_toR _ HS.out
  rw [← hof] at r0
  have c0 : W1.cell? ⟨w.heap.size, 0, none⟩ = some (.int .u32 (s.a.toNat : Int)) := v32_cell r0 0 (by simp [S.ofR])
  have c1 : W1.cell? ⟨w.heap.size, 1, none⟩ = some (.int .u32 (s.b.toNat : Int)) := v32_cell r0 1 (by simp [S.ofR])
  have c2 : W1.cell? ⟨w.heap.size, 2, none⟩ = some (.int .u32 (s.c.toNat : Int)) := v32_cell r0 2 (by simp [S.ofR])
  have c3 : W1.cell? ⟨w.heap.size, 3, none⟩ = some (.int .u32 (s.d.toNat : Int)) := v32_cell r0 3 (by simp [S.ofR])
  have c4 : W1.cell? ⟨w.heap.size, 4, none⟩ = some (.int .u32 (s.e.toNat : Int)) := v32_cell r0 4 (by simp [S.ofR])
  have c5 : W1.cell? ⟨w.heap.size, 5, none⟩ = some (.int .u32 (s.f.toNat : Int)) := v32_cell r0 5 (by simp [S.ofR])
  have c6 : W1.cell? ⟨w.heap.size, 6, none⟩ = some (.int .u32 (s.g.toNat : Int)) := v32_cell r0 6 (by simp [S.ofR])
  have c7 : W1.cell? ⟨w.heap.size, 7, none⟩ = some (.int .u32 (s.h.toNat : Int)) := v32_cell r0 7 (by simp [S.ofR])
  have J0 := hide r0
  have HO := hide hof
  have HD : Hid (([] : List UInt8).length < 64) := by show ([] : List UInt8).length < 64; decide
  have HD2 : Hid (0 = ([] : List UInt8).length) := rfl
  have HQ : Hid (64 * S.endM ([] : List UInt8) ≤ 140737488355328) := by show 64 * S.endM ([] : List UInt8) ≤ 140737488355328; decide
  have HSRC : ∀ ao, Hid (Src W1.drew ao ([] : List UInt8)) := fun _ hp => absurd hp (by simp)
  clear r0 hof hs0
  go_region_with (first | (go_at_call 69; refine (ending_any ([] : List UInt8) HD.out _ _ _ L ?_ hL8.out _ ?_).mono ?_; (first | exact HD2.out | (have h9 := HD2.out; omega)); exact (HSRC _).out; rintro e w2 ⟨rfl, hr2, hb2⟩; have d0 := (hb2.cell (p := ⟨w.heap.size, 0, none⟩) (by show w.heap.size < W1.heap.size; omega)).trans c0; have d1 := (hb2.cell (p := ⟨w.heap.size, 1, none⟩) (by show w.heap.size < W1.heap.size; omega)).trans c1; have d2 := (hb2.cell (p := ⟨w.heap.size, 2, none⟩) (by show w.heap.size < W1.heap.size; omega)).trans c2; have d3 := (hb2.cell (p := ⟨w.heap.size, 3, none⟩) (by show w.heap.size < W1.heap.size; omega)).trans c3; have d4 := (hb2.cell (p := ⟨w.heap.size, 4, none⟩) (by show w.heap.size < W1.heap.size; omega)).trans c4; have d5 := (hb2.cell (p := ⟨w.heap.size, 5, none⟩) (by show w.heap.size < W1.heap.size; omega)).trans c5; have d6 := (hb2.cell (p := ⟨w.heap.size, 6, none⟩) (by show w.heap.size < W1.heap.size; omega)).trans c6; have d7 := (hb2.cell (p := ⟨w.heap.size, 7, none⟩) (by show w.heap.size < W1.heap.size; omega)).trans c7) | (go_at_call 68; refine (takeBlocks_R s W1.heap.size 0 _ _ (S.endM ([] : List UInt8)) (S.ending ([] : List UInt8) (8 * L)) _ rfl (Nat.le_refl _) HQ.out (block_lt_of_row hr2) (HK.out.below (J2.out.drew.trans (hb2.mono (by show w.heap.size ≤ W1.heap.size; omega))) h0) (end_cells HD.out hr2)).mono ?_; rintro e w3 ⟨x, rfl, hx, hb3⟩; have hr3 := (hb3.block w.heap.size (by have := hb2.size; show w.heap.size < w2.heap.size; have e1 : W1.drew.heap.size = W1.heap.size := rfl; omega)).trans ((hb2.block w.heap.size (by show w.heap.size < W1.heap.size; omega)).trans J0.out); have k0 := v32_cell hr3 0 (by simp [S.ofR]); have f0 := frozen_of_row _ _ 0 _ _ hr3; have k1 := v32_cell hr3 1 (by simp [S.ofR]); have f1 := frozen_of_row _ _ 1 _ _ hr3; have k2 := v32_cell hr3 2 (by simp [S.ofR]); have f2 := frozen_of_row _ _ 2 _ _ hr3; have k3 := v32_cell hr3 3 (by simp [S.ofR]); have f3 := frozen_of_row _ _ 3 _ _ hr3; have k4 := v32_cell hr3 4 (by simp [S.ofR]); have f4 := frozen_of_row _ _ 4 _ _ hr3; have k5 := v32_cell hr3 5 (by simp [S.ofR]); have f5 := frozen_of_row _ _ 5 _ _ hr3; have k6 := v32_cell hr3 6 (by simp [S.ofR]); have f6 := frozen_of_row _ _ 6 _ _ hr3; have k7 := v32_cell hr3 7 (by simp [S.ofR]); have f7 := frozen_of_row _ _ 7 _ _ hr3))
  all_goals
    have hz2 : W1.heap.size ≤ w2.heap.size := hb2.size
    have hz3 : w2.heap.size ≤ w3.heap.size := hb3.size
    have a1 : w3.heap[w.heap.size + 1]? = some (.cells (S.v8 (S.zeros 32)) 23 (0, 0)) := (hb3.block _ (by omega)).trans ((hb2.block _ (by show w.heap.size + 1 < W1.heap.size; omega)).trans J1.out)
    have hn3 : Below w.heap.size w w3 := (J2.out.drew.trans (hb2.mono (by show w.heap.size ≤ W1.heap.size; omega))).trans (hb3.mono (by omega))
    generalize hW2 : World.setCell _ _ (Value.int .u32 (x.h.toNat : Int)) = W2
    have r0 : W2.heap[w.heap.size]? = some (.cells (S.v32 (S.ofR x)) 87 (0, 0)) := by rw [← hW2]; exact row_of8 hr3 rfl x
    have r1 : W2.heap[w.heap.size + 1]? = some (.cells (S.v8 (S.zeros 32)) 23 (0, 0)) := by
      rw [← hW2]
      iterate 8 rw [heap_setCell_other _ _ _ _ (by simp)]
      exact a1
    have hnx : Below w.heap.size w W2 := by
      rw [← hW2]
      iterate 8 refine Below.setCell ?_ (by exact Nat.le_refl _) _
      exact hn3
    have hz4 : w.heap.size + 2 ≤ W2.heap.size := by have := block_lt_of_row r1; omega
    have hs : (Tryd.prog.info? 87).map (·.size) = some (S.v32 (S.ofR x)).size := size49
    have hfin : S.fin st L [] = S.dig (S.ofR x) 8 := by
      rw [hx, HO.out]; rfl
    have P0 := hide r0
    have P1 := hide r1
    have P2 := hide hnx
    have P3 := hide hs
    have P4 := hide hfin
    clear hW2 r0 r1 hnx hs hfin a1 hn3 hb2 hb3 hr2 hr3 hx c0 c1 c2 c3 c4 c5 c6 c7 d0 d1 d2 d3 d4 d5 d6 d7 k0 k1 k2 k3 k4 k5 k6 k7 f0 f1 f2 f3 f4 f5 f6 f7 hadd hw0
    go_wp2_with (first | refine wpList_load_row rfl 87 _ rfl w.heap.size rfl 87 _ _ _ P0.out Tryd.underlying87 rfl P3.out ?_ | fail)
    refine (digestOf_any (S.ofR x) rfl _).mono ?_
    rintro e w4 ⟨rfl, hb4⟩
    rw [← P4.out]
    have a1 : w4.heap[w.heap.size + 1]? = some (.cells (S.v8 (S.zeros 32)) 23 (0, 0)) := (hb4.block _ (by omega)).trans P1.out
    have hs : (Tryd.prog.info? 23).map (·.size) = some (S.v8 (S.fin st L [])).size := by rw [S.v8_size, S.fin, S.dig_length]; exact size23
    have ho : (S.v8 (S.zeros 32)).size = (S.v8 (S.fin st L [])).size := by rw [S.v8_size, S.v8_size, S.fin, S.dig_length]; rfl
    have hn4 : Below w.heap.size w w4 := P2.out.trans (hb4.mono (by omega))
    have Q1 := hide a1
    have Q2 := hide hs
    have Q3 := hide ho
    clear a1 hs ho hb4
    go_wp2_with (refine wpList_store_row rfl 23 _ _ rfl (w.heap.size + 1) (S.v8 (S.fin st L [])) rfl rfl 23 _ Q1.out Q2.out Q3.out (S.v8_one _) ?_)
    refine bodyPost_ret (v := .agg (S.v8 (S.fin st L []))) (results_cell_row (g := w.heap.size + 1) (t := 23) (fr := (0, 0)) Tryd.results54 _ _ _ _ rfl (setRow_heap _ _ _ _ _ _ Q1.out) Tryd.underlying23 rfl Q2.out) rfl ⟨rfl, below_setRow hn4 (by omega) _⟩
set_option maxHeartbeats 800000 in
set_option maxRecDepth 100000 in
theorem finish_empty (st : List UInt32) (hst : st.length = 8) (before : Nat) (hbef : before ≤ 64) (a : Addr) (cap : Nat) (w : World) (hK : KAt w) :
   Calls Tryd.prog 54 #[.agg (S.v32 st), .int .u64 (before : Int), .slice (some a) 0 cap] w fun e w' => e = .returned (.agg (S.v8 (S.fin st before []))) ∧ Below w.heap.size w w' := by
  have HK := hide hK
  have HS := hide hst
  clear hK hst
  go_enter Tryd.func54, Tryd.ntmps54
  go_wp2
  generalize hW0 : (w.alloc (.cells (S.v32 st) 87)).alloc _ = W0
  have r0 : W0.heap[w.heap.size]? = some (.cells (S.v32 st) 87 (0, 0)) := by rw [← hW0]; exact heap_alloc2_old _ _ _
  have r1 : W0.heap[w.heap.size + 1]? = some (.cells (S.v8 (S.zeros 32)) 23 (0, 0)) := by rw [← hW0]; exact heap_alloc2_new _ _ _
  have hnx : Below w.heap.size w W0 := by rw [← hW0]; exact ((Below.refl _ _).alloc (Nat.le_refl _) _).alloc (by simp) _
  have hz0 : w.heap.size + 2 ≤ W0.heap.size := by rw [← hW0]; simp
  have h0 : 0 < w.heap.size := HK.out.pos
  have hs : (Tryd.prog.info? 87).map (·.size) = some (S.v32 st).size := by rw [S.v32_size, HS.out]; exact size49
  have J0 := hide r0
  have J1 := hide r1
  have J2 := hide hnx
  have J3 := hide hs
  clear hW0 r0 r1 hnx hs
  refine region_tail 4 (by kernel_rfl) ?_
  simp only [List.take_succ_cons, List.take_zero, List.drop_succ_cons, List.drop_zero]
  refine wpStill_load_row rfl 87 _ rfl w.heap.size rfl 87 _ _ _ J0.out Tryd.underlying87 rfl J3.out ?_
  simp only [Act.put, List.setIfInBounds_toArray, List.set_cons_succ, List.set_cons_zero]
  repeat still_step
  refine wpStill_nil ?_
  go_wp2_with fail
  refine (takeBlocks_none st HS.out _ _ W0.drew).mono ?_
  rintro e w1 ⟨rfl, hb1⟩
  have a0 : w1.heap[w.heap.size]? = some (.cells (S.v32 st) 87 (0, 0)) := (hb1.block _ (by show w.heap.size < W0.heap.size; omega)).trans J0.out
  have a1 : w1.heap[w.heap.size + 1]? = some (.cells (S.v8 (S.zeros 32)) 23 (0, 0)) := (hb1.block _ (by show w.heap.size + 1 < W0.heap.size; omega)).trans J1.out
  have hn1 : Below w.heap.size w w1 := J2.out.drew.trans (hb1.mono (by show w.heap.size ≤ W0.heap.size; omega))
  have hz1 : w.heap.size + 2 ≤ w1.heap.size := Nat.le_trans hz0 hb1.size
  have I0 := hide a0
  clear hb1 J0 J1 J2 hz0 a0
  go_wp2_with (refine wpList_store_row rfl 87 _ _ rfl w.heap.size (S.v32 st) rfl rfl 87 _ I0.out J3.out rfl (S.v32_one _) ?_)
  simp only [Act.put]
  generalize hW1 : w1.setRow w.heap.size (S.v32 st) = W1
  have r0 : W1.heap[w.heap.size]? = some (.cells (S.v32 st) 87 (0, 0)) := by rw [← hW1]; exact setRow_heap _ _ _ _ _ _ I0.out
  have r1 : W1.heap[w.heap.size + 1]? = some (.cells (S.v8 (S.zeros 32)) 23 (0, 0)) := by rw [← hW1]; exact (setRow_other _ _ _ _ (by omega)).trans a1
  have hnx : Below w.heap.size w W1 := by rw [← hW1]; exact below_setRow hn1 (Nat.le_refl _) _
  have hz0 : w.heap.size + 2 ≤ W1.heap.size := by rw [← hW1]; simpa using hz1
  have J1 := hide r1
  have J2 := hide hnx
  clear hW1 I0 a1 hn1 hz1 r1 hnx
  clear w1
  obtain ⟨L, hL⟩ : ∃ L : Nat, L = before := ⟨_, rfl⟩
  subst hL
  have hw0 : IntKind.u64.wrap 0 = 0 := by decide
  have hadd : IntKind.u64.wrap (L : Int) = (L : Int) := wrap_u64_lt L (by omega)
  have hL8 : Hid (8 * L < 18446744073709551616) := by show 8 * L < 18446744073709551616; omega
  obtain ⟨s, hs0⟩ : ∃ s : S.R8, s = S.toR st := ⟨_, rfl⟩
  have hof : S.ofR s = st := by rw [hs0]; exact S.ofR_toR _ HS.out
  rw [← hof] at r0
  have c0 : W1.cell? ⟨w.heap.size, 0, none⟩ = some (.int .u32 (s.a.toNat : Int)) := v32_cell r0 0 (by simp [S.ofR])
  have c1 : W1.cell? ⟨w.heap.size, 1, none⟩ = some (.int .u32 (s.b.toNat : Int)) := v32_cell r0 1 (by simp [S.ofR])
  have c2 : W1.cell? ⟨w.heap.size, 2, none⟩ = some (.int .u32 (s.c.toNat : Int)) := v32_cell r0 2 (by simp [S.ofR])
  have c3 : W1.cell? ⟨w.heap.size, 3, none⟩ = some (.int .u32 (s.d.toNat : Int)) := v32_cell r0 3 (by simp [S.ofR])
  have c4 : W1.cell? ⟨w.heap.size, 4, none⟩ = some (.int .u32 (s.e.toNat : Int)) := v32_cell r0 4 (by simp [S.ofR])
  have c5 : W1.cell? ⟨w.heap.size, 5, none⟩ = some (.int .u32 (s.f.toNat : Int)) := v32_cell r0 5 (by simp [S.ofR])
  have c6 : W1.cell? ⟨w.heap.size, 6, none⟩ = some (.int .u32 (s.g.toNat : Int)) := v32_cell r0 6 (by simp [S.ofR])
  have c7 : W1.cell? ⟨w.heap.size, 7, none⟩ = some (.int .u32 (s.h.toNat : Int)) := v32_cell r0 7 (by simp [S.ofR])
  have J0 := hide r0
  have HO := hide hof
  have HD : Hid (([] : List UInt8).length < 64) := by show ([] : List UInt8).length < 64; decide
  have HD2 : Hid (0 = ([] : List UInt8).length) := rfl
  have HQ : Hid (64 * S.endM ([] : List UInt8) ≤ 140737488355328) := by show 64 * S.endM ([] : List UInt8) ≤ 140737488355328; decide
  have HSRC : ∀ ao, Hid (Src W1.drew ao ([] : List UInt8)) := fun _ hp => absurd hp (by simp)
  clear r0 hof hs0
  go_region_with (first | (go_at_call 69; refine (ending_any ([] : List UInt8) HD.out _ _ _ L ?_ hL8.out _ ?_).mono ?_; (first | exact HD2.out | (have h9 := HD2.out; omega)); exact (HSRC _).out; rintro e w2 ⟨rfl, hr2, hb2⟩; have d0 := (hb2.cell (p := ⟨w.heap.size, 0, none⟩) (by show w.heap.size < W1.heap.size; omega)).trans c0; have d1 := (hb2.cell (p := ⟨w.heap.size, 1, none⟩) (by show w.heap.size < W1.heap.size; omega)).trans c1; have d2 := (hb2.cell (p := ⟨w.heap.size, 2, none⟩) (by show w.heap.size < W1.heap.size; omega)).trans c2; have d3 := (hb2.cell (p := ⟨w.heap.size, 3, none⟩) (by show w.heap.size < W1.heap.size; omega)).trans c3; have d4 := (hb2.cell (p := ⟨w.heap.size, 4, none⟩) (by show w.heap.size < W1.heap.size; omega)).trans c4; have d5 := (hb2.cell (p := ⟨w.heap.size, 5, none⟩) (by show w.heap.size < W1.heap.size; omega)).trans c5; have d6 := (hb2.cell (p := ⟨w.heap.size, 6, none⟩) (by show w.heap.size < W1.heap.size; omega)).trans c6; have d7 := (hb2.cell (p := ⟨w.heap.size, 7, none⟩) (by show w.heap.size < W1.heap.size; omega)).trans c7) | (go_at_call 68; refine (takeBlocks_R s W1.heap.size 0 _ _ (S.endM ([] : List UInt8)) (S.ending ([] : List UInt8) (8 * L)) _ rfl (Nat.le_refl _) HQ.out (block_lt_of_row hr2) (HK.out.below (J2.out.drew.trans (hb2.mono (by show w.heap.size ≤ W1.heap.size; omega))) h0) (end_cells HD.out hr2)).mono ?_; rintro e w3 ⟨x, rfl, hx, hb3⟩; have hr3 := (hb3.block w.heap.size (by have := hb2.size; show w.heap.size < w2.heap.size; have e1 : W1.drew.heap.size = W1.heap.size := rfl; omega)).trans ((hb2.block w.heap.size (by show w.heap.size < W1.heap.size; omega)).trans J0.out); have k0 := v32_cell hr3 0 (by simp [S.ofR]); have f0 := frozen_of_row _ _ 0 _ _ hr3; have k1 := v32_cell hr3 1 (by simp [S.ofR]); have f1 := frozen_of_row _ _ 1 _ _ hr3; have k2 := v32_cell hr3 2 (by simp [S.ofR]); have f2 := frozen_of_row _ _ 2 _ _ hr3; have k3 := v32_cell hr3 3 (by simp [S.ofR]); have f3 := frozen_of_row _ _ 3 _ _ hr3; have k4 := v32_cell hr3 4 (by simp [S.ofR]); have f4 := frozen_of_row _ _ 4 _ _ hr3; have k5 := v32_cell hr3 5 (by simp [S.ofR]); have f5 := frozen_of_row _ _ 5 _ _ hr3; have k6 := v32_cell hr3 6 (by simp [S.ofR]); have f6 := frozen_of_row _ _ 6 _ _ hr3; have k7 := v32_cell hr3 7 (by simp [S.ofR]); have f7 := frozen_of_row _ _ 7 _ _ hr3))
  all_goals
    have hz2 : W1.heap.size ≤ w2.heap.size := hb2.size
    have hz3 : w2.heap.size ≤ w3.heap.size := hb3.size
    have a1 : w3.heap[w.heap.size + 1]? = some (.cells (S.v8 (S.zeros 32)) 23 (0, 0)) := (hb3.block _ (by omega)).trans ((hb2.block _ (by show w.heap.size + 1 < W1.heap.size; omega)).trans J1.out)
    have hn3 : Below w.heap.size w w3 := (J2.out.drew.trans (hb2.mono (by show w.heap.size ≤ W1.heap.size; omega))).trans (hb3.mono (by omega))
    generalize hW2 : World.setCell _ _ (Value.int .u32 (x.h.toNat : Int)) = W2
    have r0 : W2.heap[w.heap.size]? = some (.cells (S.v32 (S.ofR x)) 87 (0, 0)) := by rw [← hW2]; exact row_of8 hr3 rfl x
    have r1 : W2.heap[w.heap.size + 1]? = some (.cells (S.v8 (S.zeros 32)) 23 (0, 0)) := by
      rw [← hW2]
      iterate 8 rw [heap_setCell_other _ _ _ _ (by simp)]
      exact a1
    have hnx : Below w.heap.size w W2 := by
      rw [← hW2]
      iterate 8 refine Below.setCell ?_ (by exact Nat.le_refl _) _
      exact hn3
    have hz4 : w.heap.size + 2 ≤ W2.heap.size := by have := block_lt_of_row r1; omega
    have hs : (Tryd.prog.info? 87).map (·.size) = some (S.v32 (S.ofR x)).size := size49
    have hfin : S.fin st L [] = S.dig (S.ofR x) 8 := by
      rw [hx, HO.out]; rfl
    have P0 := hide r0
    have P1 := hide r1
    have P2 := hide hnx
    have P3 := hide hs
    have P4 := hide hfin
    clear hW2 r0 r1 hnx hs hfin a1 hn3 hb2 hb3 hr2 hr3 hx c0 c1 c2 c3 c4 c5 c6 c7 d0 d1 d2 d3 d4 d5 d6 d7 k0 k1 k2 k3 k4 k5 k6 k7 f0 f1 f2 f3 f4 f5 f6 f7 hadd hw0
    go_wp2_with (first | refine wpList_load_row rfl 87 _ rfl w.heap.size rfl 87 _ _ _ P0.out Tryd.underlying87 rfl P3.out ?_ | fail)
    refine (digestOf_any (S.ofR x) rfl _).mono ?_
    rintro e w4 ⟨rfl, hb4⟩
    rw [← P4.out]
    have a1 : w4.heap[w.heap.size + 1]? = some (.cells (S.v8 (S.zeros 32)) 23 (0, 0)) := (hb4.block _ (by omega)).trans P1.out
    have hs : (Tryd.prog.info? 23).map (·.size) = some (S.v8 (S.fin st L [])).size := by rw [S.v8_size, S.fin, S.dig_length]; exact size23
    have ho : (S.v8 (S.zeros 32)).size = (S.v8 (S.fin st L [])).size := by rw [S.v8_size, S.v8_size, S.fin, S.dig_length]; rfl
    have hn4 : Below w.heap.size w w4 := P2.out.trans (hb4.mono (by omega))
    have Q1 := hide a1
    have Q2 := hide hs
    have Q3 := hide ho
    clear a1 hs ho hb4
    go_wp2_with (refine wpList_store_row rfl 23 _ _ rfl (w.heap.size + 1) (S.v8 (S.fin st L [])) rfl rfl 23 _ Q1.out Q2.out Q3.out (S.v8_one _) ?_)
    refine bodyPost_ret (v := .agg (S.v8 (S.fin st L []))) (results_cell_row (g := w.heap.size + 1) (t := 23) (fr := (0, 0)) Tryd.results54 _ _ _ _ rfl (setRow_heap _ _ _ _ _ _ Q1.out) Tryd.underlying23 rfl Q2.out) rfl ⟨rfl, below_setRow hn4 (by omega) _⟩
end Go.Proofs.YtlbggkmblkhjoaaDoor
