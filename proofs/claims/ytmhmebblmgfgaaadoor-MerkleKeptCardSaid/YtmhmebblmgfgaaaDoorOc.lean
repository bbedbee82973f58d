/- MerkleNumbers. -/
import Derived.Test.YtmhmebblmgfgaaaDoorOa
import Derived.Test.YtmhmebblmgfgaaaDoorMj
namespace Go.Proofs.YtmhmebblmgfgaaaDoor
open Go.RowKit

namespace S
theorem root_cw (a b : Int) (h : cw a = cw b) : ∀ N (l : List (List UInt8)), l.length = N → root a l = root b l := by
  have hh : ∀ bs, hsh a bs = hsh b bs := fun bs => by rw [hsh, hsh, h]
  intro N
  induction N using Nat.strongRecOn with
  | ind N IH =>
  intro l hl
  rcases (by omega : l.length = 0 ∨ l.length = 1 ∨ 2 ≤ l.length) with h1 | h1 | h1
  · rw [root_none a l h1, root_none b l h1, hh]
  · rw [root_one a l h1, root_one b l h1, leaf, leaf, hh]
  · have := half_lt' h1
    have := half_pos l.length
    rw [root_more a l h1, root_more b l h1, IH _ (by rw [List.length_take]; omega) _ rfl, IH _ (by rw [List.length_drop]; omega) (l.drop (half l.length)) rfl, node, node, h, hh]
theorem half3 : half 3 = 2 := by decide +kernel
theorem half2 : half 2 = 1 := by decide +kernel
theorem prove_3_2 (a : Int) (x y z : List UInt8) : prove a [x, y, z] 2 = [root a [x, y]] := by
  rw [prove, if_pos (by simp), path_right a _ _ (by simp) (by simp [half3])]
  simp only [List.length_cons, List.length_nil, Nat.zero_add, Nat.reduceAdd, half3, List.drop_succ_cons, List.drop_zero, List.take_succ_cons, List.take_zero]
  rw [path_one a _ _ (by simp)]
  rfl
theorem prove_3_0 (a : Int) (x y z : List UInt8) : prove a [x, y, z] 0 = [leaf a y, leaf a z] := by
  rw [prove, if_pos (by simp), path_left a _ _ (by simp) (by simp [half3])]
  simp only [List.length_cons, List.length_nil, Nat.zero_add, Nat.reduceAdd, half3, List.drop_succ_cons, List.drop_zero, List.take_succ_cons, List.take_zero]
  rw [path_left a _ _ (by simp) (by simp [half2])]
  simp only [List.length_cons, List.length_nil, Nat.zero_add, Nat.reduceAdd, half2, List.drop_succ_cons, List.drop_zero, List.take_succ_cons, List.take_zero]
  rw [path_one a _ _ (by simp), root_one a [y] rfl, root_one a [z] rfl]
  rfl
theorem comp_3_2 (a : Int) (x y z : List UInt8) : comp_ a [x, y, z] 2 = [leaf a z] := by
  rw [comp_, if_neg (by simp), grow_left a _ _ _ (by simp) (by simp) (by simp [half3])]
  simp only [List.length_cons, List.length_nil, Nat.zero_add, Nat.reduceAdd, half3, List.drop_succ_cons, List.drop_zero, List.take_succ_cons, List.take_zero]
  rw [grow_all a _ _ (by simp), root_one a [z] rfl]
  rfl
theorem comp_3_3 (a : Int) (x y z : List UInt8) : comp_ a [x, y, z] 3 = [] := by
  rw [comp_, if_neg (by simp), grow_all a _ _ (by simp)]
theorem prove_1_0 (a : Int) (x : List UInt8) : prove a [x] 0 = [] := by
  rw [prove, if_pos (by simp), path_one a _ _ (by simp)]
end S
theorem bs24two (W : World) (D E : List UInt8) (hD : D.length = 32) (hE : E.length = 32) : (Instr.buildSlice 24 2 #[(0, .agg (S.v8 D)), (1, .agg (S.v8 E))]).run Tryd.prog W = .ok (.slice (some ⟨W.heap.size, 0, none⟩) 2 2) (W.alloc (.cells (S.v8 D ++ S.v8 E) 31)) := by
  obtain ⟨i, hi, hz, hs, _⟩ := info_parts info31
  refine run_buildSlice W 24 31 2 _ _ i _ Tryd.underlying24 hi hz (by rw [hs]; omega) (by rw [hs]; omega) ?_
  have h := Great.fill_whole (s := 32) (by omega) [.agg (S.v8 D), .agg (S.v8 E)] ((Array.range (2 * i.size)).map ((Value.agg (S.v8 (S.zeros 32))).cells[· % (Value.agg (S.v8 (S.zeros 32))).cells.size]!)) (fun v hv => by
    simp only [List.mem_cons, List.mem_nil_iff, or_false] at hv
    rcases hv with rfl | rfl
    · show (S.v8 D).size = 32; rw [S.v8_size, hD]
    · show (S.v8 E).size = 32; rw [S.v8_size, hE]) (by simp [hs])
  rw [hs] at h ⊢
  refine h.trans ?_
  simp [Value.cells]
theorem dgAt_one {W : World} {g : Nat} {D : List UInt8} (h : W.heap[g]? = some (.cells (S.v8 D) 31 (0, 0))) (hD : D.length = 32) : DgAt W (.slice (some ⟨g, 0, none⟩) 1 1) [D] :=
  (dgRow_one (B := 0) h hD (Nat.zero_le _)).dgAt (by simp) (fun d hd => by simp only [List.mem_singleton] at hd; rw [hd]; exact hD)
theorem dgAt_two {W : World} {g : Nat} {D E : List UInt8} (h : W.heap[g]? = some (.cells (S.v8 D ++ S.v8 E) 31 (0, 0))) (hD : D.length = 32) (hE : E.length = 32) : DgAt W (.slice (some ⟨g, 0, none⟩) 2 2) [D, E] := by
  have : DgRow 0 W (.slice (some ⟨g, 0, none⟩) 2 2) [D, E] := by
    refine ⟨by simp [S.v8l_length, hD, hE], Or.inr ⟨g, 2, S.v8 D ++ S.v8 E, rfl, Nat.zero_le _, h, by simp, by simp [maxLen], by simp [S.v8_size, hD, hE], ?_⟩⟩
    simp [S.v8_eq, List.take_of_length_le, S.v8l_length, hD, hE]
  exact this.dgAt (by simp) (fun d hd => by
    simp only [List.mem_cons, List.mem_nil_iff, or_false] at hd
    rcases hd with rfl | rfl
    · exact hD
    · exact hE)
theorem step_buildSlice_when {md : Region.Mode} {ops : Array Oper} {Q : Exit → Act → World → Prop} {S : World → Prop} {fuel : Nat} {listed : Array Bool} {a : Act} {w : World} {i : Nat} {o : Oper} {rs : List Nat} (ho : ops[i]? = some o) (hw : Region.wanted o (yielded ops a.tmps) = true) (t : TypeId) (n : Nat) (parts : List (Nat × Operand))
    (hop : o.op = .buildSlice t n parts.toArray) (vs : List (Nat × Value)) (hvs : (parts.map fun p => (p.1, a.eval p.2)) = vs) (v' : Value) (w' : World) (hr : (Instr.buildSlice t n vs.toArray).run Tryd.prog w = .ok v' w') (hrest : AllReadyH Tryd.prog md ops Q S fuel listed a w rs)
    (h : S w' ∧ (S w' → wpAnyH Tryd.prog md ops Q S fuel (listed.setIfInBounds i true) (a.put o.dst v') w')) : AllReadyH Tryd.prog md ops Q S fuel listed a w (i :: rs) := by
  subst hvs
  refine AllReadyH.cons ho (fun K hK => ?_) hrest
  rw [if_pos hw]
  unfold Oper.wp execOp
  simp only [hop, Sem.run_bind, List.map_toArray, hr, Result.andThen_ok]
  exact hK.out _ _ h.1 h.2
theorem all32_one {D : List UInt8} (h : D.length = 32) : ∀ d ∈ [D], d.length = 32 := fun d hd => by simp only [List.mem_singleton] at hd; rw [hd]; exact h
theorem all32_two {D E : List UInt8} (h : D.length = 32) (h2 : E.length = 32) : ∀ d ∈ [D, E], d.length = 32 := fun d hd => by
  simp only [List.mem_cons, List.mem_nil_iff, or_false] at hd
  rcases hd with rfl | rfl
  · exact h
  · exact h2
theorem DgRow.two {B : Nat} {w : World} {v : Value} {D E : List UInt8} (h : DgRow B w v [D, E]) (hD : D.length = 32) (hE : E.length = 32) : DgAt w v [D, E] := h.dgAt (by simp) (all32_two hD hE)
theorem DgRow.one {B : Nat} {w : World} {v : Value} {D : List UInt8} (h : DgRow B w v [D]) (hD : D.length = 32) : DgAt w v [D] := h.dgAt (by simp) (all32_one hD)
theorem prove_lit (a : Int) (bss : List (List UInt8)) (v : Value) (i : Nat) (z : Int) (hz : z = (i : Int)) (w : World) (hi : i < 18446744073709551616) (h256 : bss.length ≤ 256) (hv : BsAt w v bss) (hf : Fit bss) (hK : KAt w) :
   Calls Tryd.prog 10 #[.int .i64 a, v, .int .u64 z] w fun e w' => Told w w' e (S.prove a bss i) (S.proveNo bss i) := by rw [hz]; exact prove_any a bss v i w hi h256 hv hf hK
theorem compare_lit (a : Int) (bss : List (List UInt8)) (v : Value) (i : Nat) (z : Int) (hz : z = (i : Int)) (w : World) (hi : i < 18446744073709551616) (h256 : bss.length ≤ 256) (hv : BsAt w v bss) (hf : Fit bss) (hK : KAt w) :
   Calls Tryd.prog 11 #[.int .i64 a, v, .int .u64 z] w fun e w' => Told w w' e (S.comp_ a bss i) (S.compNo bss i) := by rw [hz]; exact compare_any a bss v i w hi h256 hv hf hK
set_option maxHeartbeats 16000000 in
set_option maxRecDepth 10000 in
theorem merkleNumbers_walk (w : World) (hK : KAt w) : Calls Tryd.prog 3 #[] w fun e w' => e = .returned (.bool true) ∧ Below w.heap.size w w' := by
  have HK := hide hK
  have h0 := hK.pos
  clear hK
  go_enter Tryd.func3, Tryd.ntmps3
  go_wp2_with fail
  refine (list_any 3 7 (by omega) w).mono ?_
  rintro e w1 ⟨vl, rfl, t1, b1⟩
  have hb := t1.bsAt
  obtain ⟨X, Y, T, hL⟩ : ∃ X Y T, S.lst 3 7 = [X, Y, T] := ⟨_, _, _, rfl⟩
  have hfit : Fit [X, Y, T] := by rw [← hL]; exact S.lst_fit _ _
  rw [hL] at hb
  obtain ⟨b, off, cap, rfl, hcap, hbl, hcl⟩ := hb.src (by simp)
  obtain ⟨x1, hx1, hs1⟩ := hcl 1 (by simp)
  obtain ⟨x2, hx2, hs2⟩ := hcl 2 (by simp)
  obtain ⟨o1, n1, c1, rfl, e1, e1'⟩ := hs1.form
  obtain ⟨o2, n2, c2, rfl, e2, e2'⟩ := hs2.form
  have V1 : Hid (BsAt w1 (.slice (some ⟨b, off, none⟩) 3 cap) [X, Y, T]) := hb
  have T1 : Hid (BsAt w1 (.slice (some ⟨b, off, none⟩) 2 cap) [X, Y]) := hb.take 2 (by simp)
  have U1 : Hid (BsAt w1 (.slice (some ⟨b, off, none⟩) 1 cap) [X]) := hb.take 1 (by simp)
  have HF := hide hfit
  have F2 : Hid (Fit [X, Y]) := hfit.take 2
  have F1 : Hid (Fit [X]) := hfit.take 1
  have SY : Hid (SliceAt w1 (.slice o1 n1 c1) Y) := hs1
  have ST : Hid (SliceAt w1 (.slice o2 n2 c2) T) := hs2
  have CY : Hid (w1.cell? ⟨b, off + 1, none⟩ = some (.slice o1 n1 c1)) := hx1
  have CT : Hid (w1.cell? ⟨b, off + 2, none⟩ = some (.slice o2 n2 c2)) := hx2
  have LY := hide (show Y.length + 1 ≤ 140737488355328 from Nat.le_trans (hfit Y (by simp)) (by omega))
  have LT := hide (show T.length + 1 ≤ 140737488355328 from Nat.le_trans (hfit T (by simp)) (by omega))
  have B1 := hide b1
  have qc : (1 : Int) ≤ (cap : Int) := by simp at hcap; omega
  have qd : (2 : Int) ≤ (cap : Int) := by simp at hcap; omega
  have HBL := hide hbl
  clear e1 e1' e2 e2' t1 hb hL hfit hcl hx1 hx2 hs1 hs2 b1 hcap hbl
  have BW1 : Hid (Below w1.heap.size w1 w1) := Below.refl _ _
  go_wp2_with fail
  refine (prove_lit 32 [X, Y, T] _ 2 2 rfl w1 (by omega) (by simp) (V1.out.below BW1.out (Nat.le_refl _)) HF.out (HK.out.below (B1.out.trans (BW1.out.mono B1.out.size)) h0)).mono ?_
  rintro e v2 ⟨⟨xp, rfl, dp⟩, hb2⟩
  obtain ⟨op, ccp, rfl⟩ := dp.form
  rw [show S.proveNo [X, Y, T] 2 = 0 by simp [S.proveNo]]
  rw [S.prove_3_2] at dp ⊢
  simp only [List.length_cons, List.length_nil, Nat.zero_add] at dp ⊢
  have BW2 : Hid (Below w1.heap.size w1 v2) := BW1.out.trans (hb2.mono BW1.out.size)
  have Dp0 := hide (dp.one (S.root_length _ _))
  clear dp hb2 BW1
  go_wp2_with fail
  refine (prove_lit 32 [X, Y, T] _ 0 0 rfl v2 (by omega) (by simp) (V1.out.below BW2.out (Nat.le_refl _)) HF.out (HK.out.below (B1.out.trans (BW2.out.mono B1.out.size)) h0)).mono ?_
  rintro e v3 ⟨⟨xq, rfl, dq⟩, hb2⟩
  obtain ⟨oq, ccq, rfl⟩ := dq.form
  rw [show S.proveNo [X, Y, T] 0 = 0 by simp [S.proveNo]]
  rw [S.prove_3_0] at dq ⊢
  simp only [List.length_cons, List.length_nil, Nat.zero_add, Nat.reduceAdd] at dq ⊢
  have BW3 : Hid (Below w1.heap.size w1 v3) := BW2.out.trans (hb2.mono BW2.out.size)
  have Dp1 := hide (Dp0.out.below hb2)
  clear Dp0
  have Dq1 := hide (dq.two (S.leaf_length _ _) (S.leaf_length _ _))
  clear dq hb2 BW2
  go_wp2_with fail
  refine (prove_lit 32 [X, Y, T] _ 3 3 rfl v3 (by omega) (by simp) (V1.out.below BW3.out (Nat.le_refl _)) HF.out (HK.out.below (B1.out.trans (BW3.out.mono B1.out.size)) h0)).mono ?_
  rintro e v4 ⟨⟨xg_, rfl, dg_⟩, hb2⟩
  obtain ⟨og_, ccg_, rfl⟩ := dg_.form
  rw [show S.proveNo [X, Y, T] 3 = 25 by simp [S.proveNo]]
  rw [show S.prove 32 [X, Y, T] 3 = [] by simp [S.prove]] at dg_ ⊢
  simp only [List.length_nil] at dg_ ⊢
  have BW4 : Hid (Below w1.heap.size w1 v4) := BW3.out.trans (hb2.mono BW3.out.size)
  have Dp2 := hide (Dp1.out.below hb2)
  clear Dp1
  have Dq2 := hide (Dq1.out.below hb2)
  clear Dq1
  clear dg_ hb2 BW3
  go_wp2_with fail
  refine (compare_lit 32 [X, Y, T] _ 2 2 rfl v4 (by omega) (by simp) (V1.out.below BW4.out (Nat.le_refl _)) HF.out (HK.out.below (B1.out.trans (BW4.out.mono B1.out.size)) h0)).mono ?_
  rintro e v5 ⟨⟨xr, rfl, dr⟩, hb2⟩
  obtain ⟨or, ccr, rfl⟩ := dr.form
  rw [show S.compNo [X, Y, T] 2 = 0 by simp [S.compNo]]
  rw [S.comp_3_2] at dr ⊢
  simp only [List.length_cons, List.length_nil, Nat.zero_add] at dr ⊢
  have BW5 : Hid (Below w1.heap.size w1 v5) := BW4.out.trans (hb2.mono BW4.out.size)
  have Dp3 := hide (Dp2.out.below hb2)
  clear Dp2
  have Dq3 := hide (Dq2.out.below hb2)
  clear Dq2
  have Dr3 := hide (dr.one (S.leaf_length _ _))
  clear dr hb2 BW4
  go_wp2_with fail
  refine (compare_lit 32 [X, Y, T] _ 3 3 rfl v5 (by omega) (by simp) (V1.out.below BW5.out (Nat.le_refl _)) HF.out (HK.out.below (B1.out.trans (BW5.out.mono B1.out.size)) h0)).mono ?_
  rintro e v6 ⟨⟨xs_, rfl, ds_⟩, hb2⟩
  obtain ⟨os_, ccs_, rfl⟩ := ds_.form
  rw [show S.compNo [X, Y, T] 3 = 0 by simp [S.compNo]]
  rw [S.comp_3_3] at ds_ ⊢
  simp only [List.length_nil] at ds_ ⊢
  have BW6 : Hid (Below w1.heap.size w1 v6) := BW5.out.trans (hb2.mono BW5.out.size)
  have Dp4 := hide (Dp3.out.below hb2)
  clear Dp3
  have Dq4 := hide (Dq3.out.below hb2)
  clear Dq3
  have Dr4 := hide (Dr3.out.below hb2)
  clear Dr3
  clear ds_ hb2 BW5
  go_wp2_with fail
  refine (compare_lit 32 [X, Y, T] _ 0 0 rfl v6 (by omega) (by simp) (V1.out.below BW6.out (Nat.le_refl _)) HF.out (HK.out.below (B1.out.trans (BW6.out.mono B1.out.size)) h0)).mono ?_
  rintro e v7 ⟨⟨xj_, rfl, dj_⟩, hb2⟩
  obtain ⟨oj_, ccj_, rfl⟩ := dj_.form
  rw [show S.compNo [X, Y, T] 0 = 25 by simp [S.compNo]]
  rw [show S.comp_ 32 [X, Y, T] 0 = [] by simp [S.comp_]] at dj_ ⊢
  simp only [List.length_nil] at dj_ ⊢
  have BW7 : Hid (Below w1.heap.size w1 v7) := BW6.out.trans (hb2.mono BW6.out.size)
  have Dp5 := hide (Dp4.out.below hb2)
  clear Dp4
  have Dq5 := hide (Dq4.out.below hb2)
  clear Dq4
  have Dr5 := hide (Dr4.out.below hb2)
  clear Dr4
  clear dj_ hb2 BW6
  go_wp2_with fail
  refine (compare_lit 32 [X, Y, T] _ 4 4 rfl v7 (by omega) (by simp) (V1.out.below BW7.out (Nat.le_refl _)) HF.out (HK.out.below (B1.out.trans (BW7.out.mono B1.out.size)) h0)).mono ?_
  rintro e v8 ⟨⟨xk_, rfl, dk_⟩, hb2⟩
  obtain ⟨ok_, cck_, rfl⟩ := dk_.form
  rw [show S.compNo [X, Y, T] 4 = 25 by simp [S.compNo]]
  rw [show S.comp_ 32 [X, Y, T] 4 = [] by simp [S.comp_]] at dk_ ⊢
  simp only [List.length_nil] at dk_ ⊢
  have BW8 : Hid (Below w1.heap.size w1 v8) := BW7.out.trans (hb2.mono BW7.out.size)
  have Dp6 := hide (Dp5.out.below hb2)
  clear Dp5
  have Dq6 := hide (Dq5.out.below hb2)
  clear Dq5
  have Dr6 := hide (Dr5.out.below hb2)
  clear Dr5
  clear dk_ hb2 BW7
  go_wp2_with fail
  refine (prove_lit 32 [X] _ 0 0 rfl v8 (by omega) (by simp) (U1.out.below BW8.out (Nat.le_refl _)) F1.out (HK.out.below (B1.out.trans (BW8.out.mono B1.out.size)) h0)).mono ?_
  rintro e v9 ⟨⟨xm, rfl, dm⟩, hb2⟩
  obtain ⟨om, ccm, rfl⟩ := dm.form
  rw [show S.proveNo [X] 0 = 0 by simp [S.proveNo]]
  rw [S.prove_1_0] at dm ⊢
  simp only [List.length_nil] at dm ⊢
  have BW9 : Hid (Below w1.heap.size w1 v9) := BW8.out.trans (hb2.mono BW8.out.size)
  have Dp7 := hide (Dp6.out.below hb2)
  clear Dp6
  have Dq7 := hide (Dq6.out.below hb2)
  clear Dq6
  have Dr7 := hide (Dr6.out.below hb2)
  clear Dr6
  clear dm hb2 BW8
  go_wp2_with fail
  refine wp_region_noPanic ?_
  refine wp_region_held_drew (S := (fun W => W.cell? ⟨b, off + 1, none⟩ = some (.slice o1 n1 c1) ∧ W.cell? ⟨b, off + 2, none⟩ = some (.slice o2 n2 c2))) follows ⟨(BW9.out.cell (p := ⟨b, off + 1, none⟩) HBL.out).trans CY.out, (BW9.out.cell (p := ⟨b, off + 2, none⟩) HBL.out).trans CT.out⟩ (fun hHeld => ?_)
  have BZ0 : Hid (Below w1.heap.size w1 v9.drew) := BW9.out.drew
  have Ep0 := hide (Dp7.out.of_heap (w' := v9.drew) rfl)
  have Eq0 := hide (Dq7.out.of_heap (w' := v9.drew) rfl)
  have Er0 := hide (Dr7.out.of_heap (w' := v9.drew) rfl)
  clear BW9 Dp7 Dq7 Dr7 hHeld
  have hHeld : v9.drew.cell? ⟨b, off + 1, none⟩ = some (.slice o1 n1 c1) ∧ v9.drew.cell? ⟨b, off + 2, none⟩ = some (.slice o2 n2 c2) := ⟨(BZ0.out.cell (p := ⟨b, off + 1, none⟩) HBL.out).trans CY.out, (BZ0.out.cell (p := ⟨b, off + 2, none⟩) HBL.out).trans CT.out⟩
  generalize v9.drew = Z0 at BZ0 Ep0 Eq0 Er0 hHeld ⊢
  refine wpAnyH_take (i := 0) (oi := { dst := some 60, op := Op.move (Operand.tmp 3), type := 25, pos := "law.go:43", after := #[], guard := none }) (v := ?_) rfl (by kernel_rfl) (by kernel_rfl) (by kernel_rfl) (fun _ _ _ h => h) (Or.inl ⟨by rfl, ?_⟩) (by assumption) ?_
  rotate_left
  · intro w hSw
    clear hSw
    go_simp
    all_goals with_reducible rfl
  simp only [Act.put, List.setIfInBounds_toArray, List.set_cons_zero, List.set_cons_succ]
  refine wpAnyH_take (i := 1) (oi := { dst := some 61, op := Op.binOp BinOp.eql 25 (Operand.tmp 60) (Operand.const (Value.int IntKind.i64 0)) 25, type := 4, pos := "law.go:43", after := #[{ on := 0, ground := Ground.data }], guard := none }) (v := ?_) rfl (by kernel_rfl) (by kernel_rfl) (by kernel_rfl) (fun _ _ _ h => h) (Or.inl ⟨by rfl, ?_⟩) (by assumption) ?_
  rotate_left
  · intro w hSw
    clear hSw
    go_simp
    all_goals with_reducible rfl
  simp only [Act.put, List.setIfInBounds_toArray, List.set_cons_zero, List.set_cons_succ]
  refine wpAnyH_take (i := 2) (oi := { dst := some 62, op := Op.move (Operand.tmp 61), type := 4, pos := "law.go:43", after := #[{ on := 1, ground := Ground.data }], guard := none }) (v := ?_) rfl (by kernel_rfl) (by kernel_rfl) (by kernel_rfl) (fun _ _ _ h => h) (Or.inl ⟨by rfl, ?_⟩) (by assumption) ?_
  rotate_left
  · intro w hSw
    clear hSw
    go_simp
    all_goals with_reducible rfl
  simp only [Act.put, List.setIfInBounds_toArray, List.set_cons_zero, List.set_cons_succ]
  refine wpAnyH_take (i := 3) (oi := { dst := some 63, op := Op.move (Operand.tmp 2), type := 24, pos := "law.go:43", after := #[{ on := 2, ground := Ground.guard }], guard := some (2, true) }) (v := ?_) rfl (by kernel_rfl) (by kernel_rfl) (by kernel_rfl) (fun _ _ _ h => h) (Or.inl ⟨by rfl, ?_⟩) (by assumption) ?_
  rotate_left
  · intro w hSw
    clear hSw
    go_simp
    all_goals with_reducible rfl
  simp only [Act.put, List.setIfInBounds_toArray, List.set_cons_zero, List.set_cons_succ]
  refine wpAnyH_take (i := 4) (oi := { dst := some 64, op := Op.move (Operand.tmp 1), type := 22, pos := "law.go:43", after := #[{ on := 2, ground := Ground.guard }], guard := some (2, true) }) (v := ?_) rfl (by kernel_rfl) (by kernel_rfl) (by kernel_rfl) (fun _ _ _ h => h) (Or.inl ⟨by rfl, ?_⟩) (by assumption) ?_
  rotate_left
  · intro w hSw
    clear hSw
    go_simp
    all_goals with_reducible rfl
  simp only [Act.put, List.setIfInBounds_toArray, List.set_cons_zero, List.set_cons_succ]
  refine wpAnyH_take (i := 5) (oi := { dst := some 65, op := Op.slice 22 (Operand.tmp 64) none (some (Operand.const (Value.int IntKind.i64 2))) none, type := 22, pos := "law.go:43", after := #[{ on := 4, ground := Ground.data }, { on := 2, ground := Ground.guard }], guard := some (2, true) }) (v := ?_) rfl (by kernel_rfl) (by kernel_rfl) (by kernel_rfl) (fun _ _ _ h => h) (Or.inl ⟨by rfl, ?_⟩) (by assumption) ?_
  rotate_left
  · intro w hSw
    clear hSw
    go_simp
    all_goals with_reducible rfl
  simp only [Act.put, List.setIfInBounds_toArray, List.set_cons_zero, List.set_cons_succ]
  refine wpAnyH_ready (rs := [6]) (by kernel_rfl) (by simp) ?_
  refine AllReadyH.cons (o := { dst := some 66, op := Op.call { callee := Callee.value (Operand.func 13), args := #[Operand.const (Value.int IntKind.i64 32), Operand.tmp 65], argTypes := #[3, 22] }, type := 31, pos := "law.go:43", after := #[{ on := 5, ground := Ground.data }, { on := 2, ground := Ground.chain }, { on := 2, ground := Ground.guard }], guard := some (2, true) }) rfl (fun K hK => ?_) AllReadyH.nil
  go_simp
  refine (root_any 32 _ [X, Y] Z0 (T1.out.below BZ0.out (Nat.le_refl _)) (by simp) F2.out (HK.out.below (B1.out.trans (BZ0.out.mono B1.out.size)) h0)).mono ?_
  rintro e Z1 ⟨rfl, hb2⟩
  obtain ⟨P1, hP1⟩ : ∃ D, D = S.root 32 [X, Y] := ⟨_, rfl⟩
  rw [← hP1]
  have LP1 := hide (show P1.length = 32 by rw [hP1, S.root_length])
  have HP1 := hide hP1
  have BZ1 : Hid (Below w1.heap.size w1 Z1) := BZ0.out.trans (hb2.mono BZ0.out.size)
  have Ep1 := hide (Ep0.out.below hb2)
  have Eq1 := hide (Eq0.out.below hb2)
  have Er1 := hide (Er0.out.below hb2)
  clear BZ0 Ep0 Eq0 Er0
  clear hb2 hP1 hHeld
  refine hK.out _ _ ⟨(BZ1.out.cell (p := ⟨b, off + 1, none⟩) HBL.out).trans CY.out, (BZ1.out.cell (p := ⟨b, off + 2, none⟩) HBL.out).trans CT.out⟩ (fun hHeld => ?_)
  clear hK K
  try simp only [Act.put, List.setIfInBounds_toArray, List.set_cons_zero, List.set_cons_succ]
  refine wpAnyH_ready (rs := [7]) (by kernel_rfl) (by simp) ?_
  have bs1 := bs24one Z1 P1 LP1.out
  obtain ⟨Z2, hZ⟩ : ∃ Z, Z = Z1.alloc (.cells (S.v8 P1) 31) := ⟨_, rfl⟩
  rw [← hZ] at bs1
  have hb2 : Below Z1.heap.size Z1 Z2 := by rw [hZ]; exact (Below.refl _ _).alloc (Nat.le_refl _) _
  have rb2 : Z2.heap[Z1.heap.size]? = some (.cells (S.v8 P1) 31 (0, 0)) := by rw [hZ]; exact heap_alloc_new _ _
  obtain ⟨gp, hgp⟩ : ∃ g, g = Z1.heap.size := ⟨_, rfl⟩
  rw [← hgp] at bs1 rb2
  have Np := hide (dgAt_one rb2 LP1.out)
  have BZ2 : Hid (Below w1.heap.size w1 Z2) := BZ1.out.trans (hb2.mono BZ1.out.size)
  have Ep2 := hide (Ep1.out.below hb2)
  have Eq2 := hide (Eq1.out.below hb2)
  have Er2 := hide (Er1.out.below hb2)
  clear BZ1 Ep1 Eq1 Er1
  clear hb2 hZ rb2 hgp hHeld
  refine step_buildSlice_when (o := { dst := some 67, op := Op.buildSlice 24 1 #[(0, Operand.tmp 66)], type := 24, pos := "law.go:43", after := #[{ on := 6, ground := Ground.data }, { on := 2, ground := Ground.guard }], guard := some (2, true) }) rfl (by rfl) 24 1 [(0, .tmp 66)] rfl [(0, .agg (S.v8 P1))] rfl _ _ bs1 AllReadyH.nil ⟨⟨(BZ2.out.cell (p := ⟨b, off + 1, none⟩) HBL.out).trans CY.out, (BZ2.out.cell (p := ⟨b, off + 2, none⟩) HBL.out).trans CT.out⟩, fun hHeld => ?_⟩
  clear bs1
  simp only [Act.put, List.setIfInBounds_toArray, List.set_cons_zero, List.set_cons_succ]
  refine wpAnyH_ready (rs := [8]) (by kernel_rfl) (by simp) ?_
  refine AllReadyH.cons (o := { dst := some 68, op := Op.call { callee := Callee.value (Operand.func 12), args := #[Operand.tmp 63, Operand.tmp 67], argTypes := #[24, 24] }, type := 4, pos := "law.go:43", after := #[{ on := 3, ground := Ground.data }, { on := 7, ground := Ground.data }, { on := 6, ground := Ground.chain }, { on := 2, ground := Ground.guard }], guard := some (2, true) }) rfl (fun K hK => ?_) AllReadyH.nil
  go_simp
  have E0 := Ep2.out
  rw [← HP1.out] at E0
  refine (same_dg _ _ [P1] Z2 E0 Np.out).mono ?_
  rintro e Z3 ⟨rfl, hb2⟩
  clear E0 Ep2 Np
  have BZ3 : Hid (Below w1.heap.size w1 Z3) := BZ2.out.trans (hb2.below _)
  have Eq3 := hide (Eq2.out.of_heap hb2.1)
  have Er3 := hide (Er2.out.of_heap hb2.1)
  clear BZ2 Eq2 Er2
  clear hb2 hHeld
  refine hK.out _ _ ⟨(BZ3.out.cell (p := ⟨b, off + 1, none⟩) HBL.out).trans CY.out, (BZ3.out.cell (p := ⟨b, off + 2, none⟩) HBL.out).trans CT.out⟩ (fun hHeld => ?_)
  clear hK K
  try simp only [Act.put, List.setIfInBounds_toArray, List.set_cons_zero, List.set_cons_succ]
  refine wpAnyH_take (i := 9) (oi := { dst := some 69, op := Op.pick (Operand.tmp 62) (Operand.tmp 68) (Operand.const (Value.bool false)), type := 4, pos := "law.go:43", after := #[{ on := 2, ground := Ground.data }, { on := 8, ground := Ground.data }], guard := none }) (v := ?_) rfl (by kernel_rfl) (by kernel_rfl) (by kernel_rfl) (fun _ _ _ h => h) (Or.inl ⟨by rfl, ?_⟩) (by assumption) ?_
  rotate_left
  · intro w hSw
    clear hSw
    go_simp
    all_goals with_reducible rfl
  simp only [Act.put, List.setIfInBounds_toArray, List.set_cons_zero, List.set_cons_succ]
  refine wpAnyH_take (i := 10) (oi := { dst := some 70, op := Op.move (Operand.tmp 69), type := 4, pos := "law.go:43", after := #[{ on := 9, ground := Ground.data }, { on := 8, ground := Ground.chain }], guard := none }) (v := ?_) rfl (by kernel_rfl) (by kernel_rfl) (by kernel_rfl) (fun _ _ _ h => h) (Or.inl ⟨by rfl, ?_⟩) (by assumption) ?_
  rotate_left
  · intro w hSw
    clear hSw
    go_simp
    all_goals with_reducible rfl
  simp only [Act.put, List.setIfInBounds_toArray, List.set_cons_zero, List.set_cons_succ]
  refine wpAnyH_take (i := 11) (oi := { dst := some 71, op := Op.move (Operand.tmp 5), type := 25, pos := "law.go:43", after := #[{ on := 10, ground := Ground.guard }], guard := some (10, true) }) (v := ?_) rfl (by kernel_rfl) (by kernel_rfl) (by kernel_rfl) (fun _ _ _ h => h) (Or.inl ⟨by rfl, ?_⟩) (by assumption) ?_
  rotate_left
  · intro w hSw
    clear hSw
    go_simp
    all_goals with_reducible rfl
  simp only [Act.put, List.setIfInBounds_toArray, List.set_cons_zero, List.set_cons_succ]
  refine wpAnyH_take (i := 12) (oi := { dst := some 72, op := Op.binOp BinOp.eql 25 (Operand.tmp 71) (Operand.const (Value.int IntKind.i64 0)) 25, type := 4, pos := "law.go:43", after := #[{ on := 11, ground := Ground.data }, { on := 10, ground := Ground.guard }], guard := some (10, true) }) (v := ?_) rfl (by kernel_rfl) (by kernel_rfl) (by kernel_rfl) (fun _ _ _ h => h) (Or.inl ⟨by rfl, ?_⟩) (by assumption) ?_
  rotate_left
  · intro w hSw
    clear hSw
    go_simp
    all_goals with_reducible rfl
  simp only [Act.put, List.setIfInBounds_toArray, List.set_cons_zero, List.set_cons_succ]
  refine wpAnyH_take (i := 13) (oi := { dst := some 73, op := Op.pick (Operand.tmp 70) (Operand.tmp 72) (Operand.const (Value.bool false)), type := 4, pos := "law.go:43", after := #[{ on := 10, ground := Ground.data }, { on := 12, ground := Ground.data }], guard := none }) (v := ?_) rfl (by kernel_rfl) (by kernel_rfl) (by kernel_rfl) (fun _ _ _ h => h) (Or.inl ⟨by rfl, ?_⟩) (by assumption) ?_
  rotate_left
  · intro w hSw
    clear hSw
    go_simp
    all_goals with_reducible rfl
  simp only [Act.put, List.setIfInBounds_toArray, List.set_cons_zero, List.set_cons_succ]
  refine wpAnyH_take (i := 14) (oi := { dst := some 74, op := Op.move (Operand.tmp 73), type := 4, pos := "law.go:43", after := #[{ on := 13, ground := Ground.data }, { on := 10, ground := Ground.chain }], guard := none }) (v := ?_) rfl (by kernel_rfl) (by kernel_rfl) (by kernel_rfl) (fun _ _ _ h => h) (Or.inl ⟨by rfl, ?_⟩) (by assumption) ?_
  rotate_left
  · intro w hSw
    clear hSw
    go_simp
    all_goals with_reducible rfl
  simp only [Act.put, List.setIfInBounds_toArray, List.set_cons_zero, List.set_cons_succ]
  refine wpAnyH_take (i := 15) (oi := { dst := some 75, op := Op.move (Operand.tmp 4), type := 24, pos := "law.go:43", after := #[{ on := 14, ground := Ground.guard }], guard := some (14, true) }) (v := ?_) rfl (by kernel_rfl) (by kernel_rfl) (by kernel_rfl) (fun _ _ _ h => h) (Or.inl ⟨by rfl, ?_⟩) (by assumption) ?_
  rotate_left
  · intro w hSw
    clear hSw
    go_simp
    all_goals with_reducible rfl
  simp only [Act.put, List.setIfInBounds_toArray, List.set_cons_zero, List.set_cons_succ]
  refine wpAnyH_take (i := 16) (oi := { dst := some 76, op := Op.move (Operand.tmp 1), type := 22, pos := "law.go:43", after := #[{ on := 14, ground := Ground.guard }], guard := some (14, true) }) (v := ?_) rfl (by kernel_rfl) (by kernel_rfl) (by kernel_rfl) (fun _ _ _ h => h) (Or.inl ⟨by rfl, ?_⟩) (by assumption) ?_
  rotate_left
  · intro w hSw
    clear hSw
    go_simp
    all_goals with_reducible rfl
  simp only [Act.put, List.setIfInBounds_toArray, List.set_cons_zero, List.set_cons_succ]
  refine wpAnyH_take (i := 17) (oi := { dst := some 77, op := Op.indexAddr 22 (Operand.tmp 76) (Operand.const (Value.int IntKind.i64 1)), type := 0, pos := "law.go:43", after := #[{ on := 16, ground := Ground.data }, { on := 14, ground := Ground.guard }], guard := some (14, true) }) (v := ?_) rfl (by kernel_rfl) (by kernel_rfl) (by kernel_rfl) (fun _ _ _ h => h) (Or.inl ⟨by rfl, ?_⟩) (by assumption) ?_
  rotate_left
  · intro w hSw
    clear hSw
    go_simp
    all_goals with_reducible rfl
  simp only [Act.put, List.setIfInBounds_toArray, List.set_cons_zero, List.set_cons_succ]
  refine wpAnyH_take (i := 18) (oi := { dst := some 78, op := Op.load 34 (Operand.tmp 77), type := 34, pos := "law.go:43", after := #[{ on := 17, ground := Ground.data }, { on := 14, ground := Ground.guard }], guard := some (14, true) }) (v := ?_) rfl (by kernel_rfl) (by kernel_rfl) (by kernel_rfl) (fun _ _ _ h => h) (Or.inl ⟨by rfl, ?_⟩) (by assumption) ?_
  rotate_left
  · intro w hSw
    have c4 := hSw.1
    clear hSw
    go_simp
    all_goals with_reducible rfl
  simp only [Act.put, List.setIfInBounds_toArray, List.set_cons_zero, List.set_cons_succ]
  refine wpAnyH_take (i := 20) (oi := { dst := some 80, op := Op.move (Operand.tmp 1), type := 22, pos := "law.go:43", after := #[{ on := 14, ground := Ground.guard }], guard := some (14, true) }) (v := ?_) rfl (by kernel_rfl) (by kernel_rfl) (by kernel_rfl) (fun _ _ _ h => h) (Or.inl ⟨by rfl, ?_⟩) (by assumption) ?_
  rotate_left
  · intro w hSw
    clear hSw
    go_simp
    all_goals with_reducible rfl
  simp only [Act.put, List.setIfInBounds_toArray, List.set_cons_zero, List.set_cons_succ]
  refine wpAnyH_take (i := 21) (oi := { dst := some 81, op := Op.indexAddr 22 (Operand.tmp 80) (Operand.const (Value.int IntKind.i64 2)), type := 0, pos := "law.go:43", after := #[{ on := 20, ground := Ground.data }, { on := 14, ground := Ground.guard }], guard := some (14, true) }) (v := ?_) rfl (by kernel_rfl) (by kernel_rfl) (by kernel_rfl) (fun _ _ _ h => h) (Or.inl ⟨by rfl, ?_⟩) (by assumption) ?_
  rotate_left
  · intro w hSw
    clear hSw
    go_simp
    all_goals with_reducible rfl
  simp only [Act.put, List.setIfInBounds_toArray, List.set_cons_zero, List.set_cons_succ]
  refine wpAnyH_take (i := 22) (oi := { dst := some 82, op := Op.load 34 (Operand.tmp 81), type := 34, pos := "law.go:43", after := #[{ on := 21, ground := Ground.data }, { on := 14, ground := Ground.guard }], guard := some (14, true) }) (v := ?_) rfl (by kernel_rfl) (by kernel_rfl) (by kernel_rfl) (fun _ _ _ h => h) (Or.inl ⟨by rfl, ?_⟩) (by assumption) ?_
  rotate_left
  · intro w hSw
    have c4 := hSw.2
    clear hSw
    go_simp
    all_goals with_reducible rfl
  simp only [Act.put, List.setIfInBounds_toArray, List.set_cons_zero, List.set_cons_succ]
  refine wpAnyH_ready (rs := [19]) (by kernel_rfl) (by simp) ?_
  refine AllReadyH.cons (o := { dst := some 79, op := Op.call { callee := Callee.value (Operand.func 14), args := #[Operand.const (Value.int IntKind.i64 32), Operand.tmp 78], argTypes := #[3, 34] }, type := 31, pos := "law.go:43", after := #[{ on := 18, ground := Ground.data }, { on := 14, ground := Ground.chain }, { on := 14, ground := Ground.guard }], guard := some (14, true) }) rfl (fun K hK => ?_) AllReadyH.nil
  go_simp
  refine (leaf_any 32 _ Y Z3 (SY.out.below BZ3.out (Nat.le_refl _)) LY.out (HK.out.below (B1.out.trans (BZ3.out.mono B1.out.size)) h0)).mono ?_
  rintro e Z4 ⟨rfl, hb2⟩
  obtain ⟨Q1, hQ1⟩ : ∃ D, D = S.leaf 32 Y := ⟨_, rfl⟩
  rw [← hQ1]
  have LQ1 := hide (show Q1.length = 32 by rw [hQ1, S.leaf_length])
  have HQ1 := hide hQ1
  have BZ4 : Hid (Below w1.heap.size w1 Z4) := BZ3.out.trans (hb2.mono BZ3.out.size)
  have Eq4 := hide (Eq3.out.below hb2)
  have Er4 := hide (Er3.out.below hb2)
  clear BZ3 Eq3 Er3
  clear hb2 hQ1 hHeld
  refine hK.out _ _ ⟨(BZ4.out.cell (p := ⟨b, off + 1, none⟩) HBL.out).trans CY.out, (BZ4.out.cell (p := ⟨b, off + 2, none⟩) HBL.out).trans CT.out⟩ (fun hHeld => ?_)
  clear hK K
  try simp only [Act.put, List.setIfInBounds_toArray, List.set_cons_zero, List.set_cons_succ]
  refine wpAnyH_ready (rs := [23]) (by kernel_rfl) (by simp) ?_
  refine AllReadyH.cons (o := { dst := some 83, op := Op.call { callee := Callee.value (Operand.func 14), args := #[Operand.const (Value.int IntKind.i64 32), Operand.tmp 82], argTypes := #[3, 34] }, type := 31, pos := "law.go:43", after := #[{ on := 22, ground := Ground.data }, { on := 19, ground := Ground.chain }, { on := 14, ground := Ground.guard }], guard := some (14, true) }) rfl (fun K hK => ?_) AllReadyH.nil
  go_simp
  refine (leaf_any 32 _ T Z4 (ST.out.below BZ4.out (Nat.le_refl _)) LT.out (HK.out.below (B1.out.trans (BZ4.out.mono B1.out.size)) h0)).mono ?_
  rintro e Z5 ⟨rfl, hb2⟩
  obtain ⟨Q2, hQ2⟩ : ∃ D, D = S.leaf 32 T := ⟨_, rfl⟩
  rw [← hQ2]
  have LQ2 := hide (show Q2.length = 32 by rw [hQ2, S.leaf_length])
  have HQ2 := hide hQ2
  have BZ5 : Hid (Below w1.heap.size w1 Z5) := BZ4.out.trans (hb2.mono BZ4.out.size)
  have Eq5 := hide (Eq4.out.below hb2)
  have Er5 := hide (Er4.out.below hb2)
  clear BZ4 Eq4 Er4
  clear hb2 hQ2 hHeld
  refine hK.out _ _ ⟨(BZ5.out.cell (p := ⟨b, off + 1, none⟩) HBL.out).trans CY.out, (BZ5.out.cell (p := ⟨b, off + 2, none⟩) HBL.out).trans CT.out⟩ (fun hHeld => ?_)
  clear hK K
  try simp only [Act.put, List.setIfInBounds_toArray, List.set_cons_zero, List.set_cons_succ]
  refine wpAnyH_ready (rs := [24]) (by kernel_rfl) (by simp) ?_
  have bs1 := bs24two Z5 Q1 Q2 LQ1.out LQ2.out
  obtain ⟨Z6, hZ⟩ : ∃ Z, Z = Z5.alloc (.cells (S.v8 Q1 ++ S.v8 Q2) 31) := ⟨_, rfl⟩
  rw [← hZ] at bs1
  have hb2 : Below Z5.heap.size Z5 Z6 := by rw [hZ]; exact (Below.refl _ _).alloc (Nat.le_refl _) _
  have rb2 : Z6.heap[Z5.heap.size]? = some (.cells (S.v8 Q1 ++ S.v8 Q2) 31 (0, 0)) := by rw [hZ]; exact heap_alloc_new _ _
  obtain ⟨gq, hgq⟩ : ∃ g, g = Z5.heap.size := ⟨_, rfl⟩
  rw [← hgq] at bs1 rb2
  have Nq := hide (dgAt_two rb2 LQ1.out LQ2.out)
  have BZ6 : Hid (Below w1.heap.size w1 Z6) := BZ5.out.trans (hb2.mono BZ5.out.size)
  have Eq6 := hide (Eq5.out.below hb2)
  have Er6 := hide (Er5.out.below hb2)
  clear BZ5 Eq5 Er5
  clear hb2 hZ rb2 hgq hHeld
  refine step_buildSlice_when (o := { dst := some 84, op := Op.buildSlice 24 2 #[(0, Operand.tmp 79), (1, Operand.tmp 83)], type := 24, pos := "law.go:43", after := #[{ on := 19, ground := Ground.data }, { on := 23, ground := Ground.data }, { on := 14, ground := Ground.guard }], guard := some (14, true) }) rfl (by rfl) 24 2 [(0, .tmp 79), (1, .tmp 83)] rfl [(0, .agg (S.v8 Q1)), (1, .agg (S.v8 Q2))] rfl _ _ bs1 AllReadyH.nil ⟨⟨(BZ6.out.cell (p := ⟨b, off + 1, none⟩) HBL.out).trans CY.out, (BZ6.out.cell (p := ⟨b, off + 2, none⟩) HBL.out).trans CT.out⟩, fun hHeld => ?_⟩
  clear bs1
  simp only [Act.put, List.setIfInBounds_toArray, List.set_cons_zero, List.set_cons_succ]
  refine wpAnyH_ready (rs := [25]) (by kernel_rfl) (by simp) ?_
  refine AllReadyH.cons (o := { dst := some 85, op := Op.call { callee := Callee.value (Operand.func 12), args := #[Operand.tmp 75, Operand.tmp 84], argTypes := #[24, 24] }, type := 4, pos := "law.go:43", after := #[{ on := 15, ground := Ground.data }, { on := 24, ground := Ground.data }, { on := 23, ground := Ground.chain }, { on := 14, ground := Ground.guard }], guard := some (14, true) }) rfl (fun K hK => ?_) AllReadyH.nil
  go_simp
  have E0 := Eq6.out
  rw [← HQ1.out, ← HQ2.out] at E0
  refine (same_dg _ _ [Q1, Q2] Z6 E0 Nq.out).mono ?_
  rintro e Z7 ⟨rfl, hb2⟩
  clear E0 Eq6 Nq
  have BZ7 : Hid (Below w1.heap.size w1 Z7) := BZ6.out.trans (hb2.below _)
  have Er7 := hide (Er6.out.of_heap hb2.1)
  clear BZ6 Er6
  clear hb2 hHeld
  refine hK.out _ _ ⟨(BZ7.out.cell (p := ⟨b, off + 1, none⟩) HBL.out).trans CY.out, (BZ7.out.cell (p := ⟨b, off + 2, none⟩) HBL.out).trans CT.out⟩ (fun hHeld => ?_)
  clear hK K
  try simp only [Act.put, List.setIfInBounds_toArray, List.set_cons_zero, List.set_cons_succ]
  refine wpAnyH_take (i := 26) (oi := { dst := some 86, op := Op.pick (Operand.tmp 74) (Operand.tmp 85) (Operand.const (Value.bool false)), type := 4, pos := "law.go:43", after := #[{ on := 14, ground := Ground.data }, { on := 25, ground := Ground.data }], guard := none }) (v := ?_) rfl (by kernel_rfl) (by kernel_rfl) (by kernel_rfl) (fun _ _ _ h => h) (Or.inl ⟨by rfl, ?_⟩) (by assumption) ?_
  rotate_left
  · intro w hSw
    clear hSw
    go_simp
    all_goals with_reducible rfl
  simp only [Act.put, List.setIfInBounds_toArray, List.set_cons_zero, List.set_cons_succ]
  refine wpAnyH_take (i := 27) (oi := { dst := some 87, op := Op.move (Operand.tmp 86), type := 4, pos := "law.go:43", after := #[{ on := 26, ground := Ground.data }, { on := 25, ground := Ground.chain }], guard := none }) (v := ?_) rfl (by kernel_rfl) (by kernel_rfl) (by kernel_rfl) (fun _ _ _ h => h) (Or.inl ⟨by rfl, ?_⟩) (by assumption) ?_
  rotate_left
  · intro w hSw
    clear hSw
    go_simp
    all_goals with_reducible rfl
  simp only [Act.put, List.setIfInBounds_toArray, List.set_cons_zero, List.set_cons_succ]
  refine wpAnyH_take (i := 28) (oi := { dst := some 88, op := Op.move (Operand.tmp 7), type := 25, pos := "law.go:43", after := #[{ on := 27, ground := Ground.guard }], guard := some (27, true) }) (v := ?_) rfl (by kernel_rfl) (by kernel_rfl) (by kernel_rfl) (fun _ _ _ h => h) (Or.inl ⟨by rfl, ?_⟩) (by assumption) ?_
  rotate_left
  · intro w hSw
    clear hSw
    go_simp
    all_goals with_reducible rfl
  simp only [Act.put, List.setIfInBounds_toArray, List.set_cons_zero, List.set_cons_succ]
  refine wpAnyH_take (i := 29) (oi := { dst := some 89, op := Op.binOp BinOp.eql 3 (Operand.tmp 88) (Operand.const (Value.int IntKind.i64 25)) 3, type := 4, pos := "law.go:43", after := #[{ on := 28, ground := Ground.data }, { on := 27, ground := Ground.guard }], guard := some (27, true) }) (v := ?_) rfl (by kernel_rfl) (by kernel_rfl) (by kernel_rfl) (fun _ _ _ h => h) (Or.inl ⟨by rfl, ?_⟩) (by assumption) ?_
  rotate_left
  · intro w hSw
    clear hSw
    go_simp
    all_goals with_reducible rfl
  simp only [Act.put, List.setIfInBounds_toArray, List.set_cons_zero, List.set_cons_succ]
  refine wpAnyH_take (i := 30) (oi := { dst := some 90, op := Op.pick (Operand.tmp 87) (Operand.tmp 89) (Operand.const (Value.bool false)), type := 4, pos := "law.go:43", after := #[{ on := 27, ground := Ground.data }, { on := 29, ground := Ground.data }], guard := none }) (v := ?_) rfl (by kernel_rfl) (by kernel_rfl) (by kernel_rfl) (fun _ _ _ h => h) (Or.inl ⟨by rfl, ?_⟩) (by assumption) ?_
  rotate_left
  · intro w hSw
    clear hSw
    go_simp
    all_goals with_reducible rfl
  simp only [Act.put, List.setIfInBounds_toArray, List.set_cons_zero, List.set_cons_succ]
  refine wpAnyH_take (i := 31) (oi := { dst := some 91, op := Op.move (Operand.tmp 90), type := 4, pos := "law.go:43", after := #[{ on := 30, ground := Ground.data }, { on := 27, ground := Ground.chain }], guard := none }) (v := ?_) rfl (by kernel_rfl) (by kernel_rfl) (by kernel_rfl) (fun _ _ _ h => h) (Or.inl ⟨by rfl, ?_⟩) (by assumption) ?_
  rotate_left
  · intro w hSw
    clear hSw
    go_simp
    all_goals with_reducible rfl
  simp only [Act.put, List.setIfInBounds_toArray, List.set_cons_zero, List.set_cons_succ]
  refine wpAnyH_take (i := 32) (oi := { dst := some 92, op := Op.move (Operand.tmp 9), type := 25, pos := "law.go:43", after := #[{ on := 31, ground := Ground.guard }], guard := some (31, true) }) (v := ?_) rfl (by kernel_rfl) (by kernel_rfl) (by kernel_rfl) (fun _ _ _ h => h) (Or.inl ⟨by rfl, ?_⟩) (by assumption) ?_
  rotate_left
  · intro w hSw
    clear hSw
    go_simp
    all_goals with_reducible rfl
  simp only [Act.put, List.setIfInBounds_toArray, List.set_cons_zero, List.set_cons_succ]
  refine wpAnyH_take (i := 33) (oi := { dst := some 93, op := Op.binOp BinOp.eql 25 (Operand.tmp 92) (Operand.const (Value.int IntKind.i64 0)) 25, type := 4, pos := "law.go:43", after := #[{ on := 32, ground := Ground.data }, { on := 31, ground := Ground.guard }], guard := some (31, true) }) (v := ?_) rfl (by kernel_rfl) (by kernel_rfl) (by kernel_rfl) (fun _ _ _ h => h) (Or.inl ⟨by rfl, ?_⟩) (by assumption) ?_
  rotate_left
  · intro w hSw
    clear hSw
    go_simp
    all_goals with_reducible rfl
  simp only [Act.put, List.setIfInBounds_toArray, List.set_cons_zero, List.set_cons_succ]
  refine wpAnyH_take (i := 34) (oi := { dst := some 94, op := Op.pick (Operand.tmp 91) (Operand.tmp 93) (Operand.const (Value.bool false)), type := 4, pos := "law.go:43", after := #[{ on := 31, ground := Ground.data }, { on := 33, ground := Ground.data }], guard := none }) (v := ?_) rfl (by kernel_rfl) (by kernel_rfl) (by kernel_rfl) (fun _ _ _ h => h) (Or.inl ⟨by rfl, ?_⟩) (by assumption) ?_
  rotate_left
  · intro w hSw
    clear hSw
    go_simp
    all_goals with_reducible rfl
  simp only [Act.put, List.setIfInBounds_toArray, List.set_cons_zero, List.set_cons_succ]
  refine wpAnyH_take (i := 35) (oi := { dst := some 95, op := Op.move (Operand.tmp 94), type := 4, pos := "law.go:43", after := #[{ on := 34, ground := Ground.data }, { on := 31, ground := Ground.chain }], guard := none }) (v := ?_) rfl (by kernel_rfl) (by kernel_rfl) (by kernel_rfl) (fun _ _ _ h => h) (Or.inl ⟨by rfl, ?_⟩) (by assumption) ?_
  rotate_left
  · intro w hSw
    clear hSw
    go_simp
    all_goals with_reducible rfl
  simp only [Act.put, List.setIfInBounds_toArray, List.set_cons_zero, List.set_cons_succ]
  refine wpAnyH_take (i := 36) (oi := { dst := some 96, op := Op.move (Operand.tmp 8), type := 24, pos := "law.go:43", after := #[{ on := 35, ground := Ground.guard }], guard := some (35, true) }) (v := ?_) rfl (by kernel_rfl) (by kernel_rfl) (by kernel_rfl) (fun _ _ _ h => h) (Or.inl ⟨by rfl, ?_⟩) (by assumption) ?_
  rotate_left
  · intro w hSw
    clear hSw
    go_simp
    all_goals with_reducible rfl
  simp only [Act.put, List.setIfInBounds_toArray, List.set_cons_zero, List.set_cons_succ]
  refine wpAnyH_take (i := 37) (oi := { dst := some 97, op := Op.move (Operand.tmp 1), type := 22, pos := "law.go:43", after := #[{ on := 35, ground := Ground.guard }], guard := some (35, true) }) (v := ?_) rfl (by kernel_rfl) (by kernel_rfl) (by kernel_rfl) (fun _ _ _ h => h) (Or.inl ⟨by rfl, ?_⟩) (by assumption) ?_
  rotate_left
  · intro w hSw
    clear hSw
    go_simp
    all_goals with_reducible rfl
  simp only [Act.put, List.setIfInBounds_toArray, List.set_cons_zero, List.set_cons_succ]
  refine wpAnyH_take (i := 38) (oi := { dst := some 98, op := Op.indexAddr 22 (Operand.tmp 97) (Operand.const (Value.int IntKind.i64 2)), type := 0, pos := "law.go:43", after := #[{ on := 37, ground := Ground.data }, { on := 35, ground := Ground.guard }], guard := some (35, true) }) (v := ?_) rfl (by kernel_rfl) (by kernel_rfl) (by kernel_rfl) (fun _ _ _ h => h) (Or.inl ⟨by rfl, ?_⟩) (by assumption) ?_
  rotate_left
  · intro w hSw
    clear hSw
    go_simp
    all_goals with_reducible rfl
  simp only [Act.put, List.setIfInBounds_toArray, List.set_cons_zero, List.set_cons_succ]
  refine wpAnyH_take (i := 39) (oi := { dst := some 99, op := Op.load 34 (Operand.tmp 98), type := 34, pos := "law.go:43", after := #[{ on := 38, ground := Ground.data }, { on := 35, ground := Ground.guard }], guard := some (35, true) }) (v := ?_) rfl (by kernel_rfl) (by kernel_rfl) (by kernel_rfl) (fun _ _ _ h => h) (Or.inl ⟨by rfl, ?_⟩) (by assumption) ?_
  rotate_left
  · intro w hSw
    have c4 := hSw.2
    clear hSw
    go_simp
    all_goals with_reducible rfl
  simp only [Act.put, List.setIfInBounds_toArray, List.set_cons_zero, List.set_cons_succ]
  refine wpAnyH_ready (rs := [40]) (by kernel_rfl) (by simp) ?_
  refine AllReadyH.cons (o := { dst := some 100, op := Op.call { callee := Callee.value (Operand.func 14), args := #[Operand.const (Value.int IntKind.i64 32), Operand.tmp 99], argTypes := #[3, 34] }, type := 31, pos := "law.go:43", after := #[{ on := 39, ground := Ground.data }, { on := 35, ground := Ground.chain }, { on := 35, ground := Ground.guard }], guard := some (35, true) }) rfl (fun K hK => ?_) AllReadyH.nil
  go_simp
  refine (leaf_any 32 _ T Z7 (ST.out.below BZ7.out (Nat.le_refl _)) LT.out (HK.out.below (B1.out.trans (BZ7.out.mono B1.out.size)) h0)).mono ?_
  rintro e Z8 ⟨rfl, hb2⟩
  obtain ⟨S1, hS1⟩ : ∃ D, D = S.leaf 32 T := ⟨_, rfl⟩
  rw [← hS1]
  have LS1 := hide (show S1.length = 32 by rw [hS1, S.leaf_length])
  have HS1 := hide hS1
  have BZ8 : Hid (Below w1.heap.size w1 Z8) := BZ7.out.trans (hb2.mono BZ7.out.size)
  have Er8 := hide (Er7.out.below hb2)
  clear BZ7 Er7
  clear hb2 hS1 hHeld
  refine hK.out _ _ ⟨(BZ8.out.cell (p := ⟨b, off + 1, none⟩) HBL.out).trans CY.out, (BZ8.out.cell (p := ⟨b, off + 2, none⟩) HBL.out).trans CT.out⟩ (fun hHeld => ?_)
  clear hK K
  try simp only [Act.put, List.setIfInBounds_toArray, List.set_cons_zero, List.set_cons_succ]
  refine wpAnyH_ready (rs := [41]) (by kernel_rfl) (by simp) ?_
  have bs1 := bs24one Z8 S1 LS1.out
  obtain ⟨Z9, hZ⟩ : ∃ Z, Z = Z8.alloc (.cells (S.v8 S1) 31) := ⟨_, rfl⟩
  rw [← hZ] at bs1
  have hb2 : Below Z8.heap.size Z8 Z9 := by rw [hZ]; exact (Below.refl _ _).alloc (Nat.le_refl _) _
  have rb2 : Z9.heap[Z8.heap.size]? = some (.cells (S.v8 S1) 31 (0, 0)) := by rw [hZ]; exact heap_alloc_new _ _
  obtain ⟨gr, hgr⟩ : ∃ g, g = Z8.heap.size := ⟨_, rfl⟩
  rw [← hgr] at bs1 rb2
  have Nr := hide (dgAt_one rb2 LS1.out)
  have BZ9 : Hid (Below w1.heap.size w1 Z9) := BZ8.out.trans (hb2.mono BZ8.out.size)
  have Er9 := hide (Er8.out.below hb2)
  clear BZ8 Er8
  clear hb2 hZ rb2 hgr hHeld
  refine step_buildSlice_when (o := { dst := some 101, op := Op.buildSlice 24 1 #[(0, Operand.tmp 100)], type := 24, pos := "law.go:43", after := #[{ on := 40, ground := Ground.data }, { on := 35, ground := Ground.guard }], guard := some (35, true) }) rfl (by rfl) 24 1 [(0, .tmp 100)] rfl [(0, .agg (S.v8 S1))] rfl _ _ bs1 AllReadyH.nil ⟨⟨(BZ9.out.cell (p := ⟨b, off + 1, none⟩) HBL.out).trans CY.out, (BZ9.out.cell (p := ⟨b, off + 2, none⟩) HBL.out).trans CT.out⟩, fun hHeld => ?_⟩
  clear bs1
  simp only [Act.put, List.setIfInBounds_toArray, List.set_cons_zero, List.set_cons_succ]
  refine wpAnyH_ready (rs := [42]) (by kernel_rfl) (by simp) ?_
  refine AllReadyH.cons (o := { dst := some 102, op := Op.call { callee := Callee.value (Operand.func 12), args := #[Operand.tmp 96, Operand.tmp 101], argTypes := #[24, 24] }, type := 4, pos := "law.go:43", after := #[{ on := 36, ground := Ground.data }, { on := 41, ground := Ground.data }, { on := 40, ground := Ground.chain }, { on := 35, ground := Ground.guard }], guard := some (35, true) }) rfl (fun K hK => ?_) AllReadyH.nil
  go_simp
  have E0 := Er9.out
  rw [← HS1.out] at E0
  refine (same_dg _ _ [S1] Z9 E0 Nr.out).mono ?_
  rintro e Z10 ⟨rfl, hb2⟩
  clear E0 Er9 Nr
  have BZ10 : Hid (Below w1.heap.size w1 Z10) := BZ9.out.trans (hb2.below _)
  clear BZ9 
  clear hb2 hHeld
  refine hK.out _ _ ⟨(BZ10.out.cell (p := ⟨b, off + 1, none⟩) HBL.out).trans CY.out, (BZ10.out.cell (p := ⟨b, off + 2, none⟩) HBL.out).trans CT.out⟩ (fun hHeld => ?_)
  clear hK K
  try simp only [Act.put, List.setIfInBounds_toArray, List.set_cons_zero, List.set_cons_succ]
  refine wpAnyH_take (i := 43) (oi := { dst := some 103, op := Op.pick (Operand.tmp 95) (Operand.tmp 102) (Operand.const (Value.bool false)), type := 4, pos := "law.go:43", after := #[{ on := 35, ground := Ground.data }, { on := 42, ground := Ground.data }], guard := none }) (v := ?_) rfl (by kernel_rfl) (by kernel_rfl) (by kernel_rfl) (fun _ _ _ h => h) (Or.inl ⟨by rfl, ?_⟩) (by assumption) ?_
  rotate_left
  · intro w hSw
    clear hSw
    go_simp
    all_goals with_reducible rfl
  simp only [Act.put, List.setIfInBounds_toArray, List.set_cons_zero, List.set_cons_succ]
  refine wpAnyH_take (i := 44) (oi := { dst := some 104, op := Op.move (Operand.tmp 103), type := 4, pos := "law.go:43", after := #[{ on := 43, ground := Ground.data }, { on := 42, ground := Ground.chain }], guard := none }) (v := ?_) rfl (by kernel_rfl) (by kernel_rfl) (by kernel_rfl) (fun _ _ _ h => h) (Or.inl ⟨by rfl, ?_⟩) (by assumption) ?_
  rotate_left
  · intro w hSw
    clear hSw
    go_simp
    all_goals with_reducible rfl
  simp only [Act.put, List.setIfInBounds_toArray, List.set_cons_zero, List.set_cons_succ]
  refine wpAnyH_take (i := 45) (oi := { dst := some 105, op := Op.move (Operand.tmp 11), type := 25, pos := "law.go:43", after := #[{ on := 44, ground := Ground.guard }], guard := some (44, true) }) (v := ?_) rfl (by kernel_rfl) (by kernel_rfl) (by kernel_rfl) (fun _ _ _ h => h) (Or.inl ⟨by rfl, ?_⟩) (by assumption) ?_
  rotate_left
  · intro w hSw
    clear hSw
    go_simp
    all_goals with_reducible rfl
  simp only [Act.put, List.setIfInBounds_toArray, List.set_cons_zero, List.set_cons_succ]
  refine wpAnyH_take (i := 46) (oi := { dst := some 106, op := Op.binOp BinOp.eql 25 (Operand.tmp 105) (Operand.const (Value.int IntKind.i64 0)) 25, type := 4, pos := "law.go:43", after := #[{ on := 45, ground := Ground.data }, { on := 44, ground := Ground.guard }], guard := some (44, true) }) (v := ?_) rfl (by kernel_rfl) (by kernel_rfl) (by kernel_rfl) (fun _ _ _ h => h) (Or.inl ⟨by rfl, ?_⟩) (by assumption) ?_
  rotate_left
  · intro w hSw
    clear hSw
    go_simp
    all_goals with_reducible rfl
  simp only [Act.put, List.setIfInBounds_toArray, List.set_cons_zero, List.set_cons_succ]
  refine wpAnyH_take (i := 47) (oi := { dst := some 107, op := Op.pick (Operand.tmp 104) (Operand.tmp 106) (Operand.const (Value.bool false)), type := 4, pos := "law.go:43", after := #[{ on := 44, ground := Ground.data }, { on := 46, ground := Ground.data }], guard := none }) (v := ?_) rfl (by kernel_rfl) (by kernel_rfl) (by kernel_rfl) (fun _ _ _ h => h) (Or.inl ⟨by rfl, ?_⟩) (by assumption) ?_
  rotate_left
  · intro w hSw
    clear hSw
    go_simp
    all_goals with_reducible rfl
  simp only [Act.put, List.setIfInBounds_toArray, List.set_cons_zero, List.set_cons_succ]
  refine wpAnyH_take (i := 48) (oi := { dst := some 108, op := Op.move (Operand.tmp 107), type := 4, pos := "law.go:43", after := #[{ on := 47, ground := Ground.data }, { on := 44, ground := Ground.chain }], guard := none }) (v := ?_) rfl (by kernel_rfl) (by kernel_rfl) (by kernel_rfl) (fun _ _ _ h => h) (Or.inl ⟨by rfl, ?_⟩) (by assumption) ?_
  rotate_left
  · intro w hSw
    clear hSw
    go_simp
    all_goals with_reducible rfl
  simp only [Act.put, List.setIfInBounds_toArray, List.set_cons_zero, List.set_cons_succ]
  refine wpAnyH_take (i := 49) (oi := { dst := some 109, op := Op.move (Operand.tmp 10), type := 24, pos := "law.go:43", after := #[{ on := 48, ground := Ground.guard }], guard := some (48, true) }) (v := ?_) rfl (by kernel_rfl) (by kernel_rfl) (by kernel_rfl) (fun _ _ _ h => h) (Or.inl ⟨by rfl, ?_⟩) (by assumption) ?_
  rotate_left
  · intro w hSw
    clear hSw
    go_simp
    all_goals with_reducible rfl
  simp only [Act.put, List.setIfInBounds_toArray, List.set_cons_zero, List.set_cons_succ]
  refine wpAnyH_take (i := 50) (oi := { dst := some 110, op := Op.call { callee := Callee.builtin Builtin.len, args := #[Operand.tmp 109], argTypes := #[24] }, type := 3, pos := "law.go:43", after := #[{ on := 49, ground := Ground.data }, { on := 48, ground := Ground.guard }], guard := some (48, true) }) (v := ?_) rfl (by kernel_rfl) (by kernel_rfl) (by kernel_rfl) (fun _ _ _ h => h) (Or.inl ⟨by rfl, ?_⟩) (by assumption) ?_
  rotate_left
  · intro w hSw
    clear hSw
    go_simp
    all_goals with_reducible rfl
  simp only [Act.put, List.setIfInBounds_toArray, List.set_cons_zero, List.set_cons_succ]
  refine wpAnyH_take (i := 51) (oi := { dst := some 111, op := Op.binOp BinOp.eql 3 (Operand.tmp 110) (Operand.const (Value.int IntKind.i64 0)) 3, type := 4, pos := "law.go:43", after := #[{ on := 50, ground := Ground.data }, { on := 48, ground := Ground.guard }], guard := some (48, true) }) (v := ?_) rfl (by kernel_rfl) (by kernel_rfl) (by kernel_rfl) (fun _ _ _ h => h) (Or.inl ⟨by rfl, ?_⟩) (by assumption) ?_
  rotate_left
  · intro w hSw
    clear hSw
    go_simp
    all_goals with_reducible rfl
  simp only [Act.put, List.setIfInBounds_toArray, List.set_cons_zero, List.set_cons_succ]
  refine wpAnyH_take (i := 52) (oi := { dst := some 112, op := Op.pick (Operand.tmp 108) (Operand.tmp 111) (Operand.const (Value.bool false)), type := 4, pos := "law.go:43", after := #[{ on := 48, ground := Ground.data }, { on := 51, ground := Ground.data }], guard := none }) (v := ?_) rfl (by kernel_rfl) (by kernel_rfl) (by kernel_rfl) (fun _ _ _ h => h) (Or.inl ⟨by rfl, ?_⟩) (by assumption) ?_
  rotate_left
  · intro w hSw
    clear hSw
    go_simp
    all_goals with_reducible rfl
  simp only [Act.put, List.setIfInBounds_toArray, List.set_cons_zero, List.set_cons_succ]
  refine wpAnyH_take (i := 53) (oi := { dst := some 113, op := Op.move (Operand.tmp 112), type := 4, pos := "law.go:43", after := #[{ on := 52, ground := Ground.data }, { on := 48, ground := Ground.chain }], guard := none }) (v := ?_) rfl (by kernel_rfl) (by kernel_rfl) (by kernel_rfl) (fun _ _ _ h => h) (Or.inl ⟨by rfl, ?_⟩) (by assumption) ?_
  rotate_left
  · intro w hSw
    clear hSw
    go_simp
    all_goals with_reducible rfl
  simp only [Act.put, List.setIfInBounds_toArray, List.set_cons_zero, List.set_cons_succ]
  refine wpAnyH_take (i := 54) (oi := { dst := some 114, op := Op.move (Operand.tmp 13), type := 25, pos := "law.go:43", after := #[{ on := 53, ground := Ground.guard }], guard := some (53, true) }) (v := ?_) rfl (by kernel_rfl) (by kernel_rfl) (by kernel_rfl) (fun _ _ _ h => h) (Or.inl ⟨by rfl, ?_⟩) (by assumption) ?_
  rotate_left
  · intro w hSw
    clear hSw
    go_simp
    all_goals with_reducible rfl
  simp only [Act.put, List.setIfInBounds_toArray, List.set_cons_zero, List.set_cons_succ]
  refine wpAnyH_take (i := 55) (oi := { dst := some 115, op := Op.binOp BinOp.eql 3 (Operand.tmp 114) (Operand.const (Value.int IntKind.i64 25)) 3, type := 4, pos := "law.go:43", after := #[{ on := 54, ground := Ground.data }, { on := 53, ground := Ground.guard }], guard := some (53, true) }) (v := ?_) rfl (by kernel_rfl) (by kernel_rfl) (by kernel_rfl) (fun _ _ _ h => h) (Or.inl ⟨by rfl, ?_⟩) (by assumption) ?_
  rotate_left
  · intro w hSw
    clear hSw
    go_simp
    all_goals with_reducible rfl
  simp only [Act.put, List.setIfInBounds_toArray, List.set_cons_zero, List.set_cons_succ]
  refine wpAnyH_take (i := 56) (oi := { dst := some 116, op := Op.pick (Operand.tmp 113) (Operand.tmp 115) (Operand.const (Value.bool false)), type := 4, pos := "law.go:43", after := #[{ on := 53, ground := Ground.data }, { on := 55, ground := Ground.data }], guard := none }) (v := ?_) rfl (by kernel_rfl) (by kernel_rfl) (by kernel_rfl) (fun _ _ _ h => h) (Or.inl ⟨by rfl, ?_⟩) (by assumption) ?_
  rotate_left
  · intro w hSw
    clear hSw
    go_simp
    all_goals with_reducible rfl
  simp only [Act.put, List.setIfInBounds_toArray, List.set_cons_zero, List.set_cons_succ]
  refine wpAnyH_take (i := 57) (oi := { dst := some 117, op := Op.move (Operand.tmp 116), type := 4, pos := "law.go:43", after := #[{ on := 56, ground := Ground.data }, { on := 53, ground := Ground.chain }], guard := none }) (v := ?_) rfl (by kernel_rfl) (by kernel_rfl) (by kernel_rfl) (fun _ _ _ h => h) (Or.inl ⟨by rfl, ?_⟩) (by assumption) ?_
  rotate_left
  · intro w hSw
    clear hSw
    go_simp
    all_goals with_reducible rfl
  simp only [Act.put, List.setIfInBounds_toArray, List.set_cons_zero, List.set_cons_succ]
  refine wpAnyH_take (i := 58) (oi := { dst := some 118, op := Op.move (Operand.tmp 15), type := 25, pos := "law.go:43", after := #[{ on := 57, ground := Ground.guard }], guard := some (57, true) }) (v := ?_) rfl (by kernel_rfl) (by kernel_rfl) (by kernel_rfl) (fun _ _ _ h => h) (Or.inl ⟨by rfl, ?_⟩) (by assumption) ?_
  rotate_left
  · intro w hSw
    clear hSw
    go_simp
    all_goals with_reducible rfl
  simp only [Act.put, List.setIfInBounds_toArray, List.set_cons_zero, List.set_cons_succ]
  refine wpAnyH_take (i := 59) (oi := { dst := some 119, op := Op.binOp BinOp.eql 3 (Operand.tmp 118) (Operand.const (Value.int IntKind.i64 25)) 3, type := 4, pos := "law.go:43", after := #[{ on := 58, ground := Ground.data }, { on := 57, ground := Ground.guard }], guard := some (57, true) }) (v := ?_) rfl (by kernel_rfl) (by kernel_rfl) (by kernel_rfl) (fun _ _ _ h => h) (Or.inl ⟨by rfl, ?_⟩) (by assumption) ?_
  rotate_left
  · intro w hSw
    clear hSw
    go_simp
    all_goals with_reducible rfl
  simp only [Act.put, List.setIfInBounds_toArray, List.set_cons_zero, List.set_cons_succ]
  refine wpAnyH_take (i := 60) (oi := { dst := some 120, op := Op.pick (Operand.tmp 117) (Operand.tmp 119) (Operand.const (Value.bool false)), type := 4, pos := "law.go:43", after := #[{ on := 57, ground := Ground.data }, { on := 59, ground := Ground.data }], guard := none }) (v := ?_) rfl (by kernel_rfl) (by kernel_rfl) (by kernel_rfl) (fun _ _ _ h => h) (Or.inl ⟨by rfl, ?_⟩) (by assumption) ?_
  rotate_left
  · intro w hSw
    clear hSw
    go_simp
    all_goals with_reducible rfl
  simp only [Act.put, List.setIfInBounds_toArray, List.set_cons_zero, List.set_cons_succ]
  refine wpAnyH_take (i := 61) (oi := { dst := some 121, op := Op.move (Operand.tmp 120), type := 4, pos := "law.go:43", after := #[{ on := 60, ground := Ground.data }, { on := 57, ground := Ground.chain }], guard := none }) (v := ?_) rfl (by kernel_rfl) (by kernel_rfl) (by kernel_rfl) (fun _ _ _ h => h) (Or.inl ⟨by rfl, ?_⟩) (by assumption) ?_
  rotate_left
  · intro w hSw
    clear hSw
    go_simp
    all_goals with_reducible rfl
  simp only [Act.put, List.setIfInBounds_toArray, List.set_cons_zero, List.set_cons_succ]
  refine wpAnyH_take (i := 62) (oi := { dst := some 122, op := Op.move (Operand.tmp 16), type := 24, pos := "law.go:43", after := #[{ on := 61, ground := Ground.guard }], guard := some (61, true) }) (v := ?_) rfl (by kernel_rfl) (by kernel_rfl) (by kernel_rfl) (fun _ _ _ h => h) (Or.inl ⟨by rfl, ?_⟩) (by assumption) ?_
  rotate_left
  · intro w hSw
    clear hSw
    go_simp
    all_goals with_reducible rfl
  simp only [Act.put, List.setIfInBounds_toArray, List.set_cons_zero, List.set_cons_succ]
  refine wpAnyH_take (i := 63) (oi := { dst := some 123, op := Op.call { callee := Callee.builtin Builtin.len, args := #[Operand.tmp 122], argTypes := #[24] }, type := 3, pos := "law.go:43", after := #[{ on := 62, ground := Ground.data }, { on := 61, ground := Ground.guard }], guard := some (61, true) }) (v := ?_) rfl (by kernel_rfl) (by kernel_rfl) (by kernel_rfl) (fun _ _ _ h => h) (Or.inl ⟨by rfl, ?_⟩) (by assumption) ?_
  rotate_left
  · intro w hSw
    clear hSw
    go_simp
    all_goals with_reducible rfl
  simp only [Act.put, List.setIfInBounds_toArray, List.set_cons_zero, List.set_cons_succ]
  refine wpAnyH_take (i := 64) (oi := { dst := some 124, op := Op.binOp BinOp.eql 3 (Operand.tmp 123) (Operand.const (Value.int IntKind.i64 0)) 3, type := 4, pos := "law.go:43", after := #[{ on := 63, ground := Ground.data }, { on := 61, ground := Ground.guard }], guard := some (61, true) }) (v := ?_) rfl (by kernel_rfl) (by kernel_rfl) (by kernel_rfl) (fun _ _ _ h => h) (Or.inl ⟨by rfl, ?_⟩) (by assumption) ?_
  rotate_left
  · intro w hSw
    clear hSw
    go_simp
    all_goals with_reducible rfl
  simp only [Act.put, List.setIfInBounds_toArray, List.set_cons_zero, List.set_cons_succ]
  refine wpAnyH_take (i := 65) (oi := { dst := some 125, op := Op.pick (Operand.tmp 121) (Operand.tmp 124) (Operand.const (Value.bool false)), type := 4, pos := "law.go:43", after := #[{ on := 61, ground := Ground.data }, { on := 64, ground := Ground.data }], guard := none }) (v := ?_) rfl (by kernel_rfl) (by kernel_rfl) (by kernel_rfl) (fun _ _ _ h => h) (Or.inl ⟨by rfl, ?_⟩) (by assumption) ?_
  rotate_left
  · intro w hSw
    clear hSw
    go_simp
    all_goals with_reducible rfl
  simp only [Act.put, List.setIfInBounds_toArray, List.set_cons_zero, List.set_cons_succ]
  refine wpAnyH_take (i := 66) (oi := { dst := some 126, op := Op.move (Operand.tmp 125), type := 4, pos := "law.go:43", after := #[{ on := 65, ground := Ground.data }, { on := 61, ground := Ground.chain }], guard := none }) (v := ?_) rfl (by kernel_rfl) (by kernel_rfl) (by kernel_rfl) (fun _ _ _ h => h) (Or.inl ⟨by rfl, ?_⟩) (by assumption) ?_
  rotate_left
  · intro w hSw
    clear hSw
    go_simp
    all_goals with_reducible rfl
  simp only [Act.put, List.setIfInBounds_toArray, List.set_cons_zero, List.set_cons_succ]
  refine wpAnyH_take (i := 67) (oi := { dst := some 127, op := Op.move (Operand.tmp 17), type := 25, pos := "law.go:43", after := #[{ on := 66, ground := Ground.guard }], guard := some (66, true) }) (v := ?_) rfl (by kernel_rfl) (by kernel_rfl) (by kernel_rfl) (fun _ _ _ h => h) (Or.inl ⟨by rfl, ?_⟩) (by assumption) ?_
  rotate_left
  · intro w hSw
    clear hSw
    go_simp
    all_goals with_reducible rfl
  simp only [Act.put, List.setIfInBounds_toArray, List.set_cons_zero, List.set_cons_succ]
  refine wpAnyH_take (i := 68) (oi := { dst := some 128, op := Op.binOp BinOp.eql 25 (Operand.tmp 127) (Operand.const (Value.int IntKind.i64 0)) 25, type := 4, pos := "law.go:43", after := #[{ on := 67, ground := Ground.data }, { on := 66, ground := Ground.guard }], guard := some (66, true) }) (v := ?_) rfl (by kernel_rfl) (by kernel_rfl) (by kernel_rfl) (fun _ _ _ h => h) (Or.inl ⟨by rfl, ?_⟩) (by assumption) ?_
  rotate_left
  · intro w hSw
    clear hSw
    go_simp
    all_goals with_reducible rfl
  simp only [Act.put, List.setIfInBounds_toArray, List.set_cons_zero, List.set_cons_succ]
  refine wpAnyH_take (i := 69) (oi := { dst := some 129, op := Op.pick (Operand.tmp 126) (Operand.tmp 128) (Operand.const (Value.bool false)), type := 4, pos := "law.go:43", after := #[{ on := 66, ground := Ground.data }, { on := 68, ground := Ground.data }], guard := none }) (v := ?_) rfl (by kernel_rfl) (by kernel_rfl) (by kernel_rfl) (fun _ _ _ h => h) (Or.inl ⟨by rfl, ?_⟩) (by assumption) ?_
  rotate_left
  · intro w hSw
    clear hSw
    go_simp
    all_goals with_reducible rfl
  simp only [Act.put, List.setIfInBounds_toArray, List.set_cons_zero, List.set_cons_succ]
  refine wpAnyH_take (i := 70) (oi := { dst := some 130, op := Op.move (Operand.tmp 129), type := 4, pos := "law.go:43", after := #[{ on := 69, ground := Ground.data }, { on := 66, ground := Ground.chain }], guard := none }) (v := ?_) rfl (by kernel_rfl) (by kernel_rfl) (by kernel_rfl) (fun _ _ _ h => h) (Or.inl ⟨by rfl, ?_⟩) (by assumption) ?_
  rotate_left
  · intro w hSw
    clear hSw
    go_simp
    all_goals with_reducible rfl
  simp only [Act.put, List.setIfInBounds_toArray, List.set_cons_zero, List.set_cons_succ]
  refine wpAnyH_take (i := 71) (oi := { dst := some 131, op := Op.move (Operand.tmp 1), type := 22, pos := "law.go:43", after := #[{ on := 70, ground := Ground.guard }], guard := some (70, true) }) (v := ?_) rfl (by kernel_rfl) (by kernel_rfl) (by kernel_rfl) (fun _ _ _ h => h) (Or.inl ⟨by rfl, ?_⟩) (by assumption) ?_
  rotate_left
  · intro w hSw
    clear hSw
    go_simp
    all_goals with_reducible rfl
  simp only [Act.put, List.setIfInBounds_toArray, List.set_cons_zero, List.set_cons_succ]
  refine wpAnyH_take (i := 73) (oi := { dst := some 133, op := Op.move (Operand.tmp 1), type := 22, pos := "law.go:43", after := #[{ on := 70, ground := Ground.guard }], guard := some (70, true) }) (v := ?_) rfl (by kernel_rfl) (by kernel_rfl) (by kernel_rfl) (fun _ _ _ h => h) (Or.inl ⟨by rfl, ?_⟩) (by assumption) ?_
  rotate_left
  · intro w hSw
    clear hSw
    go_simp
    all_goals with_reducible rfl
  simp only [Act.put, List.setIfInBounds_toArray, List.set_cons_zero, List.set_cons_succ]
  refine wpAnyH_ready (rs := [72]) (by kernel_rfl) (by simp) ?_
  refine AllReadyH.cons (o := { dst := some 132, op := Op.call { callee := Callee.value (Operand.func 13), args := #[Operand.const (Value.int IntKind.i64 0), Operand.tmp 131], argTypes := #[3, 22] }, type := 31, pos := "law.go:43", after := #[{ on := 71, ground := Ground.data }, { on := 70, ground := Ground.chain }, { on := 70, ground := Ground.guard }], guard := some (70, true) }) rfl (fun K hK => ?_) AllReadyH.nil
  go_simp
  refine (root_any 0 _ [X, Y, T] Z10 (V1.out.below BZ10.out (Nat.le_refl _)) (by simp) HF.out (HK.out.below (B1.out.trans (BZ10.out.mono B1.out.size)) h0)).mono ?_
  rintro e Z11 ⟨rfl, hb2⟩
  obtain ⟨R0, hR0⟩ : ∃ D, D = S.root 0 [X, Y, T] := ⟨_, rfl⟩
  rw [← hR0]
  have LR0 := hide (show R0.length = 32 by rw [hR0, S.root_length])
  have HR0 := hide hR0
  have BZ11 : Hid (Below w1.heap.size w1 Z11) := BZ10.out.trans (hb2.mono BZ10.out.size)
  clear BZ10 
  clear hb2 hR0 hHeld
  refine hK.out _ _ ⟨(BZ11.out.cell (p := ⟨b, off + 1, none⟩) HBL.out).trans CY.out, (BZ11.out.cell (p := ⟨b, off + 2, none⟩) HBL.out).trans CT.out⟩ (fun hHeld => ?_)
  clear hK K
  try simp only [Act.put, List.setIfInBounds_toArray, List.set_cons_zero, List.set_cons_succ]
  refine wpAnyH_ready (rs := [74]) (by kernel_rfl) (by simp) ?_
  refine AllReadyH.cons (o := { dst := some 134, op := Op.call { callee := Callee.value (Operand.func 13), args := #[Operand.const (Value.int IntKind.i64 32), Operand.tmp 133], argTypes := #[3, 22] }, type := 31, pos := "law.go:43", after := #[{ on := 73, ground := Ground.data }, { on := 72, ground := Ground.chain }, { on := 70, ground := Ground.guard }], guard := some (70, true) }) rfl (fun K hK => ?_) AllReadyH.nil
  go_simp
  refine (root_any 32 _ [X, Y, T] Z11 (V1.out.below BZ11.out (Nat.le_refl _)) (by simp) HF.out (HK.out.below (B1.out.trans (BZ11.out.mono B1.out.size)) h0)).mono ?_
  rintro e Z12 ⟨rfl, hb2⟩
  obtain ⟨R1, hR1⟩ : ∃ D, D = S.root 32 [X, Y, T] := ⟨_, rfl⟩
  rw [← hR1]
  have LR1 := hide (show R1.length = 32 by rw [hR1, S.root_length])
  have HR1 := hide hR1
  have BZ12 : Hid (Below w1.heap.size w1 Z12) := BZ11.out.trans (hb2.mono BZ11.out.size)
  clear BZ11 
  clear hb2 hR1 hHeld
  have heq0 : ∀ w, (Op.equalIn 10000 31 (.agg (S.v8 R0)) (.agg (S.v8 R1))).run Tryd.prog w = .ok true w := fun w => equal_dig R0 R1 LR0.out LR1.out true (by rw [HR0.out, HR1.out, S.root_cw 0 32 rfl _ _ rfl]; simp) w
  refine hK.out _ _ ⟨(BZ12.out.cell (p := ⟨b, off + 1, none⟩) HBL.out).trans CY.out, (BZ12.out.cell (p := ⟨b, off + 2, none⟩) HBL.out).trans CT.out⟩ (fun hHeld => ?_)
  clear hK K
  try simp only [Act.put, List.setIfInBounds_toArray, List.set_cons_zero, List.set_cons_succ]
  refine wpAnyH_take (i := 75) (oi := { dst := some 135, op := Op.binOp BinOp.eql 31 (Operand.tmp 132) (Operand.tmp 134) 31, type := 4, pos := "law.go:43", after := #[{ on := 72, ground := Ground.data }, { on := 74, ground := Ground.data }, { on := 70, ground := Ground.guard }], guard := some (70, true) }) (v := ?_) rfl (by kernel_rfl) (by kernel_rfl) (by kernel_rfl) (fun _ _ _ h => h) (Or.inl ⟨by rfl, ?_⟩) (by assumption) ?_
  rotate_left
  · intro w hSw
    clear hSw
    go_simp
    all_goals with_reducible rfl
  simp only [Act.put, List.setIfInBounds_toArray, List.set_cons_zero, List.set_cons_succ]
  refine wpAnyH_take (i := 76) (oi := { dst := some 136, op := Op.pick (Operand.tmp 130) (Operand.tmp 135) (Operand.const (Value.bool false)), type := 4, pos := "law.go:43", after := #[{ on := 70, ground := Ground.data }, { on := 75, ground := Ground.data }], guard := none }) (v := ?_) rfl (by kernel_rfl) (by kernel_rfl) (by kernel_rfl) (fun _ _ _ h => h) (Or.inl ⟨by rfl, ?_⟩) (by assumption) ?_
  rotate_left
  · intro w hSw
    clear hSw
    go_simp
    all_goals with_reducible rfl
  simp only [Act.put, List.setIfInBounds_toArray, List.set_cons_zero, List.set_cons_succ]
  refine wpAnyH_take (i := 77) (oi := { dst := some 137, op := Op.move (Operand.tmp 136), type := 4, pos := "law.go:43", after := #[{ on := 76, ground := Ground.data }, { on := 74, ground := Ground.chain }], guard := none }) (v := ?_) rfl (by kernel_rfl) (by kernel_rfl) (by kernel_rfl) (fun _ _ _ h => h) (Or.inl ⟨by rfl, ?_⟩) (by assumption) ?_
  rotate_left
  · intro w hSw
    clear hSw
    go_simp
    all_goals with_reducible rfl
  simp only [Act.put, List.setIfInBounds_toArray, List.set_cons_zero, List.set_cons_succ]
  refine wpAnyH_take (i := 78) (oi := { dst := some 138, op := Op.move (Operand.tmp 1), type := 22, pos := "law.go:43", after := #[{ on := 77, ground := Ground.guard }], guard := some (77, true) }) (v := ?_) rfl (by kernel_rfl) (by kernel_rfl) (by kernel_rfl) (fun _ _ _ h => h) (Or.inl ⟨by rfl, ?_⟩) (by assumption) ?_
  rotate_left
  · intro w hSw
    clear hSw
    go_simp
    all_goals with_reducible rfl
  simp only [Act.put, List.setIfInBounds_toArray, List.set_cons_zero, List.set_cons_succ]
  refine wpAnyH_take (i := 80) (oi := { dst := some 140, op := Op.move (Operand.tmp 1), type := 22, pos := "law.go:43", after := #[{ on := 77, ground := Ground.guard }], guard := some (77, true) }) (v := ?_) rfl (by kernel_rfl) (by kernel_rfl) (by kernel_rfl) (fun _ _ _ h => h) (Or.inl ⟨by rfl, ?_⟩) (by assumption) ?_
  rotate_left
  · intro w hSw
    clear hSw
    go_simp
    all_goals with_reducible rfl
  simp only [Act.put, List.setIfInBounds_toArray, List.set_cons_zero, List.set_cons_succ]
  refine wpAnyH_ready (rs := [79]) (by kernel_rfl) (by simp) ?_
  refine AllReadyH.cons (o := { dst := some 139, op := Op.call { callee := Callee.value (Operand.func 13), args := #[Operand.const (Value.int IntKind.i64 33), Operand.tmp 138], argTypes := #[3, 22] }, type := 31, pos := "law.go:43", after := #[{ on := 78, ground := Ground.data }, { on := 77, ground := Ground.chain }, { on := 77, ground := Ground.guard }], guard := some (77, true) }) rfl (fun K hK => ?_) AllReadyH.nil
  go_simp
  refine (root_any 33 _ [X, Y, T] Z12 (V1.out.below BZ12.out (Nat.le_refl _)) (by simp) HF.out (HK.out.below (B1.out.trans (BZ12.out.mono B1.out.size)) h0)).mono ?_
  rintro e Z13 ⟨rfl, hb2⟩
  obtain ⟨R2, hR2⟩ : ∃ D, D = S.root 33 [X, Y, T] := ⟨_, rfl⟩
  rw [← hR2]
  have LR2 := hide (show R2.length = 32 by rw [hR2, S.root_length])
  have HR2 := hide hR2
  have BZ13 : Hid (Below w1.heap.size w1 Z13) := BZ12.out.trans (hb2.mono BZ12.out.size)
  clear BZ12 
  clear hb2 hR2 hHeld
  refine hK.out _ _ ⟨(BZ13.out.cell (p := ⟨b, off + 1, none⟩) HBL.out).trans CY.out, (BZ13.out.cell (p := ⟨b, off + 2, none⟩) HBL.out).trans CT.out⟩ (fun hHeld => ?_)
  clear hK K
  try simp only [Act.put, List.setIfInBounds_toArray, List.set_cons_zero, List.set_cons_succ]
  refine wpAnyH_ready (rs := [81]) (by kernel_rfl) (by simp) ?_
  refine AllReadyH.cons (o := { dst := some 141, op := Op.call { callee := Callee.value (Operand.func 13), args := #[Operand.const (Value.int IntKind.i64 32), Operand.tmp 140], argTypes := #[3, 22] }, type := 31, pos := "law.go:43", after := #[{ on := 80, ground := Ground.data }, { on := 79, ground := Ground.chain }, { on := 77, ground := Ground.guard }], guard := some (77, true) }) rfl (fun K hK => ?_) AllReadyH.nil
  go_simp
  refine (root_any 32 _ [X, Y, T] Z13 (V1.out.below BZ13.out (Nat.le_refl _)) (by simp) HF.out (HK.out.below (B1.out.trans (BZ13.out.mono B1.out.size)) h0)).mono ?_
  rintro e Z14 ⟨rfl, hb2⟩
  obtain ⟨R3, hR3⟩ : ∃ D, D = S.root 32 [X, Y, T] := ⟨_, rfl⟩
  rw [← hR3]
  have LR3 := hide (show R3.length = 32 by rw [hR3, S.root_length])
  have HR3 := hide hR3
  have BZ14 : Hid (Below w1.heap.size w1 Z14) := BZ13.out.trans (hb2.mono BZ13.out.size)
  clear BZ13 
  clear hb2 hR3 hHeld
  have heq1 : ∀ w, (Op.equalIn 10000 31 (.agg (S.v8 R2)) (.agg (S.v8 R3))).run Tryd.prog w = .ok true w := fun w => equal_dig R2 R3 LR2.out LR3.out true (by rw [HR2.out, HR3.out, S.root_cw 33 32 rfl _ _ rfl]; simp) w
  refine hK.out _ _ ⟨(BZ14.out.cell (p := ⟨b, off + 1, none⟩) HBL.out).trans CY.out, (BZ14.out.cell (p := ⟨b, off + 2, none⟩) HBL.out).trans CT.out⟩ (fun hHeld => ?_)
  clear hK K
  try simp only [Act.put, List.setIfInBounds_toArray, List.set_cons_zero, List.set_cons_succ]
  refine wpAnyH_take (i := 82) (oi := { dst := some 142, op := Op.binOp BinOp.eql 31 (Operand.tmp 139) (Operand.tmp 141) 31, type := 4, pos := "law.go:43", after := #[{ on := 79, ground := Ground.data }, { on := 81, ground := Ground.data }, { on := 77, ground := Ground.guard }], guard := some (77, true) }) (v := ?_) rfl (by kernel_rfl) (by kernel_rfl) (by kernel_rfl) (fun _ _ _ h => h) (Or.inl ⟨by rfl, ?_⟩) (by assumption) ?_
  rotate_left
  · intro w hSw
    clear hSw
    go_simp
    all_goals with_reducible rfl
  simp only [Act.put, List.setIfInBounds_toArray, List.set_cons_zero, List.set_cons_succ]
  refine wpAnyH_take (i := 83) (oi := { dst := some 143, op := Op.pick (Operand.tmp 137) (Operand.tmp 142) (Operand.const (Value.bool false)), type := 4, pos := "law.go:43", after := #[{ on := 77, ground := Ground.data }, { on := 82, ground := Ground.data }], guard := none }) (v := ?_) rfl (by kernel_rfl) (by kernel_rfl) (by kernel_rfl) (fun _ _ _ h => h) (Or.inl ⟨by rfl, ?_⟩) (by assumption) ?_
  rotate_left
  · intro w hSw
    clear hSw
    go_simp
    all_goals with_reducible rfl
  simp only [Act.put, List.setIfInBounds_toArray, List.set_cons_zero, List.set_cons_succ]
  refine wpAnyH_take (i := 84) (oi := { dst := some 144, op := Op.move (Operand.tmp 143), type := 4, pos := "law.go:43", after := #[{ on := 83, ground := Ground.data }, { on := 81, ground := Ground.chain }], guard := none }) (v := ?_) rfl (by kernel_rfl) (by kernel_rfl) (by kernel_rfl) (fun _ _ _ h => h) (Or.inl ⟨by rfl, ?_⟩) (by assumption) ?_
  rotate_left
  · intro w hSw
    clear hSw
    go_simp
    all_goals with_reducible rfl
  simp only [Act.put, List.setIfInBounds_toArray, List.set_cons_zero, List.set_cons_succ]
  refine wpAnyH_ready (rs := [85]) (by kernel_rfl) (by simp) ?_
  refine AllReadyH.cons (o := { dst := some 145, op := Op.call { callee := Callee.value (Operand.func 15), args := #[], argTypes := #[] }, type := 4, pos := "law.go:43", after := #[{ on := 84, ground := Ground.chain }, { on := 84, ground := Ground.guard }], guard := some (84, true) }) rfl (fun K hK => ?_) AllReadyH.nil
  go_simp
  refine (known_any Z14 (HK.out.below (B1.out.trans (BZ14.out.mono B1.out.size)) h0)).mono ?_
  rintro e Z15 ⟨rfl, hb2⟩
  have BZ15 : Hid (Below w1.heap.size w1 Z15) := BZ14.out.trans (hb2.mono BZ14.out.size)
  clear BZ14 
  clear hb2 hHeld
  have BZf : Hid (Below w.heap.size w Z15) := B1.out.trans (BZ15.out.mono B1.out.size)
  refine hK.out _ _ ⟨(BZ15.out.cell (p := ⟨b, off + 1, none⟩) HBL.out).trans CY.out, (BZ15.out.cell (p := ⟨b, off + 2, none⟩) HBL.out).trans CT.out⟩ (fun hHeld => ?_)
  clear hK K
  try simp only [Act.put, List.setIfInBounds_toArray, List.set_cons_zero, List.set_cons_succ]
  refine wpAnyH_take (i := 86) (oi := { dst := some 146, op := Op.pick (Operand.tmp 144) (Operand.tmp 145) (Operand.const (Value.bool false)), type := 4, pos := "law.go:43", after := #[{ on := 84, ground := Ground.data }, { on := 85, ground := Ground.data }], guard := none }) (v := ?_) rfl (by kernel_rfl) (by kernel_rfl) (by kernel_rfl) (fun _ _ _ h => h) (Or.inl ⟨by rfl, ?_⟩) (by assumption) ?_
  rotate_left
  · intro w hSw
    clear hSw
    go_simp
    all_goals with_reducible rfl
  simp only [Act.put, List.setIfInBounds_toArray, List.set_cons_zero, List.set_cons_succ]
  refine wpAnyH_take (i := 87) (oi := { dst := some 0, op := Op.assign (Operand.tmp 146), type := 4, pos := "law.go:43", after := ([{ on := 86, ground := Ground.data }, { on := 85, ground := Ground.chain }, { on := 0, ground := Ground.phase }, { on := 1, ground := Ground.phase }, { on := 2, ground := Ground.phase }, { on := 3, ground := Ground.phase }, { on := 4, ground := Ground.phase }, { on := 5, ground := Ground.phase }, { on := 6, ground := Ground.phase }, { on := 7, ground := Ground.phase }, { on := 8, ground := Ground.phase }, { on := 9, ground := Ground.phase }, { on := 10, ground := Ground.phase }, { on := 11, ground := Ground.phase }, { on := 12, ground := Ground.phase }, { on := 13, ground := Ground.phase }, { on := 14, ground := Ground.phase }, { on := 15, ground := Ground.phase }, { on := 16, ground := Ground.phase }, { on := 17, ground := Ground.phase }, { on := 18, ground := Ground.phase }, { on := 19, ground := Ground.phase }, { on := 20, ground := Ground.phase }, { on := 21, ground := Ground.phase }, { on := 22, ground := Ground.phase }, { on := 23, ground := Ground.phase }, { on := 24, ground := Ground.phase }, { on := 25, ground := Ground.phase }, { on := 26, ground := Ground.phase }, { on := 27, ground := Ground.phase }, { on := 28, ground := Ground.phase }, { on := 29, ground := Ground.phase }, { on := 30, ground := Ground.phase }, { on := 31, ground := Ground.phase }, { on := 32, ground := Ground.phase }, { on := 33, ground := Ground.phase }, { on := 34, ground := Ground.phase }, { on := 35, ground := Ground.phase }, { on := 36, ground := Ground.phase }, { on := 37, ground := Ground.phase }, { on := 38, ground := Ground.phase }, { on := 39, ground := Ground.phase }, { on := 40, ground := Ground.phase }, { on := 41, ground := Ground.phase }].append [{ on := 42, ground := Ground.phase }, { on := 43, ground := Ground.phase }, { on := 44, ground := Ground.phase }, { on := 45, ground := Ground.phase }, { on := 46, ground := Ground.phase }, { on := 47, ground := Ground.phase }, { on := 48, ground := Ground.phase }, { on := 49, ground := Ground.phase }, { on := 50, ground := Ground.phase }, { on := 51, ground := Ground.phase }, { on := 52, ground := Ground.phase }, { on := 53, ground := Ground.phase }, { on := 54, ground := Ground.phase }, { on := 55, ground := Ground.phase }, { on := 56, ground := Ground.phase }, { on := 57, ground := Ground.phase }, { on := 58, ground := Ground.phase }, { on := 59, ground := Ground.phase }, { on := 60, ground := Ground.phase }, { on := 61, ground := Ground.phase }, { on := 62, ground := Ground.phase }, { on := 63, ground := Ground.phase }, { on := 64, ground := Ground.phase }, { on := 65, ground := Ground.phase }, { on := 66, ground := Ground.phase }, { on := 67, ground := Ground.phase }, { on := 68, ground := Ground.phase }, { on := 69, ground := Ground.phase }, { on := 70, ground := Ground.phase }, { on := 71, ground := Ground.phase }, { on := 72, ground := Ground.phase }, { on := 73, ground := Ground.phase }, { on := 74, ground := Ground.phase }, { on := 75, ground := Ground.phase }, { on := 76, ground := Ground.phase }, { on := 77, ground := Ground.phase }, { on := 78, ground := Ground.phase }, { on := 79, ground := Ground.phase }, { on := 80, ground := Ground.phase }, { on := 81, ground := Ground.phase }, { on := 82, ground := Ground.phase }, { on := 83, ground := Ground.phase }, { on := 84, ground := Ground.phase }, { on := 85, ground := Ground.phase }, { on := 86, ground := Ground.phase }]).toArray, guard := none }) (v := ?_) rfl (by kernel_rfl) (by kernel_rfl) (by kernel_rfl) (fun _ _ _ h => h) (Or.inl ⟨by rfl, ?_⟩) (by assumption) ?_
  rotate_left
  · intro w hSw
    clear hSw
    go_simp
    all_goals with_reducible rfl
  simp only [Act.put, List.setIfInBounds_toArray, List.set_cons_zero]
  refine wpAnyH_done (by kernel_rfl) ?_ _
  refine NoPanic.normal ?_
  clear hHeld
  go_wp2_with fail
  go_ret
  exact ⟨rfl, BZf.out⟩
end Go.Proofs.YtmhmebblmgfgaaaDoor
