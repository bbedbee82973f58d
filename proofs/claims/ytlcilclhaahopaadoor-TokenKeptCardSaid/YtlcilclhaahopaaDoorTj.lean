/- The document's Narrow. -/
import Derived.Test.YtlcilclhaahopaaDoorTi
namespace Go.Proofs.YtlcilclhaahopaaDoor
open Go.RowKit

set_option maxHeartbeats 16000000 in
set_option maxRecDepth 10000 in
theorem rnarrow_any (gT : Nat) (t : S.Tk) (cv : Value) (c : S.Cv) (w : World) (hT : w.heap[gT]? = some (.cells (S.v32 (S.K ++ S.H0)) 103 (0, 0))) (ht : t.Ok) (hc : c.Ok) (hv : CvAt w cv t.cs) :
   Calls Tryd.prog 22 #[.pointer (some ⟨gT, 0, none⟩), .agg (encT t.id cv t.tag).toArray, .agg (encC c).toArray] w fun e w' => Nar w w' e (S.narrow t c) := by
  obtain ⟨ao, n, cap, rfl, hn, hncap⟩ := hv.form
  obtain ⟨A, hA⟩ : ∃ A, A = S.narrow t c := ⟨_, rfl⟩
  rw [← hA]
  have HA := hide hA
  have HN := hide hn
  have HV := hide hv
  have HT := hide hT
  have HTL := hide ht.tl
  have HC := hide hc
  have hnb : n ≤ 140737488355328 := by rw [hn]; exact ht.len
  clear hA hv hT ht hc hn hncap
  go_enter Tryd.func22, Tryd.ntmps22
  go_upto_region 1 with (refine wpList_alloc_known rfl 27 rfl _ _ (alloc27 _) ?_)
  generalize hW0 : w.alloc _ = W0
  generalize hW1 : W0.alloc _ = W1
  generalize hW2 : W1.alloc _ = W2
  have B0 : Below w.heap.size w W0 := by rw [← hW0]; exact (Below.refl _ _).alloc (Nat.le_refl _) _
  have s0 : W0.heap.size = w.heap.size + 1 := by rw [← hW0]; simp
  have r0 : W0.heap[w.heap.size]? = some (.cells (encT t.id (.slice ao n cap) t.tag).toArray 27 (0, 0)) := by rw [← hW0]; exact heap_alloc_new _ _
  have B1 : Below W0.heap.size W0 W1 := by rw [← hW1]; exact (Below.refl _ _).alloc (Nat.le_refl _) _
  have s1 : W1.heap.size = w.heap.size + 2 := by rw [← hW1]; simp [s0]
  have r1 : W1.heap[w.heap.size + 1]? = some (.cells (encC c).toArray 42 (0, 0)) := by rw [← hW1, ← s0]; exact heap_alloc_new _ _
  have B2 : Below W1.heap.size W1 W2 := by rw [← hW2]; exact (Below.refl _ _).alloc (Nat.le_refl _) _
  have s2 : W2.heap.size = w.heap.size + 3 := by rw [← hW2]; simp [s1]
  have r2 : W2.heap[w.heap.size + 2]? = some (.cells tk0 27 (0, 0)) := by rw [← hW2, ← s1]; exact heap_alloc_new _ _
  try rw [s1]
  have BB : Hid (Below w.heap.size w W2) := ((B0.trans (B1.mono (by omega))).trans (B2.mono (by omega)))
  have Q0 : Hid (W2.heap[w.heap.size]? = some (.cells (encT t.id (.slice ao n cap) t.tag).toArray 27 (0, 0))) := ((B2.block _ (by omega)).trans ((B1.block _ (by omega)).trans r0))
  have Q1 : Hid (W2.heap[w.heap.size + 1]? = some (.cells (encC c).toArray 42 (0, 0))) := ((B2.block _ (by omega)).trans r1)
  have Q2 : Hid (W2.heap[w.heap.size + 2]? = some (.cells tk0 27 (0, 0))) := r2
  clear hW0 B0 s0 r0 hW1 B1 s1 r1 hW2 B2 s2 r2
  rw [show w.heap.size + 1 + 1 = w.heap.size + 2 from rfl]
  obtain ⟨c0, c1⟩ := c_cells Q1.out
  have L2 := hide (block_lt_of_row Q2.out)
  go_wp2_with fail
  refine (rkind_any c W2).mono ?_
  rintro e _ ⟨rfl, rfl⟩
  by_cases ho : S.odd c = true
  · have hA2 := hide (show A = (S.t0, 1) by rw [HA.out, S.narrow, if_pos ho])
    rw [ho]
    obtain ⟨YF, hsf, rf, cf, sf⟩ := store_t (id := 0) (ao := none) (n := 0) (m := 0) (tag := S.zeros 32) Q2.out tk0_size (S.zeros_length 32)
    have RF := hide rf
    have BF := hide (BB.out.trans (cf.below w.heap.size BB.out.size (fun j hj e => by omega)))
    have HS := hide hsf
    clear rf cf sf Q0 Q1 Q2 hsf
    have T1 : ∀ (ops : Array Oper) (rest : List Oper) (a : Act) (Q : Exit → Act → World → Prop), a.eval (.tmp 6) = .pointer (some ⟨w.heap.size + 2, 0, none⟩) → a.eval (.tmp 13) = .agg tk0 → wpList Tryd.prog ops Q rest (a.put none undef) YF → wpList Tryd.prog ops Q ({ dst := none, op := Op.store 27 (Operand.tmp 6) (Operand.tmp 13), type := 0, pos := "ref.go:26", after := #[{ on := 0, ground := Ground.data }, { on := 0, ground := Ground.phase }], guard := none } :: rest) a W2 := fun ops rest a Q h1 h2 h => wpList_store_as rfl 27 (.tmp 6) (.tmp 13) rfl _ _ h1 h2 YF HS.out h
    have HT1 := hide T1
    clear T1
    go_wp2_with (first | (with_reducible refine at_op { dst := some 13, op := Op.build 27 #[], type := 27, pos := "ref.go:26", after := #[], guard := none } ?_; refine wpList_build_as rfl 27 [] rfl [] rfl (.agg tk0) (build27z _) ?_) | (with_reducible refine at_op { dst := none, op := Op.store 27 (Operand.tmp 6) (Operand.tmp 13), type := 0, pos := "ref.go:26", after := #[{ on := 0, ground := Ground.data }, { on := 0, ground := Ground.phase }], guard := none } ?_; refine HT1.out _ _ _ _ rfl rfl ?_))
    exact bodyPost_ret (v := .tuple #[.agg tk0, .int .i64 1]) (results_rt Tryd.results22 _ _ (w.heap.size + 2) _ rfl (var27 RF.out (S.zeros_length 32))) rfl ⟨⟨.slice none 0 0, by rw [hA2.out]; rfl, by rw [hA2.out]; exact Rw.nil _ _ _ _ _⟩, BF.out⟩
  have ho' : S.odd c = false := by simpa using ho
  rw [ho']
  obtain ⟨d0, d1⟩ := t_cells Q0.out
  by_cases h4 : 4 ≤ n
  · have hA2 := hide (show A = (S.t0, 4) by rw [HA.out, S.narrow, if_neg ho, if_pos (by rw [← HN.out]; exact h4)])
    have q1 : (n : Int) ≥ 4 := by omega
    have q1' : (4 : Int) ≤ (n : Int) := by omega
    obtain ⟨YF, hsf, rf, cf, sf⟩ := store_t (id := 0) (ao := none) (n := 0) (m := 0) (tag := S.zeros 32) Q2.out tk0_size (S.zeros_length 32)
    have RF := hide rf
    have BF := hide (BB.out.trans (cf.below w.heap.size BB.out.size (fun j hj e => by omega)))
    have HS := hide hsf
    clear rf cf sf Q0 Q1 Q2 hsf
    have T1 : ∀ (ops : Array Oper) (rest : List Oper) (a : Act) (Q : Exit → Act → World → Prop), a.eval (.tmp 6) = .pointer (some ⟨w.heap.size + 2, 0, none⟩) → a.eval (.tmp 18) = .agg tk0 → wpList Tryd.prog ops Q rest (a.put none undef) YF → wpList Tryd.prog ops Q ({ dst := none, op := Op.store 27 (Operand.tmp 6) (Operand.tmp 18), type := 0, pos := "ref.go:29", after := #[{ on := 0, ground := Ground.data }, { on := 0, ground := Ground.phase }], guard := none } :: rest) a W2 := fun ops rest a Q h1 h2 h => wpList_store_as rfl 27 (.tmp 6) (.tmp 18) rfl _ _ h1 h2 YF HS.out h
    have HT1 := hide T1
    clear T1
    go_wp2_with (first | (with_reducible refine at_op { dst := some 18, op := Op.build 27 #[], type := 27, pos := "ref.go:29", after := #[], guard := none } ?_; refine wpList_build_as rfl 27 [] rfl [] rfl (.agg tk0) (build27z _) ?_) | (with_reducible refine at_op { dst := none, op := Op.store 27 (Operand.tmp 6) (Operand.tmp 18), type := 0, pos := "ref.go:29", after := #[{ on := 0, ground := Ground.data }, { on := 0, ground := Ground.phase }], guard := none } ?_; refine HT1.out _ _ _ _ rfl rfl ?_))
    exact bodyPost_ret (v := .tuple #[.agg tk0, .int .i64 4]) (results_rt Tryd.results22 _ _ (w.heap.size + 2) _ rfl (var27 RF.out (S.zeros_length 32))) rfl ⟨⟨.slice none 0 0, by rw [hA2.out]; rfl, by rw [hA2.out]; exact Rw.nil _ _ _ _ _⟩, BF.out⟩
  have hA2 := hide (show A = (⟨t.id, t.cs ++ [c], S.mac t.tag (S.cb c)⟩, 0) by rw [HA.out, S.narrow, if_neg ho, if_neg (by rw [← HN.out]; exact h4)])
  have q1 : ¬ (n : Int) ≥ 4 := by omega
  have q1' : ¬ (4 : Int) ≤ (n : Int) := by omega
  have N4 := hide (show n < 4 by omega)
  clear ho ho' c0 c1
  go_upto_region 5 with fail
  clear q1 q1' d0 d1 h4
  have CV := hide (HV.out.below BB.out)
  go_cut [8] from 19 to 28 (fun s8 wc => ∃ (ga : Nat) (uo : Option Addr) (un uc : Nat), s8 = .pointer (some ⟨ga, 0, none⟩) ∧ Hid (wc.heap[ga]? = some (.cells (encT t.id (.slice uo un uc) (S.zeros 32)).toArray 27 (0, 0))) ∧ Hid (CRow w.heap.size wc (.slice uo un uc) (t.cs ++ [c])) ∧ Hid (w.heap.size + 2 < ga) ∧ Hid (Chg (fun _ => False) W2 wc))
  case first =>
    refine wp_region_noPanic ?_
    refine wp_region_held_drew (S := (fun W => Chg (fun _ => False) W2 W)) follows ((Chg.refl _ _).drew) (fun hHeld => ?_)
    clear hHeld
    have hHeld : Chg (fun _ => False) W2 W2.drew := (Chg.refl _ _).drew
    have CZ0 := hide hHeld
    generalize W2.drew = Z0 at CZ0 hHeld ⊢
    refine wpAnyH_take (i := 0) (oi := { dst := some 19, op := Op.fieldAddr 27 (Operand.tmp 4) 0, type := 0, pos := "ref.go:31", after := #[], guard := none }) (v := ?_) rfl (by kernel_rfl) (by kernel_rfl) (by kernel_rfl) (fun _ _ _ h => h) (Or.inl ⟨by rfl, ?_⟩) (by assumption) ?_
    rotate_left
    · intro w hSw
      clear hSw
      go_simp
      all_goals with_reducible rfl
    simp only [Act.put, List.setIfInBounds_toArray, List.set_cons_zero, List.set_cons_succ]
    refine wpAnyH_take (i := 1) (oi := { dst := some 20, op := Op.load 22 (Operand.tmp 19), type := 22, pos := "ref.go:31", after := #[{ on := 0, ground := Ground.data }], guard := none }) (v := ?_) rfl (by kernel_rfl) (by kernel_rfl) (by kernel_rfl) (fun _ _ _ h => h) (Or.inl ⟨by rfl, ?_⟩) (by assumption) ?_
    rotate_left
    · intro w hSw
      have c0 := (t_cells (hSw.row Q0.out (fun e => e))).1
      clear hSw
      go_simp
      all_goals with_reducible rfl
    simp only [Act.put, List.setIfInBounds_toArray, List.set_cons_zero, List.set_cons_succ]
    refine wpAnyH_take (i := 3) (oi := { dst := some 22, op := Op.fieldAddr 27 (Operand.tmp 4) 1, type := 0, pos := "ref.go:31", after := #[], guard := none }) (v := ?_) rfl (by kernel_rfl) (by kernel_rfl) (by kernel_rfl) (fun _ _ _ h => h) (Or.inl ⟨by rfl, ?_⟩) (by assumption) ?_
    rotate_left
    · intro w hSw
      clear hSw
      go_simp
      all_goals with_reducible rfl
    simp only [Act.put, List.setIfInBounds_toArray, List.set_cons_zero, List.set_cons_succ]
    refine wpAnyH_take (i := 4) (oi := { dst := some 23, op := Op.load 23 (Operand.tmp 22), type := 23, pos := "ref.go:31", after := #[{ on := 3, ground := Ground.data }], guard := none }) (v := ?_) rfl (by kernel_rfl) (by kernel_rfl) (by kernel_rfl) (fun _ _ _ h => h) (Or.inl ⟨by rfl, ?_⟩) (by assumption) ?_
    rotate_left
    · intro w hSw
      have c1 := (t_cells (hSw.row Q0.out (fun e => e))).2
      clear hSw
      go_simp
      all_goals with_reducible rfl
    simp only [Act.put, List.setIfInBounds_toArray, List.set_cons_zero, List.set_cons_succ]
    refine wpAnyH_take (i := 6) (oi := { dst := some 25, op := Op.load 42 (Operand.tmp 5), type := 42, pos := "ref.go:31", after := #[], guard := none }) (v := .agg (encC c).toArray) rfl (by kernel_rfl) (by kernel_rfl) (by kernel_rfl) (fun _ _ _ h => h) (yieldsIf_load_mid (by rfl) _ _ rfl (w.heap.size + 1) 0 rfl (encC c) _ (fun _ hSw => rangeAt_row (hSw.row Q1.out (fun e => e))) Tryd.underlying42 rfl (by rw [size_c, List.size_toArray])) (by assumption) ?_
    simp only [Act.put, List.setIfInBounds_toArray, List.set_cons_zero, List.set_cons_succ]
    refine wpAnyH_ready (rs := [2, 7, 10]) (by kernel_rfl) (by simp) ?_
    refine step_buildSlice_as (o := { dst := some 21, op := Op.buildSlice 23 0 #[], type := 23, pos := "ref.go:31", after := #[], guard := none }) rfl rfl 23 0 [] rfl [] rfl _ _ (bs23zero Z0) ?_ ⟨CZ0.out.alloc _, fun hHeld => ?_⟩
    rotate_left
    · skip
      clear hHeld
      simp only [Act.put, List.setIfInBounds_toArray, List.set_cons_zero, List.set_cons_succ]
      obtain ⟨ge, hge⟩ : ∃ gg, gg = Z0.heap.size := ⟨_, rfl⟩
      rw [← hge]
      generalize hZ : Z0.alloc _ = Z1
      have hb2 : Below Z0.heap.size Z0 Z1 := by rw [← hZ]; exact (Below.refl _ _).alloc (Nat.le_refl _) _
      have Rge : Hid (Z1.heap[ge]? = some (.cells #[] 42 (0, 0))) := by rw [← hZ, hge]; exact heap_alloc_new _ _
      have Gge := hide (show W2.heap.size ≤ ge by rw [hge]; exact CZ0.out.size)
      clear hZ hge
      have CZ1 : Hid (Chg (fun _ => False) W2 Z1) := CZ0.out.then hb2
      clear hb2 CZ0
      have hHeld := CZ1.out
      refine wpAnyH_ready (rs := [5, 7, 10]) (by kernel_rfl) (by simp) ?_
      obtain ⟨v', Z2, hst, hR6, C6⟩ := Rw.append kdC 23 (B := W2.heap.size) (Rw.empty Rge.out Gge.out) (CV.out.below (CZ1.out.below _ (Nat.le_refl _) (fun _ _ e => e))).src (fun y _ => encC_length y) (by have := HN.out; have := N4.out; simp; omega) CZ1.out.size
      rw [List.nil_append] at hR6
      obtain ⟨vo, vc, rfl⟩ := hR6.form
      rw [← HN.out] at hR6 hst
      have hOB : ∀ k, (Value.slice vo n vc).ownBlock = some k → W2.heap.size ≤ k := fun k hk => (hR6.blk hk).1
      replace hR6 : CRow w.heap.size _ _ _ := hR6.mono BB.out.size
      refine step_append_as (o := { dst := some 24, op := Op.call { callee := Callee.builtin Builtin.append, args := #[Operand.tmp 21, Operand.tmp 23], argTypes := #[23, 23] }, type := 23, pos := "ref.go:31", after := #[{ on := 2, ground := Ground.data }, { on := 4, ground := Ground.data }], guard := none }) rfl rfl (.tmp 21) (.tmp 23) 23 23 rfl (.slice (some ⟨ge, 0, none⟩) 0 0) (.slice ao n cap) rfl rfl (.slice vo n vc) Z2 hst ?_ ⟨CZ1.out.trans C6 (fun k hk e => by have := Gge.out; have := Option.some.inj e; simp only at this; omega), fun hHeld => ?_⟩
      rotate_left
      · skip
        have CZ2 : Hid (Chg (fun _ => False) W2 Z2) := CZ1.out.trans C6 (fun k hk e => by have := Gge.out; have := Option.some.inj e; simp only at this; omega)
        have CR1 : Hid (CRow w.heap.size Z2 (.slice vo n vc) t.cs) := hR6
        have CR1b : Hid (∀ k, (Value.slice vo n vc).ownBlock = some k → W2.heap.size ≤ k) := hOB
        clear hst hR6 C6 CZ1 Rge hHeld
        have hHeld := CZ2.out
        simp only [Act.put, List.setIfInBounds_toArray, List.set_cons_zero, List.set_cons_succ]
        refine wpAnyH_ready (rs := [7, 10]) (by kernel_rfl) (by simp) ?_
        refine step_buildSlice_as (o := { dst := some 26, op := Op.buildSlice 23 1 #[(0, Operand.tmp 25)], type := 23, pos := "ref.go:31", after := #[{ on := 6, ground := Ground.data }], guard := none }) rfl rfl 23 1 [(0, .tmp 25)] rfl [(0, .agg (encC c).toArray)] rfl _ _ (bs23one Z2 c) ?_ ⟨CZ2.out.alloc _, fun hHeld => ?_⟩
        rotate_left
        · skip
          clear hHeld
          simp only [Act.put, List.setIfInBounds_toArray, List.set_cons_zero, List.set_cons_succ]
          obtain ⟨gc, hgc⟩ : ∃ gg, gg = Z2.heap.size := ⟨_, rfl⟩
          rw [← hgc]
          generalize hZ : Z2.alloc _ = Z3
          have hb2 : Below Z2.heap.size Z2 Z3 := by rw [← hZ]; exact (Below.refl _ _).alloc (Nat.le_refl _) _
          have Rgc : Hid (Z3.heap[gc]? = some (.cells (encC c).toArray 42 (0, 0))) := by rw [← hZ, hgc]; exact heap_alloc_new _ _
          have Ggc := hide (show W2.heap.size ≤ gc by rw [hgc]; exact CZ2.out.size)
          clear hZ hgc
          replace CR1 : Hid (CRow w.heap.size Z3 (.slice vo n vc) t.cs) := CR1.out.below hb2
          have CZ3 : Hid (Chg (fun _ => False) W2 Z3) := CZ2.out.then hb2
          clear hb2 CZ2
          have hHeld := CZ3.out
          refine wpAnyH_ready (rs := [8, 10]) (by kernel_rfl) (by simp) ?_
          obtain ⟨v', Z4, hst, hR6, C6⟩ := Rw.append kdC 23 (u := .slice (some ⟨gc, 0, none⟩) 1 1) (ys := [c]) CR1.out (Sce.of_row Rgc.out) (fun y _ => encC_length y) (by have := HN.out; have := N4.out; simp; omega) (Nat.le_trans BB.out.size CZ3.out.size)
          obtain ⟨uo, uc, rfl⟩ := hR6.form
          obtain ⟨un, hun⟩ : ∃ un, un = (t.cs ++ [c]).length := ⟨_, rfl⟩
          rw [← hun] at hR6 hst
          clear hun
          refine step_append_as (o := { dst := some 27, op := Op.call { callee := Callee.builtin Builtin.append, args := #[Operand.tmp 24, Operand.tmp 26], argTypes := #[23, 23] }, type := 23, pos := "ref.go:31", after := #[{ on := 5, ground := Ground.data }, { on := 7, ground := Ground.data }, { on := 5, ground := Ground.chain }], guard := none }) rfl rfl (.tmp 24) (.tmp 26) 23 23 rfl (.slice vo n vc) (.slice (some ⟨gc, 0, none⟩) 1 1) rfl rfl (.slice uo un uc) Z4 hst ?_ ⟨CZ3.out.trans C6 (fun k hk e => by have h2 := CR1b.out k e; omega), fun hHeld => ?_⟩
          rotate_left
          · skip
            have CZ4 : Hid (Chg (fun _ => False) W2 Z4) := CZ3.out.trans C6 (fun k hk e => by have h2 := CR1b.out k e; omega)
            have CR2 : Hid (CRow w.heap.size Z4 (.slice uo un uc) (t.cs ++ [c])) := hR6
            clear hst hR6 C6 CZ3 Rgc CR1 hHeld
            have hHeld := CZ4.out
            simp only [Act.put, List.setIfInBounds_toArray, List.set_cons_zero, List.set_cons_succ]
            refine wpAnyH_ready (rs := [9, 10]) (by kernel_rfl) (by simp) ?_
            refine step_build_as (o := { dst := some 28, op := Op.build 27 #[(0, Operand.tmp 20), (1, Operand.tmp 27)], type := 27, pos := "ref.go:31", after := #[{ on := 1, ground := Ground.data }, { on := 8, ground := Ground.data }], guard := none }) rfl rfl 27 [(0, .tmp 20), (1, .tmp 27)] rfl [(0, .int .u32 (t.id : Int)), (1, .slice uo un uc)] rfl (.agg (encT t.id (.slice uo un uc) (S.zeros 32)).toArray) (build27i t.id uo un uc Z4) ?_ ⟨CZ4.out, fun hHeld => ?_⟩
            rotate_left
            · skip
              simp only [Act.put, List.setIfInBounds_toArray, List.set_cons_zero, List.set_cons_succ]
              refine wpAnyH_ready (rs := [10]) (by kernel_rfl) (by simp) ?_
              refine step_alloc_as (o := { dst := some 8, op := Op.alloc 27, type := 0, pos := "ref.go:31", after := #[], guard := none }) rfl rfl 27 rfl _ _ (alloc27 Z4) AllReadyH.nil ⟨CZ4.out.alloc _, fun hHeld => ?_⟩
              clear hHeld
              simp only [Act.put, List.setIfInBounds_toArray, List.set_cons_zero, List.set_cons_succ]
              obtain ⟨ga, hga⟩ : ∃ gg, gg = Z4.heap.size := ⟨_, rfl⟩
              rw [← hga]
              generalize hZ : Z4.alloc _ = Z5
              have hb2 : Below Z4.heap.size Z4 Z5 := by rw [← hZ]; exact (Below.refl _ _).alloc (Nat.le_refl _) _
              have Rga : Hid (Z5.heap[ga]? = some (.cells tk0 27 (0, 0))) := by rw [← hZ, hga]; exact heap_alloc_new _ _
              have Gga := hide (show W2.heap.size ≤ ga by rw [hga]; exact CZ4.out.size)
              clear hZ hga
              replace CR2 : Hid (CRow w.heap.size Z5 (.slice uo un uc) (t.cs ++ [c])) := CR2.out.below hb2
              have CZ5 : Hid (Chg (fun _ => False) W2 Z5) := CZ4.out.then hb2
              clear hb2 CZ4
              have hHeld := CZ5.out
              refine wpAnyH_ready (rs := [11]) (by kernel_rfl) (by simp) ?_
              obtain ⟨Z6, hst, r6, C6, s6⟩ := store_t (id := t.id) (ao := uo) (n := un) (m := uc) (tag := S.zeros 32) Rga.out tk0_size (S.zeros_length 32)
              refine step_store_as (o := { dst := none, op := Op.store 27 (Operand.tmp 8) (Operand.tmp 28), type := 0, pos := "ref.go:31", after := #[{ on := 10, ground := Ground.data }, { on := 9, ground := Ground.data }, { on := 8, ground := Ground.chain }, { on := 0, ground := Ground.phase }, { on := 1, ground := Ground.phase }, { on := 2, ground := Ground.phase }, { on := 3, ground := Ground.phase }, { on := 4, ground := Ground.phase }, { on := 5, ground := Ground.phase }, { on := 6, ground := Ground.phase }, { on := 7, ground := Ground.phase }, { on := 8, ground := Ground.phase }, { on := 9, ground := Ground.phase }, { on := 10, ground := Ground.phase }], guard := none }) rfl rfl 27 (.tmp 8) (.tmp 28) rfl _ _ rfl rfl Z6 hst AllReadyH.nil ⟨CZ5.out.trans C6 (fun k hk e => by have := Gga.out; omega), fun hHeld => ?_⟩
              have CZ6 : Hid (Chg (fun _ => False) W2 Z6) := CZ5.out.trans C6 (fun k hk e => by have := Gga.out; omega)
              replace CR2 : Hid (CRow w.heap.size Z6 (.slice uo un uc) (t.cs ++ [c])) := CR2.out.chg C6 (fun j e e2 => CR2.out.apart Rga.out (by decide) (e2 ▸ e))
              replace Rga : Hid (Z6.heap[ga]? = some (.cells (encT t.id (.slice uo un uc) (S.zeros 32)).toArray 27 (0, 0))) := r6
              clear hst r6 C6 s6 CZ5
              simp only [Act.put]
              refine wpAnyH_done (by kernel_rfl) ?_ _
              refine NoPanic.normal ?_
              clear hHeld
              try go_wp2_with fail
              go_meet
              exact ⟨ga, uo, un, uc, rfl, Rga, CR2, (by show w.heap.size + 2 < ga; have := Gga.out; have := L2.out; omega), CZ6⟩
            refine step_alloc_as (o := { dst := some 8, op := Op.alloc 27, type := 0, pos := "ref.go:31", after := #[], guard := none }) rfl rfl 27 rfl _ _ (alloc27 Z4) AllReadyH.nil ⟨CZ4.out.alloc _, fun hHeld => ?_⟩
            clear hHeld
            simp only [Act.put, List.setIfInBounds_toArray, List.set_cons_zero, List.set_cons_succ]
            obtain ⟨ga, hga⟩ : ∃ gg, gg = Z4.heap.size := ⟨_, rfl⟩
            rw [← hga]
            generalize hZ : Z4.alloc _ = Z5
            have hb2 : Below Z4.heap.size Z4 Z5 := by rw [← hZ]; exact (Below.refl _ _).alloc (Nat.le_refl _) _
            have Rga : Hid (Z5.heap[ga]? = some (.cells tk0 27 (0, 0))) := by rw [← hZ, hga]; exact heap_alloc_new _ _
            have Gga := hide (show W2.heap.size ≤ ga by rw [hga]; exact CZ4.out.size)
            clear hZ hga
            replace CR2 : Hid (CRow w.heap.size Z5 (.slice uo un uc) (t.cs ++ [c])) := CR2.out.below hb2
            have CZ5 : Hid (Chg (fun _ => False) W2 Z5) := CZ4.out.then hb2
            clear hb2 CZ4
            have hHeld := CZ5.out
            refine wpAnyH_ready (rs := [9]) (by kernel_rfl) (by simp) ?_
            refine step_build_as (o := { dst := some 28, op := Op.build 27 #[(0, Operand.tmp 20), (1, Operand.tmp 27)], type := 27, pos := "ref.go:31", after := #[{ on := 1, ground := Ground.data }, { on := 8, ground := Ground.data }], guard := none }) rfl rfl 27 [(0, .tmp 20), (1, .tmp 27)] rfl [(0, .int .u32 (t.id : Int)), (1, .slice uo un uc)] rfl (.agg (encT t.id (.slice uo un uc) (S.zeros 32)).toArray) (build27i t.id uo un uc Z5) AllReadyH.nil ⟨CZ5.out, fun hHeld => ?_⟩
            simp only [Act.put, List.setIfInBounds_toArray, List.set_cons_zero, List.set_cons_succ]
            refine wpAnyH_ready (rs := [11]) (by kernel_rfl) (by simp) ?_
            obtain ⟨Z6, hst, r6, C6, s6⟩ := store_t (id := t.id) (ao := uo) (n := un) (m := uc) (tag := S.zeros 32) Rga.out tk0_size (S.zeros_length 32)
            refine step_store_as (o := { dst := none, op := Op.store 27 (Operand.tmp 8) (Operand.tmp 28), type := 0, pos := "ref.go:31", after := #[{ on := 10, ground := Ground.data }, { on := 9, ground := Ground.data }, { on := 8, ground := Ground.chain }, { on := 0, ground := Ground.phase }, { on := 1, ground := Ground.phase }, { on := 2, ground := Ground.phase }, { on := 3, ground := Ground.phase }, { on := 4, ground := Ground.phase }, { on := 5, ground := Ground.phase }, { on := 6, ground := Ground.phase }, { on := 7, ground := Ground.phase }, { on := 8, ground := Ground.phase }, { on := 9, ground := Ground.phase }, { on := 10, ground := Ground.phase }], guard := none }) rfl rfl 27 (.tmp 8) (.tmp 28) rfl _ _ rfl rfl Z6 hst AllReadyH.nil ⟨CZ5.out.trans C6 (fun k hk e => by have := Gga.out; omega), fun hHeld => ?_⟩
            have CZ6 : Hid (Chg (fun _ => False) W2 Z6) := CZ5.out.trans C6 (fun k hk e => by have := Gga.out; omega)
            replace CR2 : Hid (CRow w.heap.size Z6 (.slice uo un uc) (t.cs ++ [c])) := CR2.out.chg C6 (fun j e e2 => CR2.out.apart Rga.out (by decide) (e2 ▸ e))
            replace Rga : Hid (Z6.heap[ga]? = some (.cells (encT t.id (.slice uo un uc) (S.zeros 32)).toArray 27 (0, 0))) := r6
            clear hst r6 C6 s6 CZ5
            simp only [Act.put]
            refine wpAnyH_done (by kernel_rfl) ?_ _
            refine NoPanic.normal ?_
            clear hHeld
            try go_wp2_with fail
            go_meet
            exact ⟨ga, uo, un, uc, rfl, Rga, CR2, (by show w.heap.size + 2 < ga; have := Gga.out; have := L2.out; omega), CZ6⟩
          refine step_alloc_as (o := { dst := some 8, op := Op.alloc 27, type := 0, pos := "ref.go:31", after := #[], guard := none }) rfl rfl 27 rfl _ _ (alloc27 Z3) AllReadyH.nil ⟨CZ3.out.alloc _, fun hHeld => ?_⟩
          clear hHeld
          simp only [Act.put, List.setIfInBounds_toArray, List.set_cons_zero, List.set_cons_succ]
          obtain ⟨ga, hga⟩ : ∃ gg, gg = Z3.heap.size := ⟨_, rfl⟩
          rw [← hga]
          generalize hZ : Z3.alloc _ = Z4
          have hb2 : Below Z3.heap.size Z3 Z4 := by rw [← hZ]; exact (Below.refl _ _).alloc (Nat.le_refl _) _
          have Rga : Hid (Z4.heap[ga]? = some (.cells tk0 27 (0, 0))) := by rw [← hZ, hga]; exact heap_alloc_new _ _
          have Gga := hide (show W2.heap.size ≤ ga by rw [hga]; exact CZ3.out.size)
          clear hZ hga
          replace Rgc : Hid (Z4.heap[gc]? = some (.cells (encC c).toArray 42 (0, 0))) := (hb2.block _ (block_lt_of_row Rgc.out)).trans Rgc.out
          replace CR1 : Hid (CRow w.heap.size Z4 (.slice vo n vc) t.cs) := CR1.out.below hb2
          have CZ4 : Hid (Chg (fun _ => False) W2 Z4) := CZ3.out.then hb2
          clear hb2 CZ3
          have hHeld := CZ4.out
          refine wpAnyH_ready (rs := [8]) (by kernel_rfl) (by simp) ?_
          obtain ⟨v', Z5, hst, hR6, C6⟩ := Rw.append kdC 23 (u := .slice (some ⟨gc, 0, none⟩) 1 1) (ys := [c]) CR1.out (Sce.of_row Rgc.out) (fun y _ => encC_length y) (by have := HN.out; have := N4.out; simp; omega) (Nat.le_trans BB.out.size CZ4.out.size)
          obtain ⟨uo, uc, rfl⟩ := hR6.form
          obtain ⟨un, hun⟩ : ∃ un, un = (t.cs ++ [c]).length := ⟨_, rfl⟩
          rw [← hun] at hR6 hst
          clear hun
          refine step_append_as (o := { dst := some 27, op := Op.call { callee := Callee.builtin Builtin.append, args := #[Operand.tmp 24, Operand.tmp 26], argTypes := #[23, 23] }, type := 23, pos := "ref.go:31", after := #[{ on := 5, ground := Ground.data }, { on := 7, ground := Ground.data }, { on := 5, ground := Ground.chain }], guard := none }) rfl rfl (.tmp 24) (.tmp 26) 23 23 rfl (.slice vo n vc) (.slice (some ⟨gc, 0, none⟩) 1 1) rfl rfl (.slice uo un uc) Z5 hst AllReadyH.nil ⟨CZ4.out.trans C6 (fun k hk e => by have h2 := CR1b.out k e; omega), fun hHeld => ?_⟩
          replace Rga : Hid (Z5.heap[ga]? = some (.cells tk0 27 (0, 0))) := C6.row Rga.out (fun e => CR1.out.apart Rga.out (by decide) e)
          have CZ5 : Hid (Chg (fun _ => False) W2 Z5) := CZ4.out.trans C6 (fun k hk e => by have h2 := CR1b.out k e; omega)
          have CR2 : Hid (CRow w.heap.size Z5 (.slice uo un uc) (t.cs ++ [c])) := hR6
          clear hst hR6 C6 CZ4 Rgc CR1 hHeld
          have hHeld := CZ5.out
          simp only [Act.put, List.setIfInBounds_toArray, List.set_cons_zero, List.set_cons_succ]
          refine wpAnyH_ready (rs := [9]) (by kernel_rfl) (by simp) ?_
          refine step_build_as (o := { dst := some 28, op := Op.build 27 #[(0, Operand.tmp 20), (1, Operand.tmp 27)], type := 27, pos := "ref.go:31", after := #[{ on := 1, ground := Ground.data }, { on := 8, ground := Ground.data }], guard := none }) rfl rfl 27 [(0, .tmp 20), (1, .tmp 27)] rfl [(0, .int .u32 (t.id : Int)), (1, .slice uo un uc)] rfl (.agg (encT t.id (.slice uo un uc) (S.zeros 32)).toArray) (build27i t.id uo un uc Z5) AllReadyH.nil ⟨CZ5.out, fun hHeld => ?_⟩
          simp only [Act.put, List.setIfInBounds_toArray, List.set_cons_zero, List.set_cons_succ]
          refine wpAnyH_ready (rs := [11]) (by kernel_rfl) (by simp) ?_
          obtain ⟨Z6, hst, r6, C6, s6⟩ := store_t (id := t.id) (ao := uo) (n := un) (m := uc) (tag := S.zeros 32) Rga.out tk0_size (S.zeros_length 32)
          refine step_store_as (o := { dst := none, op := Op.store 27 (Operand.tmp 8) (Operand.tmp 28), type := 0, pos := "ref.go:31", after := #[{ on := 10, ground := Ground.data }, { on := 9, ground := Ground.data }, { on := 8, ground := Ground.chain }, { on := 0, ground := Ground.phase }, { on := 1, ground := Ground.phase }, { on := 2, ground := Ground.phase }, { on := 3, ground := Ground.phase }, { on := 4, ground := Ground.phase }, { on := 5, ground := Ground.phase }, { on := 6, ground := Ground.phase }, { on := 7, ground := Ground.phase }, { on := 8, ground := Ground.phase }, { on := 9, ground := Ground.phase }, { on := 10, ground := Ground.phase }], guard := none }) rfl rfl 27 (.tmp 8) (.tmp 28) rfl _ _ rfl rfl Z6 hst AllReadyH.nil ⟨CZ5.out.trans C6 (fun k hk e => by have := Gga.out; omega), fun hHeld => ?_⟩
          have CZ6 : Hid (Chg (fun _ => False) W2 Z6) := CZ5.out.trans C6 (fun k hk e => by have := Gga.out; omega)
          replace CR2 : Hid (CRow w.heap.size Z6 (.slice uo un uc) (t.cs ++ [c])) := CR2.out.chg C6 (fun j e e2 => CR2.out.apart Rga.out (by decide) (e2 ▸ e))
          replace Rga : Hid (Z6.heap[ga]? = some (.cells (encT t.id (.slice uo un uc) (S.zeros 32)).toArray 27 (0, 0))) := r6
          clear hst r6 C6 s6 CZ5
          simp only [Act.put]
          refine wpAnyH_done (by kernel_rfl) ?_ _
          refine NoPanic.normal ?_
          clear hHeld
          try go_wp2_with fail
          go_meet
          exact ⟨ga, uo, un, uc, rfl, Rga, CR2, (by show w.heap.size + 2 < ga; have := Gga.out; have := L2.out; omega), CZ6⟩
        refine step_alloc_as (o := { dst := some 8, op := Op.alloc 27, type := 0, pos := "ref.go:31", after := #[], guard := none }) rfl rfl 27 rfl _ _ (alloc27 Z2) AllReadyH.nil ⟨CZ2.out.alloc _, fun hHeld => ?_⟩
        clear hHeld
        simp only [Act.put, List.setIfInBounds_toArray, List.set_cons_zero, List.set_cons_succ]
        obtain ⟨ga, hga⟩ : ∃ gg, gg = Z2.heap.size := ⟨_, rfl⟩
        rw [← hga]
        generalize hZ : Z2.alloc _ = Z3
        have hb2 : Below Z2.heap.size Z2 Z3 := by rw [← hZ]; exact (Below.refl _ _).alloc (Nat.le_refl _) _
        have Rga : Hid (Z3.heap[ga]? = some (.cells tk0 27 (0, 0))) := by rw [← hZ, hga]; exact heap_alloc_new _ _
        have Gga := hide (show W2.heap.size ≤ ga by rw [hga]; exact CZ2.out.size)
        clear hZ hga
        replace CR1 : Hid (CRow w.heap.size Z3 (.slice vo n vc) t.cs) := CR1.out.below hb2
        have CZ3 : Hid (Chg (fun _ => False) W2 Z3) := CZ2.out.then hb2
        clear hb2 CZ2
        have hHeld := CZ3.out
        refine wpAnyH_ready (rs := [7]) (by kernel_rfl) (by simp) ?_
        refine step_buildSlice_as (o := { dst := some 26, op := Op.buildSlice 23 1 #[(0, Operand.tmp 25)], type := 23, pos := "ref.go:31", after := #[{ on := 6, ground := Ground.data }], guard := none }) rfl rfl 23 1 [(0, .tmp 25)] rfl [(0, .agg (encC c).toArray)] rfl _ _ (bs23one Z3 c) AllReadyH.nil ⟨CZ3.out.alloc _, fun hHeld => ?_⟩
        clear hHeld
        simp only [Act.put, List.setIfInBounds_toArray, List.set_cons_zero, List.set_cons_succ]
        obtain ⟨gc, hgc⟩ : ∃ gg, gg = Z3.heap.size := ⟨_, rfl⟩
        rw [← hgc]
        generalize hZ : Z3.alloc _ = Z4
        have hb2 : Below Z3.heap.size Z3 Z4 := by rw [← hZ]; exact (Below.refl _ _).alloc (Nat.le_refl _) _
        have Rgc : Hid (Z4.heap[gc]? = some (.cells (encC c).toArray 42 (0, 0))) := by rw [← hZ, hgc]; exact heap_alloc_new _ _
        have Ggc := hide (show W2.heap.size ≤ gc by rw [hgc]; exact CZ3.out.size)
        clear hZ hgc
        replace Rga : Hid (Z4.heap[ga]? = some (.cells tk0 27 (0, 0))) := (hb2.block _ (block_lt_of_row Rga.out)).trans Rga.out
        replace CR1 : Hid (CRow w.heap.size Z4 (.slice vo n vc) t.cs) := CR1.out.below hb2
        have CZ4 : Hid (Chg (fun _ => False) W2 Z4) := CZ3.out.then hb2
        clear hb2 CZ3
        have hHeld := CZ4.out
        refine wpAnyH_ready (rs := [8]) (by kernel_rfl) (by simp) ?_
        obtain ⟨v', Z5, hst, hR6, C6⟩ := Rw.append kdC 23 (u := .slice (some ⟨gc, 0, none⟩) 1 1) (ys := [c]) CR1.out (Sce.of_row Rgc.out) (fun y _ => encC_length y) (by have := HN.out; have := N4.out; simp; omega) (Nat.le_trans BB.out.size CZ4.out.size)
        obtain ⟨uo, uc, rfl⟩ := hR6.form
        obtain ⟨un, hun⟩ : ∃ un, un = (t.cs ++ [c]).length := ⟨_, rfl⟩
        rw [← hun] at hR6 hst
        clear hun
        refine step_append_as (o := { dst := some 27, op := Op.call { callee := Callee.builtin Builtin.append, args := #[Operand.tmp 24, Operand.tmp 26], argTypes := #[23, 23] }, type := 23, pos := "ref.go:31", after := #[{ on := 5, ground := Ground.data }, { on := 7, ground := Ground.data }, { on := 5, ground := Ground.chain }], guard := none }) rfl rfl (.tmp 24) (.tmp 26) 23 23 rfl (.slice vo n vc) (.slice (some ⟨gc, 0, none⟩) 1 1) rfl rfl (.slice uo un uc) Z5 hst AllReadyH.nil ⟨CZ4.out.trans C6 (fun k hk e => by have h2 := CR1b.out k e; omega), fun hHeld => ?_⟩
        replace Rga : Hid (Z5.heap[ga]? = some (.cells tk0 27 (0, 0))) := C6.row Rga.out (fun e => CR1.out.apart Rga.out (by decide) e)
        have CZ5 : Hid (Chg (fun _ => False) W2 Z5) := CZ4.out.trans C6 (fun k hk e => by have h2 := CR1b.out k e; omega)
        have CR2 : Hid (CRow w.heap.size Z5 (.slice uo un uc) (t.cs ++ [c])) := hR6
        clear hst hR6 C6 CZ4 Rgc CR1 hHeld
        have hHeld := CZ5.out
        simp only [Act.put, List.setIfInBounds_toArray, List.set_cons_zero, List.set_cons_succ]
        refine wpAnyH_ready (rs := [9]) (by kernel_rfl) (by simp) ?_
        refine step_build_as (o := { dst := some 28, op := Op.build 27 #[(0, Operand.tmp 20), (1, Operand.tmp 27)], type := 27, pos := "ref.go:31", after := #[{ on := 1, ground := Ground.data }, { on := 8, ground := Ground.data }], guard := none }) rfl rfl 27 [(0, .tmp 20), (1, .tmp 27)] rfl [(0, .int .u32 (t.id : Int)), (1, .slice uo un uc)] rfl (.agg (encT t.id (.slice uo un uc) (S.zeros 32)).toArray) (build27i t.id uo un uc Z5) AllReadyH.nil ⟨CZ5.out, fun hHeld => ?_⟩
        simp only [Act.put, List.setIfInBounds_toArray, List.set_cons_zero, List.set_cons_succ]
        refine wpAnyH_ready (rs := [11]) (by kernel_rfl) (by simp) ?_
        obtain ⟨Z6, hst, r6, C6, s6⟩ := store_t (id := t.id) (ao := uo) (n := un) (m := uc) (tag := S.zeros 32) Rga.out tk0_size (S.zeros_length 32)
        refine step_store_as (o := { dst := none, op := Op.store 27 (Operand.tmp 8) (Operand.tmp 28), type := 0, pos := "ref.go:31", after := #[{ on := 10, ground := Ground.data }, { on := 9, ground := Ground.data }, { on := 8, ground := Ground.chain }, { on := 0, ground := Ground.phase }, { on := 1, ground := Ground.phase }, { on := 2, ground := Ground.phase }, { on := 3, ground := Ground.phase }, { on := 4, ground := Ground.phase }, { on := 5, ground := Ground.phase }, { on := 6, ground := Ground.phase }, { on := 7, ground := Ground.phase }, { on := 8, ground := Ground.phase }, { on := 9, ground := Ground.phase }, { on := 10, ground := Ground.phase }], guard := none }) rfl rfl 27 (.tmp 8) (.tmp 28) rfl _ _ rfl rfl Z6 hst AllReadyH.nil ⟨CZ5.out.trans C6 (fun k hk e => by have := Gga.out; omega), fun hHeld => ?_⟩
        have CZ6 : Hid (Chg (fun _ => False) W2 Z6) := CZ5.out.trans C6 (fun k hk e => by have := Gga.out; omega)
        replace CR2 : Hid (CRow w.heap.size Z6 (.slice uo un uc) (t.cs ++ [c])) := CR2.out.chg C6 (fun j e e2 => CR2.out.apart Rga.out (by decide) (e2 ▸ e))
        replace Rga : Hid (Z6.heap[ga]? = some (.cells (encT t.id (.slice uo un uc) (S.zeros 32)).toArray 27 (0, 0))) := r6
        clear hst r6 C6 s6 CZ5
        simp only [Act.put]
        refine wpAnyH_done (by kernel_rfl) ?_ _
        refine NoPanic.normal ?_
        clear hHeld
        try go_wp2_with fail
        go_meet
        exact ⟨ga, uo, un, uc, rfl, Rga, CR2, (by show w.heap.size + 2 < ga; have := Gga.out; have := L2.out; omega), CZ6⟩
      refine step_buildSlice_as (o := { dst := some 26, op := Op.buildSlice 23 1 #[(0, Operand.tmp 25)], type := 23, pos := "ref.go:31", after := #[{ on := 6, ground := Ground.data }], guard := none }) rfl rfl 23 1 [(0, .tmp 25)] rfl [(0, .agg (encC c).toArray)] rfl _ _ (bs23one Z1 c) ?_ ⟨CZ1.out.alloc _, fun hHeld => ?_⟩
      rotate_left
      · skip
        clear hHeld
        simp only [Act.put, List.setIfInBounds_toArray, List.set_cons_zero, List.set_cons_succ]
        obtain ⟨gc, hgc⟩ : ∃ gg, gg = Z1.heap.size := ⟨_, rfl⟩
        rw [← hgc]
        generalize hZ : Z1.alloc _ = Z2
        have hb2 : Below Z1.heap.size Z1 Z2 := by rw [← hZ]; exact (Below.refl _ _).alloc (Nat.le_refl _) _
        have Rgc : Hid (Z2.heap[gc]? = some (.cells (encC c).toArray 42 (0, 0))) := by rw [← hZ, hgc]; exact heap_alloc_new _ _
        have Ggc := hide (show W2.heap.size ≤ gc by rw [hgc]; exact CZ1.out.size)
        clear hZ hgc
        replace Rge : Hid (Z2.heap[ge]? = some (.cells #[] 42 (0, 0))) := (hb2.block _ (block_lt_of_row Rge.out)).trans Rge.out
        have CZ2 : Hid (Chg (fun _ => False) W2 Z2) := CZ1.out.then hb2
        clear hb2 CZ1
        have hHeld := CZ2.out
        refine wpAnyH_ready (rs := [5, 10]) (by kernel_rfl) (by simp) ?_
        obtain ⟨v', Z3, hst, hR6, C6⟩ := Rw.append kdC 23 (B := W2.heap.size) (Rw.empty Rge.out Gge.out) (CV.out.below (CZ2.out.below _ (Nat.le_refl _) (fun _ _ e => e))).src (fun y _ => encC_length y) (by have := HN.out; have := N4.out; simp; omega) CZ2.out.size
        rw [List.nil_append] at hR6
        obtain ⟨vo, vc, rfl⟩ := hR6.form
        rw [← HN.out] at hR6 hst
        have hOB : ∀ k, (Value.slice vo n vc).ownBlock = some k → W2.heap.size ≤ k := fun k hk => (hR6.blk hk).1
        replace hR6 : CRow w.heap.size _ _ _ := hR6.mono BB.out.size
        refine step_append_as (o := { dst := some 24, op := Op.call { callee := Callee.builtin Builtin.append, args := #[Operand.tmp 21, Operand.tmp 23], argTypes := #[23, 23] }, type := 23, pos := "ref.go:31", after := #[{ on := 2, ground := Ground.data }, { on := 4, ground := Ground.data }], guard := none }) rfl rfl (.tmp 21) (.tmp 23) 23 23 rfl (.slice (some ⟨ge, 0, none⟩) 0 0) (.slice ao n cap) rfl rfl (.slice vo n vc) Z3 hst ?_ ⟨CZ2.out.trans C6 (fun k hk e => by have := Gge.out; have := Option.some.inj e; simp only at this; omega), fun hHeld => ?_⟩
        rotate_left
        · skip
          replace Rgc : Hid (Z3.heap[gc]? = some (.cells (encC c).toArray 42 (0, 0))) := C6.row Rgc.out (fun e => ne_rows Rge.out Rgc.out (by simp [encC]) (Option.some.inj e))
          have CZ3 : Hid (Chg (fun _ => False) W2 Z3) := CZ2.out.trans C6 (fun k hk e => by have := Gge.out; have := Option.some.inj e; simp only at this; omega)
          have CR1 : Hid (CRow w.heap.size Z3 (.slice vo n vc) t.cs) := hR6
          have CR1b : Hid (∀ k, (Value.slice vo n vc).ownBlock = some k → W2.heap.size ≤ k) := hOB
          clear hst hR6 C6 CZ2 Rge hHeld
          have hHeld := CZ3.out
          simp only [Act.put, List.setIfInBounds_toArray, List.set_cons_zero, List.set_cons_succ]
          refine wpAnyH_ready (rs := [8, 10]) (by kernel_rfl) (by simp) ?_
          obtain ⟨v', Z4, hst, hR6, C6⟩ := Rw.append kdC 23 (u := .slice (some ⟨gc, 0, none⟩) 1 1) (ys := [c]) CR1.out (Sce.of_row Rgc.out) (fun y _ => encC_length y) (by have := HN.out; have := N4.out; simp; omega) (Nat.le_trans BB.out.size CZ3.out.size)
          obtain ⟨uo, uc, rfl⟩ := hR6.form
          obtain ⟨un, hun⟩ : ∃ un, un = (t.cs ++ [c]).length := ⟨_, rfl⟩
          rw [← hun] at hR6 hst
          clear hun
          refine step_append_as (o := { dst := some 27, op := Op.call { callee := Callee.builtin Builtin.append, args := #[Operand.tmp 24, Operand.tmp 26], argTypes := #[23, 23] }, type := 23, pos := "ref.go:31", after := #[{ on := 5, ground := Ground.data }, { on := 7, ground := Ground.data }, { on := 5, ground := Ground.chain }], guard := none }) rfl rfl (.tmp 24) (.tmp 26) 23 23 rfl (.slice vo n vc) (.slice (some ⟨gc, 0, none⟩) 1 1) rfl rfl (.slice uo un uc) Z4 hst ?_ ⟨CZ3.out.trans C6 (fun k hk e => by have h2 := CR1b.out k e; omega), fun hHeld => ?_⟩
          rotate_left
          · skip
            have CZ4 : Hid (Chg (fun _ => False) W2 Z4) := CZ3.out.trans C6 (fun k hk e => by have h2 := CR1b.out k e; omega)
            have CR2 : Hid (CRow w.heap.size Z4 (.slice uo un uc) (t.cs ++ [c])) := hR6
            clear hst hR6 C6 CZ3 Rgc CR1 hHeld
            have hHeld := CZ4.out
            simp only [Act.put, List.setIfInBounds_toArray, List.set_cons_zero, List.set_cons_succ]
            refine wpAnyH_ready (rs := [9, 10]) (by kernel_rfl) (by simp) ?_
            refine step_build_as (o := { dst := some 28, op := Op.build 27 #[(0, Operand.tmp 20), (1, Operand.tmp 27)], type := 27, pos := "ref.go:31", after := #[{ on := 1, ground := Ground.data }, { on := 8, ground := Ground.data }], guard := none }) rfl rfl 27 [(0, .tmp 20), (1, .tmp 27)] rfl [(0, .int .u32 (t.id : Int)), (1, .slice uo un uc)] rfl (.agg (encT t.id (.slice uo un uc) (S.zeros 32)).toArray) (build27i t.id uo un uc Z4) ?_ ⟨CZ4.out, fun hHeld => ?_⟩
            rotate_left
            · skip
              simp only [Act.put, List.setIfInBounds_toArray, List.set_cons_zero, List.set_cons_succ]
              refine wpAnyH_ready (rs := [10]) (by kernel_rfl) (by simp) ?_
              refine step_alloc_as (o := { dst := some 8, op := Op.alloc 27, type := 0, pos := "ref.go:31", after := #[], guard := none }) rfl rfl 27 rfl _ _ (alloc27 Z4) AllReadyH.nil ⟨CZ4.out.alloc _, fun hHeld => ?_⟩
              clear hHeld
              simp only [Act.put, List.setIfInBounds_toArray, List.set_cons_zero, List.set_cons_succ]
              obtain ⟨ga, hga⟩ : ∃ gg, gg = Z4.heap.size := ⟨_, rfl⟩
              rw [← hga]
              generalize hZ : Z4.alloc _ = Z5
              have hb2 : Below Z4.heap.size Z4 Z5 := by rw [← hZ]; exact (Below.refl _ _).alloc (Nat.le_refl _) _
              have Rga : Hid (Z5.heap[ga]? = some (.cells tk0 27 (0, 0))) := by rw [← hZ, hga]; exact heap_alloc_new _ _
              have Gga := hide (show W2.heap.size ≤ ga by rw [hga]; exact CZ4.out.size)
              clear hZ hga
              replace CR2 : Hid (CRow w.heap.size Z5 (.slice uo un uc) (t.cs ++ [c])) := CR2.out.below hb2
              have CZ5 : Hid (Chg (fun _ => False) W2 Z5) := CZ4.out.then hb2
              clear hb2 CZ4
              have hHeld := CZ5.out
              refine wpAnyH_ready (rs := [11]) (by kernel_rfl) (by simp) ?_
              obtain ⟨Z6, hst, r6, C6, s6⟩ := store_t (id := t.id) (ao := uo) (n := un) (m := uc) (tag := S.zeros 32) Rga.out tk0_size (S.zeros_length 32)
              refine step_store_as (o := { dst := none, op := Op.store 27 (Operand.tmp 8) (Operand.tmp 28), type := 0, pos := "ref.go:31", after := #[{ on := 10, ground := Ground.data }, { on := 9, ground := Ground.data }, { on := 8, ground := Ground.chain }, { on := 0, ground := Ground.phase }, { on := 1, ground := Ground.phase }, { on := 2, ground := Ground.phase }, { on := 3, ground := Ground.phase }, { on := 4, ground := Ground.phase }, { on := 5, ground := Ground.phase }, { on := 6, ground := Ground.phase }, { on := 7, ground := Ground.phase }, { on := 8, ground := Ground.phase }, { on := 9, ground := Ground.phase }, { on := 10, ground := Ground.phase }], guard := none }) rfl rfl 27 (.tmp 8) (.tmp 28) rfl _ _ rfl rfl Z6 hst AllReadyH.nil ⟨CZ5.out.trans C6 (fun k hk e => by have := Gga.out; omega), fun hHeld => ?_⟩
              have CZ6 : Hid (Chg (fun _ => False) W2 Z6) := CZ5.out.trans C6 (fun k hk e => by have := Gga.out; omega)
              replace CR2 : Hid (CRow w.heap.size Z6 (.slice uo un uc) (t.cs ++ [c])) := CR2.out.chg C6 (fun j e e2 => CR2.out.apart Rga.out (by decide) (e2 ▸ e))
              replace Rga : Hid (Z6.heap[ga]? = some (.cells (encT t.id (.slice uo un uc) (S.zeros 32)).toArray 27 (0, 0))) := r6
              clear hst r6 C6 s6 CZ5
              simp only [Act.put]
              refine wpAnyH_done (by kernel_rfl) ?_ _
              refine NoPanic.normal ?_
              clear hHeld
              try go_wp2_with fail
              go_meet
              exact ⟨ga, uo, un, uc, rfl, Rga, CR2, (by show w.heap.size + 2 < ga; have := Gga.out; have := L2.out; omega), CZ6⟩
            refine step_alloc_as (o := { dst := some 8, op := Op.alloc 27, type := 0, pos := "ref.go:31", after := #[], guard := none }) rfl rfl 27 rfl _ _ (alloc27 Z4) AllReadyH.nil ⟨CZ4.out.alloc _, fun hHeld => ?_⟩
            clear hHeld
            simp only [Act.put, List.setIfInBounds_toArray, List.set_cons_zero, List.set_cons_succ]
            obtain ⟨ga, hga⟩ : ∃ gg, gg = Z4.heap.size := ⟨_, rfl⟩
            rw [← hga]
            generalize hZ : Z4.alloc _ = Z5
            have hb2 : Below Z4.heap.size Z4 Z5 := by rw [← hZ]; exact (Below.refl _ _).alloc (Nat.le_refl _) _
            have Rga : Hid (Z5.heap[ga]? = some (.cells tk0 27 (0, 0))) := by rw [← hZ, hga]; exact heap_alloc_new _ _
            have Gga := hide (show W2.heap.size ≤ ga by rw [hga]; exact CZ4.out.size)
            clear hZ hga
            replace CR2 : Hid (CRow w.heap.size Z5 (.slice uo un uc) (t.cs ++ [c])) := CR2.out.below hb2
            have CZ5 : Hid (Chg (fun _ => False) W2 Z5) := CZ4.out.then hb2
            clear hb2 CZ4
            have hHeld := CZ5.out
            refine wpAnyH_ready (rs := [9]) (by kernel_rfl) (by simp) ?_
            refine step_build_as (o := { dst := some 28, op := Op.build 27 #[(0, Operand.tmp 20), (1, Operand.tmp 27)], type := 27, pos := "ref.go:31", after := #[{ on := 1, ground := Ground.data }, { on := 8, ground := Ground.data }], guard := none }) rfl rfl 27 [(0, .tmp 20), (1, .tmp 27)] rfl [(0, .int .u32 (t.id : Int)), (1, .slice uo un uc)] rfl (.agg (encT t.id (.slice uo un uc) (S.zeros 32)).toArray) (build27i t.id uo un uc Z5) AllReadyH.nil ⟨CZ5.out, fun hHeld => ?_⟩
            simp only [Act.put, List.setIfInBounds_toArray, List.set_cons_zero, List.set_cons_succ]
            refine wpAnyH_ready (rs := [11]) (by kernel_rfl) (by simp) ?_
            obtain ⟨Z6, hst, r6, C6, s6⟩ := store_t (id := t.id) (ao := uo) (n := un) (m := uc) (tag := S.zeros 32) Rga.out tk0_size (S.zeros_length 32)
            refine step_store_as (o := { dst := none, op := Op.store 27 (Operand.tmp 8) (Operand.tmp 28), type := 0, pos := "ref.go:31", after := #[{ on := 10, ground := Ground.data }, { on := 9, ground := Ground.data }, { on := 8, ground := Ground.chain }, { on := 0, ground := Ground.phase }, { on := 1, ground := Ground.phase }, { on := 2, ground := Ground.phase }, { on := 3, ground := Ground.phase }, { on := 4, ground := Ground.phase }, { on := 5, ground := Ground.phase }, { on := 6, ground := Ground.phase }, { on := 7, ground := Ground.phase }, { on := 8, ground := Ground.phase }, { on := 9, ground := Ground.phase }, { on := 10, ground := Ground.phase }], guard := none }) rfl rfl 27 (.tmp 8) (.tmp 28) rfl _ _ rfl rfl Z6 hst AllReadyH.nil ⟨CZ5.out.trans C6 (fun k hk e => by have := Gga.out; omega), fun hHeld => ?_⟩
            have CZ6 : Hid (Chg (fun _ => False) W2 Z6) := CZ5.out.trans C6 (fun k hk e => by have := Gga.out; omega)
            replace CR2 : Hid (CRow w.heap.size Z6 (.slice uo un uc) (t.cs ++ [c])) := CR2.out.chg C6 (fun j e e2 => CR2.out.apart Rga.out (by decide) (e2 ▸ e))
            replace Rga : Hid (Z6.heap[ga]? = some (.cells (encT t.id (.slice uo un uc) (S.zeros 32)).toArray 27 (0, 0))) := r6
            clear hst r6 C6 s6 CZ5
            simp only [Act.put]
            refine wpAnyH_done (by kernel_rfl) ?_ _
            refine NoPanic.normal ?_
            clear hHeld
            try go_wp2_with fail
            go_meet
            exact ⟨ga, uo, un, uc, rfl, Rga, CR2, (by show w.heap.size + 2 < ga; have := Gga.out; have := L2.out; omega), CZ6⟩
          refine step_alloc_as (o := { dst := some 8, op := Op.alloc 27, type := 0, pos := "ref.go:31", after := #[], guard := none }) rfl rfl 27 rfl _ _ (alloc27 Z3) AllReadyH.nil ⟨CZ3.out.alloc _, fun hHeld => ?_⟩
          clear hHeld
          simp only [Act.put, List.setIfInBounds_toArray, List.set_cons_zero, List.set_cons_succ]
          obtain ⟨ga, hga⟩ : ∃ gg, gg = Z3.heap.size := ⟨_, rfl⟩
          rw [← hga]
          generalize hZ : Z3.alloc _ = Z4
          have hb2 : Below Z3.heap.size Z3 Z4 := by rw [← hZ]; exact (Below.refl _ _).alloc (Nat.le_refl _) _
          have Rga : Hid (Z4.heap[ga]? = some (.cells tk0 27 (0, 0))) := by rw [← hZ, hga]; exact heap_alloc_new _ _
          have Gga := hide (show W2.heap.size ≤ ga by rw [hga]; exact CZ3.out.size)
          clear hZ hga
          replace Rgc : Hid (Z4.heap[gc]? = some (.cells (encC c).toArray 42 (0, 0))) := (hb2.block _ (block_lt_of_row Rgc.out)).trans Rgc.out
          replace CR1 : Hid (CRow w.heap.size Z4 (.slice vo n vc) t.cs) := CR1.out.below hb2
          have CZ4 : Hid (Chg (fun _ => False) W2 Z4) := CZ3.out.then hb2
          clear hb2 CZ3
          have hHeld := CZ4.out
          refine wpAnyH_ready (rs := [8]) (by kernel_rfl) (by simp) ?_
          obtain ⟨v', Z5, hst, hR6, C6⟩ := Rw.append kdC 23 (u := .slice (some ⟨gc, 0, none⟩) 1 1) (ys := [c]) CR1.out (Sce.of_row Rgc.out) (fun y _ => encC_length y) (by have := HN.out; have := N4.out; simp; omega) (Nat.le_trans BB.out.size CZ4.out.size)
          obtain ⟨uo, uc, rfl⟩ := hR6.form
          obtain ⟨un, hun⟩ : ∃ un, un = (t.cs ++ [c]).length := ⟨_, rfl⟩
          rw [← hun] at hR6 hst
          clear hun
          refine step_append_as (o := { dst := some 27, op := Op.call { callee := Callee.builtin Builtin.append, args := #[Operand.tmp 24, Operand.tmp 26], argTypes := #[23, 23] }, type := 23, pos := "ref.go:31", after := #[{ on := 5, ground := Ground.data }, { on := 7, ground := Ground.data }, { on := 5, ground := Ground.chain }], guard := none }) rfl rfl (.tmp 24) (.tmp 26) 23 23 rfl (.slice vo n vc) (.slice (some ⟨gc, 0, none⟩) 1 1) rfl rfl (.slice uo un uc) Z5 hst AllReadyH.nil ⟨CZ4.out.trans C6 (fun k hk e => by have h2 := CR1b.out k e; omega), fun hHeld => ?_⟩
          replace Rga : Hid (Z5.heap[ga]? = some (.cells tk0 27 (0, 0))) := C6.row Rga.out (fun e => CR1.out.apart Rga.out (by decide) e)
          have CZ5 : Hid (Chg (fun _ => False) W2 Z5) := CZ4.out.trans C6 (fun k hk e => by have h2 := CR1b.out k e; omega)
          have CR2 : Hid (CRow w.heap.size Z5 (.slice uo un uc) (t.cs ++ [c])) := hR6
          clear hst hR6 C6 CZ4 Rgc CR1 hHeld
          have hHeld := CZ5.out
          simp only [Act.put, List.setIfInBounds_toArray, List.set_cons_zero, List.set_cons_succ]
          refine wpAnyH_ready (rs := [9]) (by kernel_rfl) (by simp) ?_
          refine step_build_as (o := { dst := some 28, op := Op.build 27 #[(0, Operand.tmp 20), (1, Operand.tmp 27)], type := 27, pos := "ref.go:31", after := #[{ on := 1, ground := Ground.data }, { on := 8, ground := Ground.data }], guard := none }) rfl rfl 27 [(0, .tmp 20), (1, .tmp 27)] rfl [(0, .int .u32 (t.id : Int)), (1, .slice uo un uc)] rfl (.agg (encT t.id (.slice uo un uc) (S.zeros 32)).toArray) (build27i t.id uo un uc Z5) AllReadyH.nil ⟨CZ5.out, fun hHeld => ?_⟩
          simp only [Act.put, List.setIfInBounds_toArray, List.set_cons_zero, List.set_cons_succ]
          refine wpAnyH_ready (rs := [11]) (by kernel_rfl) (by simp) ?_
          obtain ⟨Z6, hst, r6, C6, s6⟩ := store_t (id := t.id) (ao := uo) (n := un) (m := uc) (tag := S.zeros 32) Rga.out tk0_size (S.zeros_length 32)
          refine step_store_as (o := { dst := none, op := Op.store 27 (Operand.tmp 8) (Operand.tmp 28), type := 0, pos := "ref.go:31", after := #[{ on := 10, ground := Ground.data }, { on := 9, ground := Ground.data }, { on := 8, ground := Ground.chain }, { on := 0, ground := Ground.phase }, { on := 1, ground := Ground.phase }, { on := 2, ground := Ground.phase }, { on := 3, ground := Ground.phase }, { on := 4, ground := Ground.phase }, { on := 5, ground := Ground.phase }, { on := 6, ground := Ground.phase }, { on := 7, ground := Ground.phase }, { on := 8, ground := Ground.phase }, { on := 9, ground := Ground.phase }, { on := 10, ground := Ground.phase }], guard := none }) rfl rfl 27 (.tmp 8) (.tmp 28) rfl _ _ rfl rfl Z6 hst AllReadyH.nil ⟨CZ5.out.trans C6 (fun k hk e => by have := Gga.out; omega), fun hHeld => ?_⟩
          have CZ6 : Hid (Chg (fun _ => False) W2 Z6) := CZ5.out.trans C6 (fun k hk e => by have := Gga.out; omega)
          replace CR2 : Hid (CRow w.heap.size Z6 (.slice uo un uc) (t.cs ++ [c])) := CR2.out.chg C6 (fun j e e2 => CR2.out.apart Rga.out (by decide) (e2 ▸ e))
          replace Rga : Hid (Z6.heap[ga]? = some (.cells (encT t.id (.slice uo un uc) (S.zeros 32)).toArray 27 (0, 0))) := r6
          clear hst r6 C6 s6 CZ5
          simp only [Act.put]
          refine wpAnyH_done (by kernel_rfl) ?_ _
          refine NoPanic.normal ?_
          clear hHeld
          try go_wp2_with fail
          go_meet
          exact ⟨ga, uo, un, uc, rfl, Rga, CR2, (by show w.heap.size + 2 < ga; have := Gga.out; have := L2.out; omega), CZ6⟩
        refine step_alloc_as (o := { dst := some 8, op := Op.alloc 27, type := 0, pos := "ref.go:31", after := #[], guard := none }) rfl rfl 27 rfl _ _ (alloc27 Z2) AllReadyH.nil ⟨CZ2.out.alloc _, fun hHeld => ?_⟩
        clear hHeld
        simp only [Act.put, List.setIfInBounds_toArray, List.set_cons_zero, List.set_cons_succ]
        obtain ⟨ga, hga⟩ : ∃ gg, gg = Z2.heap.size := ⟨_, rfl⟩
        rw [← hga]
        generalize hZ : Z2.alloc _ = Z3
        have hb2 : Below Z2.heap.size Z2 Z3 := by rw [← hZ]; exact (Below.refl _ _).alloc (Nat.le_refl _) _
        have Rga : Hid (Z3.heap[ga]? = some (.cells tk0 27 (0, 0))) := by rw [← hZ, hga]; exact heap_alloc_new _ _
        have Gga := hide (show W2.heap.size ≤ ga by rw [hga]; exact CZ2.out.size)
        clear hZ hga
        replace Rge : Hid (Z3.heap[ge]? = some (.cells #[] 42 (0, 0))) := (hb2.block _ (block_lt_of_row Rge.out)).trans Rge.out
        replace Rgc : Hid (Z3.heap[gc]? = some (.cells (encC c).toArray 42 (0, 0))) := (hb2.block _ (block_lt_of_row Rgc.out)).trans Rgc.out
        have CZ3 : Hid (Chg (fun _ => False) W2 Z3) := CZ2.out.then hb2
        clear hb2 CZ2
        have hHeld := CZ3.out
        refine wpAnyH_ready (rs := [5]) (by kernel_rfl) (by simp) ?_
        obtain ⟨v', Z4, hst, hR6, C6⟩ := Rw.append kdC 23 (B := W2.heap.size) (Rw.empty Rge.out Gge.out) (CV.out.below (CZ3.out.below _ (Nat.le_refl _) (fun _ _ e => e))).src (fun y _ => encC_length y) (by have := HN.out; have := N4.out; simp; omega) CZ3.out.size
        rw [List.nil_append] at hR6
        obtain ⟨vo, vc, rfl⟩ := hR6.form
        rw [← HN.out] at hR6 hst
        have hOB : ∀ k, (Value.slice vo n vc).ownBlock = some k → W2.heap.size ≤ k := fun k hk => (hR6.blk hk).1
        replace hR6 : CRow w.heap.size _ _ _ := hR6.mono BB.out.size
        refine step_append_as (o := { dst := some 24, op := Op.call { callee := Callee.builtin Builtin.append, args := #[Operand.tmp 21, Operand.tmp 23], argTypes := #[23, 23] }, type := 23, pos := "ref.go:31", after := #[{ on := 2, ground := Ground.data }, { on := 4, ground := Ground.data }], guard := none }) rfl rfl (.tmp 21) (.tmp 23) 23 23 rfl (.slice (some ⟨ge, 0, none⟩) 0 0) (.slice ao n cap) rfl rfl (.slice vo n vc) Z4 hst AllReadyH.nil ⟨CZ3.out.trans C6 (fun k hk e => by have := Gge.out; have := Option.some.inj e; simp only at this; omega), fun hHeld => ?_⟩
        replace Rgc : Hid (Z4.heap[gc]? = some (.cells (encC c).toArray 42 (0, 0))) := C6.row Rgc.out (fun e => ne_rows Rge.out Rgc.out (by simp [encC]) (Option.some.inj e))
        replace Rga : Hid (Z4.heap[ga]? = some (.cells tk0 27 (0, 0))) := C6.row Rga.out (fun e => ne_rows Rge.out Rga.out (by rw [tk0_size]; simp) (Option.some.inj e))
        have CZ4 : Hid (Chg (fun _ => False) W2 Z4) := CZ3.out.trans C6 (fun k hk e => by have := Gge.out; have := Option.some.inj e; simp only at this; omega)
        have CR1 : Hid (CRow w.heap.size Z4 (.slice vo n vc) t.cs) := hR6
        have CR1b : Hid (∀ k, (Value.slice vo n vc).ownBlock = some k → W2.heap.size ≤ k) := hOB
        clear hst hR6 C6 CZ3 Rge hHeld
        have hHeld := CZ4.out
        simp only [Act.put, List.setIfInBounds_toArray, List.set_cons_zero, List.set_cons_succ]
        refine wpAnyH_ready (rs := [8]) (by kernel_rfl) (by simp) ?_
        obtain ⟨v', Z5, hst, hR6, C6⟩ := Rw.append kdC 23 (u := .slice (some ⟨gc, 0, none⟩) 1 1) (ys := [c]) CR1.out (Sce.of_row Rgc.out) (fun y _ => encC_length y) (by have := HN.out; have := N4.out; simp; omega) (Nat.le_trans BB.out.size CZ4.out.size)
        obtain ⟨uo, uc, rfl⟩ := hR6.form
        obtain ⟨un, hun⟩ : ∃ un, un = (t.cs ++ [c]).length := ⟨_, rfl⟩
        rw [← hun] at hR6 hst
        clear hun
        refine step_append_as (o := { dst := some 27, op := Op.call { callee := Callee.builtin Builtin.append, args := #[Operand.tmp 24, Operand.tmp 26], argTypes := #[23, 23] }, type := 23, pos := "ref.go:31", after := #[{ on := 5, ground := Ground.data }, { on := 7, ground := Ground.data }, { on := 5, ground := Ground.chain }], guard := none }) rfl rfl (.tmp 24) (.tmp 26) 23 23 rfl (.slice vo n vc) (.slice (some ⟨gc, 0, none⟩) 1 1) rfl rfl (.slice uo un uc) Z5 hst AllReadyH.nil ⟨CZ4.out.trans C6 (fun k hk e => by have h2 := CR1b.out k e; omega), fun hHeld => ?_⟩
        replace Rga : Hid (Z5.heap[ga]? = some (.cells tk0 27 (0, 0))) := C6.row Rga.out (fun e => CR1.out.apart Rga.out (by decide) e)
        have CZ5 : Hid (Chg (fun _ => False) W2 Z5) := CZ4.out.trans C6 (fun k hk e => by have h2 := CR1b.out k e; omega)
        have CR2 : Hid (CRow w.heap.size Z5 (.slice uo un uc) (t.cs ++ [c])) := hR6
        clear hst hR6 C6 CZ4 Rgc CR1 hHeld
        have hHeld := CZ5.out
        simp only [Act.put, List.setIfInBounds_toArray, List.set_cons_zero, List.set_cons_succ]
        refine wpAnyH_ready (rs := [9]) (by kernel_rfl) (by simp) ?_
        refine step_build_as (o := { dst := some 28, op := Op.build 27 #[(0, Operand.tmp 20), (1, Operand.tmp 27)], type := 27, pos := "ref.go:31", after := #[{ on := 1, ground := Ground.data }, { on := 8, ground := Ground.data }], guard := none }) rfl rfl 27 [(0, .tmp 20), (1, .tmp 27)] rfl [(0, .int .u32 (t.id : Int)), (1, .slice uo un uc)] rfl (.agg (encT t.id (.slice uo un uc) (S.zeros 32)).toArray) (build27i t.id uo un uc Z5) AllReadyH.nil ⟨CZ5.out, fun hHeld => ?_⟩
        simp only [Act.put, List.setIfInBounds_toArray, List.set_cons_zero, List.set_cons_succ]
        refine wpAnyH_ready (rs := [11]) (by kernel_rfl) (by simp) ?_
        obtain ⟨Z6, hst, r6, C6, s6⟩ := store_t (id := t.id) (ao := uo) (n := un) (m := uc) (tag := S.zeros 32) Rga.out tk0_size (S.zeros_length 32)
        refine step_store_as (o := { dst := none, op := Op.store 27 (Operand.tmp 8) (Operand.tmp 28), type := 0, pos := "ref.go:31", after := #[{ on := 10, ground := Ground.data }, { on := 9, ground := Ground.data }, { on := 8, ground := Ground.chain }, { on := 0, ground := Ground.phase }, { on := 1, ground := Ground.phase }, { on := 2, ground := Ground.phase }, { on := 3, ground := Ground.phase }, { on := 4, ground := Ground.phase }, { on := 5, ground := Ground.phase }, { on := 6, ground := Ground.phase }, { on := 7, ground := Ground.phase }, { on := 8, ground := Ground.phase }, { on := 9, ground := Ground.phase }, { on := 10, ground := Ground.phase }], guard := none }) rfl rfl 27 (.tmp 8) (.tmp 28) rfl _ _ rfl rfl Z6 hst AllReadyH.nil ⟨CZ5.out.trans C6 (fun k hk e => by have := Gga.out; omega), fun hHeld => ?_⟩
        have CZ6 : Hid (Chg (fun _ => False) W2 Z6) := CZ5.out.trans C6 (fun k hk e => by have := Gga.out; omega)
        replace CR2 : Hid (CRow w.heap.size Z6 (.slice uo un uc) (t.cs ++ [c])) := CR2.out.chg C6 (fun j e e2 => CR2.out.apart Rga.out (by decide) (e2 ▸ e))
        replace Rga : Hid (Z6.heap[ga]? = some (.cells (encT t.id (.slice uo un uc) (S.zeros 32)).toArray 27 (0, 0))) := r6
        clear hst r6 C6 s6 CZ5
        simp only [Act.put]
        refine wpAnyH_done (by kernel_rfl) ?_ _
        refine NoPanic.normal ?_
        clear hHeld
        try go_wp2_with fail
        go_meet
        exact ⟨ga, uo, un, uc, rfl, Rga, CR2, (by show w.heap.size + 2 < ga; have := Gga.out; have := L2.out; omega), CZ6⟩
      refine step_alloc_as (o := { dst := some 8, op := Op.alloc 27, type := 0, pos := "ref.go:31", after := #[], guard := none }) rfl rfl 27 rfl _ _ (alloc27 Z1) AllReadyH.nil ⟨CZ1.out.alloc _, fun hHeld => ?_⟩
      clear hHeld
      simp only [Act.put, List.setIfInBounds_toArray, List.set_cons_zero, List.set_cons_succ]
      obtain ⟨ga, hga⟩ : ∃ gg, gg = Z1.heap.size := ⟨_, rfl⟩
      rw [← hga]
      generalize hZ : Z1.alloc _ = Z2
      have hb2 : Below Z1.heap.size Z1 Z2 := by rw [← hZ]; exact (Below.refl _ _).alloc (Nat.le_refl _) _
      have Rga : Hid (Z2.heap[ga]? = some (.cells tk0 27 (0, 0))) := by rw [← hZ, hga]; exact heap_alloc_new _ _
      have Gga := hide (show W2.heap.size ≤ ga by rw [hga]; exact CZ1.out.size)
      clear hZ hga
      replace Rge : Hid (Z2.heap[ge]? = some (.cells #[] 42 (0, 0))) := (hb2.block _ (block_lt_of_row Rge.out)).trans Rge.out
      have CZ2 : Hid (Chg (fun _ => False) W2 Z2) := CZ1.out.then hb2
      clear hb2 CZ1
      have hHeld := CZ2.out
      refine wpAnyH_ready (rs := [5, 7]) (by kernel_rfl) (by simp) ?_
      obtain ⟨v', Z3, hst, hR6, C6⟩ := Rw.append kdC 23 (B := W2.heap.size) (Rw.empty Rge.out Gge.out) (CV.out.below (CZ2.out.below _ (Nat.le_refl _) (fun _ _ e => e))).src (fun y _ => encC_length y) (by have := HN.out; have := N4.out; simp; omega) CZ2.out.size
      rw [List.nil_append] at hR6
      obtain ⟨vo, vc, rfl⟩ := hR6.form
      rw [← HN.out] at hR6 hst
      have hOB : ∀ k, (Value.slice vo n vc).ownBlock = some k → W2.heap.size ≤ k := fun k hk => (hR6.blk hk).1
      replace hR6 : CRow w.heap.size _ _ _ := hR6.mono BB.out.size
      refine step_append_as (o := { dst := some 24, op := Op.call { callee := Callee.builtin Builtin.append, args := #[Operand.tmp 21, Operand.tmp 23], argTypes := #[23, 23] }, type := 23, pos := "ref.go:31", after := #[{ on := 2, ground := Ground.data }, { on := 4, ground := Ground.data }], guard := none }) rfl rfl (.tmp 21) (.tmp 23) 23 23 rfl (.slice (some ⟨ge, 0, none⟩) 0 0) (.slice ao n cap) rfl rfl (.slice vo n vc) Z3 hst ?_ ⟨CZ2.out.trans C6 (fun k hk e => by have := Gge.out; have := Option.some.inj e; simp only at this; omega), fun hHeld => ?_⟩
      rotate_left
      · skip
        replace Rga : Hid (Z3.heap[ga]? = some (.cells tk0 27 (0, 0))) := C6.row Rga.out (fun e => ne_rows Rge.out Rga.out (by rw [tk0_size]; simp) (Option.some.inj e))
        have CZ3 : Hid (Chg (fun _ => False) W2 Z3) := CZ2.out.trans C6 (fun k hk e => by have := Gge.out; have := Option.some.inj e; simp only at this; omega)
        have CR1 : Hid (CRow w.heap.size Z3 (.slice vo n vc) t.cs) := hR6
        have CR1b : Hid (∀ k, (Value.slice vo n vc).ownBlock = some k → W2.heap.size ≤ k) := hOB
        clear hst hR6 C6 CZ2 Rge hHeld
        have hHeld := CZ3.out
        simp only [Act.put, List.setIfInBounds_toArray, List.set_cons_zero, List.set_cons_succ]
        refine wpAnyH_ready (rs := [7]) (by kernel_rfl) (by simp) ?_
        refine step_buildSlice_as (o := { dst := some 26, op := Op.buildSlice 23 1 #[(0, Operand.tmp 25)], type := 23, pos := "ref.go:31", after := #[{ on := 6, ground := Ground.data }], guard := none }) rfl rfl 23 1 [(0, .tmp 25)] rfl [(0, .agg (encC c).toArray)] rfl _ _ (bs23one Z3 c) AllReadyH.nil ⟨CZ3.out.alloc _, fun hHeld => ?_⟩
        clear hHeld
        simp only [Act.put, List.setIfInBounds_toArray, List.set_cons_zero, List.set_cons_succ]
        obtain ⟨gc, hgc⟩ : ∃ gg, gg = Z3.heap.size := ⟨_, rfl⟩
        rw [← hgc]
        generalize hZ : Z3.alloc _ = Z4
        have hb2 : Below Z3.heap.size Z3 Z4 := by rw [← hZ]; exact (Below.refl _ _).alloc (Nat.le_refl _) _
        have Rgc : Hid (Z4.heap[gc]? = some (.cells (encC c).toArray 42 (0, 0))) := by rw [← hZ, hgc]; exact heap_alloc_new _ _
        have Ggc := hide (show W2.heap.size ≤ gc by rw [hgc]; exact CZ3.out.size)
        clear hZ hgc
        replace Rga : Hid (Z4.heap[ga]? = some (.cells tk0 27 (0, 0))) := (hb2.block _ (block_lt_of_row Rga.out)).trans Rga.out
        replace CR1 : Hid (CRow w.heap.size Z4 (.slice vo n vc) t.cs) := CR1.out.below hb2
        have CZ4 : Hid (Chg (fun _ => False) W2 Z4) := CZ3.out.then hb2
        clear hb2 CZ3
        have hHeld := CZ4.out
        refine wpAnyH_ready (rs := [8]) (by kernel_rfl) (by simp) ?_
        obtain ⟨v', Z5, hst, hR6, C6⟩ := Rw.append kdC 23 (u := .slice (some ⟨gc, 0, none⟩) 1 1) (ys := [c]) CR1.out (Sce.of_row Rgc.out) (fun y _ => encC_length y) (by have := HN.out; have := N4.out; simp; omega) (Nat.le_trans BB.out.size CZ4.out.size)
        obtain ⟨uo, uc, rfl⟩ := hR6.form
        obtain ⟨un, hun⟩ : ∃ un, un = (t.cs ++ [c]).length := ⟨_, rfl⟩
        rw [← hun] at hR6 hst
        clear hun
        refine step_append_as (o := { dst := some 27, op := Op.call { callee := Callee.builtin Builtin.append, args := #[Operand.tmp 24, Operand.tmp 26], argTypes := #[23, 23] }, type := 23, pos := "ref.go:31", after := #[{ on := 5, ground := Ground.data }, { on := 7, ground := Ground.data }, { on := 5, ground := Ground.chain }], guard := none }) rfl rfl (.tmp 24) (.tmp 26) 23 23 rfl (.slice vo n vc) (.slice (some ⟨gc, 0, none⟩) 1 1) rfl rfl (.slice uo un uc) Z5 hst AllReadyH.nil ⟨CZ4.out.trans C6 (fun k hk e => by have h2 := CR1b.out k e; omega), fun hHeld => ?_⟩
        replace Rga : Hid (Z5.heap[ga]? = some (.cells tk0 27 (0, 0))) := C6.row Rga.out (fun e => CR1.out.apart Rga.out (by decide) e)
        have CZ5 : Hid (Chg (fun _ => False) W2 Z5) := CZ4.out.trans C6 (fun k hk e => by have h2 := CR1b.out k e; omega)
        have CR2 : Hid (CRow w.heap.size Z5 (.slice uo un uc) (t.cs ++ [c])) := hR6
        clear hst hR6 C6 CZ4 Rgc CR1 hHeld
        have hHeld := CZ5.out
        simp only [Act.put, List.setIfInBounds_toArray, List.set_cons_zero, List.set_cons_succ]
        refine wpAnyH_ready (rs := [9]) (by kernel_rfl) (by simp) ?_
        refine step_build_as (o := { dst := some 28, op := Op.build 27 #[(0, Operand.tmp 20), (1, Operand.tmp 27)], type := 27, pos := "ref.go:31", after := #[{ on := 1, ground := Ground.data }, { on := 8, ground := Ground.data }], guard := none }) rfl rfl 27 [(0, .tmp 20), (1, .tmp 27)] rfl [(0, .int .u32 (t.id : Int)), (1, .slice uo un uc)] rfl (.agg (encT t.id (.slice uo un uc) (S.zeros 32)).toArray) (build27i t.id uo un uc Z5) AllReadyH.nil ⟨CZ5.out, fun hHeld => ?_⟩
        simp only [Act.put, List.setIfInBounds_toArray, List.set_cons_zero, List.set_cons_succ]
        refine wpAnyH_ready (rs := [11]) (by kernel_rfl) (by simp) ?_
        obtain ⟨Z6, hst, r6, C6, s6⟩ := store_t (id := t.id) (ao := uo) (n := un) (m := uc) (tag := S.zeros 32) Rga.out tk0_size (S.zeros_length 32)
        refine step_store_as (o := { dst := none, op := Op.store 27 (Operand.tmp 8) (Operand.tmp 28), type := 0, pos := "ref.go:31", after := #[{ on := 10, ground := Ground.data }, { on := 9, ground := Ground.data }, { on := 8, ground := Ground.chain }, { on := 0, ground := Ground.phase }, { on := 1, ground := Ground.phase }, { on := 2, ground := Ground.phase }, { on := 3, ground := Ground.phase }, { on := 4, ground := Ground.phase }, { on := 5, ground := Ground.phase }, { on := 6, ground := Ground.phase }, { on := 7, ground := Ground.phase }, { on := 8, ground := Ground.phase }, { on := 9, ground := Ground.phase }, { on := 10, ground := Ground.phase }], guard := none }) rfl rfl 27 (.tmp 8) (.tmp 28) rfl _ _ rfl rfl Z6 hst AllReadyH.nil ⟨CZ5.out.trans C6 (fun k hk e => by have := Gga.out; omega), fun hHeld => ?_⟩
        have CZ6 : Hid (Chg (fun _ => False) W2 Z6) := CZ5.out.trans C6 (fun k hk e => by have := Gga.out; omega)
        replace CR2 : Hid (CRow w.heap.size Z6 (.slice uo un uc) (t.cs ++ [c])) := CR2.out.chg C6 (fun j e e2 => CR2.out.apart Rga.out (by decide) (e2 ▸ e))
        replace Rga : Hid (Z6.heap[ga]? = some (.cells (encT t.id (.slice uo un uc) (S.zeros 32)).toArray 27 (0, 0))) := r6
        clear hst r6 C6 s6 CZ5
        simp only [Act.put]
        refine wpAnyH_done (by kernel_rfl) ?_ _
        refine NoPanic.normal ?_
        clear hHeld
        try go_wp2_with fail
        go_meet
        exact ⟨ga, uo, un, uc, rfl, Rga, CR2, (by show w.heap.size + 2 < ga; have := Gga.out; have := L2.out; omega), CZ6⟩
      refine step_buildSlice_as (o := { dst := some 26, op := Op.buildSlice 23 1 #[(0, Operand.tmp 25)], type := 23, pos := "ref.go:31", after := #[{ on := 6, ground := Ground.data }], guard := none }) rfl rfl 23 1 [(0, .tmp 25)] rfl [(0, .agg (encC c).toArray)] rfl _ _ (bs23one Z2 c) AllReadyH.nil ⟨CZ2.out.alloc _, fun hHeld => ?_⟩
      clear hHeld
      simp only [Act.put, List.setIfInBounds_toArray, List.set_cons_zero, List.set_cons_succ]
      obtain ⟨gc, hgc⟩ : ∃ gg, gg = Z2.heap.size := ⟨_, rfl⟩
      rw [← hgc]
      generalize hZ : Z2.alloc _ = Z3
      have hb2 : Below Z2.heap.size Z2 Z3 := by rw [← hZ]; exact (Below.refl _ _).alloc (Nat.le_refl _) _
      have Rgc : Hid (Z3.heap[gc]? = some (.cells (encC c).toArray 42 (0, 0))) := by rw [← hZ, hgc]; exact heap_alloc_new _ _
      have Ggc := hide (show W2.heap.size ≤ gc by rw [hgc]; exact CZ2.out.size)
      clear hZ hgc
      replace Rge : Hid (Z3.heap[ge]? = some (.cells #[] 42 (0, 0))) := (hb2.block _ (block_lt_of_row Rge.out)).trans Rge.out
      replace Rga : Hid (Z3.heap[ga]? = some (.cells tk0 27 (0, 0))) := (hb2.block _ (block_lt_of_row Rga.out)).trans Rga.out
      have CZ3 : Hid (Chg (fun _ => False) W2 Z3) := CZ2.out.then hb2
      clear hb2 CZ2
      have hHeld := CZ3.out
      refine wpAnyH_ready (rs := [5]) (by kernel_rfl) (by simp) ?_
      obtain ⟨v', Z4, hst, hR6, C6⟩ := Rw.append kdC 23 (B := W2.heap.size) (Rw.empty Rge.out Gge.out) (CV.out.below (CZ3.out.below _ (Nat.le_refl _) (fun _ _ e => e))).src (fun y _ => encC_length y) (by have := HN.out; have := N4.out; simp; omega) CZ3.out.size
      rw [List.nil_append] at hR6
      obtain ⟨vo, vc, rfl⟩ := hR6.form
      rw [← HN.out] at hR6 hst
      have hOB : ∀ k, (Value.slice vo n vc).ownBlock = some k → W2.heap.size ≤ k := fun k hk => (hR6.blk hk).1
      replace hR6 : CRow w.heap.size _ _ _ := hR6.mono BB.out.size
      refine step_append_as (o := { dst := some 24, op := Op.call { callee := Callee.builtin Builtin.append, args := #[Operand.tmp 21, Operand.tmp 23], argTypes := #[23, 23] }, type := 23, pos := "ref.go:31", after := #[{ on := 2, ground := Ground.data }, { on := 4, ground := Ground.data }], guard := none }) rfl rfl (.tmp 21) (.tmp 23) 23 23 rfl (.slice (some ⟨ge, 0, none⟩) 0 0) (.slice ao n cap) rfl rfl (.slice vo n vc) Z4 hst AllReadyH.nil ⟨CZ3.out.trans C6 (fun k hk e => by have := Gge.out; have := Option.some.inj e; simp only at this; omega), fun hHeld => ?_⟩
      replace Rga : Hid (Z4.heap[ga]? = some (.cells tk0 27 (0, 0))) := C6.row Rga.out (fun e => ne_rows Rge.out Rga.out (by rw [tk0_size]; simp) (Option.some.inj e))
      replace Rgc : Hid (Z4.heap[gc]? = some (.cells (encC c).toArray 42 (0, 0))) := C6.row Rgc.out (fun e => ne_rows Rge.out Rgc.out (by simp [encC]) (Option.some.inj e))
      have CZ4 : Hid (Chg (fun _ => False) W2 Z4) := CZ3.out.trans C6 (fun k hk e => by have := Gge.out; have := Option.some.inj e; simp only at this; omega)
      have CR1 : Hid (CRow w.heap.size Z4 (.slice vo n vc) t.cs) := hR6
      have CR1b : Hid (∀ k, (Value.slice vo n vc).ownBlock = some k → W2.heap.size ≤ k) := hOB
      clear hst hR6 C6 CZ3 Rge hHeld
      have hHeld := CZ4.out
      simp only [Act.put, List.setIfInBounds_toArray, List.set_cons_zero, List.set_cons_succ]
      refine wpAnyH_ready (rs := [8]) (by kernel_rfl) (by simp) ?_
      obtain ⟨v', Z5, hst, hR6, C6⟩ := Rw.append kdC 23 (u := .slice (some ⟨gc, 0, none⟩) 1 1) (ys := [c]) CR1.out (Sce.of_row Rgc.out) (fun y _ => encC_length y) (by have := HN.out; have := N4.out; simp; omega) (Nat.le_trans BB.out.size CZ4.out.size)
      obtain ⟨uo, uc, rfl⟩ := hR6.form
      obtain ⟨un, hun⟩ : ∃ un, un = (t.cs ++ [c]).length := ⟨_, rfl⟩
      rw [← hun] at hR6 hst
      clear hun
      refine step_append_as (o := { dst := some 27, op := Op.call { callee := Callee.builtin Builtin.append, args := #[Operand.tmp 24, Operand.tmp 26], argTypes := #[23, 23] }, type := 23, pos := "ref.go:31", after := #[{ on := 5, ground := Ground.data }, { on := 7, ground := Ground.data }, { on := 5, ground := Ground.chain }], guard := none }) rfl rfl (.tmp 24) (.tmp 26) 23 23 rfl (.slice vo n vc) (.slice (some ⟨gc, 0, none⟩) 1 1) rfl rfl (.slice uo un uc) Z5 hst AllReadyH.nil ⟨CZ4.out.trans C6 (fun k hk e => by have h2 := CR1b.out k e; omega), fun hHeld => ?_⟩
      replace Rga : Hid (Z5.heap[ga]? = some (.cells tk0 27 (0, 0))) := C6.row Rga.out (fun e => CR1.out.apart Rga.out (by decide) e)
      have CZ5 : Hid (Chg (fun _ => False) W2 Z5) := CZ4.out.trans C6 (fun k hk e => by have h2 := CR1b.out k e; omega)
      have CR2 : Hid (CRow w.heap.size Z5 (.slice uo un uc) (t.cs ++ [c])) := hR6
      clear hst hR6 C6 CZ4 Rgc CR1 hHeld
      have hHeld := CZ5.out
      simp only [Act.put, List.setIfInBounds_toArray, List.set_cons_zero, List.set_cons_succ]
      refine wpAnyH_ready (rs := [9]) (by kernel_rfl) (by simp) ?_
      refine step_build_as (o := { dst := some 28, op := Op.build 27 #[(0, Operand.tmp 20), (1, Operand.tmp 27)], type := 27, pos := "ref.go:31", after := #[{ on := 1, ground := Ground.data }, { on := 8, ground := Ground.data }], guard := none }) rfl rfl 27 [(0, .tmp 20), (1, .tmp 27)] rfl [(0, .int .u32 (t.id : Int)), (1, .slice uo un uc)] rfl (.agg (encT t.id (.slice uo un uc) (S.zeros 32)).toArray) (build27i t.id uo un uc Z5) AllReadyH.nil ⟨CZ5.out, fun hHeld => ?_⟩
      simp only [Act.put, List.setIfInBounds_toArray, List.set_cons_zero, List.set_cons_succ]
      refine wpAnyH_ready (rs := [11]) (by kernel_rfl) (by simp) ?_
      obtain ⟨Z6, hst, r6, C6, s6⟩ := store_t (id := t.id) (ao := uo) (n := un) (m := uc) (tag := S.zeros 32) Rga.out tk0_size (S.zeros_length 32)
      refine step_store_as (o := { dst := none, op := Op.store 27 (Operand.tmp 8) (Operand.tmp 28), type := 0, pos := "ref.go:31", after := #[{ on := 10, ground := Ground.data }, { on := 9, ground := Ground.data }, { on := 8, ground := Ground.chain }, { on := 0, ground := Ground.phase }, { on := 1, ground := Ground.phase }, { on := 2, ground := Ground.phase }, { on := 3, ground := Ground.phase }, { on := 4, ground := Ground.phase }, { on := 5, ground := Ground.phase }, { on := 6, ground := Ground.phase }, { on := 7, ground := Ground.phase }, { on := 8, ground := Ground.phase }, { on := 9, ground := Ground.phase }, { on := 10, ground := Ground.phase }], guard := none }) rfl rfl 27 (.tmp 8) (.tmp 28) rfl _ _ rfl rfl Z6 hst AllReadyH.nil ⟨CZ5.out.trans C6 (fun k hk e => by have := Gga.out; omega), fun hHeld => ?_⟩
      have CZ6 : Hid (Chg (fun _ => False) W2 Z6) := CZ5.out.trans C6 (fun k hk e => by have := Gga.out; omega)
      replace CR2 : Hid (CRow w.heap.size Z6 (.slice uo un uc) (t.cs ++ [c])) := CR2.out.chg C6 (fun j e e2 => CR2.out.apart Rga.out (by decide) (e2 ▸ e))
      replace Rga : Hid (Z6.heap[ga]? = some (.cells (encT t.id (.slice uo un uc) (S.zeros 32)).toArray 27 (0, 0))) := r6
      clear hst r6 C6 s6 CZ5
      simp only [Act.put]
      refine wpAnyH_done (by kernel_rfl) ?_ _
      refine NoPanic.normal ?_
      clear hHeld
      try go_wp2_with fail
      go_meet
      exact ⟨ga, uo, un, uc, rfl, Rga, CR2, (by show w.heap.size + 2 < ga; have := Gga.out; have := L2.out; omega), CZ6⟩
    refine step_buildSlice_as (o := { dst := some 26, op := Op.buildSlice 23 1 #[(0, Operand.tmp 25)], type := 23, pos := "ref.go:31", after := #[{ on := 6, ground := Ground.data }], guard := none }) rfl rfl 23 1 [(0, .tmp 25)] rfl [(0, .agg (encC c).toArray)] rfl _ _ (bs23one Z0 c) ?_ ⟨CZ0.out.alloc _, fun hHeld => ?_⟩
    rotate_left
    · skip
      clear hHeld
      simp only [Act.put, List.setIfInBounds_toArray, List.set_cons_zero, List.set_cons_succ]
      obtain ⟨gc, hgc⟩ : ∃ gg, gg = Z0.heap.size := ⟨_, rfl⟩
      rw [← hgc]
      generalize hZ : Z0.alloc _ = Z1
      have hb2 : Below Z0.heap.size Z0 Z1 := by rw [← hZ]; exact (Below.refl _ _).alloc (Nat.le_refl _) _
      have Rgc : Hid (Z1.heap[gc]? = some (.cells (encC c).toArray 42 (0, 0))) := by rw [← hZ, hgc]; exact heap_alloc_new _ _
      have Ggc := hide (show W2.heap.size ≤ gc by rw [hgc]; exact CZ0.out.size)
      clear hZ hgc
      have CZ1 : Hid (Chg (fun _ => False) W2 Z1) := CZ0.out.then hb2
      clear hb2 CZ0
      have hHeld := CZ1.out
      refine wpAnyH_ready (rs := [2, 10]) (by kernel_rfl) (by simp) ?_
      refine step_buildSlice_as (o := { dst := some 21, op := Op.buildSlice 23 0 #[], type := 23, pos := "ref.go:31", after := #[], guard := none }) rfl rfl 23 0 [] rfl [] rfl _ _ (bs23zero Z1) ?_ ⟨CZ1.out.alloc _, fun hHeld => ?_⟩
      rotate_left
      · skip
        clear hHeld
        simp only [Act.put, List.setIfInBounds_toArray, List.set_cons_zero, List.set_cons_succ]
        obtain ⟨ge, hge⟩ : ∃ gg, gg = Z1.heap.size := ⟨_, rfl⟩
        rw [← hge]
        generalize hZ : Z1.alloc _ = Z2
        have hb2 : Below Z1.heap.size Z1 Z2 := by rw [← hZ]; exact (Below.refl _ _).alloc (Nat.le_refl _) _
        have Rge : Hid (Z2.heap[ge]? = some (.cells #[] 42 (0, 0))) := by rw [← hZ, hge]; exact heap_alloc_new _ _
        have Gge := hide (show W2.heap.size ≤ ge by rw [hge]; exact CZ1.out.size)
        clear hZ hge
        replace Rgc : Hid (Z2.heap[gc]? = some (.cells (encC c).toArray 42 (0, 0))) := (hb2.block _ (block_lt_of_row Rgc.out)).trans Rgc.out
        have CZ2 : Hid (Chg (fun _ => False) W2 Z2) := CZ1.out.then hb2
        clear hb2 CZ1
        have hHeld := CZ2.out
        refine wpAnyH_ready (rs := [5, 10]) (by kernel_rfl) (by simp) ?_
        obtain ⟨v', Z3, hst, hR6, C6⟩ := Rw.append kdC 23 (B := W2.heap.size) (Rw.empty Rge.out Gge.out) (CV.out.below (CZ2.out.below _ (Nat.le_refl _) (fun _ _ e => e))).src (fun y _ => encC_length y) (by have := HN.out; have := N4.out; simp; omega) CZ2.out.size
        rw [List.nil_append] at hR6
        obtain ⟨vo, vc, rfl⟩ := hR6.form
        rw [← HN.out] at hR6 hst
        have hOB : ∀ k, (Value.slice vo n vc).ownBlock = some k → W2.heap.size ≤ k := fun k hk => (hR6.blk hk).1
        replace hR6 : CRow w.heap.size _ _ _ := hR6.mono BB.out.size
        refine step_append_as (o := { dst := some 24, op := Op.call { callee := Callee.builtin Builtin.append, args := #[Operand.tmp 21, Operand.tmp 23], argTypes := #[23, 23] }, type := 23, pos := "ref.go:31", after := #[{ on := 2, ground := Ground.data }, { on := 4, ground := Ground.data }], guard := none }) rfl rfl (.tmp 21) (.tmp 23) 23 23 rfl (.slice (some ⟨ge, 0, none⟩) 0 0) (.slice ao n cap) rfl rfl (.slice vo n vc) Z3 hst ?_ ⟨CZ2.out.trans C6 (fun k hk e => by have := Gge.out; have := Option.some.inj e; simp only at this; omega), fun hHeld => ?_⟩
        rotate_left
        · skip
          replace Rgc : Hid (Z3.heap[gc]? = some (.cells (encC c).toArray 42 (0, 0))) := C6.row Rgc.out (fun e => ne_rows Rge.out Rgc.out (by simp [encC]) (Option.some.inj e))
          have CZ3 : Hid (Chg (fun _ => False) W2 Z3) := CZ2.out.trans C6 (fun k hk e => by have := Gge.out; have := Option.some.inj e; simp only at this; omega)
          have CR1 : Hid (CRow w.heap.size Z3 (.slice vo n vc) t.cs) := hR6
          have CR1b : Hid (∀ k, (Value.slice vo n vc).ownBlock = some k → W2.heap.size ≤ k) := hOB
          clear hst hR6 C6 CZ2 Rge hHeld
          have hHeld := CZ3.out
          simp only [Act.put, List.setIfInBounds_toArray, List.set_cons_zero, List.set_cons_succ]
          refine wpAnyH_ready (rs := [8, 10]) (by kernel_rfl) (by simp) ?_
          obtain ⟨v', Z4, hst, hR6, C6⟩ := Rw.append kdC 23 (u := .slice (some ⟨gc, 0, none⟩) 1 1) (ys := [c]) CR1.out (Sce.of_row Rgc.out) (fun y _ => encC_length y) (by have := HN.out; have := N4.out; simp; omega) (Nat.le_trans BB.out.size CZ3.out.size)
          obtain ⟨uo, uc, rfl⟩ := hR6.form
          obtain ⟨un, hun⟩ : ∃ un, un = (t.cs ++ [c]).length := ⟨_, rfl⟩
          rw [← hun] at hR6 hst
          clear hun
          refine step_append_as (o := { dst := some 27, op := Op.call { callee := Callee.builtin Builtin.append, args := #[Operand.tmp 24, Operand.tmp 26], argTypes := #[23, 23] }, type := 23, pos := "ref.go:31", after := #[{ on := 5, ground := Ground.data }, { on := 7, ground := Ground.data }, { on := 5, ground := Ground.chain }], guard := none }) rfl rfl (.tmp 24) (.tmp 26) 23 23 rfl (.slice vo n vc) (.slice (some ⟨gc, 0, none⟩) 1 1) rfl rfl (.slice uo un uc) Z4 hst ?_ ⟨CZ3.out.trans C6 (fun k hk e => by have h2 := CR1b.out k e; omega), fun hHeld => ?_⟩
          rotate_left
          · skip
            have CZ4 : Hid (Chg (fun _ => False) W2 Z4) := CZ3.out.trans C6 (fun k hk e => by have h2 := CR1b.out k e; omega)
            have CR2 : Hid (CRow w.heap.size Z4 (.slice uo un uc) (t.cs ++ [c])) := hR6
            clear hst hR6 C6 CZ3 Rgc CR1 hHeld
            have hHeld := CZ4.out
            simp only [Act.put, List.setIfInBounds_toArray, List.set_cons_zero, List.set_cons_succ]
            refine wpAnyH_ready (rs := [9, 10]) (by kernel_rfl) (by simp) ?_
            refine step_build_as (o := { dst := some 28, op := Op.build 27 #[(0, Operand.tmp 20), (1, Operand.tmp 27)], type := 27, pos := "ref.go:31", after := #[{ on := 1, ground := Ground.data }, { on := 8, ground := Ground.data }], guard := none }) rfl rfl 27 [(0, .tmp 20), (1, .tmp 27)] rfl [(0, .int .u32 (t.id : Int)), (1, .slice uo un uc)] rfl (.agg (encT t.id (.slice uo un uc) (S.zeros 32)).toArray) (build27i t.id uo un uc Z4) ?_ ⟨CZ4.out, fun hHeld => ?_⟩
            rotate_left
            · skip
              simp only [Act.put, List.setIfInBounds_toArray, List.set_cons_zero, List.set_cons_succ]
              refine wpAnyH_ready (rs := [10]) (by kernel_rfl) (by simp) ?_
              refine step_alloc_as (o := { dst := some 8, op := Op.alloc 27, type := 0, pos := "ref.go:31", after := #[], guard := none }) rfl rfl 27 rfl _ _ (alloc27 Z4) AllReadyH.nil ⟨CZ4.out.alloc _, fun hHeld => ?_⟩
              clear hHeld
              simp only [Act.put, List.setIfInBounds_toArray, List.set_cons_zero, List.set_cons_succ]
              obtain ⟨ga, hga⟩ : ∃ gg, gg = Z4.heap.size := ⟨_, rfl⟩
              rw [← hga]
              generalize hZ : Z4.alloc _ = Z5
              have hb2 : Below Z4.heap.size Z4 Z5 := by rw [← hZ]; exact (Below.refl _ _).alloc (Nat.le_refl _) _
              have Rga : Hid (Z5.heap[ga]? = some (.cells tk0 27 (0, 0))) := by rw [← hZ, hga]; exact heap_alloc_new _ _
              have Gga := hide (show W2.heap.size ≤ ga by rw [hga]; exact CZ4.out.size)
              clear hZ hga
              replace CR2 : Hid (CRow w.heap.size Z5 (.slice uo un uc) (t.cs ++ [c])) := CR2.out.below hb2
              have CZ5 : Hid (Chg (fun _ => False) W2 Z5) := CZ4.out.then hb2
              clear hb2 CZ4
              have hHeld := CZ5.out
              refine wpAnyH_ready (rs := [11]) (by kernel_rfl) (by simp) ?_
              obtain ⟨Z6, hst, r6, C6, s6⟩ := store_t (id := t.id) (ao := uo) (n := un) (m := uc) (tag := S.zeros 32) Rga.out tk0_size (S.zeros_length 32)
              refine step_store_as (o := { dst := none, op := Op.store 27 (Operand.tmp 8) (Operand.tmp 28), type := 0, pos := "ref.go:31", after := #[{ on := 10, ground := Ground.data }, { on := 9, ground := Ground.data }, { on := 8, ground := Ground.chain }, { on := 0, ground := Ground.phase }, { on := 1, ground := Ground.phase }, { on := 2, ground := Ground.phase }, { on := 3, ground := Ground.phase }, { on := 4, ground := Ground.phase }, { on := 5, ground := Ground.phase }, { on := 6, ground := Ground.phase }, { on := 7, ground := Ground.phase }, { on := 8, ground := Ground.phase }, { on := 9, ground := Ground.phase }, { on := 10, ground := Ground.phase }], guard := none }) rfl rfl 27 (.tmp 8) (.tmp 28) rfl _ _ rfl rfl Z6 hst AllReadyH.nil ⟨CZ5.out.trans C6 (fun k hk e => by have := Gga.out; omega), fun hHeld => ?_⟩
              have CZ6 : Hid (Chg (fun _ => False) W2 Z6) := CZ5.out.trans C6 (fun k hk e => by have := Gga.out; omega)
              replace CR2 : Hid (CRow w.heap.size Z6 (.slice uo un uc) (t.cs ++ [c])) := CR2.out.chg C6 (fun j e e2 => CR2.out.apart Rga.out (by decide) (e2 ▸ e))
              replace Rga : Hid (Z6.heap[ga]? = some (.cells (encT t.id (.slice uo un uc) (S.zeros 32)).toArray 27 (0, 0))) := r6
              clear hst r6 C6 s6 CZ5
              simp only [Act.put]
              refine wpAnyH_done (by kernel_rfl) ?_ _
              refine NoPanic.normal ?_
              clear hHeld
              try go_wp2_with fail
              go_meet
              exact ⟨ga, uo, un, uc, rfl, Rga, CR2, (by show w.heap.size + 2 < ga; have := Gga.out; have := L2.out; omega), CZ6⟩
            refine step_alloc_as (o := { dst := some 8, op := Op.alloc 27, type := 0, pos := "ref.go:31", after := #[], guard := none }) rfl rfl 27 rfl _ _ (alloc27 Z4) AllReadyH.nil ⟨CZ4.out.alloc _, fun hHeld => ?_⟩
            clear hHeld
            simp only [Act.put, List.setIfInBounds_toArray, List.set_cons_zero, List.set_cons_succ]
            obtain ⟨ga, hga⟩ : ∃ gg, gg = Z4.heap.size := ⟨_, rfl⟩
            rw [← hga]
            generalize hZ : Z4.alloc _ = Z5
            have hb2 : Below Z4.heap.size Z4 Z5 := by rw [← hZ]; exact (Below.refl _ _).alloc (Nat.le_refl _) _
            have Rga : Hid (Z5.heap[ga]? = some (.cells tk0 27 (0, 0))) := by rw [← hZ, hga]; exact heap_alloc_new _ _
            have Gga := hide (show W2.heap.size ≤ ga by rw [hga]; exact CZ4.out.size)
            clear hZ hga
            replace CR2 : Hid (CRow w.heap.size Z5 (.slice uo un uc) (t.cs ++ [c])) := CR2.out.below hb2
            have CZ5 : Hid (Chg (fun _ => False) W2 Z5) := CZ4.out.then hb2
            clear hb2 CZ4
            have hHeld := CZ5.out
            refine wpAnyH_ready (rs := [9]) (by kernel_rfl) (by simp) ?_
            refine step_build_as (o := { dst := some 28, op := Op.build 27 #[(0, Operand.tmp 20), (1, Operand.tmp 27)], type := 27, pos := "ref.go:31", after := #[{ on := 1, ground := Ground.data }, { on := 8, ground := Ground.data }], guard := none }) rfl rfl 27 [(0, .tmp 20), (1, .tmp 27)] rfl [(0, .int .u32 (t.id : Int)), (1, .slice uo un uc)] rfl (.agg (encT t.id (.slice uo un uc) (S.zeros 32)).toArray) (build27i t.id uo un uc Z5) AllReadyH.nil ⟨CZ5.out, fun hHeld => ?_⟩
            simp only [Act.put, List.setIfInBounds_toArray, List.set_cons_zero, List.set_cons_succ]
            refine wpAnyH_ready (rs := [11]) (by kernel_rfl) (by simp) ?_
            obtain ⟨Z6, hst, r6, C6, s6⟩ := store_t (id := t.id) (ao := uo) (n := un) (m := uc) (tag := S.zeros 32) Rga.out tk0_size (S.zeros_length 32)
            refine step_store_as (o := { dst := none, op := Op.store 27 (Operand.tmp 8) (Operand.tmp 28), type := 0, pos := "ref.go:31", after := #[{ on := 10, ground := Ground.data }, { on := 9, ground := Ground.data }, { on := 8, ground := Ground.chain }, { on := 0, ground := Ground.phase }, { on := 1, ground := Ground.phase }, { on := 2, ground := Ground.phase }, { on := 3, ground := Ground.phase }, { on := 4, ground := Ground.phase }, { on := 5, ground := Ground.phase }, { on := 6, ground := Ground.phase }, { on := 7, ground := Ground.phase }, { on := 8, ground := Ground.phase }, { on := 9, ground := Ground.phase }, { on := 10, ground := Ground.phase }], guard := none }) rfl rfl 27 (.tmp 8) (.tmp 28) rfl _ _ rfl rfl Z6 hst AllReadyH.nil ⟨CZ5.out.trans C6 (fun k hk e => by have := Gga.out; omega), fun hHeld => ?_⟩
            have CZ6 : Hid (Chg (fun _ => False) W2 Z6) := CZ5.out.trans C6 (fun k hk e => by have := Gga.out; omega)
            replace CR2 : Hid (CRow w.heap.size Z6 (.slice uo un uc) (t.cs ++ [c])) := CR2.out.chg C6 (fun j e e2 => CR2.out.apart Rga.out (by decide) (e2 ▸ e))
            replace Rga : Hid (Z6.heap[ga]? = some (.cells (encT t.id (.slice uo un uc) (S.zeros 32)).toArray 27 (0, 0))) := r6
            clear hst r6 C6 s6 CZ5
            simp only [Act.put]
            refine wpAnyH_done (by kernel_rfl) ?_ _
            refine NoPanic.normal ?_
            clear hHeld
            try go_wp2_with fail
            go_meet
            exact ⟨ga, uo, un, uc, rfl, Rga, CR2, (by show w.heap.size + 2 < ga; have := Gga.out; have := L2.out; omega), CZ6⟩
          refine step_alloc_as (o := { dst := some 8, op := Op.alloc 27, type := 0, pos := "ref.go:31", after := #[], guard := none }) rfl rfl 27 rfl _ _ (alloc27 Z3) AllReadyH.nil ⟨CZ3.out.alloc _, fun hHeld => ?_⟩
          clear hHeld
          simp only [Act.put, List.setIfInBounds_toArray, List.set_cons_zero, List.set_cons_succ]
          obtain ⟨ga, hga⟩ : ∃ gg, gg = Z3.heap.size := ⟨_, rfl⟩
          rw [← hga]
          generalize hZ : Z3.alloc _ = Z4
          have hb2 : Below Z3.heap.size Z3 Z4 := by rw [← hZ]; exact (Below.refl _ _).alloc (Nat.le_refl _) _
          have Rga : Hid (Z4.heap[ga]? = some (.cells tk0 27 (0, 0))) := by rw [← hZ, hga]; exact heap_alloc_new _ _
          have Gga := hide (show W2.heap.size ≤ ga by rw [hga]; exact CZ3.out.size)
          clear hZ hga
          replace Rgc : Hid (Z4.heap[gc]? = some (.cells (encC c).toArray 42 (0, 0))) := (hb2.block _ (block_lt_of_row Rgc.out)).trans Rgc.out
          replace CR1 : Hid (CRow w.heap.size Z4 (.slice vo n vc) t.cs) := CR1.out.below hb2
          have CZ4 : Hid (Chg (fun _ => False) W2 Z4) := CZ3.out.then hb2
          clear hb2 CZ3
          have hHeld := CZ4.out
          refine wpAnyH_ready (rs := [8]) (by kernel_rfl) (by simp) ?_
          obtain ⟨v', Z5, hst, hR6, C6⟩ := Rw.append kdC 23 (u := .slice (some ⟨gc, 0, none⟩) 1 1) (ys := [c]) CR1.out (Sce.of_row Rgc.out) (fun y _ => encC_length y) (by have := HN.out; have := N4.out; simp; omega) (Nat.le_trans BB.out.size CZ4.out.size)
          obtain ⟨uo, uc, rfl⟩ := hR6.form
          obtain ⟨un, hun⟩ : ∃ un, un = (t.cs ++ [c]).length := ⟨_, rfl⟩
          rw [← hun] at hR6 hst
          clear hun
          refine step_append_as (o := { dst := some 27, op := Op.call { callee := Callee.builtin Builtin.append, args := #[Operand.tmp 24, Operand.tmp 26], argTypes := #[23, 23] }, type := 23, pos := "ref.go:31", after := #[{ on := 5, ground := Ground.data }, { on := 7, ground := Ground.data }, { on := 5, ground := Ground.chain }], guard := none }) rfl rfl (.tmp 24) (.tmp 26) 23 23 rfl (.slice vo n vc) (.slice (some ⟨gc, 0, none⟩) 1 1) rfl rfl (.slice uo un uc) Z5 hst AllReadyH.nil ⟨CZ4.out.trans C6 (fun k hk e => by have h2 := CR1b.out k e; omega), fun hHeld => ?_⟩
          replace Rga : Hid (Z5.heap[ga]? = some (.cells tk0 27 (0, 0))) := C6.row Rga.out (fun e => CR1.out.apart Rga.out (by decide) e)
          have CZ5 : Hid (Chg (fun _ => False) W2 Z5) := CZ4.out.trans C6 (fun k hk e => by have h2 := CR1b.out k e; omega)
          have CR2 : Hid (CRow w.heap.size Z5 (.slice uo un uc) (t.cs ++ [c])) := hR6
          clear hst hR6 C6 CZ4 Rgc CR1 hHeld
          have hHeld := CZ5.out
          simp only [Act.put, List.setIfInBounds_toArray, List.set_cons_zero, List.set_cons_succ]
          refine wpAnyH_ready (rs := [9]) (by kernel_rfl) (by simp) ?_
          refine step_build_as (o := { dst := some 28, op := Op.build 27 #[(0, Operand.tmp 20), (1, Operand.tmp 27)], type := 27, pos := "ref.go:31", after := #[{ on := 1, ground := Ground.data }, { on := 8, ground := Ground.data }], guard := none }) rfl rfl 27 [(0, .tmp 20), (1, .tmp 27)] rfl [(0, .int .u32 (t.id : Int)), (1, .slice uo un uc)] rfl (.agg (encT t.id (.slice uo un uc) (S.zeros 32)).toArray) (build27i t.id uo un uc Z5) AllReadyH.nil ⟨CZ5.out, fun hHeld => ?_⟩
          simp only [Act.put, List.setIfInBounds_toArray, List.set_cons_zero, List.set_cons_succ]
          refine wpAnyH_ready (rs := [11]) (by kernel_rfl) (by simp) ?_
          obtain ⟨Z6, hst, r6, C6, s6⟩ := store_t (id := t.id) (ao := uo) (n := un) (m := uc) (tag := S.zeros 32) Rga.out tk0_size (S.zeros_length 32)
          refine step_store_as (o := { dst := none, op := Op.store 27 (Operand.tmp 8) (Operand.tmp 28), type := 0, pos := "ref.go:31", after := #[{ on := 10, ground := Ground.data }, { on := 9, ground := Ground.data }, { on := 8, ground := Ground.chain }, { on := 0, ground := Ground.phase }, { on := 1, ground := Ground.phase }, { on := 2, ground := Ground.phase }, { on := 3, ground := Ground.phase }, { on := 4, ground := Ground.phase }, { on := 5, ground := Ground.phase }, { on := 6, ground := Ground.phase }, { on := 7, ground := Ground.phase }, { on := 8, ground := Ground.phase }, { on := 9, ground := Ground.phase }, { on := 10, ground := Ground.phase }], guard := none }) rfl rfl 27 (.tmp 8) (.tmp 28) rfl _ _ rfl rfl Z6 hst AllReadyH.nil ⟨CZ5.out.trans C6 (fun k hk e => by have := Gga.out; omega), fun hHeld => ?_⟩
          have CZ6 : Hid (Chg (fun _ => False) W2 Z6) := CZ5.out.trans C6 (fun k hk e => by have := Gga.out; omega)
          replace CR2 : Hid (CRow w.heap.size Z6 (.slice uo un uc) (t.cs ++ [c])) := CR2.out.chg C6 (fun j e e2 => CR2.out.apart Rga.out (by decide) (e2 ▸ e))
          replace Rga : Hid (Z6.heap[ga]? = some (.cells (encT t.id (.slice uo un uc) (S.zeros 32)).toArray 27 (0, 0))) := r6
          clear hst r6 C6 s6 CZ5
          simp only [Act.put]
          refine wpAnyH_done (by kernel_rfl) ?_ _
          refine NoPanic.normal ?_
          clear hHeld
          try go_wp2_with fail
          go_meet
          exact ⟨ga, uo, un, uc, rfl, Rga, CR2, (by show w.heap.size + 2 < ga; have := Gga.out; have := L2.out; omega), CZ6⟩
        refine step_alloc_as (o := { dst := some 8, op := Op.alloc 27, type := 0, pos := "ref.go:31", after := #[], guard := none }) rfl rfl 27 rfl _ _ (alloc27 Z2) AllReadyH.nil ⟨CZ2.out.alloc _, fun hHeld => ?_⟩
        clear hHeld
        simp only [Act.put, List.setIfInBounds_toArray, List.set_cons_zero, List.set_cons_succ]
        obtain ⟨ga, hga⟩ : ∃ gg, gg = Z2.heap.size := ⟨_, rfl⟩
        rw [← hga]
        generalize hZ : Z2.alloc _ = Z3
        have hb2 : Below Z2.heap.size Z2 Z3 := by rw [← hZ]; exact (Below.refl _ _).alloc (Nat.le_refl _) _
        have Rga : Hid (Z3.heap[ga]? = some (.cells tk0 27 (0, 0))) := by rw [← hZ, hga]; exact heap_alloc_new _ _
        have Gga := hide (show W2.heap.size ≤ ga by rw [hga]; exact CZ2.out.size)
        clear hZ hga
        replace Rgc : Hid (Z3.heap[gc]? = some (.cells (encC c).toArray 42 (0, 0))) := (hb2.block _ (block_lt_of_row Rgc.out)).trans Rgc.out
        replace Rge : Hid (Z3.heap[ge]? = some (.cells #[] 42 (0, 0))) := (hb2.block _ (block_lt_of_row Rge.out)).trans Rge.out
        have CZ3 : Hid (Chg (fun _ => False) W2 Z3) := CZ2.out.then hb2
        clear hb2 CZ2
        have hHeld := CZ3.out
        refine wpAnyH_ready (rs := [5]) (by kernel_rfl) (by simp) ?_
        obtain ⟨v', Z4, hst, hR6, C6⟩ := Rw.append kdC 23 (B := W2.heap.size) (Rw.empty Rge.out Gge.out) (CV.out.below (CZ3.out.below _ (Nat.le_refl _) (fun _ _ e => e))).src (fun y _ => encC_length y) (by have := HN.out; have := N4.out; simp; omega) CZ3.out.size
        rw [List.nil_append] at hR6
        obtain ⟨vo, vc, rfl⟩ := hR6.form
        rw [← HN.out] at hR6 hst
        have hOB : ∀ k, (Value.slice vo n vc).ownBlock = some k → W2.heap.size ≤ k := fun k hk => (hR6.blk hk).1
        replace hR6 : CRow w.heap.size _ _ _ := hR6.mono BB.out.size
        refine step_append_as (o := { dst := some 24, op := Op.call { callee := Callee.builtin Builtin.append, args := #[Operand.tmp 21, Operand.tmp 23], argTypes := #[23, 23] }, type := 23, pos := "ref.go:31", after := #[{ on := 2, ground := Ground.data }, { on := 4, ground := Ground.data }], guard := none }) rfl rfl (.tmp 21) (.tmp 23) 23 23 rfl (.slice (some ⟨ge, 0, none⟩) 0 0) (.slice ao n cap) rfl rfl (.slice vo n vc) Z4 hst AllReadyH.nil ⟨CZ3.out.trans C6 (fun k hk e => by have := Gge.out; have := Option.some.inj e; simp only at this; omega), fun hHeld => ?_⟩
        replace Rgc : Hid (Z4.heap[gc]? = some (.cells (encC c).toArray 42 (0, 0))) := C6.row Rgc.out (fun e => ne_rows Rge.out Rgc.out (by simp [encC]) (Option.some.inj e))
        replace Rga : Hid (Z4.heap[ga]? = some (.cells tk0 27 (0, 0))) := C6.row Rga.out (fun e => ne_rows Rge.out Rga.out (by rw [tk0_size]; simp) (Option.some.inj e))
        have CZ4 : Hid (Chg (fun _ => False) W2 Z4) := CZ3.out.trans C6 (fun k hk e => by have := Gge.out; have := Option.some.inj e; simp only at this; omega)
        have CR1 : Hid (CRow w.heap.size Z4 (.slice vo n vc) t.cs) := hR6
        have CR1b : Hid (∀ k, (Value.slice vo n vc).ownBlock = some k → W2.heap.size ≤ k) := hOB
        clear hst hR6 C6 CZ3 Rge hHeld
        have hHeld := CZ4.out
        simp only [Act.put, List.setIfInBounds_toArray, List.set_cons_zero, List.set_cons_succ]
        refine wpAnyH_ready (rs := [8]) (by kernel_rfl) (by simp) ?_
        obtain ⟨v', Z5, hst, hR6, C6⟩ := Rw.append kdC 23 (u := .slice (some ⟨gc, 0, none⟩) 1 1) (ys := [c]) CR1.out (Sce.of_row Rgc.out) (fun y _ => encC_length y) (by have := HN.out; have := N4.out; simp; omega) (Nat.le_trans BB.out.size CZ4.out.size)
        obtain ⟨uo, uc, rfl⟩ := hR6.form
        obtain ⟨un, hun⟩ : ∃ un, un = (t.cs ++ [c]).length := ⟨_, rfl⟩
        rw [← hun] at hR6 hst
        clear hun
        refine step_append_as (o := { dst := some 27, op := Op.call { callee := Callee.builtin Builtin.append, args := #[Operand.tmp 24, Operand.tmp 26], argTypes := #[23, 23] }, type := 23, pos := "ref.go:31", after := #[{ on := 5, ground := Ground.data }, { on := 7, ground := Ground.data }, { on := 5, ground := Ground.chain }], guard := none }) rfl rfl (.tmp 24) (.tmp 26) 23 23 rfl (.slice vo n vc) (.slice (some ⟨gc, 0, none⟩) 1 1) rfl rfl (.slice uo un uc) Z5 hst AllReadyH.nil ⟨CZ4.out.trans C6 (fun k hk e => by have h2 := CR1b.out k e; omega), fun hHeld => ?_⟩
        replace Rga : Hid (Z5.heap[ga]? = some (.cells tk0 27 (0, 0))) := C6.row Rga.out (fun e => CR1.out.apart Rga.out (by decide) e)
        have CZ5 : Hid (Chg (fun _ => False) W2 Z5) := CZ4.out.trans C6 (fun k hk e => by have h2 := CR1b.out k e; omega)
        have CR2 : Hid (CRow w.heap.size Z5 (.slice uo un uc) (t.cs ++ [c])) := hR6
        clear hst hR6 C6 CZ4 Rgc CR1 hHeld
        have hHeld := CZ5.out
        simp only [Act.put, List.setIfInBounds_toArray, List.set_cons_zero, List.set_cons_succ]
        refine wpAnyH_ready (rs := [9]) (by kernel_rfl) (by simp) ?_
        refine step_build_as (o := { dst := some 28, op := Op.build 27 #[(0, Operand.tmp 20), (1, Operand.tmp 27)], type := 27, pos := "ref.go:31", after := #[{ on := 1, ground := Ground.data }, { on := 8, ground := Ground.data }], guard := none }) rfl rfl 27 [(0, .tmp 20), (1, .tmp 27)] rfl [(0, .int .u32 (t.id : Int)), (1, .slice uo un uc)] rfl (.agg (encT t.id (.slice uo un uc) (S.zeros 32)).toArray) (build27i t.id uo un uc Z5) AllReadyH.nil ⟨CZ5.out, fun hHeld => ?_⟩
        simp only [Act.put, List.setIfInBounds_toArray, List.set_cons_zero, List.set_cons_succ]
        refine wpAnyH_ready (rs := [11]) (by kernel_rfl) (by simp) ?_
        obtain ⟨Z6, hst, r6, C6, s6⟩ := store_t (id := t.id) (ao := uo) (n := un) (m := uc) (tag := S.zeros 32) Rga.out tk0_size (S.zeros_length 32)
        refine step_store_as (o := { dst := none, op := Op.store 27 (Operand.tmp 8) (Operand.tmp 28), type := 0, pos := "ref.go:31", after := #[{ on := 10, ground := Ground.data }, { on := 9, ground := Ground.data }, { on := 8, ground := Ground.chain }, { on := 0, ground := Ground.phase }, { on := 1, ground := Ground.phase }, { on := 2, ground := Ground.phase }, { on := 3, ground := Ground.phase }, { on := 4, ground := Ground.phase }, { on := 5, ground := Ground.phase }, { on := 6, ground := Ground.phase }, { on := 7, ground := Ground.phase }, { on := 8, ground := Ground.phase }, { on := 9, ground := Ground.phase }, { on := 10, ground := Ground.phase }], guard := none }) rfl rfl 27 (.tmp 8) (.tmp 28) rfl _ _ rfl rfl Z6 hst AllReadyH.nil ⟨CZ5.out.trans C6 (fun k hk e => by have := Gga.out; omega), fun hHeld => ?_⟩
        have CZ6 : Hid (Chg (fun _ => False) W2 Z6) := CZ5.out.trans C6 (fun k hk e => by have := Gga.out; omega)
        replace CR2 : Hid (CRow w.heap.size Z6 (.slice uo un uc) (t.cs ++ [c])) := CR2.out.chg C6 (fun j e e2 => CR2.out.apart Rga.out (by decide) (e2 ▸ e))
        replace Rga : Hid (Z6.heap[ga]? = some (.cells (encT t.id (.slice uo un uc) (S.zeros 32)).toArray 27 (0, 0))) := r6
        clear hst r6 C6 s6 CZ5
        simp only [Act.put]
        refine wpAnyH_done (by kernel_rfl) ?_ _
        refine NoPanic.normal ?_
        clear hHeld
        try go_wp2_with fail
        go_meet
        exact ⟨ga, uo, un, uc, rfl, Rga, CR2, (by show w.heap.size + 2 < ga; have := Gga.out; have := L2.out; omega), CZ6⟩
      refine step_alloc_as (o := { dst := some 8, op := Op.alloc 27, type := 0, pos := "ref.go:31", after := #[], guard := none }) rfl rfl 27 rfl _ _ (alloc27 Z1) AllReadyH.nil ⟨CZ1.out.alloc _, fun hHeld => ?_⟩
      clear hHeld
      simp only [Act.put, List.setIfInBounds_toArray, List.set_cons_zero, List.set_cons_succ]
      obtain ⟨ga, hga⟩ : ∃ gg, gg = Z1.heap.size := ⟨_, rfl⟩
      rw [← hga]
      generalize hZ : Z1.alloc _ = Z2
      have hb2 : Below Z1.heap.size Z1 Z2 := by rw [← hZ]; exact (Below.refl _ _).alloc (Nat.le_refl _) _
      have Rga : Hid (Z2.heap[ga]? = some (.cells tk0 27 (0, 0))) := by rw [← hZ, hga]; exact heap_alloc_new _ _
      have Gga := hide (show W2.heap.size ≤ ga by rw [hga]; exact CZ1.out.size)
      clear hZ hga
      replace Rgc : Hid (Z2.heap[gc]? = some (.cells (encC c).toArray 42 (0, 0))) := (hb2.block _ (block_lt_of_row Rgc.out)).trans Rgc.out
      have CZ2 : Hid (Chg (fun _ => False) W2 Z2) := CZ1.out.then hb2
      clear hb2 CZ1
      have hHeld := CZ2.out
      refine wpAnyH_ready (rs := [2]) (by kernel_rfl) (by simp) ?_
      refine step_buildSlice_as (o := { dst := some 21, op := Op.buildSlice 23 0 #[], type := 23, pos := "ref.go:31", after := #[], guard := none }) rfl rfl 23 0 [] rfl [] rfl _ _ (bs23zero Z2) AllReadyH.nil ⟨CZ2.out.alloc _, fun hHeld => ?_⟩
      clear hHeld
      simp only [Act.put, List.setIfInBounds_toArray, List.set_cons_zero, List.set_cons_succ]
      obtain ⟨ge, hge⟩ : ∃ gg, gg = Z2.heap.size := ⟨_, rfl⟩
      rw [← hge]
      generalize hZ : Z2.alloc _ = Z3
      have hb2 : Below Z2.heap.size Z2 Z3 := by rw [← hZ]; exact (Below.refl _ _).alloc (Nat.le_refl _) _
      have Rge : Hid (Z3.heap[ge]? = some (.cells #[] 42 (0, 0))) := by rw [← hZ, hge]; exact heap_alloc_new _ _
      have Gge := hide (show W2.heap.size ≤ ge by rw [hge]; exact CZ2.out.size)
      clear hZ hge
      replace Rgc : Hid (Z3.heap[gc]? = some (.cells (encC c).toArray 42 (0, 0))) := (hb2.block _ (block_lt_of_row Rgc.out)).trans Rgc.out
      replace Rga : Hid (Z3.heap[ga]? = some (.cells tk0 27 (0, 0))) := (hb2.block _ (block_lt_of_row Rga.out)).trans Rga.out
      have CZ3 : Hid (Chg (fun _ => False) W2 Z3) := CZ2.out.then hb2
      clear hb2 CZ2
      have hHeld := CZ3.out
      refine wpAnyH_ready (rs := [5]) (by kernel_rfl) (by simp) ?_
      obtain ⟨v', Z4, hst, hR6, C6⟩ := Rw.append kdC 23 (B := W2.heap.size) (Rw.empty Rge.out Gge.out) (CV.out.below (CZ3.out.below _ (Nat.le_refl _) (fun _ _ e => e))).src (fun y _ => encC_length y) (by have := HN.out; have := N4.out; simp; omega) CZ3.out.size
      rw [List.nil_append] at hR6
      obtain ⟨vo, vc, rfl⟩ := hR6.form
      rw [← HN.out] at hR6 hst
      have hOB : ∀ k, (Value.slice vo n vc).ownBlock = some k → W2.heap.size ≤ k := fun k hk => (hR6.blk hk).1
      replace hR6 : CRow w.heap.size _ _ _ := hR6.mono BB.out.size
      refine step_append_as (o := { dst := some 24, op := Op.call { callee := Callee.builtin Builtin.append, args := #[Operand.tmp 21, Operand.tmp 23], argTypes := #[23, 23] }, type := 23, pos := "ref.go:31", after := #[{ on := 2, ground := Ground.data }, { on := 4, ground := Ground.data }], guard := none }) rfl rfl (.tmp 21) (.tmp 23) 23 23 rfl (.slice (some ⟨ge, 0, none⟩) 0 0) (.slice ao n cap) rfl rfl (.slice vo n vc) Z4 hst AllReadyH.nil ⟨CZ3.out.trans C6 (fun k hk e => by have := Gge.out; have := Option.some.inj e; simp only at this; omega), fun hHeld => ?_⟩
      replace Rgc : Hid (Z4.heap[gc]? = some (.cells (encC c).toArray 42 (0, 0))) := C6.row Rgc.out (fun e => ne_rows Rge.out Rgc.out (by simp [encC]) (Option.some.inj e))
      replace Rga : Hid (Z4.heap[ga]? = some (.cells tk0 27 (0, 0))) := C6.row Rga.out (fun e => ne_rows Rge.out Rga.out (by rw [tk0_size]; simp) (Option.some.inj e))
      have CZ4 : Hid (Chg (fun _ => False) W2 Z4) := CZ3.out.trans C6 (fun k hk e => by have := Gge.out; have := Option.some.inj e; simp only at this; omega)
      have CR1 : Hid (CRow w.heap.size Z4 (.slice vo n vc) t.cs) := hR6
      have CR1b : Hid (∀ k, (Value.slice vo n vc).ownBlock = some k → W2.heap.size ≤ k) := hOB
      clear hst hR6 C6 CZ3 Rge hHeld
      have hHeld := CZ4.out
      simp only [Act.put, List.setIfInBounds_toArray, List.set_cons_zero, List.set_cons_succ]
      refine wpAnyH_ready (rs := [8]) (by kernel_rfl) (by simp) ?_
      obtain ⟨v', Z5, hst, hR6, C6⟩ := Rw.append kdC 23 (u := .slice (some ⟨gc, 0, none⟩) 1 1) (ys := [c]) CR1.out (Sce.of_row Rgc.out) (fun y _ => encC_length y) (by have := HN.out; have := N4.out; simp; omega) (Nat.le_trans BB.out.size CZ4.out.size)
      obtain ⟨uo, uc, rfl⟩ := hR6.form
      obtain ⟨un, hun⟩ : ∃ un, un = (t.cs ++ [c]).length := ⟨_, rfl⟩
      rw [← hun] at hR6 hst
      clear hun
      refine step_append_as (o := { dst := some 27, op := Op.call { callee := Callee.builtin Builtin.append, args := #[Operand.tmp 24, Operand.tmp 26], argTypes := #[23, 23] }, type := 23, pos := "ref.go:31", after := #[{ on := 5, ground := Ground.data }, { on := 7, ground := Ground.data }, { on := 5, ground := Ground.chain }], guard := none }) rfl rfl (.tmp 24) (.tmp 26) 23 23 rfl (.slice vo n vc) (.slice (some ⟨gc, 0, none⟩) 1 1) rfl rfl (.slice uo un uc) Z5 hst AllReadyH.nil ⟨CZ4.out.trans C6 (fun k hk e => by have h2 := CR1b.out k e; omega), fun hHeld => ?_⟩
      replace Rga : Hid (Z5.heap[ga]? = some (.cells tk0 27 (0, 0))) := C6.row Rga.out (fun e => CR1.out.apart Rga.out (by decide) e)
      have CZ5 : Hid (Chg (fun _ => False) W2 Z5) := CZ4.out.trans C6 (fun k hk e => by have h2 := CR1b.out k e; omega)
      have CR2 : Hid (CRow w.heap.size Z5 (.slice uo un uc) (t.cs ++ [c])) := hR6
      clear hst hR6 C6 CZ4 Rgc CR1 hHeld
      have hHeld := CZ5.out
      simp only [Act.put, List.setIfInBounds_toArray, List.set_cons_zero, List.set_cons_succ]
      refine wpAnyH_ready (rs := [9]) (by kernel_rfl) (by simp) ?_
      refine step_build_as (o := { dst := some 28, op := Op.build 27 #[(0, Operand.tmp 20), (1, Operand.tmp 27)], type := 27, pos := "ref.go:31", after := #[{ on := 1, ground := Ground.data }, { on := 8, ground := Ground.data }], guard := none }) rfl rfl 27 [(0, .tmp 20), (1, .tmp 27)] rfl [(0, .int .u32 (t.id : Int)), (1, .slice uo un uc)] rfl (.agg (encT t.id (.slice uo un uc) (S.zeros 32)).toArray) (build27i t.id uo un uc Z5) AllReadyH.nil ⟨CZ5.out, fun hHeld => ?_⟩
      simp only [Act.put, List.setIfInBounds_toArray, List.set_cons_zero, List.set_cons_succ]
      refine wpAnyH_ready (rs := [11]) (by kernel_rfl) (by simp) ?_
      obtain ⟨Z6, hst, r6, C6, s6⟩ := store_t (id := t.id) (ao := uo) (n := un) (m := uc) (tag := S.zeros 32) Rga.out tk0_size (S.zeros_length 32)
      refine step_store_as (o := { dst := none, op := Op.store 27 (Operand.tmp 8) (Operand.tmp 28), type := 0, pos := "ref.go:31", after := #[{ on := 10, ground := Ground.data }, { on := 9, ground := Ground.data }, { on := 8, ground := Ground.chain }, { on := 0, ground := Ground.phase }, { on := 1, ground := Ground.phase }, { on := 2, ground := Ground.phase }, { on := 3, ground := Ground.phase }, { on := 4, ground := Ground.phase }, { on := 5, ground := Ground.phase }, { on := 6, ground := Ground.phase }, { on := 7, ground := Ground.phase }, { on := 8, ground := Ground.phase }, { on := 9, ground := Ground.phase }, { on := 10, ground := Ground.phase }], guard := none }) rfl rfl 27 (.tmp 8) (.tmp 28) rfl _ _ rfl rfl Z6 hst AllReadyH.nil ⟨CZ5.out.trans C6 (fun k hk e => by have := Gga.out; omega), fun hHeld => ?_⟩
      have CZ6 : Hid (Chg (fun _ => False) W2 Z6) := CZ5.out.trans C6 (fun k hk e => by have := Gga.out; omega)
      replace CR2 : Hid (CRow w.heap.size Z6 (.slice uo un uc) (t.cs ++ [c])) := CR2.out.chg C6 (fun j e e2 => CR2.out.apart Rga.out (by decide) (e2 ▸ e))
      replace Rga : Hid (Z6.heap[ga]? = some (.cells (encT t.id (.slice uo un uc) (S.zeros 32)).toArray 27 (0, 0))) := r6
      clear hst r6 C6 s6 CZ5
      simp only [Act.put]
      refine wpAnyH_done (by kernel_rfl) ?_ _
      refine NoPanic.normal ?_
      clear hHeld
      try go_wp2_with fail
      go_meet
      exact ⟨ga, uo, un, uc, rfl, Rga, CR2, (by show w.heap.size + 2 < ga; have := Gga.out; have := L2.out; omega), CZ6⟩
    refine step_alloc_as (o := { dst := some 8, op := Op.alloc 27, type := 0, pos := "ref.go:31", after := #[], guard := none }) rfl rfl 27 rfl _ _ (alloc27 Z0) AllReadyH.nil ⟨CZ0.out.alloc _, fun hHeld => ?_⟩
    clear hHeld
    simp only [Act.put, List.setIfInBounds_toArray, List.set_cons_zero, List.set_cons_succ]
    obtain ⟨ga, hga⟩ : ∃ gg, gg = Z0.heap.size := ⟨_, rfl⟩
    rw [← hga]
    generalize hZ : Z0.alloc _ = Z1
    have hb2 : Below Z0.heap.size Z0 Z1 := by rw [← hZ]; exact (Below.refl _ _).alloc (Nat.le_refl _) _
    have Rga : Hid (Z1.heap[ga]? = some (.cells tk0 27 (0, 0))) := by rw [← hZ, hga]; exact heap_alloc_new _ _
    have Gga := hide (show W2.heap.size ≤ ga by rw [hga]; exact CZ0.out.size)
    clear hZ hga
    have CZ1 : Hid (Chg (fun _ => False) W2 Z1) := CZ0.out.then hb2
    clear hb2 CZ0
    have hHeld := CZ1.out
    refine wpAnyH_ready (rs := [2, 7]) (by kernel_rfl) (by simp) ?_
    refine step_buildSlice_as (o := { dst := some 21, op := Op.buildSlice 23 0 #[], type := 23, pos := "ref.go:31", after := #[], guard := none }) rfl rfl 23 0 [] rfl [] rfl _ _ (bs23zero Z1) ?_ ⟨CZ1.out.alloc _, fun hHeld => ?_⟩
    rotate_left
    · skip
      clear hHeld
      simp only [Act.put, List.setIfInBounds_toArray, List.set_cons_zero, List.set_cons_succ]
      obtain ⟨ge, hge⟩ : ∃ gg, gg = Z1.heap.size := ⟨_, rfl⟩
      rw [← hge]
      generalize hZ : Z1.alloc _ = Z2
      have hb2 : Below Z1.heap.size Z1 Z2 := by rw [← hZ]; exact (Below.refl _ _).alloc (Nat.le_refl _) _
      have Rge : Hid (Z2.heap[ge]? = some (.cells #[] 42 (0, 0))) := by rw [← hZ, hge]; exact heap_alloc_new _ _
      have Gge := hide (show W2.heap.size ≤ ge by rw [hge]; exact CZ1.out.size)
      clear hZ hge
      replace Rga : Hid (Z2.heap[ga]? = some (.cells tk0 27 (0, 0))) := (hb2.block _ (block_lt_of_row Rga.out)).trans Rga.out
      have CZ2 : Hid (Chg (fun _ => False) W2 Z2) := CZ1.out.then hb2
      clear hb2 CZ1
      have hHeld := CZ2.out
      refine wpAnyH_ready (rs := [5, 7]) (by kernel_rfl) (by simp) ?_
      obtain ⟨v', Z3, hst, hR6, C6⟩ := Rw.append kdC 23 (B := W2.heap.size) (Rw.empty Rge.out Gge.out) (CV.out.below (CZ2.out.below _ (Nat.le_refl _) (fun _ _ e => e))).src (fun y _ => encC_length y) (by have := HN.out; have := N4.out; simp; omega) CZ2.out.size
      rw [List.nil_append] at hR6
      obtain ⟨vo, vc, rfl⟩ := hR6.form
      rw [← HN.out] at hR6 hst
      have hOB : ∀ k, (Value.slice vo n vc).ownBlock = some k → W2.heap.size ≤ k := fun k hk => (hR6.blk hk).1
      replace hR6 : CRow w.heap.size _ _ _ := hR6.mono BB.out.size
      refine step_append_as (o := { dst := some 24, op := Op.call { callee := Callee.builtin Builtin.append, args := #[Operand.tmp 21, Operand.tmp 23], argTypes := #[23, 23] }, type := 23, pos := "ref.go:31", after := #[{ on := 2, ground := Ground.data }, { on := 4, ground := Ground.data }], guard := none }) rfl rfl (.tmp 21) (.tmp 23) 23 23 rfl (.slice (some ⟨ge, 0, none⟩) 0 0) (.slice ao n cap) rfl rfl (.slice vo n vc) Z3 hst ?_ ⟨CZ2.out.trans C6 (fun k hk e => by have := Gge.out; have := Option.some.inj e; simp only at this; omega), fun hHeld => ?_⟩
      rotate_left
      · skip
        replace Rga : Hid (Z3.heap[ga]? = some (.cells tk0 27 (0, 0))) := C6.row Rga.out (fun e => ne_rows Rge.out Rga.out (by rw [tk0_size]; simp) (Option.some.inj e))
        have CZ3 : Hid (Chg (fun _ => False) W2 Z3) := CZ2.out.trans C6 (fun k hk e => by have := Gge.out; have := Option.some.inj e; simp only at this; omega)
        have CR1 : Hid (CRow w.heap.size Z3 (.slice vo n vc) t.cs) := hR6
        have CR1b : Hid (∀ k, (Value.slice vo n vc).ownBlock = some k → W2.heap.size ≤ k) := hOB
        clear hst hR6 C6 CZ2 Rge hHeld
        have hHeld := CZ3.out
        simp only [Act.put, List.setIfInBounds_toArray, List.set_cons_zero, List.set_cons_succ]
        refine wpAnyH_ready (rs := [7]) (by kernel_rfl) (by simp) ?_
        refine step_buildSlice_as (o := { dst := some 26, op := Op.buildSlice 23 1 #[(0, Operand.tmp 25)], type := 23, pos := "ref.go:31", after := #[{ on := 6, ground := Ground.data }], guard := none }) rfl rfl 23 1 [(0, .tmp 25)] rfl [(0, .agg (encC c).toArray)] rfl _ _ (bs23one Z3 c) AllReadyH.nil ⟨CZ3.out.alloc _, fun hHeld => ?_⟩
        clear hHeld
        simp only [Act.put, List.setIfInBounds_toArray, List.set_cons_zero, List.set_cons_succ]
        obtain ⟨gc, hgc⟩ : ∃ gg, gg = Z3.heap.size := ⟨_, rfl⟩
        rw [← hgc]
        generalize hZ : Z3.alloc _ = Z4
        have hb2 : Below Z3.heap.size Z3 Z4 := by rw [← hZ]; exact (Below.refl _ _).alloc (Nat.le_refl _) _
        have Rgc : Hid (Z4.heap[gc]? = some (.cells (encC c).toArray 42 (0, 0))) := by rw [← hZ, hgc]; exact heap_alloc_new _ _
        have Ggc := hide (show W2.heap.size ≤ gc by rw [hgc]; exact CZ3.out.size)
        clear hZ hgc
        replace Rga : Hid (Z4.heap[ga]? = some (.cells tk0 27 (0, 0))) := (hb2.block _ (block_lt_of_row Rga.out)).trans Rga.out
        replace CR1 : Hid (CRow w.heap.size Z4 (.slice vo n vc) t.cs) := CR1.out.below hb2
        have CZ4 : Hid (Chg (fun _ => False) W2 Z4) := CZ3.out.then hb2
        clear hb2 CZ3
        have hHeld := CZ4.out
        refine wpAnyH_ready (rs := [8]) (by kernel_rfl) (by simp) ?_
        obtain ⟨v', Z5, hst, hR6, C6⟩ := Rw.append kdC 23 (u := .slice (some ⟨gc, 0, none⟩) 1 1) (ys := [c]) CR1.out (Sce.of_row Rgc.out) (fun y _ => encC_length y) (by have := HN.out; have := N4.out; simp; omega) (Nat.le_trans BB.out.size CZ4.out.size)
        obtain ⟨uo, uc, rfl⟩ := hR6.form
        obtain ⟨un, hun⟩ : ∃ un, un = (t.cs ++ [c]).length := ⟨_, rfl⟩
        rw [← hun] at hR6 hst
        clear hun
        refine step_append_as (o := { dst := some 27, op := Op.call { callee := Callee.builtin Builtin.append, args := #[Operand.tmp 24, Operand.tmp 26], argTypes := #[23, 23] }, type := 23, pos := "ref.go:31", after := #[{ on := 5, ground := Ground.data }, { on := 7, ground := Ground.data }, { on := 5, ground := Ground.chain }], guard := none }) rfl rfl (.tmp 24) (.tmp 26) 23 23 rfl (.slice vo n vc) (.slice (some ⟨gc, 0, none⟩) 1 1) rfl rfl (.slice uo un uc) Z5 hst AllReadyH.nil ⟨CZ4.out.trans C6 (fun k hk e => by have h2 := CR1b.out k e; omega), fun hHeld => ?_⟩
        replace Rga : Hid (Z5.heap[ga]? = some (.cells tk0 27 (0, 0))) := C6.row Rga.out (fun e => CR1.out.apart Rga.out (by decide) e)
        have CZ5 : Hid (Chg (fun _ => False) W2 Z5) := CZ4.out.trans C6 (fun k hk e => by have h2 := CR1b.out k e; omega)
        have CR2 : Hid (CRow w.heap.size Z5 (.slice uo un uc) (t.cs ++ [c])) := hR6
        clear hst hR6 C6 CZ4 Rgc CR1 hHeld
        have hHeld := CZ5.out
        simp only [Act.put, List.setIfInBounds_toArray, List.set_cons_zero, List.set_cons_succ]
        refine wpAnyH_ready (rs := [9]) (by kernel_rfl) (by simp) ?_
        refine step_build_as (o := { dst := some 28, op := Op.build 27 #[(0, Operand.tmp 20), (1, Operand.tmp 27)], type := 27, pos := "ref.go:31", after := #[{ on := 1, ground := Ground.data }, { on := 8, ground := Ground.data }], guard := none }) rfl rfl 27 [(0, .tmp 20), (1, .tmp 27)] rfl [(0, .int .u32 (t.id : Int)), (1, .slice uo un uc)] rfl (.agg (encT t.id (.slice uo un uc) (S.zeros 32)).toArray) (build27i t.id uo un uc Z5) AllReadyH.nil ⟨CZ5.out, fun hHeld => ?_⟩
        simp only [Act.put, List.setIfInBounds_toArray, List.set_cons_zero, List.set_cons_succ]
        refine wpAnyH_ready (rs := [11]) (by kernel_rfl) (by simp) ?_
        obtain ⟨Z6, hst, r6, C6, s6⟩ := store_t (id := t.id) (ao := uo) (n := un) (m := uc) (tag := S.zeros 32) Rga.out tk0_size (S.zeros_length 32)
        refine step_store_as (o := { dst := none, op := Op.store 27 (Operand.tmp 8) (Operand.tmp 28), type := 0, pos := "ref.go:31", after := #[{ on := 10, ground := Ground.data }, { on := 9, ground := Ground.data }, { on := 8, ground := Ground.chain }, { on := 0, ground := Ground.phase }, { on := 1, ground := Ground.phase }, { on := 2, ground := Ground.phase }, { on := 3, ground := Ground.phase }, { on := 4, ground := Ground.phase }, { on := 5, ground := Ground.phase }, { on := 6, ground := Ground.phase }, { on := 7, ground := Ground.phase }, { on := 8, ground := Ground.phase }, { on := 9, ground := Ground.phase }, { on := 10, ground := Ground.phase }], guard := none }) rfl rfl 27 (.tmp 8) (.tmp 28) rfl _ _ rfl rfl Z6 hst AllReadyH.nil ⟨CZ5.out.trans C6 (fun k hk e => by have := Gga.out; omega), fun hHeld => ?_⟩
        have CZ6 : Hid (Chg (fun _ => False) W2 Z6) := CZ5.out.trans C6 (fun k hk e => by have := Gga.out; omega)
        replace CR2 : Hid (CRow w.heap.size Z6 (.slice uo un uc) (t.cs ++ [c])) := CR2.out.chg C6 (fun j e e2 => CR2.out.apart Rga.out (by decide) (e2 ▸ e))
        replace Rga : Hid (Z6.heap[ga]? = some (.cells (encT t.id (.slice uo un uc) (S.zeros 32)).toArray 27 (0, 0))) := r6
        clear hst r6 C6 s6 CZ5
        simp only [Act.put]
        refine wpAnyH_done (by kernel_rfl) ?_ _
        refine NoPanic.normal ?_
        clear hHeld
        try go_wp2_with fail
        go_meet
        exact ⟨ga, uo, un, uc, rfl, Rga, CR2, (by show w.heap.size + 2 < ga; have := Gga.out; have := L2.out; omega), CZ6⟩
      refine step_buildSlice_as (o := { dst := some 26, op := Op.buildSlice 23 1 #[(0, Operand.tmp 25)], type := 23, pos := "ref.go:31", after := #[{ on := 6, ground := Ground.data }], guard := none }) rfl rfl 23 1 [(0, .tmp 25)] rfl [(0, .agg (encC c).toArray)] rfl _ _ (bs23one Z2 c) AllReadyH.nil ⟨CZ2.out.alloc _, fun hHeld => ?_⟩
      clear hHeld
      simp only [Act.put, List.setIfInBounds_toArray, List.set_cons_zero, List.set_cons_succ]
      obtain ⟨gc, hgc⟩ : ∃ gg, gg = Z2.heap.size := ⟨_, rfl⟩
      rw [← hgc]
      generalize hZ : Z2.alloc _ = Z3
      have hb2 : Below Z2.heap.size Z2 Z3 := by rw [← hZ]; exact (Below.refl _ _).alloc (Nat.le_refl _) _
      have Rgc : Hid (Z3.heap[gc]? = some (.cells (encC c).toArray 42 (0, 0))) := by rw [← hZ, hgc]; exact heap_alloc_new _ _
      have Ggc := hide (show W2.heap.size ≤ gc by rw [hgc]; exact CZ2.out.size)
      clear hZ hgc
      replace Rga : Hid (Z3.heap[ga]? = some (.cells tk0 27 (0, 0))) := (hb2.block _ (block_lt_of_row Rga.out)).trans Rga.out
      replace Rge : Hid (Z3.heap[ge]? = some (.cells #[] 42 (0, 0))) := (hb2.block _ (block_lt_of_row Rge.out)).trans Rge.out
      have CZ3 : Hid (Chg (fun _ => False) W2 Z3) := CZ2.out.then hb2
      clear hb2 CZ2
      have hHeld := CZ3.out
      refine wpAnyH_ready (rs := [5]) (by kernel_rfl) (by simp) ?_
      obtain ⟨v', Z4, hst, hR6, C6⟩ := Rw.append kdC 23 (B := W2.heap.size) (Rw.empty Rge.out Gge.out) (CV.out.below (CZ3.out.below _ (Nat.le_refl _) (fun _ _ e => e))).src (fun y _ => encC_length y) (by have := HN.out; have := N4.out; simp; omega) CZ3.out.size
      rw [List.nil_append] at hR6
      obtain ⟨vo, vc, rfl⟩ := hR6.form
      rw [← HN.out] at hR6 hst
      have hOB : ∀ k, (Value.slice vo n vc).ownBlock = some k → W2.heap.size ≤ k := fun k hk => (hR6.blk hk).1
      replace hR6 : CRow w.heap.size _ _ _ := hR6.mono BB.out.size
      refine step_append_as (o := { dst := some 24, op := Op.call { callee := Callee.builtin Builtin.append, args := #[Operand.tmp 21, Operand.tmp 23], argTypes := #[23, 23] }, type := 23, pos := "ref.go:31", after := #[{ on := 2, ground := Ground.data }, { on := 4, ground := Ground.data }], guard := none }) rfl rfl (.tmp 21) (.tmp 23) 23 23 rfl (.slice (some ⟨ge, 0, none⟩) 0 0) (.slice ao n cap) rfl rfl (.slice vo n vc) Z4 hst AllReadyH.nil ⟨CZ3.out.trans C6 (fun k hk e => by have := Gge.out; have := Option.some.inj e; simp only at this; omega), fun hHeld => ?_⟩
      replace Rga : Hid (Z4.heap[ga]? = some (.cells tk0 27 (0, 0))) := C6.row Rga.out (fun e => ne_rows Rge.out Rga.out (by rw [tk0_size]; simp) (Option.some.inj e))
      replace Rgc : Hid (Z4.heap[gc]? = some (.cells (encC c).toArray 42 (0, 0))) := C6.row Rgc.out (fun e => ne_rows Rge.out Rgc.out (by simp [encC]) (Option.some.inj e))
      have CZ4 : Hid (Chg (fun _ => False) W2 Z4) := CZ3.out.trans C6 (fun k hk e => by have := Gge.out; have := Option.some.inj e; simp only at this; omega)
      have CR1 : Hid (CRow w.heap.size Z4 (.slice vo n vc) t.cs) := hR6
      have CR1b : Hid (∀ k, (Value.slice vo n vc).ownBlock = some k → W2.heap.size ≤ k) := hOB
      clear hst hR6 C6 CZ3 Rge hHeld
      have hHeld := CZ4.out
      simp only [Act.put, List.setIfInBounds_toArray, List.set_cons_zero, List.set_cons_succ]
      refine wpAnyH_ready (rs := [8]) (by kernel_rfl) (by simp) ?_
      obtain ⟨v', Z5, hst, hR6, C6⟩ := Rw.append kdC 23 (u := .slice (some ⟨gc, 0, none⟩) 1 1) (ys := [c]) CR1.out (Sce.of_row Rgc.out) (fun y _ => encC_length y) (by have := HN.out; have := N4.out; simp; omega) (Nat.le_trans BB.out.size CZ4.out.size)
      obtain ⟨uo, uc, rfl⟩ := hR6.form
      obtain ⟨un, hun⟩ : ∃ un, un = (t.cs ++ [c]).length := ⟨_, rfl⟩
      rw [← hun] at hR6 hst
      clear hun
      refine step_append_as (o := { dst := some 27, op := Op.call { callee := Callee.builtin Builtin.append, args := #[Operand.tmp 24, Operand.tmp 26], argTypes := #[23, 23] }, type := 23, pos := "ref.go:31", after := #[{ on := 5, ground := Ground.data }, { on := 7, ground := Ground.data }, { on := 5, ground := Ground.chain }], guard := none }) rfl rfl (.tmp 24) (.tmp 26) 23 23 rfl (.slice vo n vc) (.slice (some ⟨gc, 0, none⟩) 1 1) rfl rfl (.slice uo un uc) Z5 hst AllReadyH.nil ⟨CZ4.out.trans C6 (fun k hk e => by have h2 := CR1b.out k e; omega), fun hHeld => ?_⟩
      replace Rga : Hid (Z5.heap[ga]? = some (.cells tk0 27 (0, 0))) := C6.row Rga.out (fun e => CR1.out.apart Rga.out (by decide) e)
      have CZ5 : Hid (Chg (fun _ => False) W2 Z5) := CZ4.out.trans C6 (fun k hk e => by have h2 := CR1b.out k e; omega)
      have CR2 : Hid (CRow w.heap.size Z5 (.slice uo un uc) (t.cs ++ [c])) := hR6
      clear hst hR6 C6 CZ4 Rgc CR1 hHeld
      have hHeld := CZ5.out
      simp only [Act.put, List.setIfInBounds_toArray, List.set_cons_zero, List.set_cons_succ]
      refine wpAnyH_ready (rs := [9]) (by kernel_rfl) (by simp) ?_
      refine step_build_as (o := { dst := some 28, op := Op.build 27 #[(0, Operand.tmp 20), (1, Operand.tmp 27)], type := 27, pos := "ref.go:31", after := #[{ on := 1, ground := Ground.data }, { on := 8, ground := Ground.data }], guard := none }) rfl rfl 27 [(0, .tmp 20), (1, .tmp 27)] rfl [(0, .int .u32 (t.id : Int)), (1, .slice uo un uc)] rfl (.agg (encT t.id (.slice uo un uc) (S.zeros 32)).toArray) (build27i t.id uo un uc Z5) AllReadyH.nil ⟨CZ5.out, fun hHeld => ?_⟩
      simp only [Act.put, List.setIfInBounds_toArray, List.set_cons_zero, List.set_cons_succ]
      refine wpAnyH_ready (rs := [11]) (by kernel_rfl) (by simp) ?_
      obtain ⟨Z6, hst, r6, C6, s6⟩ := store_t (id := t.id) (ao := uo) (n := un) (m := uc) (tag := S.zeros 32) Rga.out tk0_size (S.zeros_length 32)
      refine step_store_as (o := { dst := none, op := Op.store 27 (Operand.tmp 8) (Operand.tmp 28), type := 0, pos := "ref.go:31", after := #[{ on := 10, ground := Ground.data }, { on := 9, ground := Ground.data }, { on := 8, ground := Ground.chain }, { on := 0, ground := Ground.phase }, { on := 1, ground := Ground.phase }, { on := 2, ground := Ground.phase }, { on := 3, ground := Ground.phase }, { on := 4, ground := Ground.phase }, { on := 5, ground := Ground.phase }, { on := 6, ground := Ground.phase }, { on := 7, ground := Ground.phase }, { on := 8, ground := Ground.phase }, { on := 9, ground := Ground.phase }, { on := 10, ground := Ground.phase }], guard := none }) rfl rfl 27 (.tmp 8) (.tmp 28) rfl _ _ rfl rfl Z6 hst AllReadyH.nil ⟨CZ5.out.trans C6 (fun k hk e => by have := Gga.out; omega), fun hHeld => ?_⟩
      have CZ6 : Hid (Chg (fun _ => False) W2 Z6) := CZ5.out.trans C6 (fun k hk e => by have := Gga.out; omega)
      replace CR2 : Hid (CRow w.heap.size Z6 (.slice uo un uc) (t.cs ++ [c])) := CR2.out.chg C6 (fun j e e2 => CR2.out.apart Rga.out (by decide) (e2 ▸ e))
      replace Rga : Hid (Z6.heap[ga]? = some (.cells (encT t.id (.slice uo un uc) (S.zeros 32)).toArray 27 (0, 0))) := r6
      clear hst r6 C6 s6 CZ5
      simp only [Act.put]
      refine wpAnyH_done (by kernel_rfl) ?_ _
      refine NoPanic.normal ?_
      clear hHeld
      try go_wp2_with fail
      go_meet
      exact ⟨ga, uo, un, uc, rfl, Rga, CR2, (by show w.heap.size + 2 < ga; have := Gga.out; have := L2.out; omega), CZ6⟩
    refine step_buildSlice_as (o := { dst := some 26, op := Op.buildSlice 23 1 #[(0, Operand.tmp 25)], type := 23, pos := "ref.go:31", after := #[{ on := 6, ground := Ground.data }], guard := none }) rfl rfl 23 1 [(0, .tmp 25)] rfl [(0, .agg (encC c).toArray)] rfl _ _ (bs23one Z1 c) AllReadyH.nil ⟨CZ1.out.alloc _, fun hHeld => ?_⟩
    clear hHeld
    simp only [Act.put, List.setIfInBounds_toArray, List.set_cons_zero, List.set_cons_succ]
    obtain ⟨gc, hgc⟩ : ∃ gg, gg = Z1.heap.size := ⟨_, rfl⟩
    rw [← hgc]
    generalize hZ : Z1.alloc _ = Z2
    have hb2 : Below Z1.heap.size Z1 Z2 := by rw [← hZ]; exact (Below.refl _ _).alloc (Nat.le_refl _) _
    have Rgc : Hid (Z2.heap[gc]? = some (.cells (encC c).toArray 42 (0, 0))) := by rw [← hZ, hgc]; exact heap_alloc_new _ _
    have Ggc := hide (show W2.heap.size ≤ gc by rw [hgc]; exact CZ1.out.size)
    clear hZ hgc
    replace Rga : Hid (Z2.heap[ga]? = some (.cells tk0 27 (0, 0))) := (hb2.block _ (block_lt_of_row Rga.out)).trans Rga.out
    have CZ2 : Hid (Chg (fun _ => False) W2 Z2) := CZ1.out.then hb2
    clear hb2 CZ1
    have hHeld := CZ2.out
    refine wpAnyH_ready (rs := [2]) (by kernel_rfl) (by simp) ?_
    refine step_buildSlice_as (o := { dst := some 21, op := Op.buildSlice 23 0 #[], type := 23, pos := "ref.go:31", after := #[], guard := none }) rfl rfl 23 0 [] rfl [] rfl _ _ (bs23zero Z2) AllReadyH.nil ⟨CZ2.out.alloc _, fun hHeld => ?_⟩
    clear hHeld
    simp only [Act.put, List.setIfInBounds_toArray, List.set_cons_zero, List.set_cons_succ]
    obtain ⟨ge, hge⟩ : ∃ gg, gg = Z2.heap.size := ⟨_, rfl⟩
    rw [← hge]
    generalize hZ : Z2.alloc _ = Z3
    have hb2 : Below Z2.heap.size Z2 Z3 := by rw [← hZ]; exact (Below.refl _ _).alloc (Nat.le_refl _) _
    have Rge : Hid (Z3.heap[ge]? = some (.cells #[] 42 (0, 0))) := by rw [← hZ, hge]; exact heap_alloc_new _ _
    have Gge := hide (show W2.heap.size ≤ ge by rw [hge]; exact CZ2.out.size)
    clear hZ hge
    replace Rga : Hid (Z3.heap[ga]? = some (.cells tk0 27 (0, 0))) := (hb2.block _ (block_lt_of_row Rga.out)).trans Rga.out
    replace Rgc : Hid (Z3.heap[gc]? = some (.cells (encC c).toArray 42 (0, 0))) := (hb2.block _ (block_lt_of_row Rgc.out)).trans Rgc.out
    have CZ3 : Hid (Chg (fun _ => False) W2 Z3) := CZ2.out.then hb2
    clear hb2 CZ2
    have hHeld := CZ3.out
    refine wpAnyH_ready (rs := [5]) (by kernel_rfl) (by simp) ?_
    obtain ⟨v', Z4, hst, hR6, C6⟩ := Rw.append kdC 23 (B := W2.heap.size) (Rw.empty Rge.out Gge.out) (CV.out.below (CZ3.out.below _ (Nat.le_refl _) (fun _ _ e => e))).src (fun y _ => encC_length y) (by have := HN.out; have := N4.out; simp; omega) CZ3.out.size
    rw [List.nil_append] at hR6
    obtain ⟨vo, vc, rfl⟩ := hR6.form
    rw [← HN.out] at hR6 hst
    have hOB : ∀ k, (Value.slice vo n vc).ownBlock = some k → W2.heap.size ≤ k := fun k hk => (hR6.blk hk).1
    replace hR6 : CRow w.heap.size _ _ _ := hR6.mono BB.out.size
    refine step_append_as (o := { dst := some 24, op := Op.call { callee := Callee.builtin Builtin.append, args := #[Operand.tmp 21, Operand.tmp 23], argTypes := #[23, 23] }, type := 23, pos := "ref.go:31", after := #[{ on := 2, ground := Ground.data }, { on := 4, ground := Ground.data }], guard := none }) rfl rfl (.tmp 21) (.tmp 23) 23 23 rfl (.slice (some ⟨ge, 0, none⟩) 0 0) (.slice ao n cap) rfl rfl (.slice vo n vc) Z4 hst AllReadyH.nil ⟨CZ3.out.trans C6 (fun k hk e => by have := Gge.out; have := Option.some.inj e; simp only at this; omega), fun hHeld => ?_⟩
    replace Rga : Hid (Z4.heap[ga]? = some (.cells tk0 27 (0, 0))) := C6.row Rga.out (fun e => ne_rows Rge.out Rga.out (by rw [tk0_size]; simp) (Option.some.inj e))
    replace Rgc : Hid (Z4.heap[gc]? = some (.cells (encC c).toArray 42 (0, 0))) := C6.row Rgc.out (fun e => ne_rows Rge.out Rgc.out (by simp [encC]) (Option.some.inj e))
    have CZ4 : Hid (Chg (fun _ => False) W2 Z4) := CZ3.out.trans C6 (fun k hk e => by have := Gge.out; have := Option.some.inj e; simp only at this; omega)
    have CR1 : Hid (CRow w.heap.size Z4 (.slice vo n vc) t.cs) := hR6
    have CR1b : Hid (∀ k, (Value.slice vo n vc).ownBlock = some k → W2.heap.size ≤ k) := hOB
    clear hst hR6 C6 CZ3 Rge hHeld
    have hHeld := CZ4.out
    simp only [Act.put, List.setIfInBounds_toArray, List.set_cons_zero, List.set_cons_succ]
    refine wpAnyH_ready (rs := [8]) (by kernel_rfl) (by simp) ?_
    obtain ⟨v', Z5, hst, hR6, C6⟩ := Rw.append kdC 23 (u := .slice (some ⟨gc, 0, none⟩) 1 1) (ys := [c]) CR1.out (Sce.of_row Rgc.out) (fun y _ => encC_length y) (by have := HN.out; have := N4.out; simp; omega) (Nat.le_trans BB.out.size CZ4.out.size)
    obtain ⟨uo, uc, rfl⟩ := hR6.form
    obtain ⟨un, hun⟩ : ∃ un, un = (t.cs ++ [c]).length := ⟨_, rfl⟩
    rw [← hun] at hR6 hst
    clear hun
    refine step_append_as (o := { dst := some 27, op := Op.call { callee := Callee.builtin Builtin.append, args := #[Operand.tmp 24, Operand.tmp 26], argTypes := #[23, 23] }, type := 23, pos := "ref.go:31", after := #[{ on := 5, ground := Ground.data }, { on := 7, ground := Ground.data }, { on := 5, ground := Ground.chain }], guard := none }) rfl rfl (.tmp 24) (.tmp 26) 23 23 rfl (.slice vo n vc) (.slice (some ⟨gc, 0, none⟩) 1 1) rfl rfl (.slice uo un uc) Z5 hst AllReadyH.nil ⟨CZ4.out.trans C6 (fun k hk e => by have h2 := CR1b.out k e; omega), fun hHeld => ?_⟩
    replace Rga : Hid (Z5.heap[ga]? = some (.cells tk0 27 (0, 0))) := C6.row Rga.out (fun e => CR1.out.apart Rga.out (by decide) e)
    have CZ5 : Hid (Chg (fun _ => False) W2 Z5) := CZ4.out.trans C6 (fun k hk e => by have h2 := CR1b.out k e; omega)
    have CR2 : Hid (CRow w.heap.size Z5 (.slice uo un uc) (t.cs ++ [c])) := hR6
    clear hst hR6 C6 CZ4 Rgc CR1 hHeld
    have hHeld := CZ5.out
    simp only [Act.put, List.setIfInBounds_toArray, List.set_cons_zero, List.set_cons_succ]
    refine wpAnyH_ready (rs := [9]) (by kernel_rfl) (by simp) ?_
    refine step_build_as (o := { dst := some 28, op := Op.build 27 #[(0, Operand.tmp 20), (1, Operand.tmp 27)], type := 27, pos := "ref.go:31", after := #[{ on := 1, ground := Ground.data }, { on := 8, ground := Ground.data }], guard := none }) rfl rfl 27 [(0, .tmp 20), (1, .tmp 27)] rfl [(0, .int .u32 (t.id : Int)), (1, .slice uo un uc)] rfl (.agg (encT t.id (.slice uo un uc) (S.zeros 32)).toArray) (build27i t.id uo un uc Z5) AllReadyH.nil ⟨CZ5.out, fun hHeld => ?_⟩
    simp only [Act.put, List.setIfInBounds_toArray, List.set_cons_zero, List.set_cons_succ]
    refine wpAnyH_ready (rs := [11]) (by kernel_rfl) (by simp) ?_
    obtain ⟨Z6, hst, r6, C6, s6⟩ := store_t (id := t.id) (ao := uo) (n := un) (m := uc) (tag := S.zeros 32) Rga.out tk0_size (S.zeros_length 32)
    refine step_store_as (o := { dst := none, op := Op.store 27 (Operand.tmp 8) (Operand.tmp 28), type := 0, pos := "ref.go:31", after := #[{ on := 10, ground := Ground.data }, { on := 9, ground := Ground.data }, { on := 8, ground := Ground.chain }, { on := 0, ground := Ground.phase }, { on := 1, ground := Ground.phase }, { on := 2, ground := Ground.phase }, { on := 3, ground := Ground.phase }, { on := 4, ground := Ground.phase }, { on := 5, ground := Ground.phase }, { on := 6, ground := Ground.phase }, { on := 7, ground := Ground.phase }, { on := 8, ground := Ground.phase }, { on := 9, ground := Ground.phase }, { on := 10, ground := Ground.phase }], guard := none }) rfl rfl 27 (.tmp 8) (.tmp 28) rfl _ _ rfl rfl Z6 hst AllReadyH.nil ⟨CZ5.out.trans C6 (fun k hk e => by have := Gga.out; omega), fun hHeld => ?_⟩
    have CZ6 : Hid (Chg (fun _ => False) W2 Z6) := CZ5.out.trans C6 (fun k hk e => by have := Gga.out; omega)
    replace CR2 : Hid (CRow w.heap.size Z6 (.slice uo un uc) (t.cs ++ [c])) := CR2.out.chg C6 (fun j e e2 => CR2.out.apart Rga.out (by decide) (e2 ▸ e))
    replace Rga : Hid (Z6.heap[ga]? = some (.cells (encT t.id (.slice uo un uc) (S.zeros 32)).toArray 27 (0, 0))) := r6
    clear hst r6 C6 s6 CZ5
    simp only [Act.put]
    refine wpAnyH_done (by kernel_rfl) ?_ _
    refine NoPanic.normal ?_
    clear hHeld
    try go_wp2_with fail
    go_meet
    exact ⟨ga, uo, un, uc, rfl, Rga, CR2, (by show w.heap.size + 2 < ga; have := Gga.out; have := L2.out; omega), CZ6⟩
  case rest =>
    obtain ⟨ga, uo, un, uc, rfl, RA, CR, GA, CW⟩ := hcut
    have BW := hide (BB.out.trans (CW.out.below w.heap.size BB.out.size (fun k hk e => e.elim)))
    have P0 := hide (CW.out.row Q0.out (fun e => e))
    have P1 := hide (CW.out.row Q1.out (fun e => e))
    have P2 := hide (CW.out.row Q2.out (fun e => e))
    have LA := hide (block_lt_of_row RA.out)
    clear Q0 Q1 Q2 BB CW CV HV L2
    obtain ⟨x, hx1, hx2⟩ := u8_of c.k
    have q0 : IntKind.u8.wrap c.k = (x.toNat : Int) := by rw [IntKind.wrap_u8', hx2]
    have q3 : IntKind.u64.wrap (c.n : Int) = (c.n : Int) := wrap_u64_lt c.n (by have := HC.out.n2; omega)
    have HX := hide hx1
    clear hx1 hx2
    go_upto_region 6 with fail
    refine wp_region_noPanic ?_
    refine wp_region_held_drew (S := (fun W => Chg (fun k => k = ga) wc W)) follows ((Chg.refl _ _).drew) (fun hHeld => ?_)
    clear hHeld
    have hHeld : Chg (fun k => k = ga) wc wc.drew := (Chg.refl _ _).drew
    have CZ0 := hide hHeld
    have P0' : Hid (wc.drew.heap[w.heap.size]? = some (.cells (encT t.id (.slice ao n cap) t.tag).toArray 27 (0, 0))) := P0.out
    have P2' : Hid (wc.drew.heap[(w.heap.size + 2)]? = some (.cells tk0 27 (0, 0))) := P2.out
    have RA' : Hid (wc.drew.heap[ga]? = some (.cells (encT t.id (.slice uo un uc) (S.zeros 32)).toArray 27 (0, 0))) := RA.out
    have CR' : Hid (CRow w.heap.size wc.drew (.slice uo un uc) (t.cs ++ [c])) := CR.out.below ((Below.refl _ _).drew)
    generalize wc.drew = Z0 at CZ0 hHeld P0' P2' RA' CR' ⊢
    refine wpAnyH_take (i := 0) (oi := { dst := some 29, op := Op.move (Operand.tmp 0), type := 50, pos := "ref.go:32", after := #[], guard := none }) (v := ?_) rfl (by kernel_rfl) (by kernel_rfl) (by kernel_rfl) (fun _ _ _ h => h) (Or.inl ⟨by rfl, ?_⟩) (by assumption) ?_
    rotate_left
    · intro w hSw
      clear hSw
      go_simp
      all_goals with_reducible rfl
    simp only [Act.put, List.setIfInBounds_toArray, List.set_cons_zero, List.set_cons_succ]
    refine wpAnyH_take (i := 1) (oi := { dst := some 30, op := Op.fieldAddr 27 (Operand.tmp 4) 2, type := 0, pos := "ref.go:32", after := #[], guard := none }) (v := ?_) rfl (by kernel_rfl) (by kernel_rfl) (by kernel_rfl) (fun _ _ _ h => h) (Or.inl ⟨by rfl, ?_⟩) (by assumption) ?_
    rotate_left
    · intro w hSw
      clear hSw
      go_simp
      all_goals with_reducible rfl
    simp only [Act.put, List.setIfInBounds_toArray, List.set_cons_zero, List.set_cons_succ]
    refine wpAnyH_take (i := 2) (oi := { dst := some 31, op := Op.slice 25 (Operand.tmp 30) none none none, type := 30, pos := "ref.go:32", after := #[{ on := 1, ground := Ground.data }], guard := none }) (v := ?_) rfl (by kernel_rfl) (by kernel_rfl) (by kernel_rfl) (fun _ _ _ h => h) (Or.inl ⟨by rfl, ?_⟩) (by assumption) ?_
    rotate_left
    · intro w hSw
      clear hSw
      go_simp
      all_goals with_reducible rfl
    simp only [Act.put, List.setIfInBounds_toArray, List.set_cons_zero, List.set_cons_succ]
    refine wpAnyH_take (i := 3) (oi := { dst := some 32, op := Op.fieldAddr 42 (Operand.tmp 5) 0, type := 0, pos := "ref.go:32", after := #[], guard := none }) (v := ?_) rfl (by kernel_rfl) (by kernel_rfl) (by kernel_rfl) (fun _ _ _ h => h) (Or.inl ⟨by rfl, ?_⟩) (by assumption) ?_
    rotate_left
    · intro w hSw
      clear hSw
      go_simp
      all_goals with_reducible rfl
    simp only [Act.put, List.setIfInBounds_toArray, List.set_cons_zero, List.set_cons_succ]
    refine wpAnyH_take (i := 4) (oi := { dst := some 33, op := Op.load 3 (Operand.tmp 32), type := 3, pos := "ref.go:32", after := #[{ on := 3, ground := Ground.data }], guard := none }) (v := ?_) rfl (by kernel_rfl) (by kernel_rfl) (by kernel_rfl) (fun _ _ _ h => h) (Or.inl ⟨by rfl, ?_⟩) (by assumption) ?_
    rotate_left
    · intro w hSw
      obtain ⟨e0, -⟩ := c_cells (hSw.row P1.out (by have := GA.out; omega))
      clear hSw
      go_simp
      all_goals with_reducible rfl
    simp only [Act.put, List.setIfInBounds_toArray, List.set_cons_zero, List.set_cons_succ]
    refine wpAnyH_take (i := 5) (oi := { dst := some 34, op := Op.convert 3 5 (Operand.tmp 33), type := 5, pos := "ref.go:32", after := #[{ on := 4, ground := Ground.data }], guard := none }) (v := ?_) rfl (by kernel_rfl) (by kernel_rfl) (by kernel_rfl) (fun _ _ _ h => h) (Or.inl ⟨by rfl, ?_⟩) (by assumption) ?_
    rotate_left
    · intro w hSw
      clear hSw
      go_simp
      all_goals with_reducible rfl
    simp only [Act.put, List.setIfInBounds_toArray, List.set_cons_zero, List.set_cons_succ]
    refine wpAnyH_take (i := 7) (oi := { dst := some 36, op := Op.fieldAddr 42 (Operand.tmp 5) 1, type := 0, pos := "ref.go:32", after := #[], guard := none }) (v := ?_) rfl (by kernel_rfl) (by kernel_rfl) (by kernel_rfl) (fun _ _ _ h => h) (Or.inl ⟨by rfl, ?_⟩) (by assumption) ?_
    rotate_left
    · intro w hSw
      clear hSw
      go_simp
      all_goals with_reducible rfl
    simp only [Act.put, List.setIfInBounds_toArray, List.set_cons_zero, List.set_cons_succ]
    refine wpAnyH_take (i := 8) (oi := { dst := some 37, op := Op.load 22 (Operand.tmp 36), type := 22, pos := "ref.go:32", after := #[{ on := 7, ground := Ground.data }], guard := none }) (v := ?_) rfl (by kernel_rfl) (by kernel_rfl) (by kernel_rfl) (fun _ _ _ h => h) (Or.inl ⟨by rfl, ?_⟩) (by assumption) ?_
    rotate_left
    · intro w hSw
      obtain ⟨-, e1⟩ := c_cells (hSw.row P1.out (by have := GA.out; omega))
      clear hSw
      go_simp
      all_goals with_reducible rfl
    simp only [Act.put, List.setIfInBounds_toArray, List.set_cons_zero, List.set_cons_succ]
    refine wpAnyH_take (i := 9) (oi := { dst := some 38, op := Op.convert 22 46 (Operand.tmp 37), type := 46, pos := "ref.go:32", after := #[{ on := 8, ground := Ground.data }], guard := none }) (v := ?_) rfl (by kernel_rfl) (by kernel_rfl) (by kernel_rfl) (fun _ _ _ h => h) (Or.inl ⟨by rfl, ?_⟩) (by assumption) ?_
    rotate_left
    · intro w hSw
      clear hSw
      go_simp
      all_goals with_reducible rfl
    simp only [Act.put, List.setIfInBounds_toArray, List.set_cons_zero, List.set_cons_succ]
    refine wpAnyH_ready (rs := [6]) (by kernel_rfl) (by simp) ?_
    refine step_buildSlice_as (o := { dst := some 35, op := Op.buildSlice 30 1 #[(0, Operand.tmp 34)], type := 30, pos := "ref.go:32", after := #[{ on := 5, ground := Ground.data }], guard := none }) rfl rfl 30 1 [(0, .tmp 34)] rfl [(0, .int .u8 (x.toNat : Int))] rfl _ _ (bs_one Z0 x) AllReadyH.nil ⟨CZ0.out.alloc _, fun hHeld => ?_⟩
    clear hHeld
    simp only [Act.put, List.setIfInBounds_toArray, List.set_cons_zero, List.set_cons_succ]
    obtain ⟨gb, hgb⟩ : ∃ gg, gg = Z0.heap.size := ⟨_, rfl⟩
    rw [← hgb]
    generalize hZ : Z0.alloc _ = Z1
    have hb2 : Below Z0.heap.size Z0 Z1 := by rw [← hZ]; exact (Below.refl _ _).alloc (Nat.le_refl _) _
    have Rgb : Hid (Z1.heap[gb]? = some (.cells (S.v8 [x]) 5 (0, 0))) := by rw [← hZ, hgb]; exact heap_alloc_new _ _
    have Ggb := hide (show wc.heap.size ≤ gb by rw [hgb]; exact CZ0.out.size)
    clear hZ hgb
    replace P0' : Hid (Z1.heap[w.heap.size]? = some (.cells (encT t.id (.slice ao n cap) t.tag).toArray 27 (0, 0))) := (hb2.block _ (block_lt_of_row P0'.out)).trans P0'.out
    replace P2' : Hid (Z1.heap[(w.heap.size + 2)]? = some (.cells tk0 27 (0, 0))) := (hb2.block _ (block_lt_of_row P2'.out)).trans P2'.out
    replace RA' : Hid (Z1.heap[ga]? = some (.cells (encT t.id (.slice uo un uc) (S.zeros 32)).toArray 27 (0, 0))) := (hb2.block _ (block_lt_of_row RA'.out)).trans RA'.out
    replace CR' : Hid (CRow w.heap.size Z1 (.slice uo un uc) (t.cs ++ [c])) := CR'.out.below hb2
    have CZ1 : Hid (Chg (fun k => k = ga) wc Z1) := CZ0.out.then hb2
    clear hb2 CZ0
    have hHeld := CZ1.out
    refine wpAnyH_ready (rs := [10]) (by kernel_rfl) (by simp) ?_
    refine AllReadyH.cons (o := { dst := some 39, op := Op.call { callee := Callee.value (Operand.func 56), args := #[Operand.tmp 35, Operand.tmp 38, Operand.const (Value.int IntKind.i64 4)], argTypes := #[30, 46, 3] }, type := 30, pos := "ref.go:32", after := #[{ on := 6, ground := Ground.data }, { on := 9, ground := Ground.data }], guard := none }) rfl (fun K hK => ?_) AllReadyH.nil
    go_simp
    refine (dnumber_any (.slice (some ⟨gb, 0, none⟩) 1 1) [x] c.n 4 Z1 (row_text Rgb.out rfl (by omega)) (by simp)).mono ?_
    rintro e Z2 ⟨v2, rfl, hu2, ho2, hb2⟩
    rw [size_4, ← HX.out] at hu2
    replace hu2 : URow Z2 v2 (S.cb c) := hu2
    obtain ⟨o2, c2, rfl⟩ := hu2.shape
    have hl2 := S.cb_length c
    obtain ⟨n2, hn2⟩ : ∃ n, n = (S.cb c).length := ⟨_, rfl⟩
    rw [← hn2] at hu2 ⊢
    have S2 := hide (hu2.sliceAt (by rw [hl2]; omega))
    clear hu2 ho2 hn2 hl2
    replace P0' : Hid (Z2.heap[w.heap.size]? = some (.cells (encT t.id (.slice ao n cap) t.tag).toArray 27 (0, 0))) := (hb2.block _ (block_lt_of_row P0'.out)).trans P0'.out
    replace P2' : Hid (Z2.heap[(w.heap.size + 2)]? = some (.cells tk0 27 (0, 0))) := (hb2.block _ (block_lt_of_row P2'.out)).trans P2'.out
    replace RA' : Hid (Z2.heap[ga]? = some (.cells (encT t.id (.slice uo un uc) (S.zeros 32)).toArray 27 (0, 0))) := (hb2.block _ (block_lt_of_row RA'.out)).trans RA'.out
    replace Rgb : Hid (Z2.heap[gb]? = some (.cells (S.v8 [x]) 5 (0, 0))) := (hb2.block _ (block_lt_of_row Rgb.out)).trans Rgb.out
    replace CR' : Hid (CRow w.heap.size Z2 (.slice uo un uc) (t.cs ++ [c])) := CR'.out.below hb2
    have CZ2 : Hid (Chg (fun k => k = ga) wc Z2) := CZ1.out.then hb2
    clear hb2 CZ1
    clear hHeld
    refine hK.out _ _ CZ2.out (fun hHeld => ?_)
    clear hK K
    try simp only [Act.put, List.setIfInBounds_toArray, List.set_cons_zero, List.set_cons_succ]
    refine wpAnyH_ready (rs := [11]) (by kernel_rfl) (by simp) ?_
    refine AllReadyH.cons (o := { dst := some 40, op := Op.call { callee := Callee.value (Operand.func 55), args := #[Operand.tmp 29, Operand.tmp 31, Operand.tmp 39], argTypes := #[50, 30, 30] }, type := 25, pos := "ref.go:32", after := #[{ on := 0, ground := Ground.data }, { on := 2, ground := Ground.data }, { on := 10, ground := Ground.data }, { on := 10, ground := Ground.chain }], guard := none }) rfl (fun K hK => ?_) AllReadyH.nil
    go_simp
    refine (rmac_any gT _ t.tag (.slice o2 n2 c2) (S.cb c) Z2 (((BW.out.trans (CZ2.out.below w.heap.size BW.out.size (fun k hk e => by have := GA.out; omega))).block gT (block_lt_of_row HT.out)).trans HT.out) (mid_part (t_tag P0'.out) HTL.out (block_lt_of_row P0'.out) (by omega)) S2.out (by rw [HTL.out]; omega) (by rw [S.cb_length]; omega)).mono ?_
    rintro e Z3 ⟨rfl, hb2⟩
    obtain ⟨D, hD⟩ : ∃ DD, DD = S.mac t.tag (S.cb c) := ⟨_, rfl⟩
    rw [← hD]
    have LD := hide (show D.length = 32 by rw [hD]; exact S.mac_length _ _)
    have ED := hide hD
    clear hD
    replace P0' : Hid (Z3.heap[w.heap.size]? = some (.cells (encT t.id (.slice ao n cap) t.tag).toArray 27 (0, 0))) := (hb2.block _ (block_lt_of_row P0'.out)).trans P0'.out
    replace P2' : Hid (Z3.heap[(w.heap.size + 2)]? = some (.cells tk0 27 (0, 0))) := (hb2.block _ (block_lt_of_row P2'.out)).trans P2'.out
    replace RA' : Hid (Z3.heap[ga]? = some (.cells (encT t.id (.slice uo un uc) (S.zeros 32)).toArray 27 (0, 0))) := (hb2.block _ (block_lt_of_row RA'.out)).trans RA'.out
    replace Rgb : Hid (Z3.heap[gb]? = some (.cells (S.v8 [x]) 5 (0, 0))) := (hb2.block _ (block_lt_of_row Rgb.out)).trans Rgb.out
    replace CR' : Hid (CRow w.heap.size Z3 (.slice uo un uc) (t.cs ++ [c])) := CR'.out.below hb2
    have CZ3 : Hid (Chg (fun k => k = ga) wc Z3) := CZ2.out.then hb2
    clear hb2 CZ2
    clear hHeld
    refine hK.out _ _ CZ3.out (fun hHeld => ?_)
    clear hK K
    try simp only [Act.put, List.setIfInBounds_toArray, List.set_cons_zero, List.set_cons_succ]
    refine wpAnyH_take (i := 12) (oi := { dst := some 41, op := Op.fieldAddr 27 (Operand.tmp 8) 2, type := 0, pos := "ref.go:32", after := #[{ on := 0, ground := Ground.phase }, { on := 1, ground := Ground.phase }, { on := 2, ground := Ground.phase }, { on := 3, ground := Ground.phase }, { on := 4, ground := Ground.phase }, { on := 5, ground := Ground.phase }, { on := 6, ground := Ground.phase }, { on := 7, ground := Ground.phase }, { on := 8, ground := Ground.phase }, { on := 9, ground := Ground.phase }, { on := 10, ground := Ground.phase }, { on := 11, ground := Ground.phase }], guard := none }) (v := ?_) rfl (by kernel_rfl) (by kernel_rfl) (by kernel_rfl) (fun _ _ _ h => h) (Or.inl ⟨by rfl, ?_⟩) (by assumption) ?_
    rotate_left
    · intro w hSw
      clear hSw
      go_simp
      all_goals with_reducible rfl
    simp only [Act.put, List.setIfInBounds_toArray, List.set_cons_zero, List.set_cons_succ]
    refine wpAnyH_ready (rs := [13]) (by kernel_rfl) (by simp) ?_
    obtain ⟨Z4, hst, r6, C6, s6⟩ := store_tt (D := D) RA'.out (S.zeros_length 32) LD.out
    refine step_store_as (o := { dst := none, op := Op.store 25 (Operand.tmp 41) (Operand.tmp 40), type := 0, pos := "ref.go:32", after := #[{ on := 12, ground := Ground.data }, { on := 11, ground := Ground.data }, { on := 11, ground := Ground.chain }, { on := 0, ground := Ground.phase }, { on := 1, ground := Ground.phase }, { on := 2, ground := Ground.phase }, { on := 3, ground := Ground.phase }, { on := 4, ground := Ground.phase }, { on := 5, ground := Ground.phase }, { on := 6, ground := Ground.phase }, { on := 7, ground := Ground.phase }, { on := 8, ground := Ground.phase }, { on := 9, ground := Ground.phase }, { on := 10, ground := Ground.phase }, { on := 11, ground := Ground.phase }], guard := none }) rfl rfl 25 (.tmp 41) (.tmp 40) rfl _ _ rfl rfl Z4 hst AllReadyH.nil ⟨CZ3.out.trans C6 (fun k hk e => e), fun hHeld => ?_⟩
    have CZ4 : Hid (Chg (fun k => k = ga) wc Z4) := CZ3.out.trans C6 (fun k hk e => e)
    replace CR' : Hid (CRow w.heap.size Z4 (.slice uo un uc) (t.cs ++ [c])) := CR'.out.chg C6 (fun j e e2 => CR'.out.apart RA'.out (by decide) (e2 ▸ e))
    replace P2' : Hid (Z4.heap[w.heap.size + 2]? = some (.cells tk0 27 (0, 0))) := C6.row P2'.out (by have := GA.out; omega)
    replace RA' : Hid (Z4.heap[ga]? = some (.cells (encT t.id (.slice uo un uc) D).toArray 27 (0, 0))) := r6
    clear hst r6 C6 s6 CZ3
    simp only [Act.put]
    refine wpAnyH_done (by kernel_rfl) ?_ _
    refine NoPanic.normal ?_
    clear hHeld
    have BF := hide (BW.out.trans (CZ4.out.below w.heap.size BW.out.size (fun k hk e => by have := GA.out; omega)))
    generalize Z4 = Y at BF RA' P2' CR' ⊢
    obtain ⟨YF, hsf, rf, cf, -⟩ := store_t (id := t.id) (ao := uo) (n := un) (m := uc) (tag := D) P2'.out tk0_size LD.out
    have ld := load_t RA'.out LD.out
    have RF := hide rf
    have CF := hide (CR'.out.chg cf (fun j e e2 => CR'.out.apart P2'.out (by decide) (e2 ▸ e)))
    have BG := hide (BF.out.trans (cf.below w.heap.size BF.out.size (fun j hj e => by omega)))
    have HS := hide hsf
    clear rf cf hsf CR' P2' BF
    have T1 : ∀ (ops : Array Oper) (rest : List Oper) (a : Act) (Q : Exit → Act → World → Prop), a.eval (.tmp 6) = .pointer (some ⟨w.heap.size + 2, 0, none⟩) → a.eval (.tmp 42) = .agg (encT t.id (.slice uo un uc) D).toArray → wpList Tryd.prog ops Q rest (a.put none undef) YF → wpList Tryd.prog ops Q ({ dst := none, op := Op.store 27 (Operand.tmp 6) (Operand.tmp 42), type := 0, pos := "ref.go:33", after := #[{ on := 0, ground := Ground.data }, { on := 0, ground := Ground.phase }], guard := none } :: rest) a Y := fun ops rest a Q h1 h2 h => wpList_store_as rfl 27 (.tmp 6) (.tmp 42) rfl _ _ h1 h2 YF HS.out h
    have HT1 := hide T1
    clear T1
    go_wp2_with (first | (with_reducible refine at_op { dst := some 42, op := Op.load 27 (Operand.tmp 8), type := 27, pos := "ref.go:33", after := #[], guard := none } ?_; refine wpList_load_as rfl 27 (.tmp 8) rfl (.pointer (some ⟨ga, 0, none⟩)) rfl (.agg (encT t.id (.slice uo un uc) D).toArray) ld ?_) | (with_reducible refine at_op { dst := none, op := Op.store 27 (Operand.tmp 6) (Operand.tmp 42), type := 0, pos := "ref.go:33", after := #[{ on := 0, ground := Ground.data }, { on := 0, ground := Ground.phase }], guard := none } ?_; refine HT1.out _ _ _ _ rfl rfl ?_))
    exact bodyPost_ret (v := .tuple #[.agg (encT t.id (.slice uo un uc) D).toArray, .int .i64 0]) (results_rt Tryd.results22 _ _ (w.heap.size + 2) _ rfl (var27 RF.out LD.out)) rfl ⟨⟨.slice uo un uc, by rw [hA2.out, ED.out], by rw [hA2.out]; exact CF.out⟩, BG.out⟩
end Go.Proofs.YtlcilclhaahopaaDoor
