/- Lists of texts in memory; the root of a list, by a closure that calls itself. -/
import Derived.Test.YtkljajfgdelfgaaDoorMc
import Derived.Laws.EntriesVeiled
namespace Go.Proofs.YtkljajfgdelfgaaDoor
open Go.RowKit

namespace S
theorem half_lt' {n : Nat} (h : 2 ≤ n) : half n < n := by
  have := Nat.log2_self_le (show n - 1 ≠ 0 by omega)
  unfold half
  omega
/-- The hash of all leaves. -/
def root (a : Int) (l : List (List UInt8)) : List UInt8 :=
  if _h0 : l.length = 0 then hsh a [] else if _h1 : l.length = 1 then leaf a (l.getD 0 []) else
  node a (root a (l.take (half l.length))) (root a (l.drop (half l.length)))
  termination_by l.length
  decreasing_by
    · have := half_lt' (show 2 ≤ l.length by omega); rw [List.length_take]; omega
    · have := half_pos l.length; rw [List.length_drop]; omega
theorem root_none (a : Int) (l : List (List UInt8)) (h : l.length = 0) : root a l = hsh a [] := by rw [root, dif_pos h]
theorem root_one (a : Int) (l : List (List UInt8)) (h : l.length = 1) : root a l = leaf a (l.getD 0 []) := by rw [root, dif_neg (by omega), dif_pos h]
theorem root_more (a : Int) (l : List (List UInt8)) (h : 2 ≤ l.length) : root a l = node a (root a (l.take (half l.length))) (root a (l.drop (half l.length))) := by rw [root, dif_neg (by omega), dif_neg (by omega)]
theorem root_length (a : Int) (l : List (List UInt8)) : (root a l).length = 32 := by
  rcases (by omega : l.length = 0 ∨ l.length = 1 ∨ 2 ≤ l.length) with h | h | h
  · rw [root_none a l h, hsh_length]
  · rw [root_one a l h, leaf_length]
  · rw [root_more a l h, node_length]
end S
/-- The value v is a slice of slices that read as these texts. -/
def BsAt (w : World) (v : Value) (bss : List (List UInt8)) : Prop :=
  ∃ ao cap, v = .slice ao bss.length cap ∧ bss.length ≤ cap ∧ (0 < bss.length → ∃ b off, ao = some ⟨b, off, none⟩ ∧ b < w.heap.size ∧ ∀ j, j < bss.length → ∃ x, w.cell? ⟨b, off + j, none⟩ = some x ∧ SliceAt w x (bss.getD j []))
theorem BsAt.below {w w' : World} {v : Value} {bss : List (List UInt8)} {B : Nat} (h : BsAt w v bss) (hb : Below B w w') (hB : w.heap.size ≤ B) : BsAt w' v bss := by
  obtain ⟨ao, cap, rfl, h1, h2⟩ := h
  refine ⟨ao, cap, rfl, h1, fun hp => ?_⟩
  obtain ⟨b, off, rfl, h3, h4⟩ := h2 hp
  refine ⟨b, off, rfl, Nat.lt_of_lt_of_le h3 hb.size, fun j hj => ?_⟩
  obtain ⟨x, h5, h6⟩ := h4 j hj
  exact ⟨x, (hb.cell (p := ⟨b, off + j, none⟩) (by show b < B; omega)).trans h5, h6.below hb hB⟩
theorem BsAt.of_heap {w w' : World} {v : Value} {bss : List (List UInt8)} (h : BsAt w v bss) (hh : w'.heap = w.heap) : BsAt w' v bss := by
  obtain ⟨ao, cap, rfl, h1, h2⟩ := h
  refine ⟨ao, cap, rfl, h1, fun hp => ?_⟩
  obtain ⟨b, off, rfl, h3, h4⟩ := h2 hp
  refine ⟨b, off, rfl, by rw [hh]; exact h3, fun j hj => ?_⟩
  obtain ⟨x, h5, h6⟩ := h4 j hj
  exact ⟨x, (World.cell?_of_block (by rw [hh])).trans h5, h6.of_heap hh⟩
theorem BsAt.nil (w : World) : BsAt w (.slice none 0 0) [] := ⟨none, 0, rfl, Nat.le_refl _, fun h => absurd h (by simp)⟩
theorem BsAt.form {w : World} {v : Value} {bss : List (List UInt8)} (h : BsAt w v bss) : ∃ ao cap, v = .slice ao bss.length cap ∧ bss.length ≤ cap := by
  obtain ⟨ao, cap, h1, h2, _⟩ := h
  exact ⟨ao, cap, h1, h2⟩
theorem BsAt.src {w : World} {v : Value} {bss : List (List UInt8)} (h : BsAt w v bss) (hp : 0 < bss.length) : ∃ b off cap, v = .slice (some ⟨b, off, none⟩) bss.length cap ∧ bss.length ≤ cap ∧ b < w.heap.size ∧ ∀ j, j < bss.length → ∃ x, w.cell? ⟨b, off + j, none⟩ = some x ∧ SliceAt w x (bss.getD j []) := by
  obtain ⟨ao, cap, rfl, h1, h2⟩ := h
  obtain ⟨b, off, rfl, h3, h4⟩ := h2 hp
  exact ⟨b, off, cap, rfl, h1, h3, h4⟩
theorem BsAt.take {w : World} {b off cap n : Nat} {bss : List (List UInt8)} (h : BsAt w (.slice (some ⟨b, off, none⟩) n cap) bss) (k : Nat) (hk : k ≤ bss.length) : BsAt w (.slice (some ⟨b, off, none⟩) k cap) (bss.take k) := by
  have hl : (bss.take k).length = k := by rw [List.length_take]; omega
  obtain ⟨ao, c2, e, h1, h2⟩ := h
  simp only [Value.slice.injEq] at e
  obtain ⟨rfl, rfl, rfl⟩ := e
  refine ⟨_, cap, by rw [hl], by omega, fun hp => ?_⟩
  obtain ⟨b', off', e, h3, h4⟩ := h2 (by omega)
  simp only [Option.some.injEq, Addr.mk.injEq, and_true] at e
  obtain ⟨rfl, rfl⟩ := e
  refine ⟨b, off, rfl, h3, fun j hj => ?_⟩
  obtain ⟨x, h5, h6⟩ := h4 j (by omega)
  refine ⟨x, h5, ?_⟩
  rw [List.getD_eq_getElem?_getD, List.getElem?_take, if_pos (by omega), ← List.getD_eq_getElem?_getD]
  exact h6
theorem BsAt.drop {w : World} {b off cap n : Nat} {bss : List (List UInt8)} (h : BsAt w (.slice (some ⟨b, off, none⟩) n cap) bss) (k : Nat) (hk : k ≤ bss.length) : BsAt w (.slice (some ⟨b, off + k, none⟩) (bss.length - k) (cap - k)) (bss.drop k) := by
  have hl : (bss.drop k).length = bss.length - k := by rw [List.length_drop]
  obtain ⟨ao, c2, e, h1, h2⟩ := h
  simp only [Value.slice.injEq] at e
  obtain ⟨rfl, rfl, rfl⟩ := e
  refine ⟨_, cap - k, by rw [hl], by omega, fun hp => ?_⟩
  obtain ⟨b', off', e, h3, h4⟩ := h2 (by omega)
  simp only [Option.some.injEq, Addr.mk.injEq, and_true] at e
  obtain ⟨rfl, rfl⟩ := e
  refine ⟨b, off + k, rfl, h3, fun j hj => ?_⟩
  obtain ⟨x, h5, h6⟩ := h4 (k + j) (by omega)
  refine ⟨x, by rw [Nat.add_assoc]; exact h5, ?_⟩
  rw [List.getD_eq_getElem?_getD, List.getElem?_drop, ← List.getD_eq_getElem?_getD]
  exact h6
/-- No text is too long for a hash. -/
def Fit (bss : List (List UInt8)) : Prop := ∀ b ∈ bss, b.length + 1 ≤ 140737488355000
theorem Fit.take {bss : List (List UInt8)} (h : Fit bss) (k : Nat) : Fit (bss.take k) := fun b hb => h b (List.mem_of_mem_take hb)
theorem Fit.drop {bss : List (List UInt8)} (h : Fit bss) (k : Nat) : Fit (bss.drop k) := fun b hb => h b (List.mem_of_mem_drop hb)
theorem Fit.at {bss : List (List UInt8)} (h : Fit bss) (j : Nat) (hj : j < bss.length) : (bss.getD j []).length + 1 ≤ 140737488355000 := by
  rw [List.getD_eq_getElem?_getD, List.getElem?_eq_getElem hj]
  exact h _ (List.getElem_mem hj)
def rootFn (gw gr : Nat) : Value := .func (.func 47) #[] #[.pointer (some ⟨gw, 0, none⟩), .pointer (some ⟨gr, 0, none⟩)]
set_option maxHeartbeats 4000000 in
set_option maxRecDepth 10000 in
theorem root1_any (a : Int) (gw gr : Nat) : ∀ N (bss : List (List UInt8)) (v : Value) (w : World), bss.length = N → 1 ≤ N → N ≤ 256 → BsAt w v bss → Fit bss → w.heap[gw]? = some (.cells #[.int .i64 a] 3 (0, 0)) → w.heap[gr]? = some (.cells #[rootFn gw gr] 83 (0, 0)) → KAt w →
   Calls Tryd.prog 47 #[v, .pointer (some ⟨gw, 0, none⟩), .pointer (some ⟨gr, 0, none⟩)] w fun e w' => e = .returned (.agg (S.v8 (S.root a bss))) ∧ Below w.heap.size w w' := by
  intro N
  induction N using Nat.strongRecOn with
  | ind N IH =>
  intro bss v w hN h1 h256 hv hf hgw hgr hK
  obtain ⟨b, off, cap, rfl, hcap, hb, hcells⟩ := hv.src (by omega)
  have HV := hide hv
  have HF := hide hf
  have HK := hide hK
  have GW := hide hgw
  have GR := hide hgr
  have HI := hide @IH
  have HC := hide hcells
  have h0 := hK.pos
  have hN2 := hide hN
  rw [hN] at hcap ⊢
  clear hv hf hK hgw hgr IH hcells hN
  by_cases hone : N = 1
  · have q1 : ((N : Int) == 1) = true := by simp; omega
    go_enter Tryd.func47, Tryd.ntmps47
    go_wp2_with fail
    generalize hW0 : w.alloc _ = W0
    have B0 : Hid (Below w.heap.size w W0) := by rw [← hW0]; exact (Below.refl _ _).alloc (Nat.le_refl _) _
    have R0 : Hid (W0.heap[w.heap.size]? = some (.cells (S.v8 (S.zeros 32)) 23 (0, 0))) := by rw [← hW0]; exact heap_alloc_new _ _
    have GW0 : Hid (W0.heap[gw]? = some (.cells #[.int .i64 a] 3 (0, 0))) := (B0.out.block _ (block_lt_of_row GW.out)).trans GW.out
    have GR0 : Hid (W0.heap[gr]? = some (.cells #[rootFn gw gr] 83 (0, 0))) := (B0.out.block _ (block_lt_of_row GR.out)).trans GR.out
    have LW := block_lt_of_row GW.out
    have LR := block_lt_of_row GR.out
    clear hW0 GW GR
    obtain ⟨x, hx, hxs⟩ := HC.out 0 (by have := hN2.out; omega)
    obtain ⟨xo, xl, xc, rfl, hxl, hxm⟩ := hxs.form
    have XS := hide hxs
    have CX : Hid (W0.cell? ⟨b, off, none⟩ = some (.slice xo xl xc)) := (B0.out.cell (p := ⟨b, off, none⟩) hb).trans hx
    clear hx hxs hxl hxm
    subst hone
    clear q1
    refine wp_region_noPanic ?_
    refine wp_region_held_drew (S := (fun W => W.cell? ⟨gw, 0, none⟩ = some (.int .i64 a) ∧ W.cell? ⟨b, off, none⟩ = some (.slice xo xl xc))) follows ⟨cells1 GW0.out, CX.out⟩ (fun hHeld => ?_)
    have BZ : Hid (Below w.heap.size w W0.drew) := B0.out.drew
    have RZ : Hid (W0.drew.heap[w.heap.size]? = some (.cells (S.v8 (S.zeros 32)) 23 (0, 0))) := R0.out
    clear B0 R0 GW0 GR0 CX
    generalize W0.drew = Z at BZ RZ hHeld ⊢
    refine wpAnyH_take (i := 0) (oi := { dst := some 9, op := Op.load 3 (Operand.tmp 1), type := 3, pos := "merkle.go:38", after := #[], guard := none }) (v := ?_) rfl (by kernel_rfl) (by kernel_rfl) (by kernel_rfl) (fun _ _ _ h => h) (Or.inl ⟨by rfl, ?_⟩) (by assumption) ?_
    rotate_left
    · intro w hSw
      have c4 := hSw.1
      clear hSw
      go_simp
      all_goals with_reducible rfl
    simp only [Act.put, List.setIfInBounds_toArray, List.set_cons_zero, List.set_cons_succ]
    refine wpAnyH_take (i := 1) (oi := { dst := some 10, op := Op.move (Operand.tmp 0), type := 53, pos := "merkle.go:38", after := #[], guard := none }) (v := ?_) rfl (by kernel_rfl) (by kernel_rfl) (by kernel_rfl) (fun _ _ _ h => h) (Or.inl ⟨by rfl, ?_⟩) (by assumption) ?_
    rotate_left
    · intro w hSw
      clear hSw
      go_simp
      all_goals with_reducible rfl
    simp only [Act.put, List.setIfInBounds_toArray, List.set_cons_zero, List.set_cons_succ]
    refine wpAnyH_take (i := 2) (oi := { dst := some 11, op := Op.indexAddr 53 (Operand.tmp 10) (Operand.const (Value.int IntKind.i64 0)), type := 0, pos := "merkle.go:38", after := #[{ on := 1, ground := Ground.data }], guard := none }) (v := ?_) rfl (by kernel_rfl) (by kernel_rfl) (by kernel_rfl) (fun _ _ _ h => h) (Or.inl ⟨by rfl, ?_⟩) (by assumption) ?_
    rotate_left
    · intro w hSw
      clear hSw
      go_simp
      all_goals with_reducible rfl
    simp only [Act.put, List.setIfInBounds_toArray, List.set_cons_zero, List.set_cons_succ]
    refine wpAnyH_take (i := 3) (oi := { dst := some 12, op := Op.load 60 (Operand.tmp 11), type := 60, pos := "merkle.go:38", after := #[{ on := 2, ground := Ground.data }], guard := none }) (v := ?_) rfl (by kernel_rfl) (by kernel_rfl) (by kernel_rfl) (fun _ _ _ h => h) (Or.inl ⟨by rfl, ?_⟩) (by assumption) ?_
    rotate_left
    · intro w hSw
      have c4 := hSw.2
      clear hSw
      go_simp
      all_goals with_reducible rfl
    simp only [Act.put, List.setIfInBounds_toArray, List.set_cons_zero, List.set_cons_succ]
    refine wpAnyH_ready (rs := [4]) (by kernel_rfl) (by simp) ?_
    refine AllReadyH.cons (o := { dst := some 13, op := Op.call { callee := Callee.value (Operand.func 30), args := #[Operand.tmp 9, Operand.tmp 12], argTypes := #[3, 60] }, type := 23, pos := "merkle.go:38", after := #[{ on := 0, ground := Ground.data }, { on := 3, ground := Ground.data }], guard := none }) rfl (fun K hK => ?_) AllReadyH.nil
    go_simp
    refine (leaf_any a _ (bss.getD 0 []) Z (XS.out.below BZ.out (Nat.le_refl _)) (Nat.le_trans (HF.out.at 0 (by have := hN2.out; omega)) (by omega)) (HK.out.below BZ.out h0)).mono ?_
    rintro r Z3 ⟨rfl, hb3⟩
    have hz0 := block_lt_of_row RZ.out
    have B3 : Hid (Below w.heap.size w Z3) := BZ.out.trans (hb3.mono BZ.out.size)
    have R3 : Hid (Z3.heap[w.heap.size]? = some (.cells (S.v8 (S.zeros 32)) 23 (0, 0))) := (hb3.block _ hz0).trans RZ.out
    have a3 : Z3.cell? ⟨gw, 0, none⟩ = some (.int .i64 a) ∧ Z3.cell? ⟨b, off, none⟩ = some (.slice xo xl xc) := ⟨(hb3.cell (p := ⟨gw, 0, none⟩) (Nat.lt_of_lt_of_le LW BZ.out.size)).trans hHeld.1, (hb3.cell (p := ⟨b, off, none⟩) (Nat.lt_of_lt_of_le hb BZ.out.size)).trans hHeld.2⟩
    obtain ⟨D, hD⟩ : ∃ D, D = S.leaf a (bss.getD 0 []) := ⟨_, rfl⟩
    have hl : D.length = 32 := by rw [hD, S.leaf_length]
    rw [← hD]
    have HL := hide hl
    have HDD := hide hD
    clear hb3 hz0 BZ RZ hl hD hHeld
    refine hK.out _ _ a3 (fun hHeld => ?_)
    clear hK K
    try simp only [Act.put, List.setIfInBounds_toArray, List.set_cons_zero, List.set_cons_succ]
    clear a3
    obtain ⟨Z4, hst, R6, C6, s6⟩ := store_dig R3.out (S.zeros_length _) HL.out
    have B6 : Below w.heap.size w Z4 := B3.out.trans (C6.below _ B3.out.size (fun k hk e => by omega))
    have hH4 := hHeld
    refine wpAnyH_ready (rs := [5]) (by kernel_rfl) (by simp) ?_
    refine step_store_as (o := { dst := none, op := Op.store 23 (Operand.tmp 4) (Operand.tmp 13), type := 0, pos := "merkle.go:38", after := #[{ on := 4, ground := Ground.data }, { on := 4, ground := Ground.chain }, { on := 0, ground := Ground.phase }, { on := 1, ground := Ground.phase }, { on := 2, ground := Ground.phase }, { on := 3, ground := Ground.phase }, { on := 4, ground := Ground.phase }], guard := none }) rfl rfl 23 (.tmp 4) (.tmp 13) rfl _ _ rfl rfl Z4 hst AllReadyH.nil ⟨?_, fun hHeld => ?_⟩
    · exact ⟨(World.cell?_of_block (C6.block gw (Nat.lt_of_lt_of_le LW B3.out.size) (by omega))).trans hHeld.1, (World.cell?_of_block (C6.block b (Nat.lt_of_lt_of_le hb B3.out.size) (by omega))).trans hHeld.2⟩
    clear hHeld hst hH4
    simp only [Act.put]
    refine wpAnyH_done (by kernel_rfl) ?_ _
    refine NoPanic.normal ?_
    go_wp2_with fail
    exact bodyPost_ret (v := .agg (S.v8 D)) (results_cell_row (g := w.heap.size) (t := 23) (fr := (0, 0)) Tryd.results47 _ _ _ _ rfl R6 Tryd.underlying23 rfl (size_dig D HL.out)) rfl ⟨by rw [S.root_one a bss hN2.out, HDD.out], B6⟩
  · have q1 : ((N : Int) == 1) = false := by simp; omega
    go_enter Tryd.func47, Tryd.ntmps47
    go_wp2_with fail
    generalize hW0 : w.alloc _ = W0
    have B0 : Hid (Below w.heap.size w W0) := by rw [← hW0]; exact (Below.refl _ _).alloc (Nat.le_refl _) _
    have R0 : Hid (W0.heap[w.heap.size]? = some (.cells (S.v8 (S.zeros 32)) 23 (0, 0))) := by rw [← hW0]; exact heap_alloc_new _ _
    have GW0 : Hid (W0.heap[gw]? = some (.cells #[.int .i64 a] 3 (0, 0))) := (B0.out.block _ (block_lt_of_row GW.out)).trans GW.out
    have GR0 : Hid (W0.heap[gr]? = some (.cells #[rootFn gw gr] 83 (0, 0))) := (B0.out.block _ (block_lt_of_row GR.out)).trans GR.out
    have LW := block_lt_of_row GW.out
    have LR := block_lt_of_row GR.out
    clear hW0 GW GR
    clear q1
    refine (parting_any N (by omega) h256 W0).mono ?_
    rintro e w3 ⟨rfl, rfl⟩
    obtain ⟨k, hk⟩ : ∃ k, k = S.half N := ⟨_, rfl⟩
    have hkl : k < N := by rw [hk]; exact S.half_lt h256 (by omega)
    have hkp : 0 < k := by rw [hk]; exact S.half_pos N
    rw [← hk]
    have HKK := hide hk
    clear hk
    go_wp2_with fail
    refine wp_region_noPanic ?_
    refine wp_region_held_drew (S := (fun W => W.cell? ⟨gw, 0, none⟩ = some (.int .i64 a) ∧ W.cell? ⟨gr, 0, none⟩ = some (rootFn gw gr))) follows ⟨cells1 GW0.out, cells1 GR0.out⟩ (fun hHeld => ?_)
    have BZ : Hid (Below w.heap.size w W0.drew) := B0.out.drew
    have RZ : Hid (W0.drew.heap[w.heap.size]? = some (.cells (S.v8 (S.zeros 32)) 23 (0, 0))) := R0.out
    have GWZ : Hid (W0.drew.heap[gw]? = some (.cells #[.int .i64 a] 3 (0, 0))) := GW0.out
    have GRZ : Hid (W0.drew.heap[gr]? = some (.cells #[rootFn gw gr] 83 (0, 0))) := GR0.out
    clear B0 R0 GW0 GR0
    generalize W0.drew = Z at BZ RZ GWZ GRZ hHeld ⊢
    have q2 : (0 : Int) ≤ (k : Int) := by omega
    have q3 : (k : Int) ≤ (cap : Int) := by omega
    have q4 : (k : Int) ≤ (N : Int) := by omega
    have q5 : (N : Int) ≤ (cap : Int) := by omega
    have q6 : ¬ cap = k := by omega
    refine wpAnyH_take (i := 0) (oi := { dst := some 17, op := Op.load 3 (Operand.tmp 1), type := 3, pos := "merkle.go:41", after := #[], guard := none }) (v := ?_) rfl (by kernel_rfl) (by kernel_rfl) (by kernel_rfl) (fun _ _ _ h => h) (Or.inl ⟨by rfl, ?_⟩) (by assumption) ?_
    rotate_left
    · intro w hSw
      have c4 := hSw.1
      clear hSw
      go_simp
      all_goals with_reducible rfl
    simp only [Act.put, List.setIfInBounds_toArray, List.set_cons_zero, List.set_cons_succ]
    refine wpAnyH_take (i := 1) (oi := { dst := some 18, op := Op.load 83 (Operand.tmp 2), type := 83, pos := "merkle.go:41", after := #[], guard := none }) (v := ?_) rfl (by kernel_rfl) (by kernel_rfl) (by kernel_rfl) (fun _ _ _ h => h) (Or.inl ⟨by rfl, ?_⟩) (by assumption) ?_
    rotate_left
    · intro w hSw
      have c4 := hSw.2
      clear hSw
      go_simp
      all_goals with_reducible rfl
    simp only [Act.put, List.setIfInBounds_toArray, List.set_cons_zero, List.set_cons_succ]
    refine wpAnyH_take (i := 2) (oi := { dst := some 19, op := Op.move (Operand.tmp 0), type := 53, pos := "merkle.go:41", after := #[], guard := none }) (v := ?_) rfl (by kernel_rfl) (by kernel_rfl) (by kernel_rfl) (fun _ _ _ h => h) (Or.inl ⟨by rfl, ?_⟩) (by assumption) ?_
    rotate_left
    · intro w hSw
      clear hSw
      go_simp
      all_goals with_reducible rfl
    simp only [Act.put, List.setIfInBounds_toArray, List.set_cons_zero, List.set_cons_succ]
    refine wpAnyH_take (i := 3) (oi := { dst := some 20, op := Op.move (Operand.tmp 5), type := 3, pos := "merkle.go:41", after := #[], guard := none }) (v := ?_) rfl (by kernel_rfl) (by kernel_rfl) (by kernel_rfl) (fun _ _ _ h => h) (Or.inl ⟨by rfl, ?_⟩) (by assumption) ?_
    rotate_left
    · intro w hSw
      clear hSw
      go_simp
      all_goals with_reducible rfl
    simp only [Act.put, List.setIfInBounds_toArray, List.set_cons_zero, List.set_cons_succ]
    refine wpAnyH_take (i := 4) (oi := { dst := some 21, op := Op.slice 53 (Operand.tmp 19) none (some (Operand.tmp 20)) none, type := 53, pos := "merkle.go:41", after := #[{ on := 2, ground := Ground.data }, { on := 3, ground := Ground.data }], guard := none }) (v := ?_) rfl (by kernel_rfl) (by kernel_rfl) (by kernel_rfl) (fun _ _ _ h => h) (Or.inl ⟨by rfl, ?_⟩) (by assumption) ?_
    rotate_left
    · intro w hSw
      clear hSw
      go_simp
      all_goals with_reducible rfl
    simp only [Act.put, List.setIfInBounds_toArray, List.set_cons_zero, List.set_cons_succ]
    refine wpAnyH_take (i := 6) (oi := { dst := some 23, op := Op.load 83 (Operand.tmp 2), type := 83, pos := "merkle.go:41", after := #[], guard := none }) (v := ?_) rfl (by kernel_rfl) (by kernel_rfl) (by kernel_rfl) (fun _ _ _ h => h) (Or.inl ⟨by rfl, ?_⟩) (by assumption) ?_
    rotate_left
    · intro w hSw
      have c4 := hSw.2
      clear hSw
      go_simp
      all_goals with_reducible rfl
    simp only [Act.put, List.setIfInBounds_toArray, List.set_cons_zero, List.set_cons_succ]
    refine wpAnyH_take (i := 7) (oi := { dst := some 24, op := Op.move (Operand.tmp 0), type := 53, pos := "merkle.go:41", after := #[], guard := none }) (v := ?_) rfl (by kernel_rfl) (by kernel_rfl) (by kernel_rfl) (fun _ _ _ h => h) (Or.inl ⟨by rfl, ?_⟩) (by assumption) ?_
    rotate_left
    · intro w hSw
      clear hSw
      go_simp
      all_goals with_reducible rfl
    simp only [Act.put, List.setIfInBounds_toArray, List.set_cons_zero, List.set_cons_succ]
    refine wpAnyH_take (i := 8) (oi := { dst := some 25, op := Op.move (Operand.tmp 5), type := 3, pos := "merkle.go:41", after := #[], guard := none }) (v := ?_) rfl (by kernel_rfl) (by kernel_rfl) (by kernel_rfl) (fun _ _ _ h => h) (Or.inl ⟨by rfl, ?_⟩) (by assumption) ?_
    rotate_left
    · intro w hSw
      clear hSw
      go_simp
      all_goals with_reducible rfl
    simp only [Act.put, List.setIfInBounds_toArray, List.set_cons_zero, List.set_cons_succ]
    refine wpAnyH_take (i := 9) (oi := { dst := some 26, op := Op.slice 53 (Operand.tmp 24) (some (Operand.tmp 25)) none none, type := 53, pos := "merkle.go:41", after := #[{ on := 7, ground := Ground.data }, { on := 8, ground := Ground.data }], guard := none }) (v := ?_) rfl (by kernel_rfl) (by kernel_rfl) (by kernel_rfl) (fun _ _ _ h => h) (Or.inl ⟨by rfl, ?_⟩) (by assumption) ?_
    rotate_left
    · intro w hSw
      clear hSw
      go_simp
      all_goals with_reducible rfl
    simp only [Act.put, List.setIfInBounds_toArray, List.set_cons_zero, List.set_cons_succ]
    clear q2 q3 q4 q5 q6
    refine wpAnyH_ready (rs := [5]) (by kernel_rfl) (by simp) ?_
    refine AllReadyH.cons (o := { dst := some 22, op := Op.call { callee := Callee.value (Operand.tmp 18), args := #[Operand.tmp 21], argTypes := #[53] }, type := 23, pos := "merkle.go:41", after := #[{ on := 1, ground := Ground.data }, { on := 4, ground := Ground.data }], guard := none }) rfl (fun K hK => ?_) AllReadyH.nil
    go_simp
    have VT := hide ((HV.out.take k (by have := hN2.out; omega)).below BZ.out (Nat.le_refl _))
    refine (HI.out k hkl (bss.take k) _ Z (by rw [List.length_take]; have := hN2.out; omega) (by omega) (by omega) VT.out (HF.out.take k) GWZ.out GRZ.out (HK.out.below BZ.out h0)).mono ?_
    rintro r Z2 ⟨rfl, hb2⟩
    have hz0 := block_lt_of_row RZ.out
    have B2 : Hid (Below w.heap.size w Z2) := BZ.out.trans (hb2.mono BZ.out.size)
    have R2 : Hid (Z2.heap[w.heap.size]? = some (.cells (S.v8 (S.zeros 32)) 23 (0, 0))) := (hb2.block _ hz0).trans RZ.out
    have GW2 : Hid (Z2.heap[gw]? = some (.cells #[.int .i64 a] 3 (0, 0))) := (hb2.block _ (block_lt_of_row GWZ.out)).trans GWZ.out
    have GR2 : Hid (Z2.heap[gr]? = some (.cells #[rootFn gw gr] 83 (0, 0))) := (hb2.block _ (block_lt_of_row GRZ.out)).trans GRZ.out
    obtain ⟨D1, hD1⟩ : ∃ D, D = S.root a (bss.take k) := ⟨_, rfl⟩
    rw [← hD1]
    have HD1 := hide hD1
    have a3 : Z2.cell? ⟨gw, 0, none⟩ = some (.int .i64 a) ∧ Z2.cell? ⟨gr, 0, none⟩ = some (rootFn gw gr) := ⟨cells1 GW2.out, cells1 GR2.out⟩
    clear hHeld hb2 hz0 BZ RZ GWZ GRZ VT hD1
    refine hK.out _ _ a3 (fun hHeld => ?_)
    clear hK K
    try simp only [Act.put, List.setIfInBounds_toArray, List.set_cons_zero, List.set_cons_succ]
    clear a3
    refine wpAnyH_ready (rs := [10]) (by kernel_rfl) (by simp) ?_
    refine AllReadyH.cons (o := { dst := some 27, op := Op.call { callee := Callee.value (Operand.tmp 23), args := #[Operand.tmp 26], argTypes := #[53] }, type := 23, pos := "merkle.go:41", after := #[{ on := 6, ground := Ground.data }, { on := 9, ground := Ground.data }, { on := 5, ground := Ground.chain }], guard := none }) rfl (fun K hK => ?_) AllReadyH.nil
    go_simp
    have VD : Hid (BsAt Z2 (.slice (some ⟨b, off + k, none⟩) (N - k) (cap - k)) (bss.drop k)) := by have := (HV.out.drop k (by have := hN2.out; omega)).below B2.out (Nat.le_refl _); rw [hN2.out] at this; exact this
    refine (HI.out (N - k) (by omega) (bss.drop k) _ Z2 (by rw [List.length_drop, hN2.out]) (by omega) (by omega) VD.out (HF.out.drop k) GW2.out GR2.out (HK.out.below B2.out h0)).mono ?_
    rintro r Z3 ⟨rfl, hb2⟩
    have hz0 := block_lt_of_row R2.out
    have B4 : Hid (Below w.heap.size w Z3) := B2.out.trans (hb2.mono B2.out.size)
    have R4 : Hid (Z3.heap[w.heap.size]? = some (.cells (S.v8 (S.zeros 32)) 23 (0, 0))) := (hb2.block _ hz0).trans R2.out
    have GW4 : Hid (Z3.heap[gw]? = some (.cells #[.int .i64 a] 3 (0, 0))) := (hb2.block _ (block_lt_of_row GW2.out)).trans GW2.out
    have GR4 : Hid (Z3.heap[gr]? = some (.cells #[rootFn gw gr] 83 (0, 0))) := (hb2.block _ (block_lt_of_row GR2.out)).trans GR2.out
    obtain ⟨D2, hD2⟩ : ∃ D, D = S.root a (bss.drop k) := ⟨_, rfl⟩
    rw [← hD2]
    have HD2 := hide hD2
    have a3 : Z3.cell? ⟨gw, 0, none⟩ = some (.int .i64 a) ∧ Z3.cell? ⟨gr, 0, none⟩ = some (rootFn gw gr) := ⟨cells1 GW4.out, cells1 GR4.out⟩
    clear hHeld hb2 hz0 B2 R2 GW2 GR2 VD hD2
    refine hK.out _ _ a3 (fun hHeld => ?_)
    clear hK K
    try simp only [Act.put, List.setIfInBounds_toArray, List.set_cons_zero, List.set_cons_succ]
    clear a3
    refine wpAnyH_ready (rs := [11]) (by kernel_rfl) (by simp) ?_
    refine AllReadyH.cons (o := { dst := some 28, op := Op.call { callee := Callee.value (Operand.func 37), args := #[Operand.tmp 17, Operand.tmp 22, Operand.tmp 27], argTypes := #[3, 23, 23] }, type := 23, pos := "merkle.go:41", after := #[{ on := 0, ground := Ground.data }, { on := 5, ground := Ground.data }, { on := 10, ground := Ground.data }, { on := 10, ground := Ground.chain }], guard := none }) rfl (fun K hK => ?_) AllReadyH.nil
    go_simp
    refine (node_any a D1 D2 (by rw [HD1.out, S.root_length]) (by rw [HD2.out, S.root_length]) Z3 (HK.out.below B4.out h0)).mono ?_
    rintro r Z5 ⟨rfl, hb3⟩
    have hz0 := block_lt_of_row R4.out
    have B3 : Hid (Below w.heap.size w Z5) := B4.out.trans (hb3.mono B4.out.size)
    have R3 : Hid (Z5.heap[w.heap.size]? = some (.cells (S.v8 (S.zeros 32)) 23 (0, 0))) := (hb3.block _ hz0).trans R4.out
    have a3 : Z5.cell? ⟨gw, 0, none⟩ = some (.int .i64 a) ∧ Z5.cell? ⟨gr, 0, none⟩ = some (rootFn gw gr) := ⟨cells1 ((hb3.block _ (block_lt_of_row GW4.out)).trans GW4.out), cells1 ((hb3.block _ (block_lt_of_row GR4.out)).trans GR4.out)⟩
    obtain ⟨D, hD⟩ : ∃ D, D = S.node a D1 D2 := ⟨_, rfl⟩
    have hl : D.length = 32 := by rw [hD, S.node_length]
    rw [← hD]
    have HL := hide hl
    have HDD := hide hD
    clear hb3 hz0 B4 R4 GW4 GR4 hl hD hHeld
    refine hK.out _ _ a3 (fun hHeld => ?_)
    clear hK K
    try simp only [Act.put, List.setIfInBounds_toArray, List.set_cons_zero, List.set_cons_succ]
    clear a3
    obtain ⟨Z4, hst, R6, C6, s6⟩ := store_dig R3.out (S.zeros_length _) HL.out
    have B6 : Below w.heap.size w Z4 := B3.out.trans (C6.below _ B3.out.size (fun k hk e => by omega))
    have hH4 := hHeld
    refine wpAnyH_ready (rs := [12]) (by kernel_rfl) (by simp) ?_
    refine step_store_as (o := { dst := none, op := Op.store 23 (Operand.tmp 4) (Operand.tmp 28), type := 0, pos := "merkle.go:41", after := #[{ on := 11, ground := Ground.data }, { on := 11, ground := Ground.chain }, { on := 0, ground := Ground.phase }, { on := 1, ground := Ground.phase }, { on := 2, ground := Ground.phase }, { on := 3, ground := Ground.phase }, { on := 4, ground := Ground.phase }, { on := 5, ground := Ground.phase }, { on := 6, ground := Ground.phase }, { on := 7, ground := Ground.phase }, { on := 8, ground := Ground.phase }, { on := 9, ground := Ground.phase }, { on := 10, ground := Ground.phase }, { on := 11, ground := Ground.phase }], guard := none }) rfl rfl 23 (.tmp 4) (.tmp 28) rfl _ _ rfl rfl Z4 hst AllReadyH.nil ⟨?_, fun hHeld => ?_⟩
    · exact ⟨(World.cell?_of_block (C6.block gw (Nat.lt_of_lt_of_le LW B3.out.size) (by omega))).trans hHeld.1, (World.cell?_of_block (C6.block gr (Nat.lt_of_lt_of_le LR B3.out.size) (by omega))).trans hHeld.2⟩
    clear hHeld hst hH4
    simp only [Act.put]
    refine wpAnyH_done (by kernel_rfl) ?_ _
    refine NoPanic.normal ?_
    go_wp2_with fail
    exact bodyPost_ret (v := .agg (S.v8 D)) (results_cell_row (g := w.heap.size) (t := 23) (fr := (0, 0)) Tryd.results47 _ _ _ _ rfl R6 Tryd.underlying23 rfl (size_dig D HL.out)) rfl ⟨by rw [S.root_more a bss (by have := hN2.out; omega), hN2.out, ← HKK.out, ← HD1.out, ← HD2.out, HDD.out], B6⟩
end Go.Proofs.YtkljajfgdelfgaaDoor
namespace Go.Proofs.YtkljajfgdelfgaaDoor
open Go.RowKit

set_option maxHeartbeats 2000000 in
set_option maxRecDepth 10000 in
theorem root_any (a : Int) (v : Value) (bss : List (List UInt8)) (w : World) (hv : BsAt w v bss) (hl : bss.length ≤ 256) (hf : Fit bss) (hK : KAt w) :
   Calls Tryd.prog 31 #[.int .i64 a, v] w fun e w' => e = .returned (.agg (S.v8 (S.root a bss))) ∧ Below w.heap.size w w' := by
  obtain ⟨ao, cap, rfl, hcap⟩ := hv.form
  have HV := hide hv
  have HF := hide hf
  have HK := hide hK
  have h0 := hK.pos
  obtain ⟨N, hN⟩ : ∃ N, N = bss.length := ⟨_, rfl⟩
  have HN := hide hN
  rw [← hN] at hl hcap HV ⊢
  clear hv hf hK hN
  have hmf : ∀ (fn : Fn) (first cap : Array Value) (w : World), (Instr.makeFunc fn first cap).run Tryd.prog w = .ok (.func fn first cap) w := fun _ _ _ _ => rfl
  by_cases hone : N = 0
  · have q1 : ((N : Int) == 0) = true := by simp; omega
    go_enter Tryd.func31, Tryd.ntmps31
    go_wp2_with fail
    generalize hW0 : w.alloc (.cells #[.int .i64 a] 3) = W0
    generalize hW1 : W0.alloc _ = W1
    have B0 : Below w.heap.size w W0 := by rw [← hW0]; exact (Below.refl _ _).alloc (Nat.le_refl _) _
    have B1 : Below W0.heap.size W0 W1 := by rw [← hW1]; exact (Below.refl _ _).alloc (Nat.le_refl _) _
    have s0 : W0.heap.size = w.heap.size + 1 := by rw [← hW0]; simp
    have R1 : Hid (W1.heap[w.heap.size + 1]? = some (.cells (S.v8 (S.zeros 32)) 23 (0, 0))) := by rw [← hW1, ← s0]; exact heap_alloc_new _ _
    have BB : Hid (Below w.heap.size w W1) := B0.trans (B1.mono (by omega))
    clear hW0 hW1 B0 B1 s0
    refine (hash_nil a W1 (HK.out.below BB.out h0)).mono ?_
    rintro e W2 ⟨rfl, hb2⟩
    have hz0 := block_lt_of_row R1.out
    have B2 : Hid (Below w.heap.size w W2) := BB.out.trans (hb2.mono BB.out.size)
    have R2 : Hid (W2.heap[w.heap.size + 1]? = some (.cells (S.v8 (S.zeros 32)) 23 (0, 0))) := (hb2.block _ hz0).trans R1.out
    obtain ⟨D, hD⟩ : ∃ D, D = S.hsh a [] := ⟨_, rfl⟩
    have hl2 : D.length = 32 := by rw [hD, S.hsh_length]
    rw [← hD]
    have HL := hide hl2
    have HD := hide hD
    clear hD hl2 hb2 hz0 R1 BB
    go_wp2_with (refine wpList_store_row rfl 23 _ _ rfl (w.heap.size + 1) (S.v8 D) rfl rfl 23 _ R2.out (size_dig D HL.out) (zeros_dig D HL.out) (S.v8_one _) ?_)
    exact bodyPost_ret (v := .agg (S.v8 D)) (results_cell_row (g := w.heap.size + 1) (t := 23) (fr := (0, 0)) Tryd.results31 _ _ _ _ rfl (setRow_heap _ _ _ _ _ _ R2.out) Tryd.underlying23 rfl (size_dig D HL.out)) rfl ⟨by rw [S.root_none a bss (by rw [← HN.out]; exact hone), HD.out], below_setRow B2.out (by omega) _⟩
  · have q1 : ((N : Int) == 0) = false := by simp; omega
    go_enter Tryd.func31, Tryd.ntmps31
    go_wp2_with fail
    generalize hW0 : w.alloc (.cells #[.int .i64 a] 3) = W0
    generalize hW1 : W0.alloc (.cells _ 23) = W1
    generalize hW2 : W1.alloc (.cells _ 83) = W2
    have B0 : Below w.heap.size w W0 := by rw [← hW0]; exact (Below.refl _ _).alloc (Nat.le_refl _) _
    have B1 : Below W0.heap.size W0 W1 := by rw [← hW1]; exact (Below.refl _ _).alloc (Nat.le_refl _) _
    have B2 : Below W1.heap.size W1 W2 := by rw [← hW2]; exact (Below.refl _ _).alloc (Nat.le_refl _) _
    have s0 : W0.heap.size = w.heap.size + 1 := by rw [← hW0]; simp
    have s1 : W1.heap.size = w.heap.size + 2 := by rw [← hW1]; simp [s0]
    have r0 : W0.heap[w.heap.size]? = some (.cells #[.int .i64 a] 3 (0, 0)) := by rw [← hW0]; exact heap_alloc_new _ _
    have r1 : W1.heap[w.heap.size + 1]? = some (.cells (S.v8 (S.zeros 32)) 23 (0, 0)) := by rw [← hW1, ← s0]; exact heap_alloc_new _ _
    have R3 : Hid (W2.heap[w.heap.size + 2]? = some (.cells #[rootFn w.heap.size (w.heap.size + 2)] 83 (0, 0))) := by rw [← hW2, ← s1]; exact (heap_alloc_new _ _).trans (by rw [s1]; rfl)
    have GW : Hid (W2.heap[w.heap.size]? = some (.cells #[.int .i64 a] 3 (0, 0))) := (B2.block _ (by omega)).trans ((B1.block _ (by omega)).trans r0)
    have R1 : Hid (W2.heap[w.heap.size + 1]? = some (.cells (S.v8 (S.zeros 32)) 23 (0, 0))) := (B2.block _ (by omega)).trans r1
    have BB : Hid (Below w.heap.size w W2) := (B0.trans (B1.mono (by omega))).trans (B2.mono (by omega))
    clear hW0 hW1 hW2 B0 B1 B2 s0 s1 r0 r1
    refine (root1_any a w.heap.size (w.heap.size + 2) N bss _ W2 HN.out.symm (by omega) hl (HV.out.below BB.out (Nat.le_refl _)) HF.out GW.out R3.out (HK.out.below BB.out h0)).mono ?_
    rintro e W4 ⟨rfl, hb2⟩
    have hz0 := block_lt_of_row R1.out
    have B2 : Hid (Below w.heap.size w W4) := BB.out.trans (hb2.mono BB.out.size)
    have R2 : Hid (W4.heap[w.heap.size + 1]? = some (.cells (S.v8 (S.zeros 32)) 23 (0, 0))) := (hb2.block _ hz0).trans R1.out
    obtain ⟨D, hD⟩ : ∃ D, D = S.root a bss := ⟨_, rfl⟩
    have hl2 : D.length = 32 := by rw [hD, S.root_length]
    rw [← hD]
    have HL := hide hl2
    have HD := hide hD
    clear hD hl2 hb2 hz0 R1 BB GW R3
    go_wp2_with (refine wpList_store_row rfl 23 _ _ rfl (w.heap.size + 1) (S.v8 D) rfl rfl 23 _ R2.out (size_dig D HL.out) (zeros_dig D HL.out) (S.v8_one _) ?_)
    exact bodyPost_ret (v := .agg (S.v8 D)) (results_cell_row (g := w.heap.size + 1) (t := 23) (fr := (0, 0)) Tryd.results31 _ _ _ _ rfl (setRow_heap _ _ _ _ _ _ R2.out) Tryd.underlying23 rfl (size_dig D HL.out)) rfl ⟨by rw [HD.out], below_setRow B2.out (by omega) _⟩
end Go.Proofs.YtkljajfgdelfgaaDoor
