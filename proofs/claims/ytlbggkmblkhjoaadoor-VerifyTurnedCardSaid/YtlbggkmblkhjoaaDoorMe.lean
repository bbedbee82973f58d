/- The root of a list. -/
import Derived.Test.YtlbggkmblkhjoaaDoorMd
import Derived.Laws.EntriesVeiled
namespace Go.Proofs.YtlbggkmblkhjoaaDoor
open Go.RowKit

set_option maxHeartbeats 2000000 in
set_option maxRecDepth 10000 in
theorem root_any (a : Int) (v : Value) (bss : List (List UInt8)) (w : World) (hv : BsAt w v bss) (hl : bss.length ≤ 256) (hf : Fit bss) (hK : KAt w) :
   Calls Tryd.prog 27 #[.int .i64 a, v] w fun e w' => e = .returned (.agg (S.v8 (S.root a bss))) ∧ Below w.heap.size w w' := by
  obtain ⟨ao, cap, rfl, hcap⟩ := hv.form
  have HV := hide hv
  have HF := hide hf
  have HK := hide hK
  have h0 := hK.pos
  obtain ⟨N, hN⟩ : ∃ N, N = bss.length := ⟨_, rfl⟩
  have HN := hide hN
  rw [← hN] at hl hcap HV ⊢
  clear hv hf hK hN
  have hmf : ∀ (fn : Fn) (first cap : Array Value) (w : World), (Instr.makeFunc fn first cap).run Tryd.prog w = .ok (.func fn first cap) w := fun _ _ _ _ => rfl
  by_cases hone : N = 0
  · have q1 : ((N : Int) == 0) = true := by simp; omega
    go_enter Tryd.func27, Tryd.ntmps27
    go_wp2_with fail
    generalize hW0 : w.alloc (.cells #[.int .i64 a] 3) = W0
    generalize hW1 : W0.alloc _ = W1
    have B0 : Below w.heap.size w W0 := by rw [← hW0]; exact (Below.refl _ _).alloc (Nat.le_refl _) _
    have B1 : Below W0.heap.size W0 W1 := by rw [← hW1]; exact (Below.refl _ _).alloc (Nat.le_refl _) _
    have s0 : W0.heap.size = w.heap.size + 1 := by rw [← hW0]; simp
    have R1 : Hid (W1.heap[w.heap.size + 1]? = some (.cells (S.v8 (S.zeros 32)) 23 (0, 0))) := by rw [← hW1, ← s0]; exact heap_alloc_new _ _
    have BB : Hid (Below w.heap.size w W1) := B0.trans (B1.mono (by omega))
    clear hW0 hW1 B0 B1 s0
    refine (hash_nil a W1 (HK.out.below BB.out h0)).mono ?_
    rintro e W2 ⟨rfl, hb2⟩
    have hz0 := block_lt_of_row R1.out
    have B2 : Hid (Below w.heap.size w W2) := BB.out.trans (hb2.mono BB.out.size)
    have R2 : Hid (W2.heap[w.heap.size + 1]? = some (.cells (S.v8 (S.zeros 32)) 23 (0, 0))) := (hb2.block _ hz0).trans R1.out
    obtain ⟨D, hD⟩ : ∃ D, D = S.hsh a [] := ⟨_, rfl⟩
    have hl2 : D.length = 32 := by rw [hD, S.hsh_length]
    rw [← hD]
    have HL := hide hl2
    have HD := hide hD
    clear hD hl2 hb2 hz0 R1 BB
    go_wp2_with (refine wpList_store_row rfl 23 _ _ rfl (w.heap.size + 1) (S.v8 D) rfl rfl 23 _ R2.out (size_dig D HL.out) (zeros_dig D HL.out) (S.v8_one _) ?_)
    exact bodyPost_ret (v := .agg (S.v8 D)) (results_cell_row (g := w.heap.size + 1) (t := 23) (fr := (0, 0)) Tryd.results27 _ _ _ _ rfl (setRow_heap _ _ _ _ _ _ R2.out) Tryd.underlying23 rfl (size_dig D HL.out)) rfl ⟨by rw [S.root_none a bss (by rw [← HN.out]; exact hone), HD.out], below_setRow B2.out (by omega) _⟩
  · have q1 : ((N : Int) == 0) = false := by simp; omega
    go_enter Tryd.func27, Tryd.ntmps27
    go_wp2_with fail
    generalize hW0 : w.alloc (.cells #[.int .i64 a] 3) = W0
    generalize hW1 : W0.alloc (.cells _ 23) = W1
    generalize hW2 : W1.alloc (.cells _ 45) = W2
    have B0 : Below w.heap.size w W0 := by rw [← hW0]; exact (Below.refl _ _).alloc (Nat.le_refl _) _
    have B1 : Below W0.heap.size W0 W1 := by rw [← hW1]; exact (Below.refl _ _).alloc (Nat.le_refl _) _
    have B2 : Below W1.heap.size W1 W2 := by rw [← hW2]; exact (Below.refl _ _).alloc (Nat.le_refl _) _
    have s0 : W0.heap.size = w.heap.size + 1 := by rw [← hW0]; simp
    have s1 : W1.heap.size = w.heap.size + 2 := by rw [← hW1]; simp [s0]
    have r0 : W0.heap[w.heap.size]? = some (.cells #[.int .i64 a] 3 (0, 0)) := by rw [← hW0]; exact heap_alloc_new _ _
    have r1 : W1.heap[w.heap.size + 1]? = some (.cells (S.v8 (S.zeros 32)) 23 (0, 0)) := by rw [← hW1, ← s0]; exact heap_alloc_new _ _
    have R3 : Hid (W2.heap[w.heap.size + 2]? = some (.cells #[rootFn w.heap.size (w.heap.size + 2)] 45 (0, 0))) := by rw [← hW2, ← s1]; exact (heap_alloc_new _ _).trans (by rw [s1]; rfl)
    have GW : Hid (W2.heap[w.heap.size]? = some (.cells #[.int .i64 a] 3 (0, 0))) := (B2.block _ (by omega)).trans ((B1.block _ (by omega)).trans r0)
    have R1 : Hid (W2.heap[w.heap.size + 1]? = some (.cells (S.v8 (S.zeros 32)) 23 (0, 0))) := (B2.block _ (by omega)).trans r1
    have BB : Hid (Below w.heap.size w W2) := (B0.trans (B1.mono (by omega))).trans (B2.mono (by omega))
    clear hW0 hW1 hW2 B0 B1 B2 s0 s1 r0 r1
    refine (root1_any a w.heap.size (w.heap.size + 2) N bss _ W2 HN.out.symm (by omega) hl (HV.out.below BB.out (Nat.le_refl _)) HF.out GW.out R3.out (HK.out.below BB.out h0)).mono ?_
    rintro e W4 ⟨rfl, hb2⟩
    have hz0 := block_lt_of_row R1.out
    have B2 : Hid (Below w.heap.size w W4) := BB.out.trans (hb2.mono BB.out.size)
    have R2 : Hid (W4.heap[w.heap.size + 1]? = some (.cells (S.v8 (S.zeros 32)) 23 (0, 0))) := (hb2.block _ hz0).trans R1.out
    obtain ⟨D, hD⟩ : ∃ D, D = S.root a bss := ⟨_, rfl⟩
    have hl2 : D.length = 32 := by rw [hD, S.root_length]
    rw [← hD]
    have HL := hide hl2
    have HD := hide hD
    clear hD hl2 hb2 hz0 R1 BB GW R3
    go_wp2_with (refine wpList_store_row rfl 23 _ _ rfl (w.heap.size + 1) (S.v8 D) rfl rfl 23 _ R2.out (size_dig D HL.out) (zeros_dig D HL.out) (S.v8_one _) ?_)
    exact bodyPost_ret (v := .agg (S.v8 D)) (results_cell_row (g := w.heap.size + 1) (t := 23) (fr := (0, 0)) Tryd.results27 _ _ _ _ rfl (setRow_heap _ _ _ _ _ _ R2.out) Tryd.underlying23 rfl (size_dig D HL.out)) rfl ⟨by rw [HD.out], below_setRow B2.out (by omega) _⟩
end Go.Proofs.YtlbggkmblkhjoaaDoor
