/- The verifier's own small functions: how many bytes count, a digest cut, a step of a leaf. -/
import Derived.Test.YtlbggkmblkhjoaaDoorWa
import Derived.Test.YtlbggkmblkhjoaaDoorMc
namespace Go.Proofs.YtlbggkmblkhjoaaDoor
open Go.RowKit

theorem Chg.then {p : Nat → Prop} {a b c : World} (h : Chg p a b) (k : Below b.heap.size b c) : Chg p a c := h.trans (Chg.ofBelow' (p := fun _ => False) k) (fun _ _ e => e.elim)
theorem vcounted_any (a : Int) (w : World) :
   Calls Tryd.prog 61 #[.int .i64 a] w fun e w' => e = .returned (.int .i64 (S.cw a : Int)) ∧ w = w' := by
  go_enter Tryd.func61, Tryd.ntmps61
  by_cases h1 : a < 1
  · have q : S.cw a = 32 := by unfold S.cw; rw [if_pos (by omega)]
    rw [q]
    go_wp2
    go_ret
    exact ⟨rfl, rfl⟩
  · by_cases h2 : a > 32
    · have q : S.cw a = 32 := by unfold S.cw; rw [if_pos (by omega)]
      have h3 : ¬ a ≤ 32 := by omega
      have h4 : (32 : Int) < a := by omega
      rw [q]
      go_wp2
      go_ret
      exact ⟨rfl, rfl⟩
    · have q : S.cw a = a.toNat := by unfold S.cw; rw [if_neg (by omega)]
      have h3 : a ≤ 32 := by omega
      have h4 : ¬ (32 : Int) < a := by omega
      have q2 : ((a.toNat : Nat) : Int) = a := by omega
      rw [q, q2]
      clear q q2
      go_wp2
      go_ret
      exact ⟨rfl, rfl⟩
set_option maxHeartbeats 4000000 in
set_option maxRecDepth 10000 in
theorem vcut_any (a : Int) (d : List UInt8) (hd : d.length = 32) (w : World) :
   Calls Tryd.prog 36 #[.int .i64 a, .agg (S.v8 d)] w fun e w' => e = .returned (.agg (S.v8 (S.cut d (S.cw a)))) ∧ Below w.heap.size w w' := by
  have HD := hide hd
  clear hd
  go_enter Tryd.func36, Tryd.ntmps36
  go_wp2_with fail
  generalize hW0 : w.alloc _ = W0
  generalize hW1 : W0.alloc _ = W1
  have B0 : Below w.heap.size w W0 := by rw [← hW0]; exact (Below.refl _ _).alloc (Nat.le_refl _) _
  have s0 : W0.heap.size = w.heap.size + 1 := by rw [← hW0]; simp
  have r0 : W0.heap[w.heap.size]? = some (.cells (S.v8 d) 23 (0, 0)) := by rw [← hW0]; exact heap_alloc_new _ _
  have B1 : Below W0.heap.size W0 W1 := by rw [← hW1]; exact (Below.refl _ _).alloc (Nat.le_refl _) _
  have s1 : W1.heap.size = w.heap.size + 2 := by rw [← hW1]; simp [s0]
  have r1 : W1.heap[w.heap.size + 1]? = some (.cells (S.v8 (S.zeros 32)) 23 (0, 0)) := by rw [← hW1, ← s0]; exact heap_alloc_new _ _
  have BB : Hid (Below w.heap.size w W1) := (B0.trans (B1.mono (by omega)))
  have Q0 : Hid (W1.heap[w.heap.size]? = some (.cells (S.v8 d) 23 (0, 0))) := ((B1.block _ (by omega)).trans r0)
  have Q1 : Hid (W1.heap[w.heap.size + 1]? = some (.cells (S.v8 (S.zeros 32)) 23 (0, 0))) := r1
  clear hW0 B0 s0 r0 hW1 B1 s1 r1
  have hsz := size_dig d HD.out
  refine wp_region_noPanic ?_
  refine wp_region_held_drew (S := (fun W => Chg (fun k => k = w.heap.size + 1) W1 W)) follows ((Chg.refl _ _).drew) (fun hHeld => ?_)
  clear hHeld
  have hHeld : Chg (fun k => k = w.heap.size + 1) W1 W1.drew := (Chg.refl _ _).drew
  have CZ0 := hide hHeld
  have Q1' : Hid (W1.drew.heap[w.heap.size + 1]? = some (.cells (S.v8 (S.zeros 32)) 23 (0, 0))) := Q1.out
  generalize W1.drew = Z0 at CZ0 hHeld Q1' ⊢
  refine wpAnyH_take (i := 0) (oi := { dst := some 5, op := Op.load 23 (Operand.tmp 3), type := 23, pos := "verify.go:63", after := #[], guard := none }) (v := .agg (S.v8l d).toArray) rfl (by kernel_rfl) (by kernel_rfl) (by kernel_rfl) (fun _ _ _ h => h) (yieldsIf_load_mid (by rfl) _ _ rfl w.heap.size 0 rfl (S.v8l d) _ (fun _ hSw => rangeAt_row (hSw.row Q0.out (by omega))) Tryd.underlying23 rfl hsz) (by assumption) ?_
  simp only [Act.put, List.setIfInBounds_toArray, List.set_cons_zero, List.set_cons_succ]
  refine wpAnyH_take (i := 1) (oi := { dst := some 6, op := Op.move (Operand.tmp 0), type := 3, pos := "verify.go:63", after := #[], guard := none }) (v := ?_) rfl (by kernel_rfl) (by kernel_rfl) (by kernel_rfl) (fun _ _ _ h => h) (Or.inl ⟨by rfl, ?_⟩) (by assumption) ?_
  rotate_left
  · intro w hSw
    clear hSw
    go_simp
    all_goals with_reducible rfl
  simp only [Act.put, List.setIfInBounds_toArray, List.set_cons_zero, List.set_cons_succ]
  refine wpAnyH_ready (rs := [2]) (by kernel_rfl) (by simp) ?_
  refine AllReadyH.cons (o := { dst := some 7, op := Op.call { callee := Callee.value (Operand.func 61), args := #[Operand.tmp 6], argTypes := #[3] }, type := 3, pos := "verify.go:63", after := #[{ on := 1, ground := Ground.data }], guard := none }) rfl (fun K hK => ?_) AllReadyH.nil
  go_simp
  refine (vcounted_any a Z0).mono ?_
  rintro e Zx ⟨rfl, rfl⟩
  clear hHeld
  refine hK.out _ _ CZ0.out (fun hHeld => ?_)
  clear hK K
  try simp only [Act.put, List.setIfInBounds_toArray, List.set_cons_zero, List.set_cons_succ]
  refine wpAnyH_ready (rs := [3]) (by kernel_rfl) (by simp) ?_
  refine AllReadyH.cons (o := { dst := some 8, op := Op.call { callee := Callee.value (Operand.func 29), args := #[Operand.tmp 5, Operand.tmp 7], argTypes := #[23, 3] }, type := 23, pos := "verify.go:63", after := #[{ on := 0, ground := Ground.data }, { on := 2, ground := Ground.data }, { on := 2, ground := Ground.chain }], guard := none }) rfl (fun K hK => ?_) AllReadyH.nil
  go_simp
  refine (cut_any d HD.out (S.cw a) (by have := S.cw_le a; omega) Z0).mono ?_
  rintro e Z1 ⟨rfl, hb2⟩
  obtain ⟨D, hD⟩ : ∃ DD, DD = S.cut d (S.cw a) := ⟨_, rfl⟩
  rw [← hD]
  have LD := hide (show D.length = 32 by rw [hD]; rw [S.cut_length]; exact HD.out)
  have ED := hide hD
  clear hD
  replace Q1' : Hid (Z1.heap[w.heap.size + 1]? = some (.cells (S.v8 (S.zeros 32)) 23 (0, 0))) := (hb2.block _ (block_lt_of_row Q1'.out)).trans Q1'.out
  have CZ1 : Hid (Chg (fun k => k = w.heap.size + 1) W1 Z1) := CZ0.out.then hb2
  clear hb2 CZ0
  clear hHeld
  refine hK.out _ _ CZ1.out (fun hHeld => ?_)
  clear hK K
  try simp only [Act.put, List.setIfInBounds_toArray, List.set_cons_zero, List.set_cons_succ]
  refine wpAnyH_ready (rs := [4]) (by kernel_rfl) (by simp) ?_
  obtain ⟨Z2, hst, r6, C6, s6⟩ := store_dig Q1'.out (S.zeros_length _) LD.out
  refine step_store_as (o := { dst := none, op := Op.store 23 (Operand.tmp 4) (Operand.tmp 8), type := 0, pos := "verify.go:63", after := #[{ on := 3, ground := Ground.data }, { on := 3, ground := Ground.chain }, { on := 0, ground := Ground.phase }, { on := 1, ground := Ground.phase }, { on := 2, ground := Ground.phase }, { on := 3, ground := Ground.phase }], guard := none }) rfl rfl 23 (.tmp 4) (.tmp 8) rfl _ _ rfl rfl Z2 hst AllReadyH.nil ⟨CZ1.out.trans C6 (fun k hk e => by first | exact e | exact Or.inl e | exact Or.inr e | omega), fun hHeld => ?_⟩
  replace Q1' : Hid (Z2.heap[w.heap.size + 1]? = some (.cells (S.v8 D) 23 (0, 0))) := r6
  have CZ2 : Hid (Chg (fun k => k = w.heap.size + 1) W1 Z2) := CZ1.out.trans C6 (fun k hk e => by first | exact e | exact Or.inl e | exact Or.inr e | omega)
  clear hst r6 C6 s6 CZ1
  simp only [Act.put]
  refine wpAnyH_done (by kernel_rfl) ?_ _
  refine NoPanic.normal ?_
  have B6 := hide (BB.out.trans (CZ2.out.below w.heap.size BB.out.size (fun k hk e => by omega)))
  clear hHeld
  go_wp2_with fail
  exact bodyPost_ret (v := .agg (S.v8 D)) (results_cell_row (g := w.heap.size + 1) (t := 23) (fr := (0, 0)) Tryd.results36 _ _ _ _ rfl Q1'.out Tryd.underlying23 rfl (size_dig D LD.out)) rfl ⟨by rw [ED.out], B6.out⟩
end Go.Proofs.YtlbggkmblkhjoaaDoor
