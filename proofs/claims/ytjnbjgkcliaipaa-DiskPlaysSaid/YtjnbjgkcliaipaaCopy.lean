/- Copy: a disk like it, in new memory. -/
import Derived.Test.YtjnbjgkcliaipaaClone
namespace Go.Proofs.Ytjnbjgkcliaipaa
open Go.RowKit
set_option maxHeartbeats 3200000 in
set_option maxRecDepth 100000 in
theorem copy_any (o : Ow) (d : S.Dk) (w : World) (hd : DkIs w o d) (h1 : 0 < d.safe.length) (hb : d.pend.length ≤ 1000000) :
   Calls Try.prog 28 #[o.ptr] w fun e w' => ∃ o' : Ow, e = .returned o'.ptr ∧ DkIs w' o' d ∧ (∀ k, o'.has k → w.heap.size ≤ k) ∧ Below w.heap.size w w' := by
  obtain ⟨ap, cp, hpf⟩ := hd.pend.form
  obtain ⟨L, hL⟩ : ∃ L, L = d.safe.length := ⟨_, rfl⟩
  obtain ⟨N, hN⟩ : ∃ N, N = d.pend.length := ⟨_, rfl⟩
  rw [← hN] at hpf
  have hrow := hd.row
  rw [← hL, hpf] at hrow
  obtain ⟨ROW, hROW⟩ : ∃ ROW : Obj, ROW = .cells #[.slice (some ⟨o.gs, 0, none⟩) L o.cs, .slice (some ⟨o.ge, 0, none⟩) L o.ce, .slice ap N cp, .bool d.left.isSome, .int .i64 o.lf] 70 (0, 0) := ⟨_, rfl⟩
  rw [← hROW] at hrow
  have HD := hide hd
  have HR := hide hrow
  have HROW := hide hROW
  have HPF := hide hpf
  have HL := hide hL
  have HN := hide hN
  have H1 := hide h1
  have HB := hide hb
  clear hd hrow hROW hpf hL hN h1 hb
  unfold Ow.ptr
  go_enter Try.func28, Try.ntmps28
  go_wp2_with fail
  refine wp_region_noPanic ?_
  refine wp_region_held_drew (S := (fun W => W.heap[o.g]? = some ROW)) follows HR.out (fun hHeld => ?_)
  have bD : Below w.heap.size w w.drew := (Chg.refl (fun _ => False) w).drew.below _ (Nat.le_refl _) (fun _ _ e => e)
  have D0 := hide (HD.out.below bD)
  have B0 := hide bD
  clear bD HD HR hHeld
  have HR0 : Hid (w.drew.heap[o.g]? = some ROW) := by have := D0.out.row; rw [← HL.out, HPF.out, ← HROW.out] at this; exact this
  have hHeld := HR0.out
  generalize w.drew = z0 at D0 B0 HR0 hHeld ⊢
  refine wpAnyH_take (i := 0) (oi := { dst := some 3, op := Op.move (Operand.tmp 0), type := 22, pos := "disk.go:79", after := #[], guard := none }) (v := ?_) rfl (by kernel_rfl) (by kernel_rfl) (by kernel_rfl) (fun _ _ _ h => h) (Or.inl ⟨by rfl, ?_⟩) (by assumption) ?_
  rotate_left
  · intro w hSw
    clear hSw
    go_simp
    all_goals with_reducible rfl
  simp only [Act.put, List.setIfInBounds_toArray, List.set_cons_zero, List.set_cons_succ]
  refine wpAnyH_take (i := 1) (oi := { dst := some 4, op := Op.nilCheck (Operand.tmp 3), type := 0, pos := "disk.go:79", after := #[{ on := 0, ground := Ground.data }], guard := none }) (v := ?_) rfl (by kernel_rfl) (by kernel_rfl) (by kernel_rfl) (fun _ _ _ h => h) (Or.inl ⟨by rfl, ?_⟩) (by assumption) ?_
  rotate_left
  · intro w hSw
    clear hSw
    go_simp
    all_goals with_reducible rfl
  simp only [Act.put, List.setIfInBounds_toArray, List.set_cons_zero, List.set_cons_succ]
  refine wpAnyH_take (i := 2) (oi := { dst := some 5, op := Op.fieldAddr 70 (Operand.tmp 4) 0, type := 0, pos := "disk.go:79", after := #[{ on := 1, ground := Ground.data }], guard := none }) (v := ?_) rfl (by kernel_rfl) (by kernel_rfl) (by kernel_rfl) (fun _ _ _ h => h) (Or.inl ⟨by rfl, ?_⟩) (by assumption) ?_
  rotate_left
  · intro w hSw
    clear hSw
    go_simp
    all_goals with_reducible rfl
  simp only [Act.put, List.setIfInBounds_toArray, List.set_cons_zero, List.set_cons_succ]
  refine wpAnyH_take (i := 3) (oi := { dst := some 6, op := Op.load 67 (Operand.tmp 5), type := 67, pos := "disk.go:79", after := #[{ on := 2, ground := Ground.data }], guard := none }) (v := ?_) rfl (by kernel_rfl) (by kernel_rfl) (by kernel_rfl) (fun _ _ _ h => h) (Or.inl ⟨by rfl, ?_⟩) (by assumption) ?_
  rotate_left
  · intro w hSw
    rw [HROW.out] at hSw
    obtain ⟨c0, c1, c2, c3, c4⟩ := cells5 hSw
    clear hSw
    go_simp
    all_goals with_reducible rfl
  simp only [Act.put, List.setIfInBounds_toArray, List.set_cons_zero, List.set_cons_succ]
  refine wpAnyH_take (i := 5) (oi := { dst := some 8, op := Op.move (Operand.tmp 0), type := 22, pos := "disk.go:79", after := #[], guard := none }) (v := ?_) rfl (by kernel_rfl) (by kernel_rfl) (by kernel_rfl) (fun _ _ _ h => h) (Or.inl ⟨by rfl, ?_⟩) (by assumption) ?_
  rotate_left
  · intro w hSw
    clear hSw
    go_simp
    all_goals with_reducible rfl
  simp only [Act.put, List.setIfInBounds_toArray, List.set_cons_zero, List.set_cons_succ]
  refine wpAnyH_take (i := 6) (oi := { dst := some 9, op := Op.nilCheck (Operand.tmp 8), type := 0, pos := "disk.go:79", after := #[{ on := 5, ground := Ground.data }], guard := none }) (v := ?_) rfl (by kernel_rfl) (by kernel_rfl) (by kernel_rfl) (fun _ _ _ h => h) (Or.inl ⟨by rfl, ?_⟩) (by assumption) ?_
  rotate_left
  · intro w hSw
    clear hSw
    go_simp
    all_goals with_reducible rfl
  simp only [Act.put, List.setIfInBounds_toArray, List.set_cons_zero, List.set_cons_succ]
  refine wpAnyH_take (i := 7) (oi := { dst := some 10, op := Op.fieldAddr 70 (Operand.tmp 9) 1, type := 0, pos := "disk.go:79", after := #[{ on := 6, ground := Ground.data }], guard := none }) (v := ?_) rfl (by kernel_rfl) (by kernel_rfl) (by kernel_rfl) (fun _ _ _ h => h) (Or.inl ⟨by rfl, ?_⟩) (by assumption) ?_
  rotate_left
  · intro w hSw
    clear hSw
    go_simp
    all_goals with_reducible rfl
  simp only [Act.put, List.setIfInBounds_toArray, List.set_cons_zero, List.set_cons_succ]
  refine wpAnyH_take (i := 8) (oi := { dst := some 11, op := Op.load 67 (Operand.tmp 10), type := 67, pos := "disk.go:79", after := #[{ on := 7, ground := Ground.data }], guard := none }) (v := ?_) rfl (by kernel_rfl) (by kernel_rfl) (by kernel_rfl) (fun _ _ _ h => h) (Or.inl ⟨by rfl, ?_⟩) (by assumption) ?_
  rotate_left
  · intro w hSw
    rw [HROW.out] at hSw
    obtain ⟨c0, c1, c2, c3, c4⟩ := cells5 hSw
    clear hSw
    go_simp
    all_goals with_reducible rfl
  simp only [Act.put, List.setIfInBounds_toArray, List.set_cons_zero, List.set_cons_succ]
  refine wpAnyH_take (i := 10) (oi := { dst := some 13, op := Op.move (Operand.tmp 0), type := 22, pos := "disk.go:79", after := #[], guard := none }) (v := ?_) rfl (by kernel_rfl) (by kernel_rfl) (by kernel_rfl) (fun _ _ _ h => h) (Or.inl ⟨by rfl, ?_⟩) (by assumption) ?_
  rotate_left
  · intro w hSw
    clear hSw
    go_simp
    all_goals with_reducible rfl
  simp only [Act.put, List.setIfInBounds_toArray, List.set_cons_zero, List.set_cons_succ]
  refine wpAnyH_take (i := 11) (oi := { dst := some 14, op := Op.nilCheck (Operand.tmp 13), type := 0, pos := "disk.go:79", after := #[{ on := 10, ground := Ground.data }], guard := none }) (v := ?_) rfl (by kernel_rfl) (by kernel_rfl) (by kernel_rfl) (fun _ _ _ h => h) (Or.inl ⟨by rfl, ?_⟩) (by assumption) ?_
  rotate_left
  · intro w hSw
    clear hSw
    go_simp
    all_goals with_reducible rfl
  simp only [Act.put, List.setIfInBounds_toArray, List.set_cons_zero, List.set_cons_succ]
  refine wpAnyH_take (i := 12) (oi := { dst := some 15, op := Op.fieldAddr 70 (Operand.tmp 14) 2, type := 0, pos := "disk.go:79", after := #[{ on := 11, ground := Ground.data }], guard := none }) (v := ?_) rfl (by kernel_rfl) (by kernel_rfl) (by kernel_rfl) (fun _ _ _ h => h) (Or.inl ⟨by rfl, ?_⟩) (by assumption) ?_
  rotate_left
  · intro w hSw
    clear hSw
    go_simp
    all_goals with_reducible rfl
  simp only [Act.put, List.setIfInBounds_toArray, List.set_cons_zero, List.set_cons_succ]
  refine wpAnyH_take (i := 13) (oi := { dst := some 16, op := Op.load 68 (Operand.tmp 15), type := 68, pos := "disk.go:79", after := #[{ on := 12, ground := Ground.data }], guard := none }) (v := ?_) rfl (by kernel_rfl) (by kernel_rfl) (by kernel_rfl) (fun _ _ _ h => h) (Or.inl ⟨by rfl, ?_⟩) (by assumption) ?_
  rotate_left
  · intro w hSw
    rw [HROW.out] at hSw
    obtain ⟨c0, c1, c2, c3, c4⟩ := cells5 hSw
    clear hSw
    go_simp
    all_goals with_reducible rfl
  simp only [Act.put, List.setIfInBounds_toArray, List.set_cons_zero, List.set_cons_succ]
  refine wpAnyH_take (i := 15) (oi := { dst := some 18, op := Op.move (Operand.tmp 0), type := 22, pos := "disk.go:79", after := #[], guard := none }) (v := ?_) rfl (by kernel_rfl) (by kernel_rfl) (by kernel_rfl) (fun _ _ _ h => h) (Or.inl ⟨by rfl, ?_⟩) (by assumption) ?_
  rotate_left
  · intro w hSw
    clear hSw
    go_simp
    all_goals with_reducible rfl
  simp only [Act.put, List.setIfInBounds_toArray, List.set_cons_zero, List.set_cons_succ]
  refine wpAnyH_take (i := 16) (oi := { dst := some 19, op := Op.nilCheck (Operand.tmp 18), type := 0, pos := "disk.go:79", after := #[{ on := 15, ground := Ground.data }], guard := none }) (v := ?_) rfl (by kernel_rfl) (by kernel_rfl) (by kernel_rfl) (fun _ _ _ h => h) (Or.inl ⟨by rfl, ?_⟩) (by assumption) ?_
  rotate_left
  · intro w hSw
    clear hSw
    go_simp
    all_goals with_reducible rfl
  simp only [Act.put, List.setIfInBounds_toArray, List.set_cons_zero, List.set_cons_succ]
  refine wpAnyH_take (i := 17) (oi := { dst := some 20, op := Op.fieldAddr 70 (Operand.tmp 19) 3, type := 0, pos := "disk.go:79", after := #[{ on := 16, ground := Ground.data }], guard := none }) (v := ?_) rfl (by kernel_rfl) (by kernel_rfl) (by kernel_rfl) (fun _ _ _ h => h) (Or.inl ⟨by rfl, ?_⟩) (by assumption) ?_
  rotate_left
  · intro w hSw
    clear hSw
    go_simp
    all_goals with_reducible rfl
  simp only [Act.put, List.setIfInBounds_toArray, List.set_cons_zero, List.set_cons_succ]
  refine wpAnyH_take (i := 18) (oi := { dst := some 21, op := Op.load 4 (Operand.tmp 20), type := 4, pos := "disk.go:79", after := #[{ on := 17, ground := Ground.data }], guard := none }) (v := ?_) rfl (by kernel_rfl) (by kernel_rfl) (by kernel_rfl) (fun _ _ _ h => h) (Or.inl ⟨by rfl, ?_⟩) (by assumption) ?_
  rotate_left
  · intro w hSw
    rw [HROW.out] at hSw
    obtain ⟨c0, c1, c2, c3, c4⟩ := cells5 hSw
    clear hSw
    go_simp
    all_goals with_reducible rfl
  simp only [Act.put, List.setIfInBounds_toArray, List.set_cons_zero, List.set_cons_succ]
  refine wpAnyH_take (i := 19) (oi := { dst := some 22, op := Op.move (Operand.tmp 0), type := 22, pos := "disk.go:79", after := #[], guard := none }) (v := ?_) rfl (by kernel_rfl) (by kernel_rfl) (by kernel_rfl) (fun _ _ _ h => h) (Or.inl ⟨by rfl, ?_⟩) (by assumption) ?_
  rotate_left
  · intro w hSw
    clear hSw
    go_simp
    all_goals with_reducible rfl
  simp only [Act.put, List.setIfInBounds_toArray, List.set_cons_zero, List.set_cons_succ]
  refine wpAnyH_take (i := 20) (oi := { dst := some 23, op := Op.nilCheck (Operand.tmp 22), type := 0, pos := "disk.go:79", after := #[{ on := 19, ground := Ground.data }], guard := none }) (v := ?_) rfl (by kernel_rfl) (by kernel_rfl) (by kernel_rfl) (fun _ _ _ h => h) (Or.inl ⟨by rfl, ?_⟩) (by assumption) ?_
  rotate_left
  · intro w hSw
    clear hSw
    go_simp
    all_goals with_reducible rfl
  simp only [Act.put, List.setIfInBounds_toArray, List.set_cons_zero, List.set_cons_succ]
  refine wpAnyH_take (i := 21) (oi := { dst := some 24, op := Op.fieldAddr 70 (Operand.tmp 23) 4, type := 0, pos := "disk.go:79", after := #[{ on := 20, ground := Ground.data }], guard := none }) (v := ?_) rfl (by kernel_rfl) (by kernel_rfl) (by kernel_rfl) (fun _ _ _ h => h) (Or.inl ⟨by rfl, ?_⟩) (by assumption) ?_
  rotate_left
  · intro w hSw
    clear hSw
    go_simp
    all_goals with_reducible rfl
  simp only [Act.put, List.setIfInBounds_toArray, List.set_cons_zero, List.set_cons_succ]
  refine wpAnyH_take (i := 22) (oi := { dst := some 25, op := Op.load 3 (Operand.tmp 24), type := 3, pos := "disk.go:79", after := #[{ on := 21, ground := Ground.data }], guard := none }) (v := ?_) rfl (by kernel_rfl) (by kernel_rfl) (by kernel_rfl) (fun _ _ _ h => h) (Or.inl ⟨by rfl, ?_⟩) (by assumption) ?_
  rotate_left
  · intro w hSw
    rw [HROW.out] at hSw
    obtain ⟨c0, c1, c2, c3, c4⟩ := cells5 hSw
    clear hSw
    go_simp
    all_goals with_reducible rfl
  simp only [Act.put, List.setIfInBounds_toArray, List.set_cons_zero, List.set_cons_succ]
  refine wpAnyH_ready (rs := [4]) (by kernel_rfl) (by simp) ?_
  refine AllReadyH.cons (o := { dst := some 7, op := Op.call { callee := Callee.value (Operand.func 40), args := #[Operand.tmp 6], argTypes := #[67] }, type := 67, pos := "disk.go:80", after := #[{ on := 3, ground := Ground.data }], guard := none }) rfl (fun K hK => ?_) AllReadyH.nil
  go_simp
  refine (cloneS_any o.gs L o.cs d.safe z0 D0.out.safe HL.out H1.out D0.out.n).mono ?_
  rintro e z1 ⟨g1, k1, rfl, hk1, hs1, hge1, hb1⟩
  have D1 := hide (D0.out.below hb1)
  have B1 := hide (B0.out.trans (hb1.mono B0.out.size))
  have HR1 := hide ((hb1.block o.g (block_lt_of_row HR0.out)).trans HR0.out)
  have S1 := hide hs1
  have hge1' : w.heap.size ≤ g1 := Nat.le_trans B0.out.size hge1
  clear hb1 hs1 D0 B0 HR0 hge1
  refine hK.out _ _ HR1.out (fun hHeld => ?_)
  clear hK K
  try simp only [Act.put, List.setIfInBounds_toArray, List.set_cons_zero, List.set_cons_succ]
  refine wpAnyH_ready (rs := [9]) (by kernel_rfl) (by simp) ?_
  refine AllReadyH.cons (o := { dst := some 12, op := Op.call { callee := Callee.value (Operand.func 40), args := #[Operand.tmp 11], argTypes := #[67] }, type := 67, pos := "disk.go:81", after := #[{ on := 8, ground := Ground.data }, { on := 4, ground := Ground.chain }], guard := none }) rfl (fun K hK => ?_) AllReadyH.nil
  go_simp
  refine (cloneS_any o.ge L o.ce d.seen z1 D1.out.seen (by rw [S.Dk.seen_length]; exact HL.out) (by rw [S.Dk.seen_length]; exact H1.out) (by rw [S.Dk.seen_length]; exact D1.out.n)).mono ?_
  rintro e z2 ⟨g2, k2, rfl, hk2, hs2, hge2, hb2⟩
  have D2 := hide (D1.out.below hb2)
  have B2 := hide (B1.out.trans (hb2.mono B1.out.size))
  have HR2 := hide ((hb2.block o.g (block_lt_of_row HR1.out)).trans HR1.out)
  have S1b := hide (S1.out.chg (p := fun _ => False) (Chg.ofBelow' hb2) (fun e => e))
  have S2 := hide hs2
  have hg12 : g1 < g2 := by have := S1.out.lt; omega
  clear hb2 hs2 D1 B1 HR1 S1 hge2
  refine hK.out _ _ HR2.out (fun hHeld => ?_)
  clear hK K
  try simp only [Act.put, List.setIfInBounds_toArray, List.set_cons_zero, List.set_cons_succ]
  have PP := D2.out.pend
  rw [HPF.out] at PP
  refine wpAnyH_ready (rs := [14]) (by kernel_rfl) (by simp) ?_
  refine AllReadyH.cons (o := { dst := some 17, op := Op.call { callee := Callee.value (Operand.func 41), args := #[Operand.tmp 16], argTypes := #[68] }, type := 68, pos := "disk.go:82", after := #[{ on := 13, ground := Ground.data }, { on := 9, ground := Ground.chain }], guard := none }) rfl (fun K hK => ?_) AllReadyH.nil
  go_simp
  refine (cloneW_any (.slice ap N cp) d.pend z2 PP HB.out).mono ?_
  rintro e z3 ⟨v3, rfl, hp3, hv3, hb3⟩
  have D3 := hide (D2.out.below hb3)
  have B3 := hide (B2.out.trans (hb3.mono B2.out.size))
  have HR3 := hide ((hb3.block o.g (block_lt_of_row HR2.out)).trans HR2.out)
  have S1c := hide (S1b.out.chg (p := fun _ => False) (Chg.ofBelow' hb3) (fun e => e))
  have S2c := hide (S2.out.chg (p := fun _ => False) (Chg.ofBelow' hb3) (fun e => e))
  have P3 := hide hp3
  have V3 : Hid (∀ k, v3.ownBlock = some k → g2 < k) := fun k hk => by have := hv3 k hk; have := S2.out.lt; omega
  obtain ⟨a3, k3, hf3⟩ := hp3.form
  rw [← HN.out] at hf3
  subst hf3
  clear hb3 hp3 hv3 D2 B2 HR2 S1b S2 PP
  refine hK.out _ _ HR3.out (fun hHeld => ?_)
  clear hK K
  try simp only [Act.put, List.setIfInBounds_toArray, List.set_cons_zero, List.set_cons_succ]
  refine wpAnyH_take (i := 23) (oi := { dst := some 26, op := Op.build 70 #[(0, Operand.tmp 7), (1, Operand.tmp 12), (2, Operand.tmp 17), (3, Operand.tmp 21), (4, Operand.tmp 25)], type := 70, pos := "disk.go:79", after := #[{ on := 4, ground := Ground.data }, { on := 9, ground := Ground.data }, { on := 14, ground := Ground.data }, { on := 18, ground := Ground.data }, { on := 22, ground := Ground.data }], guard := none }) (v := ?_) rfl (by kernel_rfl) (by kernel_rfl) (by kernel_rfl) (fun _ _ _ h => h) (Or.inl ⟨by rfl, ?_⟩) (by assumption) ?_
  rotate_left
  · intro w hSw
    clear hSw
    go_simp
    all_goals with_reducible rfl
  simp only [Act.put, List.setIfInBounds_toArray, List.set_cons_zero, List.set_cons_succ]
  refine wpAnyH_ready (rs := [24]) (by kernel_rfl) (by simp) ?_
  refine AllReadyH.cons (o := { dst := some 27, op := Op.box 70 (Operand.tmp 26), type := 22, pos := "disk.go:79", after := #[{ on := 23, ground := Ground.data }], guard := none }) rfl (fun K hK => ?_) AllReadyH.nil
  go_simp
  have bX : Below z3.heap.size z3 (z3.alloc (.cells #[.slice (some ⟨g1, 0, none⟩) L k1, .slice (some ⟨g2, 0, none⟩) L k2, .slice a3 N k3, .bool d.left.isSome, .int .i64 o.lf] 70)) := (Below.refl _ _).alloc (Nat.le_refl _) _
  refine hK.out _ _ ((bX.block o.g (block_lt_of_row HR3.out)).trans HR3.out) (fun hHeld => ?_)
  clear hK K
  try simp only [Act.put, List.setIfInBounds_toArray, List.set_cons_zero, List.set_cons_succ]
  have RN : Hid ((z3.alloc (.cells #[.slice (some ⟨g1, 0, none⟩) L k1, .slice (some ⟨g2, 0, none⟩) L k2, .slice a3 N k3, .bool d.left.isSome, .int .i64 o.lf] 70)).heap[z3.heap.size]? = some (.cells #[.slice (some ⟨g1, 0, none⟩) L k1, .slice (some ⟨g2, 0, none⟩) L k2, .slice a3 N k3, .bool d.left.isSome, .int .i64 o.lf] 70 (0, 0))) := heap_alloc_new _ _
  have FIN : Hid (DkIs (z3.alloc (.cells #[.slice (some ⟨g1, 0, none⟩) L k1, .slice (some ⟨g2, 0, none⟩) L k2, .slice a3 N k3, .bool d.left.isSome, .int .i64 o.lf] 70)) ⟨z3.heap.size, g1, g2, k1, k2, .slice a3 N k3, o.lf⟩ d) := by
    refine ⟨by rw [← HL.out]; exact RN.out, S1c.out.chg (p := fun _ => False) (Chg.ofBelow' bX) (fun e => e), S2c.out.chg (p := fun _ => False) (Chg.ofBelow' bX) (fun e => e), P3.out.chg (q := fun _ => False) (Chg.ofBelow' bX) (fun _ _ e => e), D3.out.ok, D3.out.left, ?_, fun k hk => ?_, by rw [← HL.out]; exact ⟨hk1, hk2⟩⟩
    · have e1 := S1c.out.lt; have e2 := S2c.out.lt
      refine ⟨fun e => ?_, fun e => ?_, fun e => ?_⟩
      · have e' : z3.heap.size = g1 := e; omega
      · have e' : z3.heap.size = g2 := e; omega
      · have e' : g1 = g2 := e; omega
    · have e1 := V3.out k hk; have e2 := P3.out.lt hk
      refine ⟨fun e => ?_, fun e => ?_, fun e => ?_⟩
      · have e' : k = z3.heap.size := e; omega
      · have e' : k = g1 := e; omega
      · have e' : k = g2 := e; omega
  have BF := hide (B3.out.trans (bX.mono B3.out.size))
  have AB : Hid (∀ k, Ow.has ⟨z3.heap.size, g1, g2, k1, k2, .slice a3 N k3, o.lf⟩ k → w.heap.size ≤ k) := by
    have e3 := B3.out.size
    show ∀ k, _
    rintro k (e | e | e | e)
    · have e' : k = z3.heap.size := e; omega
    · have e' : k = g1 := e; omega
    · have e' : k = g2 := e; omega
    · have := V3.out k e; omega
  clear bX RN S1c S2c P3 V3 D3 B3 HR3
  skip
  refine wpAnyH_take (i := 25) (oi := { dst := some 2, op := Op.assign (Operand.tmp 27), type := 22, pos := "disk.go:79", after := #[{ on := 24, ground := Ground.data }, { on := 14, ground := Ground.chain }, { on := 0, ground := Ground.phase }, { on := 1, ground := Ground.phase }, { on := 2, ground := Ground.phase }, { on := 3, ground := Ground.phase }, { on := 4, ground := Ground.phase }, { on := 5, ground := Ground.phase }, { on := 6, ground := Ground.phase }, { on := 7, ground := Ground.phase }, { on := 8, ground := Ground.phase }, { on := 9, ground := Ground.phase }, { on := 10, ground := Ground.phase }, { on := 11, ground := Ground.phase }, { on := 12, ground := Ground.phase }, { on := 13, ground := Ground.phase }, { on := 14, ground := Ground.phase }, { on := 15, ground := Ground.phase }, { on := 16, ground := Ground.phase }, { on := 17, ground := Ground.phase }, { on := 18, ground := Ground.phase }, { on := 19, ground := Ground.phase }, { on := 20, ground := Ground.phase }, { on := 21, ground := Ground.phase }, { on := 22, ground := Ground.phase }, { on := 23, ground := Ground.phase }, { on := 24, ground := Ground.phase }], guard := none }) (v := ?_) rfl (by kernel_rfl) (by kernel_rfl) (by kernel_rfl) (fun _ _ _ h => h) (Or.inl ⟨by rfl, ?_⟩) (by assumption) ?_
  rotate_left
  · intro w hSw
    clear hSw
    go_simp
    all_goals with_reducible rfl
  simp only [Act.put, List.setIfInBounds_toArray, List.set_cons_zero, List.set_cons_succ]
  refine wpAnyH_done (by kernel_rfl) ?_ _
  refine NoPanic.normal ?_
  go_wp2_with fail
  go_ret
  exact ⟨_, rfl, FIN.out, AB.out, BF.out⟩
end Go.Proofs.Ytjnbjgkcliaipaa
