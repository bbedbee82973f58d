/- The document's own Bytes: the same bytes, in memory of their own. -/
import Derived.Test.YtdhaeepaemneaaaDoorDoc
namespace Go.Proofs.YtdhaeepaemneaaaDoor
open Go.RowKit
set_option maxHeartbeats 400000 in
set_option maxRecDepth 100000 in
theorem dbytes_any (v u : Value) (bs xs : List UInt8) (w : World) (hv : SliceAt w v bs) (hu : SliceAt w u xs) (hb : bs.length + 65544 ≤ 140737488355328) :
   Calls Tryd.prog 21 #[v, u] w fun e w' => ∃ r, e = .returned r ∧ URow w' r (bs ++ S.text xs) ∧ (∀ j, r.ownBlock = some j → w.heap.size ≤ j) ∧ Below w.heap.size w w' := by
  have SV := hide hv
  have SU := hide hu
  have HB := hide hb
  obtain ⟨aou, len, cap, rfl, hlen, hmax⟩ := hu.form
  have q1 : (0 : Int) ≤ (len : Int) := by omega
  obtain ⟨cnt, hcnt⟩ : ∃ cnt, cnt = len % 65536 := ⟨_, rfl⟩
  have e1 : (len : Int).tmod 65536 = (cnt : Int) := by rw [Int.tmod_eq_emod_of_nonneg q1, hcnt]; omega
  have q2 : cnt < 65536 := by omega
  have q3 : (0 : Int) ≤ (cnt : Int) := by omega
  have q4 : (cnt : Int) ≤ (len : Int) := by omega
  have q5 : (cnt : Int) < 18446744073709551616 := by omega
  have q7 : IntKind.u64.wrap (cnt : Int) = (cnt : Int) := by rw [IntKind.wrap_u64]; omega
  have q6 : (cnt : Int) ≤ (cap : Int) := by have := hu.le_cap; omega
  have HL := hide hlen
  have HC := hide hcnt
  have PT : Hid (SliceAt w (.slice aou cnt cap) (xs.take cnt)) := part_to hu cnt (by omega)
  clear hv hu hb hlen hcnt
  go_enter Tryd.func21, Tryd.ntmps21
  go_wp2_with fail
  refine wp_region_noPanic ?_
  refine wp_region_held_drew (S := (fun w' => Below w.heap.size w w')) follows ((Below.refl _ _).drew) (fun hHeld => ?_)
  refine wpAnyH_take (i := 0) (oi := { dst := some 9, op := Op.move (Operand.tmp 0), type := 24, pos := "ref.go:37", after := #[], guard := none }) (v := ?_) rfl (by kernel_rfl) (by kernel_rfl) (by kernel_rfl) (fun _ _ _ h => h) (Or.inl ⟨by rfl, ?_⟩) (by assumption) ?_
  rotate_left
  · intro w hSw
    clear hSw
    go_simp
    all_goals with_reducible rfl
  simp only [Act.put, List.setIfInBounds_toArray, List.set_cons_zero, List.set_cons_succ]
  refine wpAnyH_take (i := 1) (oi := { dst := some 10, op := Op.move (Operand.tmp 5), type := 3, pos := "ref.go:37", after := #[], guard := none }) (v := ?_) rfl (by kernel_rfl) (by kernel_rfl) (by kernel_rfl) (fun _ _ _ h => h) (Or.inl ⟨by rfl, ?_⟩) (by assumption) ?_
  rotate_left
  · intro w hSw
    clear hSw
    go_simp
    all_goals with_reducible rfl
  simp only [Act.put, List.setIfInBounds_toArray, List.set_cons_zero, List.set_cons_succ]
  refine wpAnyH_take (i := 2) (oi := { dst := some 11, op := Op.convert 3 27 (Operand.tmp 10), type := 27, pos := "ref.go:37", after := #[{ on := 1, ground := Ground.data }], guard := none }) (v := ?_) rfl (by kernel_rfl) (by kernel_rfl) (by kernel_rfl) (fun _ _ _ h => h) (Or.inl ⟨by rfl, ?_⟩) (by assumption) ?_
  rotate_left
  · intro w hSw
    clear hSw
    go_simp
    all_goals with_reducible rfl
  simp only [Act.put, List.setIfInBounds_toArray, List.set_cons_zero, List.set_cons_succ]
  refine wpAnyH_take (i := 4) (oi := { dst := some 13, op := Op.move (Operand.tmp 1), type := 24, pos := "ref.go:37", after := #[], guard := none }) (v := ?_) rfl (by kernel_rfl) (by kernel_rfl) (by kernel_rfl) (fun _ _ _ h => h) (Or.inl ⟨by rfl, ?_⟩) (by assumption) ?_
  rotate_left
  · intro w hSw
    clear hSw
    go_simp
    all_goals with_reducible rfl
  simp only [Act.put, List.setIfInBounds_toArray, List.set_cons_zero, List.set_cons_succ]
  refine wpAnyH_take (i := 5) (oi := { dst := some 14, op := Op.move (Operand.tmp 5), type := 3, pos := "ref.go:37", after := #[], guard := none }) (v := ?_) rfl (by kernel_rfl) (by kernel_rfl) (by kernel_rfl) (fun _ _ _ h => h) (Or.inl ⟨by rfl, ?_⟩) (by assumption) ?_
  rotate_left
  · intro w hSw
    clear hSw
    go_simp
    all_goals with_reducible rfl
  simp only [Act.put, List.setIfInBounds_toArray, List.set_cons_zero, List.set_cons_succ]
  refine wpAnyH_take (i := 6) (oi := { dst := some 15, op := Op.slice 24 (Operand.tmp 13) none (some (Operand.tmp 14)) none, type := 24, pos := "ref.go:37", after := #[{ on := 4, ground := Ground.data }, { on := 5, ground := Ground.data }], guard := none }) (v := ?_) rfl (by kernel_rfl) (by kernel_rfl) (by kernel_rfl) (fun _ _ _ h => h) (Or.inl ⟨by rfl, ?_⟩) (by assumption) ?_
  rotate_left
  · intro w hSw
    clear hSw
    go_simp
    all_goals with_reducible rfl
  simp only [Act.put, List.setIfInBounds_toArray, List.set_cons_zero, List.set_cons_succ]
  refine wpAnyH_ready (rs := [3]) (by kernel_rfl) (by simp) ?_
  refine AllReadyH.cons (o := { dst := some 12, op := Op.call { callee := Callee.value (Operand.func 18), args := #[Operand.tmp 9, Operand.tmp 11, Operand.const (Value.int IntKind.i64 2)], argTypes := #[24, 27, 3] }, type := 24, pos := "ref.go:37", after := #[{ on := 0, ground := Ground.data }, { on := 2, ground := Ground.data }], guard := none }) rfl (fun K hK => ?_) AllReadyH.nil
  go_simp
  refine (dnumber_any v bs cnt 2 w.drew (SV.out.of_heap rfl) (by have := HB.out; omega)).mono ?_
  rintro e w1 ⟨r1, rfl, hu1, ho1, hb1⟩
  rw [size_2] at hu1
  have hb1 : Below w.heap.size w w1 := ((Below.refl w.heap.size w).drew).trans hb1
  have U1 := hide hu1
  have O1 : Hid (∀ j, r1.ownBlock = some j → w.heap.size ≤ j) := ho1
  have PT1 := hide (PT.out.below hb1 (Nat.le_refl _))
  clear hu1 ho1 hHeld
  go_wp2_with fail
  refine hK.out _ _ hb1 (fun hHeld => ?_)
  clear hK K 
  try simp only [Act.put, List.setIfInBounds_toArray, List.set_cons_zero, List.set_cons_succ]
  refine wpAnyH_ready (rs := [7]) (by kernel_rfl) (by simp) ?_
  refine step_append (o := { dst := some 16, op := Op.call { callee := Callee.builtin Builtin.append, args := #[Operand.tmp 12, Operand.tmp 15], argTypes := #[24, 24] }, type := 24, pos := "ref.go:37", after := #[{ on := 3, ground := Ground.data }, { on := 6, ground := Ground.data }, { on := 3, ground := Ground.chain }], guard := none }) rfl rfl _ _ 24 24 rfl _ _ rfl rfl (run_append_row _ _ _ (bs ++ S.num cnt 2) (xs.take cnt) 24 U1.out PT1.out (by rw [List.length_append, S.num_length, List.length_take]; have := HB.out; omega)) AllReadyH.nil ?_
  rintro v2 Y ⟨hu, hg, ho⟩
  have FU : Hid (URow Y v2 (bs ++ S.text xs)) := by rw [S.text, ← HL.out, ← HC.out, ← List.append_assoc]; exact hu
  have FO : Hid (∀ j, v2.ownBlock = some j → w.heap.size ≤ j) := fun j hj => by rcases ho j hj with h | h; exact O1.out j h; exact Nat.le_trans hb1.size h
  have FB : Hid (Below w.heap.size w Y) := hb1.grown hg hb1.size (fun j hj => O1.out j hj)
  clear hu hg ho
  refine ⟨FB.out, fun hHeld => ?_⟩
  try simp only [Act.put, List.setIfInBounds_toArray, List.set_cons_zero, List.set_cons_succ]
  refine wpAnyH_take (i := 8) (oi := { dst := some 4, op := Op.assign (Operand.tmp 16), type := 24, pos := "ref.go:37", after := #[{ on := 7, ground := Ground.data }, { on := 7, ground := Ground.chain }, { on := 0, ground := Ground.phase }, { on := 1, ground := Ground.phase }, { on := 2, ground := Ground.phase }, { on := 3, ground := Ground.phase }, { on := 4, ground := Ground.phase }, { on := 5, ground := Ground.phase }, { on := 6, ground := Ground.phase }, { on := 7, ground := Ground.phase }], guard := none }) (v := ?_) rfl (by kernel_rfl) (by kernel_rfl) (by kernel_rfl) (fun _ _ _ h => h) (Or.inl ⟨by rfl, ?_⟩) (by assumption) ?_
  rotate_left
  · intro w hSw
    clear hSw
    go_simp
    all_goals with_reducible rfl
  simp only [Act.put, List.setIfInBounds_toArray, List.set_cons_zero, List.set_cons_succ]
  refine wpAnyH_done (by kernel_rfl) ?_ _
  refine NoPanic.normal ?_
  go_wp2_with fail
  go_ret
  exact ⟨_, rfl, FU.out, FO.out, FB.out⟩
end Go.Proofs.YtdhaeepaemneaaaDoor
