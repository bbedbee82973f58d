/- The walk of ShaParts: for every readable text and any two numbers the call returns true and nothing that was there changes. -/
import Derived.Test.YtdfjbajehcedaabDoorJoin
import Derived.Test.YtdfjbajehcedaabDoorSlices
import Derived.Test.YtdfjbajehcedaabDoorWithin
namespace Go.Proofs.YtdfjbajehcedaabDoor
open Go.RowKit
theorem list1 {w : World} {g : Nat} {t : TypeId} {x1 : Value} {b1 : List UInt8} (h : w.heap[g]? = some (.cells #[x1] t (0, 0))) (s1 : SliceAt w x1 b1) : ListAt w g [b1] :=
  ⟨block_lt_of_row h, fun j hj => by
    rcases j with _ | j
    · exact ⟨x1, by rw [cell_of_row w g 0 _ _ _ h]; rfl, s1⟩
    · simp at hj⟩
theorem list2 {w : World} {g : Nat} {t : TypeId} {x1 x2 : Value} {b1 b2 : List UInt8} (h : w.heap[g]? = some (.cells #[x1, x2] t (0, 0))) (s1 : SliceAt w x1 b1) (s2 : SliceAt w x2 b2) : ListAt w g [b1, b2] :=
  ⟨block_lt_of_row h, fun j hj => by
    rcases j with _ | _ | j
    · exact ⟨x1, by rw [cell_of_row w g 0 _ _ _ h]; rfl, s1⟩
    · exact ⟨x2, by rw [cell_of_row w g 1 _ _ _ h]; rfl, s2⟩
    · simp at hj; omega⟩
theorem list3 {w : World} {g : Nat} {t : TypeId} {x1 x2 x3 : Value} {b1 b2 b3 : List UInt8} (h : w.heap[g]? = some (.cells #[x1, x2, x3] t (0, 0))) (s1 : SliceAt w x1 b1) (s2 : SliceAt w x2 b2) (s3 : SliceAt w x3 b3) : ListAt w g [b1, b2, b3] :=
  ⟨block_lt_of_row h, fun j hj => by
    rcases j with _ | _ | _ | j
    · exact ⟨x1, by rw [cell_of_row w g 0 _ _ _ h]; rfl, s1⟩
    · exact ⟨x2, by rw [cell_of_row w g 1 _ _ _ h]; rfl, s2⟩
    · exact ⟨x3, by rw [cell_of_row w g 2 _ _ _ h]; rfl, s3⟩
    · simp at hj; omega⟩
theorem join_as (F : List UInt8) (g n c : Nat) (bss : List (List UInt8)) (w : World) (hF : Hid (bss.flatten = F)) (hn : n = bss.length) (hn8 : n ≤ 1000000) (hnc : n ≤ c) (hl : ListAt w g bss) (hT : F.length ≤ 140737488355328) :
   Calls Tryd.prog 6 #[.slice (some ⟨g, 0, none⟩) n c] w fun e w' => ∃ g', e = .returned (.slice (some ⟨g', 0, none⟩) F.length F.length) ∧ w.heap.size ≤ g' ∧ Room w' g' F.length F ∧ Below w.heap.size w w' := by
  have h := hF.out
  subst h
  exact join_any g n c bss w hn hn8 hnc hl hT
theorem Sum_as (D : List UInt8) (v : Value) (bs : List UInt8) (w : World) (hD : Hid (D = S.sum bs)) (hv : SliceAt w v bs) (hK : KAt w) :
   Calls Tryd.prog 5 #[v] w fun e w' => e = .returned (.agg (S.v8 D)) ∧ Below w.heap.size w w' := by
  rw [hD.out]; exact Sum_any v bs w hv hK
set_option maxHeartbeats 8000000 in
set_option maxRecDepth 100000 in
theorem shaParts_walk (v : Value) (bs : List UInt8) (m n : Int) (w : World) (hv : SliceAt w v bs) (hK : KAt w) (hm1 : -9223372036854775808 ≤ m) (hm2 : m ≤ 9223372036854775807) (hn1 : -9223372036854775808 ≤ n) (hn2 : n ≤ 9223372036854775807) :
   Calls Tryd.prog 3 #[v, .int .i64 m, .int .i64 n] w fun e w' => e = .returned (.bool true) ∧ Below w.heap.size w w' := by
  obtain ⟨ao, len, cap, rfl, hlen, hmax⟩ := hv.form
  have hcap := hv.le_cap
  have HV := hide hv
  have HK := hide hK
  have h0 := hK.pos
  have HBL : Hid (bs.length ≤ 140737488355328) := by show bs.length ≤ 140737488355328; omega
  have HL := hide hlen
  clear hv hK hlen
  go_enter Tryd.func3, Tryd.ntmps3
  go_wp2_with fail
  refine (within_num m len w hm1 hm2 (by omega) (by omega)).mono ?_
  rintro e w1 ⟨i0, rfl, hi1, hi2, rfl⟩
  obtain ⟨i, rfl⟩ := Int.eq_ofNat_of_zero_le hi1
  have hil : i ≤ len := by omega
  have qs : IntKind.i64.wrap ((len : Int) - (i : Int)) = ((len - i : Nat) : Int) := by rw [IntKind.wrap_i64]; omega
  go_wp2_with fail
  refine (within_num n ((len - i : Nat) : Int) w hn1 hn2 (by omega) (by omega)).mono ?_
  rintro e w1 ⟨j0, rfl, hj1, hj2, rfl⟩
  obtain ⟨j, rfl⟩ := Int.eq_ofNat_of_zero_le hj1
  obtain ⟨k, hkk⟩ : ∃ k, k = i + j := ⟨_, rfl⟩
  have qk : Hid ((i : Int) + (j : Int) = (k : Int)) := by show (i : Int) + (j : Int) = (k : Int); omega
  have qw : IntKind.i64.wrap ((i : Int) + (j : Int)) = (i : Int) + (j : Int) := by rw [IntKind.wrap_i64]; omega
  have p1 : (0 : Int) ≤ (i : Int) := by omega
  have p2 : (i : Int) ≤ (k : Int) := by omega
  have p3 : (k : Int) ≤ (len : Int) := by omega
  have p4 : (i : Int) ≤ (len : Int) := by omega
  have p5 : (k : Int) ≤ (cap : Int) := by have := hcap; omega
  have p6 : (i : Int) ≤ (cap : Int) := by omega
  have p7 : i ≤ k := by omega
  have p8 : (0 : Int) ≤ (k : Int) := by omega
  have hkl : k ≤ bs.length := by have := HL.out; omega
  have hib : i ≤ bs.length := by have := HL.out; omega
  have hik : i ≤ k := by omega
  obtain ⟨yi, hyi⟩ : ∃ y, (if cap = i then ao else Option.map (fun x => x.add i) ao) = y := ⟨_, rfl⟩
  obtain ⟨yk, hyk⟩ : ∃ y, (if cap = k then ao else Option.map (fun x => x.add k) ao) = y := ⟨_, rfl⟩
  have X1 := hide (part_to HV.out i (by omega))
  have X2 : Hid (SliceAt w (.slice yi (k - i) (cap - i)) ((bs.take k).drop i)) := by
    have := part_form HV.out i k (by omega) (by omega)
    rw [hyi] at this
    exact this
  have X3 : Hid (SliceAt w (.slice yk (len - k) (cap - k)) (bs.drop k)) := by
    have := part_from HV.out HL.out k (by omega)
    rw [hyk] at this
    exact this
  have X4 : Hid (SliceAt w (.slice yi (len - i) (cap - i)) (bs.drop i)) := by
    have := part_from HV.out HL.out i (by omega)
    rw [hyi] at this
    exact this
  have HYI := hide hyi
  have HYK := hide hyk
  clear hyi hyk
  have HF3 : Hid ([bs.take i, (bs.take k).drop i, bs.drop k].flatten = bs) := by
    show [bs.take i, (bs.take k).drop i, bs.drop k].flatten = bs
    have e : bs.take i = (bs.take k).take i := by rw [List.take_take, Nat.min_eq_left hik]
    simp only [List.flatten_cons, List.flatten_nil, List.append_nil]
    rw [← List.append_assoc, e, List.take_append_drop, List.take_append_drop]
  obtain ⟨F1, hF1⟩ : ∃ F, F = bs.take i := ⟨_, rfl⟩
  have HF1 : Hid ([bs.take i].flatten = F1) := by show [bs.take i].flatten = F1; rw [hF1]; simp
  have HF2 : Hid ([F1, bs.drop i].flatten = bs) := by show [F1, bs.drop i].flatten = bs; rw [hF1]; simp
  have HBI : Hid (F1.length ≤ 140737488355328) := by show F1.length ≤ 140737488355328; rw [hF1, List.length_take]; have := HBL.out; omega
  clear hF1
  obtain ⟨D, hD⟩ : ∃ D, D = S.sum bs := ⟨_, rfl⟩
  have HD := hide hD
  have hD32 : D.length = 32 := by rw [hD]; exact S.sum_length _
  have e5 : ∀ w, (Op.equalIn 10000 25 (.agg (S.v8 D)) (.agg (S.v8 D))).run Tryd.prog w = .ok true w := fun w => by
    rw [equal_digests _ _ hD32 hD32 w]; simp
  clear hD hD32 hkl hib hik hj1 hj2 hi1 hi2 hm1 hm2 hn1 hn2 hil qs
  go_wp2_with fail
  rw [qk.out]
  clear qk hkk qw
  refine wp_region_noPanic ?_
  refine wp_region_held_drew (S := (fun w' => Below w.heap.size w w')) follows ((Below.refl _ _).drew) (fun hHeld => ?_)
  refine wpAnyH_take (i := 0) (oi := { dst := some 21, op := Op.move (Operand.tmp 0), type := 22, pos := "law.go:104", after := #[], guard := none }) (v := ?_) rfl (by kernel_rfl) (by kernel_rfl) (by kernel_rfl) (fun _ _ _ h => h) (Or.inl ⟨by rfl, ?_⟩) (by assumption) ?_
  rotate_left
  · intro w hSw
    clear hSw
    go_simp
    all_goals with_reducible rfl
  simp only [Act.put, List.setIfInBounds_toArray, List.set_cons_zero, List.set_cons_succ]
  refine wpAnyH_take (i := 1) (oi := { dst := some 22, op := Op.move (Operand.tmp 7), type := 3, pos := "law.go:104", after := #[], guard := none }) (v := ?_) rfl (by kernel_rfl) (by kernel_rfl) (by kernel_rfl) (fun _ _ _ h => h) (Or.inl ⟨by rfl, ?_⟩) (by assumption) ?_
  rotate_left
  · intro w hSw
    clear hSw
    go_simp
    all_goals with_reducible rfl
  simp only [Act.put, List.setIfInBounds_toArray, List.set_cons_zero, List.set_cons_succ]
  refine wpAnyH_take (i := 2) (oi := { dst := some 23, op := Op.slice 22 (Operand.tmp 21) none (some (Operand.tmp 22)) none, type := 22, pos := "law.go:104", after := #[{ on := 0, ground := Ground.data }, { on := 1, ground := Ground.data }], guard := none }) (v := ?_) rfl (by kernel_rfl) (by kernel_rfl) (by kernel_rfl) (fun _ _ _ h => h) (Or.inl ⟨by rfl, ?_⟩) (by assumption) ?_
  rotate_left
  · intro w hSw
    clear hSw
    go_simp
    all_goals with_reducible rfl
  simp only [Act.put, List.setIfInBounds_toArray, List.set_cons_zero, List.set_cons_succ]
  refine wpAnyH_take (i := 3) (oi := { dst := some 24, op := Op.move (Operand.tmp 0), type := 22, pos := "law.go:104", after := #[], guard := none }) (v := ?_) rfl (by kernel_rfl) (by kernel_rfl) (by kernel_rfl) (fun _ _ _ h => h) (Or.inl ⟨by rfl, ?_⟩) (by assumption) ?_
  rotate_left
  · intro w hSw
    clear hSw
    go_simp
    all_goals with_reducible rfl
  simp only [Act.put, List.setIfInBounds_toArray, List.set_cons_zero, List.set_cons_succ]
  refine wpAnyH_take (i := 4) (oi := { dst := some 25, op := Op.move (Operand.tmp 7), type := 3, pos := "law.go:104", after := #[], guard := none }) (v := ?_) rfl (by kernel_rfl) (by kernel_rfl) (by kernel_rfl) (fun _ _ _ h => h) (Or.inl ⟨by rfl, ?_⟩) (by assumption) ?_
  rotate_left
  · intro w hSw
    clear hSw
    go_simp
    all_goals with_reducible rfl
  simp only [Act.put, List.setIfInBounds_toArray, List.set_cons_zero, List.set_cons_succ]
  refine wpAnyH_take (i := 5) (oi := { dst := some 26, op := Op.move (Operand.tmp 8), type := 3, pos := "law.go:104", after := #[], guard := none }) (v := ?_) rfl (by kernel_rfl) (by kernel_rfl) (by kernel_rfl) (fun _ _ _ h => h) (Or.inl ⟨by rfl, ?_⟩) (by assumption) ?_
  rotate_left
  · intro w hSw
    clear hSw
    go_simp
    all_goals with_reducible rfl
  simp only [Act.put, List.setIfInBounds_toArray, List.set_cons_zero, List.set_cons_succ]
  refine wpAnyH_take (i := 6) (oi := { dst := some 27, op := Op.slice 22 (Operand.tmp 24) (some (Operand.tmp 25)) (some (Operand.tmp 26)) none, type := 22, pos := "law.go:104", after := #[{ on := 3, ground := Ground.data }, { on := 4, ground := Ground.data }, { on := 5, ground := Ground.data }], guard := none }) (v := ?_) rfl (by kernel_rfl) (by kernel_rfl) (by kernel_rfl) (fun _ _ _ h => h) (Or.inl ⟨by rfl, ?_⟩) (by assumption) ?_
  rotate_left
  · intro w hSw
    clear hSw
    go_simp
    all_goals with_reducible rfl
  simp only [Act.put, List.setIfInBounds_toArray, List.set_cons_zero, List.set_cons_succ]
  rw [HYI.out]
  refine wpAnyH_take (i := 7) (oi := { dst := some 28, op := Op.move (Operand.tmp 0), type := 22, pos := "law.go:104", after := #[], guard := none }) (v := ?_) rfl (by kernel_rfl) (by kernel_rfl) (by kernel_rfl) (fun _ _ _ h => h) (Or.inl ⟨by rfl, ?_⟩) (by assumption) ?_
  rotate_left
  · intro w hSw
    clear hSw
    go_simp
    all_goals with_reducible rfl
  simp only [Act.put, List.setIfInBounds_toArray, List.set_cons_zero, List.set_cons_succ]
  refine wpAnyH_take (i := 8) (oi := { dst := some 29, op := Op.move (Operand.tmp 8), type := 3, pos := "law.go:104", after := #[], guard := none }) (v := ?_) rfl (by kernel_rfl) (by kernel_rfl) (by kernel_rfl) (fun _ _ _ h => h) (Or.inl ⟨by rfl, ?_⟩) (by assumption) ?_
  rotate_left
  · intro w hSw
    clear hSw
    go_simp
    all_goals with_reducible rfl
  simp only [Act.put, List.setIfInBounds_toArray, List.set_cons_zero, List.set_cons_succ]
  refine wpAnyH_take (i := 9) (oi := { dst := some 30, op := Op.slice 22 (Operand.tmp 28) (some (Operand.tmp 29)) none none, type := 22, pos := "law.go:104", after := #[{ on := 7, ground := Ground.data }, { on := 8, ground := Ground.data }], guard := none }) (v := ?_) rfl (by kernel_rfl) (by kernel_rfl) (by kernel_rfl) (fun _ _ _ h => h) (Or.inl ⟨by rfl, ?_⟩) (by assumption) ?_
  rotate_left
  · intro w hSw
    clear hSw
    go_simp
    all_goals with_reducible rfl
  simp only [Act.put, List.setIfInBounds_toArray, List.set_cons_zero, List.set_cons_succ]
  rw [HYK.out]
  refine wpAnyH_take (i := 13) (oi := { dst := some 34, op := Op.move (Operand.tmp 0), type := 22, pos := "law.go:104", after := #[], guard := none }) (v := ?_) rfl (by kernel_rfl) (by kernel_rfl) (by kernel_rfl) (fun _ _ _ h => h) (Or.inl ⟨by rfl, ?_⟩) (by assumption) ?_
  rotate_left
  · intro w hSw
    clear hSw
    go_simp
    all_goals with_reducible rfl
  simp only [Act.put, List.setIfInBounds_toArray, List.set_cons_zero, List.set_cons_succ]
  refine wpAnyH_ready (rs := [10]) (by kernel_rfl) (by simp) ?_
  refine AllReadyH.cons (o := { dst := some 31, op := Op.buildSlice 35 3 #[(0, Operand.tmp 23), (1, Operand.tmp 27), (2, Operand.tmp 30)], type := 35, pos := "law.go:104", after := #[{ on := 2, ground := Ground.data }, { on := 6, ground := Ground.data }, { on := 9, ground := Ground.data }], guard := none }) rfl (fun K hK => ?_) AllReadyH.nil
  go_simp
  refine hK.out _ _ (Below.alloc hHeld (Below.size hHeld) _) (fun hHeld2 => ?_)
  clear hK K
  try simp only [Act.put, List.setIfInBounds_toArray, List.set_cons_zero, List.set_cons_succ]
  generalize hW : World.drew (World.alloc w _) = W1 at *
  have row : W1.heap[w.heap.size]? = some (.cells #[.slice ao i cap, .slice yi (k - i) (cap - i), .slice yk (len - k) (cap - k)] 22 (0, 0)) := by rw [← hW]; exact heap_alloc_new w _
  have hgo : Below w.heap.size w W1 := by rw [← hW]; exact ((Below.refl _ _).alloc (Nat.le_refl _) _).drew
  clear hW
  have hl3 := hide (list3 row (X1.out.below hgo (Nat.le_refl _)) (X2.out.below hgo (Nat.le_refl _)) (X3.out.below hgo (Nat.le_refl _)))
  clear row hgo hHeld
  have hHeld := hHeld2
  clear hHeld2
  refine wpAnyH_ready (rs := [11]) (by kernel_rfl) (by simp) ?_
  refine AllReadyH.cons (o := { dst := some 32, op := Op.call { callee := Callee.value (Operand.func 6), args := #[Operand.tmp 31], argTypes := #[35] }, type := 22, pos := "law.go:104", after := #[{ on := 10, ground := Ground.data }], guard := none }) rfl (fun K hK => ?_) AllReadyH.nil
  go_simp
  refine (join_as bs _ 3 3 _ W1 HF3 rfl (by omega) (by omega) hl3.out HBL.out).mono ?_
  rintro e w5 ⟨g1, rfl, _, hR, hbx⟩
  have hk := Below.trans hHeld (hbx.mono (Below.size hHeld))
  go_wp2_with fail
  have RR := hide (hR.sliceAt HBL.out)
  clear hbx hHeld hR hl3
  refine hK.out _ _ ?_ (fun hHeld => ?_)
  · exact hk
  clear hK K
  try simp only [Act.put, List.setIfInBounds_toArray, List.set_cons_zero, List.set_cons_succ]
  refine wpAnyH_ready (rs := [12]) (by kernel_rfl) (by simp) ?_
  refine AllReadyH.cons (o := { dst := some 33, op := Op.call { callee := Callee.value (Operand.func 5), args := #[Operand.tmp 32], argTypes := #[22] }, type := 25, pos := "law.go:104", after := #[{ on := 11, ground := Ground.data }, { on := 11, ground := Ground.chain }], guard := none }) rfl (fun K hK => ?_) AllReadyH.nil
  go_simp
  refine (Sum_as D _ bs _ HD RR.out (HK.out.below hHeld h0)).mono ?_
  rintro e w5 ⟨rfl, hbx⟩
  have hk := Below.trans hHeld (hbx.mono (Below.size hHeld))
  go_wp2_with fail
  clear hbx hHeld RR
  refine hK.out _ _ ?_ (fun hHeld => ?_)
  · exact hk
  clear hK K
  try simp only [Act.put, List.setIfInBounds_toArray, List.set_cons_zero, List.set_cons_succ]
  refine wpAnyH_ready (rs := [14]) (by kernel_rfl) (by simp) ?_
  refine AllReadyH.cons (o := { dst := some 35, op := Op.call { callee := Callee.value (Operand.func 5), args := #[Operand.tmp 34], argTypes := #[22] }, type := 25, pos := "law.go:104", after := #[{ on := 13, ground := Ground.data }, { on := 12, ground := Ground.chain }], guard := none }) rfl (fun K hK => ?_) AllReadyH.nil
  go_simp
  refine (Sum_as D _ bs _ HD (HV.out.below hHeld (Nat.le_refl _)) (HK.out.below hHeld h0)).mono ?_
  rintro e w5 ⟨rfl, hbx⟩
  have hk := Below.trans hHeld (hbx.mono (Below.size hHeld))
  go_wp2_with fail
  clear hbx hHeld
  refine hK.out _ _ ?_ (fun hHeld => ?_)
  · exact hk
  clear hK K
  try simp only [Act.put, List.setIfInBounds_toArray, List.set_cons_zero, List.set_cons_succ]
  refine wpAnyH_take (i := 15) (oi := { dst := some 36, op := Op.binOp BinOp.eql 25 (Operand.tmp 33) (Operand.tmp 35) 25, type := 4, pos := "law.go:104", after := #[{ on := 12, ground := Ground.data }, { on := 14, ground := Ground.data }], guard := none }) (v := ?_) rfl (by kernel_rfl) (by kernel_rfl) (by kernel_rfl) (fun _ _ _ h => h) (Or.inl ⟨by rfl, ?_⟩) (by assumption) ?_
  rotate_left
  · intro w hSw
    clear hSw
    go_simp
    all_goals with_reducible rfl
  simp only [Act.put, List.setIfInBounds_toArray, List.set_cons_zero, List.set_cons_succ]
  refine wpAnyH_take (i := 16) (oi := { dst := some 37, op := Op.move (Operand.tmp 36), type := 4, pos := "law.go:104", after := #[{ on := 15, ground := Ground.data }, { on := 14, ground := Ground.chain }], guard := none }) (v := ?_) rfl (by kernel_rfl) (by kernel_rfl) (by kernel_rfl) (fun _ _ _ h => h) (Or.inl ⟨by rfl, ?_⟩) (by assumption) ?_
  rotate_left
  · intro w hSw
    clear hSw
    go_simp
    all_goals with_reducible rfl
  simp only [Act.put, List.setIfInBounds_toArray, List.set_cons_zero, List.set_cons_succ]
  refine wpAnyH_take (i := 17) (oi := { dst := some 38, op := Op.move (Operand.tmp 0), type := 22, pos := "law.go:104", after := #[{ on := 16, ground := Ground.guard }], guard := some (16, true) }) (v := ?_) rfl (by kernel_rfl) (by kernel_rfl) (by kernel_rfl) (fun _ _ _ h => h) (Or.inl ⟨by rfl, ?_⟩) (by assumption) ?_
  rotate_left
  · intro w hSw
    clear hSw
    go_simp
    all_goals with_reducible rfl
  simp only [Act.put, List.setIfInBounds_toArray, List.set_cons_zero, List.set_cons_succ]
  refine wpAnyH_take (i := 18) (oi := { dst := some 39, op := Op.move (Operand.tmp 7), type := 3, pos := "law.go:104", after := #[{ on := 16, ground := Ground.guard }], guard := some (16, true) }) (v := ?_) rfl (by kernel_rfl) (by kernel_rfl) (by kernel_rfl) (fun _ _ _ h => h) (Or.inl ⟨by rfl, ?_⟩) (by assumption) ?_
  rotate_left
  · intro w hSw
    clear hSw
    go_simp
    all_goals with_reducible rfl
  simp only [Act.put, List.setIfInBounds_toArray, List.set_cons_zero, List.set_cons_succ]
  refine wpAnyH_take (i := 19) (oi := { dst := some 40, op := Op.slice 22 (Operand.tmp 38) none (some (Operand.tmp 39)) none, type := 22, pos := "law.go:104", after := #[{ on := 17, ground := Ground.data }, { on := 18, ground := Ground.data }, { on := 16, ground := Ground.guard }], guard := some (16, true) }) (v := ?_) rfl (by kernel_rfl) (by kernel_rfl) (by kernel_rfl) (fun _ _ _ h => h) (Or.inl ⟨by rfl, ?_⟩) (by assumption) ?_
  rotate_left
  · intro w hSw
    clear hSw
    go_simp
    all_goals with_reducible rfl
  simp only [Act.put, List.setIfInBounds_toArray, List.set_cons_zero, List.set_cons_succ]
  refine wpAnyH_take (i := 22) (oi := { dst := some 43, op := Op.move (Operand.tmp 0), type := 22, pos := "law.go:104", after := #[{ on := 16, ground := Ground.guard }], guard := some (16, true) }) (v := ?_) rfl (by kernel_rfl) (by kernel_rfl) (by kernel_rfl) (fun _ _ _ h => h) (Or.inl ⟨by rfl, ?_⟩) (by assumption) ?_
  rotate_left
  · intro w hSw
    clear hSw
    go_simp
    all_goals with_reducible rfl
  simp only [Act.put, List.setIfInBounds_toArray, List.set_cons_zero, List.set_cons_succ]
  refine wpAnyH_take (i := 23) (oi := { dst := some 44, op := Op.move (Operand.tmp 7), type := 3, pos := "law.go:104", after := #[{ on := 16, ground := Ground.guard }], guard := some (16, true) }) (v := ?_) rfl (by kernel_rfl) (by kernel_rfl) (by kernel_rfl) (fun _ _ _ h => h) (Or.inl ⟨by rfl, ?_⟩) (by assumption) ?_
  rotate_left
  · intro w hSw
    clear hSw
    go_simp
    all_goals with_reducible rfl
  simp only [Act.put, List.setIfInBounds_toArray, List.set_cons_zero, List.set_cons_succ]
  refine wpAnyH_take (i := 24) (oi := { dst := some 45, op := Op.slice 22 (Operand.tmp 43) (some (Operand.tmp 44)) none none, type := 22, pos := "law.go:104", after := #[{ on := 22, ground := Ground.data }, { on := 23, ground := Ground.data }, { on := 16, ground := Ground.guard }], guard := some (16, true) }) (v := ?_) rfl (by kernel_rfl) (by kernel_rfl) (by kernel_rfl) (fun _ _ _ h => h) (Or.inl ⟨by rfl, ?_⟩) (by assumption) ?_
  rotate_left
  · intro w hSw
    clear hSw
    go_simp
    all_goals with_reducible rfl
  simp only [Act.put, List.setIfInBounds_toArray, List.set_cons_zero, List.set_cons_succ]
  rw [HYI.out]
  refine wpAnyH_take (i := 28) (oi := { dst := some 49, op := Op.move (Operand.tmp 0), type := 22, pos := "law.go:104", after := #[{ on := 16, ground := Ground.guard }], guard := some (16, true) }) (v := ?_) rfl (by kernel_rfl) (by kernel_rfl) (by kernel_rfl) (fun _ _ _ h => h) (Or.inl ⟨by rfl, ?_⟩) (by assumption) ?_
  rotate_left
  · intro w hSw
    clear hSw
    go_simp
    all_goals with_reducible rfl
  simp only [Act.put, List.setIfInBounds_toArray, List.set_cons_zero, List.set_cons_succ]
  refine wpAnyH_ready (rs := [20]) (by kernel_rfl) (by simp) ?_
  refine AllReadyH.cons (o := { dst := some 41, op := Op.buildSlice 35 1 #[(0, Operand.tmp 40)], type := 35, pos := "law.go:104", after := #[{ on := 19, ground := Ground.data }, { on := 16, ground := Ground.guard }], guard := some (16, true) }) rfl (fun K hK => ?_) AllReadyH.nil
  go_simp
  refine hK.out _ _ (Below.alloc hHeld (Below.size hHeld) _) (fun hHeld2 => ?_)
  clear hK K
  try simp only [Act.put, List.setIfInBounds_toArray, List.set_cons_zero, List.set_cons_succ]
  generalize hW : World.alloc w5 _ = W2 at *
  have row : W2.heap[w5.heap.size]? = some (.cells #[.slice ao i cap] 22 (0, 0)) := by rw [← hW]; exact heap_alloc_new w5 _
  have hgo : Below w5.heap.size w5 W2 := by rw [← hW]; exact ((Below.refl _ _).alloc (Nat.le_refl _) _)
  clear hW
  have hl1 := hide (list1 row ((X1.out.below hHeld (Nat.le_refl _)).below hgo (Nat.le_refl _)))
  clear row hgo hHeld
  have hHeld := hHeld2
  clear hHeld2
  refine wpAnyH_ready (rs := [21]) (by kernel_rfl) (by simp) ?_
  refine AllReadyH.cons (o := { dst := some 42, op := Op.call { callee := Callee.value (Operand.func 6), args := #[Operand.tmp 41], argTypes := #[35] }, type := 22, pos := "law.go:104", after := #[{ on := 20, ground := Ground.data }, { on := 16, ground := Ground.chain }, { on := 16, ground := Ground.guard }], guard := some (16, true) }) rfl (fun K hK => ?_) AllReadyH.nil
  go_simp
  refine (join_as F1 _ 1 1 _ W2 HF1 rfl (by omega) (by omega) hl1.out HBI.out).mono ?_
  rintro e w5 ⟨g2, rfl, _, hR, hbx⟩
  have hk := Below.trans hHeld (hbx.mono (Below.size hHeld))
  go_wp2_with fail
  have RR := hide (hR.sliceAt HBI.out)
  clear hbx hHeld hR hl1
  refine hK.out _ _ ?_ (fun hHeld => ?_)
  · exact hk
  clear hK K
  try simp only [Act.put, List.setIfInBounds_toArray, List.set_cons_zero, List.set_cons_succ]
  refine wpAnyH_ready (rs := [25]) (by kernel_rfl) (by simp) ?_
  refine AllReadyH.cons (o := { dst := some 46, op := Op.buildSlice 35 2 #[(0, Operand.tmp 42), (1, Operand.tmp 45)], type := 35, pos := "law.go:104", after := #[{ on := 21, ground := Ground.data }, { on := 24, ground := Ground.data }, { on := 16, ground := Ground.guard }], guard := some (16, true) }) rfl (fun K hK => ?_) AllReadyH.nil
  go_simp
  refine hK.out _ _ (Below.alloc hHeld (Below.size hHeld) _) (fun hHeld2 => ?_)
  clear hK K
  try simp only [Act.put, List.setIfInBounds_toArray, List.set_cons_zero, List.set_cons_succ]
  generalize hW : World.alloc w5 _ = W3 at *
  have row : W3.heap[w5.heap.size]? = some (.cells #[.slice (some ⟨g2, 0, none⟩) F1.length F1.length, .slice yi (len - i) (cap - i)] 22 (0, 0)) := by rw [← hW]; exact heap_alloc_new w5 _
  have hgo : Below w5.heap.size w5 W3 := by rw [← hW]; exact ((Below.refl _ _).alloc (Nat.le_refl _) _)
  clear hW
  have hl2 := hide (list2 row (RR.out.below hgo (Nat.le_refl _)) ((X4.out.below hHeld (Nat.le_refl _)).below hgo (Nat.le_refl _)))
  clear row hgo hHeld RR
  have hHeld := hHeld2
  clear hHeld2
  refine wpAnyH_ready (rs := [26]) (by kernel_rfl) (by simp) ?_
  refine AllReadyH.cons (o := { dst := some 47, op := Op.call { callee := Callee.value (Operand.func 6), args := #[Operand.tmp 46], argTypes := #[35] }, type := 22, pos := "law.go:104", after := #[{ on := 25, ground := Ground.data }, { on := 21, ground := Ground.chain }, { on := 16, ground := Ground.guard }], guard := some (16, true) }) rfl (fun K hK => ?_) AllReadyH.nil
  go_simp
  refine (join_as bs _ 2 2 _ W3 HF2 rfl (by omega) (by omega) hl2.out HBL.out).mono ?_
  rintro e w5 ⟨g3, rfl, _, hR, hbx⟩
  have hk := Below.trans hHeld (hbx.mono (Below.size hHeld))
  go_wp2_with fail
  have RR := hide (hR.sliceAt HBL.out)
  clear hbx hHeld hR hl2
  refine hK.out _ _ ?_ (fun hHeld => ?_)
  · exact hk
  clear hK K
  try simp only [Act.put, List.setIfInBounds_toArray, List.set_cons_zero, List.set_cons_succ]
  refine wpAnyH_ready (rs := [27]) (by kernel_rfl) (by simp) ?_
  refine AllReadyH.cons (o := { dst := some 48, op := Op.call { callee := Callee.value (Operand.func 5), args := #[Operand.tmp 47], argTypes := #[22] }, type := 25, pos := "law.go:104", after := #[{ on := 26, ground := Ground.data }, { on := 26, ground := Ground.chain }, { on := 16, ground := Ground.guard }], guard := some (16, true) }) rfl (fun K hK => ?_) AllReadyH.nil
  go_simp
  refine (Sum_as D _ bs _ HD RR.out (HK.out.below hHeld h0)).mono ?_
  rintro e w5 ⟨rfl, hbx⟩
  have hk := Below.trans hHeld (hbx.mono (Below.size hHeld))
  go_wp2_with fail
  clear hbx hHeld RR
  refine hK.out _ _ ?_ (fun hHeld => ?_)
  · exact hk
  clear hK K
  try simp only [Act.put, List.setIfInBounds_toArray, List.set_cons_zero, List.set_cons_succ]
  refine wpAnyH_ready (rs := [29]) (by kernel_rfl) (by simp) ?_
  refine AllReadyH.cons (o := { dst := some 50, op := Op.call { callee := Callee.value (Operand.func 5), args := #[Operand.tmp 49], argTypes := #[22] }, type := 25, pos := "law.go:104", after := #[{ on := 28, ground := Ground.data }, { on := 27, ground := Ground.chain }, { on := 16, ground := Ground.guard }], guard := some (16, true) }) rfl (fun K hK => ?_) AllReadyH.nil
  go_simp
  refine (Sum_as D _ bs _ HD (HV.out.below hHeld (Nat.le_refl _)) (HK.out.below hHeld h0)).mono ?_
  rintro e w5 ⟨rfl, hbx⟩
  have hk := Below.trans hHeld (hbx.mono (Below.size hHeld))
  go_wp2_with fail
  clear hbx hHeld
  refine hK.out _ _ ?_ (fun hHeld => ?_)
  · exact hk
  clear hK K
  try simp only [Act.put, List.setIfInBounds_toArray, List.set_cons_zero, List.set_cons_succ]
  refine wpAnyH_take (i := 30) (oi := { dst := some 51, op := Op.binOp BinOp.eql 25 (Operand.tmp 48) (Operand.tmp 50) 25, type := 4, pos := "law.go:104", after := #[{ on := 27, ground := Ground.data }, { on := 29, ground := Ground.data }, { on := 16, ground := Ground.guard }], guard := some (16, true) }) (v := ?_) rfl (by kernel_rfl) (by kernel_rfl) (by kernel_rfl) (fun _ _ _ h => h) (Or.inl ⟨by rfl, ?_⟩) (by assumption) ?_
  rotate_left
  · intro w hSw
    clear hSw
    go_simp
    all_goals with_reducible rfl
  simp only [Act.put, List.setIfInBounds_toArray, List.set_cons_zero, List.set_cons_succ]
  refine wpAnyH_take (i := 31) (oi := { dst := some 52, op := Op.pick (Operand.tmp 37) (Operand.tmp 51) (Operand.const (Value.bool false)), type := 4, pos := "law.go:104", after := #[{ on := 16, ground := Ground.data }, { on := 30, ground := Ground.data }], guard := none }) (v := ?_) rfl (by kernel_rfl) (by kernel_rfl) (by kernel_rfl) (fun _ _ _ h => h) (Or.inl ⟨by rfl, ?_⟩) (by assumption) ?_
  rotate_left
  · intro w hSw
    clear hSw
    go_simp
    all_goals with_reducible rfl
  simp only [Act.put, List.setIfInBounds_toArray, List.set_cons_zero, List.set_cons_succ]
  refine wpAnyH_take (i := 32) (oi := { dst := some 53, op := Op.move (Operand.tmp 52), type := 4, pos := "law.go:104", after := #[{ on := 31, ground := Ground.data }, { on := 29, ground := Ground.chain }], guard := none }) (v := ?_) rfl (by kernel_rfl) (by kernel_rfl) (by kernel_rfl) (fun _ _ _ h => h) (Or.inl ⟨by rfl, ?_⟩) (by assumption) ?_
  rotate_left
  · intro w hSw
    clear hSw
    go_simp
    all_goals with_reducible rfl
  simp only [Act.put, List.setIfInBounds_toArray, List.set_cons_zero, List.set_cons_succ]
  refine wpAnyH_ready (rs := [33]) (by kernel_rfl) (by simp) ?_
  refine AllReadyH.cons (o := { dst := some 54, op := Op.call { callee := Callee.value (Operand.func 7), args := #[], argTypes := #[] }, type := 4, pos := "law.go:104", after := #[{ on := 32, ground := Ground.chain }, { on := 32, ground := Ground.guard }], guard := some (32, true) }) rfl (fun K hK => ?_) AllReadyH.nil
  go_simp
  refine (known_any _ (HK.out.below hHeld h0)).mono ?_
  rintro e w5 ⟨rfl, hbx⟩
  have hk := Below.trans hHeld (hbx.mono (Below.size hHeld))
  go_wp2_with fail
  clear hbx hHeld
  refine hK.out _ _ ?_ (fun hHeld => ?_)
  · exact hk
  clear hK K
  try simp only [Act.put, List.setIfInBounds_toArray, List.set_cons_zero, List.set_cons_succ]
  refine wpAnyH_take (i := 34) (oi := { dst := some 55, op := Op.pick (Operand.tmp 53) (Operand.tmp 54) (Operand.const (Value.bool false)), type := 4, pos := "law.go:104", after := #[{ on := 32, ground := Ground.data }, { on := 33, ground := Ground.data }], guard := none }) (v := ?_) rfl (by kernel_rfl) (by kernel_rfl) (by kernel_rfl) (fun _ _ _ h => h) (Or.inl ⟨by rfl, ?_⟩) (by assumption) ?_
  rotate_left
  · intro w hSw
    clear hSw
    go_simp
    all_goals with_reducible rfl
  simp only [Act.put, List.setIfInBounds_toArray, List.set_cons_zero, List.set_cons_succ]
  refine wpAnyH_take (i := 35) (oi := { dst := some 6, op := Op.assign (Operand.tmp 55), type := 4, pos := "law.go:104", after := #[{ on := 34, ground := Ground.data }, { on := 33, ground := Ground.chain }, { on := 0, ground := Ground.phase }, { on := 1, ground := Ground.phase }, { on := 2, ground := Ground.phase }, { on := 3, ground := Ground.phase }, { on := 4, ground := Ground.phase }, { on := 5, ground := Ground.phase }, { on := 6, ground := Ground.phase }, { on := 7, ground := Ground.phase }, { on := 8, ground := Ground.phase }, { on := 9, ground := Ground.phase }, { on := 10, ground := Ground.phase }, { on := 11, ground := Ground.phase }, { on := 12, ground := Ground.phase }, { on := 13, ground := Ground.phase }, { on := 14, ground := Ground.phase }, { on := 15, ground := Ground.phase }, { on := 16, ground := Ground.phase }, { on := 17, ground := Ground.phase }, { on := 18, ground := Ground.phase }, { on := 19, ground := Ground.phase }, { on := 20, ground := Ground.phase }, { on := 21, ground := Ground.phase }, { on := 22, ground := Ground.phase }, { on := 23, ground := Ground.phase }, { on := 24, ground := Ground.phase }, { on := 25, ground := Ground.phase }, { on := 26, ground := Ground.phase }, { on := 27, ground := Ground.phase }, { on := 28, ground := Ground.phase }, { on := 29, ground := Ground.phase }, { on := 30, ground := Ground.phase }, { on := 31, ground := Ground.phase }, { on := 32, ground := Ground.phase }, { on := 33, ground := Ground.phase }, { on := 34, ground := Ground.phase }], guard := none }) (v := ?_) rfl (by kernel_rfl) (by kernel_rfl) (by kernel_rfl) (fun _ _ _ h => h) (Or.inl ⟨by rfl, ?_⟩) (by assumption) ?_
  rotate_left
  · intro w hSw
    clear hSw
    go_simp
    all_goals with_reducible rfl
  simp only [Act.put, List.setIfInBounds_toArray, List.set_cons_zero, List.set_cons_succ]
  refine wpAnyH_done (by kernel_rfl) ?_ _
  refine NoPanic.normal ?_
  go_wp2
  go_ret
  exact ⟨rfl, hHeld⟩
end Go.Proofs.YtdfjbajehcedaabDoor
