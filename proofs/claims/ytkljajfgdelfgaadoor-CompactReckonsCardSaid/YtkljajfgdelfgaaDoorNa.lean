/- The document's hasher: made, and what it hashes. -/
import Derived.Test.YtkljajfgdelfgaaDoorMg
import Derived.Test.YtkljajfgdelfgaaDoorRsum
namespace Go.Proofs.YtkljajfgdelfgaaDoor
open Go.RowKit

/-- The document's hasher of a width, and its table. -/
structure HsAt (w : World) (gh gT : Nat) (a : Int) : Prop where
  h : w.heap[gh]? = some (.cells #[.pointer (some ⟨gT, 0, none⟩), .int .i64 (S.cw a : Int)] 97 (0, 0))
  t : w.heap[gT]? = some (.cells (S.v32 (S.K ++ S.H0)) 102 (0, 0))
theorem HsAt.below {w w' : World} {gh gT B : Nat} {a : Int} (h : HsAt w gh gT a) (hb : Below B w w') (hB : w.heap.size ≤ B) : HsAt w' gh gT a :=
  ⟨(hb.block _ (by have := block_lt_of_row h.h; omega)).trans h.h, (hb.block _ (by have := block_lt_of_row h.t; omega)).trans h.t⟩
theorem HsAt.of_heap {w w' : World} {gh gT : Nat} {a : Int} (h : HsAt w gh gT a) (hh : w'.heap = w.heap) : HsAt w' gh gT a := ⟨by rw [hh]; exact h.h, by rw [hh]; exact h.t⟩
theorem cells2 {w : World} {g : Nat} {a b : Value} {t : TypeId} (h : w.heap[g]? = some (.cells #[a, b] t (0, 0))) : w.cell? ⟨g, 0, none⟩ = some a ∧ w.cell? ⟨g, 1, none⟩ = some b :=
  ⟨(cell_of_row w g 0 _ _ _ h).trans rfl, (cell_of_row w g 1 _ _ _ h).trans rfl⟩
set_option maxHeartbeats 1000000 in
set_option maxRecDepth 10000 in
theorem hnew_any (gT : Nat) (a : Int) (w : World) (hT : w.heap[gT]? = some (.cells (S.v32 (S.K ++ S.H0)) 102 (0, 0))) :
   Calls Tryd.prog 40 #[.pointer (some ⟨gT, 0, none⟩), .int .i64 a] w fun e w' => ∃ gh, e = .returned (.pointer (some ⟨gh, 0, none⟩)) ∧ HsAt w' gh gT a ∧ Below w.heap.size w w' := by
  have HT := hide hT
  clear hT
  have key : ∀ n : Nat, n = S.cw a → ∃ gh, Ending.returned (.pointer (some ⟨w.heap.size, 0, none⟩)) = Ending.returned (.pointer (some ⟨gh, 0, none⟩)) ∧ HsAt (w.alloc (.cells #[.pointer (some ⟨gT, 0, none⟩), .int .i64 (n : Int)] 97)) gh gT a ∧ Below w.heap.size w (w.alloc (.cells #[.pointer (some ⟨gT, 0, none⟩), .int .i64 (n : Int)] 97)) := fun n hn => by
    subst hn
    exact ⟨_, rfl, ⟨heap_alloc_new _ _, (heap_alloc_old _ _ (block_lt_of_row HT.out)).trans HT.out⟩, (Below.refl _ _).alloc (Nat.le_refl _) _⟩
  have KEY := hide key
  clear key
  by_cases h1 : a < 1
  · have q : S.cw a = 32 := by unfold S.cw; rw [if_pos (by omega)]
    have Q := hide q
    clear q
    go_enter Tryd.func40, Tryd.ntmps40
    go_wp2_with fail
    go_ret
    exact KEY.out 32 Q.out.symm
  · by_cases h2 : a > 32
    · have q : S.cw a = 32 := by unfold S.cw; rw [if_pos (by omega)]
      have h4 : (32 : Int) < a := by omega
      have Q := hide q
      clear q
      go_enter Tryd.func40, Tryd.ntmps40
      go_wp2_with fail
      go_ret
      exact KEY.out 32 Q.out.symm
    · have q : S.cw a = a.toNat := by unfold S.cw; rw [if_neg (by omega)]
      have h4 : ¬ (32 : Int) < a := by omega
      have q2 : a = ((a.toNat : Nat) : Int) := by omega
      obtain ⟨n, hn⟩ : ∃ n, n = a.toNat := ⟨_, rfl⟩
      rw [← hn] at q2 q
      have Q := hide q
      have Q2 := hide q2
      clear q q2 hn
      go_enter Tryd.func40, Tryd.ntmps40
      go_wp2_with fail
      go_ret
      have := KEY.out n Q.out.symm
      rw [← Q2.out] at this
      exact this
theorem hasher_any (a : Int) (w : World) :
   Calls Tryd.prog 18 #[.int .i64 a] w fun e w' => ∃ gh gT, e = .returned (.pointer (some ⟨gh, 0, none⟩)) ∧ HsAt w' gh gT a ∧ Below w.heap.size w w' := by
  go_enter Tryd.func18, Tryd.ntmps18
  go_wp2_with fail
  refine (new_any w).mono ?_
  rintro e w1 ⟨gT, rfl, _, r1, b1⟩
  have R1 := hide r1
  have B1 := hide b1
  clear r1 b1
  go_wp2_with fail
  refine (hnew_any gT a w1 R1.out).mono ?_
  rintro e w2 ⟨gh, rfl, h2, b2⟩
  have H2 := hide h2
  have B2 := hide (B1.out.trans (b2.mono B1.out.size))
  clear h2 b2
  go_wp2_with fail
  go_ret
  exact ⟨gh, gT, rfl, H2.out, B2.out⟩
set_option maxHeartbeats 2000000 in
set_option maxRecDepth 10000 in
theorem hsum_any (gh gT : Nat) (a : Int) (v : Value) (bs : List UInt8) (w : World) (hH : HsAt w gh gT a) (hv : SliceAt w v bs) (hl : bs.length ≤ 140737488355000) :
   Calls Tryd.prog 58 #[.pointer (some ⟨gh, 0, none⟩), v] w fun e w' => e = .returned (.agg (S.v8 (S.hsh a bs))) ∧ Below w.heap.size w w' := by
  obtain ⟨ao, len, cap, rfl, hlen, hmx⟩ := hv.form
  have HV := hide hv
  have HH := hide hH
  have HLn := hide hl
  obtain ⟨n, hn⟩ : ∃ n, n = S.cw a := ⟨_, rfl⟩
  have HN := hide hn
  have lh := block_lt_of_row hH.h
  clear hv hH hl hlen hmx hn
  go_enter Tryd.func58, Tryd.ntmps58
  go_wp2_with fail
  generalize hW0 : w.alloc _ = W0
  have B0 : Hid (Below w.heap.size w W0) := by rw [← hW0]; exact (Below.refl _ _).alloc (Nat.le_refl _) _
  have R0 : Hid (W0.heap[w.heap.size]? = some (.cells (S.v8 (S.zeros 32)) 23 (0, 0))) := by rw [← hW0]; exact heap_alloc_new _ _
  clear hW0
  have hH0 := HH.out.below B0.out (Nat.le_refl _)
  have hC : W0.cell? ⟨gh, 0, none⟩ = some (.pointer (some ⟨gT, 0, none⟩)) ∧ W0.cell? ⟨gh, 1, none⟩ = some (.int .i64 (n : Int)) := by rw [HN.out]; exact cells2 hH0.h
  have CC := hide hC
  clear hH0 hC
  refine wp_region_noPanic ?_
  refine wp_region_held_drew (S := (fun W => W.cell? ⟨gh, 0, none⟩ = some (.pointer (some ⟨gT, 0, none⟩)) ∧ W.cell? ⟨gh, 1, none⟩ = some (.int .i64 (n : Int)))) follows CC.out (fun hHeld => ?_)
  have BZ : Hid (Below w.heap.size w W0.drew) := B0.out.drew
  have RZ : Hid (W0.drew.heap[w.heap.size]? = some (.cells (S.v8 (S.zeros 32)) 23 (0, 0))) := R0.out
  clear B0 R0 CC
  generalize W0.drew = Z at BZ RZ hHeld ⊢
  refine wpAnyH_take (i := 0) (oi := { dst := some 5, op := Op.move (Operand.tmp 0), type := 42, pos := "ref.go:26", after := #[], guard := none }) (v := ?_) rfl (by kernel_rfl) (by kernel_rfl) (by kernel_rfl) (fun _ _ _ h => h) (Or.inl ⟨by rfl, ?_⟩) (by assumption) ?_
  rotate_left
  · intro w hSw
    clear hSw
    go_simp
    all_goals with_reducible rfl
  simp only [Act.put, List.setIfInBounds_toArray, List.set_cons_zero, List.set_cons_succ]
  refine wpAnyH_take (i := 1) (oi := { dst := some 6, op := Op.nilCheck (Operand.tmp 5), type := 0, pos := "ref.go:26", after := #[{ on := 0, ground := Ground.data }], guard := none }) (v := ?_) rfl (by kernel_rfl) (by kernel_rfl) (by kernel_rfl) (fun _ _ _ h => h) (Or.inl ⟨by rfl, ?_⟩) (by assumption) ?_
  rotate_left
  · intro w hSw
    clear hSw
    go_simp
    all_goals with_reducible rfl
  simp only [Act.put, List.setIfInBounds_toArray, List.set_cons_zero, List.set_cons_succ]
  refine wpAnyH_take (i := 2) (oi := { dst := some 7, op := Op.fieldAddr 97 (Operand.tmp 6) 0, type := 0, pos := "ref.go:26", after := #[{ on := 1, ground := Ground.data }], guard := none }) (v := ?_) rfl (by kernel_rfl) (by kernel_rfl) (by kernel_rfl) (fun _ _ _ h => h) (Or.inl ⟨by rfl, ?_⟩) (by assumption) ?_
  rotate_left
  · intro w hSw
    clear hSw
    go_simp
    all_goals with_reducible rfl
  simp only [Act.put, List.setIfInBounds_toArray, List.set_cons_zero, List.set_cons_succ]
  refine wpAnyH_take (i := 3) (oi := { dst := some 8, op := Op.load 79 (Operand.tmp 7), type := 79, pos := "ref.go:26", after := #[{ on := 2, ground := Ground.data }], guard := none }) (v := ?_) rfl (by kernel_rfl) (by kernel_rfl) (by kernel_rfl) (fun _ _ _ h => h) (Or.inl ⟨by rfl, ?_⟩) (by assumption) ?_
  rotate_left
  · intro w hSw
    have c4 := hSw.1
    clear hSw
    go_simp
    all_goals with_reducible rfl
  simp only [Act.put, List.setIfInBounds_toArray, List.set_cons_zero, List.set_cons_succ]
  refine wpAnyH_take (i := 4) (oi := { dst := some 9, op := Op.move (Operand.tmp 1), type := 60, pos := "ref.go:26", after := #[], guard := none }) (v := ?_) rfl (by kernel_rfl) (by kernel_rfl) (by kernel_rfl) (fun _ _ _ h => h) (Or.inl ⟨by rfl, ?_⟩) (by assumption) ?_
  rotate_left
  · intro w hSw
    clear hSw
    go_simp
    all_goals with_reducible rfl
  simp only [Act.put, List.setIfInBounds_toArray, List.set_cons_zero, List.set_cons_succ]
  refine wpAnyH_take (i := 6) (oi := { dst := some 11, op := Op.move (Operand.tmp 0), type := 42, pos := "ref.go:26", after := #[], guard := none }) (v := ?_) rfl (by kernel_rfl) (by kernel_rfl) (by kernel_rfl) (fun _ _ _ h => h) (Or.inl ⟨by rfl, ?_⟩) (by assumption) ?_
  rotate_left
  · intro w hSw
    clear hSw
    go_simp
    all_goals with_reducible rfl
  simp only [Act.put, List.setIfInBounds_toArray, List.set_cons_zero, List.set_cons_succ]
  refine wpAnyH_take (i := 7) (oi := { dst := some 12, op := Op.nilCheck (Operand.tmp 11), type := 0, pos := "ref.go:26", after := #[{ on := 6, ground := Ground.data }], guard := none }) (v := ?_) rfl (by kernel_rfl) (by kernel_rfl) (by kernel_rfl) (fun _ _ _ h => h) (Or.inl ⟨by rfl, ?_⟩) (by assumption) ?_
  rotate_left
  · intro w hSw
    clear hSw
    go_simp
    all_goals with_reducible rfl
  simp only [Act.put, List.setIfInBounds_toArray, List.set_cons_zero, List.set_cons_succ]
  refine wpAnyH_take (i := 8) (oi := { dst := some 13, op := Op.fieldAddr 97 (Operand.tmp 12) 1, type := 0, pos := "ref.go:26", after := #[{ on := 7, ground := Ground.data }], guard := none }) (v := ?_) rfl (by kernel_rfl) (by kernel_rfl) (by kernel_rfl) (fun _ _ _ h => h) (Or.inl ⟨by rfl, ?_⟩) (by assumption) ?_
  rotate_left
  · intro w hSw
    clear hSw
    go_simp
    all_goals with_reducible rfl
  simp only [Act.put, List.setIfInBounds_toArray, List.set_cons_zero, List.set_cons_succ]
  refine wpAnyH_take (i := 9) (oi := { dst := some 14, op := Op.load 3 (Operand.tmp 13), type := 3, pos := "ref.go:26", after := #[{ on := 8, ground := Ground.data }], guard := none }) (v := ?_) rfl (by kernel_rfl) (by kernel_rfl) (by kernel_rfl) (fun _ _ _ h => h) (Or.inl ⟨by rfl, ?_⟩) (by assumption) ?_
  rotate_left
  · intro w hSw
    have c4 := hSw.2
    clear hSw
    go_simp
    all_goals with_reducible rfl
  simp only [Act.put, List.setIfInBounds_toArray, List.set_cons_zero, List.set_cons_succ]
  refine wpAnyH_ready (rs := [5]) (by kernel_rfl) (by simp) ?_
  refine AllReadyH.cons (o := { dst := some 10, op := Op.call { callee := Callee.value (Operand.func 69), args := #[Operand.tmp 8, Operand.tmp 9], argTypes := #[79, 60] }, type := 23, pos := "ref.go:26", after := #[{ on := 3, ground := Ground.data }, { on := 4, ground := Ground.data }], guard := none }) rfl (fun K hK => ?_) AllReadyH.nil
  go_simp
  have HZ := HH.out.below BZ.out (Nat.le_refl _)
  refine (rsum_any gT _ bs Z HZ.t (HV.out.below BZ.out (Nat.le_refl _)) HLn.out).mono ?_
  rintro e Z2 ⟨rfl, hb2⟩
  have B2 : Hid (Below w.heap.size w Z2) := BZ.out.trans (hb2.mono BZ.out.size)
  have R2 : Hid (Z2.heap[w.heap.size]? = some (.cells (S.v8 (S.zeros 32)) 23 (0, 0))) := (hb2.block _ (block_lt_of_row RZ.out)).trans RZ.out
  have a3 : Z2.cell? ⟨gh, 0, none⟩ = some (.pointer (some ⟨gT, 0, none⟩)) ∧ Z2.cell? ⟨gh, 1, none⟩ = some (.int .i64 (n : Int)) := ⟨(hb2.cell (p := ⟨gh, 0, none⟩) (Nat.lt_of_lt_of_le lh BZ.out.size)).trans hHeld.1, (hb2.cell (p := ⟨gh, 1, none⟩) (Nat.lt_of_lt_of_le lh BZ.out.size)).trans hHeld.2⟩
  clear hHeld hb2 BZ RZ HZ
  refine hK.out _ _ a3 (fun hHeld => ?_)
  clear hK K
  try simp only [Act.put, List.setIfInBounds_toArray, List.set_cons_zero, List.set_cons_succ]
  clear a3
  refine wpAnyH_ready (rs := [10]) (by kernel_rfl) (by simp) ?_
  refine AllReadyH.cons (o := { dst := some 15, op := Op.call { callee := Callee.value (Operand.func 68), args := #[Operand.tmp 10, Operand.tmp 14], argTypes := #[23, 3] }, type := 23, pos := "ref.go:26", after := #[{ on := 5, ground := Ground.data }, { on := 9, ground := Ground.data }, { on := 5, ground := Ground.chain }], guard := none }) rfl (fun K hK => ?_) AllReadyH.nil
  go_simp
  refine (rcut_all (S.sum bs) (S.sum_length bs) (n : Int) Z2).mono ?_
  rintro e Z3 ⟨rfl, hb2⟩
  have ee : S.cut (S.sum bs) ((n : Int)).toNat = S.hsh a bs := by rw [S.hsh, ← HN.out]; rfl
  rw [ee]
  have B3 : Hid (Below w.heap.size w Z3) := B2.out.trans (hb2.mono B2.out.size)
  have R3 : Hid (Z3.heap[w.heap.size]? = some (.cells (S.v8 (S.zeros 32)) 23 (0, 0))) := (hb2.block _ (block_lt_of_row R2.out)).trans R2.out
  have a3 : Z3.cell? ⟨gh, 0, none⟩ = some (.pointer (some ⟨gT, 0, none⟩)) ∧ Z3.cell? ⟨gh, 1, none⟩ = some (.int .i64 (n : Int)) := ⟨(hb2.cell (p := ⟨gh, 0, none⟩) (Nat.lt_of_lt_of_le lh B2.out.size)).trans hHeld.1, (hb2.cell (p := ⟨gh, 1, none⟩) (Nat.lt_of_lt_of_le lh B2.out.size)).trans hHeld.2⟩
  obtain ⟨D, hD⟩ : ∃ D, D = S.hsh a bs := ⟨_, rfl⟩
  rw [← hD]
  have HL := hide (show D.length = 32 by rw [hD, S.hsh_length])
  have HD := hide hD
  clear hHeld hb2 B2 R2 ee hD
  refine hK.out _ _ a3 (fun hHeld => ?_)
  clear hK K
  try simp only [Act.put, List.setIfInBounds_toArray, List.set_cons_zero, List.set_cons_succ]
  clear a3
  obtain ⟨Z4, hst, R6, C6, s6⟩ := store_dig R3.out (S.zeros_length _) HL.out
  have B6 : Below w.heap.size w Z4 := B3.out.trans (C6.below _ B3.out.size (fun k hk e => by omega))
  refine wpAnyH_ready (rs := [11]) (by kernel_rfl) (by simp) ?_
  refine step_store_as (o := { dst := none, op := Op.store 23 (Operand.tmp 4) (Operand.tmp 15), type := 0, pos := "ref.go:26", after := #[{ on := 10, ground := Ground.data }, { on := 10, ground := Ground.chain }, { on := 0, ground := Ground.phase }, { on := 1, ground := Ground.phase }, { on := 2, ground := Ground.phase }, { on := 3, ground := Ground.phase }, { on := 4, ground := Ground.phase }, { on := 5, ground := Ground.phase }, { on := 6, ground := Ground.phase }, { on := 7, ground := Ground.phase }, { on := 8, ground := Ground.phase }, { on := 9, ground := Ground.phase }, { on := 10, ground := Ground.phase }], guard := none }) rfl rfl 23 (.tmp 4) (.tmp 15) rfl _ _ rfl rfl Z4 hst AllReadyH.nil ⟨?_, fun hHeld => ?_⟩
  · exact ⟨(World.cell?_of_block (C6.block gh (Nat.lt_of_lt_of_le lh B3.out.size) (by omega))).trans hHeld.1, (World.cell?_of_block (C6.block gh (Nat.lt_of_lt_of_le lh B3.out.size) (by omega))).trans hHeld.2⟩
  clear hHeld hst
  simp only [Act.put]
  refine wpAnyH_done (by kernel_rfl) ?_ _
  refine NoPanic.normal ?_
  go_wp2_with fail
  exact bodyPost_ret (v := .agg (S.v8 D)) (results_cell_row (g := w.heap.size) (t := 23) (fr := (0, 0)) Tryd.results58 _ _ _ _ rfl R6 Tryd.underlying23 rfl (size_dig D HL.out)) rfl ⟨by rw [HD.out], B6⟩
theorem own_one {w : World} {g : Nat} {x : UInt8} {c : Int} {B : Nat} (hc : c = (x.toNat : Int)) (h : w.heap[g]? = some (.cells #[.int .u8 c] 5 (0, 0))) (hB : B ≤ g) : Own w B (.slice (some ⟨g, 0, none⟩) 1 1) [x] := by
  refine ⟨⟨rfl, Or.inr ⟨g, 1, _, rfl, hB, h, by simp, by simp [maxLen], rfl, ?_⟩⟩, g, 1, rfl⟩
  rw [hc]; rfl
set_option maxHeartbeats 1000000 in
set_option maxRecDepth 10000 in
theorem leafText_any (gh : Nat) (v : Value) (bs : List UInt8) (w : World) (hv : SliceAt w v bs) (hl : bs.length + 1 ≤ 140737488355328) :
   Calls Tryd.prog 70 #[.pointer (some ⟨gh, 0, none⟩), v] w fun e w' => ∃ v', e = .returned v' ∧ SliceAt w' v' (0 :: bs) ∧ Below w.heap.size w w' := by
  obtain ⟨ao, len, cap, rfl, hlen, hmx⟩ := hv.form
  have b0 : Below w.heap.size w (w.alloc (.cells #[.int .u8 0] 5)) := (Below.refl _ _).alloc (Nat.le_refl _) _
  have KEY := hide (run_append_bytes (w.alloc (.cells #[.int .u8 0] 5)) w.heap.size (.slice (some ⟨w.heap.size, 0, none⟩) 1 1) _ [0] bs 60 (own_one (x := 0) rfl (heap_alloc_new _ _) (Nat.le_refl _)) (hv.below b0 (Nat.le_refl _)) (by simp; omega) (by simp))
  have B0 := hide b0
  have HL := hide hl
  clear b0 hv hl hlen hmx
  go_enter Tryd.func70, Tryd.ntmps70
  go_wp2_with (at_builtin; (refine wpList_append_known rfl (.tmp 5) (.tmp 6) 60 60 rfl _ _ rfl rfl KEY.out ?_; rintro v' w' ⟨hO, hB⟩))
  have HO := hide hO
  have HB := hide (B0.out.trans hB)
  clear hO hB
  go_wp2_with fail
  go_ret
  exact ⟨v', rfl, HO.out.sliceAt (by have := HL.out; simp; omega), HB.out⟩
end Go.Proofs.YtkljajfgdelfgaaDoor
