/- Place and Push of a queue of pairs. -/
import Derived.Test.YtghcgkcojgmbkaaQk
namespace Go.Proofs.Ytghcgkcojgmbkaa
open Go.RowKit
theorem bsP (W : World) (x : Int × Int) : (Instr.buildSlice 55 1 #[(0, .agg #[.int .i64 x.1, .int .i64 x.2])]).run Try.prog W = .ok (.slice (some ⟨W.heap.size, 0, none⟩) 1 1) (W.alloc (.cells #[.int .i64 x.1, .int .i64 x.2] 50)) := by
  obtain ⟨i, hi, hz, hs, _⟩ := info_parts info50
  refine run_buildSlice W 55 50 1 _ _ i _ Try.underlying55 hi hz (by rw [hs]; omega) (by rw [hs]; omega) ?_
  have h := Great.fill_whole (s := 2) (by omega) [.agg #[.int .i64 x.1, .int .i64 x.2]] ((Array.range (1 * i.size)).map ((.agg #[.int .i64 0, .int .i64 0] : Value).cells[· % (.agg #[.int .i64 0, .int .i64 0] : Value).cells.size]!)) (fun v hv => by
    simp only [List.mem_singleton] at hv
    subst hv
    rfl) (by simp [hs])
  rw [hs] at h ⊢
  refine h.trans ?_
  simp [Value.cells]

theorem pushP_end (B : Nat) (w w1 W2 w3 : World) (g : Nat) (v v3 : Value) (xs : List (Int × Int)) (x : Int × Int) (H : QAt 67 50 2 encP B w g v xs) (hl : xs.length < 64) (B1 : Below w.heap.size w w1) (B2 : Below w1.heap.size w1 W2)
    (R3 : Rw 50 2 encP B w3 v3 (xs ++ [x])) (C3 : Chg (fun j => v.ownBlock = some j) W2 w3) (O3 : ∀ k, v3.ownBlock = some k → v.ownBlock = some k ∨ W2.heap.size ≤ k) (g3 : w3.heap[g]? = some (.cells #[v] 67 (0, 0))) :
    QAt 67 50 2 encP B (w3.setCell ⟨g, 0, none⟩ v3) g v3 (xs ++ [x]) ∧ QTo w g v (w3.setCell ⟨g, 0, none⟩ v3) v3 := by
  have hng : v.ownBlock ≠ some g := H.list.apart H.row (by decide)
  have C4 : Chg (fun j => j = g) w3 (w3.setCell ⟨g, 0, none⟩ v3) := (Chg.refl _ w3).setCell g 0 v3 (fun _ => rfl)
  have hgl := H.g_lt
  have s1 := B1.size
  have s2 := B2.size
  refine ⟨⟨one_setCell g3, R3.chg C4 (fun j hj c => ?_), by simp; omega, H.lo⟩, ⟨?_, fun j hj => ?_⟩⟩
  · rcases O3 j hj with e | e
    · rw [c] at e; exact hng e
    · omega
  · have C1 : Chg (fun j => j = g ∨ v.ownBlock = some j) w W2 := Chg.ofBelow' (B1.trans (B2.mono s1))
    exact (C1.trans C3 (fun j _ c => Or.inr c)).trans C4 (fun j _ c => Or.inl c)
  · rcases O3 j hj with e | e
    · exact Or.inl e
    · exact Or.inr (by omega)


set_option maxHeartbeats 1600000 in
theorem placeP_any (B : Nat) (w : World) (g : Nat) (v : Value) (xs : List (Int × Int)) (x : Int × Int) (h : QAt 67 50 2 encP B w g v xs) :
   Calls Try.prog 31 #[.pointer (some ⟨g, 0, none⟩), .agg #[.int .i64 x.1, .int .i64 x.2]] w fun e w' => e = .returned (.tuple #[.int .i64 (S.placeA xs x).1, .bool (S.placeA xs x).2]) ∧ Below w.heap.size w w' := by
  have H0 := hide h
  have hf := h.few
  obtain ⟨xa, xb⟩ := x
  clear h
  by_cases hm : (xa, xb) ∈ xs
  · have e1 : Hid (S.idx xs (xa, xb) = ((S.ahead xs (xa, xb) : Nat) : Int)) := S.idx_yes hm
    rw [S.placeA_yes hm]
    obtain ⟨a, ha⟩ : ∃ a, a = S.ahead xs (xa, xb) := ⟨_, rfl⟩
    rw [← ha] at e1 ⊢
    have q1 : (0 : Int) ≤ (a : Int) := by omega
    clear ha
    obtain ⟨gb, hgb⟩ : ∃ gb, gb = w.heap.size := ⟨_, rfl⟩
    go_enter Try.func31, Try.ntmps31
    go_upto_region 1 with fail
    rw [← hgb]
    generalize hA : World.alloc _ _ = W0
    have B0 : Hid (Below w.heap.size w W0) := by rw [← hA]; exact (Below.refl _ _).alloc (Nat.le_refl _) _
    have R0 : Hid (W0.heap[gb]? = some (.cells #[.int .i64 xa, .int .i64 xb] 50 (0, 0))) := by
      show W0.heap[gb]? = _
      rw [← hA, hgb]; exact heap_alloc_new _ _
    have H := hide (H0.out.below B0.out)
    have GBW : Hid (w.heap.size ≤ gb) := by show w.heap.size ≤ gb; omega
    clear hA hgb
    refine wp_region_noPanic ?_
    refine wp_region_held_drew (S := (fun W => Below W0.heap.size W0 W)) follows ((Below.refl _ _).drew) (fun hHeld => ?_)
    clear hHeld
    have hHeld : Below W0.heap.size W0 W0.drew := (Below.refl _ _).drew
    have CZ := hide hHeld
    generalize W0.drew = Z0 at CZ hHeld ⊢
    refine wpAnyH_take (i := 0) (oi := { dst := some 7, op := Op.move (Operand.tmp 0), type := 48, pos := "queue.go:32", after := #[], guard := none }) (v := ?_) rfl (by kernel_rfl) (by kernel_rfl) (by kernel_rfl) (fun _ _ _ h => h) (Or.inl ⟨by rfl, ?_⟩) (by assumption) ?_
    rotate_left
    · intro w hSw
      clear hSw
      go_simp
      all_goals with_reducible rfl
    simp only [Act.put, List.setIfInBounds_toArray, List.set_cons_zero, List.set_cons_succ]
    refine wpAnyH_take (i := 1) (oi := { dst := some 8, op := Op.nilCheck (Operand.tmp 7), type := 0, pos := "queue.go:32", after := #[{ on := 0, ground := Ground.data }], guard := none }) (v := ?_) rfl (by kernel_rfl) (by kernel_rfl) (by kernel_rfl) (fun _ _ _ h => h) (Or.inl ⟨by rfl, ?_⟩) (by assumption) ?_
    rotate_left
    · intro w hSw
      clear hSw
      go_simp
      all_goals with_reducible rfl
    simp only [Act.put, List.setIfInBounds_toArray, List.set_cons_zero, List.set_cons_succ]
    refine wpAnyH_take (i := 2) (oi := { dst := some 9, op := Op.fieldAddr 67 (Operand.tmp 8) 0, type := 0, pos := "queue.go:32", after := #[{ on := 1, ground := Ground.data }], guard := none }) (v := ?_) rfl (by kernel_rfl) (by kernel_rfl) (by kernel_rfl) (fun _ _ _ h => h) (Or.inl ⟨by rfl, ?_⟩) (by assumption) ?_
    rotate_left
    · intro w hSw
      clear hSw
      go_simp
      all_goals with_reducible rfl
    simp only [Act.put, List.setIfInBounds_toArray, List.set_cons_zero, List.set_cons_succ]
    refine wpAnyH_take (i := 3) (oi := { dst := some 10, op := Op.load 55 (Operand.tmp 9), type := 55, pos := "queue.go:32", after := #[{ on := 2, ground := Ground.data }], guard := none }) (v := ?_) rfl (by kernel_rfl) (by kernel_rfl) (by kernel_rfl) (fun _ _ _ h => h) (Or.inl ⟨by rfl, ?_⟩) (by assumption) ?_
    rotate_left
    · intro w hSw
      have c0 := (hSw.cell (p := ⟨g, 0, none⟩) H.out.g_lt).trans (cells1 H.out.row)
      clear hSw
      go_simp
      all_goals with_reducible rfl
    simp only [Act.put, List.setIfInBounds_toArray, List.set_cons_zero, List.set_cons_succ]
    refine wpAnyH_take (i := 4) (oi := { dst := some 11, op := Op.load 50 (Operand.tmp 3), type := 50, pos := "queue.go:32", after := #[], guard := none }) (v := ?_) rfl (by kernel_rfl) (by kernel_rfl) (by kernel_rfl) (fun _ _ _ h => h) (Or.inl ⟨by rfl, ?_⟩) (by assumption) ?_
    rotate_left
    · intro w hSw
      have d1 := (hSw.cell (p := ⟨gb, 0, none⟩) (block_lt_of_row R0.out)).trans (cells2p R0.out).1
      have d2 := (hSw.cell (p := ⟨gb, 1, none⟩) (block_lt_of_row R0.out)).trans (cells2p R0.out).2
      clear hSw
      go_simp
      all_goals with_reducible rfl
    simp only [Act.put, List.setIfInBounds_toArray, List.set_cons_zero, List.set_cons_succ]
    refine wpAnyH_ready (rs := [5]) (by kernel_rfl) (by simp) ?_
    refine AllReadyH.cons (o := { dst := some 12, op := Op.call { callee := Callee.value (Operand.func 39), args := #[Operand.tmp 10, Operand.tmp 11], argTypes := #[55, 50] }, type := 3, pos := "queue.go:32", after := #[{ on := 3, ground := Ground.data }, { on := 4, ground := Ground.data }], guard := none }) rfl (fun K hK => ?_) AllReadyH.nil
    go_simp
    refine (findP_any B Z0 v xs (xa, xb) (H.out.below CZ.out).list (by omega)).mono ?_
    rintro e Z1 ⟨rfl, hb⟩
    rw [e1.out]
    have CZ1 := hide (CZ.out.trans (hb.mono CZ.out.size))
    clear hb CZ hHeld
    refine hK.out _ _ CZ1.out (fun hHeld => ?_)
    clear hK K
    try simp only [Act.put, List.setIfInBounds_toArray, List.set_cons_zero, List.set_cons_succ]
    refine wpAnyH_take (i := 6) (oi := { dst := some 6, op := Op.assign (Operand.tmp 12), type := 3, pos := "queue.go:32", after := #[{ on := 5, ground := Ground.data }, { on := 5, ground := Ground.chain }, { on := 0, ground := Ground.phase }, { on := 1, ground := Ground.phase }, { on := 2, ground := Ground.phase }, { on := 3, ground := Ground.phase }, { on := 4, ground := Ground.phase }, { on := 5, ground := Ground.phase }], guard := none }) (v := ?_) rfl (by kernel_rfl) (by kernel_rfl) (by kernel_rfl) (fun _ _ _ h => h) (Or.inl ⟨by rfl, ?_⟩) (by assumption) ?_
    rotate_left
    · intro w hSw
      clear hSw
      go_simp
      all_goals with_reducible rfl
    simp only [Act.put, List.setIfInBounds_toArray, List.set_cons_zero, List.set_cons_succ]
    refine wpAnyH_done (by kernel_rfl) ?_ _
    refine NoPanic.normal ?_
    clear hHeld
    go_wp2
    exact bodyPost_ret (v := .tuple #[.int .i64 (a : Int), .bool true]) (by simp [results, Try.results31]) rfl ⟨rfl, B0.out.trans (CZ1.out.mono B0.out.size)⟩
  · have e1 : Hid (S.idx xs (xa, xb) = -1) := S.idx_no hm
    rw [S.placeA_no hm]
    obtain ⟨gb, hgb⟩ : ∃ gb, gb = w.heap.size := ⟨_, rfl⟩
    go_enter Try.func31, Try.ntmps31
    go_upto_region 1 with fail
    rw [← hgb]
    generalize hA : World.alloc _ _ = W0
    have B0 : Hid (Below w.heap.size w W0) := by rw [← hA]; exact (Below.refl _ _).alloc (Nat.le_refl _) _
    have R0 : Hid (W0.heap[gb]? = some (.cells #[.int .i64 xa, .int .i64 xb] 50 (0, 0))) := by
      show W0.heap[gb]? = _
      rw [← hA, hgb]; exact heap_alloc_new _ _
    have H := hide (H0.out.below B0.out)
    have GBW : Hid (w.heap.size ≤ gb) := by show w.heap.size ≤ gb; omega
    clear hA hgb
    refine wp_region_noPanic ?_
    refine wp_region_held_drew (S := (fun W => Below W0.heap.size W0 W)) follows ((Below.refl _ _).drew) (fun hHeld => ?_)
    clear hHeld
    have hHeld : Below W0.heap.size W0 W0.drew := (Below.refl _ _).drew
    have CZ := hide hHeld
    generalize W0.drew = Z0 at CZ hHeld ⊢
    refine wpAnyH_take (i := 0) (oi := { dst := some 7, op := Op.move (Operand.tmp 0), type := 48, pos := "queue.go:32", after := #[], guard := none }) (v := ?_) rfl (by kernel_rfl) (by kernel_rfl) (by kernel_rfl) (fun _ _ _ h => h) (Or.inl ⟨by rfl, ?_⟩) (by assumption) ?_
    rotate_left
    · intro w hSw
      clear hSw
      go_simp
      all_goals with_reducible rfl
    simp only [Act.put, List.setIfInBounds_toArray, List.set_cons_zero, List.set_cons_succ]
    refine wpAnyH_take (i := 1) (oi := { dst := some 8, op := Op.nilCheck (Operand.tmp 7), type := 0, pos := "queue.go:32", after := #[{ on := 0, ground := Ground.data }], guard := none }) (v := ?_) rfl (by kernel_rfl) (by kernel_rfl) (by kernel_rfl) (fun _ _ _ h => h) (Or.inl ⟨by rfl, ?_⟩) (by assumption) ?_
    rotate_left
    · intro w hSw
      clear hSw
      go_simp
      all_goals with_reducible rfl
    simp only [Act.put, List.setIfInBounds_toArray, List.set_cons_zero, List.set_cons_succ]
    refine wpAnyH_take (i := 2) (oi := { dst := some 9, op := Op.fieldAddr 67 (Operand.tmp 8) 0, type := 0, pos := "queue.go:32", after := #[{ on := 1, ground := Ground.data }], guard := none }) (v := ?_) rfl (by kernel_rfl) (by kernel_rfl) (by kernel_rfl) (fun _ _ _ h => h) (Or.inl ⟨by rfl, ?_⟩) (by assumption) ?_
    rotate_left
    · intro w hSw
      clear hSw
      go_simp
      all_goals with_reducible rfl
    simp only [Act.put, List.setIfInBounds_toArray, List.set_cons_zero, List.set_cons_succ]
    refine wpAnyH_take (i := 3) (oi := { dst := some 10, op := Op.load 55 (Operand.tmp 9), type := 55, pos := "queue.go:32", after := #[{ on := 2, ground := Ground.data }], guard := none }) (v := ?_) rfl (by kernel_rfl) (by kernel_rfl) (by kernel_rfl) (fun _ _ _ h => h) (Or.inl ⟨by rfl, ?_⟩) (by assumption) ?_
    rotate_left
    · intro w hSw
      have c0 := (hSw.cell (p := ⟨g, 0, none⟩) H.out.g_lt).trans (cells1 H.out.row)
      clear hSw
      go_simp
      all_goals with_reducible rfl
    simp only [Act.put, List.setIfInBounds_toArray, List.set_cons_zero, List.set_cons_succ]
    refine wpAnyH_take (i := 4) (oi := { dst := some 11, op := Op.load 50 (Operand.tmp 3), type := 50, pos := "queue.go:32", after := #[], guard := none }) (v := ?_) rfl (by kernel_rfl) (by kernel_rfl) (by kernel_rfl) (fun _ _ _ h => h) (Or.inl ⟨by rfl, ?_⟩) (by assumption) ?_
    rotate_left
    · intro w hSw
      have d1 := (hSw.cell (p := ⟨gb, 0, none⟩) (block_lt_of_row R0.out)).trans (cells2p R0.out).1
      have d2 := (hSw.cell (p := ⟨gb, 1, none⟩) (block_lt_of_row R0.out)).trans (cells2p R0.out).2
      clear hSw
      go_simp
      all_goals with_reducible rfl
    simp only [Act.put, List.setIfInBounds_toArray, List.set_cons_zero, List.set_cons_succ]
    refine wpAnyH_ready (rs := [5]) (by kernel_rfl) (by simp) ?_
    refine AllReadyH.cons (o := { dst := some 12, op := Op.call { callee := Callee.value (Operand.func 39), args := #[Operand.tmp 10, Operand.tmp 11], argTypes := #[55, 50] }, type := 3, pos := "queue.go:32", after := #[{ on := 3, ground := Ground.data }, { on := 4, ground := Ground.data }], guard := none }) rfl (fun K hK => ?_) AllReadyH.nil
    go_simp
    refine (findP_any B Z0 v xs (xa, xb) (H.out.below CZ.out).list (by omega)).mono ?_
    rintro e Z1 ⟨rfl, hb⟩
    rw [e1.out]
    have CZ1 := hide (CZ.out.trans (hb.mono CZ.out.size))
    clear hb CZ hHeld
    refine hK.out _ _ CZ1.out (fun hHeld => ?_)
    clear hK K
    try simp only [Act.put, List.setIfInBounds_toArray, List.set_cons_zero, List.set_cons_succ]
    refine wpAnyH_take (i := 6) (oi := { dst := some 6, op := Op.assign (Operand.tmp 12), type := 3, pos := "queue.go:32", after := #[{ on := 5, ground := Ground.data }, { on := 5, ground := Ground.chain }, { on := 0, ground := Ground.phase }, { on := 1, ground := Ground.phase }, { on := 2, ground := Ground.phase }, { on := 3, ground := Ground.phase }, { on := 4, ground := Ground.phase }, { on := 5, ground := Ground.phase }], guard := none }) (v := ?_) rfl (by kernel_rfl) (by kernel_rfl) (by kernel_rfl) (fun _ _ _ h => h) (Or.inl ⟨by rfl, ?_⟩) (by assumption) ?_
    rotate_left
    · intro w hSw
      clear hSw
      go_simp
      all_goals with_reducible rfl
    simp only [Act.put, List.setIfInBounds_toArray, List.set_cons_zero, List.set_cons_succ]
    refine wpAnyH_done (by kernel_rfl) ?_ _
    refine NoPanic.normal ?_
    clear hHeld
    go_wp2
    exact bodyPost_ret (v := .tuple #[.int .i64 0, .bool false]) (by simp [results, Try.results31]) rfl ⟨rfl, B0.out.trans (CZ1.out.mono B0.out.size)⟩
set_option maxHeartbeats 3200000 in
theorem pushP_any (B : Nat) (w : World) (g : Nat) (v : Value) (xs : List (Int × Int)) (x : Int × Int) (h : QAt 67 50 2 encP B w g v xs) (hB : B ≤ w.heap.size) :
   Calls Try.prog 21 #[.pointer (some ⟨g, 0, none⟩), .agg #[.int .i64 x.1, .int .i64 x.2]] w fun e w' => ∃ v', e = .returned (.tuple #[.int .i64 (S.pushA xs x).1, .bool (S.pushA xs x).2.1, .int .i64 (S.pushA xs x).2.2]) ∧ QAt 67 50 2 encP B w' g v' (S.pushL xs x) ∧ QTo w g v w' v' := by
  have H0 := hide h
  have hf := h.few
  obtain ⟨xa, xb⟩ := x
  clear h
  have HBW := hide hB
  clear hB
  by_cases hm : (xa, xb) ∈ xs
  · have a1 : Hid (S.pushA xs (xa, xb) = ((S.ahead xs (xa, xb) : Int), true, 0)) := S.pushA_yes hm
    have a2 : Hid (S.pushL xs (xa, xb) = xs) := S.pushL_yes hm
    obtain ⟨gb, hgb⟩ : ∃ gb, gb = w.heap.size := ⟨_, rfl⟩
    go_enter Try.func21, Try.ntmps21
    go_upto_region 1 with fail
    rw [← hgb]
    generalize hA : World.alloc _ _ = W0
    have B0 : Hid (Below w.heap.size w W0) := by rw [← hA]; exact (Below.refl _ _).alloc (Nat.le_refl _) _
    have R0 : Hid (W0.heap[gb]? = some (.cells #[.int .i64 xa, .int .i64 xb] 50 (0, 0))) := by
      show W0.heap[gb]? = _
      rw [← hA, hgb]; exact heap_alloc_new _ _
    have H := hide (H0.out.below B0.out)
    have GBW : Hid (w.heap.size ≤ gb) := by show w.heap.size ≤ gb; omega
    clear hA hgb
    have c1 := (cells2p R0.out).1
    have c2 := (cells2p R0.out).2
    go_wp2_with fail
    go_at_call 31
    refine (placeP_any B W0 g v xs (xa, xb) H.out).mono ?_
    rintro e w1 ⟨rfl, hb⟩
    have B1 := hide (B0.out.trans (hb.mono B0.out.size))
    have QA := hide (H.out.below hb)
    have RB := hide ((hb.block gb (block_lt_of_row R0.out)).trans R0.out)
    clear hb c1 c2 R0 H B0
    rw [S.placeA_yes hm]
    go_wp2
    refine bodyPost_ret (v := .tuple #[.int .i64 ((S.ahead xs (xa, xb) : Nat) : Int), .bool true, .int .i64 0]) (by simp [results, Try.results21]) rfl ?_
    refine ⟨v, by rw [a1.out], by rw [a2.out]; exact H0.out.below B1.out, Chg.ofBelow' B1.out, fun j hj => Or.inl hj⟩
  · by_cases hfull : 64 ≤ xs.length
    · have a1 : Hid (S.pushA xs (xa, xb) = (0, false, 4)) := S.pushA_full hm hfull
      have a2 : Hid (S.pushL xs (xa, xb) = xs) := S.pushL_full hm hfull
      have q1 : ((xs.length : Nat) : Int) ≥ 64 := by omega
      obtain ⟨gb, hgb⟩ : ∃ gb, gb = w.heap.size := ⟨_, rfl⟩
      go_enter Try.func21, Try.ntmps21
      go_upto_region 1 with fail
      rw [← hgb]
      generalize hA : World.alloc _ _ = W0
      have B0 : Hid (Below w.heap.size w W0) := by rw [← hA]; exact (Below.refl _ _).alloc (Nat.le_refl _) _
      have R0 : Hid (W0.heap[gb]? = some (.cells #[.int .i64 xa, .int .i64 xb] 50 (0, 0))) := by
        show W0.heap[gb]? = _
        rw [← hA, hgb]; exact heap_alloc_new _ _
      have H := hide (H0.out.below B0.out)
      have GBW : Hid (w.heap.size ≤ gb) := by show w.heap.size ≤ gb; omega
      clear hA hgb
      have c1 := (cells2p R0.out).1
      have c2 := (cells2p R0.out).2
      go_wp2_with fail
      go_at_call 31
      refine (placeP_any B W0 g v xs (xa, xb) H.out).mono ?_
      rintro e w1 ⟨rfl, hb⟩
      have B1 := hide (B0.out.trans (hb.mono B0.out.size))
      have QA := hide (H.out.below hb)
      have RB := hide ((hb.block gb (block_lt_of_row R0.out)).trans R0.out)
      clear hb c1 c2 R0 H B0
      rw [S.placeA_no hm]
      obtain ⟨ao, cap, hv⟩ := QA.out.list.form
      have c1 := cells1 QA.out.row
      rw [hv] at c1
      go_wp2
      refine bodyPost_ret (v := .tuple #[.int .i64 0, .bool false, .int .i64 4]) (by simp [results, Try.results21]) rfl ?_
      refine ⟨v, by rw [a1.out], by rw [a2.out]; exact H0.out.below B1.out, Chg.ofBelow' B1.out, fun j hj => Or.inl hj⟩
    · have a1 : Hid (S.pushA xs (xa, xb) = ((xs.length : Int), false, 0)) := S.pushA_new hm hfull
      have a2 : Hid (S.pushL xs (xa, xb) = xs ++ [(xa, xb)]) := S.pushL_new hm hfull
      have HL : Hid (xs.length < 64) := by show _ < _; omega
      have q1 : ¬ ((xs.length : Nat) : Int) ≥ 64 := by omega
      obtain ⟨gb, hgb⟩ : ∃ gb, gb = w.heap.size := ⟨_, rfl⟩
      go_enter Try.func21, Try.ntmps21
      go_upto_region 1 with fail
      rw [← hgb]
      generalize hA : World.alloc _ _ = W0
      have B0 : Hid (Below w.heap.size w W0) := by rw [← hA]; exact (Below.refl _ _).alloc (Nat.le_refl _) _
      have R0 : Hid (W0.heap[gb]? = some (.cells #[.int .i64 xa, .int .i64 xb] 50 (0, 0))) := by
        show W0.heap[gb]? = _
        rw [← hA, hgb]; exact heap_alloc_new _ _
      have H := hide (H0.out.below B0.out)
      have GBW : Hid (w.heap.size ≤ gb) := by show w.heap.size ≤ gb; omega
      clear hA hgb
      have c1 := (cells2p R0.out).1
      have c2 := (cells2p R0.out).2
      go_wp2_with fail
      go_at_call 31
      refine (placeP_any B W0 g v xs (xa, xb) H.out).mono ?_
      rintro e w1 ⟨rfl, hb⟩
      have B1 := hide (B0.out.trans (hb.mono B0.out.size))
      have QA := hide (H.out.below hb)
      have RB := hide ((hb.block gb (block_lt_of_row R0.out)).trans R0.out)
      clear hb c1 c2 R0 H B0
      rw [S.placeA_no hm]
      obtain ⟨ao, cap, hv⟩ := QA.out.list.form
      have c1 := cells1 QA.out.row
      rw [hv] at c1
      have hng : Hid (v.ownBlock ≠ some g) := QA.out.list.apart QA.out.row (by decide)
      have GBN : Hid (gb ≠ g ∧ v.ownBlock ≠ some gb) := ⟨fun e => by have := H0.out.g_lt; have := GBW.out; omega, fun e => by have := H0.out.v_lt e; have := GBW.out; omega⟩
      clear hf hfull
      go_upto_region 6 with fail
      clear c1 q1
      refine wp_region_noPanic ?_
      refine wp_region_held_drew (S := (fun W => Chg (fun j => j = g ∨ v.ownBlock = some j) w1 W)) follows ((Chg.refl _ _).drew) (fun hHeld => ?_)
      clear hHeld
      have hHeld : Chg (fun j => j = g ∨ v.ownBlock = some j) w1 w1.drew := (Chg.refl _ _).drew
      have CZ := hide (show Below w1.heap.size w1 w1.drew from (Below.refl _ _).drew)
      have QZ := hide (QA.out.below CZ.out)
      have RZ := hide ((CZ.out.block gb (block_lt_of_row RB.out)).trans RB.out)
      generalize w1.drew = Z0 at CZ QZ RZ hHeld ⊢
      refine wpAnyH_take (i := 0) (oi := { dst := some 23, op := Op.move (Operand.tmp 0), type := 48, pos := "queue.go:26", after := #[], guard := none }) (v := ?_) rfl (by kernel_rfl) (by kernel_rfl) (by kernel_rfl) (fun _ _ _ h => h) (Or.inl ⟨by rfl, ?_⟩) (by assumption) ?_
      rotate_left
      · intro w hSw
        clear hSw
        go_simp
        all_goals with_reducible rfl
      simp only [Act.put, List.setIfInBounds_toArray, List.set_cons_zero, List.set_cons_succ]
      refine wpAnyH_take (i := 1) (oi := { dst := some 24, op := Op.move (Operand.tmp 0), type := 48, pos := "queue.go:26", after := #[], guard := none }) (v := ?_) rfl (by kernel_rfl) (by kernel_rfl) (by kernel_rfl) (fun _ _ _ h => h) (Or.inl ⟨by rfl, ?_⟩) (by assumption) ?_
      rotate_left
      · intro w hSw
        clear hSw
        go_simp
        all_goals with_reducible rfl
      simp only [Act.put, List.setIfInBounds_toArray, List.set_cons_zero, List.set_cons_succ]
      refine wpAnyH_take (i := 2) (oi := { dst := some 25, op := Op.nilCheck (Operand.tmp 24), type := 0, pos := "queue.go:26", after := #[{ on := 1, ground := Ground.data }], guard := none }) (v := ?_) rfl (by kernel_rfl) (by kernel_rfl) (by kernel_rfl) (fun _ _ _ h => h) (Or.inl ⟨by rfl, ?_⟩) (by assumption) ?_
      rotate_left
      · intro w hSw
        clear hSw
        go_simp
        all_goals with_reducible rfl
      simp only [Act.put, List.setIfInBounds_toArray, List.set_cons_zero, List.set_cons_succ]
      refine wpAnyH_take (i := 3) (oi := { dst := some 26, op := Op.fieldAddr 67 (Operand.tmp 25) 0, type := 0, pos := "queue.go:26", after := #[{ on := 2, ground := Ground.data }], guard := none }) (v := ?_) rfl (by kernel_rfl) (by kernel_rfl) (by kernel_rfl) (fun _ _ _ h => h) (Or.inl ⟨by rfl, ?_⟩) (by assumption) ?_
      rotate_left
      · intro w hSw
        clear hSw
        go_simp
        all_goals with_reducible rfl
      simp only [Act.put, List.setIfInBounds_toArray, List.set_cons_zero, List.set_cons_succ]
      refine wpAnyH_take (i := 5) (oi := { dst := some 28, op := Op.load 50 (Operand.tmp 3), type := 50, pos := "queue.go:26", after := #[], guard := none }) (v := ?_) rfl (by kernel_rfl) (by kernel_rfl) (by kernel_rfl) (fun _ _ _ h => h) (Or.inl ⟨by rfl, ?_⟩) (by assumption) ?_
      rotate_left
      · intro w hSw
        have d1 := (cells2p (hSw.row RB.out (fun c => by rcases c with c | c; exact GBN.out.1 c; exact GBN.out.2 c))).1
        have d2 := (cells2p (hSw.row RB.out (fun c => by rcases c with c | c; exact GBN.out.1 c; exact GBN.out.2 c))).2
        clear hSw
        go_simp
        all_goals with_reducible rfl
      simp only [Act.put, List.setIfInBounds_toArray, List.set_cons_zero, List.set_cons_succ]
      refine wpAnyH_ready (rs := [4, 6]) (by kernel_rfl) (by simp) ?_
      refine AllReadyH.cons (o := { dst := some 27, op := Op.load 55 (Operand.tmp 26), type := 55, pos := "queue.go:26", after := #[{ on := 3, ground := Ground.data }], guard := none }) rfl (fun K hK => ?_) ?_
      · have c1 := cells1 QZ.out.row
        go_simp
        refine hK.out _ _ hHeld (fun hHeld => ?_)
        clear hK K c1
        try simp only [Act.put, List.setIfInBounds_toArray, List.set_cons_zero, List.set_cons_succ]
        refine wpAnyH_ready (rs := [6]) (by kernel_rfl) (by simp) ?_
        refine AllReadyH.cons (o := { dst := some 29, op := Op.buildSlice 55 1 #[(0, Operand.tmp 28)], type := 55, pos := "queue.go:26", after := #[{ on := 5, ground := Ground.data }], guard := none }) rfl (fun K hK => ?_) AllReadyH.nil
        have hbs := bsP
        go_simp
        obtain ⟨W2, hW2⟩ : ∃ W2, W2 = Z0.alloc (.cells #[.int .i64 xa, .int .i64 xb] 50) := ⟨_, rfl⟩
        rw [← hW2]
        have r2 : Hid (W2.heap[Z0.heap.size]? = some (.cells (encP (xa, xb)).toArray 50 (0, 0))) := by rw [hW2]; exact heap_alloc_new _ _
        have B2 : Hid (Below Z0.heap.size Z0 W2) := by rw [hW2]; exact (Below.refl _ _).alloc (Nat.le_refl _) _
        clear hW2
        have CW : Hid (Chg (fun j => j = g ∨ v.ownBlock = some j) w1 W2) := Chg.ofBelow' (CZ.out.trans (B2.out.mono CZ.out.size))
        have QW := hide (QZ.out.below B2.out)
        clear hHeld hbs
        refine hK.out _ _ CW.out (fun hHeld => ?_)
        clear hK K
        try simp only [Act.put, List.setIfInBounds_toArray, List.set_cons_zero, List.set_cons_succ]
        have APP := hide (Rw.append2 (B := B) (w := W2) (v := v) (xs := xs) (ys := [(xa, xb)]) kdP 55 QW.out.list (Sce.of_row (c := 1) r2.out) (lenP [(xa, xb)]) (by have := HL.out; show xs.length + 1 ≤ 100000; omega) (by have := HBW.out; have := B1.out.size; have := CZ.out.size; have := B2.out.size; omega))
        rw [hv] at APP
        refine wpAnyH_ready (rs := [7]) (by kernel_rfl) (by simp) ?_
        refine step_append (o := { dst := some 30, op := Op.call { callee := Callee.builtin Builtin.append, args := #[Operand.tmp 27, Operand.tmp 29], argTypes := #[55, 55] }, type := 55, pos := "queue.go:26", after := #[{ on := 4, ground := Ground.data }, { on := 6, ground := Ground.data }], guard := none }) rfl rfl _ _ 55 55 rfl _ _ rfl rfl APP.out AllReadyH.nil ?_
        rintro v3 w3 ⟨hr3, _, hc3, ho3⟩
        rw [← hv] at hc3 ho3
        obtain ⟨ao3, l3, cap3, rfl, hl3⟩ : ∃ a l c, v3 = Value.slice a l c ∧ l = xs.length + 1 := by obtain ⟨a, c, e⟩ := hr3.form; exact ⟨a, _, c, e, by simp⟩
        have HL3 := hide hl3
        clear hl3
        have R3 := hide hr3
        have C3 := hide hc3
        have O3 := hide ho3
        have G3 : Hid (w3.heap[g]? = some (.cells #[v] 67 (0, 0))) := hide (hc3.row QW.out.row hng.out)
        have CX : Hid (Chg (fun j => j = g ∨ v.ownBlock = some j) w1 w3) := CW.out.trans hc3 (fun j _ c => Or.inr c)
        clear hr3 hc3 ho3 hHeld
        refine ⟨CX.out, fun hHeld => ?_⟩
        try simp only [Act.put, List.setIfInBounds_toArray, List.set_cons_zero, List.set_cons_succ]
        refine wpAnyH_take (i := 8) (oi := { dst := some 31, op := Op.nilCheck (Operand.tmp 23), type := 0, pos := "queue.go:26", after := #[{ on := 0, ground := Ground.data }, { on := 0, ground := Ground.phase }, { on := 1, ground := Ground.phase }, { on := 2, ground := Ground.phase }, { on := 3, ground := Ground.phase }, { on := 4, ground := Ground.phase }, { on := 5, ground := Ground.phase }, { on := 6, ground := Ground.phase }, { on := 7, ground := Ground.phase }], guard := none }) (v := ?_) rfl (by kernel_rfl) (by kernel_rfl) (by kernel_rfl) (fun _ _ _ h => h) (Or.inl ⟨by rfl, ?_⟩) (by assumption) ?_
        rotate_left
        · intro w hSw
          clear hSw
          go_simp
          all_goals with_reducible rfl
        simp only [Act.put, List.setIfInBounds_toArray, List.set_cons_zero, List.set_cons_succ]
        refine wpAnyH_take (i := 9) (oi := { dst := some 32, op := Op.fieldAddr 67 (Operand.tmp 31) 0, type := 0, pos := "queue.go:26", after := #[{ on := 8, ground := Ground.data }, { on := 0, ground := Ground.phase }, { on := 1, ground := Ground.phase }, { on := 2, ground := Ground.phase }, { on := 3, ground := Ground.phase }, { on := 4, ground := Ground.phase }, { on := 5, ground := Ground.phase }, { on := 6, ground := Ground.phase }, { on := 7, ground := Ground.phase }], guard := none }) (v := ?_) rfl (by kernel_rfl) (by kernel_rfl) (by kernel_rfl) (fun _ _ _ h => h) (Or.inl ⟨by rfl, ?_⟩) (by assumption) ?_
        rotate_left
        · intro w hSw
          clear hSw
          go_simp
          all_goals with_reducible rfl
        simp only [Act.put, List.setIfInBounds_toArray, List.set_cons_zero, List.set_cons_succ]
        refine wpAnyH_ready (rs := [10]) (by kernel_rfl) (by simp) ?_
        refine AllReadyH.cons (o := { dst := none, op := Op.store 55 (Operand.tmp 32) (Operand.tmp 30), type := 0, pos := "queue.go:26", after := #[{ on := 9, ground := Ground.data }, { on := 7, ground := Ground.data }, { on := 7, ground := Ground.chain }, { on := 0, ground := Ground.phase }, { on := 1, ground := Ground.phase }, { on := 2, ground := Ground.phase }, { on := 3, ground := Ground.phase }, { on := 4, ground := Ground.phase }, { on := 5, ground := Ground.phase }, { on := 6, ground := Ground.phase }, { on := 7, ground := Ground.phase }], guard := none }) rfl (fun K hK => ?_) AllReadyH.nil
        have c1 := cells1 G3.out
        have f1 := frozen_of_row w3 g 0 _ _ G3.out
        go_simp
        have c2 : (w3.setCell ⟨g, 0, none⟩ (.slice ao3 l3 cap3)).cell? ⟨g, 0, none⟩ = some (.slice ao3 l3 cap3) := World.cell?_setCell_same _ _ _ c1
        refine hK.out _ _ (CX.out.setCell g 0 (.slice ao3 l3 cap3) (fun _ => Or.inl rfl)) (fun hHeld => ?_)
        clear hK K c1 f1
        try simp only [Act.put, List.setIfInBounds_toArray, List.set_cons_zero, List.set_cons_succ]
        refine wpAnyH_done (by kernel_rfl) ?_ _
        refine NoPanic.normal ?_
        clear hHeld
        have F := hide (pushP_end B w Z0 W2 w3 g v (.slice ao3 l3 cap3) xs (xa, xb) H0.out HL.out (B1.out.trans (CZ.out.mono B1.out.size)) B2.out R3.out C3.out O3.out G3.out)
        have q5 : IntKind.i64.wrap ((l3 : Int) - 1) = (xs.length : Int) := by have := HL.out; have := HL3.out; rw [IntKind.wrap_i64]; omega
        obtain ⟨W4, hW4⟩ : ∃ W4, W4 = w3.setCell ⟨g, 0, none⟩ (.slice ao3 l3 cap3) := ⟨_, rfl⟩
        rw [← hW4] at c2 F ⊢
        clear hW4
        go_wp2
        refine bodyPost_ret (v := .tuple #[.int .i64 (xs.length : Int), .bool false, .int .i64 0]) (by simp [results, Try.results21]) rfl ?_
        exact ⟨_, by rw [a1.out], by rw [a2.out]; exact F.out⟩
      · refine AllReadyH.cons (o := { dst := some 29, op := Op.buildSlice 55 1 #[(0, Operand.tmp 28)], type := 55, pos := "queue.go:26", after := #[{ on := 5, ground := Ground.data }], guard := none }) rfl (fun K hK => ?_) AllReadyH.nil
        have hbs := bsP
        go_simp
        obtain ⟨W2, hW2⟩ : ∃ W2, W2 = Z0.alloc (.cells #[.int .i64 xa, .int .i64 xb] 50) := ⟨_, rfl⟩
        rw [← hW2]
        have r2 : Hid (W2.heap[Z0.heap.size]? = some (.cells (encP (xa, xb)).toArray 50 (0, 0))) := by rw [hW2]; exact heap_alloc_new _ _
        have B2 : Hid (Below Z0.heap.size Z0 W2) := by rw [hW2]; exact (Below.refl _ _).alloc (Nat.le_refl _) _
        clear hW2
        have CW : Hid (Chg (fun j => j = g ∨ v.ownBlock = some j) w1 W2) := Chg.ofBelow' (CZ.out.trans (B2.out.mono CZ.out.size))
        have QW := hide (QZ.out.below B2.out)
        clear hHeld hbs
        refine hK.out _ _ CW.out (fun hHeld => ?_)
        clear hK K
        try simp only [Act.put, List.setIfInBounds_toArray, List.set_cons_zero, List.set_cons_succ]
        refine wpAnyH_ready (rs := [4]) (by kernel_rfl) (by simp) ?_
        refine AllReadyH.cons (o := { dst := some 27, op := Op.load 55 (Operand.tmp 26), type := 55, pos := "queue.go:26", after := #[{ on := 3, ground := Ground.data }], guard := none }) rfl (fun K hK => ?_) AllReadyH.nil
        have c1 := cells1 QW.out.row
        go_simp
        refine hK.out _ _ hHeld (fun hHeld => ?_)
        clear hK K c1
        try simp only [Act.put, List.setIfInBounds_toArray, List.set_cons_zero, List.set_cons_succ]
        have APP := hide (Rw.append2 (B := B) (w := W2) (v := v) (xs := xs) (ys := [(xa, xb)]) kdP 55 QW.out.list (Sce.of_row (c := 1) r2.out) (lenP [(xa, xb)]) (by have := HL.out; show xs.length + 1 ≤ 100000; omega) (by have := HBW.out; have := B1.out.size; have := CZ.out.size; have := B2.out.size; omega))
        rw [hv] at APP
        refine wpAnyH_ready (rs := [7]) (by kernel_rfl) (by simp) ?_
        refine step_append (o := { dst := some 30, op := Op.call { callee := Callee.builtin Builtin.append, args := #[Operand.tmp 27, Operand.tmp 29], argTypes := #[55, 55] }, type := 55, pos := "queue.go:26", after := #[{ on := 4, ground := Ground.data }, { on := 6, ground := Ground.data }], guard := none }) rfl rfl _ _ 55 55 rfl _ _ rfl rfl APP.out AllReadyH.nil ?_
        rintro v3 w3 ⟨hr3, _, hc3, ho3⟩
        rw [← hv] at hc3 ho3
        obtain ⟨ao3, l3, cap3, rfl, hl3⟩ : ∃ a l c, v3 = Value.slice a l c ∧ l = xs.length + 1 := by obtain ⟨a, c, e⟩ := hr3.form; exact ⟨a, _, c, e, by simp⟩
        have HL3 := hide hl3
        clear hl3
        have R3 := hide hr3
        have C3 := hide hc3
        have O3 := hide ho3
        have G3 : Hid (w3.heap[g]? = some (.cells #[v] 67 (0, 0))) := hide (hc3.row QW.out.row hng.out)
        have CX : Hid (Chg (fun j => j = g ∨ v.ownBlock = some j) w1 w3) := CW.out.trans hc3 (fun j _ c => Or.inr c)
        clear hr3 hc3 ho3 hHeld
        refine ⟨CX.out, fun hHeld => ?_⟩
        try simp only [Act.put, List.setIfInBounds_toArray, List.set_cons_zero, List.set_cons_succ]
        refine wpAnyH_take (i := 8) (oi := { dst := some 31, op := Op.nilCheck (Operand.tmp 23), type := 0, pos := "queue.go:26", after := #[{ on := 0, ground := Ground.data }, { on := 0, ground := Ground.phase }, { on := 1, ground := Ground.phase }, { on := 2, ground := Ground.phase }, { on := 3, ground := Ground.phase }, { on := 4, ground := Ground.phase }, { on := 5, ground := Ground.phase }, { on := 6, ground := Ground.phase }, { on := 7, ground := Ground.phase }], guard := none }) (v := ?_) rfl (by kernel_rfl) (by kernel_rfl) (by kernel_rfl) (fun _ _ _ h => h) (Or.inl ⟨by rfl, ?_⟩) (by assumption) ?_
        rotate_left
        · intro w hSw
          clear hSw
          go_simp
          all_goals with_reducible rfl
        simp only [Act.put, List.setIfInBounds_toArray, List.set_cons_zero, List.set_cons_succ]
        refine wpAnyH_take (i := 9) (oi := { dst := some 32, op := Op.fieldAddr 67 (Operand.tmp 31) 0, type := 0, pos := "queue.go:26", after := #[{ on := 8, ground := Ground.data }, { on := 0, ground := Ground.phase }, { on := 1, ground := Ground.phase }, { on := 2, ground := Ground.phase }, { on := 3, ground := Ground.phase }, { on := 4, ground := Ground.phase }, { on := 5, ground := Ground.phase }, { on := 6, ground := Ground.phase }, { on := 7, ground := Ground.phase }], guard := none }) (v := ?_) rfl (by kernel_rfl) (by kernel_rfl) (by kernel_rfl) (fun _ _ _ h => h) (Or.inl ⟨by rfl, ?_⟩) (by assumption) ?_
        rotate_left
        · intro w hSw
          clear hSw
          go_simp
          all_goals with_reducible rfl
        simp only [Act.put, List.setIfInBounds_toArray, List.set_cons_zero, List.set_cons_succ]
        refine wpAnyH_ready (rs := [10]) (by kernel_rfl) (by simp) ?_
        refine AllReadyH.cons (o := { dst := none, op := Op.store 55 (Operand.tmp 32) (Operand.tmp 30), type := 0, pos := "queue.go:26", after := #[{ on := 9, ground := Ground.data }, { on := 7, ground := Ground.data }, { on := 7, ground := Ground.chain }, { on := 0, ground := Ground.phase }, { on := 1, ground := Ground.phase }, { on := 2, ground := Ground.phase }, { on := 3, ground := Ground.phase }, { on := 4, ground := Ground.phase }, { on := 5, ground := Ground.phase }, { on := 6, ground := Ground.phase }, { on := 7, ground := Ground.phase }], guard := none }) rfl (fun K hK => ?_) AllReadyH.nil
        have c1 := cells1 G3.out
        have f1 := frozen_of_row w3 g 0 _ _ G3.out
        go_simp
        have c2 : (w3.setCell ⟨g, 0, none⟩ (.slice ao3 l3 cap3)).cell? ⟨g, 0, none⟩ = some (.slice ao3 l3 cap3) := World.cell?_setCell_same _ _ _ c1
        refine hK.out _ _ (CX.out.setCell g 0 (.slice ao3 l3 cap3) (fun _ => Or.inl rfl)) (fun hHeld => ?_)
        clear hK K c1 f1
        try simp only [Act.put, List.setIfInBounds_toArray, List.set_cons_zero, List.set_cons_succ]
        refine wpAnyH_done (by kernel_rfl) ?_ _
        refine NoPanic.normal ?_
        clear hHeld
        have F := hide (pushP_end B w Z0 W2 w3 g v (.slice ao3 l3 cap3) xs (xa, xb) H0.out HL.out (B1.out.trans (CZ.out.mono B1.out.size)) B2.out R3.out C3.out O3.out G3.out)
        have q5 : IntKind.i64.wrap ((l3 : Int) - 1) = (xs.length : Int) := by have := HL.out; have := HL3.out; rw [IntKind.wrap_i64]; omega
        obtain ⟨W4, hW4⟩ : ∃ W4, W4 = w3.setCell ⟨g, 0, none⟩ (.slice ao3 l3 cap3) := ⟨_, rfl⟩
        rw [← hW4] at c2 F ⊢
        clear hW4
        go_wp2
        refine bodyPost_ret (v := .tuple #[.int .i64 (xs.length : Int), .bool false, .int .i64 0]) (by simp [results, Try.results21]) rfl ?_
        exact ⟨_, by rw [a1.out], by rw [a2.out]; exact F.out⟩
end Go.Proofs.Ytghcgkcojgmbkaa
