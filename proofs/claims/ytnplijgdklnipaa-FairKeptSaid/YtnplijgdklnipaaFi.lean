/- What the statements lay themselves: small lanes, the document's lanes, fresh lanes. -/
import Derived.Test.YtnplijgdklnipaaFh
import Derived.Great.BuildSlice
import Derived.Great.FillDense
import Derived.Deep.CutRange
namespace Go.Proofs.Ytnplijgdklnipaa
open Go.RowKit
theorem bs_one (T E : TypeId) (hT : Try.prog.underlying T = some (.slice E)) (hE : (Try.prog.info? E).map (fun i => (i.zero, i.size, i.bytes)) = some (some (.agg (encL S.l0).toArray), 3, 24)) (x y z : Int) (W : World) : (Instr.buildSlice T 1 #[(0, .agg #[.int .i64 x, .int .i64 y, .int .i64 z])]).run Try.prog W = .ok (.slice (some ⟨W.heap.size, 0, none⟩) 1 1) (W.alloc (.cells #[.int .i64 x, .int .i64 y, .int .i64 z] E)) := by
  obtain ⟨i, hi, hz, hs, _⟩ := info_parts hE
  refine run_buildSlice W T E 1 _ _ i _ hT hi hz (by rw [hs]; omega) (by rw [hs]; omega) ?_
  have h := Great.fill_whole (s := 3) (by omega) [.agg #[.int .i64 x, .int .i64 y, .int .i64 z]] ((Array.range (1 * i.size)).map ((.agg (encL S.l0).toArray : Value).cells[· % (.agg (encL S.l0).toArray : Value).cells.size]!)) (fun v hv => by
    simp only [List.mem_singleton] at hv
    subst hv
    rfl) (by simp [hs])
  rw [hs] at h ⊢
  refine h.trans ?_
  simp [Value.cells]
theorem bs_two (x y z x' y' z' : Int) (W : World) : (Instr.buildSlice 24 2 #[(0, .agg #[.int .i64 x, .int .i64 y, .int .i64 z]), (1, .agg #[.int .i64 x', .int .i64 y', .int .i64 z'])]).run Try.prog W = .ok (.slice (some ⟨W.heap.size, 0, none⟩) 2 2) (W.alloc (.cells #[.int .i64 x, .int .i64 y, .int .i64 z, .int .i64 x', .int .i64 y', .int .i64 z'] 28)) := by
  obtain ⟨i, hi, hz, hs, _⟩ := info_parts info28
  refine run_buildSlice W 24 28 2 _ _ i _ Try.underlying24 hi hz (by rw [hs]; omega) (by rw [hs]; omega) ?_
  have h := Great.fill_whole (s := 3) (by omega) [.agg #[.int .i64 x, .int .i64 y, .int .i64 z], .agg #[.int .i64 x', .int .i64 y', .int .i64 z']] ((Array.range (2 * i.size)).map ((.agg (encL S.l0).toArray : Value).cells[· % (.agg (encL S.l0).toArray : Value).cells.size]!)) (fun v hv => by
    simp only [List.mem_cons, List.not_mem_nil, or_false] at hv
    rcases hv with rfl | rfl <;> rfl) (by simp [hs])
  rw [hs] at h ⊢
  refine h.trans ?_
  simp [Value.cells]
namespace S
def sm (x : Ln) : Ln := ⟨x.w.tmod 10, x.b.tmod 1000, x.d.tmod 100⟩
def small (l : List Ln) : List Ln := (l.take 20).map sm
theorem take_more {α : Type} {l : List α} {k : Nat} {y : α} (h : l[k]? = some y) : l.take (k + 1) = l.take k ++ [y] := by
  rw [List.take_add_one, h]; rfl
theorem sm_mild (x : Ln) : Mild (sm x) := by
  have h (a : Int) (n : Int) (hn : 0 < n) : -n < a.tmod n ∧ a.tmod n < n := ⟨Int.lt_tmod_of_pos a hn, Int.tmod_lt_of_pos a hn⟩
  have h1 := h x.w 10 (by omega)
  have h2 := h x.b 1000 (by omega)
  have h3 := h x.d 100 (by omega)
  unfold Mild sm
  simp only
  omega
theorem small_mild (l : List Ln) : ∀ x ∈ small l, Mild x := by
  intro x hx
  simp only [small, List.mem_map] at hx
  obtain ⟨y, _, rfl⟩ := hx
  exact sm_mild y
theorem small_length (l : List Ln) : (small l).length ≤ 20 := by simp [small]; omega
end S
set_option maxHeartbeats 3200000 in
set_option maxRecDepth 100000 in
theorem small_any (v : Value) (l : List S.Ln) (w : World) (hv : LnAt w v l) :
   Calls Try.prog 12 #[v] w fun e w' => ∃ u, e = .returned u ∧ Rw 28 3 encL w.heap.size w' u (S.small l) ∧ Below w.heap.size w w' := by
  obtain ⟨ao, n, cap, rfl, hn, hncap⟩ := hv.form
  have HV := hide hv
  have HN := hide hn
  skip
  clear hv hn 
  go_enter Try.func12, Try.ntmps12
  go_wp2_with fail
  go_loopw [3, 4] (fun s3 s4 wr => ∃ i : Nat, i ≤ n ∧ i ≤ 20 ∧ s4 = .int .i64 (i : Int) ∧ Hid (Rw 28 3 encL w.heap.size wr s3 ((l.take i).map S.sm)) ∧ Hid (Below w.heap.size w wr)) (fun _ s4 _ => 20 - (intOf s4).toNat)
  case atStart => exact ⟨0, by omega, by omega, rfl, Rw.nil _ _ _ _ _, Below.refl _ _⟩
  case round =>
    obtain ⟨i, hi, hi2, rfl, R, B⟩ := hrel
    by_cases hin : i < n ∧ i < 20
    · obtain ⟨h1, h2⟩ := hin
      have hkl : i < l.length := by rw [← HN.out]; exact h1
      obtain ⟨g, off, rfl, hg, hra⟩ := lane_at HV.out i hkl
      obtain ⟨x, hx⟩ : ∃ x, x = l.getD i S.l0 := ⟨_, rfl⟩
      have HL : Hid (l[i]? = some x) := by show _ = _; rw [hx, List.getD_eq_getElem?_getD, List.getElem?_eq_getElem hkl]; rfl
      rw [← hx] at hra
      have HRA : Hid (∀ W, Below w.heap.size w W → W.rangeAt g (off + i * 3) (encL x)) := fun W hb => rangeAt_below hra hb hg
      have p1 : (i : Int) < (n : Int) := by omega
      have p2 : (i : Int) < 20 := by omega
      have p3 : (0 : Int) ≤ (i : Int) := by omega
      have p4 : IntKind.i64.wrap ((i : Int) + 1) = (i : Int) + 1 := wrap_small (by omega) (by omega)
      obtain ⟨ao3, c3, hv3⟩ := R.out.form
      obtain ⟨m3, hm3⟩ : ∃ m3, m3 = ((l.take i).map S.sm).length := ⟨_, rfl⟩
      rw [← hm3] at hv3
      subst hv3
      have HM3 : Hid (m3 ≤ i) := by show m3 ≤ i; rw [hm3]; simp; omega
      clear hm3
      have HI := hide (And.intro h1 h2)
      clear hra hg hx hkl hi hi2 h2 h1
      obtain ⟨xw, xb, xd⟩ := x
      go_upto_region 5 with fail
      refine wp_region_noPanic ?_
      refine wp_region_held_drew (S := (fun W => Below w.heap.size w W)) follows (B.out.trans ((Below.refl _ _).drew)) (fun hHeld => ?_)
      clear hHeld
      have R0 : Hid (Rw 28 3 encL w.heap.size wr.drew _ _) := R.out.below ((Below.refl _ _).drew)
      have B0 := hide (B.out.trans ((Below.refl _ wr).drew))
      have hHeld := B0.out
      generalize wr.drew = Z0 at R0 B0 hHeld ⊢
      clear R B
      refine wpAnyH_take (i := 0) (oi := { dst := some 15, op := Op.move (Operand.tmp 3), type := 24, pos := "law.go:22", after := #[], guard := none }) (v := ?_) rfl (by kernel_rfl) (by kernel_rfl) (by kernel_rfl) (fun _ _ _ h => h) (Or.inl ⟨by rfl, ?_⟩) (by assumption) ?_
      rotate_left
      · intro w hSw
        clear hSw
        go_simp
        all_goals with_reducible rfl
      simp only [Act.put, List.setIfInBounds_toArray, List.set_cons_zero, List.set_cons_succ]
      refine wpAnyH_take (i := 1) (oi := { dst := some 16, op := Op.move (Operand.tmp 0), type := 24, pos := "law.go:22", after := #[], guard := none }) (v := ?_) rfl (by kernel_rfl) (by kernel_rfl) (by kernel_rfl) (fun _ _ _ h => h) (Or.inl ⟨by rfl, ?_⟩) (by assumption) ?_
      rotate_left
      · intro w hSw
        clear hSw
        go_simp
        all_goals with_reducible rfl
      simp only [Act.put, List.setIfInBounds_toArray, List.set_cons_zero, List.set_cons_succ]
      refine wpAnyH_take (i := 2) (oi := { dst := some 17, op := Op.move (Operand.tmp 4), type := 3, pos := "law.go:22", after := #[], guard := none }) (v := ?_) rfl (by kernel_rfl) (by kernel_rfl) (by kernel_rfl) (fun _ _ _ h => h) (Or.inl ⟨by rfl, ?_⟩) (by assumption) ?_
      rotate_left
      · intro w hSw
        clear hSw
        go_simp
        all_goals with_reducible rfl
      simp only [Act.put, List.setIfInBounds_toArray, List.set_cons_zero, List.set_cons_succ]
      refine wpAnyH_take (i := 3) (oi := { dst := some 18, op := Op.indexAddr 24 (Operand.tmp 16) (Operand.tmp 17), type := 0, pos := "law.go:22", after := #[{ on := 1, ground := Ground.data }, { on := 2, ground := Ground.data }], guard := none }) (v := ?_) rfl (by kernel_rfl) (by kernel_rfl) (by kernel_rfl) (fun _ _ _ h => h) (Or.inl ⟨by rfl, ?_⟩) (by assumption) ?_
      rotate_left
      · intro w hSw
        clear hSw
        go_simp
        all_goals with_reducible rfl
      simp only [Act.put, List.setIfInBounds_toArray, List.set_cons_zero, List.set_cons_succ]
      refine wpAnyH_take (i := 4) (oi := { dst := some 19, op := Op.fieldAddr 28 (Operand.tmp 18) 0, type := 0, pos := "law.go:22", after := #[{ on := 3, ground := Ground.data }], guard := none }) (v := ?_) rfl (by kernel_rfl) (by kernel_rfl) (by kernel_rfl) (fun _ _ _ h => h) (Or.inl ⟨by rfl, ?_⟩) (by assumption) ?_
      rotate_left
      · intro w hSw
        clear hSw
        go_simp
        all_goals with_reducible rfl
      simp only [Act.put, List.setIfInBounds_toArray, List.set_cons_zero, List.set_cons_succ]
      refine wpAnyH_take (i := 5) (oi := { dst := some 20, op := Op.load 3 (Operand.tmp 19), type := 3, pos := "law.go:22", after := #[{ on := 4, ground := Ground.data }], guard := none }) (v := ?_) rfl (by kernel_rfl) (by kernel_rfl) (by kernel_rfl) (fun _ _ _ h => h) (Or.inl ⟨by rfl, ?_⟩) (by assumption) ?_
      rotate_left
      · intro w hSw
        have c0 := (lane_cells (HRA.out w hSw)).1
        clear hSw
        go_simp
        all_goals with_reducible rfl
      simp only [Act.put, List.setIfInBounds_toArray, List.set_cons_zero, List.set_cons_succ]
      refine wpAnyH_take (i := 6) (oi := { dst := some 21, op := Op.binOp BinOp.rem 3 (Operand.tmp 20) (Operand.const (Value.int IntKind.i64 10)) 3, type := 3, pos := "law.go:22", after := #[{ on := 5, ground := Ground.data }], guard := none }) (v := ?_) rfl (by kernel_rfl) (by kernel_rfl) (by kernel_rfl) (fun _ _ _ h => h) (Or.inl ⟨by rfl, ?_⟩) (by assumption) ?_
      rotate_left
      · intro w hSw
        clear hSw
        go_simp
        all_goals with_reducible rfl
      simp only [Act.put, List.setIfInBounds_toArray, List.set_cons_zero, List.set_cons_succ]
      refine wpAnyH_take (i := 7) (oi := { dst := some 22, op := Op.move (Operand.tmp 0), type := 24, pos := "law.go:22", after := #[], guard := none }) (v := ?_) rfl (by kernel_rfl) (by kernel_rfl) (by kernel_rfl) (fun _ _ _ h => h) (Or.inl ⟨by rfl, ?_⟩) (by assumption) ?_
      rotate_left
      · intro w hSw
        clear hSw
        go_simp
        all_goals with_reducible rfl
      simp only [Act.put, List.setIfInBounds_toArray, List.set_cons_zero, List.set_cons_succ]
      refine wpAnyH_take (i := 8) (oi := { dst := some 23, op := Op.move (Operand.tmp 4), type := 3, pos := "law.go:22", after := #[], guard := none }) (v := ?_) rfl (by kernel_rfl) (by kernel_rfl) (by kernel_rfl) (fun _ _ _ h => h) (Or.inl ⟨by rfl, ?_⟩) (by assumption) ?_
      rotate_left
      · intro w hSw
        clear hSw
        go_simp
        all_goals with_reducible rfl
      simp only [Act.put, List.setIfInBounds_toArray, List.set_cons_zero, List.set_cons_succ]
      refine wpAnyH_take (i := 9) (oi := { dst := some 24, op := Op.indexAddr 24 (Operand.tmp 22) (Operand.tmp 23), type := 0, pos := "law.go:22", after := #[{ on := 7, ground := Ground.data }, { on := 8, ground := Ground.data }], guard := none }) (v := ?_) rfl (by kernel_rfl) (by kernel_rfl) (by kernel_rfl) (fun _ _ _ h => h) (Or.inl ⟨by rfl, ?_⟩) (by assumption) ?_
      rotate_left
      · intro w hSw
        clear hSw
        go_simp
        all_goals with_reducible rfl
      simp only [Act.put, List.setIfInBounds_toArray, List.set_cons_zero, List.set_cons_succ]
      refine wpAnyH_take (i := 10) (oi := { dst := some 25, op := Op.fieldAddr 28 (Operand.tmp 24) 1, type := 0, pos := "law.go:22", after := #[{ on := 9, ground := Ground.data }], guard := none }) (v := ?_) rfl (by kernel_rfl) (by kernel_rfl) (by kernel_rfl) (fun _ _ _ h => h) (Or.inl ⟨by rfl, ?_⟩) (by assumption) ?_
      rotate_left
      · intro w hSw
        clear hSw
        go_simp
        all_goals with_reducible rfl
      simp only [Act.put, List.setIfInBounds_toArray, List.set_cons_zero, List.set_cons_succ]
      refine wpAnyH_take (i := 11) (oi := { dst := some 26, op := Op.load 3 (Operand.tmp 25), type := 3, pos := "law.go:22", after := #[{ on := 10, ground := Ground.data }], guard := none }) (v := ?_) rfl (by kernel_rfl) (by kernel_rfl) (by kernel_rfl) (fun _ _ _ h => h) (Or.inl ⟨by rfl, ?_⟩) (by assumption) ?_
      rotate_left
      · intro w hSw
        have c1 := (lane_cells (HRA.out w hSw)).2.1
        clear hSw
        go_simp
        all_goals with_reducible rfl
      simp only [Act.put, List.setIfInBounds_toArray, List.set_cons_zero, List.set_cons_succ]
      refine wpAnyH_take (i := 12) (oi := { dst := some 27, op := Op.binOp BinOp.rem 3 (Operand.tmp 26) (Operand.const (Value.int IntKind.i64 1000)) 3, type := 3, pos := "law.go:22", after := #[{ on := 11, ground := Ground.data }], guard := none }) (v := ?_) rfl (by kernel_rfl) (by kernel_rfl) (by kernel_rfl) (fun _ _ _ h => h) (Or.inl ⟨by rfl, ?_⟩) (by assumption) ?_
      rotate_left
      · intro w hSw
        clear hSw
        go_simp
        all_goals with_reducible rfl
      simp only [Act.put, List.setIfInBounds_toArray, List.set_cons_zero, List.set_cons_succ]
      refine wpAnyH_take (i := 13) (oi := { dst := some 28, op := Op.move (Operand.tmp 0), type := 24, pos := "law.go:22", after := #[], guard := none }) (v := ?_) rfl (by kernel_rfl) (by kernel_rfl) (by kernel_rfl) (fun _ _ _ h => h) (Or.inl ⟨by rfl, ?_⟩) (by assumption) ?_
      rotate_left
      · intro w hSw
        clear hSw
        go_simp
        all_goals with_reducible rfl
      simp only [Act.put, List.setIfInBounds_toArray, List.set_cons_zero, List.set_cons_succ]
      refine wpAnyH_take (i := 14) (oi := { dst := some 29, op := Op.move (Operand.tmp 4), type := 3, pos := "law.go:22", after := #[], guard := none }) (v := ?_) rfl (by kernel_rfl) (by kernel_rfl) (by kernel_rfl) (fun _ _ _ h => h) (Or.inl ⟨by rfl, ?_⟩) (by assumption) ?_
      rotate_left
      · intro w hSw
        clear hSw
        go_simp
        all_goals with_reducible rfl
      simp only [Act.put, List.setIfInBounds_toArray, List.set_cons_zero, List.set_cons_succ]
      refine wpAnyH_take (i := 15) (oi := { dst := some 30, op := Op.indexAddr 24 (Operand.tmp 28) (Operand.tmp 29), type := 0, pos := "law.go:22", after := #[{ on := 13, ground := Ground.data }, { on := 14, ground := Ground.data }], guard := none }) (v := ?_) rfl (by kernel_rfl) (by kernel_rfl) (by kernel_rfl) (fun _ _ _ h => h) (Or.inl ⟨by rfl, ?_⟩) (by assumption) ?_
      rotate_left
      · intro w hSw
        clear hSw
        go_simp
        all_goals with_reducible rfl
      simp only [Act.put, List.setIfInBounds_toArray, List.set_cons_zero, List.set_cons_succ]
      refine wpAnyH_take (i := 16) (oi := { dst := some 31, op := Op.fieldAddr 28 (Operand.tmp 30) 2, type := 0, pos := "law.go:22", after := #[{ on := 15, ground := Ground.data }], guard := none }) (v := ?_) rfl (by kernel_rfl) (by kernel_rfl) (by kernel_rfl) (fun _ _ _ h => h) (Or.inl ⟨by rfl, ?_⟩) (by assumption) ?_
      rotate_left
      · intro w hSw
        clear hSw
        go_simp
        all_goals with_reducible rfl
      simp only [Act.put, List.setIfInBounds_toArray, List.set_cons_zero, List.set_cons_succ]
      refine wpAnyH_take (i := 17) (oi := { dst := some 32, op := Op.load 3 (Operand.tmp 31), type := 3, pos := "law.go:22", after := #[{ on := 16, ground := Ground.data }], guard := none }) (v := ?_) rfl (by kernel_rfl) (by kernel_rfl) (by kernel_rfl) (fun _ _ _ h => h) (Or.inl ⟨by rfl, ?_⟩) (by assumption) ?_
      rotate_left
      · intro w hSw
        have c2 := (lane_cells (HRA.out w hSw)).2.2
        clear hSw
        go_simp
        all_goals with_reducible rfl
      simp only [Act.put, List.setIfInBounds_toArray, List.set_cons_zero, List.set_cons_succ]
      refine wpAnyH_take (i := 18) (oi := { dst := some 33, op := Op.binOp BinOp.rem 3 (Operand.tmp 32) (Operand.const (Value.int IntKind.i64 100)) 3, type := 3, pos := "law.go:22", after := #[{ on := 17, ground := Ground.data }], guard := none }) (v := ?_) rfl (by kernel_rfl) (by kernel_rfl) (by kernel_rfl) (fun _ _ _ h => h) (Or.inl ⟨by rfl, ?_⟩) (by assumption) ?_
      rotate_left
      · intro w hSw
        clear hSw
        go_simp
        all_goals with_reducible rfl
      simp only [Act.put, List.setIfInBounds_toArray, List.set_cons_zero, List.set_cons_succ]
      refine wpAnyH_take (i := 19) (oi := { dst := some 34, op := Op.build 28 #[(0, Operand.tmp 21), (1, Operand.tmp 27), (2, Operand.tmp 33)], type := 28, pos := "law.go:22", after := #[{ on := 6, ground := Ground.data }, { on := 12, ground := Ground.data }, { on := 18, ground := Ground.data }], guard := none }) (v := ?_) rfl (by kernel_rfl) (by kernel_rfl) (by kernel_rfl) (fun _ _ _ h => h) (Or.inl ⟨by rfl, ?_⟩) (by assumption) ?_
      rotate_left
      · intro w hSw
        clear hSw
        go_simp
        all_goals with_reducible rfl
      simp only [Act.put, List.setIfInBounds_toArray, List.set_cons_zero, List.set_cons_succ]
      refine wpAnyH_ready (rs := [20]) (by kernel_rfl) (by simp) ?_
      refine AllReadyH.cons (o := { dst := some 35, op := Op.buildSlice 24 1 #[(0, Operand.tmp 34)], type := 24, pos := "law.go:22", after := #[{ on := 19, ground := Ground.data }], guard := none }) rfl (fun K hK => ?_) AllReadyH.nil
      have hbs := bs_one 24 28 Try.underlying24 info28 (xw.tmod 10) (xb.tmod 1000) (xd.tmod 100)
      go_simp
      obtain ⟨Z2, hZ2⟩ : ∃ Z2, Z2 = Z0.alloc (.cells #[.int .i64 (xw.tmod 10), .int .i64 (xb.tmod 1000), .int .i64 (xd.tmod 100)] 28) := ⟨_, rfl⟩
      rw [← hZ2]
      have r2 : Hid (Z2.heap[Z0.heap.size]? = some (.cells (encL ⟨xw.tmod 10, xb.tmod 1000, xd.tmod 100⟩).toArray 28 (0, 0))) := by rw [hZ2]; exact heap_alloc_new _ _
      have b2 : Below Z0.heap.size Z0 Z2 := by rw [hZ2]; exact one_below _ _
      have B2 := hide (B0.out.trans (b2.mono B0.out.size))
      have R2 := hide (R0.out.below b2)
      clear hZ2 b2 hHeld hbs
      refine hK.out _ _ B2.out (fun hHeld => ?_)
      clear hK K
      try simp only [Act.put, List.setIfInBounds_toArray, List.set_cons_zero, List.set_cons_succ]
      have APP := hide (Rw.append kdL 24 (ys := [⟨xw.tmod 10, xb.tmod 1000, xd.tmod 100⟩]) R2.out (Sce.of_row (c := 1) r2.out) (lenL _) (by have := HI.out; simp; omega) B2.out.size)
      refine wpAnyH_ready (rs := [21]) (by kernel_rfl) (by simp) ?_
      refine step_append (o := { dst := some 36, op := Op.call { callee := Callee.builtin Builtin.append, args := #[Operand.tmp 15, Operand.tmp 35], argTypes := #[24, 24] }, type := 24, pos := "law.go:22", after := #[{ on := 0, ground := Ground.data }, { on := 20, ground := Ground.data }], guard := none }) rfl rfl _ _ 24 24 rfl _ _ rfl rfl APP.out AllReadyH.nil ?_
      rintro v3 w3 ⟨hr3, hc3⟩
      have B3 : Hid (Below w.heap.size w w3) := B2.out.trans (hc3.below _ B2.out.size (fun k hk e => by have := (R2.out.blk e).1; omega))
      have R3 := hide hr3
      clear hr3 hc3 APP hHeld
      refine ⟨B3.out, fun hHeld => ?_⟩
      try simp only [Act.put, List.setIfInBounds_toArray, List.set_cons_zero, List.set_cons_succ]
      refine wpAnyH_take (i := 22) (oi := { dst := some 3, op := Op.assign (Operand.tmp 36), type := 24, pos := "law.go:22", after := #[{ on := 21, ground := Ground.data }, { on := 21, ground := Ground.chain }, { on := 0, ground := Ground.phase }, { on := 1, ground := Ground.phase }, { on := 2, ground := Ground.phase }, { on := 3, ground := Ground.phase }, { on := 4, ground := Ground.phase }, { on := 5, ground := Ground.phase }, { on := 6, ground := Ground.phase }, { on := 7, ground := Ground.phase }, { on := 8, ground := Ground.phase }, { on := 9, ground := Ground.phase }, { on := 10, ground := Ground.phase }, { on := 11, ground := Ground.phase }, { on := 12, ground := Ground.phase }, { on := 13, ground := Ground.phase }, { on := 14, ground := Ground.phase }, { on := 15, ground := Ground.phase }, { on := 16, ground := Ground.phase }, { on := 17, ground := Ground.phase }, { on := 18, ground := Ground.phase }, { on := 19, ground := Ground.phase }, { on := 20, ground := Ground.phase }, { on := 21, ground := Ground.phase }], guard := none }) (v := ?_) rfl (by kernel_rfl) (by kernel_rfl) (by kernel_rfl) (fun _ _ _ h => h) (Or.inl ⟨by rfl, ?_⟩) (by assumption) ?_
      rotate_left
      · intro w hSw
        clear hSw
        go_simp
        all_goals with_reducible rfl
      simp only [Act.put, List.setIfInBounds_toArray, List.set_cons_zero, List.set_cons_succ]
      refine wpAnyH_done (by kernel_rfl) ?_ _
      refine NoPanic.normal ?_
      clear hHeld
      have R4 : Hid (Rw 28 3 encL w.heap.size w3 v3 ((l.take (i + 1)).map S.sm)) := by
        show Rw _ _ _ _ _ _ _
        rw [S.take_more HL.out, List.map_append]
        exact R3.out
      go_wp2_with fail
      go_roundw
      case rel => exact ⟨i + 1, by have := HI.out; omega, by have := HI.out; omega, by simp, R4, B3⟩
      case measure => simp [intOf]; have := HI.out; omega
    · have e4 : (l.take i).map S.sm = S.small l := by
        rw [S.small, show l.take 20 = l.take i by
          by_cases h : i = 20
          · rw [h]
          · rw [List.take_of_length_le (show l.length ≤ 20 by have := HN.out; omega), List.take_of_length_le (show l.length ≤ i by have := HN.out; omega)]]
      have R4 := R.out
      rw [e4] at R4
      replace R4 := hide R4
      by_cases hl : (i : Int) < (n : Int)
      · have hl2 : ¬ (i : Int) < 20 := by omega
        clear hin
        go_wp2
        go_ret
        exact ⟨_, rfl, R4.out, B.out⟩
      · clear hin
        go_wp2
        go_ret
        exact ⟨_, rfl, R4.out, B.out⟩
set_option maxHeartbeats 3200000 in
set_option maxRecDepth 100000 in
theorem lanes_any (v : Value) (l : List S.Ln) (w : World) (hv : LnAt w v l) (hl : l.length ≤ 1000) :
   Calls Try.prog 15 #[v] w fun e w' => ∃ u, e = .returned u ∧ Rw 39 3 encL w.heap.size w' u (l) ∧ Below w.heap.size w w' := by
  obtain ⟨ao, n, cap, rfl, hn, hncap⟩ := hv.form
  have HV := hide hv
  have HN := hide hn
  have HB := hide hl
  clear hv hn hl
  go_enter Try.func15, Try.ntmps15
  go_wp2_with fail
  go_loopw [3, 4] (fun s3 s4 wr => ∃ i : Nat, i ≤ n ∧ s4 = .int .i64 (i : Int) ∧ Hid (Rw 39 3 encL w.heap.size wr s3 (l.take i)) ∧ Hid (Below w.heap.size w wr)) (fun _ s4 _ => n - (intOf s4).toNat)
  case atStart => exact ⟨0, by omega, rfl, Rw.nil _ _ _ _ _, Below.refl _ _⟩
  case round =>
    obtain ⟨i, hi, rfl, R, B⟩ := hrel
    by_cases hin : i < n
    · have h1 := hin
      have hkl : i < l.length := by rw [← HN.out]; exact h1
      obtain ⟨g, off, rfl, hg, hra⟩ := lane_at HV.out i hkl
      obtain ⟨x, hx⟩ : ∃ x, x = l.getD i S.l0 := ⟨_, rfl⟩
      have HL : Hid (l[i]? = some x) := by show _ = _; rw [hx, List.getD_eq_getElem?_getD, List.getElem?_eq_getElem hkl]; rfl
      rw [← hx] at hra
      have HRA : Hid (∀ W, Below w.heap.size w W → W.rangeAt g (off + i * 3) (encL x)) := fun W hb => rangeAt_below hra hb hg
      have p1 : (i : Int) < (n : Int) := by omega
      skip
      have p3 : (0 : Int) ≤ (i : Int) := by omega
      have p4 : IntKind.i64.wrap ((i : Int) + 1) = (i : Int) + 1 := wrap_small (by omega) (by have := HB.out; omega)
      obtain ⟨ao3, c3, hv3⟩ := R.out.form
      obtain ⟨m3, hm3⟩ : ∃ m3, m3 = (l.take i).length := ⟨_, rfl⟩
      rw [← hm3] at hv3
      subst hv3
      have HM3 : Hid (m3 ≤ i) := by show m3 ≤ i; rw [hm3]; simp; omega
      clear hm3
      have HI := hide (And.intro h1 h1)
      clear hra hg hx hkl hi hin h1
      obtain ⟨xw, xb, xd⟩ := x
      go_upto_region 5 with fail
      refine wp_region_noPanic ?_
      refine wp_region_held_drew (S := (fun W => Below w.heap.size w W)) follows (B.out.trans ((Below.refl _ _).drew)) (fun hHeld => ?_)
      clear hHeld
      have R0 : Hid (Rw 39 3 encL w.heap.size wr.drew _ _) := R.out.below ((Below.refl _ _).drew)
      have B0 := hide (B.out.trans ((Below.refl _ wr).drew))
      have hHeld := B0.out
      generalize wr.drew = Z0 at R0 B0 hHeld ⊢
      clear R B
      refine wpAnyH_take (i := 0) (oi := { dst := some 11, op := Op.move (Operand.tmp 3), type := 34, pos := "law.go:13", after := #[], guard := none }) (v := ?_) rfl (by kernel_rfl) (by kernel_rfl) (by kernel_rfl) (fun _ _ _ h => h) (Or.inl ⟨by rfl, ?_⟩) (by assumption) ?_
      rotate_left
      · intro w hSw
        clear hSw
        go_simp
        all_goals with_reducible rfl
      simp only [Act.put, List.setIfInBounds_toArray, List.set_cons_zero, List.set_cons_succ]
      refine wpAnyH_take (i := 1) (oi := { dst := some 12, op := Op.move (Operand.tmp 0), type := 24, pos := "law.go:13", after := #[], guard := none }) (v := ?_) rfl (by kernel_rfl) (by kernel_rfl) (by kernel_rfl) (fun _ _ _ h => h) (Or.inl ⟨by rfl, ?_⟩) (by assumption) ?_
      rotate_left
      · intro w hSw
        clear hSw
        go_simp
        all_goals with_reducible rfl
      simp only [Act.put, List.setIfInBounds_toArray, List.set_cons_zero, List.set_cons_succ]
      refine wpAnyH_take (i := 2) (oi := { dst := some 13, op := Op.move (Operand.tmp 4), type := 3, pos := "law.go:13", after := #[], guard := none }) (v := ?_) rfl (by kernel_rfl) (by kernel_rfl) (by kernel_rfl) (fun _ _ _ h => h) (Or.inl ⟨by rfl, ?_⟩) (by assumption) ?_
      rotate_left
      · intro w hSw
        clear hSw
        go_simp
        all_goals with_reducible rfl
      simp only [Act.put, List.setIfInBounds_toArray, List.set_cons_zero, List.set_cons_succ]
      refine wpAnyH_take (i := 3) (oi := { dst := some 14, op := Op.indexAddr 24 (Operand.tmp 12) (Operand.tmp 13), type := 0, pos := "law.go:13", after := #[{ on := 1, ground := Ground.data }, { on := 2, ground := Ground.data }], guard := none }) (v := ?_) rfl (by kernel_rfl) (by kernel_rfl) (by kernel_rfl) (fun _ _ _ h => h) (Or.inl ⟨by rfl, ?_⟩) (by assumption) ?_
      rotate_left
      · intro w hSw
        clear hSw
        go_simp
        all_goals with_reducible rfl
      simp only [Act.put, List.setIfInBounds_toArray, List.set_cons_zero, List.set_cons_succ]
      refine wpAnyH_take (i := 4) (oi := { dst := some 15, op := Op.fieldAddr 28 (Operand.tmp 14) 0, type := 0, pos := "law.go:13", after := #[{ on := 3, ground := Ground.data }], guard := none }) (v := ?_) rfl (by kernel_rfl) (by kernel_rfl) (by kernel_rfl) (fun _ _ _ h => h) (Or.inl ⟨by rfl, ?_⟩) (by assumption) ?_
      rotate_left
      · intro w hSw
        clear hSw
        go_simp
        all_goals with_reducible rfl
      simp only [Act.put, List.setIfInBounds_toArray, List.set_cons_zero, List.set_cons_succ]
      refine wpAnyH_take (i := 5) (oi := { dst := some 16, op := Op.load 3 (Operand.tmp 15), type := 3, pos := "law.go:13", after := #[{ on := 4, ground := Ground.data }], guard := none }) (v := ?_) rfl (by kernel_rfl) (by kernel_rfl) (by kernel_rfl) (fun _ _ _ h => h) (Or.inl ⟨by rfl, ?_⟩) (by assumption) ?_
      rotate_left
      · intro w hSw
        have c0 := (lane_cells (HRA.out w hSw)).1
        clear hSw
        go_simp
        all_goals with_reducible rfl
      simp only [Act.put, List.setIfInBounds_toArray, List.set_cons_zero, List.set_cons_succ]
      refine wpAnyH_take (i := 6) (oi := { dst := some 17, op := Op.move (Operand.tmp 0), type := 24, pos := "law.go:13", after := #[], guard := none }) (v := ?_) rfl (by kernel_rfl) (by kernel_rfl) (by kernel_rfl) (fun _ _ _ h => h) (Or.inl ⟨by rfl, ?_⟩) (by assumption) ?_
      rotate_left
      · intro w hSw
        clear hSw
        go_simp
        all_goals with_reducible rfl
      simp only [Act.put, List.setIfInBounds_toArray, List.set_cons_zero, List.set_cons_succ]
      refine wpAnyH_take (i := 7) (oi := { dst := some 18, op := Op.move (Operand.tmp 4), type := 3, pos := "law.go:13", after := #[], guard := none }) (v := ?_) rfl (by kernel_rfl) (by kernel_rfl) (by kernel_rfl) (fun _ _ _ h => h) (Or.inl ⟨by rfl, ?_⟩) (by assumption) ?_
      rotate_left
      · intro w hSw
        clear hSw
        go_simp
        all_goals with_reducible rfl
      simp only [Act.put, List.setIfInBounds_toArray, List.set_cons_zero, List.set_cons_succ]
      refine wpAnyH_take (i := 8) (oi := { dst := some 19, op := Op.indexAddr 24 (Operand.tmp 17) (Operand.tmp 18), type := 0, pos := "law.go:13", after := #[{ on := 6, ground := Ground.data }, { on := 7, ground := Ground.data }], guard := none }) (v := ?_) rfl (by kernel_rfl) (by kernel_rfl) (by kernel_rfl) (fun _ _ _ h => h) (Or.inl ⟨by rfl, ?_⟩) (by assumption) ?_
      rotate_left
      · intro w hSw
        clear hSw
        go_simp
        all_goals with_reducible rfl
      simp only [Act.put, List.setIfInBounds_toArray, List.set_cons_zero, List.set_cons_succ]
      refine wpAnyH_take (i := 9) (oi := { dst := some 20, op := Op.fieldAddr 28 (Operand.tmp 19) 1, type := 0, pos := "law.go:13", after := #[{ on := 8, ground := Ground.data }], guard := none }) (v := ?_) rfl (by kernel_rfl) (by kernel_rfl) (by kernel_rfl) (fun _ _ _ h => h) (Or.inl ⟨by rfl, ?_⟩) (by assumption) ?_
      rotate_left
      · intro w hSw
        clear hSw
        go_simp
        all_goals with_reducible rfl
      simp only [Act.put, List.setIfInBounds_toArray, List.set_cons_zero, List.set_cons_succ]
      refine wpAnyH_take (i := 10) (oi := { dst := some 21, op := Op.load 3 (Operand.tmp 20), type := 3, pos := "law.go:13", after := #[{ on := 9, ground := Ground.data }], guard := none }) (v := ?_) rfl (by kernel_rfl) (by kernel_rfl) (by kernel_rfl) (fun _ _ _ h => h) (Or.inl ⟨by rfl, ?_⟩) (by assumption) ?_
      rotate_left
      · intro w hSw
        have c1 := (lane_cells (HRA.out w hSw)).2.1
        clear hSw
        go_simp
        all_goals with_reducible rfl
      simp only [Act.put, List.setIfInBounds_toArray, List.set_cons_zero, List.set_cons_succ]
      refine wpAnyH_take (i := 11) (oi := { dst := some 22, op := Op.move (Operand.tmp 0), type := 24, pos := "law.go:13", after := #[], guard := none }) (v := ?_) rfl (by kernel_rfl) (by kernel_rfl) (by kernel_rfl) (fun _ _ _ h => h) (Or.inl ⟨by rfl, ?_⟩) (by assumption) ?_
      rotate_left
      · intro w hSw
        clear hSw
        go_simp
        all_goals with_reducible rfl
      simp only [Act.put, List.setIfInBounds_toArray, List.set_cons_zero, List.set_cons_succ]
      refine wpAnyH_take (i := 12) (oi := { dst := some 23, op := Op.move (Operand.tmp 4), type := 3, pos := "law.go:13", after := #[], guard := none }) (v := ?_) rfl (by kernel_rfl) (by kernel_rfl) (by kernel_rfl) (fun _ _ _ h => h) (Or.inl ⟨by rfl, ?_⟩) (by assumption) ?_
      rotate_left
      · intro w hSw
        clear hSw
        go_simp
        all_goals with_reducible rfl
      simp only [Act.put, List.setIfInBounds_toArray, List.set_cons_zero, List.set_cons_succ]
      refine wpAnyH_take (i := 13) (oi := { dst := some 24, op := Op.indexAddr 24 (Operand.tmp 22) (Operand.tmp 23), type := 0, pos := "law.go:13", after := #[{ on := 11, ground := Ground.data }, { on := 12, ground := Ground.data }], guard := none }) (v := ?_) rfl (by kernel_rfl) (by kernel_rfl) (by kernel_rfl) (fun _ _ _ h => h) (Or.inl ⟨by rfl, ?_⟩) (by assumption) ?_
      rotate_left
      · intro w hSw
        clear hSw
        go_simp
        all_goals with_reducible rfl
      simp only [Act.put, List.setIfInBounds_toArray, List.set_cons_zero, List.set_cons_succ]
      refine wpAnyH_take (i := 14) (oi := { dst := some 25, op := Op.fieldAddr 28 (Operand.tmp 24) 2, type := 0, pos := "law.go:13", after := #[{ on := 13, ground := Ground.data }], guard := none }) (v := ?_) rfl (by kernel_rfl) (by kernel_rfl) (by kernel_rfl) (fun _ _ _ h => h) (Or.inl ⟨by rfl, ?_⟩) (by assumption) ?_
      rotate_left
      · intro w hSw
        clear hSw
        go_simp
        all_goals with_reducible rfl
      simp only [Act.put, List.setIfInBounds_toArray, List.set_cons_zero, List.set_cons_succ]
      refine wpAnyH_take (i := 15) (oi := { dst := some 26, op := Op.load 3 (Operand.tmp 25), type := 3, pos := "law.go:13", after := #[{ on := 14, ground := Ground.data }], guard := none }) (v := ?_) rfl (by kernel_rfl) (by kernel_rfl) (by kernel_rfl) (fun _ _ _ h => h) (Or.inl ⟨by rfl, ?_⟩) (by assumption) ?_
      rotate_left
      · intro w hSw
        have c2 := (lane_cells (HRA.out w hSw)).2.2
        clear hSw
        go_simp
        all_goals with_reducible rfl
      simp only [Act.put, List.setIfInBounds_toArray, List.set_cons_zero, List.set_cons_succ]
      refine wpAnyH_take (i := 16) (oi := { dst := some 27, op := Op.build 39 #[(0, Operand.tmp 16), (1, Operand.tmp 21), (2, Operand.tmp 26)], type := 39, pos := "law.go:13", after := #[{ on := 5, ground := Ground.data }, { on := 10, ground := Ground.data }, { on := 15, ground := Ground.data }], guard := none }) (v := ?_) rfl (by kernel_rfl) (by kernel_rfl) (by kernel_rfl) (fun _ _ _ h => h) (Or.inl ⟨by rfl, ?_⟩) (by assumption) ?_
      rotate_left
      · intro w hSw
        clear hSw
        go_simp
        all_goals with_reducible rfl
      simp only [Act.put, List.setIfInBounds_toArray, List.set_cons_zero, List.set_cons_succ]
      refine wpAnyH_ready (rs := [17]) (by kernel_rfl) (by simp) ?_
      refine AllReadyH.cons (o := { dst := some 28, op := Op.buildSlice 34 1 #[(0, Operand.tmp 27)], type := 34, pos := "law.go:13", after := #[{ on := 16, ground := Ground.data }], guard := none }) rfl (fun K hK => ?_) AllReadyH.nil
      have hbs := bs_one 34 39 Try.underlying34 info39 (xw) (xb) (xd)
      go_simp
      obtain ⟨Z2, hZ2⟩ : ∃ Z2, Z2 = Z0.alloc (.cells #[.int .i64 (xw), .int .i64 (xb), .int .i64 (xd)] 39) := ⟨_, rfl⟩
      rw [← hZ2]
      have r2 : Hid (Z2.heap[Z0.heap.size]? = some (.cells (encL ⟨xw, xb, xd⟩).toArray 39 (0, 0))) := by rw [hZ2]; exact heap_alloc_new _ _
      have b2 : Below Z0.heap.size Z0 Z2 := by rw [hZ2]; exact one_below _ _
      have B2 := hide (B0.out.trans (b2.mono B0.out.size))
      have R2 := hide (R0.out.below b2)
      clear hZ2 b2 hHeld hbs
      refine hK.out _ _ B2.out (fun hHeld => ?_)
      clear hK K
      try simp only [Act.put, List.setIfInBounds_toArray, List.set_cons_zero, List.set_cons_succ]
      have APP := hide (Rw.append kdR 34 (ys := [⟨xw, xb, xd⟩]) R2.out (Sce.of_row (c := 1) r2.out) (lenL _) (by have := HI.out; have := HB.out; simp; omega) B2.out.size)
      refine wpAnyH_ready (rs := [18]) (by kernel_rfl) (by simp) ?_
      refine step_append (o := { dst := some 29, op := Op.call { callee := Callee.builtin Builtin.append, args := #[Operand.tmp 11, Operand.tmp 28], argTypes := #[34, 34] }, type := 34, pos := "law.go:13", after := #[{ on := 0, ground := Ground.data }, { on := 17, ground := Ground.data }], guard := none }) rfl rfl _ _ 34 34 rfl _ _ rfl rfl APP.out AllReadyH.nil ?_
      rintro v3 w3 ⟨hr3, hc3⟩
      have B3 : Hid (Below w.heap.size w w3) := B2.out.trans (hc3.below _ B2.out.size (fun k hk e => by have := (R2.out.blk e).1; omega))
      have R3 := hide hr3
      clear hr3 hc3 APP hHeld
      refine ⟨B3.out, fun hHeld => ?_⟩
      try simp only [Act.put, List.setIfInBounds_toArray, List.set_cons_zero, List.set_cons_succ]
      refine wpAnyH_take (i := 19) (oi := { dst := some 3, op := Op.assign (Operand.tmp 29), type := 34, pos := "law.go:13", after := #[{ on := 18, ground := Ground.data }, { on := 18, ground := Ground.chain }, { on := 0, ground := Ground.phase }, { on := 1, ground := Ground.phase }, { on := 2, ground := Ground.phase }, { on := 3, ground := Ground.phase }, { on := 4, ground := Ground.phase }, { on := 5, ground := Ground.phase }, { on := 6, ground := Ground.phase }, { on := 7, ground := Ground.phase }, { on := 8, ground := Ground.phase }, { on := 9, ground := Ground.phase }, { on := 10, ground := Ground.phase }, { on := 11, ground := Ground.phase }, { on := 12, ground := Ground.phase }, { on := 13, ground := Ground.phase }, { on := 14, ground := Ground.phase }, { on := 15, ground := Ground.phase }, { on := 16, ground := Ground.phase }, { on := 17, ground := Ground.phase }, { on := 18, ground := Ground.phase }], guard := none }) (v := ?_) rfl (by kernel_rfl) (by kernel_rfl) (by kernel_rfl) (fun _ _ _ h => h) (Or.inl ⟨by rfl, ?_⟩) (by assumption) ?_
      rotate_left
      · intro w hSw
        clear hSw
        go_simp
        all_goals with_reducible rfl
      simp only [Act.put, List.setIfInBounds_toArray, List.set_cons_zero, List.set_cons_succ]
      refine wpAnyH_done (by kernel_rfl) ?_ _
      refine NoPanic.normal ?_
      clear hHeld
      have R4 : Hid (Rw 39 3 encL w.heap.size w3 v3 (l.take (i + 1))) := by
        show Rw _ _ _ _ _ _ _
        rw [S.take_more HL.out]
        exact R3.out
      go_wp2_with fail
      go_roundw
      case rel => exact ⟨i + 1, by have := HI.out; omega, by simp, R4, B3⟩
      case measure => simp [intOf]; have := HI.out; omega
    · have R4 := R.out
      rw [List.take_of_length_le (show l.length ≤ i by have := HN.out; omega)] at R4
      replace R4 := hide R4
      have hl2 : ¬ (i : Int) < (n : Int) := by omega
      clear hin
      go_wp2
      go_ret
      exact ⟨_, rfl, R4.out, B.out⟩
namespace S
/-- Fresh lanes: weights up to 4, backlogs up to 60. -/
def frL (m : Nat) (f g : Nat → Int) (i : Nat) : Ln := ⟨(within (f i) 4 : Nat), ((if i < m then within (g i) 60 else 0 : Nat) : Int), 0⟩
def fr (m : Nat) (f g : Nat → Int) (k : Nat) : List Ln := (List.range k).map (frL m f g)
theorem fr_length (m : Nat) (f g : Nat → Int) (k : Nat) : (fr m f g k).length = k := by simp [fr]
theorem fr_more (m : Nat) (f g : Nat → Int) (k : Nat) : fr m f g k ++ [frL m f g k] = fr m f g (k + 1) := by simp [fr, List.range_succ]
theorem fr_more_as (m : Nat) (f g : Nat → Int) (k : Nat) (y : Ln) (h : y = frL m f g k) : fr m f g k ++ [y] = fr m f g (k + 1) := by rw [h, fr_more]
/-- How many take part. -/
def cnt : List Ln → Nat
  | [] => 0
  | x :: l => (if 1 ≤ x.w then 1 else 0) + cnt l
theorem cnt_app (l m : List Ln) : cnt (l ++ m) = cnt l + cnt m := by
  induction l with
  | nil => simp [cnt]
  | cons x l ih => simp only [List.cons_append, cnt, ih]; omega
theorem cnt_le (l : List Ln) : cnt l ≤ l.length := by
  induction l with
  | nil => simp [cnt]
  | cons x l ih => simp only [cnt, List.length_cons]; split <;> omega
end S
/-- A list of numbers that came in. -/
def InI (w : World) (a0 : Option Addr) (len : Nat) (f : Nat → Int) : Prop := 0 < len → ∃ b off, a0 = some ⟨b, off, none⟩ ∧ b < w.heap.size ∧ ∀ i, i < len → w.cell? ⟨b, off + i, none⟩ = some (.int .i64 (f i))
theorem InI.up {w W : World} {a0 : Option Addr} {len : Nat} {f : Nat → Int} (h : InI w a0 len f) (hb : Below w.heap.size w W) : InI W a0 len f := fun hp => by
  obtain ⟨b, off, e, hl, hc⟩ := h hp
  exact ⟨b, off, e, Nat.lt_of_lt_of_le hl hb.size, fun i hi => (hb.cell (p := ⟨b, off + i, none⟩) hl).trans (hc i hi)⟩
set_option maxHeartbeats 6400000 in
set_option maxRecDepth 100000 in
theorem fresh_any (a0 b0 : Option Addr) (n m ca cb : Nat) (f g : Nat → Int) (w : World) (hf : InI w a0 n f) (hg : InI w b0 m g) :
   Calls Try.prog 18 #[.slice a0 n ca, .slice b0 m cb] w fun e w' => ∃ u, e = .returned (.tuple #[u, .int .i64 (S.cnt (S.fr m f g (min n 12)) : Int)]) ∧ Rw 28 3 encL w.heap.size w' u (S.fr m f g (min n 12)) ∧ Below w.heap.size w w' := by
  have HF := hide hf
  have HG := hide hg
  clear hf hg
  go_enter Try.func18, Try.ntmps18
  go_wp2_with fail
  go_loopw [6, 7, 8] (fun s6 s7 s8 wr => ∃ i : Nat, i ≤ n ∧ i ≤ 12 ∧ s8 = .int .i64 (i : Int) ∧ s7 = .int .i64 (S.cnt (S.fr m f g i) : Int) ∧ Hid (Rw 28 3 encL w.heap.size wr s6 (S.fr m f g i)) ∧ Hid (Below w.heap.size w wr)) (fun _ _ s8 _ => 12 - (intOf s8).toNat)
  case atStart => exact ⟨0, by omega, by omega, rfl, rfl, Rw.nil _ _ _ _ _, Below.refl _ _⟩
  case round =>
    obtain ⟨i, hi, hi2, rfl, rfl, R, B⟩ := hrel
    by_cases hin : i < n ∧ i < 12
    · obtain ⟨h1, h2⟩ := hin
      obtain ⟨b, off, rfl, hbl, hcs⟩ := HF.out (by omega)
      have c0 : wr.cell? ⟨b, off + i, none⟩ = some (.int .i64 (f i)) := (B.out.cell (p := ⟨b, off + i, none⟩) hbl).trans (hcs i h1)
      obtain ⟨x, hx⟩ : ∃ x, x = f i := ⟨_, rfl⟩
      rw [← hx] at c0
      have HX := hide hx
      have p1 : (i : Int) < (n : Int) := by omega
      have p2 : (i : Int) < 12 := by omega
      have p3 : (0 : Int) ≤ (i : Int) := by omega
      have p4 : IntKind.i64.wrap ((i : Int) + 1) = (i : Int) + 1 := wrap_small (by omega) (by omega)
      obtain ⟨ao3, c3, hv3⟩ := R.out.form
      rw [S.fr_length] at hv3
      subst hv3
      have HI := hide (And.intro h1 h2)
      clear hi hi2 h1 h2 hcs hbl hx
      obtain ⟨cn, hcn⟩ : ∃ cn, cn = S.cnt (S.fr m f g i) := ⟨_, rfl⟩
      rw [← hcn]
      have HC := hide hcn
      have CB : Hid (cn ≤ 12) := by show cn ≤ 12; rw [hcn]; have := S.cnt_le (S.fr m f g i); rw [S.fr_length] at this; have := HI.out; omega
      clear hcn
      go_wp2_with fail
      go_at_call 19
      refine (within_any x 4 wr (by omega) (by omega)).mono ?_
      rintro e w1 ⟨rfl, rfl⟩
      obtain ⟨wt, hwt⟩ : ∃ wt, wt = S.within x 4 := ⟨_, rfl⟩
      rw [← hwt]
      have WT := hide hwt
      clear hwt
      go_upto_region 7 with fail
      generalize hX : World.alloc _ _ = X
      have X0 : Hid (Cel X wr.heap.size 28 (.int .i64 (wt : Int)) (.int .i64 0) (.int .i64 0) ∧ Below wr.heap.size wr X) := by
        show _ ∧ _
        rw [← hX]
        exact ⟨Cel.new _ _ _ _ _, one_below _ _⟩
      have RX := hide (R.out.below X0.out.2)
      have BX := hide (B.out.trans (X0.out.2.mono B.out.size))
      have XC : Hid (Cel X wr.heap.size 28 (.int .i64 (wt : Int)) (.int .i64 0) (.int .i64 0) ∧ w.heap.size ≤ wr.heap.size) := ⟨X0.out.1, B.out.size⟩
      have NG : Hid ((Value.slice ao3 i c3).ownBlock ≠ some wr.heap.size) := fun e => by have := (R.out.blk e).2.1; omega
      clear hX X0 R B c0
      generalize wr.heap.size = gx at XC NG ⊢
      obtain ⟨bl, hbl⟩ : ∃ bl : Nat, bl = if i < m then S.within (g i) 60 else 0 := ⟨_, rfl⟩
      have HBL := hide hbl
      clear hbl
      go_cut [29] from 26 to 44 (fun s29 wx => s29 = .bool (decide (i < m)) ∧ wx = X)
      case first =>
        by_cases hm : i < m
        · have q : (i : Int) < (m : Int) := by omega
          go_wp2_with fail
          all_goals (go_meet; exact ⟨by simp [hm], rfl⟩)
        · have q : ¬ (i : Int) < (m : Int) := by omega
          go_wp2_with fail
          all_goals (go_meet; exact ⟨by simp [hm], rfl⟩)
      case rest =>
      obtain ⟨rfl, rfl⟩ := hcut
      go_upto_if 29 with fail
      obtain ⟨X, rfl⟩ : ∃ X : World, X = wc := ⟨_, rfl⟩
      go_cut [] from 26 to 44 (fun wx => Hid (Cel wx gx 28 (.int .i64 (wt : Int)) (.int .i64 (bl : Int)) (.int .i64 0) ∧ Rw 28 3 encL w.heap.size wx (.slice ao3 i c3) (S.fr m f g i) ∧ Below w.heap.size w wx))
      case first =>
        have hbl := HBL.out
        by_cases hm : i < m
        · rw [if_pos hm] at hbl
          obtain ⟨b2, off2, rfl, hbl2, hcs2⟩ := HG.out (by omega)
          have c3 : X.cell? ⟨b2, off2 + i, none⟩ = some (.int .i64 (g i)) := (BX.out.cell (p := ⟨b2, off2 + i, none⟩) hbl2).trans (hcs2 i hm)
          have q : (i : Int) < (m : Int) := by omega
          obtain ⟨d0, d1, d2⟩ := XC.out.1.c
          have f1 := XC.out.1.fz 1
          obtain ⟨y, hy⟩ : ∃ y, y = g i := ⟨_, rfl⟩
          rw [← hy] at c3 hbl
          have U := hide (And.intro (XC.out.1.set1 (.int .i64 (bl : Int))) (And.intro (RX.out.chg (p := fun k => k = gx) (Chg.setCell (p := fun k => k = gx) (Chg.refl _ X) gx 1 (.int .i64 (bl : Int)) (fun _ => rfl)) (fun j hj e => NG.out (by rw [← e]; exact hj))) (BX.out.setCell (p := ⟨gx, 1, none⟩) XC.out.2 (.int .i64 (bl : Int)))))
          have HB2 := hide hbl
          clear hcs2 hbl2 hy hbl
          go_wp2_with fail
          go_at_call 19
          refine (within_any y 60 X (by omega) (by omega)).mono ?_
          rintro e w1 ⟨rfl, rfl⟩
          rw [← HB2.out]
          go_wp2_with fail
          all_goals (go_meet; exact U)
        · rw [if_neg hm] at hbl
          subst hbl
          have U := hide (And.intro XC.out.1 (And.intro RX.out BX.out))
          go_wp2_with fail
          all_goals (go_meet; exact U)
      case rest =>
      have U := hcut
      clear hcut RX BX
      obtain ⟨d0, d1, d2⟩ := U.out.1.c
      go_upto_region 9 with fail
      obtain ⟨X2, rfl⟩ : ∃ X2 : World, X2 = wc := ⟨_, rfl⟩
      go_cut [38] from 26 to 44 (fun s38 wx => s38 = .bool (decide (0 < wt)) ∧ wx = X2)
      case first =>
        go_wp2_with fail
        all_goals (go_meet; exact ⟨by first | rfl | simp | (congr 1; simp), rfl⟩)
      case rest =>
      obtain ⟨rfl, rfl⟩ := hcut
      go_upto_if 38 with fail
      obtain ⟨X2, rfl⟩ : ∃ X2 : World, X2 = wc := ⟨_, rfl⟩
      obtain ⟨cn2, hcn2⟩ : ∃ cn2 : Nat, cn2 = cn + (if 0 < wt then 1 else 0) := ⟨_, rfl⟩
      have HC2 := hide hcn2
      clear hcn2
      go_cut [7] from 26 to 44 (fun s7 wx => s7 = .int .i64 (cn2 : Int) ∧ wx = X2)
      case first =>
        have hc2 := HC2.out
        have q : IntKind.i64.wrap ((cn : Int) + 1) = (cn : Int) + 1 := wrap_small (by omega) (by have := CB.out; omega)
        by_cases hw : 0 < wt
        · rw [if_pos hw] at hc2
          go_wp2_with fail
          all_goals (go_meet; exact ⟨by rw [hc2]; simp, rfl⟩)
        · rw [if_neg hw] at hc2
          go_wp2_with fail
          all_goals (go_meet; exact ⟨by rw [hc2]; simp, rfl⟩)
      case rest =>
      obtain ⟨rfl, rfl⟩ := hcut
      have hbs := bs_one 24 28 Try.underlying24 info28 (wt : Int) (bl : Int) 0
      obtain ⟨Z2, hZ2⟩ : ∃ Z2, Z2 = wc.alloc (.cells #[.int .i64 (wt : Int), .int .i64 (bl : Int), .int .i64 0] 28) := ⟨_, rfl⟩
      have r2 : Hid (Z2.heap[wc.heap.size]? = some (.cells (encL ⟨wt, bl, 0⟩).toArray 28 (0, 0))) := by rw [hZ2]; exact heap_alloc_new _ _
      have b2 : Below wc.heap.size wc Z2 := by rw [hZ2]; exact one_below _ _
      have B2 := hide (U.out.2.2.trans (b2.mono U.out.2.2.size))
      have R2 := hide (U.out.2.1.below b2)
      have HZ2 := hide hZ2
      have APP := hide (Rw.append kdL 24 (ys := [⟨wt, bl, 0⟩]) R2.out (Sce.of_row (c := 1) r2.out) (lenL _) (by rw [S.fr_length]; have := HI.out; simp; omega) B2.out.size)
      clear hZ2 b2
      go_wp2_with (at_builtin; go_loud (rw [← HZ2.out]); go_loud (refine wpList_append_known rfl (.tmp 41) (.tmp 43) 24 24 rfl _ _ rfl rfl APP.out ?_); rintro v3 W3 ⟨hr3, hc3⟩; go_loud (have R3 : Hid (Rw 28 3 encL w.heap.size W3 v3 (S.fr m f g (i + 1))) := (by rw [S.fr_more_as m f g i ⟨wt, bl, 0⟩ (by rw [WT.out, HX.out, HBL.out]; rfl)] at hr3; exact hr3)); go_loud (have B3 : Hid (Below w.heap.size w W3) := B2.out.trans (hc3.below _ B2.out.size (fun k hk e => by have := (R2.out.blk e).1; omega))); go_loud (have C3 : Hid (cn2 = S.cnt (S.fr m f g (i + 1))) := (by show _ = _; rw [HC2.out, HC.out, ← S.fr_more_as m f g i ⟨wt, bl, 0⟩ (by rw [WT.out, HX.out, HBL.out]; rfl), S.cnt_app]; simp [S.cnt]; split <;> (try split) <;> omega)); clear hr3 hc3)
      exact ⟨⟨i + 1, by have := HI.out; omega, by have := HI.out; omega, by simp, by rw [C3.out], R3, B3⟩, by simp [intOf]; have := HI.out; omega⟩
    · have e12 : min n 12 = i := by omega
      by_cases hl : (i : Int) < (n : Int)
      · have hl2 : ¬ (i : Int) < 12 := by omega
        clear hin
        go_wp2
        refine bodyPost_ret (by simp [results, Try.results18]; rfl) rfl ?_
        exact ⟨_, rfl, R.out, B.out⟩
      · clear hin
        go_wp2
        refine bodyPost_ret (by simp [results, Try.results18]; rfl) rfl ?_
        exact ⟨_, rfl, R.out, B.out⟩
theorem Rw.lane {el : TypeId} {B : Nat} {w : World} {ao : Option Addr} {n cap : Nat} {l : List S.Ln} (h : Rw el 3 encL B w (.slice ao n cap) l) (k : Nat) (hk : k < l.length) : ∃ g, ao = some ⟨g, 0, none⟩ ∧ B ≤ g ∧ g < w.heap.size ∧ n = l.length ∧ w.rangeAt g (k * 3) (encL (l.getD k S.l0)) := by
  obtain ⟨g, c, e, _, hB, cur, hcur⟩ := Rw.blk0 h (by omega)
  simp only [Value.slice.injEq] at e
  obtain ⟨rfl, rfl, rfl⟩ := e
  exact ⟨g, rfl, hB, block_lt_of_row hcur, rfl, h.cells k hk⟩
/-- Two lanes in a row. -/
theorem two_at {W : World} {g : Nat} {x y z x' y' z' : Int} (h : W.heap[g]? = some (.cells #[.int .i64 x, .int .i64 y, .int .i64 z, .int .i64 x', .int .i64 y', .int .i64 z'] 28 (0, 0))) : LnAt W (.slice (some ⟨g, 0, none⟩) 2 2) [⟨x, y, z⟩, ⟨x', y', z'⟩] :=
  Rw.lnAt (el := 28) (B := 0) (row_rw (xs := [⟨x, y, z⟩, ⟨x', y', z'⟩]) h (Nat.zero_le _) rfl (by omega))
def S.k0 : List S.Ln := [⟨1, 5, 0⟩, ⟨2, 5, 0⟩]
set_option maxHeartbeats 3200000 in
set_option maxRecDepth 100000 in
theorem known_any (w : World) : Calls Try.prog 11 #[] w fun e w' => e = .returned (.bool true) ∧ Below w.heap.size w w' := by
  have hbs := bs_two 1 5 0 2 5 0
  have hk0 : S.pos 0 S.k0.length = 0 ∧ S.lane S.k0 0 = 0 ∧ S.took S.k0 0 1 = 1 ∧ S.next S.k0 0 = 1 ∧ S.after S.k0 0 1 = [⟨1, 4, 0⟩, ⟨2, 5, 0⟩] := by decide
  have hk1 : S.wait 3 2 1 5 = 10 := by decide
  have K0 := hide hk0
  have K1 := hide hk1
  clear hk0 hk1
  go_enter Try.func11, Try.ntmps11
  go_wp2_with fail
  go_at_call 9
  generalize hX : World.alloc _ _ = X
  have BX : Below w.heap.size w X := by rw [← hX]; exact one_below _ _
  have LX : LnAt X (.slice (some ⟨w.heap.size, 0, none⟩) 2 2) S.k0 := two_at (by rw [← hX]; exact heap_alloc_new _ _)
  refine (Serve_any _ S.k0 0 1 X LX (by intro x hx; simp [S.k0] at hx; rcases hx with rfl | rfl <;> (unfold S.Mild; simp)) (by decide)).mono ?_
  rintro e W1 ⟨u, rfl, hu, hb⟩
  rw [K0.out.1] at hu ⊢
  rw [K0.out.2.1, K0.out.2.2.1, K0.out.2.2.2.1]
  rw [K0.out.2.2.2.2] at hu
  have B1 := hide (BX.trans (hb.mono BX.size))
  obtain ⟨ao, cap, rfl⟩ := hu.form
  have R1 := hide hu
  clear hb LX BX hX hu hbs
  go_upto_region 2 with fail
  generalize hY : World.alloc _ _ = Y
  have Y0 : Hid (Cel Y W1.heap.size 23 (.int .i64 0) (.int .i64 1) (.int .i64 1) ∧ Below w.heap.size w Y ∧ Rw 28 3 encL X.heap.size Y (.slice ao 2 cap) [⟨1, 4, 0⟩, ⟨2, 5, 0⟩]) := by
    show _ ∧ _ ∧ _
    rw [← hY]
    exact ⟨Cel.new _ _ _ _ _, B1.out.trans ((one_below _ _).mono B1.out.size), R1.out.below (one_below _ _)⟩
  clear hY R1 B1
  generalize W1.heap.size = gt at Y0 ⊢
  obtain ⟨c0, c1, c2⟩ := Y0.out.1.c
  obtain ⟨g, rfl, -, -, -, hr⟩ := Y0.out.2.2.lane 0 (by decide)
  obtain ⟨d0, d1, d2⟩ := lane_cells hr
  replace d1 : Y.cell? ⟨g, 1, none⟩ = some (.int .i64 4) := d1
  clear hr d0 d2
  go_wp2_with fail
  go_at_call 10
  refine (wait_any 3 2 1 5 Y).mono ?_
  rintro e W2 ⟨rfl, rfl⟩
  rw [K1.out]
  go_wp2
  go_ret
  exact ⟨rfl, Y0.out.2.1⟩
end Go.Proofs.Ytnplijgdklnipaa
