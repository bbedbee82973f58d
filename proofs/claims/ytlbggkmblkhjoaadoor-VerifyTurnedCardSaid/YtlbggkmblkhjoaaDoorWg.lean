/- Is a leaf shown? -/
import Derived.Test.YtlbggkmblkhjoaaDoorWf
namespace Go.Proofs.YtlbggkmblkhjoaaDoor
open Go.RowKit

theorem S.vLeaf_climb (a : Int) (b : List UInt8) (i n : Nat) (ps : List (List UInt8)) (rt : List UInt8) (hi : i < 18446744073709551616) :
    S.vLeaf a b i n ps rt = match S.climb a b i n ps with | some ts => S.hsh a (S.lastOf ts) == S.cut rt (S.cw a) | none => false := by
  rw [S.vLeaf_way a b i n ps rt (by simpa using hi), S.climb]
  by_cases h : i < n
  · rw [if_pos h]
    cases S.way a i (n - 1) (0 :: b) ps with
    | none => simp
    | some l => simp [h, Bool.beq_eq_decide_eq]
  · rw [if_neg h]; simp [h]
set_option maxHeartbeats 4000000 in
set_option maxRecDepth 10000 in
theorem leafv_none (a : Int) (v u : Value) (i n : Nat) (rt : List UInt8) (w : World) (h : n ≤ i) :
   Calls Tryd.prog 11 #[.int .i64 a, v, .int .u64 (i : Int), .int .u64 (n : Int), u, .agg (S.v8 rt)] w fun e w' => e = .returned (.bool false) ∧ Below w.heap.size w w' := by
  go_enter Tryd.func11, Tryd.ntmps11
  go_wp2_with fail
  generalize hW0 : w.alloc (.cells (S.v8 rt) 23) = W0
  have B0 : Hid (Below w.heap.size w W0) := by rw [← hW0]; exact (Below.refl _ _).alloc (Nat.le_refl _) _
  clear hW0
  refine (climb_none a v u i n W0 h).mono ?_
  rintro e w2 ⟨rfl, rfl⟩
  have B0b := B0
  clear B0
  go_wp2_with fail
  refine wp_region_noPanic ?_
  refine wp_region_held_drew (S := (fun W => Chg (fun _ => False) W0 W)) follows ((Chg.refl _ _).drew) (fun hHeld => ?_)
  clear hHeld
  have hHeld : Chg (fun _ => False) W0 W0.drew := (Chg.refl _ _).drew
  have CZ0 := hide hHeld
  generalize W0.drew = Z0 at CZ0 hHeld ⊢
  refine wpAnyH_take (i := 0) (oi := { dst := some 24, op := Op.move (Operand.tmp 14), type := 4, pos := "verify.go:16", after := #[], guard := none }) (v := ?_) rfl (by kernel_rfl) (by kernel_rfl) (by kernel_rfl) (fun _ _ _ h => h) (Or.inl ⟨by rfl, ?_⟩) (by assumption) ?_
  rotate_left
  · intro w hSw
    clear hSw
    go_simp
    all_goals with_reducible rfl
  simp only [Act.put, List.setIfInBounds_toArray, List.set_cons_zero, List.set_cons_succ]
  refine wpAnyH_take (i := 1) (oi := { dst := some 25, op := Op.move (Operand.tmp 24), type := 4, pos := "verify.go:16", after := #[{ on := 0, ground := Ground.data }], guard := none }) (v := ?_) rfl (by kernel_rfl) (by kernel_rfl) (by kernel_rfl) (fun _ _ _ h => h) (Or.inl ⟨by rfl, ?_⟩) (by assumption) ?_
  rotate_left
  · intro w hSw
    clear hSw
    go_simp
    all_goals with_reducible rfl
  simp only [Act.put, List.setIfInBounds_toArray, List.set_cons_zero, List.set_cons_succ]
  refine wpAnyH_take (i := 2) (oi := { dst := some 26, op := Op.move (Operand.tmp 13), type := 62, pos := "verify.go:16", after := #[{ on := 1, ground := Ground.guard }], guard := some (1, true) }) (v := undef) rfl (by kernel_rfl) (by kernel_rfl) (by kernel_rfl) (fun _ _ _ h => h) (Or.inr ⟨by rfl, rfl⟩) (by assumption) ?_
  simp only [Act.put, List.setIfInBounds_toArray, List.set_cons_zero, List.set_cons_succ]
  refine wpAnyH_take (i := 3) (oi := { dst := some 27, op := Op.call { callee := Callee.value (Operand.func 34), args := #[Operand.tmp 26], argTypes := #[62] }, type := 23, pos := "verify.go:16", after := #[{ on := 2, ground := Ground.data }, { on := 1, ground := Ground.chain }, { on := 1, ground := Ground.guard }], guard := some (1, true) }) (v := undef) rfl (by kernel_rfl) (by kernel_rfl) (by kernel_rfl) (fun _ _ _ h => h) (Or.inr ⟨by rfl, rfl⟩) (by assumption) ?_
  simp only [Act.put, List.setIfInBounds_toArray, List.set_cons_zero, List.set_cons_succ]
  refine wpAnyH_take (i := 4) (oi := { dst := some 28, op := Op.move (Operand.tmp 0), type := 3, pos := "verify.go:16", after := #[{ on := 1, ground := Ground.guard }], guard := some (1, true) }) (v := undef) rfl (by kernel_rfl) (by kernel_rfl) (by kernel_rfl) (fun _ _ _ h => h) (Or.inr ⟨by rfl, rfl⟩) (by assumption) ?_
  simp only [Act.put, List.setIfInBounds_toArray, List.set_cons_zero, List.set_cons_succ]
  refine wpAnyH_take (i := 5) (oi := { dst := some 29, op := Op.load 23 (Operand.tmp 11), type := 23, pos := "verify.go:16", after := #[{ on := 1, ground := Ground.guard }], guard := some (1, true) }) (v := undef) rfl (by kernel_rfl) (by kernel_rfl) (by kernel_rfl) (fun _ _ _ h => h) (Or.inr ⟨by rfl, rfl⟩) (by assumption) ?_
  simp only [Act.put, List.setIfInBounds_toArray, List.set_cons_zero, List.set_cons_succ]
  refine wpAnyH_take (i := 6) (oi := { dst := some 30, op := Op.call { callee := Callee.value (Operand.func 36), args := #[Operand.tmp 28, Operand.tmp 29], argTypes := #[3, 23] }, type := 23, pos := "verify.go:16", after := #[{ on := 4, ground := Ground.data }, { on := 5, ground := Ground.data }, { on := 3, ground := Ground.chain }, { on := 1, ground := Ground.guard }], guard := some (1, true) }) (v := undef) rfl (by kernel_rfl) (by kernel_rfl) (by kernel_rfl) (fun _ _ _ h => h) (Or.inr ⟨by rfl, rfl⟩) (by assumption) ?_
  simp only [Act.put, List.setIfInBounds_toArray, List.set_cons_zero, List.set_cons_succ]
  refine wpAnyH_take (i := 7) (oi := { dst := some 31, op := Op.binOp BinOp.eql 23 (Operand.tmp 27) (Operand.tmp 30) 23, type := 4, pos := "verify.go:16", after := #[{ on := 3, ground := Ground.data }, { on := 6, ground := Ground.data }, { on := 1, ground := Ground.guard }], guard := some (1, true) }) (v := undef) rfl (by kernel_rfl) (by kernel_rfl) (by kernel_rfl) (fun _ _ _ h => h) (Or.inr ⟨by rfl, rfl⟩) (by assumption) ?_
  simp only [Act.put, List.setIfInBounds_toArray, List.set_cons_zero, List.set_cons_succ]
  refine wpAnyH_take (i := 8) (oi := { dst := some 32, op := Op.pick (Operand.tmp 25) (Operand.tmp 31) (Operand.const (Value.bool false)), type := 4, pos := "verify.go:16", after := #[{ on := 1, ground := Ground.data }, { on := 7, ground := Ground.data }], guard := none }) (v := ?_) rfl (by kernel_rfl) (by kernel_rfl) (by kernel_rfl) (fun _ _ _ h => h) (Or.inl ⟨by rfl, ?_⟩) (by assumption) ?_
  rotate_left
  · intro w hSw
    clear hSw
    go_simp
    all_goals with_reducible rfl
  simp only [Act.put, List.setIfInBounds_toArray, List.set_cons_zero, List.set_cons_succ]
  refine wpAnyH_take (i := 9) (oi := { dst := some 12, op := Op.assign (Operand.tmp 32), type := 4, pos := "verify.go:16", after := #[{ on := 8, ground := Ground.data }, { on := 6, ground := Ground.chain }, { on := 0, ground := Ground.phase }, { on := 1, ground := Ground.phase }, { on := 2, ground := Ground.phase }, { on := 3, ground := Ground.phase }, { on := 4, ground := Ground.phase }, { on := 5, ground := Ground.phase }, { on := 6, ground := Ground.phase }, { on := 7, ground := Ground.phase }, { on := 8, ground := Ground.phase }], guard := none }) (v := ?_) rfl (by kernel_rfl) (by kernel_rfl) (by kernel_rfl) (fun _ _ _ h => h) (Or.inl ⟨by rfl, ?_⟩) (by assumption) ?_
  rotate_left
  · intro w hSw
    clear hSw
    go_simp
    all_goals with_reducible rfl
  simp only [Act.put, List.setIfInBounds_toArray, List.set_cons_zero, List.set_cons_succ]
  refine wpAnyH_done (by kernel_rfl) ?_ _
  refine NoPanic.normal ?_
  have BF := hide (B0b.out.trans (CZ0.out.below w.heap.size B0b.out.size (fun k hk e => e)))
  clear hHeld
  go_wp2_with fail
  go_ret
  exact ⟨rfl, BF.out⟩
set_option maxHeartbeats 4000000 in
set_option maxRecDepth 10000 in
theorem leafv_any (a : Int) (v u : Value) (bs : List UInt8) (i n : Nat) (ps : List (List UInt8)) (rt : List UInt8) (hrt : rt.length = 32) (w : World) (hi : i < 18446744073709551616) (hn : n < 18446744073709551616) (hv : SliceAt w v bs) (hl : bs.length + 1 ≤ 140737488355328) (hu : DgAt w u ps) (hps : ps.length ≤ 90000) (hK : KAt w) :
   Calls Tryd.prog 11 #[.int .i64 a, v, .int .u64 (i : Int), .int .u64 (n : Int), u, .agg (S.v8 rt)] w fun e w' => e = .returned (.bool (S.vLeaf a bs i n ps rt)) ∧ Below w.heap.size w w' := by
  by_cases hin : n ≤ i
  · rw [S.vLeaf_out a bs i n ps rt hin]
    exact leafv_none a v u i n rt w hin
  obtain ⟨R, hR⟩ : ∃ R, R = S.vLeaf a bs i n ps rt := ⟨_, rfl⟩
  rw [← hR]
  rw [S.vLeaf_climb a bs i n ps rt hi] at hR
  have HR := hide hR
  clear hR
  obtain ⟨ao, len, cap, rfl, hlen, _⟩ := hv.form
  obtain ⟨uo, uc, rfl⟩ := hu.form
  have HV := hide hv
  have HU := hide hu
  have HK := hide hK
  have h0 := hK.pos
  have HLn := hide hl
  have HPS := hide hps
  have HRT := hide hrt
  obtain ⟨N, hN⟩ : ∃ N, N = ps.length := ⟨_, rfl⟩
  rw [← hN] at HU ⊢
  clear hv hK hl hlen hu hN hps hrt
  go_enter Tryd.func11, Tryd.ntmps11
  go_wp2_with fail
  generalize hW0 : w.alloc _ = W0
  have B0 : Below w.heap.size w W0 := by rw [← hW0]; exact (Below.refl _ _).alloc (Nat.le_refl _) _
  have s0 : W0.heap.size = w.heap.size + 1 := by rw [← hW0]; simp
  have r0 : W0.heap[w.heap.size]? = some (.cells (S.v8 rt) 23 (0, 0)) := by rw [← hW0]; exact heap_alloc_new _ _
  have BB : Hid (Below w.heap.size w W0) := B0
  have Q0 : Hid (W0.heap[w.heap.size]? = some (.cells (S.v8 rt) 23 (0, 0))) := r0
  clear hW0 B0 s0 r0
  refine (climb_any a _ _ bs i n ps W0 (by omega) hn (HV.out.below BB.out (Nat.le_refl _)) HLn.out (HU.out.below BB.out) HPS.out (HK.out.below BB.out h0)).mono ?_
  rintro e w2 ⟨so, sl, sc, rfl, hts, hb⟩
  have BB2 := hide (BB.out.trans (hb.mono BB.out.size))
  have Q : Hid (w2.heap[w.heap.size]? = some (.cells (S.v8 rt) 23 (0, 0))) := (hb.block _ (block_lt_of_row Q0.out)).trans Q0.out
  have hsz := size_dig rt HRT.out
  clear HU HV hb BB Q0
  cases hc : S.climb a bs i n ps with
  | none =>
    simp only [Option.isSome_none]
    have B0b := BB2
    have hR2 : R = false := by rw [HR.out, hc]
    have HR2 := hide hR2
    clear hR2 HR
    clear hts hc BB2
    go_wp2_with fail
    refine wp_region_noPanic ?_
    refine wp_region_held_drew (S := (fun W => Chg (fun _ => False) w2 W)) follows ((Chg.refl _ _).drew) (fun hHeld => ?_)
    clear hHeld
    have hHeld : Chg (fun _ => False) w2 w2.drew := (Chg.refl _ _).drew
    have CZ0 := hide hHeld
    generalize w2.drew = Z0 at CZ0 hHeld ⊢
    refine wpAnyH_take (i := 0) (oi := { dst := some 24, op := Op.move (Operand.tmp 14), type := 4, pos := "verify.go:16", after := #[], guard := none }) (v := ?_) rfl (by kernel_rfl) (by kernel_rfl) (by kernel_rfl) (fun _ _ _ h => h) (Or.inl ⟨by rfl, ?_⟩) (by assumption) ?_
    rotate_left
    · intro w hSw
      clear hSw
      go_simp
      all_goals with_reducible rfl
    simp only [Act.put, List.setIfInBounds_toArray, List.set_cons_zero, List.set_cons_succ]
    refine wpAnyH_take (i := 1) (oi := { dst := some 25, op := Op.move (Operand.tmp 24), type := 4, pos := "verify.go:16", after := #[{ on := 0, ground := Ground.data }], guard := none }) (v := ?_) rfl (by kernel_rfl) (by kernel_rfl) (by kernel_rfl) (fun _ _ _ h => h) (Or.inl ⟨by rfl, ?_⟩) (by assumption) ?_
    rotate_left
    · intro w hSw
      clear hSw
      go_simp
      all_goals with_reducible rfl
    simp only [Act.put, List.setIfInBounds_toArray, List.set_cons_zero, List.set_cons_succ]
    refine wpAnyH_take (i := 2) (oi := { dst := some 26, op := Op.move (Operand.tmp 13), type := 62, pos := "verify.go:16", after := #[{ on := 1, ground := Ground.guard }], guard := some (1, true) }) (v := undef) rfl (by kernel_rfl) (by kernel_rfl) (by kernel_rfl) (fun _ _ _ h => h) (Or.inr ⟨by rfl, rfl⟩) (by assumption) ?_
    simp only [Act.put, List.setIfInBounds_toArray, List.set_cons_zero, List.set_cons_succ]
    refine wpAnyH_take (i := 3) (oi := { dst := some 27, op := Op.call { callee := Callee.value (Operand.func 34), args := #[Operand.tmp 26], argTypes := #[62] }, type := 23, pos := "verify.go:16", after := #[{ on := 2, ground := Ground.data }, { on := 1, ground := Ground.chain }, { on := 1, ground := Ground.guard }], guard := some (1, true) }) (v := undef) rfl (by kernel_rfl) (by kernel_rfl) (by kernel_rfl) (fun _ _ _ h => h) (Or.inr ⟨by rfl, rfl⟩) (by assumption) ?_
    simp only [Act.put, List.setIfInBounds_toArray, List.set_cons_zero, List.set_cons_succ]
    refine wpAnyH_take (i := 4) (oi := { dst := some 28, op := Op.move (Operand.tmp 0), type := 3, pos := "verify.go:16", after := #[{ on := 1, ground := Ground.guard }], guard := some (1, true) }) (v := undef) rfl (by kernel_rfl) (by kernel_rfl) (by kernel_rfl) (fun _ _ _ h => h) (Or.inr ⟨by rfl, rfl⟩) (by assumption) ?_
    simp only [Act.put, List.setIfInBounds_toArray, List.set_cons_zero, List.set_cons_succ]
    refine wpAnyH_take (i := 5) (oi := { dst := some 29, op := Op.load 23 (Operand.tmp 11), type := 23, pos := "verify.go:16", after := #[{ on := 1, ground := Ground.guard }], guard := some (1, true) }) (v := undef) rfl (by kernel_rfl) (by kernel_rfl) (by kernel_rfl) (fun _ _ _ h => h) (Or.inr ⟨by rfl, rfl⟩) (by assumption) ?_
    simp only [Act.put, List.setIfInBounds_toArray, List.set_cons_zero, List.set_cons_succ]
    refine wpAnyH_take (i := 6) (oi := { dst := some 30, op := Op.call { callee := Callee.value (Operand.func 36), args := #[Operand.tmp 28, Operand.tmp 29], argTypes := #[3, 23] }, type := 23, pos := "verify.go:16", after := #[{ on := 4, ground := Ground.data }, { on := 5, ground := Ground.data }, { on := 3, ground := Ground.chain }, { on := 1, ground := Ground.guard }], guard := some (1, true) }) (v := undef) rfl (by kernel_rfl) (by kernel_rfl) (by kernel_rfl) (fun _ _ _ h => h) (Or.inr ⟨by rfl, rfl⟩) (by assumption) ?_
    simp only [Act.put, List.setIfInBounds_toArray, List.set_cons_zero, List.set_cons_succ]
    refine wpAnyH_take (i := 7) (oi := { dst := some 31, op := Op.binOp BinOp.eql 23 (Operand.tmp 27) (Operand.tmp 30) 23, type := 4, pos := "verify.go:16", after := #[{ on := 3, ground := Ground.data }, { on := 6, ground := Ground.data }, { on := 1, ground := Ground.guard }], guard := some (1, true) }) (v := undef) rfl (by kernel_rfl) (by kernel_rfl) (by kernel_rfl) (fun _ _ _ h => h) (Or.inr ⟨by rfl, rfl⟩) (by assumption) ?_
    simp only [Act.put, List.setIfInBounds_toArray, List.set_cons_zero, List.set_cons_succ]
    refine wpAnyH_take (i := 8) (oi := { dst := some 32, op := Op.pick (Operand.tmp 25) (Operand.tmp 31) (Operand.const (Value.bool false)), type := 4, pos := "verify.go:16", after := #[{ on := 1, ground := Ground.data }, { on := 7, ground := Ground.data }], guard := none }) (v := ?_) rfl (by kernel_rfl) (by kernel_rfl) (by kernel_rfl) (fun _ _ _ h => h) (Or.inl ⟨by rfl, ?_⟩) (by assumption) ?_
    rotate_left
    · intro w hSw
      clear hSw
      go_simp
      all_goals with_reducible rfl
    simp only [Act.put, List.setIfInBounds_toArray, List.set_cons_zero, List.set_cons_succ]
    refine wpAnyH_take (i := 9) (oi := { dst := some 12, op := Op.assign (Operand.tmp 32), type := 4, pos := "verify.go:16", after := #[{ on := 8, ground := Ground.data }, { on := 6, ground := Ground.chain }, { on := 0, ground := Ground.phase }, { on := 1, ground := Ground.phase }, { on := 2, ground := Ground.phase }, { on := 3, ground := Ground.phase }, { on := 4, ground := Ground.phase }, { on := 5, ground := Ground.phase }, { on := 6, ground := Ground.phase }, { on := 7, ground := Ground.phase }, { on := 8, ground := Ground.phase }], guard := none }) (v := ?_) rfl (by kernel_rfl) (by kernel_rfl) (by kernel_rfl) (fun _ _ _ h => h) (Or.inl ⟨by rfl, ?_⟩) (by assumption) ?_
    rotate_left
    · intro w hSw
      clear hSw
      go_simp
      all_goals with_reducible rfl
    simp only [Act.put, List.setIfInBounds_toArray, List.set_cons_zero, List.set_cons_succ]
    refine wpAnyH_done (by kernel_rfl) ?_ _
    refine NoPanic.normal ?_
    have BF := hide (B0b.out.trans (CZ0.out.below w.heap.size B0b.out.size (fun k hk e => e)))
    clear hHeld
    go_wp2_with fail
    go_ret
    exact ⟨by rw [HR2.out]; rfl, BF.out⟩
  | some ts =>
    simp only [Option.isSome_some]
    have hR2 : R = (S.hsh a (S.lastOf ts) == S.cut rt (S.cw a)) := by rw [HR.out, hc]
    have hwy := hts ts hc
    have hlen : 1 ≤ ts.length ∧ ts.length ≤ 100000 := by
      have := S.way_need a (n - 1) i (0 :: bs) ps ts (by rw [S.climb, if_pos (by omega)] at hc; exact hc)
      have := HPS.out
      omega
    have HWY := hide hwy
    have HLE := hide hlen
    obtain ⟨D1, hD1⟩ : ∃ D, D = S.hsh a (S.lastOf ts) := ⟨_, rfl⟩
    obtain ⟨D2, hD2⟩ : ∃ D, D = S.cut rt (S.cw a) := ⟨_, rfl⟩
    have LD1 := hide (show D1.length = 32 by rw [hD1, S.hsh_length])
    have LD2 := hide (show D2.length = 32 by rw [hD2, S.cut_length]; exact HRT.out)
    rw [← hD1, ← hD2] at hR2
    have heq : ∀ w, (Op.equalIn 10000 23 (.agg (S.v8 D1)) (.agg (S.v8 D2))).run Tryd.prog w = .ok R w := fun w => equal_dig D1 D2 LD1.out LD2.out R hR2.symm w
    have ED1 := hide hD1
    have ED2 := hide hD2
    clear hts hc hwy hlen hD1 hD2 hR2 HR
    go_wp2_with fail
    refine wp_region_noPanic ?_
    refine wp_region_held_drew (S := (fun W => Chg (fun _ => False) w2 W)) follows ((Chg.refl _ _).drew) (fun hHeld => ?_)
    clear hHeld
    have hHeld : Chg (fun _ => False) w2 w2.drew := (Chg.refl _ _).drew
    have CZ0 := hide hHeld
    have Q' : Hid (w2.drew.heap[w.heap.size]? = some (.cells (S.v8 rt) 23 (0, 0))) := Q.out
    have HWY' : Hid (WyIs a W0.heap.size w2.drew (.slice so sl sc) ts) := HWY.out.below ((Below.refl _ _).drew)
    generalize w2.drew = Z0 at CZ0 hHeld Q' HWY' ⊢
    refine wpAnyH_take (i := 0) (oi := { dst := some 24, op := Op.move (Operand.tmp 14), type := 4, pos := "verify.go:16", after := #[], guard := none }) (v := ?_) rfl (by kernel_rfl) (by kernel_rfl) (by kernel_rfl) (fun _ _ _ h => h) (Or.inl ⟨by rfl, ?_⟩) (by assumption) ?_
    rotate_left
    · intro w hSw
      clear hSw
      go_simp
      all_goals with_reducible rfl
    simp only [Act.put, List.setIfInBounds_toArray, List.set_cons_zero, List.set_cons_succ]
    refine wpAnyH_take (i := 1) (oi := { dst := some 25, op := Op.move (Operand.tmp 24), type := 4, pos := "verify.go:16", after := #[{ on := 0, ground := Ground.data }], guard := none }) (v := ?_) rfl (by kernel_rfl) (by kernel_rfl) (by kernel_rfl) (fun _ _ _ h => h) (Or.inl ⟨by rfl, ?_⟩) (by assumption) ?_
    rotate_left
    · intro w hSw
      clear hSw
      go_simp
      all_goals with_reducible rfl
    simp only [Act.put, List.setIfInBounds_toArray, List.set_cons_zero, List.set_cons_succ]
    refine wpAnyH_take (i := 2) (oi := { dst := some 26, op := Op.move (Operand.tmp 13), type := 62, pos := "verify.go:16", after := #[{ on := 1, ground := Ground.guard }], guard := some (1, true) }) (v := ?_) rfl (by kernel_rfl) (by kernel_rfl) (by kernel_rfl) (fun _ _ _ h => h) (Or.inl ⟨by rfl, ?_⟩) (by assumption) ?_
    rotate_left
    · intro w hSw
      clear hSw
      go_simp
      all_goals with_reducible rfl
    simp only [Act.put, List.setIfInBounds_toArray, List.set_cons_zero, List.set_cons_succ]
    refine wpAnyH_take (i := 4) (oi := { dst := some 28, op := Op.move (Operand.tmp 0), type := 3, pos := "verify.go:16", after := #[{ on := 1, ground := Ground.guard }], guard := some (1, true) }) (v := ?_) rfl (by kernel_rfl) (by kernel_rfl) (by kernel_rfl) (fun _ _ _ h => h) (Or.inl ⟨by rfl, ?_⟩) (by assumption) ?_
    rotate_left
    · intro w hSw
      clear hSw
      go_simp
      all_goals with_reducible rfl
    simp only [Act.put, List.setIfInBounds_toArray, List.set_cons_zero, List.set_cons_succ]
    refine wpAnyH_take (i := 5) (oi := { dst := some 29, op := Op.load 23 (Operand.tmp 11), type := 23, pos := "verify.go:16", after := #[{ on := 1, ground := Ground.guard }], guard := some (1, true) }) (v := .agg (S.v8l rt).toArray) rfl (by kernel_rfl) (by kernel_rfl) (by kernel_rfl) (fun _ _ _ h => h) (yieldsIf_load_mid (by rfl) _ _ rfl w.heap.size 0 rfl (S.v8l rt) _ (fun _ hSw => rangeAt_row (hSw.row Q.out (fun e => e))) Tryd.underlying23 rfl hsz) (by assumption) ?_
    simp only [Act.put, List.setIfInBounds_toArray, List.set_cons_zero, List.set_cons_succ]
    refine wpAnyH_ready (rs := [3]) (by kernel_rfl) (by simp) ?_
    refine AllReadyH.cons (o := { dst := some 27, op := Op.call { callee := Callee.value (Operand.func 34), args := #[Operand.tmp 26], argTypes := #[62] }, type := 23, pos := "verify.go:16", after := #[{ on := 2, ground := Ground.data }, { on := 1, ground := Ground.chain }, { on := 1, ground := Ground.guard }], guard := some (1, true) }) rfl (fun K hK => ?_) AllReadyH.nil
    go_simp
    refine (top_any a W0.heap.size _ ts Z0 HWY'.out HLE.out.1 HLE.out.2).mono ?_
    rintro e Z1 ⟨rfl, hb2⟩
    rw [← ED1.out]
    replace Q' : Hid (Z1.heap[w.heap.size]? = some (.cells (S.v8 rt) 23 (0, 0))) := (hb2.block _ (block_lt_of_row Q'.out)).trans Q'.out
    replace HWY' : Hid (WyIs a W0.heap.size Z1 (.slice so sl sc) ts) := HWY'.out.below hb2
    have CZ1 : Hid (Chg (fun _ => False) w2 Z1) := CZ0.out.then hb2
    clear hb2 CZ0
    clear hHeld
    refine hK.out _ _ CZ1.out (fun hHeld => ?_)
    clear hK K
    try simp only [Act.put, List.setIfInBounds_toArray, List.set_cons_zero, List.set_cons_succ]
    refine wpAnyH_ready (rs := [6]) (by kernel_rfl) (by simp) ?_
    refine AllReadyH.cons (o := { dst := some 30, op := Op.call { callee := Callee.value (Operand.func 36), args := #[Operand.tmp 28, Operand.tmp 29], argTypes := #[3, 23] }, type := 23, pos := "verify.go:16", after := #[{ on := 4, ground := Ground.data }, { on := 5, ground := Ground.data }, { on := 3, ground := Ground.chain }, { on := 1, ground := Ground.guard }], guard := some (1, true) }) rfl (fun K hK => ?_) AllReadyH.nil
    go_simp
    refine (vcut_any a rt HRT.out Z1).mono ?_
    rintro e Z2 ⟨rfl, hb2⟩
    rw [← ED2.out]
    replace Q' : Hid (Z2.heap[w.heap.size]? = some (.cells (S.v8 rt) 23 (0, 0))) := (hb2.block _ (block_lt_of_row Q'.out)).trans Q'.out
    replace HWY' : Hid (WyIs a W0.heap.size Z2 (.slice so sl sc) ts) := HWY'.out.below hb2
    have CZ2 : Hid (Chg (fun _ => False) w2 Z2) := CZ1.out.then hb2
    clear hb2 CZ1
    clear hHeld
    refine hK.out _ _ CZ2.out (fun hHeld => ?_)
    clear hK K
    try simp only [Act.put, List.setIfInBounds_toArray, List.set_cons_zero, List.set_cons_succ]
    refine wpAnyH_take (i := 7) (oi := { dst := some 31, op := Op.binOp BinOp.eql 23 (Operand.tmp 27) (Operand.tmp 30) 23, type := 4, pos := "verify.go:16", after := #[{ on := 3, ground := Ground.data }, { on := 6, ground := Ground.data }, { on := 1, ground := Ground.guard }], guard := some (1, true) }) (v := ?_) rfl (by kernel_rfl) (by kernel_rfl) (by kernel_rfl) (fun _ _ _ h => h) (Or.inl ⟨by rfl, ?_⟩) (by assumption) ?_
    rotate_left
    · intro w hSw
      clear hSw
      go_simp
      all_goals with_reducible rfl
    simp only [Act.put, List.setIfInBounds_toArray, List.set_cons_zero, List.set_cons_succ]
    refine wpAnyH_take (i := 8) (oi := { dst := some 32, op := Op.pick (Operand.tmp 25) (Operand.tmp 31) (Operand.const (Value.bool false)), type := 4, pos := "verify.go:16", after := #[{ on := 1, ground := Ground.data }, { on := 7, ground := Ground.data }], guard := none }) (v := ?_) rfl (by kernel_rfl) (by kernel_rfl) (by kernel_rfl) (fun _ _ _ h => h) (Or.inl ⟨by rfl, ?_⟩) (by assumption) ?_
    rotate_left
    · intro w hSw
      clear hSw
      go_simp
      all_goals with_reducible rfl
    simp only [Act.put, List.setIfInBounds_toArray, List.set_cons_zero, List.set_cons_succ]
    refine wpAnyH_take (i := 9) (oi := { dst := some 12, op := Op.assign (Operand.tmp 32), type := 4, pos := "verify.go:16", after := #[{ on := 8, ground := Ground.data }, { on := 6, ground := Ground.chain }, { on := 0, ground := Ground.phase }, { on := 1, ground := Ground.phase }, { on := 2, ground := Ground.phase }, { on := 3, ground := Ground.phase }, { on := 4, ground := Ground.phase }, { on := 5, ground := Ground.phase }, { on := 6, ground := Ground.phase }, { on := 7, ground := Ground.phase }, { on := 8, ground := Ground.phase }], guard := none }) (v := ?_) rfl (by kernel_rfl) (by kernel_rfl) (by kernel_rfl) (fun _ _ _ h => h) (Or.inl ⟨by rfl, ?_⟩) (by assumption) ?_
    rotate_left
    · intro w hSw
      clear hSw
      go_simp
      all_goals with_reducible rfl
    simp only [Act.put, List.setIfInBounds_toArray, List.set_cons_zero, List.set_cons_succ]
    refine wpAnyH_done (by kernel_rfl) ?_ _
    refine NoPanic.normal ?_
    have BF := hide (BB2.out.trans (CZ2.out.below w.heap.size BB2.out.size (fun k hk e => e)))
    clear hHeld heq
    go_wp2_with fail
    go_ret
    exact ⟨rfl, BF.out⟩
end Go.Proofs.YtlbggkmblkhjoaaDoor
