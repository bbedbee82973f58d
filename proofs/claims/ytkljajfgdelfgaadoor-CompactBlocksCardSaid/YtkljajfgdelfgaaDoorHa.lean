/- CompactBlocks. -/
import Derived.Test.YtkljajfgdelfgaaDoorGb
import Derived.Laws.Bits64b
namespace Go.Proofs.YtkljajfgdelfgaaDoor
open Go.RowKit

theorem and_pow (i : Nat) : 2 ^ i &&& (2 ^ i - 1) = 0 := by
  rw [Nat.and_two_pow_sub_one_eq_mod, Nat.mod_self]
set_option maxHeartbeats 20000000 in
set_option maxRecDepth 10000 in
theorem compactBlocks_walk (b e : Nat) (w : World) (hb : b < 18446744073709551616) (he : e < 18446744073709551616) (hK : KAt w) :
   Calls Tryd.prog 7 #[.int .u64 (b : Int), .int .u64 (e : Int)] w fun r w' => r = .returned (.bool true) ∧ Below w.heap.size w w' := by
  have HK := hide hK
  have h0 := hK.pos
  clear hK
  go_enter Tryd.func7, Tryd.ntmps7
  go_wp2_with fail
  refine (blocks_any b e w hb he).mono ?_
  rintro r W0 ⟨⟨v, rfl, hv⟩, hb0⟩
  have B0 := hide hb0
  obtain ⟨vo, vc, rfl⟩ := hv.form
  obtain ⟨ss, hss⟩ : ∃ ss, ss = C.blocks b e := ⟨_, rfl⟩
  rw [← hss] at hv ⊢
  have h64 : ss.length ≤ 64 := by rw [hss]; exact C.blocks_len b e
  obtain ⟨N, hN⟩ : ∃ N, N = ss.length := ⟨_, rfl⟩
  have HV := hide hv
  rw [← hN] at HV h64 ⊢
  have HN := hide hN
  have HS := hide hss
  clear hb0 hv hss hN
  by_cases hc : e ≤ b ∨ 4294967296 < e
  · have hN0 : N = 0 := by rw [HN.out, HS.out, C.blocks_none b e (by omega)]; rfl
    subst hN0
    by_cases h1 : e ≤ b
    · have q1 : (b : Int) ≥ (e : Int) := by omega
      have q1' : (e : Int) ≤ (b : Int) := by omega
      clear hc
      go_wp2_with fail
      refine (known10_any W0 (HK.out.below B0.out h0)).mono ?_
      rintro r W1 ⟨rfl, hb1⟩
      have BF := hide (B0.out.trans (hb1.mono B0.out.size))
      clear hb1
      go_wp2_with fail
      go_ret
      exact ⟨rfl, BF.out⟩
    · have q1 : ¬ (b : Int) ≥ (e : Int) := by omega
      have q1' : ¬ (e : Int) ≤ (b : Int) := by omega
      have q2 : (e : Int) > 4294967296 := by omega
      have q2' : (4294967296 : Int) < (e : Int) := by omega
      clear hc
      go_wp2_with fail
      refine (known10_any W0 (HK.out.below B0.out h0)).mono ?_
      rintro r W1 ⟨rfl, hb1⟩
      have BF := hide (B0.out.trans (hb1.mono B0.out.size))
      clear hb1
      go_wp2_with fail
      go_ret
      exact ⟨rfl, BF.out⟩
  · have q1 : ¬ (b : Int) ≥ (e : Int) := by omega
    have q1' : ¬ (e : Int) ≤ (b : Int) := by omega
    have q2 : ¬ (e : Int) > 4294967296 := by omega
    have q2' : ¬ (4294967296 : Int) < (e : Int) := by omega
    have HT := hide (show C.Tiles b e ss by rw [HS.out]; exact C.blocks_tiles _ b e rfl (by omega) (by omega))
    go_wp2_with fail
    go_loopg [6, 7] N (fun gk s6 s7 wr => ∃ (k p : Nat), k + gk = N ∧ s7 = .int .i64 (k : Int) ∧ s6 = .int .u64 (p : Int) ∧ Hid (C.Tiles p e (ss.drop k)) ∧ Hid (Below w.heap.size w wr) ∧ Hid (Below W0.heap.size W0 wr))
    case atStart => exact ⟨0, b, by omega, rfl, rfl, HT, B0, Below.refl _ _⟩
    case round =>
      clear HT
      obtain ⟨k, p, hk, rfl, rfl, HT, BR, BX⟩ := hrel
      cases gk with
      | zero =>
        have hd : ss.drop k = [] := List.drop_eq_nil_of_le (by rw [← HN.out]; omega)
        have hpe : p = e := by have := HT.out; rw [hd] at this; exact this
        subst hpe
        have qk : ¬ (k : Int) < (N : Int) := by omega
        have q64 : (N : Int) ≤ 64 := by omega
        clear hd hk HT
        go_wp2_with fail
        refine (known10_any wr (HK.out.below BR.out h0)).mono ?_
        rintro r W1 ⟨rfl, hb1⟩
        have BF := hide (BR.out.trans (hb1.mono BR.out.size))
        clear hb1
        go_wp2_with fail
        go_ret
        exact ⟨rfl, BF.out⟩
      | succ gO =>
        have qk : (k : Int) < (N : Int) := by omega
        have qk0 : (0 : Int) ≤ (k : Int) := by omega
        have qk1 : IntKind.i64.wrap ((k : Int) + 1) = (k : Int) + 1 := by rw [IntKind.wrap_i64]; omega
        have hks : k < ss.length := by rw [← HN.out]; omega
        obtain ⟨t, ht⟩ : ∃ t, ss[k]? = some t := ⟨_, List.getElem?_eq_getElem hks⟩
        have hsd : ss.drop k = t :: ss.drop (k + 1) := by rw [List.drop_eq_getElem_cons hks]; congr 1; rw [List.getElem?_eq_getElem hks] at ht; exact Option.some.inj ht
        obtain ⟨gn, cn, en, hgn, -, hcn⟩ := (HV.out).cell k t ht
        simp only [Value.slice.injEq] at en
        obtain ⟨rfl, -, rfl⟩ := en
        have hT := HT.out
        rw [hsd] at hT
        have hpt : p + t ≤ e := C.tiles_le _ _ _ hT.2.2
        obtain ⟨i, hi⟩ := hT.1
        have ht0 : 0 < t := by rw [hi]; exact C.two_pos i
        have HTN := hide hT.2.2
        have hmod : p % t = 0 := Nat.mod_eq_zero_of_dvd hT.2.1
        have hand : t &&& (t - 1) = 0 := by rw [hi]; exact and_pow i
        have HC := hide ((BX.out.cell (p := ⟨gn, k, none⟩) hgn).trans hcn)
        have LC := hide (Nat.lt_of_lt_of_le hgn BX.out.size)
        have c0 := HC.out
        have GN := hide hgn
        have GC := hide hcn
        have qz : ((t : Int) == 0) = false := by simp; omega
        have qz' : ¬ (t : Int) = 0 := by omega
        have qz0 : ¬ t = 0 := by omega
        have qw : IntKind.u64.wrap ((t : Int) - 1) = ((t - 1 : Nat) : Int) := by rw [IntKind.wrap_u64]; omega
        have qm : (p : Int) % (t : Int) = 0 := by exact_mod_cast hmod
        have qa : IntKind.u64.wrap ((p : Int) + (t : Int)) = ((p + t : Nat) : Int) := by rw [IntKind.wrap_u64]; omega
        obtain ⟨t1, ht1⟩ : ∃ n, n = t - 1 := ⟨_, rfl⟩
        rw [← ht1] at hand qw
        have qb : bits .and .u64 (t : Int) (t1 : Int) = 0 := by rw [bits_and_u64_nat t t1 (by omega) (by omega), hand]; rfl
        have qt : (p : Int).tmod (t : Int) = 0 := by rw [Int.tmod_eq_emod_of_nonneg (by omega)]; exact qm
        clear hsd ht hks hgn hcn hT HT hi hmod ht1 hand
        go_wp2_with fail
        refine wp_region_noPanic ?_
        refine wp_region_held_drew (S := (fun W => Chg (fun _ => False) wr W)) follows ((Chg.refl _ _).drew) (fun hHeld => ?_)
        clear hHeld
        have hHeld : Chg (fun _ => False) wr wr.drew := (Chg.refl _ _).drew
        have CZ0 := hide hHeld
        generalize wr.drew = Z0 at CZ0 hHeld ⊢
        refine wpAnyH_take (i := 0) (oi := { dst := some 31, op := Op.move (Operand.tmp 5), type := 38, pos := "law.go:108", after := #[], guard := none }) (v := ?_) rfl (by kernel_rfl) (by kernel_rfl) (by kernel_rfl) (fun _ _ _ h => h) (Or.inl ⟨by rfl, ?_⟩) (by assumption) ?_
        rotate_left
        · intro w hSw
          clear hSw
          go_simp
          all_goals with_reducible rfl
        simp only [Act.put, List.setIfInBounds_toArray, List.set_cons_zero, List.set_cons_succ]
        refine wpAnyH_take (i := 1) (oi := { dst := some 32, op := Op.move (Operand.tmp 7), type := 3, pos := "law.go:108", after := #[], guard := none }) (v := ?_) rfl (by kernel_rfl) (by kernel_rfl) (by kernel_rfl) (fun _ _ _ h => h) (Or.inl ⟨by rfl, ?_⟩) (by assumption) ?_
        rotate_left
        · intro w hSw
          clear hSw
          go_simp
          all_goals with_reducible rfl
        simp only [Act.put, List.setIfInBounds_toArray, List.set_cons_zero, List.set_cons_succ]
        refine wpAnyH_take (i := 2) (oi := { dst := some 33, op := Op.indexAddr 38 (Operand.tmp 31) (Operand.tmp 32), type := 0, pos := "law.go:108", after := #[{ on := 0, ground := Ground.data }, { on := 1, ground := Ground.data }], guard := none }) (v := ?_) rfl (by kernel_rfl) (by kernel_rfl) (by kernel_rfl) (fun _ _ _ h => h) (Or.inl ⟨by rfl, ?_⟩) (by assumption) ?_
        rotate_left
        · intro w hSw
          clear hSw
          go_simp
          all_goals with_reducible rfl
        simp only [Act.put, List.setIfInBounds_toArray, List.set_cons_zero, List.set_cons_succ]
        refine wpAnyH_take (i := 3) (oi := { dst := some 34, op := Op.load 27 (Operand.tmp 33), type := 27, pos := "law.go:108", after := #[{ on := 2, ground := Ground.data }], guard := none }) (v := ?_) rfl (by kernel_rfl) (by kernel_rfl) (by kernel_rfl) (fun _ _ _ h => h) (Or.inl ⟨by rfl, ?_⟩) (by assumption) ?_
        rotate_left
        · intro w hSw
          have q := (World.cell?_of_block (a := ⟨gn, k, none⟩) (hSw.block gn LC.out (fun e => e))).trans HC.out
          clear hSw
          go_simp
          all_goals with_reducible rfl
        simp only [Act.put, List.setIfInBounds_toArray, List.set_cons_zero, List.set_cons_succ]
        refine wpAnyH_take (i := 4) (oi := { dst := some 35, op := Op.binOp BinOp.eql 27 (Operand.tmp 34) (Operand.const (Value.int IntKind.u64 0)) 27, type := 4, pos := "law.go:108", after := #[{ on := 3, ground := Ground.data }], guard := none }) (v := ?_) rfl (by kernel_rfl) (by kernel_rfl) (by kernel_rfl) (fun _ _ _ h => h) (Or.inl ⟨by rfl, ?_⟩) (by assumption) ?_
        rotate_left
        · intro w hSw
          clear hSw
          go_simp
          all_goals with_reducible rfl
        simp only [Act.put, List.setIfInBounds_toArray, List.set_cons_zero, List.set_cons_succ]
        refine wpAnyH_take (i := 5) (oi := { dst := some 36, op := Op.move (Operand.tmp 35), type := 4, pos := "law.go:108", after := #[{ on := 4, ground := Ground.data }], guard := none }) (v := ?_) rfl (by kernel_rfl) (by kernel_rfl) (by kernel_rfl) (fun _ _ _ h => h) (Or.inl ⟨by rfl, ?_⟩) (by assumption) ?_
        rotate_left
        · intro w hSw
          clear hSw
          go_simp
          all_goals with_reducible rfl
        simp only [Act.put, List.setIfInBounds_toArray, List.set_cons_zero, List.set_cons_succ]
        refine wpAnyH_take (i := 6) (oi := { dst := some 37, op := Op.move (Operand.tmp 5), type := 38, pos := "law.go:108", after := #[{ on := 5, ground := Ground.guard }], guard := some (5, false) }) (v := ?_) rfl (by kernel_rfl) (by kernel_rfl) (by kernel_rfl) (fun _ _ _ h => h) (Or.inl ⟨by rfl, ?_⟩) (by assumption) ?_
        rotate_left
        · intro w hSw
          clear hSw
          go_simp
          all_goals with_reducible rfl
        simp only [Act.put, List.setIfInBounds_toArray, List.set_cons_zero, List.set_cons_succ]
        refine wpAnyH_take (i := 7) (oi := { dst := some 38, op := Op.move (Operand.tmp 7), type := 3, pos := "law.go:108", after := #[{ on := 5, ground := Ground.guard }], guard := some (5, false) }) (v := ?_) rfl (by kernel_rfl) (by kernel_rfl) (by kernel_rfl) (fun _ _ _ h => h) (Or.inl ⟨by rfl, ?_⟩) (by assumption) ?_
        rotate_left
        · intro w hSw
          clear hSw
          go_simp
          all_goals with_reducible rfl
        simp only [Act.put, List.setIfInBounds_toArray, List.set_cons_zero, List.set_cons_succ]
        refine wpAnyH_take (i := 8) (oi := { dst := some 39, op := Op.indexAddr 38 (Operand.tmp 37) (Operand.tmp 38), type := 0, pos := "law.go:108", after := #[{ on := 6, ground := Ground.data }, { on := 7, ground := Ground.data }, { on := 5, ground := Ground.guard }], guard := some (5, false) }) (v := ?_) rfl (by kernel_rfl) (by kernel_rfl) (by kernel_rfl) (fun _ _ _ h => h) (Or.inl ⟨by rfl, ?_⟩) (by assumption) ?_
        rotate_left
        · intro w hSw
          clear hSw
          go_simp
          all_goals with_reducible rfl
        simp only [Act.put, List.setIfInBounds_toArray, List.set_cons_zero, List.set_cons_succ]
        refine wpAnyH_take (i := 9) (oi := { dst := some 40, op := Op.load 27 (Operand.tmp 39), type := 27, pos := "law.go:108", after := #[{ on := 8, ground := Ground.data }, { on := 5, ground := Ground.guard }], guard := some (5, false) }) (v := ?_) rfl (by kernel_rfl) (by kernel_rfl) (by kernel_rfl) (fun _ _ _ h => h) (Or.inl ⟨by rfl, ?_⟩) (by assumption) ?_
        rotate_left
        · intro w hSw
          have q := (World.cell?_of_block (a := ⟨gn, k, none⟩) (hSw.block gn LC.out (fun e => e))).trans HC.out
          clear hSw
          go_simp
          all_goals with_reducible rfl
        simp only [Act.put, List.setIfInBounds_toArray, List.set_cons_zero, List.set_cons_succ]
        refine wpAnyH_take (i := 10) (oi := { dst := some 41, op := Op.move (Operand.tmp 5), type := 38, pos := "law.go:108", after := #[{ on := 5, ground := Ground.guard }], guard := some (5, false) }) (v := ?_) rfl (by kernel_rfl) (by kernel_rfl) (by kernel_rfl) (fun _ _ _ h => h) (Or.inl ⟨by rfl, ?_⟩) (by assumption) ?_
        rotate_left
        · intro w hSw
          clear hSw
          go_simp
          all_goals with_reducible rfl
        simp only [Act.put, List.setIfInBounds_toArray, List.set_cons_zero, List.set_cons_succ]
        refine wpAnyH_take (i := 11) (oi := { dst := some 42, op := Op.move (Operand.tmp 7), type := 3, pos := "law.go:108", after := #[{ on := 5, ground := Ground.guard }], guard := some (5, false) }) (v := ?_) rfl (by kernel_rfl) (by kernel_rfl) (by kernel_rfl) (fun _ _ _ h => h) (Or.inl ⟨by rfl, ?_⟩) (by assumption) ?_
        rotate_left
        · intro w hSw
          clear hSw
          go_simp
          all_goals with_reducible rfl
        simp only [Act.put, List.setIfInBounds_toArray, List.set_cons_zero, List.set_cons_succ]
        refine wpAnyH_take (i := 12) (oi := { dst := some 43, op := Op.indexAddr 38 (Operand.tmp 41) (Operand.tmp 42), type := 0, pos := "law.go:108", after := #[{ on := 10, ground := Ground.data }, { on := 11, ground := Ground.data }, { on := 5, ground := Ground.guard }], guard := some (5, false) }) (v := ?_) rfl (by kernel_rfl) (by kernel_rfl) (by kernel_rfl) (fun _ _ _ h => h) (Or.inl ⟨by rfl, ?_⟩) (by assumption) ?_
        rotate_left
        · intro w hSw
          clear hSw
          go_simp
          all_goals with_reducible rfl
        simp only [Act.put, List.setIfInBounds_toArray, List.set_cons_zero, List.set_cons_succ]
        refine wpAnyH_take (i := 13) (oi := { dst := some 44, op := Op.load 27 (Operand.tmp 43), type := 27, pos := "law.go:108", after := #[{ on := 12, ground := Ground.data }, { on := 5, ground := Ground.guard }], guard := some (5, false) }) (v := ?_) rfl (by kernel_rfl) (by kernel_rfl) (by kernel_rfl) (fun _ _ _ h => h) (Or.inl ⟨by rfl, ?_⟩) (by assumption) ?_
        rotate_left
        · intro w hSw
          have q := (World.cell?_of_block (a := ⟨gn, k, none⟩) (hSw.block gn LC.out (fun e => e))).trans HC.out
          clear hSw
          go_simp
          all_goals with_reducible rfl
        simp only [Act.put, List.setIfInBounds_toArray, List.set_cons_zero, List.set_cons_succ]
        refine wpAnyH_take (i := 14) (oi := { dst := some 45, op := Op.binOp BinOp.sub 27 (Operand.tmp 44) (Operand.const (Value.int IntKind.u64 1)) 27, type := 27, pos := "law.go:108", after := #[{ on := 13, ground := Ground.data }, { on := 5, ground := Ground.guard }], guard := some (5, false) }) (v := ?_) rfl (by kernel_rfl) (by kernel_rfl) (by kernel_rfl) (fun _ _ _ h => h) (Or.inl ⟨by rfl, ?_⟩) (by assumption) ?_
        rotate_left
        · intro w hSw
          clear hSw
          go_simp
          all_goals with_reducible rfl
        simp only [Act.put, List.setIfInBounds_toArray, List.set_cons_zero, List.set_cons_succ]
        refine wpAnyH_take (i := 15) (oi := { dst := some 46, op := Op.binOp BinOp.and 27 (Operand.tmp 40) (Operand.tmp 45) 27, type := 27, pos := "law.go:108", after := #[{ on := 9, ground := Ground.data }, { on := 14, ground := Ground.data }, { on := 5, ground := Ground.guard }], guard := some (5, false) }) (v := ?_) rfl (by kernel_rfl) (by kernel_rfl) (by kernel_rfl) (fun _ _ _ h => h) (Or.inl ⟨by rfl, ?_⟩) (by assumption) ?_
        rotate_left
        · intro w hSw
          clear hSw
          go_simp
          all_goals with_reducible rfl
        simp only [Act.put, List.setIfInBounds_toArray, List.set_cons_zero, List.set_cons_succ]
        refine wpAnyH_take (i := 16) (oi := { dst := some 47, op := Op.binOp BinOp.neq 27 (Operand.tmp 46) (Operand.const (Value.int IntKind.u64 0)) 27, type := 4, pos := "law.go:108", after := #[{ on := 15, ground := Ground.data }, { on := 5, ground := Ground.guard }], guard := some (5, false) }) (v := ?_) rfl (by kernel_rfl) (by kernel_rfl) (by kernel_rfl) (fun _ _ _ h => h) (Or.inl ⟨by rfl, ?_⟩) (by assumption) ?_
        rotate_left
        · intro w hSw
          clear hSw
          go_simp
          all_goals with_reducible rfl
        simp only [Act.put, List.setIfInBounds_toArray, List.set_cons_zero, List.set_cons_succ]
        refine wpAnyH_take (i := 17) (oi := { dst := some 48, op := Op.pick (Operand.tmp 36) (Operand.const (Value.bool true)) (Operand.tmp 47), type := 4, pos := "law.go:108", after := #[{ on := 5, ground := Ground.data }, { on := 16, ground := Ground.data }], guard := none }) (v := ?_) rfl (by kernel_rfl) (by kernel_rfl) (by kernel_rfl) (fun _ _ _ h => h) (Or.inl ⟨by rfl, ?_⟩) (by assumption) ?_
        rotate_left
        · intro w hSw
          clear hSw
          go_simp
          all_goals with_reducible rfl
        simp only [Act.put, List.setIfInBounds_toArray, List.set_cons_zero, List.set_cons_succ]
        refine wpAnyH_take (i := 18) (oi := { dst := some 49, op := Op.move (Operand.tmp 48), type := 4, pos := "law.go:108", after := #[{ on := 17, ground := Ground.data }, { on := 5, ground := Ground.chain }], guard := none }) (v := ?_) rfl (by kernel_rfl) (by kernel_rfl) (by kernel_rfl) (fun _ _ _ h => h) (Or.inl ⟨by rfl, ?_⟩) (by assumption) ?_
        rotate_left
        · intro w hSw
          clear hSw
          go_simp
          all_goals with_reducible rfl
        simp only [Act.put, List.setIfInBounds_toArray, List.set_cons_zero, List.set_cons_succ]
        refine wpAnyH_take (i := 19) (oi := { dst := some 50, op := Op.move (Operand.tmp 6), type := 27, pos := "law.go:108", after := #[{ on := 18, ground := Ground.guard }], guard := some (18, false) }) (v := ?_) rfl (by kernel_rfl) (by kernel_rfl) (by kernel_rfl) (fun _ _ _ h => h) (Or.inl ⟨by rfl, ?_⟩) (by assumption) ?_
        rotate_left
        · intro w hSw
          clear hSw
          go_simp
          all_goals with_reducible rfl
        simp only [Act.put, List.setIfInBounds_toArray, List.set_cons_zero, List.set_cons_succ]
        refine wpAnyH_take (i := 20) (oi := { dst := some 51, op := Op.move (Operand.tmp 5), type := 38, pos := "law.go:108", after := #[{ on := 18, ground := Ground.guard }], guard := some (18, false) }) (v := ?_) rfl (by kernel_rfl) (by kernel_rfl) (by kernel_rfl) (fun _ _ _ h => h) (Or.inl ⟨by rfl, ?_⟩) (by assumption) ?_
        rotate_left
        · intro w hSw
          clear hSw
          go_simp
          all_goals with_reducible rfl
        simp only [Act.put, List.setIfInBounds_toArray, List.set_cons_zero, List.set_cons_succ]
        refine wpAnyH_take (i := 21) (oi := { dst := some 52, op := Op.move (Operand.tmp 7), type := 3, pos := "law.go:108", after := #[{ on := 18, ground := Ground.guard }], guard := some (18, false) }) (v := ?_) rfl (by kernel_rfl) (by kernel_rfl) (by kernel_rfl) (fun _ _ _ h => h) (Or.inl ⟨by rfl, ?_⟩) (by assumption) ?_
        rotate_left
        · intro w hSw
          clear hSw
          go_simp
          all_goals with_reducible rfl
        simp only [Act.put, List.setIfInBounds_toArray, List.set_cons_zero, List.set_cons_succ]
        refine wpAnyH_take (i := 22) (oi := { dst := some 53, op := Op.indexAddr 38 (Operand.tmp 51) (Operand.tmp 52), type := 0, pos := "law.go:108", after := #[{ on := 20, ground := Ground.data }, { on := 21, ground := Ground.data }, { on := 18, ground := Ground.guard }], guard := some (18, false) }) (v := ?_) rfl (by kernel_rfl) (by kernel_rfl) (by kernel_rfl) (fun _ _ _ h => h) (Or.inl ⟨by rfl, ?_⟩) (by assumption) ?_
        rotate_left
        · intro w hSw
          clear hSw
          go_simp
          all_goals with_reducible rfl
        simp only [Act.put, List.setIfInBounds_toArray, List.set_cons_zero, List.set_cons_succ]
        refine wpAnyH_take (i := 23) (oi := { dst := some 54, op := Op.load 27 (Operand.tmp 53), type := 27, pos := "law.go:108", after := #[{ on := 22, ground := Ground.data }, { on := 18, ground := Ground.guard }], guard := some (18, false) }) (v := ?_) rfl (by kernel_rfl) (by kernel_rfl) (by kernel_rfl) (fun _ _ _ h => h) (Or.inl ⟨by rfl, ?_⟩) (by assumption) ?_
        rotate_left
        · intro w hSw
          have q := (World.cell?_of_block (a := ⟨gn, k, none⟩) (hSw.block gn LC.out (fun e => e))).trans HC.out
          clear hSw
          go_simp
          all_goals with_reducible rfl
        simp only [Act.put, List.setIfInBounds_toArray, List.set_cons_zero, List.set_cons_succ]
        refine wpAnyH_take (i := 24) (oi := { dst := some 55, op := Op.binOp BinOp.rem 27 (Operand.tmp 50) (Operand.tmp 54) 27, type := 27, pos := "law.go:108", after := #[{ on := 19, ground := Ground.data }, { on := 23, ground := Ground.data }, { on := 18, ground := Ground.guard }], guard := some (18, false) }) (v := ?_) rfl (by kernel_rfl) (by kernel_rfl) (by kernel_rfl) (fun _ _ _ h => h) (Or.inl ⟨by rfl, ?_⟩) (by assumption) ?_
        rotate_left
        · intro w hSw
          clear hSw
          go_simp
          all_goals with_reducible rfl
        simp only [Act.put, List.setIfInBounds_toArray, List.set_cons_zero, List.set_cons_succ]
        refine wpAnyH_take (i := 25) (oi := { dst := some 56, op := Op.binOp BinOp.neq 27 (Operand.tmp 55) (Operand.const (Value.int IntKind.u64 0)) 27, type := 4, pos := "law.go:108", after := #[{ on := 24, ground := Ground.data }, { on := 18, ground := Ground.guard }], guard := some (18, false) }) (v := ?_) rfl (by kernel_rfl) (by kernel_rfl) (by kernel_rfl) (fun _ _ _ h => h) (Or.inl ⟨by rfl, ?_⟩) (by assumption) ?_
        rotate_left
        · intro w hSw
          clear hSw
          go_simp
          all_goals with_reducible rfl
        simp only [Act.put, List.setIfInBounds_toArray, List.set_cons_zero, List.set_cons_succ]
        refine wpAnyH_take (i := 26) (oi := { dst := some 57, op := Op.pick (Operand.tmp 49) (Operand.const (Value.bool true)) (Operand.tmp 56), type := 4, pos := "law.go:108", after := #[{ on := 18, ground := Ground.data }, { on := 25, ground := Ground.data }], guard := none }) (v := ?_) rfl (by kernel_rfl) (by kernel_rfl) (by kernel_rfl) (fun _ _ _ h => h) (Or.inl ⟨by rfl, ?_⟩) (by assumption) ?_
        rotate_left
        · intro w hSw
          clear hSw
          go_simp
          all_goals with_reducible rfl
        simp only [Act.put, List.setIfInBounds_toArray, List.set_cons_zero, List.set_cons_succ]
        refine wpAnyH_done (by kernel_rfl) ?_ _
        refine NoPanic.normal ?_
        clear hHeld
        have BF := hide (BR.out.trans (CZ0.out.below w.heap.size BR.out.size (fun k hk e => by omega)))
        have BXF := hide (BX.out.trans (CZ0.out.below W0.heap.size BX.out.size (fun _ _ e => e)))
        have c1 := (BXF.out.cell (p := ⟨gn, k, none⟩) (show gn < W0.heap.size from GN.out)).trans GC.out
        go_wp2_with fail
        go_roundg gO
        case measure => omega
        case rel => exact ⟨k + 1, p + t, by omega, by first | rfl | simp, rfl, HTN, BF, BXF⟩
end Go.Proofs.YtkljajfgdelfgaaDoor
