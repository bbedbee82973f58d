/- The document's blocks, and which ranges are right. -/
import Derived.Test.YtkljajfgdelfgaaDoorGa
import Derived.Test.YtkljajfgdelfgaaDoorNc
namespace Go.Proofs.YtkljajfgdelfgaaDoor
open Go.RowKit

theorem C.gk_yes (p e f z : Nat) (h1 : p % (2 * z) = 0) (h2 : p + 2 * z ≤ e) : C.gk p e (f + 1) z = C.gk p e f (2 * z) := by rw [C.gk, if_pos ⟨h1, h2⟩]
theorem C.gk_no (p e f z : Nat) (h : ¬ (p % (2 * z) = 0 ∧ p + 2 * z ≤ e)) : C.gk p e f z = z := by
  cases f with
  | zero => rfl
  | succ f => rw [C.gk, if_neg h]
set_option maxHeartbeats 8000000 in
set_option maxRecDepth 10000 in
theorem rblocks_any (b e : Nat) (w : World) (hb : b < 18446744073709551616) (he : e < 18446744073709551616) :
   Calls Tryd.prog 24 #[.int .u64 (b : Int), .int .u64 (e : Int)] w fun r w' => (∃ v, r = .returned v ∧ NRow w.heap.size w' v (C.blocks b e)) ∧ Below w.heap.size w w' := by
  go_enter Tryd.func24, Tryd.ntmps24
  by_cases hE : 4294967296 < e
  · have q1 : (e : Int) > 4294967296 := by omega
    have hnone := C.blocks_none b e (by omega)
    go_wp2_with fail
    go_ret
    exact ⟨⟨_, rfl, by rw [hnone]; exact Rw.nil _ _ _ _ _⟩, Below.refl _ _⟩
  · have q1 : ¬ (e : Int) > 4294967296 := by omega
    have q1' : ¬ (4294967296 : Int) < (e : Int) := by omega
    go_wp2_with fail
    go_loopg [5, 6] (e - b) (fun gk s5 s6 wr => ∃ (p : Nat) (ns : List Nat), gk = e - p ∧ s6 = .int .u64 (p : Int) ∧ p < 18446744073709551616 ∧ Hid (C.blocks b e = ns ++ C.blocks p e) ∧ ns.length ≤ 64 ∧ Hid (NRow w.heap.size wr s5 ns) ∧ Hid (Below w.heap.size w wr))
    case atStart => exact ⟨b, [], rfl, rfl, hb, rfl, by simp, Rw.nil _ _ _ _ _, Below.refl _ _⟩
    case round =>
      clear hb
      obtain ⟨p, ns, rfl, rfl, hp, HB, hns, HR, BW⟩ := hrel
      obtain ⟨so, sc, rfl⟩ := HR.out.form
      by_cases hlt : p < e
      · have q2 : (p : Int) < (e : Int) := by omega
        obtain ⟨K, hK⟩ : ∃ K, K = C.blk p e := ⟨_, rfl⟩
        have HKK := hide hK
        have HK0 := hide (show K = C.gk p e 33 1 by rw [hK]; rfl)
        clear hK
        go_wp2_with fail
        go_loopg [7] 33 (fun f s7 wz => ∃ z : Nat, s7 = .int .u64 (z : Int) ∧ 0 < z ∧ Hid (z * 2 ^ f = 2 ^ 33) ∧ p + z ≤ e ∧ Hid (K = C.gk p e f z) ∧ wr = wz)
        case atStart => exact ⟨1, rfl, by omega, hide (by omega), by omega, HK0, rfl⟩
        case round =>
          clear HK0
          obtain ⟨z, rfl, hz0, HZ, hze, HKZ, rfl⟩ := hrel
          obtain ⟨z2, hz2⟩ : ∃ n, n = 2 * z := ⟨_, rfl⟩
          have qm : IntKind.u64.wrap (2 * (z : Int)) = (z2 : Int) := by rw [IntKind.wrap_u64]; omega
          have qn : ¬ (z2 : Int) = 0 := by omega
          have qa : IntKind.u64.wrap ((p : Int) + (z2 : Int)) = (p : Int) + (z2 : Int) := by rw [IntKind.wrap_u64]; omega
          by_cases hd : p % z2 = 0
          · have q4 : (p : Int) % (z2 : Int) = 0 := by exact_mod_cast hd
            by_cases hle : p + z2 ≤ e
            · have q5 : (p : Int) + (z2 : Int) ≤ (e : Int) := by omega
              obtain ⟨f, hf⟩ : ∃ f, gk = f + 1 := by
                cases gk with
                | zero => exfalso; have := HZ.out; rw [Nat.pow_zero, Nat.mul_one] at this; omega
                | succ f => exact ⟨f, rfl⟩
              subst hf
              have HZN := hide (show z2 * 2 ^ f = 2 ^ 33 by have := HZ.out; rw [Nat.pow_succ] at this; rw [← this, hz2, Nat.mul_comm 2 z, Nat.mul_assoc, Nat.mul_comm 2 (2 ^ f)])
              have HKN := hide (show K = C.gk p e f z2 by rw [hz2]; exact HKZ.out.trans (C.gk_yes p e f z (by rw [← hz2]; exact hd) (by rw [← hz2]; exact hle)))
              have HZ2 := hide hz2
              clear hz2 hd hle HZ HKZ
              go_wp2_with fail
              go_roundg f
              case measure => omega
              case rel => exact ⟨z2, rfl, by have := HZ2.out; omega, HZN, by have := HZ2.out; omega, HKN, rfl⟩
            · have q5 : ¬ (p : Int) + (z2 : Int) ≤ (e : Int) := by omega
              have hKz : K = z := HKZ.out.trans (C.gk_no p e gk z (fun c => hle (by rw [hz2]; exact c.2)))
              clear hd hle HZ HKZ hz2
              have hblk : C.blk p e = z := by rw [← HKK.out]; exact hKz
              have HBN : Hid (C.blocks b e = (ns ++ [z]) ++ C.blocks (p + z) e) := by
                have := HB.out
                rw [C.blocks_cons p e hlt (by omega), hblk] at this
                rw [List.append_assoc]; exact this
              have hlen : (ns ++ [z]).length ≤ 64 := by
                have h1 := C.blocks_len b e
                rw [HBN.out, List.length_append] at h1
                omega
              have qp : IntKind.u64.wrap ((p : Int) + (z : Int)) = ((p + z : Nat) : Int) := by rw [IntKind.wrap_u64]; omega
              have hbs := bs38one wr z
              obtain ⟨X, hX⟩ : ∃ X, X = wr.alloc (.cells (encU z).toArray 27) := ⟨_, rfl⟩
              rw [← hX] at hbs
              have bx : Below wr.heap.size wr X := by rw [hX]; exact (Below.refl _ _).alloc (Nat.le_refl _) _
              have rx : X.heap[wr.heap.size]? = some (.cells (encU z).toArray 27 (0, 0)) := by rw [hX]; exact heap_alloc_new _ _
              have KEY := hide (Rw.append kdU 38 (HR.out.below bx) (Sce.of_row (c := 1) rx) (encU_len _) (by simp at hlen ⊢; omega) (Nat.le_trans BW.out.size bx.size))
              have BX := hide (BW.out.trans (bx.mono BW.out.size))
              have HW := hide (fun j (e : (Value.slice so ns.length sc).ownBlock = some j) => ((HR.out.below bx).blk e).1)
              obtain ⟨gx, hgx⟩ : ∃ g, g = wr.heap.size := ⟨_, rfl⟩
              rw [← hgx] at hbs KEY
              clear bx rx HB HR hX hgx hblk hKz HKK
              go_wp2_with (first | (with_reducible refine at_op { dst := some 31, op := Op.buildSlice 38 1 #[(0, Operand.tmp 30)], type := 38, pos := "ref.go:32", after := #[{ on := 1, ground := Ground.data }], guard := none } ?_; refine wpList_buildSlice_as rfl 38 1 [(0, .tmp 30)] rfl [(0, .int .u64 (z : Int))] rfl _ _ hbs ?_) | (at_builtin; (refine wpList_append_known rfl (.tmp 29) (.tmp 31) 38 38 rfl _ _ rfl rfl KEY.out ?_; rintro v' Y ⟨hR', hC'⟩; have RN := hide hR'; have BN := hide (BX.out.trans (hC'.below _ BX.out.size (fun k hk e => by have := HW.out _ e; omega))); clear hR' hC')))
              go_roundg (e - (p + z))
              case measure => omega
              case rel => exact ⟨p + z, ns ++ [z], rfl, rfl, by omega, HBN, hlen, RN, BN⟩
          · have q4 : ¬ (p : Int) % (z2 : Int) = 0 := by exact_mod_cast hd
            have hKz : K = z := HKZ.out.trans (C.gk_no p e gk z (fun c => hd (by rw [hz2]; exact c.1)))
            clear hd HZ HKZ hz2
            have hblk : C.blk p e = z := by rw [← HKK.out]; exact hKz
            have HBN : Hid (C.blocks b e = (ns ++ [z]) ++ C.blocks (p + z) e) := by
              have := HB.out
              rw [C.blocks_cons p e hlt (by omega), hblk] at this
              rw [List.append_assoc]; exact this
            have hlen : (ns ++ [z]).length ≤ 64 := by
              have h1 := C.blocks_len b e
              rw [HBN.out, List.length_append] at h1
              omega
            have qp : IntKind.u64.wrap ((p : Int) + (z : Int)) = ((p + z : Nat) : Int) := by rw [IntKind.wrap_u64]; omega
            have hbs := bs38one wr z
            obtain ⟨X, hX⟩ : ∃ X, X = wr.alloc (.cells (encU z).toArray 27) := ⟨_, rfl⟩
            rw [← hX] at hbs
            have bx : Below wr.heap.size wr X := by rw [hX]; exact (Below.refl _ _).alloc (Nat.le_refl _) _
            have rx : X.heap[wr.heap.size]? = some (.cells (encU z).toArray 27 (0, 0)) := by rw [hX]; exact heap_alloc_new _ _
            have KEY := hide (Rw.append kdU 38 (HR.out.below bx) (Sce.of_row (c := 1) rx) (encU_len _) (by simp at hlen ⊢; omega) (Nat.le_trans BW.out.size bx.size))
            have BX := hide (BW.out.trans (bx.mono BW.out.size))
            have HW := hide (fun j (e : (Value.slice so ns.length sc).ownBlock = some j) => ((HR.out.below bx).blk e).1)
            obtain ⟨gx, hgx⟩ : ∃ g, g = wr.heap.size := ⟨_, rfl⟩
            rw [← hgx] at hbs KEY
            clear bx rx HB HR hX hgx hblk hKz HKK
            go_wp2_with (first | (with_reducible refine at_op { dst := some 31, op := Op.buildSlice 38 1 #[(0, Operand.tmp 30)], type := 38, pos := "ref.go:32", after := #[{ on := 1, ground := Ground.data }], guard := none } ?_; refine wpList_buildSlice_as rfl 38 1 [(0, .tmp 30)] rfl [(0, .int .u64 (z : Int))] rfl _ _ hbs ?_) | (at_builtin; (refine wpList_append_known rfl (.tmp 29) (.tmp 31) 38 38 rfl _ _ rfl rfl KEY.out ?_; rintro v' Y ⟨hR', hC'⟩; have RN := hide hR'; have BN := hide (BX.out.trans (hC'.below _ BX.out.size (fun k hk e => by have := HW.out _ e; omega))); clear hR' hC')))
            go_roundg (e - (p + z))
            case measure => omega
            case rel => exact ⟨p + z, ns ++ [z], rfl, rfl, by omega, HBN, hlen, RN, BN⟩
      · have q2 : ¬ (p : Int) < (e : Int) := by omega
        have hnone := C.blocks_none p e (by omega)
        go_wp2_with fail
        go_ret
        exact ⟨⟨_, rfl, by rw [HB.out, hnone, List.append_nil]; exact HR.out⟩, BW.out⟩
set_option maxHeartbeats 8000000 in
set_option maxRecDepth 10000 in
theorem rright_any (b e n c : Nat) (ao : Option Addr) (w : World) (hb : b < 18446744073709551616) (he : e < 18446744073709551616) :
   Calls Tryd.prog 42 #[.agg #[.int .u64 (b : Int), .int .u64 (e : Int), .slice ao n c]] w fun r w' => r = .returned (.bool (S.right b e n)) ∧ Below w.heap.size w w' := by
  obtain ⟨R, hR⟩ : ∃ R : Bool, R = S.right b e n := ⟨_, rfl⟩
  rw [← hR]
  have HR := hide hR
  clear hR
  go_enter Tryd.func42, Tryd.ntmps42
  go_upto_region 1 with fail
  generalize hW0 : w.alloc _ = W0
  have B0 : Below w.heap.size w W0 := by rw [← hW0]; exact (Below.refl _ _).alloc (Nat.le_refl _) _
  have s0 : W0.heap.size = w.heap.size + 1 := by rw [← hW0]; simp
  have r0 : W0.heap[w.heap.size]? = some (.cells #[.int .u64 (b : Int), .int .u64 (e : Int), .slice ao n c] 37 (0, 0)) := by rw [← hW0]; exact heap_alloc_new _ _
  have BB : Hid (Below w.heap.size w W0) := B0
  have Q0 : Hid (W0.heap[w.heap.size]? = some (.cells #[.int .u64 (b : Int), .int .u64 (e : Int), .slice ao n c] 37 (0, 0))) := r0
  clear hW0 B0 s0 r0
  by_cases h1 : b ≤ e
  · have q1 : (b : Int) ≤ (e : Int) := by omega
    by_cases h2 : e ≤ 4294967296
    · have q2 : (e : Int) ≤ 4294967296 := by omega
      refine wp_region_noPanic ?_
      refine wp_region_held_drew (S := (fun W => Chg (fun _ => False) W0 W)) follows ((Chg.refl _ _).drew) (fun hHeld => ?_)
      clear hHeld
      have hHeld : Chg (fun _ => False) W0 W0.drew := (Chg.refl _ _).drew
      have CZ0 := hide hHeld
      generalize W0.drew = Z0 at CZ0 hHeld ⊢
      refine wpAnyH_take (i := 0) (oi := { dst := some 3, op := Op.fieldAddr 37 (Operand.tmp 1) 0, type := 0, pos := "ref.go:40", after := #[], guard := none }) (v := ?_) rfl (by kernel_rfl) (by kernel_rfl) (by kernel_rfl) (fun _ _ _ h => h) (Or.inl ⟨by rfl, ?_⟩) (by assumption) ?_
      rotate_left
      · intro w hSw
        clear hSw
        go_simp
        all_goals with_reducible rfl
      simp only [Act.put, List.setIfInBounds_toArray, List.set_cons_zero, List.set_cons_succ]
      refine wpAnyH_take (i := 1) (oi := { dst := some 4, op := Op.load 27 (Operand.tmp 3), type := 27, pos := "ref.go:40", after := #[{ on := 0, ground := Ground.data }], guard := none }) (v := ?_) rfl (by kernel_rfl) (by kernel_rfl) (by kernel_rfl) (fun _ _ _ h => h) (Or.inl ⟨by rfl, ?_⟩) (by assumption) ?_
      rotate_left
      · intro w hSw
        obtain ⟨c0, c1, c2⟩ := cells3 (hSw.row Q0.out (fun e => e))
        clear hSw
        go_simp
        all_goals with_reducible rfl
      simp only [Act.put, List.setIfInBounds_toArray, List.set_cons_zero, List.set_cons_succ]
      refine wpAnyH_take (i := 2) (oi := { dst := some 5, op := Op.fieldAddr 37 (Operand.tmp 1) 1, type := 0, pos := "ref.go:40", after := #[], guard := none }) (v := ?_) rfl (by kernel_rfl) (by kernel_rfl) (by kernel_rfl) (fun _ _ _ h => h) (Or.inl ⟨by rfl, ?_⟩) (by assumption) ?_
      rotate_left
      · intro w hSw
        clear hSw
        go_simp
        all_goals with_reducible rfl
      simp only [Act.put, List.setIfInBounds_toArray, List.set_cons_zero, List.set_cons_succ]
      refine wpAnyH_take (i := 3) (oi := { dst := some 6, op := Op.load 27 (Operand.tmp 5), type := 27, pos := "ref.go:40", after := #[{ on := 2, ground := Ground.data }], guard := none }) (v := ?_) rfl (by kernel_rfl) (by kernel_rfl) (by kernel_rfl) (fun _ _ _ h => h) (Or.inl ⟨by rfl, ?_⟩) (by assumption) ?_
      rotate_left
      · intro w hSw
        obtain ⟨c0, c1, c2⟩ := cells3 (hSw.row Q0.out (fun e => e))
        clear hSw
        go_simp
        all_goals with_reducible rfl
      simp only [Act.put, List.setIfInBounds_toArray, List.set_cons_zero, List.set_cons_succ]
      refine wpAnyH_take (i := 4) (oi := { dst := some 7, op := Op.binOp BinOp.leq 27 (Operand.tmp 4) (Operand.tmp 6) 27, type := 4, pos := "ref.go:40", after := #[{ on := 1, ground := Ground.data }, { on := 3, ground := Ground.data }], guard := none }) (v := ?_) rfl (by kernel_rfl) (by kernel_rfl) (by kernel_rfl) (fun _ _ _ h => h) (Or.inl ⟨by rfl, ?_⟩) (by assumption) ?_
      rotate_left
      · intro w hSw
        clear hSw
        go_simp
        all_goals with_reducible rfl
      simp only [Act.put, List.setIfInBounds_toArray, List.set_cons_zero, List.set_cons_succ]
      refine wpAnyH_take (i := 5) (oi := { dst := some 8, op := Op.move (Operand.tmp 7), type := 4, pos := "ref.go:40", after := #[{ on := 4, ground := Ground.data }], guard := none }) (v := ?_) rfl (by kernel_rfl) (by kernel_rfl) (by kernel_rfl) (fun _ _ _ h => h) (Or.inl ⟨by rfl, ?_⟩) (by assumption) ?_
      rotate_left
      · intro w hSw
        clear hSw
        go_simp
        all_goals with_reducible rfl
      simp only [Act.put, List.setIfInBounds_toArray, List.set_cons_zero, List.set_cons_succ]
      refine wpAnyH_take (i := 6) (oi := { dst := some 9, op := Op.fieldAddr 37 (Operand.tmp 1) 1, type := 0, pos := "ref.go:40", after := #[{ on := 5, ground := Ground.guard }], guard := some (5, true) }) (v := ?_) rfl (by kernel_rfl) (by kernel_rfl) (by kernel_rfl) (fun _ _ _ h => h) (Or.inl ⟨by rfl, ?_⟩) (by assumption) ?_
      rotate_left
      · intro w hSw
        clear hSw
        go_simp
        all_goals with_reducible rfl
      simp only [Act.put, List.setIfInBounds_toArray, List.set_cons_zero, List.set_cons_succ]
      refine wpAnyH_take (i := 7) (oi := { dst := some 10, op := Op.load 27 (Operand.tmp 9), type := 27, pos := "ref.go:40", after := #[{ on := 6, ground := Ground.data }, { on := 5, ground := Ground.guard }], guard := some (5, true) }) (v := ?_) rfl (by kernel_rfl) (by kernel_rfl) (by kernel_rfl) (fun _ _ _ h => h) (Or.inl ⟨by rfl, ?_⟩) (by assumption) ?_
      rotate_left
      · intro w hSw
        obtain ⟨c0, c1, c2⟩ := cells3 (hSw.row Q0.out (fun e => e))
        clear hSw
        go_simp
        all_goals with_reducible rfl
      simp only [Act.put, List.setIfInBounds_toArray, List.set_cons_zero, List.set_cons_succ]
      refine wpAnyH_take (i := 8) (oi := { dst := some 11, op := Op.binOp BinOp.leq 27 (Operand.tmp 10) (Operand.const (Value.int IntKind.u64 4294967296)) 27, type := 4, pos := "ref.go:40", after := #[{ on := 7, ground := Ground.data }, { on := 5, ground := Ground.guard }], guard := some (5, true) }) (v := ?_) rfl (by kernel_rfl) (by kernel_rfl) (by kernel_rfl) (fun _ _ _ h => h) (Or.inl ⟨by rfl, ?_⟩) (by assumption) ?_
      rotate_left
      · intro w hSw
        clear hSw
        go_simp
        all_goals with_reducible rfl
      simp only [Act.put, List.setIfInBounds_toArray, List.set_cons_zero, List.set_cons_succ]
      refine wpAnyH_take (i := 9) (oi := { dst := some 12, op := Op.pick (Operand.tmp 8) (Operand.tmp 11) (Operand.const (Value.bool false)), type := 4, pos := "ref.go:40", after := #[{ on := 5, ground := Ground.data }, { on := 8, ground := Ground.data }], guard := none }) (v := ?_) rfl (by kernel_rfl) (by kernel_rfl) (by kernel_rfl) (fun _ _ _ h => h) (Or.inl ⟨by rfl, ?_⟩) (by assumption) ?_
      rotate_left
      · intro w hSw
        clear hSw
        go_simp
        all_goals with_reducible rfl
      simp only [Act.put, List.setIfInBounds_toArray, List.set_cons_zero, List.set_cons_succ]
      refine wpAnyH_take (i := 10) (oi := { dst := some 13, op := Op.move (Operand.tmp 12), type := 4, pos := "ref.go:40", after := #[{ on := 9, ground := Ground.data }, { on := 5, ground := Ground.chain }], guard := none }) (v := ?_) rfl (by kernel_rfl) (by kernel_rfl) (by kernel_rfl) (fun _ _ _ h => h) (Or.inl ⟨by rfl, ?_⟩) (by assumption) ?_
      rotate_left
      · intro w hSw
        clear hSw
        go_simp
        all_goals with_reducible rfl
      simp only [Act.put, List.setIfInBounds_toArray, List.set_cons_zero, List.set_cons_succ]
      refine wpAnyH_take (i := 11) (oi := { dst := some 14, op := Op.fieldAddr 37 (Operand.tmp 1) 2, type := 0, pos := "ref.go:40", after := #[{ on := 10, ground := Ground.guard }], guard := some (10, true) }) (v := ?_) rfl (by kernel_rfl) (by kernel_rfl) (by kernel_rfl) (fun _ _ _ h => h) (Or.inl ⟨by rfl, ?_⟩) (by assumption) ?_
      rotate_left
      · intro w hSw
        clear hSw
        go_simp
        all_goals with_reducible rfl
      simp only [Act.put, List.setIfInBounds_toArray, List.set_cons_zero, List.set_cons_succ]
      refine wpAnyH_take (i := 12) (oi := { dst := some 15, op := Op.load 28 (Operand.tmp 14), type := 28, pos := "ref.go:40", after := #[{ on := 11, ground := Ground.data }, { on := 10, ground := Ground.guard }], guard := some (10, true) }) (v := ?_) rfl (by kernel_rfl) (by kernel_rfl) (by kernel_rfl) (fun _ _ _ h => h) (Or.inl ⟨by rfl, ?_⟩) (by assumption) ?_
      rotate_left
      · intro w hSw
        obtain ⟨c0, c1, c2⟩ := cells3 (hSw.row Q0.out (fun e => e))
        clear hSw
        go_simp
        all_goals with_reducible rfl
      simp only [Act.put, List.setIfInBounds_toArray, List.set_cons_zero, List.set_cons_succ]
      refine wpAnyH_take (i := 13) (oi := { dst := some 16, op := Op.call { callee := Callee.builtin Builtin.len, args := #[Operand.tmp 15], argTypes := #[28] }, type := 3, pos := "ref.go:40", after := #[{ on := 12, ground := Ground.data }, { on := 10, ground := Ground.guard }], guard := some (10, true) }) (v := ?_) rfl (by kernel_rfl) (by kernel_rfl) (by kernel_rfl) (fun _ _ _ h => h) (Or.inl ⟨by rfl, ?_⟩) (by assumption) ?_
      rotate_left
      · intro w hSw
        clear hSw
        go_simp
        all_goals with_reducible rfl
      simp only [Act.put, List.setIfInBounds_toArray, List.set_cons_zero, List.set_cons_succ]
      refine wpAnyH_take (i := 14) (oi := { dst := some 17, op := Op.fieldAddr 37 (Operand.tmp 1) 0, type := 0, pos := "ref.go:40", after := #[{ on := 10, ground := Ground.guard }], guard := some (10, true) }) (v := ?_) rfl (by kernel_rfl) (by kernel_rfl) (by kernel_rfl) (fun _ _ _ h => h) (Or.inl ⟨by rfl, ?_⟩) (by assumption) ?_
      rotate_left
      · intro w hSw
        clear hSw
        go_simp
        all_goals with_reducible rfl
      simp only [Act.put, List.setIfInBounds_toArray, List.set_cons_zero, List.set_cons_succ]
      refine wpAnyH_take (i := 15) (oi := { dst := some 18, op := Op.load 27 (Operand.tmp 17), type := 27, pos := "ref.go:40", after := #[{ on := 14, ground := Ground.data }, { on := 10, ground := Ground.guard }], guard := some (10, true) }) (v := ?_) rfl (by kernel_rfl) (by kernel_rfl) (by kernel_rfl) (fun _ _ _ h => h) (Or.inl ⟨by rfl, ?_⟩) (by assumption) ?_
      rotate_left
      · intro w hSw
        obtain ⟨c0, c1, c2⟩ := cells3 (hSw.row Q0.out (fun e => e))
        clear hSw
        go_simp
        all_goals with_reducible rfl
      simp only [Act.put, List.setIfInBounds_toArray, List.set_cons_zero, List.set_cons_succ]
      refine wpAnyH_take (i := 16) (oi := { dst := some 19, op := Op.fieldAddr 37 (Operand.tmp 1) 1, type := 0, pos := "ref.go:40", after := #[{ on := 10, ground := Ground.guard }], guard := some (10, true) }) (v := ?_) rfl (by kernel_rfl) (by kernel_rfl) (by kernel_rfl) (fun _ _ _ h => h) (Or.inl ⟨by rfl, ?_⟩) (by assumption) ?_
      rotate_left
      · intro w hSw
        clear hSw
        go_simp
        all_goals with_reducible rfl
      simp only [Act.put, List.setIfInBounds_toArray, List.set_cons_zero, List.set_cons_succ]
      refine wpAnyH_take (i := 17) (oi := { dst := some 20, op := Op.load 27 (Operand.tmp 19), type := 27, pos := "ref.go:40", after := #[{ on := 16, ground := Ground.data }, { on := 10, ground := Ground.guard }], guard := some (10, true) }) (v := ?_) rfl (by kernel_rfl) (by kernel_rfl) (by kernel_rfl) (fun _ _ _ h => h) (Or.inl ⟨by rfl, ?_⟩) (by assumption) ?_
      rotate_left
      · intro w hSw
        obtain ⟨c0, c1, c2⟩ := cells3 (hSw.row Q0.out (fun e => e))
        clear hSw
        go_simp
        all_goals with_reducible rfl
      simp only [Act.put, List.setIfInBounds_toArray, List.set_cons_zero, List.set_cons_succ]
      refine wpAnyH_ready (rs := [18]) (by kernel_rfl) (by simp) ?_
      refine AllReadyH.cons (o := { dst := some 21, op := Op.call { callee := Callee.value (Operand.func 24), args := #[Operand.tmp 18, Operand.tmp 20], argTypes := #[27, 27] }, type := 38, pos := "ref.go:40", after := #[{ on := 15, ground := Ground.data }, { on := 17, ground := Ground.data }, { on := 10, ground := Ground.chain }, { on := 10, ground := Ground.guard }], guard := some (10, true) }) rfl (fun K hK => ?_) AllReadyH.nil
      go_simp
      refine (rblocks_any b e Z0 hb he).mono ?_
      rintro e Z1 ⟨⟨vb, rfl, hv⟩, hb2⟩
      obtain ⟨bo, bc, rfl⟩ := hv.form
      clear hv
      obtain ⟨M, hM⟩ : ∃ M, M = (C.blocks b e).length := ⟨_, rfl⟩
      rw [← hM]
      have HM := hide hM
      clear hM
      have CZ1 : Hid (Chg (fun _ => False) W0 Z1) := CZ0.out.then hb2
      clear hb2 CZ0
      clear hHeld
      refine hK.out _ _ CZ1.out (fun hHeld => ?_)
      clear hK K
      try simp only [Act.put, List.setIfInBounds_toArray, List.set_cons_zero, List.set_cons_succ]
      refine wpAnyH_take (i := 19) (oi := { dst := some 22, op := Op.call { callee := Callee.builtin Builtin.len, args := #[Operand.tmp 21], argTypes := #[38] }, type := 3, pos := "ref.go:40", after := #[{ on := 18, ground := Ground.data }, { on := 10, ground := Ground.guard }], guard := some (10, true) }) (v := ?_) rfl (by kernel_rfl) (by kernel_rfl) (by kernel_rfl) (fun _ _ _ h => h) (Or.inl ⟨by rfl, ?_⟩) (by assumption) ?_
      rotate_left
      · intro w hSw
        clear hSw
        go_simp
        all_goals with_reducible rfl
      simp only [Act.put, List.setIfInBounds_toArray, List.set_cons_zero, List.set_cons_succ]
      refine wpAnyH_take (i := 20) (oi := { dst := some 23, op := Op.binOp BinOp.eql 3 (Operand.tmp 16) (Operand.tmp 22) 3, type := 4, pos := "ref.go:40", after := #[{ on := 13, ground := Ground.data }, { on := 19, ground := Ground.data }, { on := 10, ground := Ground.guard }], guard := some (10, true) }) (v := ?_) rfl (by kernel_rfl) (by kernel_rfl) (by kernel_rfl) (fun _ _ _ h => h) (Or.inl ⟨by rfl, ?_⟩) (by assumption) ?_
      rotate_left
      · intro w hSw
        clear hSw
        go_simp
        all_goals with_reducible rfl
      simp only [Act.put, List.setIfInBounds_toArray, List.set_cons_zero, List.set_cons_succ]
      refine wpAnyH_take (i := 21) (oi := { dst := some 24, op := Op.pick (Operand.tmp 13) (Operand.tmp 23) (Operand.const (Value.bool false)), type := 4, pos := "ref.go:40", after := #[{ on := 10, ground := Ground.data }, { on := 20, ground := Ground.data }], guard := none }) (v := ?_) rfl (by kernel_rfl) (by kernel_rfl) (by kernel_rfl) (fun _ _ _ h => h) (Or.inl ⟨by rfl, ?_⟩) (by assumption) ?_
      rotate_left
      · intro w hSw
        clear hSw
        go_simp
        all_goals with_reducible rfl
      simp only [Act.put, List.setIfInBounds_toArray, List.set_cons_zero, List.set_cons_succ]
      refine wpAnyH_take (i := 22) (oi := { dst := some 2, op := Op.assign (Operand.tmp 24), type := 4, pos := "ref.go:40", after := #[{ on := 21, ground := Ground.data }, { on := 18, ground := Ground.chain }, { on := 0, ground := Ground.phase }, { on := 1, ground := Ground.phase }, { on := 2, ground := Ground.phase }, { on := 3, ground := Ground.phase }, { on := 4, ground := Ground.phase }, { on := 5, ground := Ground.phase }, { on := 6, ground := Ground.phase }, { on := 7, ground := Ground.phase }, { on := 8, ground := Ground.phase }, { on := 9, ground := Ground.phase }, { on := 10, ground := Ground.phase }, { on := 11, ground := Ground.phase }, { on := 12, ground := Ground.phase }, { on := 13, ground := Ground.phase }, { on := 14, ground := Ground.phase }, { on := 15, ground := Ground.phase }, { on := 16, ground := Ground.phase }, { on := 17, ground := Ground.phase }, { on := 18, ground := Ground.phase }, { on := 19, ground := Ground.phase }, { on := 20, ground := Ground.phase }, { on := 21, ground := Ground.phase }], guard := none }) (v := ?_) rfl (by kernel_rfl) (by kernel_rfl) (by kernel_rfl) (fun _ _ _ h => h) (Or.inl ⟨by rfl, ?_⟩) (by assumption) ?_
      rotate_left
      · intro w hSw
        clear hSw
        go_simp
        all_goals with_reducible rfl
      simp only [Act.put, List.setIfInBounds_toArray, List.set_cons_zero, List.set_cons_succ]
      refine wpAnyH_done (by kernel_rfl) ?_ _
      refine NoPanic.normal ?_
      clear hHeld
      have BF := hide (BB.out.trans (CZ1.out.below w.heap.size BB.out.size (fun k hk e => by omega)))
      go_wp2_with fail
      go_ret
      refine ⟨?_, BF.out⟩
      show Ending.returned (.bool ((n : Int) == (M : Int))) = _
      rw [HR.out, S.right, ← HM.out]
      congr 2
      by_cases h : n = M
      · subst h; simp [h1, h2]
      · have hn : ¬ (n : Int) = (M : Int) := by omega
        simp [h, hn]
    · have q2 : ¬ (e : Int) ≤ 4294967296 := by omega
      have q2' : (4294967296 : Int) < (e : Int) := by omega
      have hF := hide (show R = false by rw [HR.out]; simp [S.right, h2])
      refine wp_region_noPanic ?_
      refine wp_region_held_drew (S := (fun W => Chg (fun _ => False) W0 W)) follows ((Chg.refl _ _).drew) (fun hHeld => ?_)
      clear hHeld
      have hHeld : Chg (fun _ => False) W0 W0.drew := (Chg.refl _ _).drew
      have CZ0 := hide hHeld
      generalize W0.drew = Z0 at CZ0 hHeld ⊢
      refine wpAnyH_take (i := 0) (oi := { dst := some 3, op := Op.fieldAddr 37 (Operand.tmp 1) 0, type := 0, pos := "ref.go:40", after := #[], guard := none }) (v := ?_) rfl (by kernel_rfl) (by kernel_rfl) (by kernel_rfl) (fun _ _ _ h => h) (Or.inl ⟨by rfl, ?_⟩) (by assumption) ?_
      rotate_left
      · intro w hSw
        clear hSw
        go_simp
        all_goals with_reducible rfl
      simp only [Act.put, List.setIfInBounds_toArray, List.set_cons_zero, List.set_cons_succ]
      refine wpAnyH_take (i := 1) (oi := { dst := some 4, op := Op.load 27 (Operand.tmp 3), type := 27, pos := "ref.go:40", after := #[{ on := 0, ground := Ground.data }], guard := none }) (v := ?_) rfl (by kernel_rfl) (by kernel_rfl) (by kernel_rfl) (fun _ _ _ h => h) (Or.inl ⟨by rfl, ?_⟩) (by assumption) ?_
      rotate_left
      · intro w hSw
        obtain ⟨c0, c1, c2⟩ := cells3 (hSw.row Q0.out (fun e => e))
        clear hSw
        go_simp
        all_goals with_reducible rfl
      simp only [Act.put, List.setIfInBounds_toArray, List.set_cons_zero, List.set_cons_succ]
      refine wpAnyH_take (i := 2) (oi := { dst := some 5, op := Op.fieldAddr 37 (Operand.tmp 1) 1, type := 0, pos := "ref.go:40", after := #[], guard := none }) (v := ?_) rfl (by kernel_rfl) (by kernel_rfl) (by kernel_rfl) (fun _ _ _ h => h) (Or.inl ⟨by rfl, ?_⟩) (by assumption) ?_
      rotate_left
      · intro w hSw
        clear hSw
        go_simp
        all_goals with_reducible rfl
      simp only [Act.put, List.setIfInBounds_toArray, List.set_cons_zero, List.set_cons_succ]
      refine wpAnyH_take (i := 3) (oi := { dst := some 6, op := Op.load 27 (Operand.tmp 5), type := 27, pos := "ref.go:40", after := #[{ on := 2, ground := Ground.data }], guard := none }) (v := ?_) rfl (by kernel_rfl) (by kernel_rfl) (by kernel_rfl) (fun _ _ _ h => h) (Or.inl ⟨by rfl, ?_⟩) (by assumption) ?_
      rotate_left
      · intro w hSw
        obtain ⟨c0, c1, c2⟩ := cells3 (hSw.row Q0.out (fun e => e))
        clear hSw
        go_simp
        all_goals with_reducible rfl
      simp only [Act.put, List.setIfInBounds_toArray, List.set_cons_zero, List.set_cons_succ]
      refine wpAnyH_take (i := 4) (oi := { dst := some 7, op := Op.binOp BinOp.leq 27 (Operand.tmp 4) (Operand.tmp 6) 27, type := 4, pos := "ref.go:40", after := #[{ on := 1, ground := Ground.data }, { on := 3, ground := Ground.data }], guard := none }) (v := ?_) rfl (by kernel_rfl) (by kernel_rfl) (by kernel_rfl) (fun _ _ _ h => h) (Or.inl ⟨by rfl, ?_⟩) (by assumption) ?_
      rotate_left
      · intro w hSw
        clear hSw
        go_simp
        all_goals with_reducible rfl
      simp only [Act.put, List.setIfInBounds_toArray, List.set_cons_zero, List.set_cons_succ]
      refine wpAnyH_take (i := 5) (oi := { dst := some 8, op := Op.move (Operand.tmp 7), type := 4, pos := "ref.go:40", after := #[{ on := 4, ground := Ground.data }], guard := none }) (v := ?_) rfl (by kernel_rfl) (by kernel_rfl) (by kernel_rfl) (fun _ _ _ h => h) (Or.inl ⟨by rfl, ?_⟩) (by assumption) ?_
      rotate_left
      · intro w hSw
        clear hSw
        go_simp
        all_goals with_reducible rfl
      simp only [Act.put, List.setIfInBounds_toArray, List.set_cons_zero, List.set_cons_succ]
      refine wpAnyH_take (i := 6) (oi := { dst := some 9, op := Op.fieldAddr 37 (Operand.tmp 1) 1, type := 0, pos := "ref.go:40", after := #[{ on := 5, ground := Ground.guard }], guard := some (5, true) }) (v := ?_) rfl (by kernel_rfl) (by kernel_rfl) (by kernel_rfl) (fun _ _ _ h => h) (Or.inl ⟨by rfl, ?_⟩) (by assumption) ?_
      rotate_left
      · intro w hSw
        clear hSw
        go_simp
        all_goals with_reducible rfl
      simp only [Act.put, List.setIfInBounds_toArray, List.set_cons_zero, List.set_cons_succ]
      refine wpAnyH_take (i := 7) (oi := { dst := some 10, op := Op.load 27 (Operand.tmp 9), type := 27, pos := "ref.go:40", after := #[{ on := 6, ground := Ground.data }, { on := 5, ground := Ground.guard }], guard := some (5, true) }) (v := ?_) rfl (by kernel_rfl) (by kernel_rfl) (by kernel_rfl) (fun _ _ _ h => h) (Or.inl ⟨by rfl, ?_⟩) (by assumption) ?_
      rotate_left
      · intro w hSw
        obtain ⟨c0, c1, c2⟩ := cells3 (hSw.row Q0.out (fun e => e))
        clear hSw
        go_simp
        all_goals with_reducible rfl
      simp only [Act.put, List.setIfInBounds_toArray, List.set_cons_zero, List.set_cons_succ]
      refine wpAnyH_take (i := 8) (oi := { dst := some 11, op := Op.binOp BinOp.leq 27 (Operand.tmp 10) (Operand.const (Value.int IntKind.u64 4294967296)) 27, type := 4, pos := "ref.go:40", after := #[{ on := 7, ground := Ground.data }, { on := 5, ground := Ground.guard }], guard := some (5, true) }) (v := ?_) rfl (by kernel_rfl) (by kernel_rfl) (by kernel_rfl) (fun _ _ _ h => h) (Or.inl ⟨by rfl, ?_⟩) (by assumption) ?_
      rotate_left
      · intro w hSw
        clear hSw
        go_simp
        all_goals with_reducible rfl
      simp only [Act.put, List.setIfInBounds_toArray, List.set_cons_zero, List.set_cons_succ]
      refine wpAnyH_take (i := 9) (oi := { dst := some 12, op := Op.pick (Operand.tmp 8) (Operand.tmp 11) (Operand.const (Value.bool false)), type := 4, pos := "ref.go:40", after := #[{ on := 5, ground := Ground.data }, { on := 8, ground := Ground.data }], guard := none }) (v := ?_) rfl (by kernel_rfl) (by kernel_rfl) (by kernel_rfl) (fun _ _ _ h => h) (Or.inl ⟨by rfl, ?_⟩) (by assumption) ?_
      rotate_left
      · intro w hSw
        clear hSw
        go_simp
        all_goals with_reducible rfl
      simp only [Act.put, List.setIfInBounds_toArray, List.set_cons_zero, List.set_cons_succ]
      refine wpAnyH_take (i := 10) (oi := { dst := some 13, op := Op.move (Operand.tmp 12), type := 4, pos := "ref.go:40", after := #[{ on := 9, ground := Ground.data }, { on := 5, ground := Ground.chain }], guard := none }) (v := ?_) rfl (by kernel_rfl) (by kernel_rfl) (by kernel_rfl) (fun _ _ _ h => h) (Or.inl ⟨by rfl, ?_⟩) (by assumption) ?_
      rotate_left
      · intro w hSw
        clear hSw
        go_simp
        all_goals with_reducible rfl
      simp only [Act.put, List.setIfInBounds_toArray, List.set_cons_zero, List.set_cons_succ]
      refine wpAnyH_take (i := 11) (oi := { dst := some 14, op := Op.fieldAddr 37 (Operand.tmp 1) 2, type := 0, pos := "ref.go:40", after := #[{ on := 10, ground := Ground.guard }], guard := some (10, true) }) (v := undef) rfl (by kernel_rfl) (by kernel_rfl) (by kernel_rfl) (fun _ _ _ h => h) (Or.inr ⟨by rfl, rfl⟩) (by assumption) ?_
      simp only [Act.put, List.setIfInBounds_toArray, List.set_cons_zero, List.set_cons_succ]
      refine wpAnyH_take (i := 12) (oi := { dst := some 15, op := Op.load 28 (Operand.tmp 14), type := 28, pos := "ref.go:40", after := #[{ on := 11, ground := Ground.data }, { on := 10, ground := Ground.guard }], guard := some (10, true) }) (v := undef) rfl (by kernel_rfl) (by kernel_rfl) (by kernel_rfl) (fun _ _ _ h => h) (Or.inr ⟨by rfl, rfl⟩) (by assumption) ?_
      simp only [Act.put, List.setIfInBounds_toArray, List.set_cons_zero, List.set_cons_succ]
      refine wpAnyH_take (i := 13) (oi := { dst := some 16, op := Op.call { callee := Callee.builtin Builtin.len, args := #[Operand.tmp 15], argTypes := #[28] }, type := 3, pos := "ref.go:40", after := #[{ on := 12, ground := Ground.data }, { on := 10, ground := Ground.guard }], guard := some (10, true) }) (v := undef) rfl (by kernel_rfl) (by kernel_rfl) (by kernel_rfl) (fun _ _ _ h => h) (Or.inr ⟨by rfl, rfl⟩) (by assumption) ?_
      simp only [Act.put, List.setIfInBounds_toArray, List.set_cons_zero, List.set_cons_succ]
      refine wpAnyH_take (i := 14) (oi := { dst := some 17, op := Op.fieldAddr 37 (Operand.tmp 1) 0, type := 0, pos := "ref.go:40", after := #[{ on := 10, ground := Ground.guard }], guard := some (10, true) }) (v := undef) rfl (by kernel_rfl) (by kernel_rfl) (by kernel_rfl) (fun _ _ _ h => h) (Or.inr ⟨by rfl, rfl⟩) (by assumption) ?_
      simp only [Act.put, List.setIfInBounds_toArray, List.set_cons_zero, List.set_cons_succ]
      refine wpAnyH_take (i := 15) (oi := { dst := some 18, op := Op.load 27 (Operand.tmp 17), type := 27, pos := "ref.go:40", after := #[{ on := 14, ground := Ground.data }, { on := 10, ground := Ground.guard }], guard := some (10, true) }) (v := undef) rfl (by kernel_rfl) (by kernel_rfl) (by kernel_rfl) (fun _ _ _ h => h) (Or.inr ⟨by rfl, rfl⟩) (by assumption) ?_
      simp only [Act.put, List.setIfInBounds_toArray, List.set_cons_zero, List.set_cons_succ]
      refine wpAnyH_take (i := 16) (oi := { dst := some 19, op := Op.fieldAddr 37 (Operand.tmp 1) 1, type := 0, pos := "ref.go:40", after := #[{ on := 10, ground := Ground.guard }], guard := some (10, true) }) (v := undef) rfl (by kernel_rfl) (by kernel_rfl) (by kernel_rfl) (fun _ _ _ h => h) (Or.inr ⟨by rfl, rfl⟩) (by assumption) ?_
      simp only [Act.put, List.setIfInBounds_toArray, List.set_cons_zero, List.set_cons_succ]
      refine wpAnyH_take (i := 17) (oi := { dst := some 20, op := Op.load 27 (Operand.tmp 19), type := 27, pos := "ref.go:40", after := #[{ on := 16, ground := Ground.data }, { on := 10, ground := Ground.guard }], guard := some (10, true) }) (v := undef) rfl (by kernel_rfl) (by kernel_rfl) (by kernel_rfl) (fun _ _ _ h => h) (Or.inr ⟨by rfl, rfl⟩) (by assumption) ?_
      simp only [Act.put, List.setIfInBounds_toArray, List.set_cons_zero, List.set_cons_succ]
      refine wpAnyH_take (i := 18) (oi := { dst := some 21, op := Op.call { callee := Callee.value (Operand.func 24), args := #[Operand.tmp 18, Operand.tmp 20], argTypes := #[27, 27] }, type := 38, pos := "ref.go:40", after := #[{ on := 15, ground := Ground.data }, { on := 17, ground := Ground.data }, { on := 10, ground := Ground.chain }, { on := 10, ground := Ground.guard }], guard := some (10, true) }) (v := undef) rfl (by kernel_rfl) (by kernel_rfl) (by kernel_rfl) (fun _ _ _ h => h) (Or.inr ⟨by rfl, rfl⟩) (by assumption) ?_
      simp only [Act.put, List.setIfInBounds_toArray, List.set_cons_zero, List.set_cons_succ]
      refine wpAnyH_take (i := 19) (oi := { dst := some 22, op := Op.call { callee := Callee.builtin Builtin.len, args := #[Operand.tmp 21], argTypes := #[38] }, type := 3, pos := "ref.go:40", after := #[{ on := 18, ground := Ground.data }, { on := 10, ground := Ground.guard }], guard := some (10, true) }) (v := undef) rfl (by kernel_rfl) (by kernel_rfl) (by kernel_rfl) (fun _ _ _ h => h) (Or.inr ⟨by rfl, rfl⟩) (by assumption) ?_
      simp only [Act.put, List.setIfInBounds_toArray, List.set_cons_zero, List.set_cons_succ]
      refine wpAnyH_take (i := 20) (oi := { dst := some 23, op := Op.binOp BinOp.eql 3 (Operand.tmp 16) (Operand.tmp 22) 3, type := 4, pos := "ref.go:40", after := #[{ on := 13, ground := Ground.data }, { on := 19, ground := Ground.data }, { on := 10, ground := Ground.guard }], guard := some (10, true) }) (v := undef) rfl (by kernel_rfl) (by kernel_rfl) (by kernel_rfl) (fun _ _ _ h => h) (Or.inr ⟨by rfl, rfl⟩) (by assumption) ?_
      simp only [Act.put, List.setIfInBounds_toArray, List.set_cons_zero, List.set_cons_succ]
      refine wpAnyH_take (i := 21) (oi := { dst := some 24, op := Op.pick (Operand.tmp 13) (Operand.tmp 23) (Operand.const (Value.bool false)), type := 4, pos := "ref.go:40", after := #[{ on := 10, ground := Ground.data }, { on := 20, ground := Ground.data }], guard := none }) (v := ?_) rfl (by kernel_rfl) (by kernel_rfl) (by kernel_rfl) (fun _ _ _ h => h) (Or.inl ⟨by rfl, ?_⟩) (by assumption) ?_
      rotate_left
      · intro w hSw
        clear hSw
        go_simp
        all_goals with_reducible rfl
      simp only [Act.put, List.setIfInBounds_toArray, List.set_cons_zero, List.set_cons_succ]
      refine wpAnyH_take (i := 22) (oi := { dst := some 2, op := Op.assign (Operand.tmp 24), type := 4, pos := "ref.go:40", after := #[{ on := 21, ground := Ground.data }, { on := 18, ground := Ground.chain }, { on := 0, ground := Ground.phase }, { on := 1, ground := Ground.phase }, { on := 2, ground := Ground.phase }, { on := 3, ground := Ground.phase }, { on := 4, ground := Ground.phase }, { on := 5, ground := Ground.phase }, { on := 6, ground := Ground.phase }, { on := 7, ground := Ground.phase }, { on := 8, ground := Ground.phase }, { on := 9, ground := Ground.phase }, { on := 10, ground := Ground.phase }, { on := 11, ground := Ground.phase }, { on := 12, ground := Ground.phase }, { on := 13, ground := Ground.phase }, { on := 14, ground := Ground.phase }, { on := 15, ground := Ground.phase }, { on := 16, ground := Ground.phase }, { on := 17, ground := Ground.phase }, { on := 18, ground := Ground.phase }, { on := 19, ground := Ground.phase }, { on := 20, ground := Ground.phase }, { on := 21, ground := Ground.phase }], guard := none }) (v := ?_) rfl (by kernel_rfl) (by kernel_rfl) (by kernel_rfl) (fun _ _ _ h => h) (Or.inl ⟨by rfl, ?_⟩) (by assumption) ?_
      rotate_left
      · intro w hSw
        clear hSw
        go_simp
        all_goals with_reducible rfl
      simp only [Act.put, List.setIfInBounds_toArray, List.set_cons_zero, List.set_cons_succ]
      refine wpAnyH_done (by kernel_rfl) ?_ _
      refine NoPanic.normal ?_
      clear hHeld
      have BF := hide (BB.out.trans (CZ0.out.below w.heap.size BB.out.size (fun k hk e => by omega)))
      go_wp2_with fail
      go_ret
      exact ⟨by rw [hF.out]; rfl, BF.out⟩
  · have q1 : ¬ (b : Int) ≤ (e : Int) := by omega
    have q1' : (e : Int) < (b : Int) := by omega
    have hF := hide (show R = false by rw [HR.out]; simp [S.right, h1])
    refine wp_region_noPanic ?_
    refine wp_region_held_drew (S := (fun W => Chg (fun _ => False) W0 W)) follows ((Chg.refl _ _).drew) (fun hHeld => ?_)
    clear hHeld
    have hHeld : Chg (fun _ => False) W0 W0.drew := (Chg.refl _ _).drew
    have CZ0 := hide hHeld
    generalize W0.drew = Z0 at CZ0 hHeld ⊢
    refine wpAnyH_take (i := 0) (oi := { dst := some 3, op := Op.fieldAddr 37 (Operand.tmp 1) 0, type := 0, pos := "ref.go:40", after := #[], guard := none }) (v := ?_) rfl (by kernel_rfl) (by kernel_rfl) (by kernel_rfl) (fun _ _ _ h => h) (Or.inl ⟨by rfl, ?_⟩) (by assumption) ?_
    rotate_left
    · intro w hSw
      clear hSw
      go_simp
      all_goals with_reducible rfl
    simp only [Act.put, List.setIfInBounds_toArray, List.set_cons_zero, List.set_cons_succ]
    refine wpAnyH_take (i := 1) (oi := { dst := some 4, op := Op.load 27 (Operand.tmp 3), type := 27, pos := "ref.go:40", after := #[{ on := 0, ground := Ground.data }], guard := none }) (v := ?_) rfl (by kernel_rfl) (by kernel_rfl) (by kernel_rfl) (fun _ _ _ h => h) (Or.inl ⟨by rfl, ?_⟩) (by assumption) ?_
    rotate_left
    · intro w hSw
      obtain ⟨c0, c1, c2⟩ := cells3 (hSw.row Q0.out (fun e => e))
      clear hSw
      go_simp
      all_goals with_reducible rfl
    simp only [Act.put, List.setIfInBounds_toArray, List.set_cons_zero, List.set_cons_succ]
    refine wpAnyH_take (i := 2) (oi := { dst := some 5, op := Op.fieldAddr 37 (Operand.tmp 1) 1, type := 0, pos := "ref.go:40", after := #[], guard := none }) (v := ?_) rfl (by kernel_rfl) (by kernel_rfl) (by kernel_rfl) (fun _ _ _ h => h) (Or.inl ⟨by rfl, ?_⟩) (by assumption) ?_
    rotate_left
    · intro w hSw
      clear hSw
      go_simp
      all_goals with_reducible rfl
    simp only [Act.put, List.setIfInBounds_toArray, List.set_cons_zero, List.set_cons_succ]
    refine wpAnyH_take (i := 3) (oi := { dst := some 6, op := Op.load 27 (Operand.tmp 5), type := 27, pos := "ref.go:40", after := #[{ on := 2, ground := Ground.data }], guard := none }) (v := ?_) rfl (by kernel_rfl) (by kernel_rfl) (by kernel_rfl) (fun _ _ _ h => h) (Or.inl ⟨by rfl, ?_⟩) (by assumption) ?_
    rotate_left
    · intro w hSw
      obtain ⟨c0, c1, c2⟩ := cells3 (hSw.row Q0.out (fun e => e))
      clear hSw
      go_simp
      all_goals with_reducible rfl
    simp only [Act.put, List.setIfInBounds_toArray, List.set_cons_zero, List.set_cons_succ]
    refine wpAnyH_take (i := 4) (oi := { dst := some 7, op := Op.binOp BinOp.leq 27 (Operand.tmp 4) (Operand.tmp 6) 27, type := 4, pos := "ref.go:40", after := #[{ on := 1, ground := Ground.data }, { on := 3, ground := Ground.data }], guard := none }) (v := ?_) rfl (by kernel_rfl) (by kernel_rfl) (by kernel_rfl) (fun _ _ _ h => h) (Or.inl ⟨by rfl, ?_⟩) (by assumption) ?_
    rotate_left
    · intro w hSw
      clear hSw
      go_simp
      all_goals with_reducible rfl
    simp only [Act.put, List.setIfInBounds_toArray, List.set_cons_zero, List.set_cons_succ]
    refine wpAnyH_take (i := 5) (oi := { dst := some 8, op := Op.move (Operand.tmp 7), type := 4, pos := "ref.go:40", after := #[{ on := 4, ground := Ground.data }], guard := none }) (v := ?_) rfl (by kernel_rfl) (by kernel_rfl) (by kernel_rfl) (fun _ _ _ h => h) (Or.inl ⟨by rfl, ?_⟩) (by assumption) ?_
    rotate_left
    · intro w hSw
      clear hSw
      go_simp
      all_goals with_reducible rfl
    simp only [Act.put, List.setIfInBounds_toArray, List.set_cons_zero, List.set_cons_succ]
    refine wpAnyH_take (i := 6) (oi := { dst := some 9, op := Op.fieldAddr 37 (Operand.tmp 1) 1, type := 0, pos := "ref.go:40", after := #[{ on := 5, ground := Ground.guard }], guard := some (5, true) }) (v := undef) rfl (by kernel_rfl) (by kernel_rfl) (by kernel_rfl) (fun _ _ _ h => h) (Or.inr ⟨by rfl, rfl⟩) (by assumption) ?_
    simp only [Act.put, List.setIfInBounds_toArray, List.set_cons_zero, List.set_cons_succ]
    refine wpAnyH_take (i := 7) (oi := { dst := some 10, op := Op.load 27 (Operand.tmp 9), type := 27, pos := "ref.go:40", after := #[{ on := 6, ground := Ground.data }, { on := 5, ground := Ground.guard }], guard := some (5, true) }) (v := undef) rfl (by kernel_rfl) (by kernel_rfl) (by kernel_rfl) (fun _ _ _ h => h) (Or.inr ⟨by rfl, rfl⟩) (by assumption) ?_
    simp only [Act.put, List.setIfInBounds_toArray, List.set_cons_zero, List.set_cons_succ]
    refine wpAnyH_take (i := 8) (oi := { dst := some 11, op := Op.binOp BinOp.leq 27 (Operand.tmp 10) (Operand.const (Value.int IntKind.u64 4294967296)) 27, type := 4, pos := "ref.go:40", after := #[{ on := 7, ground := Ground.data }, { on := 5, ground := Ground.guard }], guard := some (5, true) }) (v := undef) rfl (by kernel_rfl) (by kernel_rfl) (by kernel_rfl) (fun _ _ _ h => h) (Or.inr ⟨by rfl, rfl⟩) (by assumption) ?_
    simp only [Act.put, List.setIfInBounds_toArray, List.set_cons_zero, List.set_cons_succ]
    refine wpAnyH_take (i := 9) (oi := { dst := some 12, op := Op.pick (Operand.tmp 8) (Operand.tmp 11) (Operand.const (Value.bool false)), type := 4, pos := "ref.go:40", after := #[{ on := 5, ground := Ground.data }, { on := 8, ground := Ground.data }], guard := none }) (v := ?_) rfl (by kernel_rfl) (by kernel_rfl) (by kernel_rfl) (fun _ _ _ h => h) (Or.inl ⟨by rfl, ?_⟩) (by assumption) ?_
    rotate_left
    · intro w hSw
      clear hSw
      go_simp
      all_goals with_reducible rfl
    simp only [Act.put, List.setIfInBounds_toArray, List.set_cons_zero, List.set_cons_succ]
    refine wpAnyH_take (i := 10) (oi := { dst := some 13, op := Op.move (Operand.tmp 12), type := 4, pos := "ref.go:40", after := #[{ on := 9, ground := Ground.data }, { on := 5, ground := Ground.chain }], guard := none }) (v := ?_) rfl (by kernel_rfl) (by kernel_rfl) (by kernel_rfl) (fun _ _ _ h => h) (Or.inl ⟨by rfl, ?_⟩) (by assumption) ?_
    rotate_left
    · intro w hSw
      clear hSw
      go_simp
      all_goals with_reducible rfl
    simp only [Act.put, List.setIfInBounds_toArray, List.set_cons_zero, List.set_cons_succ]
    refine wpAnyH_take (i := 11) (oi := { dst := some 14, op := Op.fieldAddr 37 (Operand.tmp 1) 2, type := 0, pos := "ref.go:40", after := #[{ on := 10, ground := Ground.guard }], guard := some (10, true) }) (v := undef) rfl (by kernel_rfl) (by kernel_rfl) (by kernel_rfl) (fun _ _ _ h => h) (Or.inr ⟨by rfl, rfl⟩) (by assumption) ?_
    simp only [Act.put, List.setIfInBounds_toArray, List.set_cons_zero, List.set_cons_succ]
    refine wpAnyH_take (i := 12) (oi := { dst := some 15, op := Op.load 28 (Operand.tmp 14), type := 28, pos := "ref.go:40", after := #[{ on := 11, ground := Ground.data }, { on := 10, ground := Ground.guard }], guard := some (10, true) }) (v := undef) rfl (by kernel_rfl) (by kernel_rfl) (by kernel_rfl) (fun _ _ _ h => h) (Or.inr ⟨by rfl, rfl⟩) (by assumption) ?_
    simp only [Act.put, List.setIfInBounds_toArray, List.set_cons_zero, List.set_cons_succ]
    refine wpAnyH_take (i := 13) (oi := { dst := some 16, op := Op.call { callee := Callee.builtin Builtin.len, args := #[Operand.tmp 15], argTypes := #[28] }, type := 3, pos := "ref.go:40", after := #[{ on := 12, ground := Ground.data }, { on := 10, ground := Ground.guard }], guard := some (10, true) }) (v := undef) rfl (by kernel_rfl) (by kernel_rfl) (by kernel_rfl) (fun _ _ _ h => h) (Or.inr ⟨by rfl, rfl⟩) (by assumption) ?_
    simp only [Act.put, List.setIfInBounds_toArray, List.set_cons_zero, List.set_cons_succ]
    refine wpAnyH_take (i := 14) (oi := { dst := some 17, op := Op.fieldAddr 37 (Operand.tmp 1) 0, type := 0, pos := "ref.go:40", after := #[{ on := 10, ground := Ground.guard }], guard := some (10, true) }) (v := undef) rfl (by kernel_rfl) (by kernel_rfl) (by kernel_rfl) (fun _ _ _ h => h) (Or.inr ⟨by rfl, rfl⟩) (by assumption) ?_
    simp only [Act.put, List.setIfInBounds_toArray, List.set_cons_zero, List.set_cons_succ]
    refine wpAnyH_take (i := 15) (oi := { dst := some 18, op := Op.load 27 (Operand.tmp 17), type := 27, pos := "ref.go:40", after := #[{ on := 14, ground := Ground.data }, { on := 10, ground := Ground.guard }], guard := some (10, true) }) (v := undef) rfl (by kernel_rfl) (by kernel_rfl) (by kernel_rfl) (fun _ _ _ h => h) (Or.inr ⟨by rfl, rfl⟩) (by assumption) ?_
    simp only [Act.put, List.setIfInBounds_toArray, List.set_cons_zero, List.set_cons_succ]
    refine wpAnyH_take (i := 16) (oi := { dst := some 19, op := Op.fieldAddr 37 (Operand.tmp 1) 1, type := 0, pos := "ref.go:40", after := #[{ on := 10, ground := Ground.guard }], guard := some (10, true) }) (v := undef) rfl (by kernel_rfl) (by kernel_rfl) (by kernel_rfl) (fun _ _ _ h => h) (Or.inr ⟨by rfl, rfl⟩) (by assumption) ?_
    simp only [Act.put, List.setIfInBounds_toArray, List.set_cons_zero, List.set_cons_succ]
    refine wpAnyH_take (i := 17) (oi := { dst := some 20, op := Op.load 27 (Operand.tmp 19), type := 27, pos := "ref.go:40", after := #[{ on := 16, ground := Ground.data }, { on := 10, ground := Ground.guard }], guard := some (10, true) }) (v := undef) rfl (by kernel_rfl) (by kernel_rfl) (by kernel_rfl) (fun _ _ _ h => h) (Or.inr ⟨by rfl, rfl⟩) (by assumption) ?_
    simp only [Act.put, List.setIfInBounds_toArray, List.set_cons_zero, List.set_cons_succ]
    refine wpAnyH_take (i := 18) (oi := { dst := some 21, op := Op.call { callee := Callee.value (Operand.func 24), args := #[Operand.tmp 18, Operand.tmp 20], argTypes := #[27, 27] }, type := 38, pos := "ref.go:40", after := #[{ on := 15, ground := Ground.data }, { on := 17, ground := Ground.data }, { on := 10, ground := Ground.chain }, { on := 10, ground := Ground.guard }], guard := some (10, true) }) (v := undef) rfl (by kernel_rfl) (by kernel_rfl) (by kernel_rfl) (fun _ _ _ h => h) (Or.inr ⟨by rfl, rfl⟩) (by assumption) ?_
    simp only [Act.put, List.setIfInBounds_toArray, List.set_cons_zero, List.set_cons_succ]
    refine wpAnyH_take (i := 19) (oi := { dst := some 22, op := Op.call { callee := Callee.builtin Builtin.len, args := #[Operand.tmp 21], argTypes := #[38] }, type := 3, pos := "ref.go:40", after := #[{ on := 18, ground := Ground.data }, { on := 10, ground := Ground.guard }], guard := some (10, true) }) (v := undef) rfl (by kernel_rfl) (by kernel_rfl) (by kernel_rfl) (fun _ _ _ h => h) (Or.inr ⟨by rfl, rfl⟩) (by assumption) ?_
    simp only [Act.put, List.setIfInBounds_toArray, List.set_cons_zero, List.set_cons_succ]
    refine wpAnyH_take (i := 20) (oi := { dst := some 23, op := Op.binOp BinOp.eql 3 (Operand.tmp 16) (Operand.tmp 22) 3, type := 4, pos := "ref.go:40", after := #[{ on := 13, ground := Ground.data }, { on := 19, ground := Ground.data }, { on := 10, ground := Ground.guard }], guard := some (10, true) }) (v := undef) rfl (by kernel_rfl) (by kernel_rfl) (by kernel_rfl) (fun _ _ _ h => h) (Or.inr ⟨by rfl, rfl⟩) (by assumption) ?_
    simp only [Act.put, List.setIfInBounds_toArray, List.set_cons_zero, List.set_cons_succ]
    refine wpAnyH_take (i := 21) (oi := { dst := some 24, op := Op.pick (Operand.tmp 13) (Operand.tmp 23) (Operand.const (Value.bool false)), type := 4, pos := "ref.go:40", after := #[{ on := 10, ground := Ground.data }, { on := 20, ground := Ground.data }], guard := none }) (v := ?_) rfl (by kernel_rfl) (by kernel_rfl) (by kernel_rfl) (fun _ _ _ h => h) (Or.inl ⟨by rfl, ?_⟩) (by assumption) ?_
    rotate_left
    · intro w hSw
      clear hSw
      go_simp
      all_goals with_reducible rfl
    simp only [Act.put, List.setIfInBounds_toArray, List.set_cons_zero, List.set_cons_succ]
    refine wpAnyH_take (i := 22) (oi := { dst := some 2, op := Op.assign (Operand.tmp 24), type := 4, pos := "ref.go:40", after := #[{ on := 21, ground := Ground.data }, { on := 18, ground := Ground.chain }, { on := 0, ground := Ground.phase }, { on := 1, ground := Ground.phase }, { on := 2, ground := Ground.phase }, { on := 3, ground := Ground.phase }, { on := 4, ground := Ground.phase }, { on := 5, ground := Ground.phase }, { on := 6, ground := Ground.phase }, { on := 7, ground := Ground.phase }, { on := 8, ground := Ground.phase }, { on := 9, ground := Ground.phase }, { on := 10, ground := Ground.phase }, { on := 11, ground := Ground.phase }, { on := 12, ground := Ground.phase }, { on := 13, ground := Ground.phase }, { on := 14, ground := Ground.phase }, { on := 15, ground := Ground.phase }, { on := 16, ground := Ground.phase }, { on := 17, ground := Ground.phase }, { on := 18, ground := Ground.phase }, { on := 19, ground := Ground.phase }, { on := 20, ground := Ground.phase }, { on := 21, ground := Ground.phase }], guard := none }) (v := ?_) rfl (by kernel_rfl) (by kernel_rfl) (by kernel_rfl) (fun _ _ _ h => h) (Or.inl ⟨by rfl, ?_⟩) (by assumption) ?_
    rotate_left
    · intro w hSw
      clear hSw
      go_simp
      all_goals with_reducible rfl
    simp only [Act.put, List.setIfInBounds_toArray, List.set_cons_zero, List.set_cons_succ]
    refine wpAnyH_done (by kernel_rfl) ?_ _
    refine NoPanic.normal ?_
    clear hHeld
    have BF := hide (BB.out.trans (CZ0.out.below w.heap.size BB.out.size (fun k hk e => by omega)))
    go_wp2_with fail
    go_ret
    exact ⟨by rw [hF.out]; rfl, BF.out⟩
end Go.Proofs.YtkljajfgdelfgaaDoor
