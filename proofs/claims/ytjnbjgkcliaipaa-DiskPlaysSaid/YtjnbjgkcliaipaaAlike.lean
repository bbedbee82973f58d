/- alike: a disk that is as the document says. -/
import Derived.Test.YtjnbjgkcliaipaaRread
import Derived.Test.YtjnbjgkcliaipaaStr
namespace Go.Proofs.Ytjnbjgkcliaipaa
open Go.RowKit
theorem drew_below (w : World) : Below w.heap.size w w.drew := (Chg.refl (fun _ => False) w).drew.below _ (Nat.le_refl _) (fun _ _ e => e)
set_option maxHeartbeats 3200000 in
set_option maxRecDepth 100000 in
theorem alike_any (o : Ow) (r : Ro) (d : S.Dk) (w : World) (hd : DkIs w o d) (hr : RkIs w r d) (hb : d.pend.length ≤ 1000000) :
   Calls Try.prog 29 #[o.ptr, .pointer (some ⟨r.g, 0, none⟩)] w fun e w' => e = .returned (.bool true) ∧ Below w.heap.size w w' := by
  obtain ⟨asv, csv, hsf⟩ := ownsRow_form hr.safe
  obtain ⟨L, hL⟩ : ∃ L, L = d.safe.length := ⟨_, rfl⟩
  obtain ⟨N, hN⟩ : ∃ N, N = d.pend.length := ⟨_, rfl⟩
  rw [hr.sl, ← hL] at hsf
  have HSF := hide hsf
  have HL := hide hL
  have HN := hide hN
  have HB := hide hb
  have H8 : L ≤ 8192 := by rw [hL]; exact hd.n
  have HD := hide hd
  have HR := hide hr
  clear hd hr hsf hL hN hb
  unfold Ow.ptr
  go_enter Try.func29, Try.ntmps29
  go_wp2_with fail
  refine wp_region_noPanic ?_
  refine wp_region_held_drew (S := (fun W => W.cell? ⟨r.g, 0, none⟩ = some (.slice asv L csv))) follows (by have := (cells3 HR.out.row).1; rw [HSF.out] at this; exact this) (fun hHeld => ?_)
  have D0 := hide (HD.out.below (drew_below w))
  have R0 := hide (HR.out.below (drew_below w))
  have B0 := hide (drew_below w)
  clear HD HR
  generalize w.drew = z0 at D0 R0 B0 hHeld ⊢
  refine wpAnyH_take (i := 0) (oi := { dst := some 10, op := Op.move (Operand.tmp 0), type := 22, pos := "law.go:79", after := #[], guard := none }) (v := ?_) rfl (by kernel_rfl) (by kernel_rfl) (by kernel_rfl) (fun _ _ _ h => h) (Or.inl ⟨by rfl, ?_⟩) (by assumption) ?_
  rotate_left
  · intro w hSw
    clear hSw
    go_simp
    all_goals with_reducible rfl
  simp only [Act.put, List.setIfInBounds_toArray, List.set_cons_zero, List.set_cons_succ]
  refine wpAnyH_take (i := 2) (oi := { dst := some 12, op := Op.move (Operand.tmp 1), type := 45, pos := "law.go:79", after := #[], guard := none }) (v := ?_) rfl (by kernel_rfl) (by kernel_rfl) (by kernel_rfl) (fun _ _ _ h => h) (Or.inl ⟨by rfl, ?_⟩) (by assumption) ?_
  rotate_left
  · intro w hSw
    clear hSw
    go_simp
    all_goals with_reducible rfl
  simp only [Act.put, List.setIfInBounds_toArray, List.set_cons_zero, List.set_cons_succ]
  refine wpAnyH_take (i := 3) (oi := { dst := some 13, op := Op.nilCheck (Operand.tmp 12), type := 0, pos := "law.go:79", after := #[{ on := 2, ground := Ground.data }], guard := none }) (v := ?_) rfl (by kernel_rfl) (by kernel_rfl) (by kernel_rfl) (fun _ _ _ h => h) (Or.inl ⟨by rfl, ?_⟩) (by assumption) ?_
  rotate_left
  · intro w hSw
    clear hSw
    go_simp
    all_goals with_reducible rfl
  simp only [Act.put, List.setIfInBounds_toArray, List.set_cons_zero, List.set_cons_succ]
  refine wpAnyH_take (i := 4) (oi := { dst := some 14, op := Op.fieldAddr 79 (Operand.tmp 13) 0, type := 0, pos := "law.go:79", after := #[{ on := 3, ground := Ground.data }], guard := none }) (v := ?_) rfl (by kernel_rfl) (by kernel_rfl) (by kernel_rfl) (fun _ _ _ h => h) (Or.inl ⟨by rfl, ?_⟩) (by assumption) ?_
  rotate_left
  · intro w hSw
    clear hSw
    go_simp
    all_goals with_reducible rfl
  simp only [Act.put, List.setIfInBounds_toArray, List.set_cons_zero, List.set_cons_succ]
  refine wpAnyH_take (i := 5) (oi := { dst := some 15, op := Op.load 57 (Operand.tmp 14), type := 57, pos := "law.go:79", after := #[{ on := 4, ground := Ground.data }], guard := none }) (v := ?_) rfl (by kernel_rfl) (by kernel_rfl) (by kernel_rfl) (fun _ _ _ h => h) (Or.inl ⟨by rfl, ?_⟩) (by assumption) ?_
  rotate_left
  · intro w hSw
    have c0 := hSw
    clear hSw
    go_simp
    all_goals with_reducible rfl
  simp only [Act.put, List.setIfInBounds_toArray, List.set_cons_zero, List.set_cons_succ]
  refine wpAnyH_take (i := 6) (oi := { dst := some 16, op := Op.call { callee := Callee.builtin Builtin.len, args := #[Operand.tmp 15], argTypes := #[57] }, type := 3, pos := "law.go:79", after := #[{ on := 5, ground := Ground.data }], guard := none }) (v := ?_) rfl (by kernel_rfl) (by kernel_rfl) (by kernel_rfl) (fun _ _ _ h => h) (Or.inl ⟨by rfl, ?_⟩) (by assumption) ?_
  rotate_left
  · intro w hSw
    clear hSw
    go_simp
    all_goals with_reducible rfl
  simp only [Act.put, List.setIfInBounds_toArray, List.set_cons_zero, List.set_cons_succ]
  refine wpAnyH_ready (rs := [1]) (by kernel_rfl) (by simp) ?_
  refine AllReadyH.cons (o := { dst := some 11, op := Op.call { callee := Callee.value (Operand.func 11), args := #[Operand.tmp 10], argTypes := #[22] }, type := 3, pos := "law.go:79", after := #[{ on := 0, ground := Ground.data }], guard := none }) rfl (fun K hK => ?_) AllReadyH.nil
  go_simp
  have CALL := sectors_any o d z0 D0.out
  rw [Ow.ptr, ← HL.out] at CALL
  refine CALL.mono ?_
  rintro e zz ⟨rfl, rfl⟩
  clear CALL
  refine hK.out _ _ hHeld (fun hHeld => ?_)
  clear hK K
  try simp only [Act.put, List.setIfInBounds_toArray, List.set_cons_zero, List.set_cons_succ]
  refine wpAnyH_take (i := 7) (oi := { dst := some 17, op := Op.binOp BinOp.neq 3 (Operand.tmp 11) (Operand.tmp 16) 3, type := 4, pos := "law.go:79", after := #[{ on := 1, ground := Ground.data }, { on := 6, ground := Ground.data }], guard := none }) (v := ?_) rfl (by kernel_rfl) (by kernel_rfl) (by kernel_rfl) (fun _ _ _ h => h) (Or.inl ⟨by rfl, ?_⟩) (by assumption) ?_
  rotate_left
  · intro w hSw
    clear hSw
    go_simp
    all_goals with_reducible rfl
  simp only [Act.put, List.setIfInBounds_toArray, List.set_cons_zero, List.set_cons_succ]
  refine wpAnyH_take (i := 8) (oi := { dst := some 18, op := Op.move (Operand.tmp 17), type := 4, pos := "law.go:79", after := #[{ on := 7, ground := Ground.data }, { on := 1, ground := Ground.chain }], guard := none }) (v := ?_) rfl (by kernel_rfl) (by kernel_rfl) (by kernel_rfl) (fun _ _ _ h => h) (Or.inl ⟨by rfl, ?_⟩) (by assumption) ?_
  rotate_left
  · intro w hSw
    clear hSw
    go_simp
    all_goals with_reducible rfl
  simp only [Act.put, List.setIfInBounds_toArray, List.set_cons_zero, List.set_cons_succ]
  refine wpAnyH_take (i := 9) (oi := { dst := some 19, op := Op.move (Operand.tmp 0), type := 22, pos := "law.go:79", after := #[{ on := 8, ground := Ground.guard }], guard := some (8, false) }) (v := ?_) rfl (by kernel_rfl) (by kernel_rfl) (by kernel_rfl) (fun _ _ _ h => h) (Or.inl ⟨by rfl, ?_⟩) (by assumption) ?_
  rotate_left
  · intro w hSw
    clear hSw
    go_simp
    all_goals with_reducible rfl
  simp only [Act.put, List.setIfInBounds_toArray, List.set_cons_zero, List.set_cons_succ]
  refine wpAnyH_take (i := 11) (oi := { dst := some 21, op := Op.move (Operand.tmp 1), type := 45, pos := "law.go:79", after := #[{ on := 8, ground := Ground.guard }], guard := some (8, false) }) (v := ?_) rfl (by kernel_rfl) (by kernel_rfl) (by kernel_rfl) (fun _ _ _ h => h) (Or.inl ⟨by rfl, ?_⟩) (by assumption) ?_
  rotate_left
  · intro w hSw
    clear hSw
    go_simp
    all_goals with_reducible rfl
  simp only [Act.put, List.setIfInBounds_toArray, List.set_cons_zero, List.set_cons_succ]
  refine wpAnyH_ready (rs := [10]) (by kernel_rfl) (by simp) ?_
  refine AllReadyH.cons (o := { dst := some 20, op := Op.call { callee := Callee.value (Operand.func 30), args := #[Operand.tmp 19], argTypes := #[22] }, type := 3, pos := "law.go:79", after := #[{ on := 9, ground := Ground.data }, { on := 8, ground := Ground.chain }, { on := 8, ground := Ground.guard }], guard := some (8, false) }) rfl (fun K hK => ?_) AllReadyH.nil
  go_simp
  have CALL := pending_any o d z0 D0.out
  rw [Ow.ptr, ← HN.out] at CALL
  refine CALL.mono ?_
  rintro e zz ⟨rfl, rfl⟩
  clear CALL
  refine hK.out _ _ hHeld (fun hHeld => ?_)
  clear hK K
  try simp only [Act.put, List.setIfInBounds_toArray, List.set_cons_zero, List.set_cons_succ]
  refine wpAnyH_ready (rs := [12]) (by kernel_rfl) (by simp) ?_
  refine AllReadyH.cons (o := { dst := some 22, op := Op.call { callee := Callee.value (Operand.func 42), args := #[Operand.tmp 21], argTypes := #[45] }, type := 3, pos := "law.go:79", after := #[{ on := 11, ground := Ground.data }, { on := 10, ground := Ground.chain }, { on := 8, ground := Ground.guard }], guard := some (8, false) }) rfl (fun K hK => ?_) AllReadyH.nil
  go_simp
  have CALL := rpending_any r d z0 R0.out
  rw [← HN.out] at CALL
  refine CALL.mono ?_
  rintro e zz ⟨rfl, rfl⟩
  clear CALL
  refine hK.out _ _ hHeld (fun hHeld => ?_)
  clear hK K
  try simp only [Act.put, List.setIfInBounds_toArray, List.set_cons_zero, List.set_cons_succ]
  refine wpAnyH_take (i := 13) (oi := { dst := some 23, op := Op.binOp BinOp.neq 3 (Operand.tmp 20) (Operand.tmp 22) 3, type := 4, pos := "law.go:79", after := #[{ on := 10, ground := Ground.data }, { on := 12, ground := Ground.data }, { on := 8, ground := Ground.guard }], guard := some (8, false) }) (v := ?_) rfl (by kernel_rfl) (by kernel_rfl) (by kernel_rfl) (fun _ _ _ h => h) (Or.inl ⟨by rfl, ?_⟩) (by assumption) ?_
  rotate_left
  · intro w hSw
    clear hSw
    go_simp
    all_goals with_reducible rfl
  simp only [Act.put, List.setIfInBounds_toArray, List.set_cons_zero, List.set_cons_succ]
  refine wpAnyH_take (i := 14) (oi := { dst := some 24, op := Op.pick (Operand.tmp 18) (Operand.const (Value.bool true)) (Operand.tmp 23), type := 4, pos := "law.go:79", after := #[{ on := 8, ground := Ground.data }, { on := 13, ground := Ground.data }], guard := none }) (v := ?_) rfl (by kernel_rfl) (by kernel_rfl) (by kernel_rfl) (fun _ _ _ h => h) (Or.inl ⟨by rfl, ?_⟩) (by assumption) ?_
  rotate_left
  · intro w hSw
    clear hSw
    go_simp
    all_goals with_reducible rfl
  simp only [Act.put, List.setIfInBounds_toArray, List.set_cons_zero, List.set_cons_succ]
  refine wpAnyH_done (by kernel_rfl) ?_ _
  refine NoPanic.normal ?_
  clear hHeld
  go_wp2_with fail
  go_loopw [5] (fun i wr => ∃ (k : Nat) (m : Int), k ≤ L + 2 ∧ m = (k : Int) - 1 ∧ i = .int .i64 m ∧ DkIs wr o d ∧ RkIs wr r d ∧ Below w.heap.size w wr) (fun i _ => (L + 1 - intOf i).toNat)
  case atStart => exact ⟨0, -1, by omega, rfl, rfl, D0.out, R0.out, B0.out⟩
  case round =>
    obtain ⟨k, m, hk, hm, rfl, hd, hr, hbw⟩ := hrel
    have D1 := hide hd
    have R1 := hide hr
    have B1 := hide hbw
    have c0 : wr.cell? ⟨r.g, 0, none⟩ = some (.slice asv L csv) := by have := (cells3 hr.row).1; rw [HSF.out] at this; exact this
    clear hd hr hbw D0 R0 B0
    have CV0 : ∀ W : World, (convert 29 9 (.slice none 0 0)).run Try.prog W = .ok (.string ⟨([] : List UInt8).toArray⟩) W := fun W => conv_slice (Or.inl ⟨rfl, rfl⟩)
    by_cases hend : k = L + 2
    · have q1 : ¬ (m ≤ (L : Int)) := by omega
      clear hm hend
      go_wp2_with fail
      go_ret
      exact ⟨rfl, B1.out⟩
    · have q1 : m ≤ (L : Int) := by omega
      have q2 : IntKind.i64.wrap (m + 1) = m + 1 := by rw [IntKind.wrap_i64]; omega
      by_cases hin : 0 ≤ m ∧ m < (L : Int)
      · obtain ⟨n, rfl⟩ := Int.eq_ofNat_of_zero_le hin.1
        have hnL : n < d.safe.length := by rw [← HL.out]; omega
        have HNL := hide hnL
        have HK : Hid (k = n + 1) := by show k = n + 1; omega
        clear hm hin hend hnL
        go_wp2_with fail
        have CALL := read_yes o d n wr D1.out HNL.out
        rw [Ow.ptr] at CALL
        refine CALL.mono ?_
        clear CALL
        rintro e w2 ⟨rfl, hrow, hb2⟩
        have D2 := hide (D1.out.below hb2)
        have R2 := hide (R1.out.below hb2)
        have B2 := hide (B1.out.trans (hb2.mono B1.out.size))
        have RW := hide hrow
        clear hrow hb2 D1 R1 B1 c0
        generalize wr.heap.size = gb at *
        go_wp2_with fail
        refine (rread_yes r d n w2 R2.out HNL.out HB.out).mono ?_
        rintro e w3 ⟨v3, rfl, hs3, hb3⟩
        obtain ⟨a3, l3, c3, hf3, hl3, -⟩ := hs3.form
        obtain ⟨XS, hXS⟩ : ∃ XS, XS = d.seen.getD n [] := ⟨_, rfl⟩
        have hx128 : XS.length = 128 := by rw [hXS]; exact D2.out.ok.seen n HNL.out
        rw [← hXS] at hs3 hl3
        have hrow3 := (hb3.block gb (block_lt_of_row RW.out)).trans RW.out
        rw [← hXS] at hrow3
        have CVA := conv_slice (slice_row hrow3 hx128 (by omega))
        have CVB := conv_slice hs3
        rw [hf3] at CVB
        subst hf3
        have D3 := hide (D2.out.below hb3)
        have R3 := hide (R2.out.below hb3)
        have B3 := hide (B2.out.trans (hb3.mono B2.out.size))
        clear hs3 hb3 hrow3 hXS hl3 hx128 D2 R2 B2 RW
        go_wp2_with fail
        go_roundw
        case rel => exact ⟨k + 1, (n : Int) + 1, by have := HNL.out; have := HL.out; have := HK.out; omega, by have := HK.out; omega, by go_num, D3.out, R3.out, B3.out⟩
        case measure => simp [intOf]; omega
      · have hin' : ¬ (0 ≤ m ∧ m < (d.safe.length : Int)) := by rw [← HL.out]; exact hin
        have HIN := hide hin'
        have HK : Hid (m = (k : Int) - 1) := hm
        clear hin hin' hm
        go_wp2_with fail
        have CALL := read_no o d m wr D1.out HIN.out
        rw [Ow.ptr] at CALL
        refine CALL.mono ?_
        clear CALL
        rintro e w2 ⟨rfl, rfl⟩
        go_wp2_with fail
        refine (rread_no r d m wr R1.out HIN.out).mono ?_
        rintro e w3 ⟨rfl, rfl⟩
        go_wp2_with fail
        go_roundw
        case rel => exact ⟨k + 1, m + 1, by omega, by have := HK.out; omega, by go_num, D1.out, R1.out, B1.out⟩
        case measure => simp [intOf]; omega
end Go.Proofs.Ytjnbjgkcliaipaa
