/- DiskFlushed: what was flushed is there after any crash; what was not is there or is what it was, or torn where it is torn. -/
import Derived.Test.YtjnbjgkcliaipaaStr
namespace Go.Proofs.Ytjnbjgkcliaipaa
open Go.RowKit
namespace S
def f1 (a : UInt8) : Dk := (Dk.new 2).went.write 0 (sec a 128)
def f2 (a : UInt8) : Dk := (f1 a).went.flush
def f3 (a b : UInt8) : Dk := (f2 a).went.write 1 (sec b 128)
theorem f4_0 (a b : UInt8) (c : Cut) : ((f3 a b).crash c).seen.getD 0 [] = sec a 128 := rfl
theorem f4_1 (a b : UInt8) (c : Cut) : ((f3 a b).crash c).seen.getD 1 [] = mix (c.of 0) (sec b 128) (zeros 128) := rfl
theorem mix_at (m : Nat) (b : List UInt8) (hb : b.length = 128) (hm : m ≤ 128) (j : Nat) : (mix m b (zeros 128)).getD j 0 = if j < m then b.getD j 0 else 0 := by
  unfold mix
  simp only [List.getD_eq_getElem?_getD]
  have hl : (b.take m).length = m := by rw [List.length_take]; omega
  split
  · next h => rw [List.getElem?_append_left (by omega), List.getElem?_take, if_pos h]
  · next h =>
    rw [List.getElem?_append_right (by omega), List.getElem?_drop, hl, show m + (j - m) = j from by omega]
    exact zeros_getD 128 j
end S
theorem Has.drew {X : Nat → Option Obj} {w0 w : World} {g : Nat} {d : S.Dk} (h : Has X w0 w g d) : Has X w0 w.drew g d := h.below ((Chg.refl (fun _ => False) w).drew.below _ (Nat.le_refl _) (fun _ _ e => e))
theorem Has.drewN {X : Nat → Option Obj} {w0 w : World} {g : Nat} {d : S.Dk} (n : Nat) (h : Has X w0 w g d) : Has X w0 (w.drewN n) g d := h.below ((Chg.refl (fun _ => False) w).drewN n |>.below _ (Nat.le_refl _) (fun _ _ e => e))
set_option maxHeartbeats 3200000 in
set_option maxRecDepth 100000 in
theorem flushed_walk (a b : UInt8) (v : Value) (c : S.Cut) (w : World) (hv : BoolsAt w v c.keep) :
   Calls Try.prog 5 #[.int .u8 (a.toNat : Int), .int .u8 (b.toNat : Int), .agg #[v, .int .i64 c.torn, .int .i64 c.bytes]] w fun e w' => e = .returned (.bool true) ∧ Below w.heap.size w w' := by
  have hv' := hv
  obtain ⟨aok, capk, rfl, hkl, hkc⟩ := hv
  obtain ⟨KL, hKL⟩ : ∃ KL, KL = c.keep.length := ⟨_, rfl⟩
  obtain ⟨TN, hTN⟩ : ∃ T, T = c.torn := ⟨_, rfl⟩
  obtain ⟨BY, hBY⟩ : ∃ B, B = c.bytes := ⟨_, rfl⟩
  rw [← hKL] at hv' hkl hkc ⊢
  rw [← hTN, ← hBY]
  have bb0 : Below w.heap.size w (w.alloc (.cells #[.slice aok KL capk, .int .i64 TN, .int .i64 BY] 38)) := (Below.refl _ _).alloc (Nat.le_refl _) _
  have HBV := hide (hv'.below bb0 (Nat.le_refl _))
  have HWB := hide bb0
  have HGC0 : Hid ((w.alloc (.cells #[.slice aok KL capk, .int .i64 TN, .int .i64 BY] 38)).heap[w.heap.size]? = some (.cells #[.slice aok KL capk, .int .i64 TN, .int .i64 BY] 38 (0, 0))) := heap_alloc_new _ _
  have HKC : Hid (0 < KL → ∃ b off, aok = some ⟨b, off, none⟩ ∧ b < (w.alloc (.cells #[.slice aok KL capk, .int .i64 TN, .int .i64 BY] 38)).heap.size ∧ ∀ j, j < KL → (w.alloc (.cells #[.slice aok KL capk, .int .i64 TN, .int .i64 BY] 38)).cell? ⟨b, off + j, none⟩ = some (.bool (c.keep.getD j false))) := fun hp => by
    obtain ⟨b, off, e, h1, h2⟩ := hkc hp
    exact ⟨b, off, e, Nat.lt_of_lt_of_le h1 bb0.size, fun j hj => (bb0.cell (p := ⟨b, off + j, none⟩) h1).trans (h2 j hj)⟩
  have HTN := hide hTN
  have HBY := hide hBY
  clear hv' hkc hTN hBY bb0 hKL
  go_enter Try.func5, Try.ntmps5
  go_wp2_with fail
  generalize w.alloc (.cells #[.slice aok KL capk, .int .i64 TN, .int .i64 BY] 38) = wb at *
  obtain ⟨gc, hgc⟩ : ∃ gc, gc = w.heap.size := ⟨_, rfl⟩
  have HGC : Hid (wb.heap[gc]? = some (.cells #[.slice aok KL capk, .int .i64 TN, .int .i64 BY] 38 (0, 0))) := by rw [hgc]; exact HGC0.out
  rw [← hgc]
  clear HGC0 hgc
  refine (at_begun 2 wb wb (by omega) (by omega) (Below.refl _ _)).mono ?_
  rintro e w1 ⟨g, rfl, h1, -⟩
  have H1 := hide h1
  clear h1
  go_wp2_with fail
  refine (at_sector a 128 wb w1 g _ H1.out (by omega)).mono ?_
  rintro e w2 ⟨g2, rfl, h2, t2⟩
  have H2 := hide h2
  have T2 := hide t2
  clear h2 t2 H1
  go_wp2_with fail
  refine (at_write 0 _ (S.sec a 128) wb w2 g _ H2.out (by decide) rfl (S.sec_length _ _) (by decide) T2.out).mono ?_
  rintro e w3 ⟨rfl, h3⟩
  have H3 : Hid (Has X0 wb w3 g (S.f1 a)) := h3
  clear h3 H2 T2
  go_wp2_with fail
  refine (at_flush wb w3 g _ H3.out rfl (Nat.le_of_ble_eq_true rfl)).mono ?_
  rintro e w4 ⟨rfl, h4⟩
  have H4 : Hid (Has X0 wb w4 g (S.f2 a)) := h4
  clear h4 H3
  go_wp2_with fail
  refine (at_sector b 128 wb w4 g _ H4.out (by omega)).mono ?_
  rintro e w5 ⟨g5, rfl, h5, t5⟩
  have H5 := hide h5
  have T5 := hide t5
  clear h5 t5 H4
  go_wp2_with fail
  refine (at_write 1 _ (S.sec b 128) wb w5 g _ H5.out (by simp [S.f2, S.Dk.flush, S.Dk.seen_length, S.Dk.went, S.f1, S.Dk.write, S.Dk.new]) rfl (S.sec_length _ _) (Nat.le_of_ble_eq_true rfl) T5.out).mono ?_
  rintro e w6 ⟨rfl, h6⟩
  have H6 : Hid (Has X0 wb w6 g (S.f3 a b)) := h6
  clear h6 H5 T5
  have hgr := (H6.out.base.block gc (block_lt_of_row HGC.out)).trans HGC.out
  obtain ⟨e0, e1, e2⟩ := cells3 hgr
  clear hgr
  go_wp2_with fail
  have CALL := at_crash (.slice aok KL capk) c wb w6 g (S.f3 a b) H6.out (Nat.le_of_ble_eq_true rfl) HBV.out
  rw [← HTN.out, ← HBY.out] at CALL
  refine CALL.mono ?_
  clear CALL e0 e1 e2
  rintro e w7 ⟨rfl, h7⟩
  obtain ⟨D4, hD4⟩ : ∃ D, D = (S.f3 a b).crash c := ⟨_, rfl⟩
  rw [← hD4] at h7
  have hl4 : D4.safe.length = 2 := by rw [hD4]; show (S.crashTo _ _ _ _).length = 2; rw [S.crashTo_length]; simp [S.f3, S.f2, S.Dk.flush, S.Dk.seen_length, S.Dk.went, S.f1, S.Dk.write, S.Dk.new]
  have s0 : D4.seen.getD 0 [] = S.sec a 128 := by rw [hD4]; exact S.f4_0 a b c
  have s1 : D4.seen.getD 1 [] = S.mix (c.of 0) (S.sec b 128) (S.zeros 128) := by rw [hD4]; exact S.f4_1 a b c
  have H7 := hide h7
  have HD4 := hide hD4
  have HL4 := hide hl4
  have HS0 := hide s0
  have HS1 := hide s1
  clear h7 H6 hD4 hl4 s0 s1
  go_wp2_with fail
  refine (at_read 0 wb w7 g D4 H7.out (by rw [HL4.out]; omega)).mono ?_
  rintro e w8 ⟨gx, rfl, hgx, rx, h8, b8⟩
  rw [HS0.out] at rx
  have RX := hide rx
  have H8 := hide h8
  clear rx h8 H7 b8 hgx
  go_wp2_with fail
  refine (at_read 1 wb w8 g D4 H8.out (by rw [HL4.out]; omega)).mono ?_
  rintro e w9 ⟨gy, rfl, hgy, ry, h9, b9⟩
  obtain ⟨Y, hY⟩ : ∃ Y, Y = S.mix (c.of 0) (S.sec b 128) (S.zeros 128) := ⟨_, rfl⟩
  rw [HS1.out, ← hY] at ry
  have HA := hide (H8.out.also b9 gy _ hgy ry)
  obtain ⟨X1, hX1⟩ : ∃ X1 : Nat → Option Obj, X1 = (fun j => if j = gy then some (.cells (S.v8 Y) 5 (0, 0)) else X0 j) := ⟨_, rfl⟩
  rw [← hX1] at HA
  have HX1 : Hid (X1 gy = some (.cells (S.v8 Y) 5 (0, 0))) := by show X1 gy = _; rw [hX1]; exact if_pos rfl
  have RX9 := hide ((b9.block gx (block_lt_of_row RX.out)).trans RX.out)
  obtain ⟨m, hm⟩ : ∃ m, m = c.of 0 := ⟨_, rfl⟩
  have hm128 : m ≤ 128 := by rw [hm]; exact c.of_le 0
  have HYA : Hid (∀ j, Y.getD j 0 = if j < m then (S.sec b 128).getD j 0 else 0) := fun j => by rw [hY, ← hm]; exact S.mix_at m _ (S.sec_length _ _) hm128 j
  have HYL : Hid (Y.length = 128) := by show Y.length = 128; rw [hY, S.mix_length _ _ _ (by rw [S.sec_length]; exact c.of_le 0) (by rw [S.sec_length, S.zeros_length]), S.zeros_length]
  have HMK : Hid (c.keep.getD 0 false = true → m = 128) := fun h => by rw [hm]; exact S.Cut.of_keep h
  obtain ⟨SA, hSA⟩ : ∃ SA, SA = S.sec a 128 := ⟨_, rfl⟩
  rw [← hSA] at RX9
  have HSA := hide hSA
  obtain ⟨B, hB⟩ : ∃ B, B = S.sec b 128 := ⟨_, rfl⟩
  rw [← hB] at HYA
  have HBB := hide hB
  have hBL : B.length = 128 := by rw [hB]; exact S.sec_length _ _
  clear ry h9 b9 hgy hX1 H8 RX HS0 HS1 hm hY hSA hB HL4 HBV HTN HBY
  go_wp2_with fail
  refine wp_region_noPanic ?_
  refine wp_region_held_drew (S := (fun W => W.heap[gx]? = some (.cells (S.v8 SA) 5 (0, 0)))) follows RX9.out (fun hHeld => ?_)
  have HAd := hide HA.out.drew
  have RXd : Hid (w9.drew.heap[gx]? = some (.cells (S.v8 SA) 5 (0, 0))) := RX9.out
  clear HA RX9
  generalize w9.drew = z1 at HAd RXd hHeld ⊢
  refine wpAnyH_take (i := 0) (oi := { dst := some 54, op := Op.move (Operand.tmp 9), type := 29, pos := "law.go:156", after := #[], guard := none }) (v := ?_) rfl (by kernel_rfl) (by kernel_rfl) (by kernel_rfl) (fun _ _ _ h => h) (Or.inl ⟨by rfl, ?_⟩) (by assumption) ?_
  rotate_left
  · intro w hSw
    clear hSw
    go_simp
    all_goals with_reducible rfl
  simp only [Act.put, List.setIfInBounds_toArray, List.set_cons_zero, List.set_cons_succ]
  refine wpAnyH_take (i := 1) (oi := { dst := some 55, op := Op.convert 29 9 (Operand.tmp 54), type := 9, pos := "law.go:156", after := #[{ on := 0, ground := Ground.data }], guard := none }) (v := .string ⟨SA.toArray⟩) rfl (by kernel_rfl) (by kernel_rfl) (by kernel_rfl) (fun _ _ _ h => h) (yieldsIf_conv (by kernel_rfl) (.tmp 54) rfl _ rfl SA (fun W hW => slice_row hW (by rw [HSA.out]; exact S.sec_length _ _) (by omega))) (by assumption) ?_
  simp only [Act.put, List.setIfInBounds_toArray, List.set_cons_zero, List.set_cons_succ]
  refine wpAnyH_take (i := 2) (oi := { dst := some 56, op := Op.move (Operand.tmp 0), type := 5, pos := "law.go:156", after := #[], guard := none }) (v := ?_) rfl (by kernel_rfl) (by kernel_rfl) (by kernel_rfl) (fun _ _ _ h => h) (Or.inl ⟨by rfl, ?_⟩) (by assumption) ?_
  rotate_left
  · intro w hSw
    clear hSw
    go_simp
    all_goals with_reducible rfl
  simp only [Act.put, List.setIfInBounds_toArray, List.set_cons_zero, List.set_cons_succ]
  refine wpAnyH_ready (rs := [3]) (by kernel_rfl) (by simp) ?_
  refine AllReadyH.cons (o := { dst := some 57, op := Op.call { callee := Callee.value (Operand.func 14), args := #[Operand.tmp 56, Operand.const (Value.int IntKind.i64 128)], argTypes := #[5, 3] }, type := 29, pos := "law.go:156", after := #[{ on := 2, ground := Ground.data }], guard := none }) rfl (fun K hK => ?_) AllReadyH.nil
  go_simp
  refine (sector_any a 128 z1 (by omega)).mono ?_
  rintro e z2 ⟨rfl, hr2, hb2⟩
  rw [← HSA.out] at hr2
  have HA2 := hide (HAd.out.below hb2)
  have R2 := hide hr2
  have SX2 := (hb2.block gx (block_lt_of_row RXd.out)).trans RXd.out
  clear hr2 hb2 HAd RXd
  generalize z1.heap.size = gs2 at *
  refine hK.out _ _ SX2 (fun hHeld => ?_)
  clear hK K
  try simp only [Act.put, List.setIfInBounds_toArray, List.set_cons_zero, List.set_cons_succ]
  refine wpAnyH_ready (rs := [4]) (by kernel_rfl) (by simp) ?_
  refine step_conv (o := { dst := some 58, op := Op.convert 29 9 (Operand.tmp 57), type := 9, pos := "law.go:156", after := #[{ on := 3, ground := Ground.data }], guard := none }) rfl rfl (.tmp 57) rfl _ rfl SA (slice_row R2.out (by rw [HSA.out]; exact S.sec_length _ _) (by omega)) AllReadyH.nil ⟨SX2, fun hHeld => ?_⟩
  simp only [Act.put, List.setIfInBounds_toArray, List.set_cons_zero, List.set_cons_succ]
  refine wpAnyH_take (i := 5) (oi := { dst := some 59, op := Op.binOp BinOp.neq 9 (Operand.tmp 55) (Operand.tmp 58) 9, type := 4, pos := "law.go:156", after := #[{ on := 1, ground := Ground.data }, { on := 4, ground := Ground.data }], guard := none }) (v := ?_) rfl (by kernel_rfl) (by kernel_rfl) (by kernel_rfl) (fun _ _ _ h => h) (Or.inl ⟨by rfl, ?_⟩) (by assumption) ?_
  rotate_left
  · intro w hSw
    clear hSw
    go_simp
    all_goals with_reducible rfl
  simp only [Act.put, List.setIfInBounds_toArray, List.set_cons_zero, List.set_cons_succ]
  refine wpAnyH_take (i := 6) (oi := { dst := some 60, op := Op.move (Operand.tmp 59), type := 4, pos := "law.go:156", after := #[{ on := 5, ground := Ground.data }, { on := 3, ground := Ground.chain }], guard := none }) (v := ?_) rfl (by kernel_rfl) (by kernel_rfl) (by kernel_rfl) (fun _ _ _ h => h) (Or.inl ⟨by rfl, ?_⟩) (by assumption) ?_
  rotate_left
  · intro w hSw
    clear hSw
    go_simp
    all_goals with_reducible rfl
  simp only [Act.put, List.setIfInBounds_toArray, List.set_cons_zero, List.set_cons_succ]
  refine wpAnyH_take (i := 7) (oi := { dst := some 61, op := Op.move (Operand.tmp 11), type := 29, pos := "law.go:156", after := #[{ on := 6, ground := Ground.guard }], guard := some (6, false) }) (v := ?_) rfl (by kernel_rfl) (by kernel_rfl) (by kernel_rfl) (fun _ _ _ h => h) (Or.inl ⟨by rfl, ?_⟩) (by assumption) ?_
  rotate_left
  · intro w hSw
    clear hSw
    go_simp
    all_goals with_reducible rfl
  simp only [Act.put, List.setIfInBounds_toArray, List.set_cons_zero, List.set_cons_succ]
  refine wpAnyH_take (i := 8) (oi := { dst := some 62, op := Op.call { callee := Callee.builtin Builtin.len, args := #[Operand.tmp 61], argTypes := #[29] }, type := 3, pos := "law.go:156", after := #[{ on := 7, ground := Ground.data }, { on := 6, ground := Ground.guard }], guard := some (6, false) }) (v := ?_) rfl (by kernel_rfl) (by kernel_rfl) (by kernel_rfl) (fun _ _ _ h => h) (Or.inl ⟨by rfl, ?_⟩) (by assumption) ?_
  rotate_left
  · intro w hSw
    clear hSw
    go_simp
    all_goals with_reducible rfl
  simp only [Act.put, List.setIfInBounds_toArray, List.set_cons_zero, List.set_cons_succ]
  refine wpAnyH_take (i := 9) (oi := { dst := some 63, op := Op.binOp BinOp.neq 3 (Operand.tmp 62) (Operand.const (Value.int IntKind.i64 128)) 3, type := 4, pos := "law.go:156", after := #[{ on := 8, ground := Ground.data }, { on := 6, ground := Ground.guard }], guard := some (6, false) }) (v := ?_) rfl (by kernel_rfl) (by kernel_rfl) (by kernel_rfl) (fun _ _ _ h => h) (Or.inl ⟨by rfl, ?_⟩) (by assumption) ?_
  rotate_left
  · intro w hSw
    clear hSw
    go_simp
    all_goals with_reducible rfl
  simp only [Act.put, List.setIfInBounds_toArray, List.set_cons_zero, List.set_cons_succ]
  refine wpAnyH_take (i := 10) (oi := { dst := some 64, op := Op.pick (Operand.tmp 60) (Operand.const (Value.bool true)) (Operand.tmp 63), type := 4, pos := "law.go:156", after := #[{ on := 6, ground := Ground.data }, { on := 9, ground := Ground.data }], guard := none }) (v := ?_) rfl (by kernel_rfl) (by kernel_rfl) (by kernel_rfl) (fun _ _ _ h => h) (Or.inl ⟨by rfl, ?_⟩) (by assumption) ?_
  rotate_left
  · intro w hSw
    clear hSw
    go_simp
    all_goals with_reducible rfl
  simp only [Act.put, List.setIfInBounds_toArray, List.set_cons_zero, List.set_cons_succ]
  refine wpAnyH_done (by kernel_rfl) ?_ _
  refine NoPanic.normal ?_
  clear hHeld R2 SX2
  go_wp2_with fail
  go_loopw [13] (fun i wr => ∃ n : Nat, n ≤ 128 ∧ i = .int .i64 (n : Int) ∧ (∀ j, j < n → Y.getD j 0 = B.getD j 0) ∧ Has X1 wb wr g D4) (fun i _ => 128 - (intOf i).toNat)
  case atStart => exact ⟨0, by omega, rfl, fun j hj => absurd hj (Nat.not_lt_zero _), HA2.out⟩
  case round =>
    obtain ⟨n, hn, rfl, heq, hh⟩ := hrel
    have HQ := hide heq
    have HE := hide hh
    clear HA2 heq hh
    by_cases hlt : n < 128
    · obtain ⟨yn, hyn⟩ : ∃ y, y = (Y.getD n 0).toNat := ⟨_, rfl⟩
      obtain ⟨bn, hbn⟩ : ∃ y, y = (B.getD n 0).toNat := ⟨_, rfl⟩
      have HYN := hide hyn
      have HBN := hide hbn
      have q1 : (0 : Int) ≤ (n : Int) := by omega
      have q2 : (n : Int) < 128 := by omega
      have q3 : IntKind.i64.wrap ((n : Int) + 1) = (n : Int) + 1 := by rw [IntKind.wrap_i64]; omega
      have RY := hide (HE.out.told HX1.out)
      clear hyn hbn
      go_wp2_with fail
      refine wp_region_noPanic ?_
      refine wp_region_held_drew (S := (fun W => W.heap[gy]? = some (.cells (S.v8 Y) 5 (0, 0)))) follows RY.out (fun hHeld => ?_)
      have HEd := hide HE.out.drew
      have RYd : Hid (wr.drew.heap[gy]? = some (.cells (S.v8 Y) 5 (0, 0))) := RY.out
      clear HE RY
      generalize wr.drew = z3 at HEd RYd hHeld ⊢
      refine wpAnyH_take (i := 0) (oi := { dst := some 65, op := Op.move (Operand.tmp 13), type := 3, pos := "law.go:160", after := #[], guard := none }) (v := ?_) rfl (by kernel_rfl) (by kernel_rfl) (by kernel_rfl) (fun _ _ _ h => h) (Or.inl ⟨by rfl, ?_⟩) (by assumption) ?_
      rotate_left
      · intro w hSw
        clear hSw
        go_simp
        all_goals with_reducible rfl
      simp only [Act.put, List.setIfInBounds_toArray, List.set_cons_zero, List.set_cons_succ]
      refine wpAnyH_take (i := 1) (oi := { dst := some 66, op := Op.binOp BinOp.lss 3 (Operand.tmp 65) (Operand.const (Value.int IntKind.i64 128)) 3, type := 4, pos := "law.go:160", after := #[{ on := 0, ground := Ground.data }], guard := none }) (v := ?_) rfl (by kernel_rfl) (by kernel_rfl) (by kernel_rfl) (fun _ _ _ h => h) (Or.inl ⟨by rfl, ?_⟩) (by assumption) ?_
      rotate_left
      · intro w hSw
        clear hSw
        go_simp
        all_goals with_reducible rfl
      simp only [Act.put, List.setIfInBounds_toArray, List.set_cons_zero, List.set_cons_succ]
      refine wpAnyH_take (i := 2) (oi := { dst := some 67, op := Op.move (Operand.tmp 66), type := 4, pos := "law.go:160", after := #[{ on := 1, ground := Ground.data }], guard := none }) (v := ?_) rfl (by kernel_rfl) (by kernel_rfl) (by kernel_rfl) (fun _ _ _ h => h) (Or.inl ⟨by rfl, ?_⟩) (by assumption) ?_
      rotate_left
      · intro w hSw
        clear hSw
        go_simp
        all_goals with_reducible rfl
      simp only [Act.put, List.setIfInBounds_toArray, List.set_cons_zero, List.set_cons_succ]
      refine wpAnyH_take (i := 3) (oi := { dst := some 68, op := Op.move (Operand.tmp 11), type := 29, pos := "law.go:160", after := #[{ on := 2, ground := Ground.guard }], guard := some (2, true) }) (v := ?_) rfl (by kernel_rfl) (by kernel_rfl) (by kernel_rfl) (fun _ _ _ h => h) (Or.inl ⟨by rfl, ?_⟩) (by assumption) ?_
      rotate_left
      · intro w hSw
        clear hSw
        go_simp
        all_goals with_reducible rfl
      simp only [Act.put, List.setIfInBounds_toArray, List.set_cons_zero, List.set_cons_succ]
      refine wpAnyH_take (i := 4) (oi := { dst := some 69, op := Op.move (Operand.tmp 13), type := 3, pos := "law.go:160", after := #[{ on := 2, ground := Ground.guard }], guard := some (2, true) }) (v := ?_) rfl (by kernel_rfl) (by kernel_rfl) (by kernel_rfl) (fun _ _ _ h => h) (Or.inl ⟨by rfl, ?_⟩) (by assumption) ?_
      rotate_left
      · intro w hSw
        clear hSw
        go_simp
        all_goals with_reducible rfl
      simp only [Act.put, List.setIfInBounds_toArray, List.set_cons_zero, List.set_cons_succ]
      refine wpAnyH_take (i := 5) (oi := { dst := some 70, op := Op.indexAddr 29 (Operand.tmp 68) (Operand.tmp 69), type := 0, pos := "law.go:160", after := #[{ on := 3, ground := Ground.data }, { on := 4, ground := Ground.data }, { on := 2, ground := Ground.guard }], guard := some (2, true) }) (v := ?_) rfl (by kernel_rfl) (by kernel_rfl) (by kernel_rfl) (fun _ _ _ h => h) (Or.inl ⟨by rfl, ?_⟩) (by assumption) ?_
      rotate_left
      · intro w hSw
        clear hSw
        go_simp
        all_goals with_reducible rfl
      simp only [Act.put, List.setIfInBounds_toArray, List.set_cons_zero, List.set_cons_succ]
      refine wpAnyH_take (i := 6) (oi := { dst := some 71, op := Op.load 5 (Operand.tmp 70), type := 5, pos := "law.go:160", after := #[{ on := 5, ground := Ground.data }, { on := 2, ground := Ground.guard }], guard := some (2, true) }) (v := ?_) rfl (by kernel_rfl) (by kernel_rfl) (by kernel_rfl) (fun _ _ _ h => h) (Or.inl ⟨by rfl, ?_⟩) (by assumption) ?_
      rotate_left
      · intro w hSw
        have cy : w.cell? ⟨gy, n, none⟩ = some (.int .u8 (yn : Int)) := by rw [HYN.out]; exact v8_cell hSw n (by rw [HYL.out]; exact hlt)
        clear hSw
        go_simp
        all_goals with_reducible rfl
      simp only [Act.put, List.setIfInBounds_toArray, List.set_cons_zero, List.set_cons_succ]
      refine wpAnyH_take (i := 7) (oi := { dst := some 72, op := Op.move (Operand.tmp 1), type := 5, pos := "law.go:160", after := #[{ on := 2, ground := Ground.guard }], guard := some (2, true) }) (v := ?_) rfl (by kernel_rfl) (by kernel_rfl) (by kernel_rfl) (fun _ _ _ h => h) (Or.inl ⟨by rfl, ?_⟩) (by assumption) ?_
      rotate_left
      · intro w hSw
        clear hSw
        go_simp
        all_goals with_reducible rfl
      simp only [Act.put, List.setIfInBounds_toArray, List.set_cons_zero, List.set_cons_succ]
      refine wpAnyH_take (i := 9) (oi := { dst := some 74, op := Op.move (Operand.tmp 13), type := 3, pos := "law.go:160", after := #[{ on := 2, ground := Ground.guard }], guard := some (2, true) }) (v := ?_) rfl (by kernel_rfl) (by kernel_rfl) (by kernel_rfl) (fun _ _ _ h => h) (Or.inl ⟨by rfl, ?_⟩) (by assumption) ?_
      rotate_left
      · intro w hSw
        clear hSw
        go_simp
        all_goals with_reducible rfl
      simp only [Act.put, List.setIfInBounds_toArray, List.set_cons_zero, List.set_cons_succ]
      refine wpAnyH_ready (rs := [8]) (by kernel_rfl) (by simp) ?_
      refine AllReadyH.cons (o := { dst := some 73, op := Op.call { callee := Callee.value (Operand.func 14), args := #[Operand.tmp 72, Operand.const (Value.int IntKind.i64 128)], argTypes := #[5, 3] }, type := 29, pos := "law.go:160", after := #[{ on := 7, ground := Ground.data }, { on := 2, ground := Ground.chain }, { on := 2, ground := Ground.guard }], guard := some (2, true) }) rfl (fun K hK => ?_) AllReadyH.nil
      go_simp
      refine (sector_any b 128 z3 (by omega)).mono ?_
      rintro e z4 ⟨rfl, hr4, hb4⟩
      rw [← HBB.out] at hr4
      have HE4 := hide (HEd.out.below hb4)
      have R4 := hide hr4
      have SY4 := (hb4.block gy (block_lt_of_row RYd.out)).trans RYd.out
      clear hr4 hb4 HEd RYd
      generalize z3.heap.size = gs4 at *
      refine hK.out _ _ SY4 (fun hHeld => ?_)
      clear hK K
      try simp only [Act.put, List.setIfInBounds_toArray, List.set_cons_zero, List.set_cons_succ]
      refine wpAnyH_take (i := 10) (oi := { dst := some 75, op := Op.indexAddr 29 (Operand.tmp 73) (Operand.tmp 74), type := 0, pos := "law.go:160", after := #[{ on := 8, ground := Ground.data }, { on := 9, ground := Ground.data }, { on := 2, ground := Ground.guard }], guard := some (2, true) }) (v := ?_) rfl (by kernel_rfl) (by kernel_rfl) (by kernel_rfl) (fun _ _ _ h => h) (Or.inl ⟨by rfl, ?_⟩) (by assumption) ?_
      rotate_left
      · intro w hSw
        clear hSw
        go_simp
        all_goals with_reducible rfl
      simp only [Act.put, List.setIfInBounds_toArray, List.set_cons_zero, List.set_cons_succ]
      refine wpAnyH_ready (rs := [11]) (by kernel_rfl) (by simp) ?_
      refine AllReadyH.cons (o := { dst := some 76, op := Op.load 5 (Operand.tmp 75), type := 5, pos := "law.go:160", after := #[{ on := 10, ground := Ground.data }, { on := 2, ground := Ground.guard }], guard := some (2, true) }) rfl (fun K hK => ?_) AllReadyH.nil
      have cb : z4.cell? ⟨gs4, n, none⟩ = some (.int .u8 (bn : Int)) := by rw [HBN.out]; exact v8_cell R4.out n (by rw [hBL]; exact hlt)
      go_simp
      refine hK.out _ _ SY4 (fun hHeld => ?_)
      clear hK K cb
      try simp only [Act.put, List.setIfInBounds_toArray, List.set_cons_zero, List.set_cons_succ]
      clear R4 SY4
      by_cases he : yn = bn
      · subst he
        refine wpAnyH_take (i := 12) (oi := { dst := some 77, op := Op.binOp BinOp.eql 5 (Operand.tmp 71) (Operand.tmp 76) 5, type := 4, pos := "law.go:160", after := #[{ on := 6, ground := Ground.data }, { on := 11, ground := Ground.data }, { on := 2, ground := Ground.guard }], guard := some (2, true) }) (v := ?_) rfl (by kernel_rfl) (by kernel_rfl) (by kernel_rfl) (fun _ _ _ h => h) (Or.inl ⟨by rfl, ?_⟩) (by assumption) ?_
        rotate_left
        · intro w hSw
          clear hSw
          go_simp
          all_goals with_reducible rfl
        simp only [Act.put, List.setIfInBounds_toArray, List.set_cons_zero, List.set_cons_succ]
        refine wpAnyH_take (i := 13) (oi := { dst := some 78, op := Op.pick (Operand.tmp 67) (Operand.tmp 77) (Operand.const (Value.bool false)), type := 4, pos := "law.go:160", after := #[{ on := 2, ground := Ground.data }, { on := 12, ground := Ground.data }], guard := none }) (v := ?_) rfl (by kernel_rfl) (by kernel_rfl) (by kernel_rfl) (fun _ _ _ h => h) (Or.inl ⟨by rfl, ?_⟩) (by assumption) ?_
        rotate_left
        · intro w hSw
          clear hSw
          go_simp
          all_goals with_reducible rfl
        simp only [Act.put, List.setIfInBounds_toArray, List.set_cons_zero, List.set_cons_succ]
        refine wpAnyH_done (by kernel_rfl) ?_ _
        refine NoPanic.normal ?_
        clear hHeld
        go_wp2_with fail
        go_roundw
        case rel =>
          refine ⟨n + 1, by omega, by go_num, fun j hj => ?_, HE4.out⟩
          rcases Nat.lt_succ_iff_lt_or_eq.1 hj with h | h
          · exact HQ.out j h
          · rw [h]; exact UInt8.toNat_inj.1 (HYN.out.symm.trans HBN.out)
        case measure => simp [intOf]; omega
      · have hf : ((yn : Int) == (bn : Int)) = false := by rw [beq_eq_false_iff_ne]; omega
        refine wpAnyH_take (i := 12) (oi := { dst := some 77, op := Op.binOp BinOp.eql 5 (Operand.tmp 71) (Operand.tmp 76) 5, type := 4, pos := "law.go:160", after := #[{ on := 6, ground := Ground.data }, { on := 11, ground := Ground.data }, { on := 2, ground := Ground.guard }], guard := some (2, true) }) (v := ?_) rfl (by kernel_rfl) (by kernel_rfl) (by kernel_rfl) (fun _ _ _ h => h) (Or.inl ⟨by rfl, ?_⟩) (by assumption) ?_
        rotate_left
        · intro w hSw
          clear hSw
          go_simp
          all_goals with_reducible rfl
        simp only [Act.put, List.setIfInBounds_toArray, List.set_cons_zero, List.set_cons_succ]
        refine wpAnyH_take (i := 13) (oi := { dst := some 78, op := Op.pick (Operand.tmp 67) (Operand.tmp 77) (Operand.const (Value.bool false)), type := 4, pos := "law.go:160", after := #[{ on := 2, ground := Ground.data }, { on := 12, ground := Ground.data }], guard := none }) (v := ?_) rfl (by kernel_rfl) (by kernel_rfl) (by kernel_rfl) (fun _ _ _ h => h) (Or.inl ⟨by rfl, ?_⟩) (by assumption) ?_
        rotate_left
        · intro w hSw
          clear hSw
          go_simp
          all_goals with_reducible rfl
        simp only [Act.put, List.setIfInBounds_toArray, List.set_cons_zero, List.set_cons_succ]
        refine wpAnyH_done (by kernel_rfl) ?_ _
        refine NoPanic.normal ?_
        clear hHeld
        have hnm : m ≤ n := by
          rcases Nat.lt_or_ge n m with h | h
          · exact absurd (by rw [HYN.out, HBN.out, HYA.out n, if_pos h]) he
          · exact h
        have HZ : Hid (∀ i, n ≤ i → i < 128 → Y.getD i 0 = 0) := fun i h1 _ => by rw [HYA.out i, if_neg (by omega)]
        have HK1 : Hid (c.keep.getD 0 false = true → n = 128) := fun h => by have := HMK.out h; omega
        have HE := HE4
        clear HE4 HYN HBN HQ hf he hnm
        go_wp2_with fail
        go_loopw [14] (fun i w2 => ∃ j : Nat, n ≤ j ∧ j ≤ 128 ∧ i = .int .i64 (j : Int) ∧ Has X1 wb w2 g D4) (fun i _ => 128 - (intOf i).toNat)
        case atStart => exact ⟨n, Nat.le_refl _, hn, rfl, HE.out⟩
        case round =>
          obtain ⟨j, hj1, hj2, rfl, hh⟩ := hrel
          have HJ := hide hh
          clear HE
          have hrow := hh.told HX1.out
          by_cases hlt : j < 128
          · have cj := v8_cell hrow j (by rw [HYL.out]; exact hlt)
            rw [HZ.out j hj1 hlt] at cj
            have cj' : wr.cell? ⟨gy, j, none⟩ = some (.int .u8 0) := cj
            have p1 : (0 : Int) ≤ (j : Int) := by omega
            have p2 : (j : Int) < 128 := by omega
            have p3 : IntKind.i64.wrap ((j : Int) + 1) = (j : Int) + 1 := by rw [IntKind.wrap_i64]; omega
            clear hrow hh cj
            go_wp2_with fail
            go_roundw
            case rel => exact ⟨j + 1, by omega, by omega, by go_num, HJ.out⟩
            case measure => simp [intOf]; omega
          · obtain rfl : j = 128 := by omega
            have hgc := (HJ.out.base.block gc (block_lt_of_row HGC.out)).trans HGC.out
            obtain ⟨e0, e1, e2⟩ := cells3 hgc
            clear hrow hh hgc
            by_cases hK0 : 0 < KL
            · obtain ⟨bb, oo, hao, hbl, hbc⟩ := HKC.out hK0
              subst hao
              have cb : wr.cell? ⟨bb, oo, none⟩ = some (.bool (c.keep.getD 0 false)) := (HJ.out.base.cell (p := ⟨bb, oo, none⟩) hbl).trans (hbc 0 hK0)
              have r1 : (0 : Int) < (KL : Int) := by omega
              clear hbc hbl
              cases hkb : c.keep.getD 0 false
              · rw [hkb] at cb
                clear hkb
                go_wp2_with fail
                refine (at_pending wb wr g D4 HJ.out).mono ?_
                rintro e wp ⟨rfl, rfl⟩
                rw [show (D4.pend.length : Int) = 0 from by rw [HD4.out]; rfl]
                go_wp2_with fail
                refine (known_any wr).mono ?_
                rintro e wk ⟨rfl, hbk⟩
                have HB := hide (HWB.out.trans ((HJ.out.base.trans (hbk.mono HJ.out.base.size)).mono HWB.out.size))
                clear hbk
                go_wp2_with fail
                go_ret
                exact ⟨rfl, HB.out⟩
              · rw [hkb] at cb
                have hn8 : ((n : Int) == 128) = true := by have := HK1.out hkb; rw [beq_iff_eq]; omega
                clear hkb
                go_wp2_with fail
                refine (at_pending wb wr g D4 HJ.out).mono ?_
                rintro e wp ⟨rfl, rfl⟩
                rw [show (D4.pend.length : Int) = 0 from by rw [HD4.out]; rfl]
                go_wp2_with fail
                refine (known_any wr).mono ?_
                rintro e wk ⟨rfl, hbk⟩
                have HB := hide (HWB.out.trans ((HJ.out.base.trans (hbk.mono HJ.out.base.size)).mono HWB.out.size))
                clear hbk
                go_wp2_with fail
                go_ret
                exact ⟨rfl, HB.out⟩
            · obtain rfl : 0 = KL := by omega
              go_wp2_with fail
              refine (at_pending wb wr g D4 HJ.out).mono ?_
              rintro e wp ⟨rfl, rfl⟩
              rw [show (D4.pend.length : Int) = 0 from by rw [HD4.out]; rfl]
              go_wp2_with fail
              refine (known_any wr).mono ?_
              rintro e wk ⟨rfl, hbk⟩
              have HB := hide (HWB.out.trans ((HJ.out.base.trans (hbk.mono HJ.out.base.size)).mono HWB.out.size))
              clear hbk
              go_wp2_with fail
              go_ret
              exact ⟨rfl, HB.out⟩
    · have hn128 : n = 128 := by omega
      have q2' : ¬ ((n : Int) < 128) := by omega
      have HZ : Hid (∀ i, n ≤ i → i < 128 → Y.getD i 0 = 0) := fun i h1 h2 => by omega
      have HK1 : Hid (c.keep.getD 0 false = true → n = 128) := fun _ => hn128
      clear hlt HQ hn128
      go_wp2_with fail
      refine wp_region_noPanic ?_
      refine wp_region_held_drew (S := (fun W => W.heap = wr.heap)) follows rfl (fun hHeld => ?_)
      have HEd := hide HE.out.drew
      clear HE
      refine wpAnyH_take (i := 0) (oi := { dst := some 65, op := Op.move (Operand.tmp 13), type := 3, pos := "law.go:160", after := #[], guard := none }) (v := ?_) rfl (by kernel_rfl) (by kernel_rfl) (by kernel_rfl) (fun _ _ _ h => h) (Or.inl ⟨by rfl, ?_⟩) (by assumption) ?_
      rotate_left
      · intro w hSw
        clear hSw
        go_simp
        all_goals with_reducible rfl
      simp only [Act.put, List.setIfInBounds_toArray, List.set_cons_zero, List.set_cons_succ]
      refine wpAnyH_take (i := 1) (oi := { dst := some 66, op := Op.binOp BinOp.lss 3 (Operand.tmp 65) (Operand.const (Value.int IntKind.i64 128)) 3, type := 4, pos := "law.go:160", after := #[{ on := 0, ground := Ground.data }], guard := none }) (v := .bool false) rfl (by kernel_rfl) (by kernel_rfl) (by kernel_rfl) (fun _ _ _ h => h) (Or.inl ⟨by rfl, ?_⟩) (by assumption) ?_
      · intro w hSw
        clear hSw
        have hd8 : decide ((n : Int) < 128) = false := decide_eq_false (by omega)
        go_simp
      simp only [Act.put, List.setIfInBounds_toArray, List.set_cons_zero, List.set_cons_succ]
      refine wpAnyH_take (i := 2) (oi := { dst := some 67, op := Op.move (Operand.tmp 66), type := 4, pos := "law.go:160", after := #[{ on := 1, ground := Ground.data }], guard := none }) (v := ?_) rfl (by kernel_rfl) (by kernel_rfl) (by kernel_rfl) (fun _ _ _ h => h) (Or.inl ⟨by rfl, ?_⟩) (by assumption) ?_
      rotate_left
      · intro w hSw
        clear hSw
        go_simp
        all_goals with_reducible rfl
      simp only [Act.put, List.setIfInBounds_toArray, List.set_cons_zero, List.set_cons_succ]
      refine wpAnyH_take (i := 3) (oi := { dst := some 68, op := Op.move (Operand.tmp 11), type := 29, pos := "law.go:160", after := #[{ on := 2, ground := Ground.guard }], guard := some (2, true) }) (v := undef) rfl (by kernel_rfl) (by kernel_rfl) (by kernel_rfl) (fun _ _ _ h => h) (Or.inr ⟨by rfl, rfl⟩) (by assumption) ?_
      simp only [Act.put, List.setIfInBounds_toArray, List.set_cons_zero, List.set_cons_succ]
      refine wpAnyH_take (i := 4) (oi := { dst := some 69, op := Op.move (Operand.tmp 13), type := 3, pos := "law.go:160", after := #[{ on := 2, ground := Ground.guard }], guard := some (2, true) }) (v := undef) rfl (by kernel_rfl) (by kernel_rfl) (by kernel_rfl) (fun _ _ _ h => h) (Or.inr ⟨by rfl, rfl⟩) (by assumption) ?_
      simp only [Act.put, List.setIfInBounds_toArray, List.set_cons_zero, List.set_cons_succ]
      refine wpAnyH_take (i := 5) (oi := { dst := some 70, op := Op.indexAddr 29 (Operand.tmp 68) (Operand.tmp 69), type := 0, pos := "law.go:160", after := #[{ on := 3, ground := Ground.data }, { on := 4, ground := Ground.data }, { on := 2, ground := Ground.guard }], guard := some (2, true) }) (v := undef) rfl (by kernel_rfl) (by kernel_rfl) (by kernel_rfl) (fun _ _ _ h => h) (Or.inr ⟨by rfl, rfl⟩) (by assumption) ?_
      simp only [Act.put, List.setIfInBounds_toArray, List.set_cons_zero, List.set_cons_succ]
      refine wpAnyH_take (i := 6) (oi := { dst := some 71, op := Op.load 5 (Operand.tmp 70), type := 5, pos := "law.go:160", after := #[{ on := 5, ground := Ground.data }, { on := 2, ground := Ground.guard }], guard := some (2, true) }) (v := undef) rfl (by kernel_rfl) (by kernel_rfl) (by kernel_rfl) (fun _ _ _ h => h) (Or.inr ⟨by rfl, rfl⟩) (by assumption) ?_
      simp only [Act.put, List.setIfInBounds_toArray, List.set_cons_zero, List.set_cons_succ]
      refine wpAnyH_take (i := 7) (oi := { dst := some 72, op := Op.move (Operand.tmp 1), type := 5, pos := "law.go:160", after := #[{ on := 2, ground := Ground.guard }], guard := some (2, true) }) (v := undef) rfl (by kernel_rfl) (by kernel_rfl) (by kernel_rfl) (fun _ _ _ h => h) (Or.inr ⟨by rfl, rfl⟩) (by assumption) ?_
      simp only [Act.put, List.setIfInBounds_toArray, List.set_cons_zero, List.set_cons_succ]
      refine wpAnyH_take (i := 8) (oi := { dst := some 73, op := Op.call { callee := Callee.value (Operand.func 14), args := #[Operand.tmp 72, Operand.const (Value.int IntKind.i64 128)], argTypes := #[5, 3] }, type := 29, pos := "law.go:160", after := #[{ on := 7, ground := Ground.data }, { on := 2, ground := Ground.chain }, { on := 2, ground := Ground.guard }], guard := some (2, true) }) (v := undef) rfl (by kernel_rfl) (by kernel_rfl) (by kernel_rfl) (fun _ _ _ h => h) (Or.inr ⟨by rfl, rfl⟩) (by assumption) ?_
      simp only [Act.put, List.setIfInBounds_toArray, List.set_cons_zero, List.set_cons_succ]
      refine wpAnyH_take (i := 9) (oi := { dst := some 74, op := Op.move (Operand.tmp 13), type := 3, pos := "law.go:160", after := #[{ on := 2, ground := Ground.guard }], guard := some (2, true) }) (v := undef) rfl (by kernel_rfl) (by kernel_rfl) (by kernel_rfl) (fun _ _ _ h => h) (Or.inr ⟨by rfl, rfl⟩) (by assumption) ?_
      simp only [Act.put, List.setIfInBounds_toArray, List.set_cons_zero, List.set_cons_succ]
      refine wpAnyH_take (i := 10) (oi := { dst := some 75, op := Op.indexAddr 29 (Operand.tmp 73) (Operand.tmp 74), type := 0, pos := "law.go:160", after := #[{ on := 8, ground := Ground.data }, { on := 9, ground := Ground.data }, { on := 2, ground := Ground.guard }], guard := some (2, true) }) (v := undef) rfl (by kernel_rfl) (by kernel_rfl) (by kernel_rfl) (fun _ _ _ h => h) (Or.inr ⟨by rfl, rfl⟩) (by assumption) ?_
      simp only [Act.put, List.setIfInBounds_toArray, List.set_cons_zero, List.set_cons_succ]
      refine wpAnyH_take (i := 11) (oi := { dst := some 76, op := Op.load 5 (Operand.tmp 75), type := 5, pos := "law.go:160", after := #[{ on := 10, ground := Ground.data }, { on := 2, ground := Ground.guard }], guard := some (2, true) }) (v := undef) rfl (by kernel_rfl) (by kernel_rfl) (by kernel_rfl) (fun _ _ _ h => h) (Or.inr ⟨by rfl, rfl⟩) (by assumption) ?_
      simp only [Act.put, List.setIfInBounds_toArray, List.set_cons_zero, List.set_cons_succ]
      refine wpAnyH_take (i := 12) (oi := { dst := some 77, op := Op.binOp BinOp.eql 5 (Operand.tmp 71) (Operand.tmp 76) 5, type := 4, pos := "law.go:160", after := #[{ on := 6, ground := Ground.data }, { on := 11, ground := Ground.data }, { on := 2, ground := Ground.guard }], guard := some (2, true) }) (v := undef) rfl (by kernel_rfl) (by kernel_rfl) (by kernel_rfl) (fun _ _ _ h => h) (Or.inr ⟨by rfl, rfl⟩) (by assumption) ?_
      simp only [Act.put, List.setIfInBounds_toArray, List.set_cons_zero, List.set_cons_succ]
      refine wpAnyH_take (i := 13) (oi := { dst := some 78, op := Op.pick (Operand.tmp 67) (Operand.tmp 77) (Operand.const (Value.bool false)), type := 4, pos := "law.go:160", after := #[{ on := 2, ground := Ground.data }, { on := 12, ground := Ground.data }], guard := none }) (v := ?_) rfl (by kernel_rfl) (by kernel_rfl) (by kernel_rfl) (fun _ _ _ h => h) (Or.inl ⟨by rfl, ?_⟩) (by assumption) ?_
      rotate_left
      · intro w hSw
        clear hSw
        go_simp
        all_goals with_reducible rfl
      simp only [Act.put, List.setIfInBounds_toArray, List.set_cons_zero, List.set_cons_succ]
      refine wpAnyH_done (by kernel_rfl) ?_ _
      refine NoPanic.normal ?_
      clear hHeld
      have HE := HEd
      clear HEd
      generalize wr.drew = wq at *
      go_wp2_with fail
      go_loopw [14] (fun i w2 => ∃ j : Nat, n ≤ j ∧ j ≤ 128 ∧ i = .int .i64 (j : Int) ∧ Has X1 wb w2 g D4) (fun i _ => 128 - (intOf i).toNat)
      case atStart => exact ⟨n, Nat.le_refl _, hn, rfl, HE.out⟩
      case round =>
        obtain ⟨j, hj1, hj2, rfl, hh⟩ := hrel
        have HJ := hide hh
        clear HE
        have hrow := hh.told HX1.out
        by_cases hlt : j < 128
        · have cj := v8_cell hrow j (by rw [HYL.out]; exact hlt)
          rw [HZ.out j hj1 hlt] at cj
          have cj' : wr.cell? ⟨gy, j, none⟩ = some (.int .u8 0) := cj
          have p1 : (0 : Int) ≤ (j : Int) := by omega
          have p2 : (j : Int) < 128 := by omega
          have p3 : IntKind.i64.wrap ((j : Int) + 1) = (j : Int) + 1 := by rw [IntKind.wrap_i64]; omega
          clear hrow hh cj
          go_wp2_with fail
          go_roundw
          case rel => exact ⟨j + 1, by omega, by omega, by go_num, HJ.out⟩
          case measure => simp [intOf]; omega
        · obtain rfl : j = 128 := by omega
          have hgc := (HJ.out.base.block gc (block_lt_of_row HGC.out)).trans HGC.out
          obtain ⟨e0, e1, e2⟩ := cells3 hgc
          clear hrow hh hgc
          by_cases hK0 : 0 < KL
          · obtain ⟨bb, oo, hao, hbl, hbc⟩ := HKC.out hK0
            subst hao
            have cb : wr.cell? ⟨bb, oo, none⟩ = some (.bool (c.keep.getD 0 false)) := (HJ.out.base.cell (p := ⟨bb, oo, none⟩) hbl).trans (hbc 0 hK0)
            have r1 : (0 : Int) < (KL : Int) := by omega
            clear hbc hbl
            cases hkb : c.keep.getD 0 false
            · rw [hkb] at cb
              clear hkb
              go_wp2_with fail
              refine (at_pending wb wr g D4 HJ.out).mono ?_
              rintro e wp ⟨rfl, rfl⟩
              rw [show (D4.pend.length : Int) = 0 from by rw [HD4.out]; rfl]
              go_wp2_with fail
              refine (known_any wr).mono ?_
              rintro e wk ⟨rfl, hbk⟩
              have HB := hide (HWB.out.trans ((HJ.out.base.trans (hbk.mono HJ.out.base.size)).mono HWB.out.size))
              clear hbk
              go_wp2_with fail
              go_ret
              exact ⟨rfl, HB.out⟩
            · rw [hkb] at cb
              have hn8 : ((n : Int) == 128) = true := by have := HK1.out hkb; rw [beq_iff_eq]; omega
              clear hkb
              go_wp2_with fail
              refine (at_pending wb wr g D4 HJ.out).mono ?_
              rintro e wp ⟨rfl, rfl⟩
              rw [show (D4.pend.length : Int) = 0 from by rw [HD4.out]; rfl]
              go_wp2_with fail
              refine (known_any wr).mono ?_
              rintro e wk ⟨rfl, hbk⟩
              have HB := hide (HWB.out.trans ((HJ.out.base.trans (hbk.mono HJ.out.base.size)).mono HWB.out.size))
              clear hbk
              go_wp2_with fail
              go_ret
              exact ⟨rfl, HB.out⟩
          · obtain rfl : 0 = KL := by omega
            go_wp2_with fail
            refine (at_pending wb wr g D4 HJ.out).mono ?_
            rintro e wp ⟨rfl, rfl⟩
            rw [show (D4.pend.length : Int) = 0 from by rw [HD4.out]; rfl]
            go_wp2_with fail
            refine (known_any wr).mono ?_
            rintro e wk ⟨rfl, hbk⟩
            have HB := hide (HWB.out.trans ((HJ.out.base.trans (hbk.mono HJ.out.base.size)).mono HWB.out.size))
            clear hbk
            go_wp2_with fail
            go_ret
            exact ⟨rfl, HB.out⟩
end Go.Proofs.Ytjnbjgkcliaipaa
