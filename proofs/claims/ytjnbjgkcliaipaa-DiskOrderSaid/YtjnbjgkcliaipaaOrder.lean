/- DiskOrder: of writes of one sector the last one that is kept is there; all kept is as flushed. -/
import Derived.Test.YtjnbjgkcliaipaaDuo
namespace Go.Proofs.Ytjnbjgkcliaipaa
open Go.RowKit
set_option maxHeartbeats 3200000 in
set_option maxRecDepth 100000 in
theorem order_walk (a0 a1 : Option Addr) (L c0 L1 c1 : Nat) (fs : List UInt8) (ks : List Bool) (w : World) (hv : 0 < L → ∃ b off, a0 = some ⟨b, off, none⟩ ∧ b < w.heap.size ∧ ∀ j, j < L → w.cell? ⟨b, off + j, none⟩ = some (.int .u8 ((fs.getD j 0).toNat : Int))) (hk : BoolsAt w (.slice a1 L1 c1) ks) :
   Calls Try.prog 7 #[.slice a0 L c0, .slice a1 L1 c1] w fun e w' => e = .returned (.bool true) ∧ Below w.heap.size w w' := by
  have HV := hide hv
  have HK := hide hk
  obtain ⟨ao, cap, e, _, hkc⟩ := hk
  simp only [Value.slice.injEq] at e
  obtain ⟨rfl, hL1, rfl⟩ := e
  rw [← hL1] at hkc
  have HKC := hide hkc
  clear hv hkc hL1
  go_enter Try.func7, Try.ntmps7
  go_wp2_with fail
  refine (at_begun 1 w w (by omega) (by omega) (Below.refl _ _)).mono ?_
  rintro e w1 ⟨g1, rfl, h1, -⟩
  have H1 := hide h1
  clear h1
  go_wp2_with fail
  refine (duo_begun 1 w w1 g1 _ (by omega) (by omega) H1.out).mono ?_
  rintro e w2 ⟨g2, rfl, h2⟩
  have U0 : Hid (Duo w w2 g1 (S.ord fs 0) g2 (S.ord fs 0)) := h2
  clear h2 H1
  go_wp2_with fail
  go_loopw [9, 10, 11] (fun la so i wr => ∃ k : Nat, k ≤ 12 ∧ k ≤ L ∧ i = .int .i64 (k : Int) ∧ so = .bool (S.lastOf fs ks k).isSome ∧ la = .int .u8 (((S.lastOf fs ks k).getD 0).toNat : Int) ∧ Duo w wr g1 (S.ord fs k) g2 (S.ord fs k)) (fun _ _ i _ => 12 - (intOf i).toNat)
  case atStart => exact ⟨0, by omega, Nat.zero_le _, rfl, rfl, rfl, U0.out⟩
  case round =>
    obtain ⟨k, hk12, hkL, rfl, rfl, rfl, hu⟩ := hrel
    have HU := hide hu
    clear U0 hu
    by_cases hlt : k < L
    · by_cases h12 : k < 12
      · obtain ⟨b, off, hao, hbl, hcell⟩ := HV.out (by omega)
        subst hao
        obtain ⟨f, hf⟩ : ∃ f, f = fs.getD k 0 := ⟨_, rfl⟩
        have HCK : Hid (w.cell? ⟨b, off + k, none⟩ = some (.int .u8 (f.toNat : Int))) := by show _ = _; rw [hf]; exact hcell k hlt
        have HBL := hide hbl
        have HF := hide hf
        have hck := (HU.out.base.cell (p := ⟨b, off + k, none⟩) hbl).trans HCK.out
        have q1 : (0 : Int) ≤ (k : Int) := by omega
        have q2 : (k : Int) < (L : Int) := by omega
        have q3 : (k : Int) < 12 := by omega
        have q4 : IntKind.i64.wrap ((k : Int) + 1) = (k : Int) + 1 := by rw [IntKind.wrap_i64]; omega
        clear hcell hbl hf
        go_wp2_with fail
        refine (duo_sector f 128 w wr g1 g2 _ _ HU.out (by omega)).mono ?_
        rintro e w3 ⟨gs3, rfl, u3, t3, -, -, -⟩
        have U3 := hide u3
        have T3 := hide t3
        clear u3 t3 HU hck
        go_wp2_with fail
        refine (duo_write 0 _ (S.sec f 128) w w3 g1 g2 _ _ U3.out (by show 0 < 1; omega) rfl (S.sec_length _ _) (by rw [S.ord_len]; omega) T3.out).mono ?_
        rintro e w4 ⟨rfl, u4⟩
        rw [HF.out, S.ord_next] at u4
        have U4 := hide u4
        have hck := (u4.base.cell (p := ⟨b, off + k, none⟩) HBL.out).trans HCK.out
        clear u4 U3 T3
        go_wp2_with fail
        refine (duo_sector f 128 w w4 g1 g2 _ _ U4.out (by omega)).mono ?_
        rintro e w5 ⟨gs5, rfl, u5, -, t5, -, -⟩
        have U5 := hide u5
        have T5 := hide t5
        clear u5 t5 U4 hck
        go_wp2_with fail
        refine (duo_write 0 _ (S.sec f 128) w w5 g2 g1 _ _ U5.out.swap (by show 0 < 1; omega) rfl (S.sec_length _ _) (by rw [S.ord_len]; omega) T5.out).mono ?_
        rintro e w6 ⟨rfl, u6⟩
        rw [HF.out, S.ord_next] at u6
        have U6 := hide u6.swap
        have hck := (u6.base.cell (p := ⟨b, off + k, none⟩) HBL.out).trans HCK.out
        clear u6 U5 T5
        by_cases hk1 : k < L1
        · obtain ⟨bb, oo, hao, hbb, hbc⟩ := HKC.out (by omega)
          subst hao
          have hcb := (U6.out.base.cell (p := ⟨bb, oo + k, none⟩) hbb).trans (hbc k hk1)
          have q5 : (k : Int) < (L1 : Int) := by omega
          clear hbb hbc
          cases hkb : ks.getD k false
          · rw [hkb] at hcb
            have E : Hid (S.lastOf fs ks (k + 1) = S.lastOf fs ks k) := by show (if ks.getD k false = true then _ else _) = _; rw [hkb]; rfl
            clear hkb
            go_wp2_with fail
            go_roundw
            case rel => exact ⟨k + 1, by omega, by omega, by go_num, by rw [E.out], by rw [E.out], U6.out⟩
            case measure => simp [intOf]; omega
          · rw [hkb] at hcb
            have E : Hid (S.lastOf fs ks (k + 1) = some f) := by show (if ks.getD k false = true then _ else _) = _; rw [hkb, HF.out]; rfl
            clear hkb
            go_wp2_with fail
            go_roundw
            case rel => exact ⟨k + 1, by omega, by omega, by go_num, by rw [E.out]; rfl, by rw [E.out]; rfl, U6.out⟩
            case measure => simp [intOf]; omega
        · have q5 : ¬ ((k : Int) < (L1 : Int)) := by omega
          have E : Hid (S.lastOf fs ks (k + 1) = S.lastOf fs ks k) := by
            obtain ⟨_, _, e, _⟩ := HK.out
            simp only [Value.slice.injEq] at e
            show (if ks.getD k false = true then _ else _) = _
            rw [List.getD_eq_getElem?_getD, List.getElem?_eq_none (by omega)]
            rfl
          go_wp2_with fail
          go_roundw
          case rel => exact ⟨k + 1, by omega, by omega, by go_num, by rw [E.out], by rw [E.out], U6.out⟩
          case measure => simp [intOf]; omega
      · have q2 : (k : Int) < (L : Int) := by omega
        have q3 : ¬ ((k : Int) < 12) := by omega
        go_wp2_with fail
        have CALL := duo_crash (.slice a1 L1 c1) ⟨ks, -1, 0⟩ w wr g1 g2 _ _ HU.out (by rw [S.ord_len]; omega) HK.out
        refine CALL.mono ?_
        clear CALL
        rintro e v1 ⟨rfl, u1⟩
        have U1 := hide u1
        clear u1 HU
        go_wp2_with fail
        refine (duo_read 0 w v1 g1 g2 _ _ U1.out (by rw [S.ord_safe]; omega)).mono ?_
        rintro e v2 ⟨gx, rfl, rx, u2, -⟩
        rw [S.ord_crash] at rx
        have hmk : ∀ w : World, (Instr.makeSlice 29 (.int .i64 128) (.int .i64 128)).run Try.prog w = .ok (.slice (some ⟨w.heap.size, 0, none⟩) 128 128) (w.alloc (.cells (S.v8 (S.zeros 128)) 5)) := fun w => make_bytes_big 128 (by omega) w
        have bz : Below v2.heap.size v2 (v2.alloc (.cells (S.v8 (S.zeros 128)) 5)) := (Below.refl _ _).alloc (Nat.le_refl _) _
        have U2 := hide (u2.below bz)
        have RX := hide ((bz.block gx (block_lt_of_row rx)).trans rx)
        have RZ : Hid ((v2.alloc (.cells (S.v8 (S.zeros 128)) 5)).heap[v2.heap.size]? = some (.cells (S.v8 (S.zeros 128)) 5 (0, 0))) := heap_alloc_new _ _
        clear rx u2 U1 bz
        rcases hlo : S.lastOf fs ks k with _ | c
        · rw [hlo] at RX
          rw [show (none : Option UInt8).isSome = false from rfl]
          clear hlo
          obtain ⟨SL, hSL⟩ : ∃ SL, SL = S.zeros 128 := ⟨_, rfl⟩
          have hSLn : SL.length = 128 := by rw [hSL]; exact S.zeros_length _
          have RX' : Hid ((v2.alloc (.cells (S.v8 (S.zeros 128)) 5)).heap[gx]? = some (.cells (S.v8 SL) 5 (0, 0))) := by rw [hSL]; exact RX.out
          have RZ' : Hid ((v2.alloc (.cells (S.v8 (S.zeros 128)) 5)).heap[v2.heap.size]? = some (.cells (S.v8 SL) 5 (0, 0))) := by rw [hSL]; exact RZ.out
          clear RX RZ hSL
          have CX := conv_slice (slice_row RX'.out hSLn (by omega))
          have CZ := conv_slice (slice_row RZ'.out hSLn (by omega))
          go_wp2_with fail
          clear hmk CX CZ RX' RZ'
          generalize v2.alloc (.cells (S.v8 (S.zeros 128)) 5) = v3 at *
          refine (duo_flush w v3 g2 g1 _ _ U2.out.swap rfl (by rw [S.ord_len]; omega)).mono ?_
          rintro e v5 ⟨rfl, u5⟩
          have U5 := hide u5
          clear u5 U2
          go_wp2_with fail
          refine (at_pending w v5 g2 _ U5.out.has).mono ?_
          rintro e v6 ⟨rfl, rfl⟩
          rw [show ((S.ord fs k).went.flush.pend.length : Int) = 0 from rfl]
          go_wp2_with fail
          refine (duo_crash (.slice none 0 0) ⟨[], -1, 0⟩ w v5 g2 g1 _ _ U5.out (Nat.zero_le _) (bools_nil _)).mono ?_
          rintro e v6 ⟨rfl, u6⟩
          have U6 := hide u6
          clear u6 U5
          go_wp2_with fail
          refine (duo_read 0 w v6 g2 g1 _ _ U6.out (by rw [S.ord_safe2]; omega)).mono ?_
          rintro e v7 ⟨gy, rfl, ry, u7, -⟩
          have U7 := hide u7.base
          have RY := hide ry
          clear u7 ry U6
          have p1 : (0 : Int) < (L : Int) := by omega
          have p2 : (12 : Int) < (L : Int) := by omega
          obtain ⟨j, hj⟩ : ∃ j, k = j + 1 := ⟨k - 1, by omega⟩
          have hjL : j < L := by omega
          obtain ⟨b, off, hao, hbl, hcell⟩ := HV.out (by omega)
          subst hao
          have hc0 : v7.cell? ⟨b, off + j, none⟩ = some (.int .u8 ((fs.getD j 0).toNat : Int)) := (U7.out.cell (p := ⟨b, off + j, none⟩) hbl).trans (hcell j hjL)
          have ry : v7.heap[gy]? = some (.cells (S.v8 (S.sec (fs.getD j 0) 128)) 5 (0, 0)) := by
            have := RY.out
            rw [hj, S.ord_flush] at this
            exact this
          obtain ⟨x, hx⟩ : ∃ x, x = fs.getD j 0 := ⟨_, rfl⟩
          rw [← hx] at hc0 ry
          obtain ⟨SF, hSF⟩ : ∃ SF, SF = S.sec x 128 := ⟨_, rfl⟩
          rw [← hSF] at ry
          have hSFn : SF.length = 128 := by rw [hSF]; exact S.sec_length _ _
          have HSF := hide hSF
          have RYY := hide ry
          have HC0 := hide hc0
          clear hcell hbl ry hc0 hx hSF RY
          go_wp2_with fail
          have r1 : (0 : Int) ≤ (j : Int) := by omega
          have r2 : (j : Int) < (L : Int) := by omega
          obtain rfl : j = 11 := by omega
          have r3 : IntKind.i64.wrap (11 : Int) = 11 := by rw [IntKind.wrap_i64]; rfl
          have r4 : (11 : Int) < (L : Int) := by omega
          refine wp_region_noPanic ?_
          refine wp_region_held_drew (S := (fun W => W.heap[gy]? = some (.cells (S.v8 SF) 5 (0, 0)) ∧ W.cell? ⟨b, off + 11, none⟩ = some (.int .u8 (x.toNat : Int)))) follows ⟨RYY.out, HC0.out⟩ (fun hHeld => ?_)
          have U8 := hide ((U7.out.trans ((Chg.refl (fun _ => False) v7).drew.below w.heap.size U7.out.size (fun _ _ e => e))))
          have RYd : Hid (v7.drew.heap[gy]? = some (.cells (S.v8 SF) 5 (0, 0))) := RYY.out
          clear U7 RYY HC0
          generalize v7.drew = z1 at U8 RYd hHeld ⊢
          refine wpAnyH_take (i := 0) (oi := { dst := some 117, op := Op.move (Operand.tmp 15), type := 29, pos := "law.go:224", after := #[], guard := none }) (v := ?_) rfl (by kernel_rfl) (by kernel_rfl) (by kernel_rfl) (fun _ _ _ h => h) (Or.inl ⟨by rfl, ?_⟩) (by assumption) ?_
          rotate_left
          · intro w hSw
            clear hSw
            go_simp
            all_goals with_reducible rfl
          simp only [Act.put, List.setIfInBounds_toArray, List.set_cons_zero, List.set_cons_succ]
          refine wpAnyH_take (i := 1) (oi := { dst := some 118, op := Op.convert 29 9 (Operand.tmp 117), type := 9, pos := "law.go:224", after := #[{ on := 0, ground := Ground.data }], guard := none }) (v := .string ⟨SF.toArray⟩) rfl (by kernel_rfl) (by kernel_rfl) (by kernel_rfl) (fun _ _ _ h => h) (yieldsIf_conv (by kernel_rfl) (.tmp 117) rfl _ rfl SF (fun W hW => slice_row hW.1 hSFn (by omega))) (by assumption) ?_
          simp only [Act.put, List.setIfInBounds_toArray, List.set_cons_zero, List.set_cons_succ]
          refine wpAnyH_take (i := 2) (oi := { dst := some 119, op := Op.move (Operand.tmp 0), type := 29, pos := "law.go:224", after := #[], guard := none }) (v := ?_) rfl (by kernel_rfl) (by kernel_rfl) (by kernel_rfl) (fun _ _ _ h => h) (Or.inl ⟨by rfl, ?_⟩) (by assumption) ?_
          rotate_left
          · intro w hSw
            clear hSw
            go_simp
            all_goals with_reducible rfl
          simp only [Act.put, List.setIfInBounds_toArray, List.set_cons_zero, List.set_cons_succ]
          refine wpAnyH_take (i := 3) (oi := { dst := some 120, op := Op.move (Operand.tmp 17), type := 3, pos := "law.go:224", after := #[], guard := none }) (v := ?_) rfl (by kernel_rfl) (by kernel_rfl) (by kernel_rfl) (fun _ _ _ h => h) (Or.inl ⟨by rfl, ?_⟩) (by assumption) ?_
          rotate_left
          · intro w hSw
            clear hSw
            go_simp
            all_goals with_reducible rfl
          simp only [Act.put, List.setIfInBounds_toArray, List.set_cons_zero, List.set_cons_succ]
          refine wpAnyH_take (i := 4) (oi := { dst := some 121, op := Op.binOp BinOp.sub 3 (Operand.tmp 120) (Operand.const (Value.int IntKind.i64 1)) 3, type := 3, pos := "law.go:224", after := #[{ on := 3, ground := Ground.data }], guard := none }) (v := ?_) rfl (by kernel_rfl) (by kernel_rfl) (by kernel_rfl) (fun _ _ _ h => h) (Or.inl ⟨by rfl, ?_⟩) (by assumption) ?_
          rotate_left
          · intro w hSw
            clear hSw
            go_simp
            all_goals with_reducible rfl
          simp only [Act.put, List.setIfInBounds_toArray, List.set_cons_zero, List.set_cons_succ]
          refine wpAnyH_take (i := 5) (oi := { dst := some 122, op := Op.indexAddr 29 (Operand.tmp 119) (Operand.tmp 121), type := 0, pos := "law.go:224", after := #[{ on := 2, ground := Ground.data }, { on := 4, ground := Ground.data }], guard := none }) (v := ?_) rfl (by kernel_rfl) (by kernel_rfl) (by kernel_rfl) (fun _ _ _ h => h) (Or.inl ⟨by rfl, ?_⟩) (by assumption) ?_
          rotate_left
          · intro w hSw
            clear hSw
            go_simp
            all_goals with_reducible rfl
          simp only [Act.put, List.setIfInBounds_toArray, List.set_cons_zero, List.set_cons_succ]
          refine wpAnyH_take (i := 6) (oi := { dst := some 123, op := Op.load 5 (Operand.tmp 122), type := 5, pos := "law.go:224", after := #[{ on := 5, ground := Ground.data }], guard := none }) (v := ?_) rfl (by kernel_rfl) (by kernel_rfl) (by kernel_rfl) (fun _ _ _ h => h) (Or.inl ⟨by rfl, ?_⟩) (by assumption) ?_
          rotate_left
          · intro w hSw
            have cf := hSw.2
            clear hSw
            go_simp
            all_goals with_reducible rfl
          simp only [Act.put, List.setIfInBounds_toArray, List.set_cons_zero, List.set_cons_succ]
          refine wpAnyH_ready (rs := [7]) (by kernel_rfl) (by simp) ?_
          refine AllReadyH.cons (o := { dst := some 124, op := Op.call { callee := Callee.value (Operand.func 14), args := #[Operand.tmp 123, Operand.const (Value.int IntKind.i64 128)], argTypes := #[5, 3] }, type := 29, pos := "law.go:224", after := #[{ on := 6, ground := Ground.data }], guard := none }) rfl (fun K hK => ?_) AllReadyH.nil
          go_simp
          refine (sector_any x 128 z1 (by omega)).mono ?_
          rintro e z2 ⟨rfl, hr2, hb2⟩
          rw [← HSF.out] at hr2
          have U9 := hide (U8.out.trans (hb2.mono U8.out.size))
          have R2 := hide hr2
          have SX2 := (hb2.block gy (block_lt_of_row RYd.out)).trans RYd.out
          have SC2 : z2.cell? ⟨b, off + 11, none⟩ = some (.int .u8 (x.toNat : Int)) := (hb2.cell (p := ⟨b, off + 11, none⟩) (World.block_lt_of_cell? z1 _ hHeld.2)).trans hHeld.2
          clear hr2 hb2 U8 RYd
          generalize z1.heap.size = gs2 at *
          refine hK.out _ _ ⟨SX2, SC2⟩ (fun hHeld => ?_)
          clear hK K
          try simp only [Act.put, List.setIfInBounds_toArray, List.set_cons_zero, List.set_cons_succ]
          refine wpAnyH_ready (rs := [8]) (by kernel_rfl) (by simp) ?_
          refine step_conv (o := { dst := some 125, op := Op.convert 29 9 (Operand.tmp 124), type := 9, pos := "law.go:224", after := #[{ on := 7, ground := Ground.data }], guard := none }) rfl rfl (.tmp 124) rfl _ rfl SF (slice_row R2.out hSFn (by omega)) AllReadyH.nil ⟨⟨SX2, SC2⟩, fun hHeld => ?_⟩
          simp only [Act.put, List.setIfInBounds_toArray, List.set_cons_zero, List.set_cons_succ]
          refine wpAnyH_take (i := 9) (oi := { dst := some 126, op := Op.binOp BinOp.eql 9 (Operand.tmp 118) (Operand.tmp 125) 9, type := 4, pos := "law.go:224", after := #[{ on := 1, ground := Ground.data }, { on := 8, ground := Ground.data }], guard := none }) (v := ?_) rfl (by kernel_rfl) (by kernel_rfl) (by kernel_rfl) (fun _ _ _ h => h) (Or.inl ⟨by rfl, ?_⟩) (by assumption) ?_
          rotate_left
          · intro w hSw
            clear hSw
            go_simp
            all_goals with_reducible rfl
          simp only [Act.put, List.setIfInBounds_toArray, List.set_cons_zero, List.set_cons_succ]
          refine wpAnyH_take (i := 10) (oi := { dst := some 127, op := Op.move (Operand.tmp 126), type := 4, pos := "law.go:224", after := #[{ on := 9, ground := Ground.data }, { on := 7, ground := Ground.chain }], guard := none }) (v := ?_) rfl (by kernel_rfl) (by kernel_rfl) (by kernel_rfl) (fun _ _ _ h => h) (Or.inl ⟨by rfl, ?_⟩) (by assumption) ?_
          rotate_left
          · intro w hSw
            clear hSw
            go_simp
            all_goals with_reducible rfl
          simp only [Act.put, List.setIfInBounds_toArray, List.set_cons_zero, List.set_cons_succ]
          refine wpAnyH_ready (rs := [11]) (by kernel_rfl) (by simp) ?_
          refine AllReadyH.cons (o := { dst := some 128, op := Op.call { callee := Callee.value (Operand.func 19), args := #[], argTypes := #[] }, type := 4, pos := "law.go:224", after := #[{ on := 10, ground := Ground.chain }, { on := 10, ground := Ground.guard }], guard := some (10, true) }) rfl (fun K hK => ?_) AllReadyH.nil
          go_simp
          refine (known_any z2).mono ?_
          rintro e z3 ⟨rfl, hb3⟩
          have U10 := hide (U9.out.trans (hb3.mono U9.out.size))
          have SX3 := (hb3.block gy (block_lt_of_row SX2)).trans SX2
          have SC3 : z3.cell? ⟨b, off + 11, none⟩ = some (.int .u8 (x.toNat : Int)) := (hb3.cell (p := ⟨b, off + 11, none⟩) (World.block_lt_of_cell? z2 _ SC2)).trans SC2
          clear hb3 U9
          refine hK.out _ _ ⟨SX3, SC3⟩ (fun hHeld => ?_)
          clear hK K
          try simp only [Act.put, List.setIfInBounds_toArray, List.set_cons_zero, List.set_cons_succ]
          refine wpAnyH_take (i := 12) (oi := { dst := some 129, op := Op.pick (Operand.tmp 127) (Operand.tmp 128) (Operand.const (Value.bool false)), type := 4, pos := "law.go:224", after := #[{ on := 10, ground := Ground.data }, { on := 11, ground := Ground.data }], guard := none }) (v := ?_) rfl (by kernel_rfl) (by kernel_rfl) (by kernel_rfl) (fun _ _ _ h => h) (Or.inl ⟨by rfl, ?_⟩) (by assumption) ?_
          rotate_left
          · intro w hSw
            clear hSw
            go_simp
            all_goals with_reducible rfl
          simp only [Act.put, List.setIfInBounds_toArray, List.set_cons_zero, List.set_cons_succ]
          refine wpAnyH_take (i := 13) (oi := { dst := some 4, op := Op.assign (Operand.tmp 129), type := 4, pos := "law.go:224", after := #[{ on := 12, ground := Ground.data }, { on := 11, ground := Ground.chain }, { on := 0, ground := Ground.phase }, { on := 1, ground := Ground.phase }, { on := 2, ground := Ground.phase }, { on := 3, ground := Ground.phase }, { on := 4, ground := Ground.phase }, { on := 5, ground := Ground.phase }, { on := 6, ground := Ground.phase }, { on := 7, ground := Ground.phase }, { on := 8, ground := Ground.phase }, { on := 9, ground := Ground.phase }, { on := 10, ground := Ground.phase }, { on := 11, ground := Ground.phase }, { on := 12, ground := Ground.phase }], guard := none }) (v := ?_) rfl (by kernel_rfl) (by kernel_rfl) (by kernel_rfl) (fun _ _ _ h => h) (Or.inl ⟨by rfl, ?_⟩) (by assumption) ?_
          rotate_left
          · intro w hSw
            clear hSw
            go_simp
            all_goals with_reducible rfl
          simp only [Act.put, List.setIfInBounds_toArray, List.set_cons_zero, List.set_cons_succ]
          refine wpAnyH_done (by kernel_rfl) ?_ _
          refine NoPanic.normal ?_
          clear hHeld SX2 SC2 SX3 SC3 R2
          go_wp2_with fail
          go_ret
          exact ⟨rfl, U10.out⟩
        · rw [hlo] at RX
          rw [show (some c : Option UInt8).isSome = true from rfl, show (some c : Option UInt8).getD 0 = c from rfl]
          clear hlo
          go_wp2_with fail
          clear hmk
          generalize v2.alloc (.cells (S.v8 (S.zeros 128)) 5) = v0 at *
          clear RZ
          refine (sector_any c 128 v0 (by omega)).mono ?_
          rintro e v3 ⟨rfl, rz, bz⟩
          obtain ⟨SL, hSL⟩ : ∃ SL, SL = S.sec c 128 := ⟨_, rfl⟩
          have hSLn : SL.length = 128 := by rw [hSL]; exact S.sec_length _ _
          have rx' : v0.heap[gx]? = some (.cells (S.v8 SL) 5 (0, 0)) := by rw [hSL]; exact RX.out
          rw [← hSL] at rz
          have U3 := hide (U2.out.below bz)
          have RX' := hide ((bz.block gx (block_lt_of_row rx')).trans rx')
          have RZ' := hide rz
          clear rx' rz bz RX U2 hSL
          have U2 := U3
          clear U3
          generalize v0.heap.size = gz at *
          have CX := conv_slice (slice_row RX'.out hSLn (by omega))
          have CZ := conv_slice (slice_row RZ'.out hSLn (by omega))
          go_wp2_with fail
          clear CX CZ RX' RZ' 
          refine (duo_flush w v3 g2 g1 _ _ U2.out.swap rfl (by rw [S.ord_len]; omega)).mono ?_
          rintro e v5 ⟨rfl, u5⟩
          have U5 := hide u5
          clear u5 U2
          go_wp2_with fail
          refine (at_pending w v5 g2 _ U5.out.has).mono ?_
          rintro e v6 ⟨rfl, rfl⟩
          rw [show ((S.ord fs k).went.flush.pend.length : Int) = 0 from rfl]
          go_wp2_with fail
          refine (duo_crash (.slice none 0 0) ⟨[], -1, 0⟩ w v5 g2 g1 _ _ U5.out (Nat.zero_le _) (bools_nil _)).mono ?_
          rintro e v6 ⟨rfl, u6⟩
          have U6 := hide u6
          clear u6 U5
          go_wp2_with fail
          refine (duo_read 0 w v6 g2 g1 _ _ U6.out (by rw [S.ord_safe2]; omega)).mono ?_
          rintro e v7 ⟨gy, rfl, ry, u7, -⟩
          have U7 := hide u7.base
          have RY := hide ry
          clear u7 ry U6
          have p1 : (0 : Int) < (L : Int) := by omega
          have p2 : (12 : Int) < (L : Int) := by omega
          obtain ⟨j, hj⟩ : ∃ j, k = j + 1 := ⟨k - 1, by omega⟩
          have hjL : j < L := by omega
          obtain ⟨b, off, hao, hbl, hcell⟩ := HV.out (by omega)
          subst hao
          have hc0 : v7.cell? ⟨b, off + j, none⟩ = some (.int .u8 ((fs.getD j 0).toNat : Int)) := (U7.out.cell (p := ⟨b, off + j, none⟩) hbl).trans (hcell j hjL)
          have ry : v7.heap[gy]? = some (.cells (S.v8 (S.sec (fs.getD j 0) 128)) 5 (0, 0)) := by
            have := RY.out
            rw [hj, S.ord_flush] at this
            exact this
          obtain ⟨x, hx⟩ : ∃ x, x = fs.getD j 0 := ⟨_, rfl⟩
          rw [← hx] at hc0 ry
          obtain ⟨SF, hSF⟩ : ∃ SF, SF = S.sec x 128 := ⟨_, rfl⟩
          rw [← hSF] at ry
          have hSFn : SF.length = 128 := by rw [hSF]; exact S.sec_length _ _
          have HSF := hide hSF
          have RYY := hide ry
          have HC0 := hide hc0
          clear hcell hbl ry hc0 hx hSF RY
          go_wp2_with fail
          have r1 : (0 : Int) ≤ (j : Int) := by omega
          have r2 : (j : Int) < (L : Int) := by omega
          obtain rfl : j = 11 := by omega
          have r3 : IntKind.i64.wrap (11 : Int) = 11 := by rw [IntKind.wrap_i64]; rfl
          have r4 : (11 : Int) < (L : Int) := by omega
          refine wp_region_noPanic ?_
          refine wp_region_held_drew (S := (fun W => W.heap[gy]? = some (.cells (S.v8 SF) 5 (0, 0)) ∧ W.cell? ⟨b, off + 11, none⟩ = some (.int .u8 (x.toNat : Int)))) follows ⟨RYY.out, HC0.out⟩ (fun hHeld => ?_)
          have U8 := hide ((U7.out.trans ((Chg.refl (fun _ => False) v7).drew.below w.heap.size U7.out.size (fun _ _ e => e))))
          have RYd : Hid (v7.drew.heap[gy]? = some (.cells (S.v8 SF) 5 (0, 0))) := RYY.out
          clear U7 RYY HC0
          generalize v7.drew = z1 at U8 RYd hHeld ⊢
          refine wpAnyH_take (i := 0) (oi := { dst := some 117, op := Op.move (Operand.tmp 15), type := 29, pos := "law.go:224", after := #[], guard := none }) (v := ?_) rfl (by kernel_rfl) (by kernel_rfl) (by kernel_rfl) (fun _ _ _ h => h) (Or.inl ⟨by rfl, ?_⟩) (by assumption) ?_
          rotate_left
          · intro w hSw
            clear hSw
            go_simp
            all_goals with_reducible rfl
          simp only [Act.put, List.setIfInBounds_toArray, List.set_cons_zero, List.set_cons_succ]
          refine wpAnyH_take (i := 1) (oi := { dst := some 118, op := Op.convert 29 9 (Operand.tmp 117), type := 9, pos := "law.go:224", after := #[{ on := 0, ground := Ground.data }], guard := none }) (v := .string ⟨SF.toArray⟩) rfl (by kernel_rfl) (by kernel_rfl) (by kernel_rfl) (fun _ _ _ h => h) (yieldsIf_conv (by kernel_rfl) (.tmp 117) rfl _ rfl SF (fun W hW => slice_row hW.1 hSFn (by omega))) (by assumption) ?_
          simp only [Act.put, List.setIfInBounds_toArray, List.set_cons_zero, List.set_cons_succ]
          refine wpAnyH_take (i := 2) (oi := { dst := some 119, op := Op.move (Operand.tmp 0), type := 29, pos := "law.go:224", after := #[], guard := none }) (v := ?_) rfl (by kernel_rfl) (by kernel_rfl) (by kernel_rfl) (fun _ _ _ h => h) (Or.inl ⟨by rfl, ?_⟩) (by assumption) ?_
          rotate_left
          · intro w hSw
            clear hSw
            go_simp
            all_goals with_reducible rfl
          simp only [Act.put, List.setIfInBounds_toArray, List.set_cons_zero, List.set_cons_succ]
          refine wpAnyH_take (i := 3) (oi := { dst := some 120, op := Op.move (Operand.tmp 17), type := 3, pos := "law.go:224", after := #[], guard := none }) (v := ?_) rfl (by kernel_rfl) (by kernel_rfl) (by kernel_rfl) (fun _ _ _ h => h) (Or.inl ⟨by rfl, ?_⟩) (by assumption) ?_
          rotate_left
          · intro w hSw
            clear hSw
            go_simp
            all_goals with_reducible rfl
          simp only [Act.put, List.setIfInBounds_toArray, List.set_cons_zero, List.set_cons_succ]
          refine wpAnyH_take (i := 4) (oi := { dst := some 121, op := Op.binOp BinOp.sub 3 (Operand.tmp 120) (Operand.const (Value.int IntKind.i64 1)) 3, type := 3, pos := "law.go:224", after := #[{ on := 3, ground := Ground.data }], guard := none }) (v := ?_) rfl (by kernel_rfl) (by kernel_rfl) (by kernel_rfl) (fun _ _ _ h => h) (Or.inl ⟨by rfl, ?_⟩) (by assumption) ?_
          rotate_left
          · intro w hSw
            clear hSw
            go_simp
            all_goals with_reducible rfl
          simp only [Act.put, List.setIfInBounds_toArray, List.set_cons_zero, List.set_cons_succ]
          refine wpAnyH_take (i := 5) (oi := { dst := some 122, op := Op.indexAddr 29 (Operand.tmp 119) (Operand.tmp 121), type := 0, pos := "law.go:224", after := #[{ on := 2, ground := Ground.data }, { on := 4, ground := Ground.data }], guard := none }) (v := ?_) rfl (by kernel_rfl) (by kernel_rfl) (by kernel_rfl) (fun _ _ _ h => h) (Or.inl ⟨by rfl, ?_⟩) (by assumption) ?_
          rotate_left
          · intro w hSw
            clear hSw
            go_simp
            all_goals with_reducible rfl
          simp only [Act.put, List.setIfInBounds_toArray, List.set_cons_zero, List.set_cons_succ]
          refine wpAnyH_take (i := 6) (oi := { dst := some 123, op := Op.load 5 (Operand.tmp 122), type := 5, pos := "law.go:224", after := #[{ on := 5, ground := Ground.data }], guard := none }) (v := ?_) rfl (by kernel_rfl) (by kernel_rfl) (by kernel_rfl) (fun _ _ _ h => h) (Or.inl ⟨by rfl, ?_⟩) (by assumption) ?_
          rotate_left
          · intro w hSw
            have cf := hSw.2
            clear hSw
            go_simp
            all_goals with_reducible rfl
          simp only [Act.put, List.setIfInBounds_toArray, List.set_cons_zero, List.set_cons_succ]
          refine wpAnyH_ready (rs := [7]) (by kernel_rfl) (by simp) ?_
          refine AllReadyH.cons (o := { dst := some 124, op := Op.call { callee := Callee.value (Operand.func 14), args := #[Operand.tmp 123, Operand.const (Value.int IntKind.i64 128)], argTypes := #[5, 3] }, type := 29, pos := "law.go:224", after := #[{ on := 6, ground := Ground.data }], guard := none }) rfl (fun K hK => ?_) AllReadyH.nil
          go_simp
          refine (sector_any x 128 z1 (by omega)).mono ?_
          rintro e z2 ⟨rfl, hr2, hb2⟩
          rw [← HSF.out] at hr2
          have U9 := hide (U8.out.trans (hb2.mono U8.out.size))
          have R2 := hide hr2
          have SX2 := (hb2.block gy (block_lt_of_row RYd.out)).trans RYd.out
          have SC2 : z2.cell? ⟨b, off + 11, none⟩ = some (.int .u8 (x.toNat : Int)) := (hb2.cell (p := ⟨b, off + 11, none⟩) (World.block_lt_of_cell? z1 _ hHeld.2)).trans hHeld.2
          clear hr2 hb2 U8 RYd
          generalize z1.heap.size = gs2 at *
          refine hK.out _ _ ⟨SX2, SC2⟩ (fun hHeld => ?_)
          clear hK K
          try simp only [Act.put, List.setIfInBounds_toArray, List.set_cons_zero, List.set_cons_succ]
          refine wpAnyH_ready (rs := [8]) (by kernel_rfl) (by simp) ?_
          refine step_conv (o := { dst := some 125, op := Op.convert 29 9 (Operand.tmp 124), type := 9, pos := "law.go:224", after := #[{ on := 7, ground := Ground.data }], guard := none }) rfl rfl (.tmp 124) rfl _ rfl SF (slice_row R2.out hSFn (by omega)) AllReadyH.nil ⟨⟨SX2, SC2⟩, fun hHeld => ?_⟩
          simp only [Act.put, List.setIfInBounds_toArray, List.set_cons_zero, List.set_cons_succ]
          refine wpAnyH_take (i := 9) (oi := { dst := some 126, op := Op.binOp BinOp.eql 9 (Operand.tmp 118) (Operand.tmp 125) 9, type := 4, pos := "law.go:224", after := #[{ on := 1, ground := Ground.data }, { on := 8, ground := Ground.data }], guard := none }) (v := ?_) rfl (by kernel_rfl) (by kernel_rfl) (by kernel_rfl) (fun _ _ _ h => h) (Or.inl ⟨by rfl, ?_⟩) (by assumption) ?_
          rotate_left
          · intro w hSw
            clear hSw
            go_simp
            all_goals with_reducible rfl
          simp only [Act.put, List.setIfInBounds_toArray, List.set_cons_zero, List.set_cons_succ]
          refine wpAnyH_take (i := 10) (oi := { dst := some 127, op := Op.move (Operand.tmp 126), type := 4, pos := "law.go:224", after := #[{ on := 9, ground := Ground.data }, { on := 7, ground := Ground.chain }], guard := none }) (v := ?_) rfl (by kernel_rfl) (by kernel_rfl) (by kernel_rfl) (fun _ _ _ h => h) (Or.inl ⟨by rfl, ?_⟩) (by assumption) ?_
          rotate_left
          · intro w hSw
            clear hSw
            go_simp
            all_goals with_reducible rfl
          simp only [Act.put, List.setIfInBounds_toArray, List.set_cons_zero, List.set_cons_succ]
          refine wpAnyH_ready (rs := [11]) (by kernel_rfl) (by simp) ?_
          refine AllReadyH.cons (o := { dst := some 128, op := Op.call { callee := Callee.value (Operand.func 19), args := #[], argTypes := #[] }, type := 4, pos := "law.go:224", after := #[{ on := 10, ground := Ground.chain }, { on := 10, ground := Ground.guard }], guard := some (10, true) }) rfl (fun K hK => ?_) AllReadyH.nil
          go_simp
          refine (known_any z2).mono ?_
          rintro e z3 ⟨rfl, hb3⟩
          have U10 := hide (U9.out.trans (hb3.mono U9.out.size))
          have SX3 := (hb3.block gy (block_lt_of_row SX2)).trans SX2
          have SC3 : z3.cell? ⟨b, off + 11, none⟩ = some (.int .u8 (x.toNat : Int)) := (hb3.cell (p := ⟨b, off + 11, none⟩) (World.block_lt_of_cell? z2 _ SC2)).trans SC2
          clear hb3 U9
          refine hK.out _ _ ⟨SX3, SC3⟩ (fun hHeld => ?_)
          clear hK K
          try simp only [Act.put, List.setIfInBounds_toArray, List.set_cons_zero, List.set_cons_succ]
          refine wpAnyH_take (i := 12) (oi := { dst := some 129, op := Op.pick (Operand.tmp 127) (Operand.tmp 128) (Operand.const (Value.bool false)), type := 4, pos := "law.go:224", after := #[{ on := 10, ground := Ground.data }, { on := 11, ground := Ground.data }], guard := none }) (v := ?_) rfl (by kernel_rfl) (by kernel_rfl) (by kernel_rfl) (fun _ _ _ h => h) (Or.inl ⟨by rfl, ?_⟩) (by assumption) ?_
          rotate_left
          · intro w hSw
            clear hSw
            go_simp
            all_goals with_reducible rfl
          simp only [Act.put, List.setIfInBounds_toArray, List.set_cons_zero, List.set_cons_succ]
          refine wpAnyH_take (i := 13) (oi := { dst := some 4, op := Op.assign (Operand.tmp 129), type := 4, pos := "law.go:224", after := #[{ on := 12, ground := Ground.data }, { on := 11, ground := Ground.chain }, { on := 0, ground := Ground.phase }, { on := 1, ground := Ground.phase }, { on := 2, ground := Ground.phase }, { on := 3, ground := Ground.phase }, { on := 4, ground := Ground.phase }, { on := 5, ground := Ground.phase }, { on := 6, ground := Ground.phase }, { on := 7, ground := Ground.phase }, { on := 8, ground := Ground.phase }, { on := 9, ground := Ground.phase }, { on := 10, ground := Ground.phase }, { on := 11, ground := Ground.phase }, { on := 12, ground := Ground.phase }], guard := none }) (v := ?_) rfl (by kernel_rfl) (by kernel_rfl) (by kernel_rfl) (fun _ _ _ h => h) (Or.inl ⟨by rfl, ?_⟩) (by assumption) ?_
          rotate_left
          · intro w hSw
            clear hSw
            go_simp
            all_goals with_reducible rfl
          simp only [Act.put, List.setIfInBounds_toArray, List.set_cons_zero, List.set_cons_succ]
          refine wpAnyH_done (by kernel_rfl) ?_ _
          refine NoPanic.normal ?_
          clear hHeld SX2 SC2 SX3 SC3 R2
          go_wp2_with fail
          go_ret
          exact ⟨rfl, U10.out⟩
    · have q2 : ¬ ((k : Int) < (L : Int)) := by omega
      go_wp2_with fail
      have CALL := duo_crash (.slice a1 L1 c1) ⟨ks, -1, 0⟩ w wr g1 g2 _ _ HU.out (by rw [S.ord_len]; omega) HK.out
      refine CALL.mono ?_
      clear CALL
      rintro e v1 ⟨rfl, u1⟩
      have U1 := hide u1
      clear u1 HU
      go_wp2_with fail
      refine (duo_read 0 w v1 g1 g2 _ _ U1.out (by rw [S.ord_safe]; omega)).mono ?_
      rintro e v2 ⟨gx, rfl, rx, u2, -⟩
      rw [S.ord_crash] at rx
      have hmk : ∀ w : World, (Instr.makeSlice 29 (.int .i64 128) (.int .i64 128)).run Try.prog w = .ok (.slice (some ⟨w.heap.size, 0, none⟩) 128 128) (w.alloc (.cells (S.v8 (S.zeros 128)) 5)) := fun w => make_bytes_big 128 (by omega) w
      have bz : Below v2.heap.size v2 (v2.alloc (.cells (S.v8 (S.zeros 128)) 5)) := (Below.refl _ _).alloc (Nat.le_refl _) _
      have U2 := hide (u2.below bz)
      have RX := hide ((bz.block gx (block_lt_of_row rx)).trans rx)
      have RZ : Hid ((v2.alloc (.cells (S.v8 (S.zeros 128)) 5)).heap[v2.heap.size]? = some (.cells (S.v8 (S.zeros 128)) 5 (0, 0))) := heap_alloc_new _ _
      clear rx u2 U1 bz
      rcases hlo : S.lastOf fs ks k with _ | c
      · rw [hlo] at RX
        rw [show (none : Option UInt8).isSome = false from rfl]
        clear hlo
        obtain ⟨SL, hSL⟩ : ∃ SL, SL = S.zeros 128 := ⟨_, rfl⟩
        have hSLn : SL.length = 128 := by rw [hSL]; exact S.zeros_length _
        have RX' : Hid ((v2.alloc (.cells (S.v8 (S.zeros 128)) 5)).heap[gx]? = some (.cells (S.v8 SL) 5 (0, 0))) := by rw [hSL]; exact RX.out
        have RZ' : Hid ((v2.alloc (.cells (S.v8 (S.zeros 128)) 5)).heap[v2.heap.size]? = some (.cells (S.v8 SL) 5 (0, 0))) := by rw [hSL]; exact RZ.out
        clear RX RZ hSL
        have CX := conv_slice (slice_row RX'.out hSLn (by omega))
        have CZ := conv_slice (slice_row RZ'.out hSLn (by omega))
        go_wp2_with fail
        clear hmk CX CZ RX' RZ'
        generalize v2.alloc (.cells (S.v8 (S.zeros 128)) 5) = v3 at *
        refine (duo_flush w v3 g2 g1 _ _ U2.out.swap rfl (by rw [S.ord_len]; omega)).mono ?_
        rintro e v5 ⟨rfl, u5⟩
        have U5 := hide u5
        clear u5 U2
        go_wp2_with fail
        refine (at_pending w v5 g2 _ U5.out.has).mono ?_
        rintro e v6 ⟨rfl, rfl⟩
        rw [show ((S.ord fs k).went.flush.pend.length : Int) = 0 from rfl]
        go_wp2_with fail
        refine (duo_crash (.slice none 0 0) ⟨[], -1, 0⟩ w v5 g2 g1 _ _ U5.out (Nat.zero_le _) (bools_nil _)).mono ?_
        rintro e v6 ⟨rfl, u6⟩
        have U6 := hide u6
        clear u6 U5
        go_wp2_with fail
        refine (duo_read 0 w v6 g2 g1 _ _ U6.out (by rw [S.ord_safe2]; omega)).mono ?_
        rintro e v7 ⟨gy, rfl, ry, u7, -⟩
        have U7 := hide u7.base
        have RY := hide ry
        clear u7 ry U6
        by_cases h0 : L = 0
        · have p1 : ¬ ((0 : Int) < (L : Int)) := by omega
          go_wp2_with fail
          refine (known_any v7).mono ?_
          rintro e v8 ⟨rfl, hb⟩
          have HB := hide (U7.out.trans (hb.mono U7.out.size))
          clear hb
          go_wp2_with fail
          go_ret
          exact ⟨rfl, HB.out⟩
        · have p1 : (0 : Int) < (L : Int) := by omega
          have p2 : ¬ ((12 : Int) < (L : Int)) := by omega
          obtain ⟨j, hj⟩ : ∃ j, k = j + 1 := ⟨k - 1, by omega⟩
          have hjL : j < L := by omega
          obtain ⟨b, off, hao, hbl, hcell⟩ := HV.out (by omega)
          subst hao
          have hc0 : v7.cell? ⟨b, off + j, none⟩ = some (.int .u8 ((fs.getD j 0).toNat : Int)) := (U7.out.cell (p := ⟨b, off + j, none⟩) hbl).trans (hcell j hjL)
          have ry : v7.heap[gy]? = some (.cells (S.v8 (S.sec (fs.getD j 0) 128)) 5 (0, 0)) := by
            have := RY.out
            rw [hj, S.ord_flush] at this
            exact this
          obtain ⟨x, hx⟩ : ∃ x, x = fs.getD j 0 := ⟨_, rfl⟩
          rw [← hx] at hc0 ry
          obtain ⟨SF, hSF⟩ : ∃ SF, SF = S.sec x 128 := ⟨_, rfl⟩
          rw [← hSF] at ry
          have hSFn : SF.length = 128 := by rw [hSF]; exact S.sec_length _ _
          have HSF := hide hSF
          have RYY := hide ry
          have HC0 := hide hc0
          clear hcell hbl ry hc0 hx hSF RY
          go_wp2_with fail
          have r1 : (0 : Int) ≤ (j : Int) := by omega
          have r2 : (j : Int) < (L : Int) := by omega
          have r3 : IntKind.i64.wrap ((L : Int) - 1) = (j : Int) := by rw [IntKind.wrap_i64]; omega
          refine wp_region_noPanic ?_
          refine wp_region_held_drew (S := (fun W => W.heap[gy]? = some (.cells (S.v8 SF) 5 (0, 0)) ∧ W.cell? ⟨b, off + j, none⟩ = some (.int .u8 (x.toNat : Int)))) follows ⟨RYY.out, HC0.out⟩ (fun hHeld => ?_)
          have U8 := hide ((U7.out.trans ((Chg.refl (fun _ => False) v7).drew.below w.heap.size U7.out.size (fun _ _ e => e))))
          have RYd : Hid (v7.drew.heap[gy]? = some (.cells (S.v8 SF) 5 (0, 0))) := RYY.out
          clear U7 RYY HC0
          generalize v7.drew = z1 at U8 RYd hHeld ⊢
          refine wpAnyH_take (i := 0) (oi := { dst := some 117, op := Op.move (Operand.tmp 15), type := 29, pos := "law.go:224", after := #[], guard := none }) (v := ?_) rfl (by kernel_rfl) (by kernel_rfl) (by kernel_rfl) (fun _ _ _ h => h) (Or.inl ⟨by rfl, ?_⟩) (by assumption) ?_
          rotate_left
          · intro w hSw
            clear hSw
            go_simp
            all_goals with_reducible rfl
          simp only [Act.put, List.setIfInBounds_toArray, List.set_cons_zero, List.set_cons_succ]
          refine wpAnyH_take (i := 1) (oi := { dst := some 118, op := Op.convert 29 9 (Operand.tmp 117), type := 9, pos := "law.go:224", after := #[{ on := 0, ground := Ground.data }], guard := none }) (v := .string ⟨SF.toArray⟩) rfl (by kernel_rfl) (by kernel_rfl) (by kernel_rfl) (fun _ _ _ h => h) (yieldsIf_conv (by kernel_rfl) (.tmp 117) rfl _ rfl SF (fun W hW => slice_row hW.1 hSFn (by omega))) (by assumption) ?_
          simp only [Act.put, List.setIfInBounds_toArray, List.set_cons_zero, List.set_cons_succ]
          refine wpAnyH_take (i := 2) (oi := { dst := some 119, op := Op.move (Operand.tmp 0), type := 29, pos := "law.go:224", after := #[], guard := none }) (v := ?_) rfl (by kernel_rfl) (by kernel_rfl) (by kernel_rfl) (fun _ _ _ h => h) (Or.inl ⟨by rfl, ?_⟩) (by assumption) ?_
          rotate_left
          · intro w hSw
            clear hSw
            go_simp
            all_goals with_reducible rfl
          simp only [Act.put, List.setIfInBounds_toArray, List.set_cons_zero, List.set_cons_succ]
          refine wpAnyH_take (i := 3) (oi := { dst := some 120, op := Op.move (Operand.tmp 17), type := 3, pos := "law.go:224", after := #[], guard := none }) (v := ?_) rfl (by kernel_rfl) (by kernel_rfl) (by kernel_rfl) (fun _ _ _ h => h) (Or.inl ⟨by rfl, ?_⟩) (by assumption) ?_
          rotate_left
          · intro w hSw
            clear hSw
            go_simp
            all_goals with_reducible rfl
          simp only [Act.put, List.setIfInBounds_toArray, List.set_cons_zero, List.set_cons_succ]
          refine wpAnyH_take (i := 4) (oi := { dst := some 121, op := Op.binOp BinOp.sub 3 (Operand.tmp 120) (Operand.const (Value.int IntKind.i64 1)) 3, type := 3, pos := "law.go:224", after := #[{ on := 3, ground := Ground.data }], guard := none }) (v := ?_) rfl (by kernel_rfl) (by kernel_rfl) (by kernel_rfl) (fun _ _ _ h => h) (Or.inl ⟨by rfl, ?_⟩) (by assumption) ?_
          rotate_left
          · intro w hSw
            clear hSw
            go_simp
            all_goals with_reducible rfl
          simp only [Act.put, List.setIfInBounds_toArray, List.set_cons_zero, List.set_cons_succ]
          refine wpAnyH_take (i := 5) (oi := { dst := some 122, op := Op.indexAddr 29 (Operand.tmp 119) (Operand.tmp 121), type := 0, pos := "law.go:224", after := #[{ on := 2, ground := Ground.data }, { on := 4, ground := Ground.data }], guard := none }) (v := ?_) rfl (by kernel_rfl) (by kernel_rfl) (by kernel_rfl) (fun _ _ _ h => h) (Or.inl ⟨by rfl, ?_⟩) (by assumption) ?_
          rotate_left
          · intro w hSw
            clear hSw
            go_simp
            all_goals with_reducible rfl
          simp only [Act.put, List.setIfInBounds_toArray, List.set_cons_zero, List.set_cons_succ]
          refine wpAnyH_take (i := 6) (oi := { dst := some 123, op := Op.load 5 (Operand.tmp 122), type := 5, pos := "law.go:224", after := #[{ on := 5, ground := Ground.data }], guard := none }) (v := ?_) rfl (by kernel_rfl) (by kernel_rfl) (by kernel_rfl) (fun _ _ _ h => h) (Or.inl ⟨by rfl, ?_⟩) (by assumption) ?_
          rotate_left
          · intro w hSw
            have cf := hSw.2
            clear hSw
            go_simp
            all_goals with_reducible rfl
          simp only [Act.put, List.setIfInBounds_toArray, List.set_cons_zero, List.set_cons_succ]
          refine wpAnyH_ready (rs := [7]) (by kernel_rfl) (by simp) ?_
          refine AllReadyH.cons (o := { dst := some 124, op := Op.call { callee := Callee.value (Operand.func 14), args := #[Operand.tmp 123, Operand.const (Value.int IntKind.i64 128)], argTypes := #[5, 3] }, type := 29, pos := "law.go:224", after := #[{ on := 6, ground := Ground.data }], guard := none }) rfl (fun K hK => ?_) AllReadyH.nil
          go_simp
          refine (sector_any x 128 z1 (by omega)).mono ?_
          rintro e z2 ⟨rfl, hr2, hb2⟩
          rw [← HSF.out] at hr2
          have U9 := hide (U8.out.trans (hb2.mono U8.out.size))
          have R2 := hide hr2
          have SX2 := (hb2.block gy (block_lt_of_row RYd.out)).trans RYd.out
          have SC2 : z2.cell? ⟨b, off + j, none⟩ = some (.int .u8 (x.toNat : Int)) := (hb2.cell (p := ⟨b, off + j, none⟩) (World.block_lt_of_cell? z1 _ hHeld.2)).trans hHeld.2
          clear hr2 hb2 U8 RYd
          generalize z1.heap.size = gs2 at *
          refine hK.out _ _ ⟨SX2, SC2⟩ (fun hHeld => ?_)
          clear hK K
          try simp only [Act.put, List.setIfInBounds_toArray, List.set_cons_zero, List.set_cons_succ]
          refine wpAnyH_ready (rs := [8]) (by kernel_rfl) (by simp) ?_
          refine step_conv (o := { dst := some 125, op := Op.convert 29 9 (Operand.tmp 124), type := 9, pos := "law.go:224", after := #[{ on := 7, ground := Ground.data }], guard := none }) rfl rfl (.tmp 124) rfl _ rfl SF (slice_row R2.out hSFn (by omega)) AllReadyH.nil ⟨⟨SX2, SC2⟩, fun hHeld => ?_⟩
          simp only [Act.put, List.setIfInBounds_toArray, List.set_cons_zero, List.set_cons_succ]
          refine wpAnyH_take (i := 9) (oi := { dst := some 126, op := Op.binOp BinOp.eql 9 (Operand.tmp 118) (Operand.tmp 125) 9, type := 4, pos := "law.go:224", after := #[{ on := 1, ground := Ground.data }, { on := 8, ground := Ground.data }], guard := none }) (v := ?_) rfl (by kernel_rfl) (by kernel_rfl) (by kernel_rfl) (fun _ _ _ h => h) (Or.inl ⟨by rfl, ?_⟩) (by assumption) ?_
          rotate_left
          · intro w hSw
            clear hSw
            go_simp
            all_goals with_reducible rfl
          simp only [Act.put, List.setIfInBounds_toArray, List.set_cons_zero, List.set_cons_succ]
          refine wpAnyH_take (i := 10) (oi := { dst := some 127, op := Op.move (Operand.tmp 126), type := 4, pos := "law.go:224", after := #[{ on := 9, ground := Ground.data }, { on := 7, ground := Ground.chain }], guard := none }) (v := ?_) rfl (by kernel_rfl) (by kernel_rfl) (by kernel_rfl) (fun _ _ _ h => h) (Or.inl ⟨by rfl, ?_⟩) (by assumption) ?_
          rotate_left
          · intro w hSw
            clear hSw
            go_simp
            all_goals with_reducible rfl
          simp only [Act.put, List.setIfInBounds_toArray, List.set_cons_zero, List.set_cons_succ]
          refine wpAnyH_ready (rs := [11]) (by kernel_rfl) (by simp) ?_
          refine AllReadyH.cons (o := { dst := some 128, op := Op.call { callee := Callee.value (Operand.func 19), args := #[], argTypes := #[] }, type := 4, pos := "law.go:224", after := #[{ on := 10, ground := Ground.chain }, { on := 10, ground := Ground.guard }], guard := some (10, true) }) rfl (fun K hK => ?_) AllReadyH.nil
          go_simp
          refine (known_any z2).mono ?_
          rintro e z3 ⟨rfl, hb3⟩
          have U10 := hide (U9.out.trans (hb3.mono U9.out.size))
          have SX3 := (hb3.block gy (block_lt_of_row SX2)).trans SX2
          have SC3 : z3.cell? ⟨b, off + j, none⟩ = some (.int .u8 (x.toNat : Int)) := (hb3.cell (p := ⟨b, off + j, none⟩) (World.block_lt_of_cell? z2 _ SC2)).trans SC2
          clear hb3 U9
          refine hK.out _ _ ⟨SX3, SC3⟩ (fun hHeld => ?_)
          clear hK K
          try simp only [Act.put, List.setIfInBounds_toArray, List.set_cons_zero, List.set_cons_succ]
          refine wpAnyH_take (i := 12) (oi := { dst := some 129, op := Op.pick (Operand.tmp 127) (Operand.tmp 128) (Operand.const (Value.bool false)), type := 4, pos := "law.go:224", after := #[{ on := 10, ground := Ground.data }, { on := 11, ground := Ground.data }], guard := none }) (v := ?_) rfl (by kernel_rfl) (by kernel_rfl) (by kernel_rfl) (fun _ _ _ h => h) (Or.inl ⟨by rfl, ?_⟩) (by assumption) ?_
          rotate_left
          · intro w hSw
            clear hSw
            go_simp
            all_goals with_reducible rfl
          simp only [Act.put, List.setIfInBounds_toArray, List.set_cons_zero, List.set_cons_succ]
          refine wpAnyH_take (i := 13) (oi := { dst := some 4, op := Op.assign (Operand.tmp 129), type := 4, pos := "law.go:224", after := #[{ on := 12, ground := Ground.data }, { on := 11, ground := Ground.chain }, { on := 0, ground := Ground.phase }, { on := 1, ground := Ground.phase }, { on := 2, ground := Ground.phase }, { on := 3, ground := Ground.phase }, { on := 4, ground := Ground.phase }, { on := 5, ground := Ground.phase }, { on := 6, ground := Ground.phase }, { on := 7, ground := Ground.phase }, { on := 8, ground := Ground.phase }, { on := 9, ground := Ground.phase }, { on := 10, ground := Ground.phase }, { on := 11, ground := Ground.phase }, { on := 12, ground := Ground.phase }], guard := none }) (v := ?_) rfl (by kernel_rfl) (by kernel_rfl) (by kernel_rfl) (fun _ _ _ h => h) (Or.inl ⟨by rfl, ?_⟩) (by assumption) ?_
          rotate_left
          · intro w hSw
            clear hSw
            go_simp
            all_goals with_reducible rfl
          simp only [Act.put, List.setIfInBounds_toArray, List.set_cons_zero, List.set_cons_succ]
          refine wpAnyH_done (by kernel_rfl) ?_ _
          refine NoPanic.normal ?_
          clear hHeld SX2 SC2 SX3 SC3 R2
          go_wp2_with fail
          go_ret
          exact ⟨rfl, U10.out⟩
      · rw [hlo] at RX
        rw [show (some c : Option UInt8).isSome = true from rfl, show (some c : Option UInt8).getD 0 = c from rfl]
        clear hlo
        go_wp2_with fail
        clear hmk
        generalize v2.alloc (.cells (S.v8 (S.zeros 128)) 5) = v0 at *
        clear RZ
        refine (sector_any c 128 v0 (by omega)).mono ?_
        rintro e v3 ⟨rfl, rz, bz⟩
        obtain ⟨SL, hSL⟩ : ∃ SL, SL = S.sec c 128 := ⟨_, rfl⟩
        have hSLn : SL.length = 128 := by rw [hSL]; exact S.sec_length _ _
        have rx' : v0.heap[gx]? = some (.cells (S.v8 SL) 5 (0, 0)) := by rw [hSL]; exact RX.out
        rw [← hSL] at rz
        have U3 := hide (U2.out.below bz)
        have RX' := hide ((bz.block gx (block_lt_of_row rx')).trans rx')
        have RZ' := hide rz
        clear rx' rz bz RX U2 hSL
        have U2 := U3
        clear U3
        generalize v0.heap.size = gz at *
        have CX := conv_slice (slice_row RX'.out hSLn (by omega))
        have CZ := conv_slice (slice_row RZ'.out hSLn (by omega))
        go_wp2_with fail
        clear CX CZ RX' RZ' 
        refine (duo_flush w v3 g2 g1 _ _ U2.out.swap rfl (by rw [S.ord_len]; omega)).mono ?_
        rintro e v5 ⟨rfl, u5⟩
        have U5 := hide u5
        clear u5 U2
        go_wp2_with fail
        refine (at_pending w v5 g2 _ U5.out.has).mono ?_
        rintro e v6 ⟨rfl, rfl⟩
        rw [show ((S.ord fs k).went.flush.pend.length : Int) = 0 from rfl]
        go_wp2_with fail
        refine (duo_crash (.slice none 0 0) ⟨[], -1, 0⟩ w v5 g2 g1 _ _ U5.out (Nat.zero_le _) (bools_nil _)).mono ?_
        rintro e v6 ⟨rfl, u6⟩
        have U6 := hide u6
        clear u6 U5
        go_wp2_with fail
        refine (duo_read 0 w v6 g2 g1 _ _ U6.out (by rw [S.ord_safe2]; omega)).mono ?_
        rintro e v7 ⟨gy, rfl, ry, u7, -⟩
        have U7 := hide u7.base
        have RY := hide ry
        clear u7 ry U6
        by_cases h0 : L = 0
        · have p1 : ¬ ((0 : Int) < (L : Int)) := by omega
          go_wp2_with fail
          refine (known_any v7).mono ?_
          rintro e v8 ⟨rfl, hb⟩
          have HB := hide (U7.out.trans (hb.mono U7.out.size))
          clear hb
          go_wp2_with fail
          go_ret
          exact ⟨rfl, HB.out⟩
        · have p1 : (0 : Int) < (L : Int) := by omega
          have p2 : ¬ ((12 : Int) < (L : Int)) := by omega
          obtain ⟨j, hj⟩ : ∃ j, k = j + 1 := ⟨k - 1, by omega⟩
          have hjL : j < L := by omega
          obtain ⟨b, off, hao, hbl, hcell⟩ := HV.out (by omega)
          subst hao
          have hc0 : v7.cell? ⟨b, off + j, none⟩ = some (.int .u8 ((fs.getD j 0).toNat : Int)) := (U7.out.cell (p := ⟨b, off + j, none⟩) hbl).trans (hcell j hjL)
          have ry : v7.heap[gy]? = some (.cells (S.v8 (S.sec (fs.getD j 0) 128)) 5 (0, 0)) := by
            have := RY.out
            rw [hj, S.ord_flush] at this
            exact this
          obtain ⟨x, hx⟩ : ∃ x, x = fs.getD j 0 := ⟨_, rfl⟩
          rw [← hx] at hc0 ry
          obtain ⟨SF, hSF⟩ : ∃ SF, SF = S.sec x 128 := ⟨_, rfl⟩
          rw [← hSF] at ry
          have hSFn : SF.length = 128 := by rw [hSF]; exact S.sec_length _ _
          have HSF := hide hSF
          have RYY := hide ry
          have HC0 := hide hc0
          clear hcell hbl ry hc0 hx hSF RY
          go_wp2_with fail
          have r1 : (0 : Int) ≤ (j : Int) := by omega
          have r2 : (j : Int) < (L : Int) := by omega
          have r3 : IntKind.i64.wrap ((L : Int) - 1) = (j : Int) := by rw [IntKind.wrap_i64]; omega
          refine wp_region_noPanic ?_
          refine wp_region_held_drew (S := (fun W => W.heap[gy]? = some (.cells (S.v8 SF) 5 (0, 0)) ∧ W.cell? ⟨b, off + j, none⟩ = some (.int .u8 (x.toNat : Int)))) follows ⟨RYY.out, HC0.out⟩ (fun hHeld => ?_)
          have U8 := hide ((U7.out.trans ((Chg.refl (fun _ => False) v7).drew.below w.heap.size U7.out.size (fun _ _ e => e))))
          have RYd : Hid (v7.drew.heap[gy]? = some (.cells (S.v8 SF) 5 (0, 0))) := RYY.out
          clear U7 RYY HC0
          generalize v7.drew = z1 at U8 RYd hHeld ⊢
          refine wpAnyH_take (i := 0) (oi := { dst := some 117, op := Op.move (Operand.tmp 15), type := 29, pos := "law.go:224", after := #[], guard := none }) (v := ?_) rfl (by kernel_rfl) (by kernel_rfl) (by kernel_rfl) (fun _ _ _ h => h) (Or.inl ⟨by rfl, ?_⟩) (by assumption) ?_
          rotate_left
          · intro w hSw
            clear hSw
            go_simp
            all_goals with_reducible rfl
          simp only [Act.put, List.setIfInBounds_toArray, List.set_cons_zero, List.set_cons_succ]
          refine wpAnyH_take (i := 1) (oi := { dst := some 118, op := Op.convert 29 9 (Operand.tmp 117), type := 9, pos := "law.go:224", after := #[{ on := 0, ground := Ground.data }], guard := none }) (v := .string ⟨SF.toArray⟩) rfl (by kernel_rfl) (by kernel_rfl) (by kernel_rfl) (fun _ _ _ h => h) (yieldsIf_conv (by kernel_rfl) (.tmp 117) rfl _ rfl SF (fun W hW => slice_row hW.1 hSFn (by omega))) (by assumption) ?_
          simp only [Act.put, List.setIfInBounds_toArray, List.set_cons_zero, List.set_cons_succ]
          refine wpAnyH_take (i := 2) (oi := { dst := some 119, op := Op.move (Operand.tmp 0), type := 29, pos := "law.go:224", after := #[], guard := none }) (v := ?_) rfl (by kernel_rfl) (by kernel_rfl) (by kernel_rfl) (fun _ _ _ h => h) (Or.inl ⟨by rfl, ?_⟩) (by assumption) ?_
          rotate_left
          · intro w hSw
            clear hSw
            go_simp
            all_goals with_reducible rfl
          simp only [Act.put, List.setIfInBounds_toArray, List.set_cons_zero, List.set_cons_succ]
          refine wpAnyH_take (i := 3) (oi := { dst := some 120, op := Op.move (Operand.tmp 17), type := 3, pos := "law.go:224", after := #[], guard := none }) (v := ?_) rfl (by kernel_rfl) (by kernel_rfl) (by kernel_rfl) (fun _ _ _ h => h) (Or.inl ⟨by rfl, ?_⟩) (by assumption) ?_
          rotate_left
          · intro w hSw
            clear hSw
            go_simp
            all_goals with_reducible rfl
          simp only [Act.put, List.setIfInBounds_toArray, List.set_cons_zero, List.set_cons_succ]
          refine wpAnyH_take (i := 4) (oi := { dst := some 121, op := Op.binOp BinOp.sub 3 (Operand.tmp 120) (Operand.const (Value.int IntKind.i64 1)) 3, type := 3, pos := "law.go:224", after := #[{ on := 3, ground := Ground.data }], guard := none }) (v := ?_) rfl (by kernel_rfl) (by kernel_rfl) (by kernel_rfl) (fun _ _ _ h => h) (Or.inl ⟨by rfl, ?_⟩) (by assumption) ?_
          rotate_left
          · intro w hSw
            clear hSw
            go_simp
            all_goals with_reducible rfl
          simp only [Act.put, List.setIfInBounds_toArray, List.set_cons_zero, List.set_cons_succ]
          refine wpAnyH_take (i := 5) (oi := { dst := some 122, op := Op.indexAddr 29 (Operand.tmp 119) (Operand.tmp 121), type := 0, pos := "law.go:224", after := #[{ on := 2, ground := Ground.data }, { on := 4, ground := Ground.data }], guard := none }) (v := ?_) rfl (by kernel_rfl) (by kernel_rfl) (by kernel_rfl) (fun _ _ _ h => h) (Or.inl ⟨by rfl, ?_⟩) (by assumption) ?_
          rotate_left
          · intro w hSw
            clear hSw
            go_simp
            all_goals with_reducible rfl
          simp only [Act.put, List.setIfInBounds_toArray, List.set_cons_zero, List.set_cons_succ]
          refine wpAnyH_take (i := 6) (oi := { dst := some 123, op := Op.load 5 (Operand.tmp 122), type := 5, pos := "law.go:224", after := #[{ on := 5, ground := Ground.data }], guard := none }) (v := ?_) rfl (by kernel_rfl) (by kernel_rfl) (by kernel_rfl) (fun _ _ _ h => h) (Or.inl ⟨by rfl, ?_⟩) (by assumption) ?_
          rotate_left
          · intro w hSw
            have cf := hSw.2
            clear hSw
            go_simp
            all_goals with_reducible rfl
          simp only [Act.put, List.setIfInBounds_toArray, List.set_cons_zero, List.set_cons_succ]
          refine wpAnyH_ready (rs := [7]) (by kernel_rfl) (by simp) ?_
          refine AllReadyH.cons (o := { dst := some 124, op := Op.call { callee := Callee.value (Operand.func 14), args := #[Operand.tmp 123, Operand.const (Value.int IntKind.i64 128)], argTypes := #[5, 3] }, type := 29, pos := "law.go:224", after := #[{ on := 6, ground := Ground.data }], guard := none }) rfl (fun K hK => ?_) AllReadyH.nil
          go_simp
          refine (sector_any x 128 z1 (by omega)).mono ?_
          rintro e z2 ⟨rfl, hr2, hb2⟩
          rw [← HSF.out] at hr2
          have U9 := hide (U8.out.trans (hb2.mono U8.out.size))
          have R2 := hide hr2
          have SX2 := (hb2.block gy (block_lt_of_row RYd.out)).trans RYd.out
          have SC2 : z2.cell? ⟨b, off + j, none⟩ = some (.int .u8 (x.toNat : Int)) := (hb2.cell (p := ⟨b, off + j, none⟩) (World.block_lt_of_cell? z1 _ hHeld.2)).trans hHeld.2
          clear hr2 hb2 U8 RYd
          generalize z1.heap.size = gs2 at *
          refine hK.out _ _ ⟨SX2, SC2⟩ (fun hHeld => ?_)
          clear hK K
          try simp only [Act.put, List.setIfInBounds_toArray, List.set_cons_zero, List.set_cons_succ]
          refine wpAnyH_ready (rs := [8]) (by kernel_rfl) (by simp) ?_
          refine step_conv (o := { dst := some 125, op := Op.convert 29 9 (Operand.tmp 124), type := 9, pos := "law.go:224", after := #[{ on := 7, ground := Ground.data }], guard := none }) rfl rfl (.tmp 124) rfl _ rfl SF (slice_row R2.out hSFn (by omega)) AllReadyH.nil ⟨⟨SX2, SC2⟩, fun hHeld => ?_⟩
          simp only [Act.put, List.setIfInBounds_toArray, List.set_cons_zero, List.set_cons_succ]
          refine wpAnyH_take (i := 9) (oi := { dst := some 126, op := Op.binOp BinOp.eql 9 (Operand.tmp 118) (Operand.tmp 125) 9, type := 4, pos := "law.go:224", after := #[{ on := 1, ground := Ground.data }, { on := 8, ground := Ground.data }], guard := none }) (v := ?_) rfl (by kernel_rfl) (by kernel_rfl) (by kernel_rfl) (fun _ _ _ h => h) (Or.inl ⟨by rfl, ?_⟩) (by assumption) ?_
          rotate_left
          · intro w hSw
            clear hSw
            go_simp
            all_goals with_reducible rfl
          simp only [Act.put, List.setIfInBounds_toArray, List.set_cons_zero, List.set_cons_succ]
          refine wpAnyH_take (i := 10) (oi := { dst := some 127, op := Op.move (Operand.tmp 126), type := 4, pos := "law.go:224", after := #[{ on := 9, ground := Ground.data }, { on := 7, ground := Ground.chain }], guard := none }) (v := ?_) rfl (by kernel_rfl) (by kernel_rfl) (by kernel_rfl) (fun _ _ _ h => h) (Or.inl ⟨by rfl, ?_⟩) (by assumption) ?_
          rotate_left
          · intro w hSw
            clear hSw
            go_simp
            all_goals with_reducible rfl
          simp only [Act.put, List.setIfInBounds_toArray, List.set_cons_zero, List.set_cons_succ]
          refine wpAnyH_ready (rs := [11]) (by kernel_rfl) (by simp) ?_
          refine AllReadyH.cons (o := { dst := some 128, op := Op.call { callee := Callee.value (Operand.func 19), args := #[], argTypes := #[] }, type := 4, pos := "law.go:224", after := #[{ on := 10, ground := Ground.chain }, { on := 10, ground := Ground.guard }], guard := some (10, true) }) rfl (fun K hK => ?_) AllReadyH.nil
          go_simp
          refine (known_any z2).mono ?_
          rintro e z3 ⟨rfl, hb3⟩
          have U10 := hide (U9.out.trans (hb3.mono U9.out.size))
          have SX3 := (hb3.block gy (block_lt_of_row SX2)).trans SX2
          have SC3 : z3.cell? ⟨b, off + j, none⟩ = some (.int .u8 (x.toNat : Int)) := (hb3.cell (p := ⟨b, off + j, none⟩) (World.block_lt_of_cell? z2 _ SC2)).trans SC2
          clear hb3 U9
          refine hK.out _ _ ⟨SX3, SC3⟩ (fun hHeld => ?_)
          clear hK K
          try simp only [Act.put, List.setIfInBounds_toArray, List.set_cons_zero, List.set_cons_succ]
          refine wpAnyH_take (i := 12) (oi := { dst := some 129, op := Op.pick (Operand.tmp 127) (Operand.tmp 128) (Operand.const (Value.bool false)), type := 4, pos := "law.go:224", after := #[{ on := 10, ground := Ground.data }, { on := 11, ground := Ground.data }], guard := none }) (v := ?_) rfl (by kernel_rfl) (by kernel_rfl) (by kernel_rfl) (fun _ _ _ h => h) (Or.inl ⟨by rfl, ?_⟩) (by assumption) ?_
          rotate_left
          · intro w hSw
            clear hSw
            go_simp
            all_goals with_reducible rfl
          simp only [Act.put, List.setIfInBounds_toArray, List.set_cons_zero, List.set_cons_succ]
          refine wpAnyH_take (i := 13) (oi := { dst := some 4, op := Op.assign (Operand.tmp 129), type := 4, pos := "law.go:224", after := #[{ on := 12, ground := Ground.data }, { on := 11, ground := Ground.chain }, { on := 0, ground := Ground.phase }, { on := 1, ground := Ground.phase }, { on := 2, ground := Ground.phase }, { on := 3, ground := Ground.phase }, { on := 4, ground := Ground.phase }, { on := 5, ground := Ground.phase }, { on := 6, ground := Ground.phase }, { on := 7, ground := Ground.phase }, { on := 8, ground := Ground.phase }, { on := 9, ground := Ground.phase }, { on := 10, ground := Ground.phase }, { on := 11, ground := Ground.phase }, { on := 12, ground := Ground.phase }], guard := none }) (v := ?_) rfl (by kernel_rfl) (by kernel_rfl) (by kernel_rfl) (fun _ _ _ h => h) (Or.inl ⟨by rfl, ?_⟩) (by assumption) ?_
          rotate_left
          · intro w hSw
            clear hSw
            go_simp
            all_goals with_reducible rfl
          simp only [Act.put, List.setIfInBounds_toArray, List.set_cons_zero, List.set_cons_succ]
          refine wpAnyH_done (by kernel_rfl) ?_ _
          refine NoPanic.normal ?_
          clear hHeld SX2 SC2 SX3 SC3 R2
          go_wp2_with fail
          go_ret
          exact ⟨rfl, U10.out⟩
end Go.Proofs.Ytjnbjgkcliaipaa
