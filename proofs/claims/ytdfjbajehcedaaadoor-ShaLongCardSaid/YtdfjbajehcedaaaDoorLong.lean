/- The walk of ShaLong: for every readable key and text and any number the call returns true and nothing that was there changes. -/
import Derived.Test.YtdfjbajehcedaaaDoorAppends
import Derived.Test.YtdfjbajehcedaaaDoorLongs
import Derived.Test.YtdfjbajehcedaaaDoorCuts
namespace Go.Proofs.YtdfjbajehcedaaaDoor
open Go.RowKit
theorem own_made (w : World) (B : Nat) (hB : B ≤ w.heap.size) : Own (w.alloc (.cells #[] 5)) B (.slice (some ⟨w.heap.size, 0, none⟩) 0 0) [] :=
  ⟨World.ownsRow_lit w #[] 0 hB (Nat.zero_le _) rfl, _, _, rfl⟩
/-- append([]byte{}, x...): a copy of x. -/
theorem run_copy_bytes (W : World) (u : Value) (xs : List UInt8) (ty : TypeId) (hu : SliceAt W u xs) (hb : xs.length ≤ 140737488355328) :
    ∃ v' w', (Builtin.append_ #[26, 26] ty #[.slice (some ⟨W.heap.size, 0, none⟩) 0 0, u]).run Tryd.prog (W.alloc (.cells #[] 5)) = .ok v' w' ∧ Own w' W.heap.size v' xs ∧ Below W.heap.size W w' := by
  have hA : Below W.heap.size W (W.alloc (.cells #[] 5)) := (Below.refl _ _).alloc (Nat.le_refl _) _
  obtain ⟨v', w', h1, h2, h3⟩ := run_append_bytes (W.alloc (.cells #[] 5)) W.heap.size _ u [] xs ty (own_made W _ (Nat.le_refl _)) (hu.below hA (Nat.le_refl _)) (by simpa using hb) hA.size
  exact ⟨v', w', h1, h2, hA.trans h3⟩
theorem SliceAt.take {w : World} {b off len cap : Nat} {ks : List UInt8} (k : Nat) (hlen : len = ks.length) (hk : k ≤ len) (h : SliceAt w (.slice (some ⟨b, off, none⟩) len cap) ks) (h0 : 0 < len) : SliceAt w (.slice (some ⟨b, off, none⟩) k cap) (ks.take k) := by
  have hl : (ks.take k).length = k := by rw [List.length_take]; omega
  rcases h with ⟨h1, _⟩ | ⟨a, c, h1, _⟩ | ⟨b', off', cap', h1, h2, h3, h4, h5⟩
  · simp at h1
  · simp only [Value.slice.injEq] at h1; omega
  · simp only [Value.slice.injEq, Option.some.injEq, Addr.mk.injEq, and_true] at h1
    obtain ⟨⟨rfl, rfl⟩, h6, rfl⟩ := h1
    refine Or.inr (Or.inr ⟨b, off, cap, by rw [hl], by omega, by omega, h4, fun j hj => ?_⟩)
    have e : (ks.take k).getD j 0 = ks.getD j 0 := by rw [List.getD_eq_getElem?_getD, List.getD_eq_getElem?_getD, List.getElem?_take, if_pos (by omega)]
    rw [e]
    exact h5 j (by omega)
theorem Mac_as (M : List UInt8) (v : Value) (ks : List UInt8) (u : Value) (bs : List UInt8) (w : World) (hM : Hid (M = S.mac ks bs)) (hv : SliceAt w v ks) (hu : SliceAt w u bs) (hK : KAt w) :
   Calls Tryd.prog 10 #[v, u] w fun e w' => e = .returned (.agg (S.v8 M)) ∧ Below w.heap.size w w' := by
  rw [hM.out]; exact Mac_any v ks u bs w hv hu hK
set_option maxHeartbeats 1600000 in
set_option maxRecDepth 100000 in
theorem shaLong_walk (ao : Option Addr) (len cap : Nat) (u : Value) (ks bs : List UInt8) (n : Int) (w : World) (hlen : len = ks.length) (hv : SliceAt w (.slice ao len cap) ks) (hu : SliceAt w u bs) (hK : KAt w) (hk : len + 65 ≤ 140737488355328) (hn1 : -9223372036854775808 ≤ n) (hn2 : n ≤ 9223372036854775807) :
   Calls Tryd.prog 8 #[.slice ao len cap, u, .int .i64 n] w fun e w' => e = .returned (.bool true) ∧ Below w.heap.size w w' := by
  have HV := hide hv
  have HU := hide hu
  have HK := hide hK
  have h0 := hK.pos
  have HL := hide hlen
  obtain ⟨L, hL⟩ : ∃ L, L = ks ++ S.zeros 65 := ⟨_, rfl⟩
  have hLl : L.length = len + 65 := by rw [hL, List.length_append, S.zeros_length]; omega
  have HLL := hide hLl
  have HKB : Hid (S.keyb (S.sum L) = S.keyb L) := keyb_hash L (by omega)
  have HLE := hide hL
  clear hv hu hK hL hLl hlen
  go_enter Tryd.func8, Tryd.ntmps8
  go_wp2_with (at_builtin; (refine wpList_append_some rfl (.tmp 10) (.tmp 11) 26 26 rfl _ _ rfl rfl (run_copy_bytes w _ ks 26 HV.out (by have := HL.out; omega)) ?_; rintro v1 w1 ⟨ho1, hb1⟩; refine wpList_append_some rfl (.tmp 12) (.const (.int .i64 65)) 26 3 rfl _ _ rfl rfl (run_append_zeros w1 w.heap.size v1 ks 65 26 ho1 (by omega) (by have := HL.out; omega) hb1.size) ?_; rintro v2 w2 ⟨ho2, hb2⟩))
  rw [← HLE.out] at ho2
  have hb12 := hb1.trans hb2
  have S2 := hide (ho2.sliceAt (by rw [HLL.out]; exact hk))
  clear hb1 hb2 ho1 ho2 w1
  refine (Sum_any v2 L w2 S2.out (HK.out.below hb12 h0)).mono ?_
  rintro e w3 ⟨rfl, hb3⟩
  have hb13 := hb12.trans (hb3.mono hb12.size)
  have S3 := hide (S2.out.below hb3 (Nat.le_refl _))
  obtain ⟨D, hD⟩ : ∃ D, D = S.sum L := ⟨_, rfl⟩
  have hD32 : D.length = 32 := by rw [hD]; exact S.sum_length _
  rw [← hD]
  have hs : (Tryd.prog.info? 23).map (·.size) = some (S.v8 D).size := by rw [S.v8_size, hD32]; exact size23
  have ho : (S.v8 (S.zeros 32)).size = (S.v8 D).size := by rw [S.v8_size, S.v8_size, hD32]; rfl
  have A1 := hide hs
  have A2 := hide ho
  have A3 := hide hD
  have A4 := hide hD32
  have B13 := hide hb13
  clear hs ho hD hD32 hb12 hb3 hb13 S2
  go_wp2_with (first | refine wpList_store_row rfl 23 _ _ rfl w3.heap.size (S.v8 D) rfl rfl 23 (S.v8 (S.zeros 32)) (heap_alloc_new _ _) A1.out A2.out (S.v8_one _) ?_ | fail)
  generalize hW3 : World.setRow _ w3.heap.size (S.v8 D) = W3
  have r0 : W3.heap[w3.heap.size]? = some (.cells (S.v8 D) 23 (0, 0)) := by rw [← hW3]; exact setRow_heap _ _ _ _ _ _ (heap_alloc_new _ _)
  have hn : Below w.heap.size w W3 := by rw [← hW3]; exact below_setRow (B13.out.alloc B13.out.size _) B13.out.size _
  have hn3 : Below w3.heap.size w3 W3 := by rw [← hW3]; exact below_setRow ((Below.refl _ _).alloc (Nat.le_refl _) _) (Nat.le_refl _) _
  have SL := hide (S3.out.below hn3 (Nat.le_refl _))
  have SU := hide (HU.out.below hn (Nat.le_refl _))
  have SV := hide (HV.out.below hn (Nat.le_refl _))
  have SK := hide (HK.out.below hn h0)
  have SD : Hid (SliceAt W3 (.slice (some ⟨w3.heap.size, 0, none⟩) 32 32) D) := Or.inr (Or.inr ⟨w3.heap.size, 0, 32, by rw [A4.out], by rw [A4.out]; omega, by rw [A4.out]; omega, block_lt_of_row r0, fun j hj => by rw [Nat.zero_add]; exact v8_cell r0 j hj⟩)
  have hz3 : 0 < W3.heap.size := Nat.lt_of_lt_of_le h0 hn.size
  have B3 := hide hn
  clear hW3 hn3 hn r0 S3 B13
  generalize w3.heap.size = g at *
  clear w3 w2
  obtain ⟨M, hM⟩ : ∃ M, M = S.mac L bs := ⟨_, rfl⟩
  have HM1 := hide hM
  have HM2 : Hid (M = S.mac D bs) := by show M = S.mac D bs; rw [hM, mac_keyb D L bs (by rw [A3.out]; exact HKB.out)]
  have hM32 : M.length = 32 := by rw [hM]; exact S.mac_length _ _
  have e1 : ∀ w, (Op.equalIn 10000 23 (.agg (S.v8 M)) (.agg (S.v8 M))).run Tryd.prog w = .ok true w := fun w => by
    rw [equal_bytes _ _ hM32 hM32 w]; simp
  clear hM hM32
  refine wp_region_noPanic ?_
  refine wp_region_held_drew (S := (fun w' => Below W3.heap.size W3 w')) follows ((Below.refl _ _).drew) (fun hHeld => ?_)
  refine wpAnyH_take (i := 0) (oi := { dst := some 16, op := Op.move (Operand.tmp 7), type := 26, pos := "law.go:90", after := #[], guard := none }) (v := ?_) rfl (by kernel_rfl) (by kernel_rfl) (by kernel_rfl) (fun _ _ _ h => h) (Or.inl ⟨by rfl, ?_⟩) (by assumption) ?_
  rotate_left
  · intro w hSw
    clear hSw
    go_simp
    all_goals with_reducible rfl
  simp only [Act.put, List.setIfInBounds_toArray, List.set_cons_zero, List.set_cons_succ]
  refine wpAnyH_take (i := 1) (oi := { dst := some 17, op := Op.move (Operand.tmp 1), type := 26, pos := "law.go:90", after := #[], guard := none }) (v := ?_) rfl (by kernel_rfl) (by kernel_rfl) (by kernel_rfl) (fun _ _ _ h => h) (Or.inl ⟨by rfl, ?_⟩) (by assumption) ?_
  rotate_left
  · intro w hSw
    clear hSw
    go_simp
    all_goals with_reducible rfl
  simp only [Act.put, List.setIfInBounds_toArray, List.set_cons_zero, List.set_cons_succ]
  refine wpAnyH_take (i := 3) (oi := { dst := some 19, op := Op.slice 23 (Operand.tmp 8) none none none, type := 26, pos := "law.go:90", after := #[], guard := none }) (v := ?_) rfl (by kernel_rfl) (by kernel_rfl) (by kernel_rfl) (fun _ _ _ h => h) (Or.inl ⟨by rfl, ?_⟩) (by assumption) ?_
  rotate_left
  · intro w hSw
    clear hSw
    go_simp
    all_goals with_reducible rfl
  simp only [Act.put, List.setIfInBounds_toArray, List.set_cons_zero, List.set_cons_succ]
  refine wpAnyH_take (i := 4) (oi := { dst := some 20, op := Op.move (Operand.tmp 1), type := 26, pos := "law.go:90", after := #[], guard := none }) (v := ?_) rfl (by kernel_rfl) (by kernel_rfl) (by kernel_rfl) (fun _ _ _ h => h) (Or.inl ⟨by rfl, ?_⟩) (by assumption) ?_
  rotate_left
  · intro w hSw
    clear hSw
    go_simp
    all_goals with_reducible rfl
  simp only [Act.put, List.setIfInBounds_toArray, List.set_cons_zero, List.set_cons_succ]
  refine wpAnyH_ready (rs := [2]) (by kernel_rfl) (by simp) ?_
  refine AllReadyH.cons (o := { dst := some 18, op := Op.call { callee := Callee.value (Operand.func 10), args := #[Operand.tmp 16, Operand.tmp 17], argTypes := #[26, 26] }, type := 23, pos := "law.go:90", after := #[{ on := 0, ground := Ground.data }, { on := 1, ground := Ground.data }], guard := none }) rfl (fun K hK => ?_) AllReadyH.nil
  go_simp
  refine (Mac_as M v2 L u bs _ HM1 (SL.out.below hHeld (Nat.le_refl _)) (SU.out.below hHeld (Nat.le_refl _)) (SK.out.below hHeld hz3)).mono ?_
  rintro e w5 ⟨rfl, hbx⟩
  have hk := Below.trans hHeld (hbx.mono hHeld.size)
  clear hbx hHeld
  go_wp2_with fail
  refine hK.out _ _ ?_ (fun hHeld => ?_)
  · exact hk
  clear hK K
  try simp only [Act.put, List.setIfInBounds_toArray, List.set_cons_zero, List.set_cons_succ]
  refine wpAnyH_ready (rs := [5]) (by kernel_rfl) (by simp) ?_
  refine AllReadyH.cons (o := { dst := some 21, op := Op.call { callee := Callee.value (Operand.func 10), args := #[Operand.tmp 19, Operand.tmp 20], argTypes := #[26, 26] }, type := 23, pos := "law.go:90", after := #[{ on := 3, ground := Ground.data }, { on := 4, ground := Ground.data }, { on := 2, ground := Ground.chain }], guard := none }) rfl (fun K hK => ?_) AllReadyH.nil
  go_simp
  refine (Mac_as M _ D u bs _ HM2 (SD.out.below hHeld (Nat.le_refl _)) (SU.out.below hHeld (Nat.le_refl _)) (SK.out.below hHeld hz3)).mono ?_
  rintro e w5 ⟨rfl, hbx⟩
  have hk := Below.trans hHeld (hbx.mono hHeld.size)
  clear hbx hHeld
  go_wp2_with fail
  refine hK.out _ _ ?_ (fun hHeld => ?_)
  · exact hk
  clear hK K
  try simp only [Act.put, List.setIfInBounds_toArray, List.set_cons_zero, List.set_cons_succ]
  refine wpAnyH_take (i := 6) (oi := { dst := some 22, op := Op.binOp BinOp.neq 23 (Operand.tmp 18) (Operand.tmp 21) 23, type := 4, pos := "law.go:90", after := #[{ on := 2, ground := Ground.data }, { on := 5, ground := Ground.data }], guard := none }) (v := ?_) rfl (by kernel_rfl) (by kernel_rfl) (by kernel_rfl) (fun _ _ _ h => h) (Or.inl ⟨by rfl, ?_⟩) (by assumption) ?_
  rotate_left
  · intro w hSw
    clear hSw
    go_simp
    all_goals with_reducible rfl
  simp only [Act.put, List.setIfInBounds_toArray, List.set_cons_zero, List.set_cons_succ]
  refine wpAnyH_done (by kernel_rfl) ?_ _
  refine NoPanic.normal ?_
  have BW : Hid (Below w.heap.size w _) := B3.out.trans (Below.mono hHeld B3.out.size)
  have hz4 := Nat.lt_of_lt_of_le hz3 (Below.size hHeld)
  have TU := hide (SU.out.below hHeld (Nat.le_refl _))
  have TV := hide (SV.out.below hHeld (Nat.le_refl _))
  have TK := hide (SK.out.below hHeld hz3)
  clear e1 hHeld SL SU SV SK SD hz3 B3 HLL HKB HLE A1 A2 A3 A4
  by_cases h40 : 40 < len
  · have q1 : (40 : Int) < (len : Int) := by omega
    obtain ⟨b, off, rfl⟩ : ∃ b off, ao = some ⟨b, off, none⟩ := by
      rcases HV.out with ⟨h1, _⟩ | ⟨a, c, h1, _⟩ | ⟨b, off, c, h1, _⟩
      · simp only [Value.slice.injEq] at h1; omega
      · simp only [Value.slice.injEq] at h1; omega
      · simp only [Value.slice.injEq] at h1; exact ⟨b, off, h1.1⟩
    have q2 : len ≤ cap := by
      rcases HV.out with ⟨h1, _⟩ | ⟨a, c, h1, _⟩ | ⟨b, off, c, h1, h2, _⟩
      · simp only [Value.slice.injEq] at h1; omega
      · simp only [Value.slice.injEq] at h1; omega
      · simp only [Value.slice.injEq] at h1; omega
    have q3 : 40 ≤ cap := by omega
    have q4 : (40 : Int) ≤ (cap : Int) := by omega
    have HL2 : Hid ((ks.take 40).length ≤ 40) := by show (ks.take 40).length ≤ 40; rw [List.length_take]; omega
    have TV2 := hide (TV.out.take 40 HL.out (by omega) (by omega))
    clear HV HU HK TV
    go_wp2_with (at_builtin; (refine wpList_append_some rfl (.tmp 28) (.tmp 29) 26 26 rfl _ _ rfl rfl (run_copy_bytes _ _ (ks.take 40) 26 TV2.out (by have := HL2.out; omega)) ?_; rintro v1 w1 ⟨ho1, hb1⟩))
    refine (within_any n 24 w1 hn1 hn2 (by omega) (by omega)).mono ?_
    rintro e w2 ⟨a0, rfl, ha1, ha2, rfl⟩
    obtain ⟨a, rfl⟩ := Int.eq_ofNat_of_zero_le ha1
    go_wp2_with (at_builtin; (refine wpList_append_some rfl (.tmp 30) (.tmp 32) 26 3 rfl _ _ rfl rfl (run_append_zeros w1 _ v1 (ks.take 40) a 26 ho1 (by omega) (by have := HL2.out; omega) hb1.size) ?_; rintro v2 w2 ⟨ho2, hb2⟩))
    have hb12 := hb1.trans hb2
    have X1 := hide (ho2.sliceAt (by rw [List.length_append, S.zeros_length]; have := HL2.out; omega))
    have X2 := hide (TU.out.below hb12 (Nat.le_refl _))
    have X3 := hide (TV2.out.below hb12 (Nat.le_refl _))
    have X4 := hide (TK.out.below hb12 hz4)
    have X5 := hide (BW.out.trans (hb12.mono BW.out.size))
    have HE : Hid (S.keyb ((ks.take 40) ++ S.zeros a) = S.keyb ((ks.take 40))) := keyb_noughts _ _ (by have := HL2.out; omega)
    obtain ⟨N, hN⟩ : ∃ N, N = S.mac ((ks.take 40) ++ S.zeros a) bs := ⟨_, rfl⟩
    have HN1 := hide hN
    have HN2 : Hid (N = S.mac ((ks.take 40)) bs) := by show N = S.mac ((ks.take 40)) bs; rw [hN, mac_keyb _ _ bs HE.out]
    have hN32 : N.length = 32 := by rw [hN]; exact S.mac_length _ _
    have e2 : ∀ w, (Op.equalIn 10000 23 (.agg (S.v8 N)) (.agg (S.v8 N))).run Tryd.prog w = .ok true w := fun w => by
      rw [equal_bytes _ _ hN32 hN32 w]; simp
    clear hN hN32
    have hz2 : 0 < w2.heap.size := Nat.lt_of_lt_of_le hz4 hb12.size
    clear hb12 hb1 hb2 ho1 ho2 ha1 ha2 hn1 hn2
    refine (Mac_as N v2 ((ks.take 40) ++ S.zeros a) u bs w2 HN1 X1.out X2.out X4.out).mono ?_
    rintro e w3 ⟨rfl, hb3⟩
    have Y2 := hide (X2.out.below hb3 (Nat.le_refl _))
    have Y3 := hide (X3.out.below hb3 (Nat.le_refl _))
    have Y4 := hide (X4.out.below hb3 hz2)
    have Y5 := hide (X5.out.trans (hb3.mono X5.out.size))
    have hz5 : 0 < w3.heap.size := Nat.lt_of_lt_of_le hz2 hb3.size
    clear hb3
    go_wp2_with fail
    refine (Mac_as N _ ((ks.take 40)) u bs w3 HN2 Y3.out Y2.out Y4.out).mono ?_
    rintro e w4 ⟨rfl, hb4⟩
    have Z4 := hide (Y4.out.below hb4 hz5)
    have Z5 := hide (Y5.out.trans (hb4.mono Y5.out.size))
    clear hb4
    go_wp2_with fail
    refine (known_any w4 Z4.out).mono ?_
    rintro e w6 ⟨rfl, hb6⟩
    have Z6 := Z5.out.trans (hb6.mono Z5.out.size)
    go_wp2_with fail
    go_ret
    exact ⟨rfl, Z6⟩
  · have q1 : ¬ ((40 : Int) < (len : Int)) := by omega
    have HL2 : Hid (ks.length ≤ 40) := by show ks.length ≤ 40; have := HL.out; omega
    have TV2 := TV
    clear HV HU HK TV
    go_wp2_with (at_builtin; (refine wpList_append_some rfl (.tmp 28) (.tmp 29) 26 26 rfl _ _ rfl rfl (run_copy_bytes _ _ ks 26 TV2.out (by have := HL2.out; omega)) ?_; rintro v1 w1 ⟨ho1, hb1⟩))
    refine (within_any n 24 w1 hn1 hn2 (by omega) (by omega)).mono ?_
    rintro e w2 ⟨a0, rfl, ha1, ha2, rfl⟩
    obtain ⟨a, rfl⟩ := Int.eq_ofNat_of_zero_le ha1
    go_wp2_with (at_builtin; (refine wpList_append_some rfl (.tmp 30) (.tmp 32) 26 3 rfl _ _ rfl rfl (run_append_zeros w1 _ v1 ks a 26 ho1 (by omega) (by have := HL2.out; omega) hb1.size) ?_; rintro v2 w2 ⟨ho2, hb2⟩))
    have hb12 := hb1.trans hb2
    have X1 := hide (ho2.sliceAt (by rw [List.length_append, S.zeros_length]; have := HL2.out; omega))
    have X2 := hide (TU.out.below hb12 (Nat.le_refl _))
    have X3 := hide (TV2.out.below hb12 (Nat.le_refl _))
    have X4 := hide (TK.out.below hb12 hz4)
    have X5 := hide (BW.out.trans (hb12.mono BW.out.size))
    have HE : Hid (S.keyb (ks ++ S.zeros a) = S.keyb (ks)) := keyb_noughts _ _ (by have := HL2.out; omega)
    obtain ⟨N, hN⟩ : ∃ N, N = S.mac (ks ++ S.zeros a) bs := ⟨_, rfl⟩
    have HN1 := hide hN
    have HN2 : Hid (N = S.mac (ks) bs) := by show N = S.mac (ks) bs; rw [hN, mac_keyb _ _ bs HE.out]
    have hN32 : N.length = 32 := by rw [hN]; exact S.mac_length _ _
    have e2 : ∀ w, (Op.equalIn 10000 23 (.agg (S.v8 N)) (.agg (S.v8 N))).run Tryd.prog w = .ok true w := fun w => by
      rw [equal_bytes _ _ hN32 hN32 w]; simp
    clear hN hN32
    have hz2 : 0 < w2.heap.size := Nat.lt_of_lt_of_le hz4 hb12.size
    clear hb12 hb1 hb2 ho1 ho2 ha1 ha2 hn1 hn2
    refine (Mac_as N v2 (ks ++ S.zeros a) u bs w2 HN1 X1.out X2.out X4.out).mono ?_
    rintro e w3 ⟨rfl, hb3⟩
    have Y2 := hide (X2.out.below hb3 (Nat.le_refl _))
    have Y3 := hide (X3.out.below hb3 (Nat.le_refl _))
    have Y4 := hide (X4.out.below hb3 hz2)
    have Y5 := hide (X5.out.trans (hb3.mono X5.out.size))
    have hz5 : 0 < w3.heap.size := Nat.lt_of_lt_of_le hz2 hb3.size
    clear hb3
    go_wp2_with fail
    refine (Mac_as N _ (ks) u bs w3 HN2 Y3.out Y2.out Y4.out).mono ?_
    rintro e w4 ⟨rfl, hb4⟩
    have Z4 := hide (Y4.out.below hb4 hz5)
    have Z5 := hide (Y5.out.trans (hb4.mono Y5.out.size))
    clear hb4
    go_wp2_with fail
    refine (known_any w4 Z4.out).mono ?_
    rintro e w6 ⟨rfl, hb6⟩
    have Z6 := Z5.out.trans (hb6.mono Z5.out.size)
    go_wp2_with fail
    go_ret
    exact ⟨rfl, Z6⟩
end Go.Proofs.YtdfjbajehcedaaaDoor
