/- MerkleSplits. -/
import Derived.Test.YtmhmebblmgfgaaaDoorMj
import Derived.Test.YtmhmebblmgfgaaaDoorWithin
namespace Go.Proofs.YtmhmebblmgfgaaaDoor
open Go.RowKit

theorem S.cut_behind (d : List UInt8) (hd : d.length = 32) (a i : Nat) (h1 : a ≤ i) (h2 : i < 32) : (S.cut d a).getD i 0 = 0 := by
  rw [List.getD_eq_getElem?_getD, S.cut, S.zero_get, if_pos (by omega)]
  rfl
theorem S.root_hsh (a : Int) (l : List (List UInt8)) : ∃ bs, S.root a l = S.hsh a bs := by
  rcases (by omega : l.length = 0 ∨ l.length = 1 ∨ 2 ≤ l.length) with h | h | h
  · exact ⟨_, S.root_none a l h⟩
  · exact ⟨_, S.root_one a l h⟩
  · exact ⟨_, S.root_more a l h⟩
theorem S.root_behind (a : Int) (l : List (List UInt8)) (i : Nat) (h1 : S.cw a ≤ i) (h2 : i < 32) : (S.root a l).getD i 0 = 0 := by
  obtain ⟨bs, h⟩ := S.root_hsh a l
  rw [h, S.hsh]
  exact S.cut_behind _ (S.sum_length _) _ _ h1 h2
theorem S.half_two : ∀ j, j < 7 → S.half (2 * 2 ^ j) = 2 ^ j := by decide +kernel
set_option maxHeartbeats 4000000 in
set_option maxRecDepth 10000 in
theorem merkleSplits_walk (a kk : Int) (c : UInt8) (w : World) (h1 : -9223372036854775808 ≤ kk) (h2 : kk ≤ 9223372036854775807) (hK : KAt w) :
   Calls Tryd.prog 6 #[.int .i64 a, .int .i64 kk, .int .u8 (c.toNat : Int)] w fun e w' => e = .returned (.bool true) ∧ Below w.heap.size w w' := by
  have HK := hide hK
  have h0 := hK.pos
  clear hK
  go_enter Tryd.func6, Tryd.ntmps6
  go_wp2_with fail
  refine (within_any kk 6 w h1 h2 (by omega) (by omega)).mono ?_
  rintro e w1 ⟨rfl, rfl⟩
  have hj := S.within_le kk 6 (by omega)
  obtain ⟨j, hjj⟩ : ∃ j, j = S.within kk 6 := ⟨_, rfl⟩
  rw [← hjj] at hj ⊢
  clear hjj h1 h2
  have hj6 : j ≤ 6 := by omega
  have q1 : IntKind.u64.wrap (j : Int) = (j : Int) := by rw [IntKind.wrap_u64]; omega
  have q2 : wrap64 ((2 : Int) ^ j) = ((2 ^ j : Nat) : Int) := by
    have : ∀ y : Fin 8, wrap64 ((2 : Int) ^ y.val) = ((2 ^ y.val : Nat) : Int) := by decide +kernel
    exact this ⟨j, by omega⟩
  obtain ⟨n, hn⟩ : ∃ n, n = 2 ^ j := ⟨_, rfl⟩
  have hn64 : n ≤ 64 := by rw [hn]; exact Nat.pow_le_pow_right (n := 2) (by omega) hj6
  have hnp : 0 < n := by rw [hn]; exact Nat.pow_pos (by omega)
  have HH := hide (show S.half (2 * n) = n by rw [hn]; exact S.half_two j (by omega))
  rw [← hn] at q2
  obtain ⟨m, hm⟩ : ∃ m, m = 2 * n := ⟨_, rfl⟩
  have q3 : IntKind.i64.wrap (2 * (n : Int)) = (m : Int) := by rw [IntKind.wrap_i64]; omega
  have HM := hide hm
  rw [← hm] at HH
  have hm2 : n < m := by omega
  have hm128 : m ≤ 128 := by omega
  have q4 : (0 : Int) ≤ (j : Int) := by omega
  clear hn hj hm
  go_wp2_with fail
  rw [q2]
  clear q1 q2 q3 q4 hj6
  refine (list_any m c (by omega) w).mono ?_
  rintro e w1 ⟨vl, rfl, t1, b1⟩
  have hlen : (S.lst m c).length = m := S.lst_length _ _
  have hb := t1.bsAt
  obtain ⟨L, hL⟩ : ∃ L, L = S.lst m c := ⟨_, rfl⟩
  have hfit : Fit L := by rw [hL]; exact S.lst_fit _ _
  rw [← hL] at hb hlen
  obtain ⟨b, off, cap, rfl, hcap, hbl, hcl⟩ := hb.src (by omega)
  rw [hlen] at hb hcap ⊢
  have HV := hide hb
  have HF := hide hfit
  have HN := hide hlen
  have B1 := hide b1
  clear t1 b1 hlen hb hL hfit hcl
  go_wp2_with fail
  refine (root_any a _ L w1 HV.out (by rw [HN.out]; omega) HF.out (HK.out.below B1.out h0)).mono ?_
  rintro e w2 ⟨rfl, b2⟩
  obtain ⟨D, hD⟩ : ∃ D, D = S.root a L := ⟨_, rfl⟩
  rw [← hD]
  have HL := hide (show D.length = 32 by rw [hD, S.root_length])
  have HD := hide hD
  obtain ⟨A, Y, hal, hst, ry, by1, sy⟩ := lay_dig w2 D HL.out
  obtain ⟨g2, hg2⟩ : ∃ g2, g2 = w2.heap.size := ⟨_, rfl⟩
  rw [← hg2] at hal hst ry
  have BY : Hid (Below w1.heap.size w1 Y) := b2.trans (by1.mono b2.size)
  have RY := hide ry
  clear hD b2 by1 sy hg2 ry
  go_wp2_with (first | (with_reducible refine at_op { dst := some 9, op := Op.alloc 31, type := 0, pos := "law.go:79", after := #[], guard := none } ?_; refine wpList_alloc_known rfl 31 rfl (.pointer (some ⟨g2, 0, none⟩)) A hal ?_) | (with_reducible refine at_op { dst := none, op := Op.store 31 (Operand.tmp 9) (Operand.tmp 21), type := 0, pos := "law.go:79", after := #[{ on := 3, ground := Ground.data }, { on := 2, ground := Ground.data }, { on := 2, ground := Ground.chain }, { on := 0, ground := Ground.phase }, { on := 1, ground := Ground.phase }, { on := 2, ground := Ground.phase }, { on := 3, ground := Ground.phase }], guard := none } ?_; refine wpList_store_as rfl 31 (.tmp 9) (.tmp 21) rfl (.pointer (some ⟨g2, 0, none⟩)) (.agg (S.v8 D)) rfl rfl Y hst ?_))
  clear hal hst
  have hsz := size_dig D HL.out
  refine wp_region_noPanic ?_
  refine wp_region_held_drew (S := (fun W => W.rangeAt g2 0 (S.v8l D))) follows (rangeAt_row RY.out) (fun hHeld => ?_)
  have BZ : Hid (Below w1.heap.size w1 Y.drew) := BY.out.drew
  have RZ : Hid (Y.drew.heap[g2]? = some (.cells (S.v8 D) 31 (0, 0))) := RY.out
  clear BY RY
  generalize Y.drew = Z at BZ RZ hHeld ⊢
  have q2 : (0 : Int) ≤ (n : Int) := by omega
  have q3 : (n : Int) ≤ (cap : Int) := by omega
  have q4 : (n : Int) ≤ (m : Int) := by omega
  have q5 : (m : Int) ≤ (cap : Int) := by omega
  have q6 : ¬ cap = n := by omega
  refine wpAnyH_take (i := 0) (oi := { dst := some 22, op := Op.load 31 (Operand.tmp 9), type := 31, pos := "law.go:80", after := #[], guard := none }) (v := .agg (S.v8l D).toArray) rfl (by kernel_rfl) (by kernel_rfl) (by kernel_rfl) (fun _ _ _ h => h) (yieldsIf_load_mid (by rfl) _ _ rfl g2 0 rfl (S.v8l D) _ (fun _ hSw => hSw) Tryd.underlying31 rfl hsz) (by assumption) ?_
  simp only [Act.put, List.setIfInBounds_toArray, List.set_cons_zero, List.set_cons_succ]
  refine wpAnyH_take (i := 1) (oi := { dst := some 23, op := Op.move (Operand.tmp 0), type := 3, pos := "law.go:80", after := #[], guard := none }) (v := ?_) rfl (by kernel_rfl) (by kernel_rfl) (by kernel_rfl) (fun _ _ _ h => h) (Or.inl ⟨by rfl, ?_⟩) (by assumption) ?_
  rotate_left
  · intro w hSw
    clear hSw
    go_simp
    all_goals with_reducible rfl
  simp only [Act.put, List.setIfInBounds_toArray, List.set_cons_zero, List.set_cons_succ]
  refine wpAnyH_take (i := 2) (oi := { dst := some 24, op := Op.move (Operand.tmp 0), type := 3, pos := "law.go:80", after := #[], guard := none }) (v := ?_) rfl (by kernel_rfl) (by kernel_rfl) (by kernel_rfl) (fun _ _ _ h => h) (Or.inl ⟨by rfl, ?_⟩) (by assumption) ?_
  rotate_left
  · intro w hSw
    clear hSw
    go_simp
    all_goals with_reducible rfl
  simp only [Act.put, List.setIfInBounds_toArray, List.set_cons_zero, List.set_cons_succ]
  refine wpAnyH_take (i := 3) (oi := { dst := some 25, op := Op.move (Operand.tmp 8), type := 22, pos := "law.go:80", after := #[], guard := none }) (v := ?_) rfl (by kernel_rfl) (by kernel_rfl) (by kernel_rfl) (fun _ _ _ h => h) (Or.inl ⟨by rfl, ?_⟩) (by assumption) ?_
  rotate_left
  · intro w hSw
    clear hSw
    go_simp
    all_goals with_reducible rfl
  simp only [Act.put, List.setIfInBounds_toArray, List.set_cons_zero, List.set_cons_succ]
  refine wpAnyH_take (i := 4) (oi := { dst := some 26, op := Op.move (Operand.tmp 7), type := 3, pos := "law.go:80", after := #[], guard := none }) (v := ?_) rfl (by kernel_rfl) (by kernel_rfl) (by kernel_rfl) (fun _ _ _ h => h) (Or.inl ⟨by rfl, ?_⟩) (by assumption) ?_
  rotate_left
  · intro w hSw
    clear hSw
    go_simp
    all_goals with_reducible rfl
  simp only [Act.put, List.setIfInBounds_toArray, List.set_cons_zero, List.set_cons_succ]
  refine wpAnyH_take (i := 5) (oi := { dst := some 27, op := Op.slice 22 (Operand.tmp 25) none (some (Operand.tmp 26)) none, type := 22, pos := "law.go:80", after := #[{ on := 3, ground := Ground.data }, { on := 4, ground := Ground.data }], guard := none }) (v := ?_) rfl (by kernel_rfl) (by kernel_rfl) (by kernel_rfl) (fun _ _ _ h => h) (Or.inl ⟨by rfl, ?_⟩) (by assumption) ?_
  rotate_left
  · intro w hSw
    clear hSw
    go_simp
    all_goals with_reducible rfl
  simp only [Act.put, List.setIfInBounds_toArray, List.set_cons_zero, List.set_cons_succ]
  refine wpAnyH_take (i := 7) (oi := { dst := some 29, op := Op.move (Operand.tmp 0), type := 3, pos := "law.go:80", after := #[], guard := none }) (v := ?_) rfl (by kernel_rfl) (by kernel_rfl) (by kernel_rfl) (fun _ _ _ h => h) (Or.inl ⟨by rfl, ?_⟩) (by assumption) ?_
  rotate_left
  · intro w hSw
    clear hSw
    go_simp
    all_goals with_reducible rfl
  simp only [Act.put, List.setIfInBounds_toArray, List.set_cons_zero, List.set_cons_succ]
  refine wpAnyH_take (i := 8) (oi := { dst := some 30, op := Op.move (Operand.tmp 8), type := 22, pos := "law.go:80", after := #[], guard := none }) (v := ?_) rfl (by kernel_rfl) (by kernel_rfl) (by kernel_rfl) (fun _ _ _ h => h) (Or.inl ⟨by rfl, ?_⟩) (by assumption) ?_
  rotate_left
  · intro w hSw
    clear hSw
    go_simp
    all_goals with_reducible rfl
  simp only [Act.put, List.setIfInBounds_toArray, List.set_cons_zero, List.set_cons_succ]
  refine wpAnyH_take (i := 9) (oi := { dst := some 31, op := Op.move (Operand.tmp 7), type := 3, pos := "law.go:80", after := #[], guard := none }) (v := ?_) rfl (by kernel_rfl) (by kernel_rfl) (by kernel_rfl) (fun _ _ _ h => h) (Or.inl ⟨by rfl, ?_⟩) (by assumption) ?_
  rotate_left
  · intro w hSw
    clear hSw
    go_simp
    all_goals with_reducible rfl
  simp only [Act.put, List.setIfInBounds_toArray, List.set_cons_zero, List.set_cons_succ]
  refine wpAnyH_take (i := 10) (oi := { dst := some 32, op := Op.slice 22 (Operand.tmp 30) (some (Operand.tmp 31)) none none, type := 22, pos := "law.go:80", after := #[{ on := 8, ground := Ground.data }, { on := 9, ground := Ground.data }], guard := none }) (v := ?_) rfl (by kernel_rfl) (by kernel_rfl) (by kernel_rfl) (fun _ _ _ h => h) (Or.inl ⟨by rfl, ?_⟩) (by assumption) ?_
  rotate_left
  · intro w hSw
    clear hSw
    go_simp
    all_goals with_reducible rfl
  simp only [Act.put, List.setIfInBounds_toArray, List.set_cons_zero, List.set_cons_succ]
  refine wpAnyH_ready (rs := [6]) (by kernel_rfl) (by simp) ?_
  refine AllReadyH.cons (o := { dst := some 28, op := Op.call { callee := Callee.value (Operand.func 13), args := #[Operand.tmp 24, Operand.tmp 27], argTypes := #[3, 22] }, type := 31, pos := "law.go:80", after := #[{ on := 2, ground := Ground.data }, { on := 5, ground := Ground.data }], guard := none }) rfl (fun K hK => ?_) AllReadyH.nil
  go_simp
  have VT := hide ((HV.out.take n (by rw [HN.out]; omega)).below BZ.out (Nat.le_refl _))
  refine (root_any a _ (L.take n) Z VT.out (by rw [List.length_take, HN.out]; omega) (HF.out.take n) (HK.out.below (B1.out.trans (BZ.out.mono B1.out.size)) h0)).mono ?_
  rintro e Z2 ⟨rfl, hb2⟩
  obtain ⟨D1, hD1⟩ : ∃ D, D = S.root a (L.take n) := ⟨_, rfl⟩
  rw [← hD1]
  have HD1 := hide hD1
  have BZ2 : Hid (Below w1.heap.size w1 Z2) := BZ.out.trans (hb2.mono BZ.out.size)
  have RZ2 : Hid (Z2.heap[g2]? = some (.cells (S.v8 D) 31 (0, 0))) := (hb2.block _ (block_lt_of_row RZ.out)).trans RZ.out
  clear hHeld hb2 VT hD1 BZ RZ
  refine hK.out _ _ (rangeAt_row RZ2.out) (fun hHeld => ?_)
  clear hK K
  try simp only [Act.put, List.setIfInBounds_toArray, List.set_cons_zero, List.set_cons_succ]
  refine wpAnyH_ready (rs := [11]) (by kernel_rfl) (by simp) ?_
  refine AllReadyH.cons (o := { dst := some 33, op := Op.call { callee := Callee.value (Operand.func 13), args := #[Operand.tmp 29, Operand.tmp 32], argTypes := #[3, 22] }, type := 31, pos := "law.go:80", after := #[{ on := 7, ground := Ground.data }, { on := 10, ground := Ground.data }, { on := 6, ground := Ground.chain }], guard := none }) rfl (fun K hK => ?_) AllReadyH.nil
  go_simp
  have VT : Hid (BsAt Z2 (.slice (some ⟨b, off + n, none⟩) (m - n) (cap - n)) (L.drop n)) := by have := (HV.out.drop n (by rw [HN.out]; omega)).below BZ2.out (Nat.le_refl _); rw [HN.out] at this; exact this
  refine (root_any a _ (L.drop n) Z2 VT.out (by rw [List.length_drop, HN.out]; omega) (HF.out.drop n) (HK.out.below (B1.out.trans (BZ2.out.mono B1.out.size)) h0)).mono ?_
  rintro e Z3 ⟨rfl, hb2⟩
  obtain ⟨D2, hD2⟩ : ∃ D, D = S.root a (L.drop n) := ⟨_, rfl⟩
  rw [← hD2]
  have HD2 := hide hD2
  have BZ3 : Hid (Below w1.heap.size w1 Z3) := BZ2.out.trans (hb2.mono BZ2.out.size)
  have RZ3 : Hid (Z3.heap[g2]? = some (.cells (S.v8 D) 31 (0, 0))) := (hb2.block _ (block_lt_of_row RZ2.out)).trans RZ2.out
  clear hHeld hb2 VT hD2 BZ2 RZ2
  refine hK.out _ _ (rangeAt_row RZ3.out) (fun hHeld => ?_)
  clear hK K
  try simp only [Act.put, List.setIfInBounds_toArray, List.set_cons_zero, List.set_cons_succ]
  refine wpAnyH_ready (rs := [12]) (by kernel_rfl) (by simp) ?_
  refine AllReadyH.cons (o := { dst := some 34, op := Op.call { callee := Callee.value (Operand.func 21), args := #[Operand.tmp 23, Operand.tmp 28, Operand.tmp 33], argTypes := #[3, 31, 31] }, type := 31, pos := "law.go:80", after := #[{ on := 1, ground := Ground.data }, { on := 6, ground := Ground.data }, { on := 11, ground := Ground.data }, { on := 11, ground := Ground.chain }], guard := none }) rfl (fun K hK => ?_) AllReadyH.nil
  go_simp
  refine (node_any a D1 D2 (by rw [HD1.out, S.root_length]) (by rw [HD2.out, S.root_length]) Z3 (HK.out.below (B1.out.trans (BZ3.out.mono B1.out.size)) h0)).mono ?_
  rintro e Z5 ⟨rfl, hb2⟩
  have B5 : Hid (Below w.heap.size w Z5) := (B1.out.trans (BZ3.out.mono B1.out.size)).trans (hb2.mono (Nat.le_trans B1.out.size BZ3.out.size))
  have R5 : Hid (Z5.heap[g2]? = some (.cells (S.v8 D) 31 (0, 0))) := (hb2.block _ (block_lt_of_row RZ3.out)).trans RZ3.out
  have e9 : S.node a D1 D2 = D := by rw [HD.out, S.root_more a L (by rw [HN.out]; omega), HN.out, HH.out, HD1.out, HD2.out]
  rw [e9]
  have heq : ∀ w, (Op.equalIn 10000 31 (.agg (S.v8l D).toArray) (.agg (S.v8 D))).run Tryd.prog w = .ok true w := fun w => equal_dig D D HL.out HL.out true (by simp) w
  clear hHeld hb2 BZ3 RZ3 e9
  refine hK.out _ _ (rangeAt_row R5.out) (fun hHeld => ?_)
  clear hK K
  try simp only [Act.put, List.setIfInBounds_toArray, List.set_cons_zero, List.set_cons_succ]
  refine wpAnyH_take (i := 13) (oi := { dst := some 35, op := Op.binOp BinOp.neq 31 (Operand.tmp 22) (Operand.tmp 34) 31, type := 4, pos := "law.go:80", after := #[{ on := 0, ground := Ground.data }, { on := 12, ground := Ground.data }], guard := none }) (v := ?_) rfl (by kernel_rfl) (by kernel_rfl) (by kernel_rfl) (fun _ _ _ h => h) (Or.inl ⟨by rfl, ?_⟩) (by assumption) ?_
  rotate_left
  · intro w hSw
    clear hSw
    go_simp
    all_goals with_reducible rfl
  simp only [Act.put, List.setIfInBounds_toArray, List.set_cons_zero, List.set_cons_succ]
  refine wpAnyH_done (by kernel_rfl) ?_ _
  refine NoPanic.normal ?_
  clear hHeld q2 q3 q4 q5 q6
  clear heq
  go_wp2_with fail
  go_loopw [10] (fun i wr => ∃ k : Nat, k ≤ 32 ∧ i = .int .i64 (k : Int) ∧ Z5 = wr) (fun i _ => 32 - (intOf i).toNat)
  case atStart => exact ⟨0, by omega, rfl, rfl⟩
  case round =>
    obtain ⟨k, hk, rfl, rfl⟩ := hrel
    have q4 : IntKind.i64.wrap ((k : Int) + 1) = (k : Int) + 1 := by rw [IntKind.wrap_i64]; omega
    by_cases hlt : k < 32
    · have q1 : (0 : Int) ≤ (k : Int) := by omega
      have q2 : (k : Int) < 32 := by omega
      by_cases ha1 : 1 ≤ a
      · by_cases ha2 : a ≤ 32
        · by_cases ha3 : a ≤ (k : Int)
          · have c0 : Z5.cell? ⟨g2, k, none⟩ = some (.int .u8 0) := by
              rw [v8_cell R5.out k (by rw [HL.out]; exact hlt), HD.out, S.root_behind a L k (by unfold S.cw; split <;> omega) hlt]
              rfl
            go_wp2_with fail
            go_roundw
            case rel => exact ⟨k + 1, by omega, by go_num, trivial⟩
            case measure => simp [intOf]; omega
          · have ha3' : (k : Int) < a := by omega
            go_wp2_with fail
            go_roundw
            case rel => exact ⟨k + 1, by omega, by go_num, trivial⟩
            case measure => simp [intOf]; omega
        · have ha2' : (32 : Int) < a := by omega
          go_wp2_with fail
          go_roundw
          case rel => exact ⟨k + 1, by omega, by go_num, trivial⟩
          case measure => simp [intOf]; omega
      · have ha1' : a < 1 := by omega
        go_wp2_with fail
        go_roundw
        case rel => exact ⟨k + 1, by omega, by go_num, trivial⟩
        case measure => simp [intOf]; omega
    · obtain rfl : k = 32 := by omega
      go_wp2_with fail
      refine (known_any Z5 (HK.out.below B5.out h0)).mono ?_
      rintro e w9 ⟨rfl, b9⟩
      have B9 := hide (B5.out.trans (b9.mono B5.out.size))
      go_wp2_with fail
      go_ret
      exact ⟨rfl, B9.out⟩
end Go.Proofs.YtmhmebblmgfgaaaDoor
