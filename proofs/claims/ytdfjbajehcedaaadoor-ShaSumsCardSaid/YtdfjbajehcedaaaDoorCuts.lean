/- The walk of ShaCuts: for every readable slice and any two numbers the call returns true and nothing that was there changes. -/
import Derived.Test.YtdfjbajehcedaaaDoorCut
import Derived.Stop.BytesEq
namespace Go.Proofs.YtdfjbajehcedaaaDoor
open Go.RowKit
theorem equal_bytes (xs ys : List UInt8) (hx : xs.length = 32) (hy : ys.length = 32) (w : World) : (Op.equalIn 10000 23 (.agg (S.v8 xs)) (.agg (S.v8 ys))).run Tryd.prog w = .ok (xs == ys) w :=
  run_equalIn_bytes w 9998 23 5 32 Tryd.underlying23 Tryd.underlying5 (fun _ => by kernel_rfl) xs ys hx hy
/-- What holds at every call of a law that asks about a digest in block g. -/
def Held (w : World) (v : Value) (bs : List UInt8) (g : Nat) (w' : World) : Prop := KAt w' ∧ SliceAt w' v bs ∧ Below w.heap.size w w' ∧ g < w'.heap.size ∧ 0 < w.heap.size
theorem held_below {w W w' : World} {v : Value} {bs : List UInt8} {g : Nat} {cs : List Value} (h : W.rangeAt g 0 cs ∧ Held w v bs g W) (hb : Below W.heap.size W w') : w'.rangeAt g 0 cs ∧ Held w v bs g w' := by
  obtain ⟨h1, h2, h3, h4, h5, h6⟩ := h
  exact ⟨fun j u hu => (hb.cell (p := ⟨g, 0 + j, none⟩) (by exact h5)).trans (h1 j u hu), h2.below hb (Nat.lt_of_lt_of_le h6 h4.size), h3.below hb (Nat.le_refl _), h4.trans (hb.mono h4.size), Nat.lt_of_lt_of_le h5 hb.size, h6⟩
theorem held_drew {w W : World} {v : Value} {bs : List UInt8} {g : Nat} {cs : List Value} (h : W.rangeAt g 0 cs ∧ Held w v bs g W) : W.drew.rangeAt g 0 cs ∧ Held w v bs g W.drew :=
  held_below h (Below.refl _ _).drew
theorem held_K {w W : World} {v : Value} {bs : List UInt8} {g : Nat} {cs : List Value} (h : W.rangeAt g 0 cs ∧ Held w v bs g W) : KAt W := h.2.1
theorem held_slice {w W : World} {v : Value} {bs : List UInt8} {g : Nat} {cs : List Value} (h : W.rangeAt g 0 cs ∧ Held w v bs g W) : SliceAt W v bs := h.2.2.1
theorem held_nx {w W : World} {v : Value} {bs : List UInt8} {g : Nat} {cs : List Value} (h : W.rangeAt g 0 cs ∧ Held w v bs g W) : Below w.heap.size w W := h.2.2.2.1
theorem cut_L (cs : List Value) (d : List UInt8) (hcs : Hid (cs = S.v8l d)) (hd : Hid (d.length = 32)) (a : Nat) (ha : a ≤ 9223372036854775807) (w : World) :
   Calls Tryd.prog 11 #[.agg cs.toArray, .int .i64 (a : Int)] w fun e w' => e = .returned (.agg (S.v8 (S.cut d a))) ∧ Below w.heap.size w w' := by
  rw [hcs.out]; exact cut_any d hd.out a ha w
set_option maxHeartbeats 800000 in
set_option maxRecDepth 100000 in
theorem shaCuts_walk (v : Value) (bs : List UInt8) (m n : Int) (w : World) (hv : SliceAt w v bs) (hK : KAt w) (hm1 : -9223372036854775808 ≤ m) (hm2 : m ≤ 9223372036854775807) (hn1 : -9223372036854775808 ≤ n) (hn2 : n ≤ 9223372036854775807) :
   Calls Tryd.prog 7 #[v, .int .i64 m, .int .i64 n] w fun e w' => e = .returned (.bool true) ∧ Below w.heap.size w w' := by
  have HV := hide hv
  have HK := hide hK
  have h0 := hK.pos
  clear hv hK
  go_enter Tryd.func7, Tryd.ntmps7
  go_wp2_with fail
  refine (Sum_any v bs w HV.out HK.out).mono ?_
  rintro e w1 ⟨rfl, hb1⟩
  obtain ⟨D, hD⟩ : ∃ D, D = S.sum bs := ⟨_, rfl⟩
  have hD32 : D.length = 32 := by rw [hD]; exact S.sum_length _
  rw [← hD]
  have hs : (Tryd.prog.info? 23).map (·.size) = some (S.v8 D).size := by rw [S.v8_size, hD32]; exact size23
  have ho : (S.v8 (S.zeros 32)).size = (S.v8 D).size := by rw [S.v8_size, S.v8_size, hD32]; rfl
  have A1 := hide hs
  have A2 := hide ho
  have A3 := hide hD
  have A4 := hide hD32
  clear hs ho hD hD32
  go_wp2_with (first | refine wpList_store_row rfl 23 _ _ rfl w1.heap.size (S.v8 D) rfl rfl 23 (S.v8 (S.zeros 32)) (heap_alloc_new _ _) A1.out A2.out (S.v8_one _) ?_ | fail)
  generalize hW1 : World.setRow _ w1.heap.size (S.v8 D) = W1
  have r0 : W1.heap[w1.heap.size]? = some (.cells (S.v8 D) 23 (0, 0)) := by rw [← hW1]; exact setRow_heap _ _ _ _ _ _ (heap_alloc_new _ _)
  have hn : Below w.heap.size w W1 := by rw [← hW1]; exact below_setRow (hb1.alloc hb1.size _) hb1.size _
  clear hW1
  generalize w1.heap.size = g at *
  clear hb1 w1
  refine (within_any m 40 W1 hm1 hm2 (by omega) (by omega)).mono ?_
  rintro e w2 ⟨a0, rfl, ha1, ha2, rfl⟩
  obtain ⟨a, rfl⟩ := Int.eq_ofNat_of_zero_le ha1
  go_wp2_with fail
  refine (within_any n 40 W1 hn1 hn2 (by omega) (by omega)).mono ?_
  rintro e w2 ⟨b0, rfl, hb1, hb2, rfl⟩
  obtain ⟨b, rfl⟩ := Int.eq_ofNat_of_zero_le hb1
  obtain ⟨cs, hcs⟩ : ∃ cs : List Value, cs = S.v8l D := ⟨_, rfl⟩
  have HCS := hide hcs
  have hcl : cs.length = 32 := by rw [hcs, S.v8l_length]; exact A4.out
  have hco : ∀ v ∈ cs, v.oneCell' = true := by rw [hcs]; exact S.v8l_one _
  have hu := Tryd.underlying23
  have hi : (Tryd.prog.info? 23).map (·.size) = some cs.length := by rw [hcl]; exact size23
  have HC32 : Hid ((S.cut D a).length = 32) := by show (S.cut D a).length = 32; rw [S.cut_length]; exact A4.out
  have hR : W1.rangeAt g 0 cs ∧ Held w v bs g W1 := by
    refine ⟨fun j u hu => ?_, HK.out.below hn h0, HV.out.below hn (Nat.le_refl _), hn, block_lt_of_row r0, h0⟩
    rw [hcs] at hu
    obtain ⟨rfl, hj⟩ := S.v8l_at D j u hu
    rw [Nat.zero_add]
    exact v8_cell r0 j hj
  have e2 : ∀ w, (Op.equalIn 10000 23 (.agg (S.v8 (S.sum bs))) (.agg cs.toArray)).run Tryd.prog w = .ok true w := fun w => by
    rw [hcs, A3.out]
    show (Op.equalIn 10000 23 (.agg (S.v8 (S.sum bs))) (.agg (S.v8 (S.sum bs)))).run Tryd.prog w = .ok true w
    rw [equal_bytes _ _ (S.sum_length _) (S.sum_length _) w]; simp
  clear hcs
  by_cases hlt : (b : Int) < (a : Int)
  · have e1 : ∀ w, (Op.equalIn 10000 23 (.agg (S.v8 (S.cut (S.cut D a) b))) (.agg (S.v8 (S.cut D b)))).run Tryd.prog w = .ok true w := fun w => by
      rw [S.cut_cut D A4.out a b, show min a b = b from by omega, equal_bytes _ _ (by rw [S.cut_length]; exact A4.out) (by rw [S.cut_length]; exact A4.out) w]; simp
    clear h0 hm1 hm2 hn1 hn2 r0 hn
    go_wp2
    refine wp_region_noPanic ?_
    refine wp_region_held_drew (S := (fun w' => w'.rangeAt g 0 cs ∧ Held w v bs g w')) follows (held_drew hR) (fun hHeld => ?_)
    refine wpAnyH_take (i := 0) (oi := { dst := some 20, op := Op.load 23 (Operand.tmp 7), type := 23, pos := "law.go:83", after := #[], guard := none }) (v := .agg cs.toArray) rfl (by kernel_rfl) (by kernel_rfl) (by kernel_rfl) (fun _ _ _ h => h) (yieldsIf_load_mid (by rfl) _ _ rfl g 0 rfl cs _ (fun _ hSw => hSw.1) hu rfl hi) (by assumption) ?_
    simp only [Act.put, List.setIfInBounds_toArray, List.set_cons_zero, List.set_cons_succ]
    refine wpAnyH_take (i := 1) (oi := { dst := some 21, op := Op.move (Operand.tmp 1), type := 3, pos := "law.go:83", after := #[], guard := none }) (v := ?_) rfl (by kernel_rfl) (by kernel_rfl) (by kernel_rfl) (fun _ _ _ h => h) (Or.inl ⟨by rfl, ?_⟩) (by assumption) ?_
    rotate_left
    · intro w hSw
      clear hSw
      go_simp
      all_goals with_reducible rfl
    simp only [Act.put, List.setIfInBounds_toArray, List.set_cons_zero, List.set_cons_succ]
    refine wpAnyH_take (i := 3) (oi := { dst := some 23, op := Op.move (Operand.tmp 2), type := 3, pos := "law.go:83", after := #[], guard := none }) (v := ?_) rfl (by kernel_rfl) (by kernel_rfl) (by kernel_rfl) (fun _ _ _ h => h) (Or.inl ⟨by rfl, ?_⟩) (by assumption) ?_
    rotate_left
    · intro w hSw
      clear hSw
      go_simp
      all_goals with_reducible rfl
    simp only [Act.put, List.setIfInBounds_toArray, List.set_cons_zero, List.set_cons_succ]
    refine wpAnyH_take (i := 6) (oi := { dst := some 26, op := Op.move (Operand.tmp 8), type := 3, pos := "law.go:83", after := #[], guard := none }) (v := ?_) rfl (by kernel_rfl) (by kernel_rfl) (by kernel_rfl) (fun _ _ _ h => h) (Or.inl ⟨by rfl, ?_⟩) (by assumption) ?_
    rotate_left
    · intro w hSw
      clear hSw
      go_simp
      all_goals with_reducible rfl
    simp only [Act.put, List.setIfInBounds_toArray, List.set_cons_zero, List.set_cons_succ]
    refine wpAnyH_take (i := 5) (oi := { dst := some 25, op := Op.load 23 (Operand.tmp 7), type := 23, pos := "law.go:83", after := #[], guard := none }) (v := .agg cs.toArray) rfl (by kernel_rfl) (by kernel_rfl) (by kernel_rfl) (fun _ _ _ h => h) (yieldsIf_load_mid (by rfl) _ _ rfl g 0 rfl cs _ (fun _ hSw => hSw.1) hu rfl hi) (by assumption) ?_
    simp only [Act.put, List.setIfInBounds_toArray, List.set_cons_zero, List.set_cons_succ]
    refine wpAnyH_ready (rs := [2]) (by kernel_rfl) (by simp) ?_
    refine AllReadyH.cons (o := { dst := some 22, op := Op.call { callee := Callee.value (Operand.func 11), args := #[Operand.tmp 20, Operand.tmp 21], argTypes := #[23, 3] }, type := 23, pos := "law.go:83", after := #[{ on := 0, ground := Ground.data }, { on := 1, ground := Ground.data }], guard := none }) rfl (fun K hK => ?_) AllReadyH.nil
    go_simp
    refine (cut_L cs D HCS A4 a (by omega) _).mono ?_
    rintro e w2 ⟨rfl, hbx⟩
    have hk := held_below hHeld hbx
    clear hbx hHeld
    go_wp2_with fail
    refine hK.out _ _ ?_ (fun hHeld => ?_)
    · exact hk
    clear hK K
    try simp only [Act.put, List.setIfInBounds_toArray, List.set_cons_zero, List.set_cons_succ]
    refine wpAnyH_ready (rs := [4]) (by kernel_rfl) (by simp) ?_
    refine AllReadyH.cons (o := { dst := some 24, op := Op.call { callee := Callee.value (Operand.func 11), args := #[Operand.tmp 22, Operand.tmp 23], argTypes := #[23, 3] }, type := 23, pos := "law.go:83", after := #[{ on := 2, ground := Ground.data }, { on := 3, ground := Ground.data }, { on := 2, ground := Ground.chain }], guard := none }) rfl (fun K hK => ?_) AllReadyH.nil
    go_simp
    refine (cut_any (S.cut D a) HC32.out b (by omega) _).mono ?_
    rintro e w2 ⟨rfl, hbx⟩
    have hk := held_below hHeld hbx
    clear hbx hHeld
    go_wp2_with fail
    refine hK.out _ _ ?_ (fun hHeld => ?_)
    · exact hk
    clear hK K
    try simp only [Act.put, List.setIfInBounds_toArray, List.set_cons_zero, List.set_cons_succ]
    refine wpAnyH_ready (rs := [7]) (by kernel_rfl) (by simp) ?_
    refine AllReadyH.cons (o := { dst := some 27, op := Op.call { callee := Callee.value (Operand.func 11), args := #[Operand.tmp 25, Operand.tmp 26], argTypes := #[23, 3] }, type := 23, pos := "law.go:83", after := #[{ on := 5, ground := Ground.data }, { on := 6, ground := Ground.data }, { on := 4, ground := Ground.chain }], guard := none }) rfl (fun K hK => ?_) AllReadyH.nil
    go_simp
    refine (cut_L cs D HCS A4 b (by omega) _).mono ?_
    rintro e w2 ⟨rfl, hbx⟩
    have hk := held_below hHeld hbx
    clear hbx hHeld
    go_wp2_with fail
    refine hK.out _ _ ?_ (fun hHeld => ?_)
    · exact hk
    clear hK K
    try simp only [Act.put, List.setIfInBounds_toArray, List.set_cons_zero, List.set_cons_succ]
    refine wpAnyH_take (i := 8) (oi := { dst := some 28, op := Op.binOp BinOp.eql 23 (Operand.tmp 24) (Operand.tmp 27) 23, type := 4, pos := "law.go:83", after := #[{ on := 4, ground := Ground.data }, { on := 7, ground := Ground.data }], guard := none }) (v := ?_) rfl (by kernel_rfl) (by kernel_rfl) (by kernel_rfl) (fun _ _ _ h => h) (Or.inl ⟨by rfl, ?_⟩) (by assumption) ?_
    rotate_left
    · intro w hSw
      clear hSw
      go_simp
      all_goals with_reducible rfl
    simp only [Act.put, List.setIfInBounds_toArray, List.set_cons_zero, List.set_cons_succ]
    refine wpAnyH_take (i := 9) (oi := { dst := some 29, op := Op.move (Operand.tmp 28), type := 4, pos := "law.go:83", after := #[{ on := 8, ground := Ground.data }, { on := 7, ground := Ground.chain }], guard := none }) (v := ?_) rfl (by kernel_rfl) (by kernel_rfl) (by kernel_rfl) (fun _ _ _ h => h) (Or.inl ⟨by rfl, ?_⟩) (by assumption) ?_
    rotate_left
    · intro w hSw
      clear hSw
      go_simp
      all_goals with_reducible rfl
    simp only [Act.put, List.setIfInBounds_toArray, List.set_cons_zero, List.set_cons_succ]
    refine wpAnyH_take (i := 10) (oi := { dst := some 30, op := Op.move (Operand.tmp 0), type := 26, pos := "law.go:83", after := #[{ on := 9, ground := Ground.guard }], guard := some (9, true) }) (v := ?_) rfl (by kernel_rfl) (by kernel_rfl) (by kernel_rfl) (fun _ _ _ h => h) (Or.inl ⟨by rfl, ?_⟩) (by assumption) ?_
    rotate_left
    · intro w hSw
      clear hSw
      go_simp
      all_goals with_reducible rfl
    simp only [Act.put, List.setIfInBounds_toArray, List.set_cons_zero, List.set_cons_succ]
    refine wpAnyH_take (i := 12) (oi := { dst := some 32, op := Op.load 23 (Operand.tmp 7), type := 23, pos := "law.go:83", after := #[{ on := 9, ground := Ground.guard }], guard := some (9, true) }) (v := .agg cs.toArray) rfl (by kernel_rfl) (by kernel_rfl) (by kernel_rfl) (fun _ _ _ h => h) (yieldsIf_load_mid (by rfl) _ _ rfl g 0 rfl cs _ (fun _ hSw => hSw.1) hu rfl hi) (by assumption) ?_
    simp only [Act.put, List.setIfInBounds_toArray, List.set_cons_zero, List.set_cons_succ]
    refine wpAnyH_ready (rs := [11]) (by kernel_rfl) (by simp) ?_
    refine AllReadyH.cons (o := { dst := some 31, op := Op.call { callee := Callee.value (Operand.func 16), args := #[Operand.tmp 30], argTypes := #[26] }, type := 23, pos := "law.go:83", after := #[{ on := 10, ground := Ground.data }, { on := 9, ground := Ground.chain }, { on := 9, ground := Ground.guard }], guard := some (9, true) }) rfl (fun K hK => ?_) AllReadyH.nil
    go_simp
    refine (Sum_any v bs _ (held_slice hHeld) (held_K hHeld)).mono ?_
    rintro e w2 ⟨rfl, hbx⟩
    have hk := held_below hHeld hbx
    clear hbx hHeld
    go_wp2_with fail
    refine hK.out _ _ ?_ (fun hHeld => ?_)
    · exact hk
    clear hK K
    try simp only [Act.put, List.setIfInBounds_toArray, List.set_cons_zero, List.set_cons_succ]
    refine wpAnyH_take (i := 13) (oi := { dst := some 33, op := Op.binOp BinOp.eql 23 (Operand.tmp 31) (Operand.tmp 32) 23, type := 4, pos := "law.go:83", after := #[{ on := 11, ground := Ground.data }, { on := 12, ground := Ground.data }, { on := 9, ground := Ground.guard }], guard := some (9, true) }) (v := ?_) rfl (by kernel_rfl) (by kernel_rfl) (by kernel_rfl) (fun _ _ _ h => h) (Or.inl ⟨by rfl, ?_⟩) (by assumption) ?_
    rotate_left
    · intro w hSw
      clear hSw
      go_simp
      all_goals with_reducible rfl
    simp only [Act.put, List.setIfInBounds_toArray, List.set_cons_zero, List.set_cons_succ]
    refine wpAnyH_take (i := 14) (oi := { dst := some 34, op := Op.pick (Operand.tmp 29) (Operand.tmp 33) (Operand.const (Value.bool false)), type := 4, pos := "law.go:83", after := #[{ on := 9, ground := Ground.data }, { on := 13, ground := Ground.data }], guard := none }) (v := ?_) rfl (by kernel_rfl) (by kernel_rfl) (by kernel_rfl) (fun _ _ _ h => h) (Or.inl ⟨by rfl, ?_⟩) (by assumption) ?_
    rotate_left
    · intro w hSw
      clear hSw
      go_simp
      all_goals with_reducible rfl
    simp only [Act.put, List.setIfInBounds_toArray, List.set_cons_zero, List.set_cons_succ]
    refine wpAnyH_take (i := 15) (oi := { dst := some 35, op := Op.move (Operand.tmp 34), type := 4, pos := "law.go:83", after := #[{ on := 14, ground := Ground.data }, { on := 11, ground := Ground.chain }], guard := none }) (v := ?_) rfl (by kernel_rfl) (by kernel_rfl) (by kernel_rfl) (fun _ _ _ h => h) (Or.inl ⟨by rfl, ?_⟩) (by assumption) ?_
    rotate_left
    · intro w hSw
      clear hSw
      go_simp
      all_goals with_reducible rfl
    simp only [Act.put, List.setIfInBounds_toArray, List.set_cons_zero, List.set_cons_succ]
    refine wpAnyH_ready (rs := [16]) (by kernel_rfl) (by simp) ?_
    refine AllReadyH.cons (o := { dst := some 36, op := Op.call { callee := Callee.value (Operand.func 13), args := #[], argTypes := #[] }, type := 4, pos := "law.go:83", after := #[{ on := 15, ground := Ground.chain }, { on := 15, ground := Ground.guard }], guard := some (15, true) }) rfl (fun K hK => ?_) AllReadyH.nil
    go_simp
    refine (known_any _ (held_K hHeld)).mono ?_
    rintro e w2 ⟨rfl, hbx⟩
    have hk := held_below hHeld hbx
    clear hbx hHeld
    go_wp2_with fail
    refine hK.out _ _ ?_ (fun hHeld => ?_)
    · exact hk
    clear hK K
    try simp only [Act.put, List.setIfInBounds_toArray, List.set_cons_zero, List.set_cons_succ]
    refine wpAnyH_take (i := 17) (oi := { dst := some 37, op := Op.pick (Operand.tmp 35) (Operand.tmp 36) (Operand.const (Value.bool false)), type := 4, pos := "law.go:83", after := #[{ on := 15, ground := Ground.data }, { on := 16, ground := Ground.data }], guard := none }) (v := ?_) rfl (by kernel_rfl) (by kernel_rfl) (by kernel_rfl) (fun _ _ _ h => h) (Or.inl ⟨by rfl, ?_⟩) (by assumption) ?_
    rotate_left
    · intro w hSw
      clear hSw
      go_simp
      all_goals with_reducible rfl
    simp only [Act.put, List.setIfInBounds_toArray, List.set_cons_zero, List.set_cons_succ]
    refine wpAnyH_take (i := 18) (oi := { dst := some 6, op := Op.assign (Operand.tmp 37), type := 4, pos := "law.go:83", after := #[{ on := 17, ground := Ground.data }, { on := 16, ground := Ground.chain }, { on := 0, ground := Ground.phase }, { on := 1, ground := Ground.phase }, { on := 2, ground := Ground.phase }, { on := 3, ground := Ground.phase }, { on := 4, ground := Ground.phase }, { on := 5, ground := Ground.phase }, { on := 6, ground := Ground.phase }, { on := 7, ground := Ground.phase }, { on := 8, ground := Ground.phase }, { on := 9, ground := Ground.phase }, { on := 10, ground := Ground.phase }, { on := 11, ground := Ground.phase }, { on := 12, ground := Ground.phase }, { on := 13, ground := Ground.phase }, { on := 14, ground := Ground.phase }, { on := 15, ground := Ground.phase }, { on := 16, ground := Ground.phase }, { on := 17, ground := Ground.phase }], guard := none }) (v := ?_) rfl (by kernel_rfl) (by kernel_rfl) (by kernel_rfl) (fun _ _ _ h => h) (Or.inl ⟨by rfl, ?_⟩) (by assumption) ?_
    rotate_left
    · intro w hSw
      clear hSw
      go_simp
      all_goals with_reducible rfl
    simp only [Act.put, List.setIfInBounds_toArray, List.set_cons_zero, List.set_cons_succ]
    refine wpAnyH_done (by kernel_rfl) ?_ _
    refine NoPanic.normal ?_
    go_wp2
    go_ret
    exact ⟨rfl, held_nx hHeld⟩
  · have e1 : ∀ w, (Op.equalIn 10000 23 (.agg (S.v8 (S.cut (S.cut D a) b))) (.agg (S.v8 (S.cut D a)))).run Tryd.prog w = .ok true w := fun w => by
      rw [S.cut_cut D A4.out a b, show min a b = a from by omega, equal_bytes _ _ (by rw [S.cut_length]; exact A4.out) (by rw [S.cut_length]; exact A4.out) w]; simp
    clear h0 hm1 hm2 hn1 hn2 r0 hn
    go_wp2
    refine wp_region_noPanic ?_
    refine wp_region_held_drew (S := (fun w' => w'.rangeAt g 0 cs ∧ Held w v bs g w')) follows (held_drew hR) (fun hHeld => ?_)
    refine wpAnyH_take (i := 0) (oi := { dst := some 20, op := Op.load 23 (Operand.tmp 7), type := 23, pos := "law.go:83", after := #[], guard := none }) (v := .agg cs.toArray) rfl (by kernel_rfl) (by kernel_rfl) (by kernel_rfl) (fun _ _ _ h => h) (yieldsIf_load_mid (by rfl) _ _ rfl g 0 rfl cs _ (fun _ hSw => hSw.1) hu rfl hi) (by assumption) ?_
    simp only [Act.put, List.setIfInBounds_toArray, List.set_cons_zero, List.set_cons_succ]
    refine wpAnyH_take (i := 1) (oi := { dst := some 21, op := Op.move (Operand.tmp 1), type := 3, pos := "law.go:83", after := #[], guard := none }) (v := ?_) rfl (by kernel_rfl) (by kernel_rfl) (by kernel_rfl) (fun _ _ _ h => h) (Or.inl ⟨by rfl, ?_⟩) (by assumption) ?_
    rotate_left
    · intro w hSw
      clear hSw
      go_simp
      all_goals with_reducible rfl
    simp only [Act.put, List.setIfInBounds_toArray, List.set_cons_zero, List.set_cons_succ]
    refine wpAnyH_take (i := 3) (oi := { dst := some 23, op := Op.move (Operand.tmp 2), type := 3, pos := "law.go:83", after := #[], guard := none }) (v := ?_) rfl (by kernel_rfl) (by kernel_rfl) (by kernel_rfl) (fun _ _ _ h => h) (Or.inl ⟨by rfl, ?_⟩) (by assumption) ?_
    rotate_left
    · intro w hSw
      clear hSw
      go_simp
      all_goals with_reducible rfl
    simp only [Act.put, List.setIfInBounds_toArray, List.set_cons_zero, List.set_cons_succ]
    refine wpAnyH_take (i := 6) (oi := { dst := some 26, op := Op.move (Operand.tmp 8), type := 3, pos := "law.go:83", after := #[], guard := none }) (v := ?_) rfl (by kernel_rfl) (by kernel_rfl) (by kernel_rfl) (fun _ _ _ h => h) (Or.inl ⟨by rfl, ?_⟩) (by assumption) ?_
    rotate_left
    · intro w hSw
      clear hSw
      go_simp
      all_goals with_reducible rfl
    simp only [Act.put, List.setIfInBounds_toArray, List.set_cons_zero, List.set_cons_succ]
    refine wpAnyH_take (i := 5) (oi := { dst := some 25, op := Op.load 23 (Operand.tmp 7), type := 23, pos := "law.go:83", after := #[], guard := none }) (v := .agg cs.toArray) rfl (by kernel_rfl) (by kernel_rfl) (by kernel_rfl) (fun _ _ _ h => h) (yieldsIf_load_mid (by rfl) _ _ rfl g 0 rfl cs _ (fun _ hSw => hSw.1) hu rfl hi) (by assumption) ?_
    simp only [Act.put, List.setIfInBounds_toArray, List.set_cons_zero, List.set_cons_succ]
    refine wpAnyH_ready (rs := [2]) (by kernel_rfl) (by simp) ?_
    refine AllReadyH.cons (o := { dst := some 22, op := Op.call { callee := Callee.value (Operand.func 11), args := #[Operand.tmp 20, Operand.tmp 21], argTypes := #[23, 3] }, type := 23, pos := "law.go:83", after := #[{ on := 0, ground := Ground.data }, { on := 1, ground := Ground.data }], guard := none }) rfl (fun K hK => ?_) AllReadyH.nil
    go_simp
    refine (cut_L cs D HCS A4 a (by omega) _).mono ?_
    rintro e w2 ⟨rfl, hbx⟩
    have hk := held_below hHeld hbx
    clear hbx hHeld
    go_wp2_with fail
    refine hK.out _ _ ?_ (fun hHeld => ?_)
    · exact hk
    clear hK K
    try simp only [Act.put, List.setIfInBounds_toArray, List.set_cons_zero, List.set_cons_succ]
    refine wpAnyH_ready (rs := [4]) (by kernel_rfl) (by simp) ?_
    refine AllReadyH.cons (o := { dst := some 24, op := Op.call { callee := Callee.value (Operand.func 11), args := #[Operand.tmp 22, Operand.tmp 23], argTypes := #[23, 3] }, type := 23, pos := "law.go:83", after := #[{ on := 2, ground := Ground.data }, { on := 3, ground := Ground.data }, { on := 2, ground := Ground.chain }], guard := none }) rfl (fun K hK => ?_) AllReadyH.nil
    go_simp
    refine (cut_any (S.cut D a) HC32.out b (by omega) _).mono ?_
    rintro e w2 ⟨rfl, hbx⟩
    have hk := held_below hHeld hbx
    clear hbx hHeld
    go_wp2_with fail
    refine hK.out _ _ ?_ (fun hHeld => ?_)
    · exact hk
    clear hK K
    try simp only [Act.put, List.setIfInBounds_toArray, List.set_cons_zero, List.set_cons_succ]
    refine wpAnyH_ready (rs := [7]) (by kernel_rfl) (by simp) ?_
    refine AllReadyH.cons (o := { dst := some 27, op := Op.call { callee := Callee.value (Operand.func 11), args := #[Operand.tmp 25, Operand.tmp 26], argTypes := #[23, 3] }, type := 23, pos := "law.go:83", after := #[{ on := 5, ground := Ground.data }, { on := 6, ground := Ground.data }, { on := 4, ground := Ground.chain }], guard := none }) rfl (fun K hK => ?_) AllReadyH.nil
    go_simp
    refine (cut_L cs D HCS A4 a (by omega) _).mono ?_
    rintro e w2 ⟨rfl, hbx⟩
    have hk := held_below hHeld hbx
    clear hbx hHeld
    go_wp2_with fail
    refine hK.out _ _ ?_ (fun hHeld => ?_)
    · exact hk
    clear hK K
    try simp only [Act.put, List.setIfInBounds_toArray, List.set_cons_zero, List.set_cons_succ]
    refine wpAnyH_take (i := 8) (oi := { dst := some 28, op := Op.binOp BinOp.eql 23 (Operand.tmp 24) (Operand.tmp 27) 23, type := 4, pos := "law.go:83", after := #[{ on := 4, ground := Ground.data }, { on := 7, ground := Ground.data }], guard := none }) (v := ?_) rfl (by kernel_rfl) (by kernel_rfl) (by kernel_rfl) (fun _ _ _ h => h) (Or.inl ⟨by rfl, ?_⟩) (by assumption) ?_
    rotate_left
    · intro w hSw
      clear hSw
      go_simp
      all_goals with_reducible rfl
    simp only [Act.put, List.setIfInBounds_toArray, List.set_cons_zero, List.set_cons_succ]
    refine wpAnyH_take (i := 9) (oi := { dst := some 29, op := Op.move (Operand.tmp 28), type := 4, pos := "law.go:83", after := #[{ on := 8, ground := Ground.data }, { on := 7, ground := Ground.chain }], guard := none }) (v := ?_) rfl (by kernel_rfl) (by kernel_rfl) (by kernel_rfl) (fun _ _ _ h => h) (Or.inl ⟨by rfl, ?_⟩) (by assumption) ?_
    rotate_left
    · intro w hSw
      clear hSw
      go_simp
      all_goals with_reducible rfl
    simp only [Act.put, List.setIfInBounds_toArray, List.set_cons_zero, List.set_cons_succ]
    refine wpAnyH_take (i := 10) (oi := { dst := some 30, op := Op.move (Operand.tmp 0), type := 26, pos := "law.go:83", after := #[{ on := 9, ground := Ground.guard }], guard := some (9, true) }) (v := ?_) rfl (by kernel_rfl) (by kernel_rfl) (by kernel_rfl) (fun _ _ _ h => h) (Or.inl ⟨by rfl, ?_⟩) (by assumption) ?_
    rotate_left
    · intro w hSw
      clear hSw
      go_simp
      all_goals with_reducible rfl
    simp only [Act.put, List.setIfInBounds_toArray, List.set_cons_zero, List.set_cons_succ]
    refine wpAnyH_take (i := 12) (oi := { dst := some 32, op := Op.load 23 (Operand.tmp 7), type := 23, pos := "law.go:83", after := #[{ on := 9, ground := Ground.guard }], guard := some (9, true) }) (v := .agg cs.toArray) rfl (by kernel_rfl) (by kernel_rfl) (by kernel_rfl) (fun _ _ _ h => h) (yieldsIf_load_mid (by rfl) _ _ rfl g 0 rfl cs _ (fun _ hSw => hSw.1) hu rfl hi) (by assumption) ?_
    simp only [Act.put, List.setIfInBounds_toArray, List.set_cons_zero, List.set_cons_succ]
    refine wpAnyH_ready (rs := [11]) (by kernel_rfl) (by simp) ?_
    refine AllReadyH.cons (o := { dst := some 31, op := Op.call { callee := Callee.value (Operand.func 16), args := #[Operand.tmp 30], argTypes := #[26] }, type := 23, pos := "law.go:83", after := #[{ on := 10, ground := Ground.data }, { on := 9, ground := Ground.chain }, { on := 9, ground := Ground.guard }], guard := some (9, true) }) rfl (fun K hK => ?_) AllReadyH.nil
    go_simp
    refine (Sum_any v bs _ (held_slice hHeld) (held_K hHeld)).mono ?_
    rintro e w2 ⟨rfl, hbx⟩
    have hk := held_below hHeld hbx
    clear hbx hHeld
    go_wp2_with fail
    refine hK.out _ _ ?_ (fun hHeld => ?_)
    · exact hk
    clear hK K
    try simp only [Act.put, List.setIfInBounds_toArray, List.set_cons_zero, List.set_cons_succ]
    refine wpAnyH_take (i := 13) (oi := { dst := some 33, op := Op.binOp BinOp.eql 23 (Operand.tmp 31) (Operand.tmp 32) 23, type := 4, pos := "law.go:83", after := #[{ on := 11, ground := Ground.data }, { on := 12, ground := Ground.data }, { on := 9, ground := Ground.guard }], guard := some (9, true) }) (v := ?_) rfl (by kernel_rfl) (by kernel_rfl) (by kernel_rfl) (fun _ _ _ h => h) (Or.inl ⟨by rfl, ?_⟩) (by assumption) ?_
    rotate_left
    · intro w hSw
      clear hSw
      go_simp
      all_goals with_reducible rfl
    simp only [Act.put, List.setIfInBounds_toArray, List.set_cons_zero, List.set_cons_succ]
    refine wpAnyH_take (i := 14) (oi := { dst := some 34, op := Op.pick (Operand.tmp 29) (Operand.tmp 33) (Operand.const (Value.bool false)), type := 4, pos := "law.go:83", after := #[{ on := 9, ground := Ground.data }, { on := 13, ground := Ground.data }], guard := none }) (v := ?_) rfl (by kernel_rfl) (by kernel_rfl) (by kernel_rfl) (fun _ _ _ h => h) (Or.inl ⟨by rfl, ?_⟩) (by assumption) ?_
    rotate_left
    · intro w hSw
      clear hSw
      go_simp
      all_goals with_reducible rfl
    simp only [Act.put, List.setIfInBounds_toArray, List.set_cons_zero, List.set_cons_succ]
    refine wpAnyH_take (i := 15) (oi := { dst := some 35, op := Op.move (Operand.tmp 34), type := 4, pos := "law.go:83", after := #[{ on := 14, ground := Ground.data }, { on := 11, ground := Ground.chain }], guard := none }) (v := ?_) rfl (by kernel_rfl) (by kernel_rfl) (by kernel_rfl) (fun _ _ _ h => h) (Or.inl ⟨by rfl, ?_⟩) (by assumption) ?_
    rotate_left
    · intro w hSw
      clear hSw
      go_simp
      all_goals with_reducible rfl
    simp only [Act.put, List.setIfInBounds_toArray, List.set_cons_zero, List.set_cons_succ]
    refine wpAnyH_ready (rs := [16]) (by kernel_rfl) (by simp) ?_
    refine AllReadyH.cons (o := { dst := some 36, op := Op.call { callee := Callee.value (Operand.func 13), args := #[], argTypes := #[] }, type := 4, pos := "law.go:83", after := #[{ on := 15, ground := Ground.chain }, { on := 15, ground := Ground.guard }], guard := some (15, true) }) rfl (fun K hK => ?_) AllReadyH.nil
    go_simp
    refine (known_any _ (held_K hHeld)).mono ?_
    rintro e w2 ⟨rfl, hbx⟩
    have hk := held_below hHeld hbx
    clear hbx hHeld
    go_wp2_with fail
    refine hK.out _ _ ?_ (fun hHeld => ?_)
    · exact hk
    clear hK K
    try simp only [Act.put, List.setIfInBounds_toArray, List.set_cons_zero, List.set_cons_succ]
    refine wpAnyH_take (i := 17) (oi := { dst := some 37, op := Op.pick (Operand.tmp 35) (Operand.tmp 36) (Operand.const (Value.bool false)), type := 4, pos := "law.go:83", after := #[{ on := 15, ground := Ground.data }, { on := 16, ground := Ground.data }], guard := none }) (v := ?_) rfl (by kernel_rfl) (by kernel_rfl) (by kernel_rfl) (fun _ _ _ h => h) (Or.inl ⟨by rfl, ?_⟩) (by assumption) ?_
    rotate_left
    · intro w hSw
      clear hSw
      go_simp
      all_goals with_reducible rfl
    simp only [Act.put, List.setIfInBounds_toArray, List.set_cons_zero, List.set_cons_succ]
    refine wpAnyH_take (i := 18) (oi := { dst := some 6, op := Op.assign (Operand.tmp 37), type := 4, pos := "law.go:83", after := #[{ on := 17, ground := Ground.data }, { on := 16, ground := Ground.chain }, { on := 0, ground := Ground.phase }, { on := 1, ground := Ground.phase }, { on := 2, ground := Ground.phase }, { on := 3, ground := Ground.phase }, { on := 4, ground := Ground.phase }, { on := 5, ground := Ground.phase }, { on := 6, ground := Ground.phase }, { on := 7, ground := Ground.phase }, { on := 8, ground := Ground.phase }, { on := 9, ground := Ground.phase }, { on := 10, ground := Ground.phase }, { on := 11, ground := Ground.phase }, { on := 12, ground := Ground.phase }, { on := 13, ground := Ground.phase }, { on := 14, ground := Ground.phase }, { on := 15, ground := Ground.phase }, { on := 16, ground := Ground.phase }, { on := 17, ground := Ground.phase }], guard := none }) (v := ?_) rfl (by kernel_rfl) (by kernel_rfl) (by kernel_rfl) (fun _ _ _ h => h) (Or.inl ⟨by rfl, ?_⟩) (by assumption) ?_
    rotate_left
    · intro w hSw
      clear hSw
      go_simp
      all_goals with_reducible rfl
    simp only [Act.put, List.setIfInBounds_toArray, List.set_cons_zero, List.set_cons_succ]
    refine wpAnyH_done (by kernel_rfl) ?_ _
    refine NoPanic.normal ?_
    go_wp2
    go_ret
    exact ⟨rfl, held_nx hHeld⟩
end Go.Proofs.YtdfjbajehcedaaaDoor
