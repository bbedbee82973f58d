/- New of the document's own answer: the table of K0 to K63 and of the state at first; nothing that was there changes. -/
import Derived.Test.YtlcilclhaahopaaDoorRoot
import Derived.Test.YtlcilclhaahopaaDoorPrimes
namespace Go.Proofs.YtlcilclhaahopaaDoor
open Go.RowKit
def P.rk : List Nat := [5411319704, 6194414737, 7344290767, 8215976869, 9551921755, 10098905585, 11043570340, 11460697813, 12214315672, 13195500289, 13492127166, 14311783875, 14809980276, 15046980094, 15499789991, 16133124468, 16720292289, 16907126662, 17444216262, 17784676812, 17950125167, 18429019306, 18734950876, 19175934170, 19734090066, 20001703533, 20132865992, 20390182855, 20516441075, 20764397895, 21588763473, 21813078375, 22141143685, 22248366392, 22769593852, 22871018771, 23170020180, 23461497531, 23651862830, 23931792517, 24205322401, 24295138891, 24734567280, 24820601251, 24990902297, 25075189284, 25569408389, 26045227120, 26200031510, 26276752392, 26428864332, 26653801653, 26727943347, 27092625994, 27306805839, 27517677555, 27725365998, 27793908591, 27997534228, 28131656200, 28198240250, 28526537963, 28973835255, 29099129074]
def P.rh : List Nat := [6074000999, 7439101573, 9603838834, 11363415354, 14244795007, 15485724812, 17708603819, 18721328409]
theorem P.rk_is : ∀ i, i < 64 → (P.p64.getD i 0 < 65536 ∧ P.rk.getD i 0 < 171798691840 ∧ P.rk.getD i 0 * P.rk.getD i 0 * P.rk.getD i 0 ≤ P.p64.getD i 0 * 65536 ^ 6 ∧ P.p64.getD i 0 * 65536 ^ 6 < (P.rk.getD i 0 + 1) * (P.rk.getD i 0 + 1) * (P.rk.getD i 0 + 1) ∧ P.rk.getD i 0 % 4294967296 = (S.K.getD i 0).toNat) := by decide +kernel
theorem P.rh_is : ∀ i, i < 8 → (P.p64.getD i 0 < 65536 ∧ P.rh.getD i 0 < 171798691840 ∧ P.rh.getD i 0 * P.rh.getD i 0 ≤ P.p64.getD i 0 * 65536 ^ 4 ∧ P.p64.getD i 0 * 65536 ^ 4 < (P.rh.getD i 0 + 1) * (P.rh.getD i 0 + 1) ∧ P.rh.getD i 0 % 4294967296 = (S.H0.getD i 0).toNat) := by decide +kernel
theorem cube_iff {r N : Nat} (h1 : r * r * r ≤ N) (h2 : N < (r + 1) * (r + 1) * (r + 1)) (x : Nat) : x * x * x ≤ N ↔ x ≤ r := by
  constructor
  · intro h
    by_cases hx : x ≤ r
    · exact hx
    · have h3 : r + 1 ≤ x := by omega
      have h4 := Nat.mul_le_mul (Nat.mul_le_mul h3 h3) h3
      omega
  · intro h
    exact Nat.le_trans (Nat.mul_le_mul (Nat.mul_le_mul h h) h) h1
theorem square_iff {r N : Nat} (h1 : r * r ≤ N) (h2 : N < (r + 1) * (r + 1)) (x : Nat) : x * x ≤ N ↔ x ≤ r := by
  constructor
  · intro h
    by_cases hx : x ≤ r
    · exact hx
    · have h3 : r + 1 ≤ x := by omega
      have h4 := Nat.mul_le_mul h3 h3
      omega
  · intro h
    exact Nat.le_trans (Nat.mul_le_mul h h) h1
theorem own_kept_ne {w W : World} {base n g cap : Nat} {gT : Nat} {xs : List Value} (h : w.ownsRow base 46 1 (.slice (some ⟨g, 0, none⟩) n cap) n xs) (_ : g ≠ gT) (hh : W.heap[g]? = w.heap[g]?) : W.ownsRow base 46 1 (.slice (some ⟨g, 0, none⟩) n cap) n xs := by
  refine ⟨h.1, ?_⟩
  rcases h.2 with h2 | ⟨g', cap', cur, h2, h3, h4, h5⟩
  · exact Or.inl h2
  · simp only [Value.slice.injEq, Option.some.injEq, Addr.mk.injEq, and_true, true_and] at h2
    obtain ⟨rfl, rfl⟩ := h2
    exact Or.inr ⟨g, cap, cur, rfl, h3, hh.trans h4, h5⟩
def tabK : Nat → List UInt32
  | 0 => List.replicate 72 0
  | k + 1 => (tabK k).set k (S.K.getD k 0)
def tabH : Nat → List UInt32
  | 0 => tabK 64
  | k + 1 => (tabH k).set (64 + k) (S.H0.getD k 0)
theorem tabK_length (k : Nat) : (tabK k).length = 72 := by
  induction k with
  | zero => simp [tabK]
  | succ k ih => rw [tabK, List.length_set]; exact ih
theorem tabH_length (k : Nat) : (tabH k).length = 72 := by
  induction k with
  | zero => exact tabK_length 64
  | succ k ih => rw [tabH, List.length_set]; exact ih
theorem tab_all : tabH 8 = S.K ++ S.H0 := by decide +kernel
theorem zero54 (w : World) : (zeroValue 103).run Tryd.prog w = .ok (.agg (S.v32 (tabK 0))) w := by kernel_rfl
set_option maxHeartbeats 4000000 in
set_option maxRecDepth 100000 in
theorem new_any (w : World) :
   Calls Tryd.prog 20 #[] w fun e w' => ∃ gT, e = .returned (.pointer (some ⟨gT, 0, none⟩)) ∧ w.heap.size ≤ gT ∧ w'.heap[gT]? = some (.cells (S.v32 (S.K ++ S.H0)) 103 (0, 0)) ∧ Below w.heap.size w w' := by
  have hz := zero54
  go_enter Tryd.func20, Tryd.ntmps20
  go_wp2_with fail
  generalize hW0 : w.alloc _ = W0
  have r0 : W0.heap[w.heap.size]? = some (.cells (S.v32 (tabK 0)) 103 (0, 0)) := by rw [← hW0]; exact heap_alloc_new _ _
  have hn0 : Below w.heap.size w W0 := by rw [← hW0]; exact (Below.refl _ _).alloc (Nat.le_refl _) _
  have hz0 := block_lt_of_row r0
  clear hW0 hz
  refine (primes_64 W0).mono ?_
  rintro e0 w1 ⟨v, rfl, hown, hb1⟩
  obtain ⟨ao, cap, hv⟩ := own_shape hown
  subst hv
  obtain ⟨gl, rfl, _⟩ := own_cell (l := P.p64) hown 0 (by decide)
  have hgl := (hown.lt gl rfl).1
  have r1 := hide ((hb1.block w.heap.size hz0).trans r0)
  have b1 := hide (hn0.trans (hb1.mono hn0.size))
  have O1 := hide hown
  have HNE : Hid (gl ≠ w.heap.size) := by show gl ≠ w.heap.size; omega
  clear r0 hn0 hb1 hown hgl hz0
  obtain ⟨gT, hgT⟩ : ∃ gT, gT = w.heap.size := ⟨_, rfl⟩
  have HGT : Hid (w.heap.size ≤ gT) := Nat.le_of_eq hgT.symm
  have HGE := hide hgT
  rw [← hgT] at r1 HNE ⊢
  clear hgT
  go_wp2_with fail
  go_loopw [3] (fun i wr => ∃ k : Nat, k ≤ 64 ∧ i = .int .i64 (k : Int) ∧ wr.heap[gT]? = some (.cells (S.v32 (tabK k)) 103 (0, 0)) ∧ wr.ownsRow W0.heap.size 46 1 (.slice (some ⟨gl, 0, none⟩) 64 cap) 64 (v64l P.p64) ∧ Below w.heap.size w wr) (fun i _ => 64 - (intOf i).toNat)
  case atStart => exact ⟨0, by omega, rfl, r1.out, O1.out, b1.out⟩
  case round =>
    obtain ⟨k, hk, rfl, hr, ho, hb⟩ := hrel
    have R := hide hr
    have OW := hide ho
    have BL := hide hb
    clear hr ho hb r1 O1 b1
    by_cases hlt : k < 64
    · skip
      have c1 := own_cell (l := P.p64) OW.out k (by show k < 64; omega)
      obtain ⟨gl', hgl', c1⟩ := c1
      obtain rfl : gl = gl' := by simpa using hgl'
      obtain ⟨l1, l2, i1, i2, i3⟩ := P.rk_is k hlt
      have HRT := hide (cube_iff i1 i2)
      have HX := hide i3
      generalize P.p64.getD k 0 = pk at *
      generalize P.rk.getD k 0 = rk at *
      obtain ⟨xk, hxk⟩ : ∃ xk, xk = S.K.getD k 0 := ⟨_, rfl⟩
      rw [← hxk] at HX
      have HXK := hide hxk
      have q1 : (0 : Int) ≤ (k : Int) := by omega
      have q2 : (k : Int) < 64 := by omega
      have q3 : (k : Int) < 64 := by omega
      have q4 : IntKind.i64.wrap ((k : Int) + 1) = (k : Int) + 1 := by rw [IntKind.wrap_i64]; omega
      clear i1 i2 i3 hxk
      go_wp2
      refine wp_region_noPanic ?_
      refine wp_region_held_drew (S := (fun w' => w'.cell? ⟨gl, k, none⟩ = some (.int .u64 (pk : Int)))) follows (show wr.cell? ⟨gl, k, none⟩ = some (.int .u64 (pk : Int)) from c1) (fun hHeld => ?_)
      refine wpAnyH_take (i := 0) (oi := { dst := some 12, op := Op.move (Operand.tmp 1), type := 50, pos := "ref.go:90", after := #[], guard := none }) (v := ?_) rfl (by kernel_rfl) (by kernel_rfl) (by kernel_rfl) (fun _ _ _ h => h) (Or.inl ⟨by rfl, ?_⟩) (by assumption) ?_
      rotate_left
      · intro w hSw
        clear hSw
        go_simp
        all_goals with_reducible rfl
      simp only [Act.put, List.setIfInBounds_toArray, List.set_cons_zero, List.set_cons_succ]
      refine wpAnyH_take (i := 1) (oi := { dst := some 13, op := Op.move (Operand.tmp 3), type := 3, pos := "ref.go:90", after := #[], guard := none }) (v := ?_) rfl (by kernel_rfl) (by kernel_rfl) (by kernel_rfl) (fun _ _ _ h => h) (Or.inl ⟨by rfl, ?_⟩) (by assumption) ?_
      rotate_left
      · intro w hSw
        clear hSw
        go_simp
        all_goals with_reducible rfl
      simp only [Act.put, List.setIfInBounds_toArray, List.set_cons_zero, List.set_cons_succ]
      refine wpAnyH_take (i := 2) (oi := { dst := some 14, op := Op.move (Operand.tmp 2), type := 104, pos := "ref.go:90", after := #[], guard := none }) (v := ?_) rfl (by kernel_rfl) (by kernel_rfl) (by kernel_rfl) (fun _ _ _ h => h) (Or.inl ⟨by rfl, ?_⟩) (by assumption) ?_
      rotate_left
      · intro w hSw
        clear hSw
        go_simp
        all_goals with_reducible rfl
      simp only [Act.put, List.setIfInBounds_toArray, List.set_cons_zero, List.set_cons_succ]
      refine wpAnyH_take (i := 3) (oi := { dst := some 15, op := Op.move (Operand.tmp 3), type := 3, pos := "ref.go:90", after := #[], guard := none }) (v := ?_) rfl (by kernel_rfl) (by kernel_rfl) (by kernel_rfl) (fun _ _ _ h => h) (Or.inl ⟨by rfl, ?_⟩) (by assumption) ?_
      rotate_left
      · intro w hSw
        clear hSw
        go_simp
        all_goals with_reducible rfl
      simp only [Act.put, List.setIfInBounds_toArray, List.set_cons_zero, List.set_cons_succ]
      refine wpAnyH_take (i := 4) (oi := { dst := some 16, op := Op.indexAddr 104 (Operand.tmp 14) (Operand.tmp 15), type := 0, pos := "ref.go:90", after := #[{ on := 2, ground := Ground.data }, { on := 3, ground := Ground.data }], guard := none }) (v := ?_) rfl (by kernel_rfl) (by kernel_rfl) (by kernel_rfl) (fun _ _ _ h => h) (Or.inl ⟨by rfl, ?_⟩) (by assumption) ?_
      rotate_left
      · intro w hSw
        clear hSw
        go_simp
        all_goals with_reducible rfl
      simp only [Act.put, List.setIfInBounds_toArray, List.set_cons_zero, List.set_cons_succ]
      refine wpAnyH_take (i := 5) (oi := { dst := some 17, op := Op.load 46 (Operand.tmp 16), type := 46, pos := "ref.go:90", after := #[{ on := 4, ground := Ground.data }], guard := none }) (v := ?_) rfl (by kernel_rfl) (by kernel_rfl) (by kernel_rfl) (fun _ _ _ h => h) (Or.inl ⟨by rfl, ?_⟩) (by assumption) ?_
      rotate_left
      · intro w hSw
        have h3 := hSw
        clear hSw
        go_simp
        all_goals with_reducible rfl
      simp only [Act.put, List.setIfInBounds_toArray, List.set_cons_zero, List.set_cons_succ]
      refine wpAnyH_take (i := 7) (oi := { dst := some 19, op := Op.nilCheck (Operand.tmp 12), type := 0, pos := "ref.go:90", after := #[{ on := 0, ground := Ground.data }], guard := none }) (v := ?_) rfl (by kernel_rfl) (by kernel_rfl) (by kernel_rfl) (fun _ _ _ h => h) (Or.inl ⟨by rfl, ?_⟩) (by assumption) ?_
      rotate_left
      · intro w hSw
        clear hSw
        go_simp
        all_goals with_reducible rfl
      simp only [Act.put, List.setIfInBounds_toArray, List.set_cons_zero, List.set_cons_succ]
      refine wpAnyH_take (i := 8) (oi := { dst := some 20, op := Op.fieldAddr 103 (Operand.tmp 19) 0, type := 0, pos := "ref.go:90", after := #[{ on := 7, ground := Ground.data }], guard := none }) (v := ?_) rfl (by kernel_rfl) (by kernel_rfl) (by kernel_rfl) (fun _ _ _ h => h) (Or.inl ⟨by rfl, ?_⟩) (by assumption) ?_
      rotate_left
      · intro w hSw
        clear hSw
        go_simp
        all_goals with_reducible rfl
      simp only [Act.put, List.setIfInBounds_toArray, List.set_cons_zero, List.set_cons_succ]
      refine wpAnyH_ready (rs := [6]) (by kernel_rfl) (by simp) ?_
      refine AllReadyH.cons (o := { dst := some 18, op := Op.call { callee := Callee.value (Operand.func 54), args := #[Operand.tmp 17, Operand.const (Value.bool true)], argTypes := #[46, 4] }, type := 22, pos := "ref.go:90", after := #[{ on := 5, ground := Ground.data }], guard := none }) rfl (fun K hK => ?_) AllReadyH.nil
      go_simp
      refine (root_cu pk rk l1 l2 HRT.out _).mono ?_
      rintro e0 w5 ⟨he, hb5⟩
      rw [HX.out] at he
      subst he
      have r5 := (hb5.block gT (block_lt_of_row R.out)).trans R.out
      have o5 := own_kept OW.out (fun k hk => hb5.block k hk)
      have b5 := BL.out.drew.trans (hb5.mono BL.out.size)
      have cl5 : w5.cell? ⟨gl, k, none⟩ = some (.int .u64 (pk : Int)) := (hb5.cell (p := ⟨gl, k, none⟩) (block_lt_of_cell c1)).trans c1
      clear hb5
      go_wp2_with fail
      refine hK.out _ _ cl5 (fun hHeld => ?_)
      clear hK K
      try simp only [Act.put, List.setIfInBounds_toArray, List.set_cons_zero, List.set_cons_succ]
      have q9 : (0 : Int) ≤ (k : Int) := by omega
      refine wpAnyH_take (i := 9) (oi := { dst := some 21, op := Op.indexAddr 100 (Operand.tmp 20) (Operand.tmp 13), type := 0, pos := "ref.go:90", after := #[{ on := 8, ground := Ground.data }, { on := 1, ground := Ground.data }, { on := 0, ground := Ground.phase }, { on := 1, ground := Ground.phase }, { on := 2, ground := Ground.phase }, { on := 3, ground := Ground.phase }, { on := 4, ground := Ground.phase }, { on := 5, ground := Ground.phase }, { on := 6, ground := Ground.phase }], guard := none }) (v := ?_) rfl (by kernel_rfl) (by kernel_rfl) (by kernel_rfl) (fun _ _ _ h => h) (Or.inl ⟨by rfl, ?_⟩) (by assumption) ?_
      rotate_left
      · intro w hSw
        clear hSw
        go_simp
        all_goals with_reducible rfl
      simp only [Act.put, List.setIfInBounds_toArray, List.set_cons_zero, List.set_cons_succ]
      refine wpAnyH_ready (rs := [10]) (by kernel_rfl) (by simp) ?_
      refine AllReadyH.cons (o := { dst := none, op := Op.store 22 (Operand.tmp 21) (Operand.tmp 18), type := 0, pos := "ref.go:90", after := #[{ on := 9, ground := Ground.data }, { on := 6, ground := Ground.data }, { on := 6, ground := Ground.chain }, { on := 0, ground := Ground.phase }, { on := 1, ground := Ground.phase }, { on := 2, ground := Ground.phase }, { on := 3, ground := Ground.phase }, { on := 4, ground := Ground.phase }, { on := 5, ground := Ground.phase }, { on := 6, ground := Ground.phase }], guard := none }) rfl (fun K hK => ?_) AllReadyH.nil
      have c5 := v32_cell r5 (k) (by rw [tabK_length]; omega)
      have f5 := frozen_of_row _ _ (k) _ _ r5
      go_simp
      refine hK.out _ _ ?_ (fun hHeld2 => ?_)
      · rw [World.cell?_of_block (w := w5) (heap_setCell_other _ _ _ _ HNE.out)]; exact cl5
      clear hK K c5 f5
      try simp only [Act.put, List.setIfInBounds_toArray, List.set_cons_zero, List.set_cons_succ]
      refine wpAnyH_done (by kernel_rfl) ?_ _
      refine NoPanic.normal ?_
      have r6 := v32_set r5 (k) xk
      have o6 := own_kept_ne o5 HNE.out (heap_setCell_other w5 ⟨gT, k, none⟩ gl (.int .u32 (xk.toNat : Int)) HNE.out)
      have b6 := b5.setCell (p := ⟨gT, k, none⟩) HGT.out (.int .u32 (xk.toNat : Int))
      have R6 := hide r6
      have O6 := hide o6
      have B6 := hide b6
      clear r5 o5 b5 r6 o6 b6 cl5 hHeld hHeld2
      go_wp2
      go_roundw
      case rel => exact ⟨k + 1, by omega, by go_num, (by rw [tabK, ← HXK.out]; exact R6.out), O6.out, B6.out⟩
      case measure => simp [intOf]; omega
    · have hk64 : Hid (k = 64) := by show k = 64; omega
      have q8 : ¬ ((k : Int) < 64) := by omega
      obtain ⟨k0, hk0⟩ : ∃ k0, k0 = k := ⟨_, rfl⟩
      rw [← hk0] at hk64 R q8 ⊢
      clear hk0 hk hlt
      go_wp2
      clear q8
      go_loopw [4] (fun i wr => ∃ k : Nat, k ≤ 8 ∧ i = .int .i64 (k : Int) ∧ wr.heap[gT]? = some (.cells (S.v32 (tabH k)) 103 (0, 0)) ∧ wr.ownsRow W0.heap.size 46 1 (.slice (some ⟨gl, 0, none⟩) 64 cap) 64 (v64l P.p64) ∧ Below w.heap.size w wr) (fun i _ => 8 - (intOf i).toNat)
      case atStart => exact ⟨0, by omega, rfl, (by have h := R.out; rw [hk64.out] at h; exact h), OW.out, BL.out⟩
      case round =>
        obtain ⟨k, hk, rfl, hr, ho, hb⟩ := hrel
        clear R OW BL
        have R := hide hr
        have OW := hide ho
        have BL := hide hb
        clear hr ho hb
        by_cases hlt : k < 8
        · skip
          have c1 := own_cell (l := P.p64) OW.out k (by show k < 64; omega)
          obtain ⟨gl', hgl', c1⟩ := c1
          obtain rfl : gl = gl' := by simpa using hgl'
          obtain ⟨l1, l2, i1, i2, i3⟩ := P.rh_is k hlt
          have HRT := hide (square_iff i1 i2)
          have HX := hide i3
          generalize P.p64.getD k 0 = pk at *
          generalize P.rh.getD k 0 = rk at *
          obtain ⟨xk, hxk⟩ : ∃ xk, xk = S.H0.getD k 0 := ⟨_, rfl⟩
          rw [← hxk] at HX
          have HXK := hide hxk
          have q1 : (0 : Int) ≤ (k : Int) := by omega
          have q2 : (k : Int) < 8 := by omega
          have q3 : (k : Int) < 64 := by omega
          have q4 : IntKind.i64.wrap ((k : Int) + 1) = (k : Int) + 1 := by rw [IntKind.wrap_i64]; omega
          clear i1 i2 i3 hxk
          go_wp2
          refine wp_region_noPanic ?_
          refine wp_region_held_drew (S := (fun w' => w'.cell? ⟨gl, k, none⟩ = some (.int .u64 (pk : Int)))) follows (show wr.cell? ⟨gl, k, none⟩ = some (.int .u64 (pk : Int)) from c1) (fun hHeld => ?_)
          refine wpAnyH_take (i := 0) (oi := { dst := some 26, op := Op.move (Operand.tmp 1), type := 50, pos := "ref.go:93", after := #[], guard := none }) (v := ?_) rfl (by kernel_rfl) (by kernel_rfl) (by kernel_rfl) (fun _ _ _ h => h) (Or.inl ⟨by rfl, ?_⟩) (by assumption) ?_
          rotate_left
          · intro w hSw
            clear hSw
            go_simp
            all_goals with_reducible rfl
          simp only [Act.put, List.setIfInBounds_toArray, List.set_cons_zero, List.set_cons_succ]
          refine wpAnyH_take (i := 1) (oi := { dst := some 27, op := Op.move (Operand.tmp 4), type := 3, pos := "ref.go:93", after := #[], guard := none }) (v := ?_) rfl (by kernel_rfl) (by kernel_rfl) (by kernel_rfl) (fun _ _ _ h => h) (Or.inl ⟨by rfl, ?_⟩) (by assumption) ?_
          rotate_left
          · intro w hSw
            clear hSw
            go_simp
            all_goals with_reducible rfl
          simp only [Act.put, List.setIfInBounds_toArray, List.set_cons_zero, List.set_cons_succ]
          refine wpAnyH_take (i := 2) (oi := { dst := some 28, op := Op.move (Operand.tmp 2), type := 104, pos := "ref.go:93", after := #[], guard := none }) (v := ?_) rfl (by kernel_rfl) (by kernel_rfl) (by kernel_rfl) (fun _ _ _ h => h) (Or.inl ⟨by rfl, ?_⟩) (by assumption) ?_
          rotate_left
          · intro w hSw
            clear hSw
            go_simp
            all_goals with_reducible rfl
          simp only [Act.put, List.setIfInBounds_toArray, List.set_cons_zero, List.set_cons_succ]
          refine wpAnyH_take (i := 3) (oi := { dst := some 29, op := Op.move (Operand.tmp 4), type := 3, pos := "ref.go:93", after := #[], guard := none }) (v := ?_) rfl (by kernel_rfl) (by kernel_rfl) (by kernel_rfl) (fun _ _ _ h => h) (Or.inl ⟨by rfl, ?_⟩) (by assumption) ?_
          rotate_left
          · intro w hSw
            clear hSw
            go_simp
            all_goals with_reducible rfl
          simp only [Act.put, List.setIfInBounds_toArray, List.set_cons_zero, List.set_cons_succ]
          refine wpAnyH_take (i := 4) (oi := { dst := some 30, op := Op.indexAddr 104 (Operand.tmp 28) (Operand.tmp 29), type := 0, pos := "ref.go:93", after := #[{ on := 2, ground := Ground.data }, { on := 3, ground := Ground.data }], guard := none }) (v := ?_) rfl (by kernel_rfl) (by kernel_rfl) (by kernel_rfl) (fun _ _ _ h => h) (Or.inl ⟨by rfl, ?_⟩) (by assumption) ?_
          rotate_left
          · intro w hSw
            clear hSw
            go_simp
            all_goals with_reducible rfl
          simp only [Act.put, List.setIfInBounds_toArray, List.set_cons_zero, List.set_cons_succ]
          refine wpAnyH_take (i := 5) (oi := { dst := some 31, op := Op.load 46 (Operand.tmp 30), type := 46, pos := "ref.go:93", after := #[{ on := 4, ground := Ground.data }], guard := none }) (v := ?_) rfl (by kernel_rfl) (by kernel_rfl) (by kernel_rfl) (fun _ _ _ h => h) (Or.inl ⟨by rfl, ?_⟩) (by assumption) ?_
          rotate_left
          · intro w hSw
            have h3 := hSw
            clear hSw
            go_simp
            all_goals with_reducible rfl
          simp only [Act.put, List.setIfInBounds_toArray, List.set_cons_zero, List.set_cons_succ]
          refine wpAnyH_take (i := 7) (oi := { dst := some 33, op := Op.nilCheck (Operand.tmp 26), type := 0, pos := "ref.go:93", after := #[{ on := 0, ground := Ground.data }], guard := none }) (v := ?_) rfl (by kernel_rfl) (by kernel_rfl) (by kernel_rfl) (fun _ _ _ h => h) (Or.inl ⟨by rfl, ?_⟩) (by assumption) ?_
          rotate_left
          · intro w hSw
            clear hSw
            go_simp
            all_goals with_reducible rfl
          simp only [Act.put, List.setIfInBounds_toArray, List.set_cons_zero, List.set_cons_succ]
          refine wpAnyH_take (i := 8) (oi := { dst := some 34, op := Op.fieldAddr 103 (Operand.tmp 33) 1, type := 0, pos := "ref.go:93", after := #[{ on := 7, ground := Ground.data }], guard := none }) (v := ?_) rfl (by kernel_rfl) (by kernel_rfl) (by kernel_rfl) (fun _ _ _ h => h) (Or.inl ⟨by rfl, ?_⟩) (by assumption) ?_
          rotate_left
          · intro w hSw
            clear hSw
            go_simp
            all_goals with_reducible rfl
          simp only [Act.put, List.setIfInBounds_toArray, List.set_cons_zero, List.set_cons_succ]
          refine wpAnyH_ready (rs := [6]) (by kernel_rfl) (by simp) ?_
          refine AllReadyH.cons (o := { dst := some 32, op := Op.call { callee := Callee.value (Operand.func 54), args := #[Operand.tmp 31, Operand.const (Value.bool false)], argTypes := #[46, 4] }, type := 22, pos := "ref.go:93", after := #[{ on := 5, ground := Ground.data }], guard := none }) rfl (fun K hK => ?_) AllReadyH.nil
          go_simp
          refine (root_sq pk rk l1 l2 HRT.out _).mono ?_
          rintro e0 w5 ⟨he, hb5⟩
          rw [HX.out] at he
          subst he
          have r5 := (hb5.block gT (block_lt_of_row R.out)).trans R.out
          have o5 := own_kept OW.out (fun k hk => hb5.block k hk)
          have b5 := BL.out.drew.trans (hb5.mono BL.out.size)
          have cl5 : w5.cell? ⟨gl, k, none⟩ = some (.int .u64 (pk : Int)) := (hb5.cell (p := ⟨gl, k, none⟩) (block_lt_of_cell c1)).trans c1
          clear hb5
          go_wp2_with fail
          refine hK.out _ _ cl5 (fun hHeld => ?_)
          clear hK K
          try simp only [Act.put, List.setIfInBounds_toArray, List.set_cons_zero, List.set_cons_succ]
          have q9 : (0 : Int) ≤ (k : Int) := by omega
          refine wpAnyH_take (i := 9) (oi := { dst := some 35, op := Op.indexAddr 101 (Operand.tmp 34) (Operand.tmp 27), type := 0, pos := "ref.go:93", after := #[{ on := 8, ground := Ground.data }, { on := 1, ground := Ground.data }, { on := 0, ground := Ground.phase }, { on := 1, ground := Ground.phase }, { on := 2, ground := Ground.phase }, { on := 3, ground := Ground.phase }, { on := 4, ground := Ground.phase }, { on := 5, ground := Ground.phase }, { on := 6, ground := Ground.phase }], guard := none }) (v := ?_) rfl (by kernel_rfl) (by kernel_rfl) (by kernel_rfl) (fun _ _ _ h => h) (Or.inl ⟨by rfl, ?_⟩) (by assumption) ?_
          rotate_left
          · intro w hSw
            clear hSw
            go_simp
            all_goals with_reducible rfl
          simp only [Act.put, List.setIfInBounds_toArray, List.set_cons_zero, List.set_cons_succ]
          refine wpAnyH_ready (rs := [10]) (by kernel_rfl) (by simp) ?_
          refine AllReadyH.cons (o := { dst := none, op := Op.store 22 (Operand.tmp 35) (Operand.tmp 32), type := 0, pos := "ref.go:93", after := #[{ on := 9, ground := Ground.data }, { on := 6, ground := Ground.data }, { on := 6, ground := Ground.chain }, { on := 0, ground := Ground.phase }, { on := 1, ground := Ground.phase }, { on := 2, ground := Ground.phase }, { on := 3, ground := Ground.phase }, { on := 4, ground := Ground.phase }, { on := 5, ground := Ground.phase }, { on := 6, ground := Ground.phase }], guard := none }) rfl (fun K hK => ?_) AllReadyH.nil
          have c5 := v32_cell r5 (64 + k) (by rw [tabH_length]; omega)
          have f5 := frozen_of_row _ _ (64 + k) _ _ r5
          go_simp
          refine hK.out _ _ ?_ (fun hHeld2 => ?_)
          · rw [World.cell?_of_block (w := w5) (heap_setCell_other _ _ _ _ HNE.out)]; exact cl5
          clear hK K c5 f5
          try simp only [Act.put, List.setIfInBounds_toArray, List.set_cons_zero, List.set_cons_succ]
          refine wpAnyH_done (by kernel_rfl) ?_ _
          refine NoPanic.normal ?_
          have r6 := v32_set r5 (64 + k) xk
          have o6 := own_kept_ne o5 HNE.out (heap_setCell_other w5 ⟨gT, 64 + k, none⟩ gl (.int .u32 (xk.toNat : Int)) HNE.out)
          have b6 := b5.setCell (p := ⟨gT, 64 + k, none⟩) HGT.out (.int .u32 (xk.toNat : Int))
          have R6 := hide r6
          have O6 := hide o6
          have B6 := hide b6
          clear r5 o5 b5 r6 o6 b6 cl5 hHeld hHeld2
          go_wp2
          go_roundw
          case rel => exact ⟨k + 1, by omega, by go_num, (by rw [tabH, ← HXK.out]; exact R6.out), O6.out, B6.out⟩
          case measure => simp [intOf]; omega

        · obtain rfl : 8 = k := by omega
          go_wp2
          go_ret
          exact ⟨gT, rfl, HGT.out, (by rw [← tab_all]; exact R.out), BL.out⟩
end Go.Proofs.YtlcilclhaahopaaDoor
