/- setOf of one sheet. -/
/- The pages of a set of one. -/
/- Pages on a disk, plainly. -/
import Derived.Test.YthjlhngjpbmieaaGreatDoorJd
namespace Go.Proofs.YthjlhngjpbmieaaGreatDoor
open Go.RowKit

namespace S
theorem zeros_getD (k j : Nat) : (zeros k).getD j 0 = 0 := by
  rw [List.getD_eq_getElem?_getD]
  unfold zeros
  rw [List.getElem?_replicate]
  split <;> rfl
/-- The set of one page. -/
def one (n : Nat) : List UInt8 := (zeros 64).set (n / 8) (UInt8.ofNat (2 ^ (n % 8)))
theorem one_length (n : Nat) : (one n).length = 64 := by unfold one; rw [List.length_set, zeros_length]
theorem or_bit (r : Nat) (h : r < 8) : bits BinOp.or IntKind.u8 0 (IntKind.u8.wrap (2 ^ r)) = ((UInt8.ofNat (2 ^ r)).toNat : Int) := by
  match r, h with
  | 0, _ => rfl
  | 1, _ => rfl
  | 2, _ => rfl
  | 3, _ => rfl
  | 4, _ => rfl
  | 5, _ => rfl
  | 6, _ => rfl
  | 7, _ => rfl
theorem bit_one (n m : Nat) (hn : n < 512) (_hm : m < 512) : bit (one n) m = decide (m = n) := by
  rw [bit_iff]
  unfold one
  have hr : n % 8 < 8 := Nat.mod_lt _ (by omega)
  have hr' : m % 8 < 8 := Nat.mod_lt _ (by omega)
  by_cases hq : m / 8 = n / 8
  · rw [hq, List.getD_eq_getElem?_getD, List.getElem?_set_self (by rw [zeros_length]; omega)]
    have key : ∀ a b : Fin 8, decide (((UInt8.ofNat (2 ^ a.val)).toNat) / 2 ^ b.val % 2 = 1) = decide (b.val = a.val) := by decide
    show decide ((UInt8.ofNat (2 ^ (n % 8))).toNat / 2 ^ (m % 8) % 2 = 1) = decide (m = n)
    rw [key ⟨n % 8, hr⟩ ⟨m % 8, hr'⟩]
    show decide (m % 8 = n % 8) = decide (m = n)
    by_cases h : m % 8 = n % 8
    · have : m = n := by omega
      rw [decide_eq_true h, decide_eq_true this]
    · have : ¬ m = n := fun e => h (by rw [e])
      rw [decide_eq_false h, decide_eq_false this]
  · rw [List.getD_eq_getElem?_getD, List.getElem?_set_ne (fun e => hq e.symm), ← List.getD_eq_getElem?_getD, zeros_getD]
    have : ¬ m = n := fun e => hq (by rw [e])
    rw [decide_eq_false this]
    simp
theorem one_ne (n : Nat) (hn : n < 512) : (one n == zeros 64) = false := by
  rw [beq_eq_false_iff_ne]
  intro e
  have h1 := bit_one n n hn hn
  rw [e, bit_zeros] at h1
  simp at h1
end S
set_option maxHeartbeats 4000000 in
set_option maxRecDepth 10000 in
theorem setOf_one (g c n : Nat) (ab : Option Addr) (cb : Nat) (w : World) (hs : Sh1 w g n (.slice ab 1024 cb)) (hn : n < 512) :
   Calls Tryz.prog 33 #[.slice (some ⟨g, 0, none⟩) 1 c] w fun e w' => e = .returned (.agg (S.v8 (S.one n))) ∧ Below w.heap.size w w' := by
  have hal1 := alloc57 w
  obtain ⟨w1, hw1⟩ : ∃ w1, w1 = w.alloc (.cells (S.v8 (S.zeros 64)) 65) := ⟨_, rfl⟩
  have hal2 := alloc57 w1
  obtain ⟨w2, hw2⟩ : ∃ w2, w2 = w1.alloc (.cells (S.v8 (S.zeros 64)) 65) := ⟨_, rfl⟩
  have b1 : Below w.heap.size w w1 := by rw [hw1]; exact (Below.refl _ _).alloc (Nat.le_refl _) _
  have b2 : Below w1.heap.size w1 w2 := by rw [hw2]; exact (Below.refl _ _).alloc (Nat.le_refl _) _
  have r1 : w1.heap[w.heap.size]? = some (.cells (S.v8 (S.zeros 64)) 65 (0, 0)) := by rw [hw1]; exact heap_alloc_new _ _
  have r2 : w2.heap[w1.heap.size]? = some (.cells (S.v8 (S.zeros 64)) 65 (0, 0)) := by rw [hw2]; exact heap_alloc_new _ _
  have R2 : Hid (w2.heap[w.heap.size]? = some (.cells (S.v8 (S.zeros 64)) 65 (0, 0))) := (b2.block _ (block_lt_of_row r1)).trans r1
  have R3 := hide r2
  have B2 : Hid (Below w.heap.size w w2) := b1.trans (b2.mono b1.size)
  have S2 : Hid (Sh1 w2 g n (.slice ab 1024 cb)) := (hs.below b1).below b2
  have h12 := block_lt_of_row r1
  rw [← hw1] at hal1
  rw [← hw2] at hal2
  obtain ⟨g2, hg2⟩ : ∃ g2, g2 = w.heap.size := ⟨_, rfl⟩
  obtain ⟨g3, hg3⟩ : ∃ g3, g3 = w1.heap.size := ⟨_, rfl⟩
  rw [← hg2] at hal1 R2
  rw [← hg3] at hal2 R3
  have N23 : Hid (¬ g2 = g3) := fun e => by omega
  have HG3 : Hid (w.heap.size ≤ g3) := by show w.heap.size ≤ g3; omega
  have HG2 : Hid (w.heap.size ≤ g2) := by show w.heap.size ≤ g2; omega
  obtain ⟨q, hq⟩ : ∃ q : Nat, q = n / 8 := ⟨_, rfl⟩
  obtain ⟨r, hr⟩ : ∃ r : Nat, r = n % 8 := ⟨_, rfl⟩
  have HONE : Hid (S.one n = (S.zeros 64).set q (UInt8.ofNat (2 ^ r))) := by rw [hq, hr]; rfl
  have hr8 : r < 8 := by omega
  have hq64 : q < 64 := by omega
  have q1 : (n : Int) / 8 = (q : Int) := by omega
  have q2 : (n : Int) % 8 = (r : Int) := by omega
  have q3 : (0 : Int) ≤ (q : Int) := by omega
  have q4 : (q : Int) < 64 := by omega
  have q5 : (0 : Int) ≤ (r : Int) := by omega
  have q6 : (r : Int) < 8 := by omega
  have q7 : (0 : Int) ≤ (n : Int) := by omega
  have q8 : IntKind.i64.wrap (q : Int) = (q : Int) := by rw [IntKind.wrap_i64]; omega
  have q9 : IntKind.i64.wrap (r : Int) = (r : Int) := by rw [IntKind.wrap_i64]; omega
  have q10 : (n : Int).tmod 8 = (r : Int) := by rw [Int.tmod_eq_emod_of_nonneg q7]; exact q2
  clear b1 b2 r1 r2 hw1 hw2 hg2 hg3 hs h12 hq hr
  go_enter Tryz.func33, Tryz.ntmps33
  go_wp2_with (first | (with_reducible refine at_op { dst := some 2, op := Op.alloc 65, type := 0, pos := "set.go:14", after := #[], guard := none } ?_; refine wpList_alloc_known rfl 65 rfl (.pointer (some ⟨g2, 0, none⟩)) w1 hal1 ?_) | (with_reducible refine at_op { dst := some 3, op := Op.alloc 65, type := 0, pos := "set.go:15", after := #[], guard := none } ?_; refine wpList_alloc_known rfl 65 rfl (.pointer (some ⟨g3, 0, none⟩)) w2 hal2 ?_))
  clear hal1 hal2
  go_loopw [8] (fun i wr => (i = .int .i64 0 ∧ w2 = wr) ∨ (i = .int .i64 1 ∧ wr.heap[g2]? = some (.cells (S.v8 (S.zeros 64)) 65 (0, 0)) ∧ wr.heap[g3]? = some (.cells (S.v8 (S.one n)) 65 (0, 0)) ∧ Below w.heap.size w wr)) (fun i _ => 1 - (intOf i).toNat)
  case atStart => exact Or.inl ⟨rfl, rfl⟩
  case round =>
  rcases hrel with ⟨rfl, rfl⟩ | ⟨rfl, h2, h3, hb⟩
  · obtain ⟨c0, c1⟩ := S2.out.cells
    obtain ⟨bv, hbv⟩ : ∃ bv, bv = Value.slice ab 1024 cb := ⟨_, rfl⟩
    obtain ⟨w5, hw5⟩ : ∃ w5, w5 = w2.alloc (.cells #[.int .i64 (n : Int), .slice ab 1024 cb] 37) := ⟨_, rfl⟩
    have b5 : Below w2.heap.size w2 w5 := by rw [hw5]; exact (Below.refl _ _).alloc (Nat.le_refl _) _
    have R5 : Hid (w5.heap[w2.heap.size]? = some (.cells #[.int .i64 (n : Int), bv] 37 (0, 0))) := by rw [hw5, hbv]; exact heap_alloc_new _ _
    have R35 : Hid (w5.heap[g3]? = some (.cells (S.v8 (S.zeros 64)) 65 (0, 0))) := (b5.block g3 (block_lt_of_row R3.out)).trans R3.out
    have R25 : Hid (w5.heap[g2]? = some (.cells (S.v8 (S.zeros 64)) 65 (0, 0))) := (b5.block g2 (block_lt_of_row R2.out)).trans R2.out
    have N53 : Hid (¬ w2.heap.size = g3) := fun e => by have := block_lt_of_row R3.out; omega
    have B5 := hide (B2.out.trans (b5.mono B2.out.size))
    obtain ⟨g5, hg5⟩ : ∃ g5, g5 = w2.heap.size := ⟨_, rfl⟩
    rw [← hg5] at R5 N53
    clear b5 S2 R2 R3 B2
    go_upto_region 5 with fail
    rw [← hw5, ← hg5]
    clear hw5 hg5 c0 c1
    refine wp_region_noPanic ?_
    refine wp_region_held_drew (S := (fun W => W.heap[g5]? = some (.cells #[.int .i64 (n : Int), bv] 37 (0, 0)))) follows R5.out (fun hHeld => ?_)
    have R3d : Hid (w5.drew.heap[g3]? = some (.cells (S.v8 (S.zeros 64)) 65 (0, 0))) := R35.out
    have R2d : Hid (w5.drew.heap[g2]? = some (.cells (S.v8 (S.zeros 64)) 65 (0, 0))) := R25.out
    have B5d : Hid (Below w.heap.size w w5.drew) := B5.out.drew
    clear R35 R25 B5 R5
    generalize w5.drew = Z1 at R3d R2d B5d hHeld ⊢
    refine wpAnyH_take (i := 0) (oi := { dst := some 12, op := Op.fieldAddr 37 (Operand.tmp 5) 0, type := 0, pos := "set.go:17", after := #[], guard := none }) (v := ?_) rfl (by kernel_rfl) (by kernel_rfl) (by kernel_rfl) (fun _ _ _ h => h) (Or.inl ⟨by rfl, ?_⟩) (by assumption) ?_
    rotate_left
    · intro w hSw
      clear hSw
      go_simp
      all_goals with_reducible rfl
    simp only [Act.put, List.setIfInBounds_toArray, List.set_cons_zero, List.set_cons_succ]
    refine wpAnyH_take (i := 1) (oi := { dst := some 13, op := Op.load 3 (Operand.tmp 12), type := 3, pos := "set.go:17", after := #[{ on := 0, ground := Ground.data }], guard := none }) (v := ?_) rfl (by kernel_rfl) (by kernel_rfl) (by kernel_rfl) (fun _ _ _ h => h) (Or.inl ⟨by rfl, ?_⟩) (by assumption) ?_
    rotate_left
    · intro w hSw
      have c0 := (sh_cells hSw).1
      clear hSw
      go_simp
      all_goals with_reducible rfl
    simp only [Act.put, List.setIfInBounds_toArray, List.set_cons_zero, List.set_cons_succ]
    refine wpAnyH_take (i := 2) (oi := { dst := some 14, op := Op.binOp BinOp.quo 3 (Operand.tmp 13) (Operand.const (Value.int IntKind.i64 8)) 3, type := 3, pos := "set.go:17", after := #[{ on := 1, ground := Ground.data }], guard := none }) (v := ?_) rfl (by kernel_rfl) (by kernel_rfl) (by kernel_rfl) (fun _ _ _ h => h) (Or.inl ⟨by rfl, ?_⟩) (by assumption) ?_
    rotate_left
    · intro w hSw
      clear hSw
      go_simp
      all_goals with_reducible rfl
    simp only [Act.put, List.setIfInBounds_toArray, List.set_cons_zero, List.set_cons_succ]
    refine wpAnyH_take (i := 3) (oi := { dst := some 15, op := Op.indexAddr 65 (Operand.tmp 3) (Operand.tmp 14), type := 0, pos := "set.go:17", after := #[{ on := 2, ground := Ground.data }], guard := none }) (v := ?_) rfl (by kernel_rfl) (by kernel_rfl) (by kernel_rfl) (fun _ _ _ h => h) (Or.inl ⟨by rfl, ?_⟩) (by assumption) ?_
    rotate_left
    · intro w hSw
      clear hSw
      go_simp
      all_goals with_reducible rfl
    simp only [Act.put, List.setIfInBounds_toArray, List.set_cons_zero, List.set_cons_succ]
    refine wpAnyH_take (i := 5) (oi := { dst := some 17, op := Op.fieldAddr 37 (Operand.tmp 5) 0, type := 0, pos := "set.go:17", after := #[], guard := none }) (v := ?_) rfl (by kernel_rfl) (by kernel_rfl) (by kernel_rfl) (fun _ _ _ h => h) (Or.inl ⟨by rfl, ?_⟩) (by assumption) ?_
    rotate_left
    · intro w hSw
      clear hSw
      go_simp
      all_goals with_reducible rfl
    simp only [Act.put, List.setIfInBounds_toArray, List.set_cons_zero, List.set_cons_succ]
    refine wpAnyH_take (i := 6) (oi := { dst := some 18, op := Op.load 3 (Operand.tmp 17), type := 3, pos := "set.go:17", after := #[{ on := 5, ground := Ground.data }], guard := none }) (v := ?_) rfl (by kernel_rfl) (by kernel_rfl) (by kernel_rfl) (fun _ _ _ h => h) (Or.inl ⟨by rfl, ?_⟩) (by assumption) ?_
    rotate_left
    · intro w hSw
      have c0 := (sh_cells hSw).1
      clear hSw
      go_simp
      all_goals with_reducible rfl
    simp only [Act.put, List.setIfInBounds_toArray, List.set_cons_zero, List.set_cons_succ]
    refine wpAnyH_take (i := 7) (oi := { dst := some 19, op := Op.binOp BinOp.rem 3 (Operand.tmp 18) (Operand.const (Value.int IntKind.i64 8)) 3, type := 3, pos := "set.go:17", after := #[{ on := 6, ground := Ground.data }], guard := none }) (v := ?_) rfl (by kernel_rfl) (by kernel_rfl) (by kernel_rfl) (fun _ _ _ h => h) (Or.inl ⟨by rfl, ?_⟩) (by assumption) ?_
    rotate_left
    · intro w hSw
      clear hSw
      go_simp
      all_goals with_reducible rfl
    simp only [Act.put, List.setIfInBounds_toArray, List.set_cons_zero, List.set_cons_succ]
    refine wpAnyH_take (i := 8) (oi := { dst := some 20, op := Op.binOp BinOp.shl 5 (Operand.const (Value.int IntKind.u8 1)) (Operand.tmp 19) 3, type := 5, pos := "set.go:17", after := #[{ on := 7, ground := Ground.data }], guard := none }) (v := ?_) rfl (by kernel_rfl) (by kernel_rfl) (by kernel_rfl) (fun _ _ _ h => h) (Or.inl ⟨by rfl, ?_⟩) (by assumption) ?_
    rotate_left
    · intro w hSw
      clear hSw
      go_simp
      all_goals with_reducible rfl
    simp only [Act.put, List.setIfInBounds_toArray, List.set_cons_zero, List.set_cons_succ]
    refine wpAnyH_ready (rs := [4]) (by kernel_rfl) (by simp) ?_
    refine AllReadyH.cons (o := { dst := some 16, op := Op.load 5 (Operand.tmp 15), type := 5, pos := "set.go:17", after := #[{ on := 3, ground := Ground.data }], guard := none }) rfl (fun K hK => ?_) AllReadyH.nil
    have c4 := v8_cell R3d.out q (by rw [S.zeros_length]; omega)
    rw [S.zeros_getD] at c4
    go_simp
    clear c4
    refine hK.out _ _ hHeld (fun hHeld => ?_)
    clear hK K
    try simp only [Act.put, List.setIfInBounds_toArray, List.set_cons_zero, List.set_cons_succ]
    refine wpAnyH_take (i := 9) (oi := { dst := some 21, op := Op.binOp BinOp.or 5 (Operand.tmp 16) (Operand.tmp 20) 5, type := 5, pos := "set.go:17", after := #[{ on := 4, ground := Ground.data }, { on := 8, ground := Ground.data }], guard := none }) (v := ?_) rfl (by kernel_rfl) (by kernel_rfl) (by kernel_rfl) (fun _ _ _ h => h) (Or.inl ⟨by rfl, ?_⟩) (by assumption) ?_
    rotate_left
    · intro w hSw
      clear hSw
      go_simp
      all_goals with_reducible rfl
    simp only [Act.put, List.setIfInBounds_toArray, List.set_cons_zero, List.set_cons_succ]
    refine wpAnyH_take (i := 10) (oi := { dst := some 22, op := Op.indexAddr 65 (Operand.tmp 3) (Operand.tmp 14), type := 0, pos := "set.go:17", after := #[{ on := 2, ground := Ground.data }, { on := 0, ground := Ground.phase }, { on := 1, ground := Ground.phase }, { on := 2, ground := Ground.phase }, { on := 3, ground := Ground.phase }, { on := 4, ground := Ground.phase }, { on := 5, ground := Ground.phase }, { on := 6, ground := Ground.phase }, { on := 7, ground := Ground.phase }, { on := 8, ground := Ground.phase }, { on := 9, ground := Ground.phase }], guard := none }) (v := ?_) rfl (by kernel_rfl) (by kernel_rfl) (by kernel_rfl) (fun _ _ _ h => h) (Or.inl ⟨by rfl, ?_⟩) (by assumption) ?_
    rotate_left
    · intro w hSw
      clear hSw
      go_simp
      all_goals with_reducible rfl
    simp only [Act.put, List.setIfInBounds_toArray, List.set_cons_zero, List.set_cons_succ]
    refine wpAnyH_ready (rs := [11]) (by kernel_rfl) (by simp) ?_
    refine AllReadyH.cons (o := { dst := none, op := Op.store 5 (Operand.tmp 22) (Operand.tmp 21), type := 0, pos := "set.go:17", after := #[{ on := 10, ground := Ground.data }, { on := 9, ground := Ground.data }, { on := 0, ground := Ground.phase }, { on := 1, ground := Ground.phase }, { on := 2, ground := Ground.phase }, { on := 3, ground := Ground.phase }, { on := 4, ground := Ground.phase }, { on := 5, ground := Ground.phase }, { on := 6, ground := Ground.phase }, { on := 7, ground := Ground.phase }, { on := 8, ground := Ground.phase }, { on := 9, ground := Ground.phase }], guard := none }) rfl (fun K hK => ?_) AllReadyH.nil
    have c4 := v8_cell R3d.out q (by rw [S.zeros_length]; omega)
    have f4 := frozen_of_row _ _ q _ _ R3d.out
    go_simp
    rw [S.or_bit r hr8]
    have V3 := hide (v8_set R3d.out q (UInt8.ofNat (2 ^ r)))
    have a2 : (Z1.setCell ⟨g3, q, none⟩ (.int .u8 ((UInt8.ofNat (2 ^ r)).toNat : Int))).heap[g5]? = some (.cells #[.int .i64 (n : Int), bv] 37 (0, 0)) := (heap_setCell_other _ ⟨g3, q, none⟩ g5 _ (fun e => N53.out e)).trans hHeld
    have R2s : Hid ((Z1.setCell ⟨g3, q, none⟩ (.int .u8 ((UInt8.ofNat (2 ^ r)).toNat : Int))).heap[g2]? = some (.cells (S.v8 (S.zeros 64)) 65 (0, 0))) := (heap_setCell_other _ ⟨g3, q, none⟩ g2 _ (fun e => N23.out e)).trans R2d.out
    have B6 : Hid (Below w.heap.size w (Z1.setCell ⟨g3, q, none⟩ (.int .u8 ((UInt8.ofNat (2 ^ r)).toNat : Int)))) := B5d.out.setCell (p := ⟨g3, q, none⟩) HG3.out _
    obtain ⟨Z2, hZ2⟩ : ∃ Z2, Z2 = Z1.setCell ⟨g3, q, none⟩ (.int .u8 ((UInt8.ofNat (2 ^ r)).toNat : Int)) := ⟨_, rfl⟩
    rw [← hZ2] at V3 a2 R2s B6 ⊢
    refine hK.out _ _ a2 (fun hHeld => ?_)
    clear hK K a2 hZ2 c4 f4 R3d R2d B5d
    try simp only [Act.put, List.setIfInBounds_toArray, List.set_cons_zero, List.set_cons_succ]
    refine wpAnyH_done (by kernel_rfl) ?_ _
    refine NoPanic.normal ?_
    clear hHeld
    go_wp2_with fail
    go_roundw
    case rel => exact Or.inr ⟨by go_num, R2s.out, by rw [HONE.out]; exact V3.out, B6.out⟩
    case measure => simp [intOf]

  · have ld := load57 h3 (S.one_length n)
    obtain ⟨w6, hst, r6, c6⟩ := store57 (ys := S.one n) h2 (S.zeros_length _) (S.one_length n)
    have R6 := hide r6
    have B6 : Hid (Below w.heap.size w w6) := hb.trans (c6.base hb.size HG2.out)
    obtain ⟨Z, hZ⟩ : ∃ Z, Z = S.v8 (S.one n) := ⟨_, rfl⟩
    rw [← hZ] at ld hst
    have HZ := hide hZ
    clear r6 c6 h2 h3 hb hZ S2 R2 R3 B2
    go_wp2_with (first | (with_reducible refine at_op { dst := some 24, op := Op.load 65 (Operand.tmp 3), type := 65, pos := "set.go:19", after := #[], guard := none } ?_; refine wpList_load_as rfl 65 (.tmp 3) rfl (.pointer (some ⟨g3, 0, none⟩)) rfl (.agg Z) ld ?_) | (with_reducible refine at_op { dst := none, op := Op.store 65 (Operand.tmp 2) (Operand.tmp 24), type := 0, pos := "set.go:19", after := #[{ on := 0, ground := Ground.data }, { on := 0, ground := Ground.phase }], guard := none } ?_; refine wpList_store_as rfl 65 (.tmp 2) (.tmp 24) rfl (.pointer (some ⟨g2, 0, none⟩)) (.agg Z) rfl rfl w6 hst ?_))
    refine bodyPost_ret (results_row_one Tryz.results33 _ _ g2 (.agg (S.v8 (S.one n))) rfl (loadVar57 R6.out (S.one_length n))) rfl ⟨rfl, B6.out⟩
end Go.Proofs.YthjlhngjpbmieaaGreatDoor
namespace Go.Proofs.YthjlhngjpbmieaaGreatDoor
open Go.RowKit

theorem info3 : (Tryz.prog.info? 3).map (fun i => (i.zero, i.size, i.bytes)) = some (some (.int .i64 0), 1, 8) := by kernel_rfl
/-- append of one int onto none. -/
theorem run_append_int (w : World) (gx : Nat) (n : Int) (ty : TypeId) (hx : w.heap[gx]? = some (.cells #[.int .i64 n] 3 (0, 0))) :
    ∃ v' w', (Builtin.append_ #[46, 46] ty #[.slice none 0 0, .slice (some ⟨gx, 0, none⟩) 1 1]).run Tryz.prog w = .ok v' w' ∧ (∃ gl c, v' = .slice (some ⟨gl, 0, none⟩) 1 c ∧ w.heap.size ≤ gl ∧ w'.cell? ⟨gl, 0, none⟩ = some (.int .i64 n) ∧ gl < w'.heap.size ∧ Below w.heap.size w w') := by
  obtain ⟨i, hi, hz0, hz1, hz2⟩ := info_parts info3
  obtain ⟨v', w', hr, ho, hg, hn⟩ := run_append_own (P := Tryz.prog) w w.heap.size 46 ty 3 i (.int .i64 0) 1 8 Tryz.underlying46 hi hz0 hz1 hz2 rfl (by omega) (.slice none 0 0) 0 [] (World.ownsRow_nil w w.heap.size 3 1) ⟨gx, 0, none⟩ 1 1 [.int .i64 n] rfl (fun j u hu => by
    rw [Addr.add_lit, Nat.zero_add, cell_of_row w gx j _ 3 (0, 0) hx]
    simpa using hu) (fun u hu => by simp only [List.mem_singleton] at hu; rw [hu]; rfl) (by simp [maxLen]) (by omega) (Nat.le_refl _)
  refine ⟨v', w', hr, ?_⟩
  rcases ho.2 with ⟨e, e2⟩ | ⟨g, c, cur, e, hge, h1, h2, h3, h4, h5⟩
  · exact absurd e2 (by simp)
  · refine ⟨g, c, e, hge, ?_, block_lt_of_row h1, ⟨hg.os, hg.tape, hg.output, hg.size, fun k hk => hg.block k hk (by simp [Value.ownBlock])⟩⟩
    rw [cell_of_row w' g 0 _ 3 _ h1]
    have : (cur.toList.take ((0 + 1) * 1))[0]? = cur.toList[0]? := by rw [List.getElem?_take, if_pos (by omega)]
    rw [h5] at this
    simpa using this.symm
set_option maxHeartbeats 4000000 in
set_option maxRecDepth 10000 in
theorem pages_one (n : Nat) (w : World) (hn : n < 512) :
   Calls Tryz.prog 48 #[.agg (S.v8 (S.one n))] w fun e w' => ∃ gl c, e = .returned (.slice (some ⟨gl, 0, none⟩) 1 c) ∧ w'.cell? ⟨gl, 0, none⟩ = some (.int .i64 (n : Int)) ∧ Below w.heap.size w w' := by
  obtain ⟨Z, hZ⟩ : ∃ Z, Z = S.v8 (S.one n) := ⟨_, rfl⟩
  obtain ⟨w1, hw1⟩ : ∃ w1, w1 = w.alloc (.cells Z 65) := ⟨_, rfl⟩
  have B1 : Hid (Below w.heap.size w w1) := by rw [hw1]; exact (Below.refl _ _).alloc (Nat.le_refl _) _
  have R1 : Hid (w1.heap[w.heap.size]? = some (.cells (S.v8 (S.one n)) 65 (0, 0))) := by rw [hw1, hZ]; exact heap_alloc_new _ _
  obtain ⟨gs, hgs⟩ : ∃ gs, gs = w.heap.size := ⟨_, rfl⟩
  rw [← hgs] at R1
  rw [← hZ]
  have HZ := hide hZ
  clear hZ
  go_enter Tryz.func48, Tryz.ntmps48
  go_wp2_with fail
  rw [← hw1, ← hgs]
  clear hw1 hgs
  go_loopw [3, 5] (fun l i wr => ∃ k : Nat, k ≤ 512 ∧ i = .int .i64 (k : Int) ∧ wr.heap[gs]? = some (.cells (S.v8 (S.one n)) 65 (0, 0)) ∧ Below w.heap.size w wr ∧ ((k ≤ n ∧ l = .slice none 0 0) ∨ (n < k ∧ ∃ gl c, l = .slice (some ⟨gl, 0, none⟩) 1 c ∧ wr.cell? ⟨gl, 0, none⟩ = some (.int .i64 (n : Int)) ∧ gl < wr.heap.size))) (fun _ i _ => 512 - (intOf i).toNat)
  case atStart => exact ⟨0, by omega, rfl, R1.out, B1.out, Or.inl ⟨Nat.zero_le _, rfl⟩⟩
  case round =>
  obtain ⟨k, hk, rfl, hr, hb, hl⟩ := hrel
  have RR := hide hr
  have BB := hide hb
  have HL := hide hl
  clear hr hb hl R1 B1
  by_cases hlt : k < 512
  · have q1 : (k : Int) < 512 := by omega
    have q2 : IntKind.i64.wrap ((k : Int) + 1) = (k : Int) + 1 := by rw [IntKind.wrap_i64]; omega
    have ld := load57 RR.out (S.one_length n)
    rw [← HZ.out] at ld
    go_wp2_with (with_reducible refine at_op { dst := some 8, op := Op.load 65 (Operand.tmp 1), type := 65, pos := "set.go:50", after := #[], guard := none } ?_; refine wpList_load_as rfl 65 (.tmp 1) rfl (.pointer (some ⟨gs, 0, none⟩)) rfl (.agg Z) ld ?_)
    clear ld
    refine (bit_any Z (S.one n) k wr HZ.out (S.one_length n) hlt).mono ?_
    rintro e w2 ⟨rfl, b2⟩
    rw [S.bit_one n k hn hlt]
    have R2 : Hid (w2.heap[gs]? = some (.cells (S.v8 (S.one n)) 65 (0, 0))) := (b2.block gs (block_lt_of_row RR.out)).trans RR.out
    have B2 := hide (BB.out.trans (b2.mono BB.out.size))
    have B22 := hide b2
    clear b2
    by_cases hkn : k = n
    · subst hkn
      rw [decide_eq_true rfl]
      have hl0 : u3 = .slice none 0 0 := by
        rcases HL.out with ⟨_, e⟩ | ⟨e, _⟩
        · exact e
        · omega
      subst hl0
      obtain ⟨w3, hw3⟩ : ∃ w3, w3 = w2.alloc (.cells #[.int .i64 (k : Int)] 3) := ⟨_, rfl⟩
      have b3 : Below w2.heap.size w2 w3 := by rw [hw3]; exact (Below.refl _ _).alloc (Nat.le_refl _) _
      have r3 : w3.heap[w2.heap.size]? = some (.cells #[.int .i64 (k : Int)] 3 (0, 0)) := by rw [hw3]; exact heap_alloc_new _ _
      have APP := hide (run_append_int w3 w2.heap.size (k : Int) 46 r3)
      have R3 : Hid (w3.heap[gs]? = some (.cells (S.v8 (S.one k)) 65 (0, 0))) := (b3.block gs (block_lt_of_row R2.out)).trans R2.out
      have B3 := hide (B2.out.trans (b3.mono B2.out.size))
      have HW3 := hide hw3
      clear b3 r3 hw3 R2 B2 RR BB HL B22
      go_wp2_with (at_builtin; (rw [← HW3.out]; refine wpList_append_known rfl (.tmp 11) (.tmp 13) 46 46 rfl _ _ rfl rfl APP.out ?_; rintro v4 w4 ⟨gl, c, rfl, hgl, hc4, hlt4, b4⟩; have C4 := hide hc4; have B4 := hide b4; have LT4 := hide hlt4; clear hgl hc4 hlt4 b4))
      have R4 : Hid (w4.heap[gs]? = some (.cells (S.v8 (S.one k)) 65 (0, 0))) := (B4.out.block gs (block_lt_of_row R3.out)).trans R3.out
      have B5 := hide (B3.out.trans (B4.out.mono B3.out.size))
      clear APP
      go_roundw
      case rel => exact ⟨k + 1, by omega, by go_num, R4.out, B5.out, Or.inr ⟨by omega, gl, c, rfl, C4.out, LT4.out⟩⟩
      case measure => simp [intOf]; omega
    · rw [decide_eq_false hkn]
      have HL2 : Hid ((k + 1 ≤ n ∧ u3 = .slice none 0 0) ∨ (n < k + 1 ∧ ∃ gl c, u3 = .slice (some ⟨gl, 0, none⟩) 1 c ∧ w2.cell? ⟨gl, 0, none⟩ = some (.int .i64 (n : Int)) ∧ gl < w2.heap.size)) := by
        rcases HL.out with ⟨h1, h2⟩ | ⟨h1, gl, c, h2, h3, h4⟩
        · exact Or.inl ⟨by omega, h2⟩
        · exact Or.inr ⟨by omega, gl, c, h2, (B22.out.cell (p := ⟨gl, 0, none⟩) h4).trans h3, Nat.lt_of_lt_of_le h4 B22.out.size⟩
      clear RR BB HL B22
      go_wp2_with fail
      go_roundw
      case rel => exact ⟨k + 1, by omega, by go_num, R2.out, B2.out, HL2.out⟩
      case measure => simp [intOf]; omega
  · obtain rfl : k = 512 := by omega
    rcases HL.out with ⟨h1, _⟩ | ⟨_, gl, c, rfl, h3, _⟩
    · omega
    · have C := hide h3
      clear h3 HL
      go_wp2_with fail
      go_ret
      exact ⟨gl, c, rfl, C.out, BB.out⟩
end Go.Proofs.YthjlhngjpbmieaaGreatDoor
namespace Go.Proofs.YthjlhngjpbmieaaGreatDoor
open Go.RowKit

namespace S
/-- The sectors behind a page's being written. -/
def put (ss : List (List UInt8)) (f : Nat) (x : List UInt8) : Nat → List (List UInt8)
  | 0 => ss
  | i + 1 => (put ss f x i).set (f + i) ((x.drop (i * 128)).take 128)
theorem put_length (ss : List (List UInt8)) (f : Nat) (x : List UInt8) (i : Nat) : (put ss f x i).length = ss.length := by
  induction i with
  | zero => rfl
  | succ i ih => rw [put, List.length_set, ih]
theorem put_off (ss : List (List UInt8)) (f : Nat) (x : List UInt8) (i j : Nat) (h : j < f ∨ f + i ≤ j) : (put ss f x i).getD j [] = ss.getD j [] := by
  induction i with
  | zero => rfl
  | succ i ih => rw [put, List.getD_eq_getElem?_getD, List.getElem?_set_ne (by omega), ← List.getD_eq_getElem?_getD, ih (by omega)]
theorem put_at (ss : List (List UInt8)) (f : Nat) (x : List UInt8) (i j : Nat) (hf : f + i ≤ ss.length) (h : j < i) : (put ss f x i).getD (f + j) [] = (x.drop (j * 128)).take 128 := by
  induction i with
  | zero => omega
  | succ i ih =>
    by_cases e : j = i
    · subst e
      rw [put, List.getD_eq_getElem?_getD, List.getElem?_set_self (by rw [put_length]; omega)]
      rfl
    · rw [put, List.getD_eq_getElem?_getD, List.getElem?_set_ne (by omega), ← List.getD_eq_getElem?_getD, ih (by omega) (by omega)]
theorem secs_cong {ss tt : List (List UInt8)} {f i : Nat} (h : ∀ j, f ≤ j → j < f + i → ss.getD j [] = tt.getD j []) : secs ss f i = secs tt f i := by
  induction i with
  | zero => rfl
  | succ i ih => rw [secs, secs, ih (fun j h1 h2 => h j h1 (by omega)), h (f + i) (by omega) (by omega)]
theorem put_page (ss : List (List UInt8)) (f : Nat) (x : List UInt8) (hx : x.length = 1024) (hf : f + 8 ≤ ss.length) : pageAt (put ss f x 8) f = x := by
  have key : ∀ i, i ≤ 8 → secs (put ss f x 8) f i = x.take (i * 128) := fun i => by
    induction i with
    | zero => intro _; simp [secs]
    | succ i ih =>
      intro hi
      rw [secs, ih (by omega), put_at ss f x 8 i hf (by omega), Nat.add_mul, Nat.one_mul, List.take_add]
  unfold pageAt
  rw [key 8 (by omega), List.take_of_length_le (by omega)]
theorem put_other (ss : List (List UInt8)) (f f' : Nat) (x : List UInt8) (h : f' + 8 ≤ f ∨ f + 8 ≤ f') : pageAt (put ss f x 8) f' = pageAt ss f' :=
  secs_cong (fun j h1 h2 => put_off ss f x 8 j (by omega))
theorem nth_snoc (p : Ws) (a : Nat × List UInt8) : Ws.nth (p ++ [a]) p.length = a := by
  simp [Ws.nth]
theorem over_page (ss : List (List UInt8)) (f : Nat) (x : List UInt8) (i : Nat) : over ss (pageWs f x i) = put ss f x i := by
  induction i with
  | zero => rfl
  | succ i ih =>
    unfold over at ih ⊢
    rw [pageWs_succ, List.length_append, List.length_singleton, overTo, overTo_app _ _ _ _ (Nat.le_refl _), ih, nth_snoc]
    rfl
theorem page_flushed (d : Dk) (f : Nat) (x : List UInt8) (hp : d.pend = []) : d.acts ((pageWs f x 8).acts ++ [.flush]) = { d with safe := put d.safe f x 8, pend := [] } := by
  rw [Dk.acts_app, Dk.acts_writes, hp, List.nil_append]
  show ({ d with safe := over d.safe (pageWs f x 8), pend := [] } : Dk) = _
  rw [over_page]
end S
theorem Lo.beside {w0 w w2 : World} {o o2 : Ow} {d d2 : S.Dk} {g f c p t : Nat} {rs : List (List UInt8)} {tv : Value} (h : Lo w0 w o d g f c p t rs tv) (hd : DkIs w2 o2 d2) (hm : DkTo o w o2 w2) (hp : d2.pend = []) (hl : d2.safe.length = d.safe.length) (hs : ∀ j, f ≤ j → j < f + c → d2.safe.getD j [] = d.safe.getD j []) : Lo w0 w2 o2 d2 g f c p t rs tv := by
  have hg : g < w.heap.size := block_lt_of_row h.log.lg.row
  have ht : ∀ k, tv.ownBlock = some k → k < w.heap.size := fun k hk => h.log.lg.text.lt hk
  have hpt : o2.ptr = o.ptr := by unfold Ow.ptr; rw [hm.g]
  refine ⟨⟨h.log.dk.to hd hm, hp, h.log.good.stay hl hs, by rw [hpt]; exact h.log.lg.chg hm.chg h.log.no h.log.far, fun e => ?_, h.log.pos, fun k hk e => ?_, h.log.tpos⟩, fun k e => ?_, h.gb, h.tb, h.below.trans (hm.chg.below _ h.below.size (fun k hk e => by have := h.ob k e; omega)), h.pos⟩
  · rcases hm.own g e with e | e
    · exact h.log.no e
    · omega
  · rcases hm.own k e with e | e
    · exact h.log.far k hk e
    · have := ht k hk; omega
  · rcases hm.own k e with e | e
    · exact h.ob k e
    · exact Nat.le_trans h.below.size e
end Go.Proofs.YthjlhngjpbmieaaGreatDoor
