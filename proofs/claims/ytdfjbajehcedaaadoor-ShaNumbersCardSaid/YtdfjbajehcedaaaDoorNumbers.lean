/- The walk of ShaNumbers: the call returns true and nothing that was there changes. -/
import Derived.Test.YtdfjbajehcedaaaDoorNums
namespace Go.Proofs.YtdfjbajehcedaaaDoor
open Go.RowKit
set_option maxHeartbeats 8000000 in
set_option maxRecDepth 100000 in
theorem shaNumbers_walk (w : World) (hK : KAt w) : Calls Tryd.prog 3 #[] w fun e w' => e = .returned (.bool true) ∧ Below w.heap.size w w' := by
  have HK := hide hK
  have h0 := hK.pos
  clear hK
  go_enter Tryd.func3, Tryd.ntmps3
  go_wp2
  go_loopw [2] (fun i wr => ∃ k : Nat, k ≤ 32 ∧ i = .int .i64 (k : Int) ∧ wr.heap[w.heap.size]? = some (.cells (S.v8 (S.onesTo k)) 23 (0, 0)) ∧ Below w.heap.size w wr)
    (fun i _ => 32 - (intOf i).toNat)
  case atStart => exact ⟨0, by omega, rfl, heap_alloc_new _ _, (Below.refl _ _).alloc (Nat.le_refl _) _⟩
  case round =>
    obtain ⟨k, hk, rfl, r0, hnx⟩ := hrel
    have hl := S.onesTo_length k
    by_cases hlt : k < 32
    · have ce := v8_cell r0 k (by omega)
      have cf := frozen_of_row _ _ k _ _ r0
      have R1 : (wr.setCell ⟨w.heap.size, k, none⟩ (.int .u8 255)).heap[w.heap.size]? = some (.cells (S.v8 (S.onesTo (k + 1))) 23 (0, 0)) := v8_set r0 k 255
      have q1 : (0 : Int) ≤ (k : Int) := by omega
      have q2 : (k : Int) < 32 := by omega
      have A := hide R1
      have C := hide hnx
      clear R1 r0 hnx hl
      go_wp2
      go_roundw
      case rel => exact ⟨k + 1, by omega, by go_num, A.out, C.out.setCell (by exact Nat.le_refl _) _⟩
      case measure => simp [intOf]; omega
    · obtain rfl : k = 32 := by omega
      obtain ⟨g, hg⟩ : ∃ g, g = w.heap.size := ⟨_, rfl⟩
      obtain ⟨ones, hones⟩ : ∃ ones, ones = S.onesTo 32 := ⟨_, rfl⟩
      rw [← hg] at r0
      rw [← hones] at r0 hl
      rw [← hg]
      obtain ⟨cs, hcs⟩ : ∃ cs : List Value, cs = S.v8l ones := ⟨_, rfl⟩
      have HCS := hide hcs
      have hcl : cs.length = 32 := by rw [hcs, S.v8l_length]; exact hl
      have hu := Tryd.underlying23
      have hi : (Tryd.prog.info? 23).map (·.size) = some cs.length := by rw [hcl]; exact size23
      have hR : wr.rangeAt g 0 cs ∧ HeldN w g wr := by
        refine ⟨fun j u hu => ?_, HK.out.below hnx h0, hnx, block_lt_of_row r0, h0, by omega⟩
        rw [hcs] at hu
        obtain ⟨rfl, hj⟩ := S.v8l_at ones j u hu
        rw [Nat.zero_add]
        exact v8_cell r0 j hj
      have x3 := (ByteArray.toList_eq _).trans hex_mac
      have e1 : ∀ w, (Op.equalIn 10000 23 (.agg (S.v8 (S.cut ones 2))) (.agg (S.v8 S.two))).run Tryd.prog w = .ok true w := fun w => by
        rw [hones, cut_two, equal_bytes _ _ rfl rfl w]; simp
      have e2 : ∀ w, (Op.equalIn 10000 23 (.agg (S.v8 (S.cut ones 0))) (.agg (S.v8 (S.zeros 32)))).run Tryd.prog w = .ok true w := fun w => by
        rw [hones, cut_nought, equal_bytes _ _ rfl rfl w]; simp
      have e3 : ∀ w, (Op.equalIn 10000 23 (.agg (S.v8 (S.cut ones 40))) (.agg cs.toArray)).run Tryd.prog w = .ok true w := fun w => by
        rw [hcs, hones, cut_all]
        show (Op.equalIn 10000 23 (.agg (S.v8 (S.onesTo 32))) (.agg (S.v8 (S.onesTo 32)))).run Tryd.prog w = .ok true w
        rw [equal_bytes _ _ (S.onesTo_length _) (S.onesTo_length _) w]; simp
      clear hcs hones r0 hnx hg h0
      go_wp2
      refine wp_region_noPanic ?_
      refine wp_region_held_drew (S := (fun w' => w'.rangeAt g 0 cs ∧ HeldN w g w')) follows (heldN_below hR (Below.refl _ _).drew) (fun hHeld => ?_)
      clear hR
      generalize wr.drew = W0 at *
      refine wpAnyH_ready (rs := [0, 2]) (by kernel_rfl) (by simp) ?_
      refine AllReadyH.cons (o := { dst := some 9, op := Op.buildSlice 26 3 #[(0, Operand.const (Value.int IntKind.u8 107)), (1, Operand.const (Value.int IntKind.u8 101)), (2, Operand.const (Value.int IntKind.u8 121))], type := 26, pos := "law.go:31", after := #[], guard := none }) rfl (fun K hK => ?_) ?_
      go_simp
      refine hK.out _ _ (heldN_alloc _ hHeld) (fun hHeld2 => ?_)
      clear hK K
      try simp only [Act.put, List.setIfInBounds_toArray, List.set_cons_zero, List.set_cons_succ]
      generalize hW : W0.alloc _ = W1 at *
      have rowk : W1.heap[W0.heap.size]? = some (.cells (S.v8 S.key3) 5 (0, 0)) := by rw [← hW]; exact heap_alloc_new _ _
      have gk : g < W0.heap.size := heldN_lt hHeld
      clear hW hHeld
      have hHeld := hHeld2
      clear hHeld2
      generalize W0.heap.size = bk at *
      clear W0
      refine wpAnyH_ready (rs := [1, 2]) (by kernel_rfl) (by simp) ?_
      refine AllReadyH.cons (o := { dst := some 10, op := Op.convert 26 26 (Operand.tmp 9), type := 26, pos := "law.go:31", after := #[{ on := 0, ground := Ground.data }], guard := none }) rfl (fun K hK => ?_) ?_
      have kc := conv_at W1 bk (S.v8 S.key3) 3 3 rowk
      go_simp
      refine hK.out _ _ (heldN_freeze _ _ hHeld gk) (fun hHeld2 => ?_)
      clear hK K kc
      try simp only [Act.put, List.setIfInBounds_toArray, List.set_cons_zero, List.set_cons_succ]
      generalize hW : W1.freeze _ _ = W2 at *
      have ck : ∀ j, j < S.key3.length → W2.cell? ⟨bk, j, none⟩ = some (.int .u8 ((S.key3.getD j 0).toNat : Int)) := fun j hj => by rw [← hW, freeze_cell _ _ _ _ _ _ rowk]; exact (cell_of_row W1 bk j _ _ _ rowk).symm.trans (v8_cell rowk j hj)
      have zk : bk < W2.heap.size := block_lt_of_cell (ck 0 (by decide))
      clear hW hHeld rowk W1
      have hHeld := hHeld2
      clear hHeld2
      refine wpAnyH_ready (rs := [2]) (by kernel_rfl) (by simp) ?_
      refine AllReadyH.cons (o := { dst := some 11, op := Op.buildSlice 26 43 #[(0, Operand.const (Value.int IntKind.u8 84)), (1, Operand.const (Value.int IntKind.u8 104)), (2, Operand.const (Value.int IntKind.u8 101)), (3, Operand.const (Value.int IntKind.u8 32)), (4, Operand.const (Value.int IntKind.u8 113)), (5, Operand.const (Value.int IntKind.u8 117)), (6, Operand.const (Value.int IntKind.u8 105)), (7, Operand.const (Value.int IntKind.u8 99)), (8, Operand.const (Value.int IntKind.u8 107)), (9, Operand.const (Value.int IntKind.u8 32)), (10, Operand.const (Value.int IntKind.u8 98)), (11, Operand.const (Value.int IntKind.u8 114)), (12, Operand.const (Value.int IntKind.u8 111)), (13, Operand.const (Value.int IntKind.u8 119)), (14, Operand.const (Value.int IntKind.u8 110)), (15, Operand.const (Value.int IntKind.u8 32)), (16, Operand.const (Value.int IntKind.u8 102)), (17, Operand.const (Value.int IntKind.u8 111)), (18, Operand.const (Value.int IntKind.u8 120)), (19, Operand.const (Value.int IntKind.u8 32)), (20, Operand.const (Value.int IntKind.u8 106)), (21, Operand.const (Value.int IntKind.u8 117)), (22, Operand.const (Value.int IntKind.u8 109)), (23, Operand.const (Value.int IntKind.u8 112)), (24, Operand.const (Value.int IntKind.u8 115)), (25, Operand.const (Value.int IntKind.u8 32)), (26, Operand.const (Value.int IntKind.u8 111)), (27, Operand.const (Value.int IntKind.u8 118)), (28, Operand.const (Value.int IntKind.u8 101)), (29, Operand.const (Value.int IntKind.u8 114)), (30, Operand.const (Value.int IntKind.u8 32)), (31, Operand.const (Value.int IntKind.u8 116)), (32, Operand.const (Value.int IntKind.u8 104)), (33, Operand.const (Value.int IntKind.u8 101)), (34, Operand.const (Value.int IntKind.u8 32)), (35, Operand.const (Value.int IntKind.u8 108)), (36, Operand.const (Value.int IntKind.u8 97)), (37, Operand.const (Value.int IntKind.u8 122)), (38, Operand.const (Value.int IntKind.u8 121)), (39, Operand.const (Value.int IntKind.u8 32)), (40, Operand.const (Value.int IntKind.u8 100)), (41, Operand.const (Value.int IntKind.u8 111)), (42, Operand.const (Value.int IntKind.u8 103))], type := 26, pos := "law.go:31", after := #[], guard := none }) rfl (fun K hK => ?_) AllReadyH.nil
      go_simp
      refine hK.out _ _ (heldN_alloc _ hHeld) (fun hHeld2 => ?_)
      clear hK K
      try simp only [Act.put, List.setIfInBounds_toArray, List.set_cons_zero, List.set_cons_succ]
      generalize hW : W2.alloc _ = W3 at *
      have rowt : W3.heap[W2.heap.size]? = some (.cells (S.v8 S.fox) 5 (0, 0)) := by rw [← hW]; exact heap_alloc_new _ _
      have gt : g < W2.heap.size := heldN_lt hHeld
      have ck2 : ∀ j, j < S.key3.length → W3.cell? ⟨bk, j, none⟩ = some (.int .u8 ((S.key3.getD j 0).toNat : Int)) := fun j hj => by rw [← hW, World.cell?_alloc_past _ _ _ zk]; exact ck j hj
      have zk2 : bk < W3.heap.size := by rw [← hW]; simp; omega
      have hne : bk ≠ W2.heap.size := by omega
      clear ck zk
      have ck := ck2
      have zk := zk2
      clear ck2 zk2
      clear hW hHeld
      have hHeld := hHeld2
      clear hHeld2
      generalize W2.heap.size = bt at *
      clear W2
      refine wpAnyH_ready (rs := [3]) (by kernel_rfl) (by simp) ?_
      refine AllReadyH.cons (o := { dst := some 12, op := Op.convert 26 26 (Operand.tmp 11), type := 26, pos := "law.go:31", after := #[{ on := 2, ground := Ground.data }], guard := none }) rfl (fun K hK => ?_) AllReadyH.nil
      have kc := conv_at W3 bt (S.v8 S.fox) 43 43 rowt
      go_simp
      refine hK.out _ _ (heldN_freeze _ _ hHeld gt) (fun hHeld2 => ?_)
      clear hK K kc
      try simp only [Act.put, List.setIfInBounds_toArray, List.set_cons_zero, List.set_cons_succ]
      generalize hW : W3.freeze _ _ = W4 at *
      have ct : ∀ j, j < S.fox.length → W4.cell? ⟨bt, j, none⟩ = some (.int .u8 ((S.fox.getD j 0).toNat : Int)) := fun j hj => by rw [← hW, freeze_cell _ _ _ _ _ _ rowt]; exact (cell_of_row W3 bt j _ _ _ rowt).symm.trans (v8_cell rowt j hj)
      have zt : bt < W4.heap.size := block_lt_of_cell (ct 0 (by decide))
      have ck2 : ∀ j, j < S.key3.length → W4.cell? ⟨bk, j, none⟩ = some (.int .u8 ((S.key3.getD j 0).toNat : Int)) := fun j hj => by rw [← hW, World.cell?_of_block (freeze_other W3 _ _ bk (by show bk ≠ bt; omega))]; exact ck j hj
      clear ck zk
      have ck := ck2
      have zk : bk < W4.heap.size := block_lt_of_cell (ck 0 (by decide))
      clear ck2
      clear hW hHeld rowt W3
      have hHeld := hHeld2
      clear hHeld2
      have sk : SliceAt W4 (.slice (some ⟨bk, 0, none⟩) 3 3) S.key3 := Or.inr (Or.inr ⟨bk, 0, 3, rfl, by decide, by decide, zk, fun j hj => by rw [Nat.zero_add]; exact ck j hj⟩)
      have st : SliceAt W4 (.slice (some ⟨bt, 0, none⟩) 43 43) S.fox := Or.inr (Or.inr ⟨bt, 0, 43, rfl, by decide, by decide, zt, fun j hj => by rw [Nat.zero_add]; exact ct j hj⟩)
      rotate_left
      refine AllReadyH.cons (o := { dst := some 11, op := Op.buildSlice 26 43 #[(0, Operand.const (Value.int IntKind.u8 84)), (1, Operand.const (Value.int IntKind.u8 104)), (2, Operand.const (Value.int IntKind.u8 101)), (3, Operand.const (Value.int IntKind.u8 32)), (4, Operand.const (Value.int IntKind.u8 113)), (5, Operand.const (Value.int IntKind.u8 117)), (6, Operand.const (Value.int IntKind.u8 105)), (7, Operand.const (Value.int IntKind.u8 99)), (8, Operand.const (Value.int IntKind.u8 107)), (9, Operand.const (Value.int IntKind.u8 32)), (10, Operand.const (Value.int IntKind.u8 98)), (11, Operand.const (Value.int IntKind.u8 114)), (12, Operand.const (Value.int IntKind.u8 111)), (13, Operand.const (Value.int IntKind.u8 119)), (14, Operand.const (Value.int IntKind.u8 110)), (15, Operand.const (Value.int IntKind.u8 32)), (16, Operand.const (Value.int IntKind.u8 102)), (17, Operand.const (Value.int IntKind.u8 111)), (18, Operand.const (Value.int IntKind.u8 120)), (19, Operand.const (Value.int IntKind.u8 32)), (20, Operand.const (Value.int IntKind.u8 106)), (21, Operand.const (Value.int IntKind.u8 117)), (22, Operand.const (Value.int IntKind.u8 109)), (23, Operand.const (Value.int IntKind.u8 112)), (24, Operand.const (Value.int IntKind.u8 115)), (25, Operand.const (Value.int IntKind.u8 32)), (26, Operand.const (Value.int IntKind.u8 111)), (27, Operand.const (Value.int IntKind.u8 118)), (28, Operand.const (Value.int IntKind.u8 101)), (29, Operand.const (Value.int IntKind.u8 114)), (30, Operand.const (Value.int IntKind.u8 32)), (31, Operand.const (Value.int IntKind.u8 116)), (32, Operand.const (Value.int IntKind.u8 104)), (33, Operand.const (Value.int IntKind.u8 101)), (34, Operand.const (Value.int IntKind.u8 32)), (35, Operand.const (Value.int IntKind.u8 108)), (36, Operand.const (Value.int IntKind.u8 97)), (37, Operand.const (Value.int IntKind.u8 122)), (38, Operand.const (Value.int IntKind.u8 121)), (39, Operand.const (Value.int IntKind.u8 32)), (40, Operand.const (Value.int IntKind.u8 100)), (41, Operand.const (Value.int IntKind.u8 111)), (42, Operand.const (Value.int IntKind.u8 103))], type := 26, pos := "law.go:31", after := #[], guard := none }) rfl (fun K hK => ?_) AllReadyH.nil
      go_simp
      refine hK.out _ _ (heldN_alloc _ hHeld) (fun hHeld2 => ?_)
      clear hK K
      try simp only [Act.put, List.setIfInBounds_toArray, List.set_cons_zero, List.set_cons_succ]
      generalize hW : W1.alloc _ = W2 at *
      have rowt : W2.heap[W1.heap.size]? = some (.cells (S.v8 S.fox) 5 (0, 0)) := by rw [← hW]; exact heap_alloc_new _ _
      have gt : g < W1.heap.size := heldN_lt hHeld
      have rowk2 : W2.heap[bk]? = some (.cells (S.v8 S.key3) 5 (0, 0)) := by rw [← hW]; exact (heap_alloc_old _ _ (block_lt_of_row rowk)).trans rowk
      have hne : bk ≠ W1.heap.size := by have := block_lt_of_row rowk; omega
      clear rowk
      have rowk := rowk2
      clear rowk2
      clear hW hHeld
      have hHeld := hHeld2
      clear hHeld2
      generalize W1.heap.size = bt at *
      clear W1
      refine wpAnyH_ready (rs := [1, 3]) (by kernel_rfl) (by simp) ?_
      refine AllReadyH.cons (o := { dst := some 10, op := Op.convert 26 26 (Operand.tmp 9), type := 26, pos := "law.go:31", after := #[{ on := 0, ground := Ground.data }], guard := none }) rfl (fun K hK => ?_) ?_
      have kc := conv_at W2 bk (S.v8 S.key3) 3 3 rowk
      go_simp
      refine hK.out _ _ (heldN_freeze _ _ hHeld gk) (fun hHeld2 => ?_)
      clear hK K kc
      try simp only [Act.put, List.setIfInBounds_toArray, List.set_cons_zero, List.set_cons_succ]
      generalize hW : W2.freeze _ _ = W3 at *
      have ck : ∀ j, j < S.key3.length → W3.cell? ⟨bk, j, none⟩ = some (.int .u8 ((S.key3.getD j 0).toNat : Int)) := fun j hj => by rw [← hW, freeze_cell _ _ _ _ _ _ rowk]; exact (cell_of_row W2 bk j _ _ _ rowk).symm.trans (v8_cell rowk j hj)
      have zk : bk < W3.heap.size := block_lt_of_cell (ck 0 (by decide))
      have rowt2 : W3.heap[bt]? = some (.cells (S.v8 S.fox) 5 (0, 0)) := by rw [← hW, freeze_other _ _ _ _ (by show bt ≠ bk; omega)]; exact rowt
      clear rowt
      have rowt := rowt2
      clear rowt2
      clear hW hHeld rowk W2
      have hHeld := hHeld2
      clear hHeld2
      refine wpAnyH_ready (rs := [3]) (by kernel_rfl) (by simp) ?_
      refine AllReadyH.cons (o := { dst := some 12, op := Op.convert 26 26 (Operand.tmp 11), type := 26, pos := "law.go:31", after := #[{ on := 2, ground := Ground.data }], guard := none }) rfl (fun K hK => ?_) AllReadyH.nil
      have kc := conv_at W3 bt (S.v8 S.fox) 43 43 rowt
      go_simp
      refine hK.out _ _ (heldN_freeze _ _ hHeld gt) (fun hHeld2 => ?_)
      clear hK K kc
      try simp only [Act.put, List.setIfInBounds_toArray, List.set_cons_zero, List.set_cons_succ]
      generalize hW : W3.freeze _ _ = W4 at *
      have ct : ∀ j, j < S.fox.length → W4.cell? ⟨bt, j, none⟩ = some (.int .u8 ((S.fox.getD j 0).toNat : Int)) := fun j hj => by rw [← hW, freeze_cell _ _ _ _ _ _ rowt]; exact (cell_of_row W3 bt j _ _ _ rowt).symm.trans (v8_cell rowt j hj)
      have zt : bt < W4.heap.size := block_lt_of_cell (ct 0 (by decide))
      have ck2 : ∀ j, j < S.key3.length → W4.cell? ⟨bk, j, none⟩ = some (.int .u8 ((S.key3.getD j 0).toNat : Int)) := fun j hj => by rw [← hW, World.cell?_of_block (freeze_other W3 _ _ bk (by show bk ≠ bt; omega))]; exact ck j hj
      clear ck zk
      have ck := ck2
      have zk : bk < W4.heap.size := block_lt_of_cell (ck 0 (by decide))
      clear ck2
      clear hW hHeld rowt W3
      have hHeld := hHeld2
      clear hHeld2
      have sk : SliceAt W4 (.slice (some ⟨bk, 0, none⟩) 3 3) S.key3 := Or.inr (Or.inr ⟨bk, 0, 3, rfl, by decide, by decide, zk, fun j hj => by rw [Nat.zero_add]; exact ck j hj⟩)
      have st : SliceAt W4 (.slice (some ⟨bt, 0, none⟩) 43 43) S.fox := Or.inr (Or.inr ⟨bt, 0, 43, rfl, by decide, by decide, zt, fun j hj => by rw [Nat.zero_add]; exact ct j hj⟩)
      rotate_left
      refine AllReadyH.cons (o := { dst := some 12, op := Op.convert 26 26 (Operand.tmp 11), type := 26, pos := "law.go:31", after := #[{ on := 2, ground := Ground.data }], guard := none }) rfl (fun K hK => ?_) AllReadyH.nil
      have kc := conv_at W2 bt (S.v8 S.fox) 43 43 rowt
      go_simp
      refine hK.out _ _ (heldN_freeze _ _ hHeld gt) (fun hHeld2 => ?_)
      clear hK K kc
      try simp only [Act.put, List.setIfInBounds_toArray, List.set_cons_zero, List.set_cons_succ]
      generalize hW : W2.freeze _ _ = W3 at *
      have ct : ∀ j, j < S.fox.length → W3.cell? ⟨bt, j, none⟩ = some (.int .u8 ((S.fox.getD j 0).toNat : Int)) := fun j hj => by rw [← hW, freeze_cell _ _ _ _ _ _ rowt]; exact (cell_of_row W2 bt j _ _ _ rowt).symm.trans (v8_cell rowt j hj)
      have zt : bt < W3.heap.size := block_lt_of_cell (ct 0 (by decide))
      have rowk2 : W3.heap[bk]? = some (.cells (S.v8 S.key3) 5 (0, 0)) := by rw [← hW, freeze_other _ _ _ _ (by show bk ≠ bt; omega)]; exact rowk
      clear rowk
      have rowk := rowk2
      clear rowk2
      clear hW hHeld rowt W2
      have hHeld := hHeld2
      clear hHeld2
      refine wpAnyH_ready (rs := [1]) (by kernel_rfl) (by simp) ?_
      refine AllReadyH.cons (o := { dst := some 10, op := Op.convert 26 26 (Operand.tmp 9), type := 26, pos := "law.go:31", after := #[{ on := 0, ground := Ground.data }], guard := none }) rfl (fun K hK => ?_) AllReadyH.nil
      have kc := conv_at W3 bk (S.v8 S.key3) 3 3 rowk
      go_simp
      refine hK.out _ _ (heldN_freeze _ _ hHeld gk) (fun hHeld2 => ?_)
      clear hK K kc
      try simp only [Act.put, List.setIfInBounds_toArray, List.set_cons_zero, List.set_cons_succ]
      generalize hW : W3.freeze _ _ = W4 at *
      have ck : ∀ j, j < S.key3.length → W4.cell? ⟨bk, j, none⟩ = some (.int .u8 ((S.key3.getD j 0).toNat : Int)) := fun j hj => by rw [← hW, freeze_cell _ _ _ _ _ _ rowk]; exact (cell_of_row W3 bk j _ _ _ rowk).symm.trans (v8_cell rowk j hj)
      have zk : bk < W4.heap.size := block_lt_of_cell (ck 0 (by decide))
      have ct2 : ∀ j, j < S.fox.length → W4.cell? ⟨bt, j, none⟩ = some (.int .u8 ((S.fox.getD j 0).toNat : Int)) := fun j hj => by rw [← hW, World.cell?_of_block (freeze_other W3 _ _ bt (by show bt ≠ bk; omega))]; exact ct j hj
      clear ct zt
      have ct := ct2
      have zt : bt < W4.heap.size := block_lt_of_cell (ct 0 (by decide))
      clear ct2
      clear hW hHeld rowk W3
      have hHeld := hHeld2
      clear hHeld2
      have sk : SliceAt W4 (.slice (some ⟨bk, 0, none⟩) 3 3) S.key3 := Or.inr (Or.inr ⟨bk, 0, 3, rfl, by decide, by decide, zk, fun j hj => by rw [Nat.zero_add]; exact ck j hj⟩)
      have st : SliceAt W4 (.slice (some ⟨bt, 0, none⟩) 43 43) S.fox := Or.inr (Or.inr ⟨bt, 0, 43, rfl, by decide, by decide, zt, fun j hj => by rw [Nat.zero_add]; exact ct j hj⟩)
      rotate_left
      refine AllReadyH.cons (o := { dst := some 11, op := Op.buildSlice 26 43 #[(0, Operand.const (Value.int IntKind.u8 84)), (1, Operand.const (Value.int IntKind.u8 104)), (2, Operand.const (Value.int IntKind.u8 101)), (3, Operand.const (Value.int IntKind.u8 32)), (4, Operand.const (Value.int IntKind.u8 113)), (5, Operand.const (Value.int IntKind.u8 117)), (6, Operand.const (Value.int IntKind.u8 105)), (7, Operand.const (Value.int IntKind.u8 99)), (8, Operand.const (Value.int IntKind.u8 107)), (9, Operand.const (Value.int IntKind.u8 32)), (10, Operand.const (Value.int IntKind.u8 98)), (11, Operand.const (Value.int IntKind.u8 114)), (12, Operand.const (Value.int IntKind.u8 111)), (13, Operand.const (Value.int IntKind.u8 119)), (14, Operand.const (Value.int IntKind.u8 110)), (15, Operand.const (Value.int IntKind.u8 32)), (16, Operand.const (Value.int IntKind.u8 102)), (17, Operand.const (Value.int IntKind.u8 111)), (18, Operand.const (Value.int IntKind.u8 120)), (19, Operand.const (Value.int IntKind.u8 32)), (20, Operand.const (Value.int IntKind.u8 106)), (21, Operand.const (Value.int IntKind.u8 117)), (22, Operand.const (Value.int IntKind.u8 109)), (23, Operand.const (Value.int IntKind.u8 112)), (24, Operand.const (Value.int IntKind.u8 115)), (25, Operand.const (Value.int IntKind.u8 32)), (26, Operand.const (Value.int IntKind.u8 111)), (27, Operand.const (Value.int IntKind.u8 118)), (28, Operand.const (Value.int IntKind.u8 101)), (29, Operand.const (Value.int IntKind.u8 114)), (30, Operand.const (Value.int IntKind.u8 32)), (31, Operand.const (Value.int IntKind.u8 116)), (32, Operand.const (Value.int IntKind.u8 104)), (33, Operand.const (Value.int IntKind.u8 101)), (34, Operand.const (Value.int IntKind.u8 32)), (35, Operand.const (Value.int IntKind.u8 108)), (36, Operand.const (Value.int IntKind.u8 97)), (37, Operand.const (Value.int IntKind.u8 122)), (38, Operand.const (Value.int IntKind.u8 121)), (39, Operand.const (Value.int IntKind.u8 32)), (40, Operand.const (Value.int IntKind.u8 100)), (41, Operand.const (Value.int IntKind.u8 111)), (42, Operand.const (Value.int IntKind.u8 103))], type := 26, pos := "law.go:31", after := #[], guard := none }) rfl (fun K hK => ?_) AllReadyH.nil
      go_simp
      refine hK.out _ _ (heldN_alloc _ hHeld) (fun hHeld2 => ?_)
      clear hK K
      try simp only [Act.put, List.setIfInBounds_toArray, List.set_cons_zero, List.set_cons_succ]
      generalize hW : W0.alloc _ = W1 at *
      have rowt : W1.heap[W0.heap.size]? = some (.cells (S.v8 S.fox) 5 (0, 0)) := by rw [← hW]; exact heap_alloc_new _ _
      have gt : g < W0.heap.size := heldN_lt hHeld
      clear hW hHeld
      have hHeld := hHeld2
      clear hHeld2
      generalize W0.heap.size = bt at *
      clear W0
      refine wpAnyH_ready (rs := [0, 3]) (by kernel_rfl) (by simp) ?_
      refine AllReadyH.cons (o := { dst := some 9, op := Op.buildSlice 26 3 #[(0, Operand.const (Value.int IntKind.u8 107)), (1, Operand.const (Value.int IntKind.u8 101)), (2, Operand.const (Value.int IntKind.u8 121))], type := 26, pos := "law.go:31", after := #[], guard := none }) rfl (fun K hK => ?_) ?_
      go_simp
      refine hK.out _ _ (heldN_alloc _ hHeld) (fun hHeld2 => ?_)
      clear hK K
      try simp only [Act.put, List.setIfInBounds_toArray, List.set_cons_zero, List.set_cons_succ]
      generalize hW : W1.alloc _ = W2 at *
      have rowk : W2.heap[W1.heap.size]? = some (.cells (S.v8 S.key3) 5 (0, 0)) := by rw [← hW]; exact heap_alloc_new _ _
      have gk : g < W1.heap.size := heldN_lt hHeld
      have rowt2 : W2.heap[bt]? = some (.cells (S.v8 S.fox) 5 (0, 0)) := by rw [← hW]; exact (heap_alloc_old _ _ (block_lt_of_row rowt)).trans rowt
      have hne : bt ≠ W1.heap.size := by have := block_lt_of_row rowt; omega
      clear rowt
      have rowt := rowt2
      clear rowt2
      clear hW hHeld
      have hHeld := hHeld2
      clear hHeld2
      generalize W1.heap.size = bk at *
      clear W1
      refine wpAnyH_ready (rs := [1, 3]) (by kernel_rfl) (by simp) ?_
      refine AllReadyH.cons (o := { dst := some 10, op := Op.convert 26 26 (Operand.tmp 9), type := 26, pos := "law.go:31", after := #[{ on := 0, ground := Ground.data }], guard := none }) rfl (fun K hK => ?_) ?_
      have kc := conv_at W2 bk (S.v8 S.key3) 3 3 rowk
      go_simp
      refine hK.out _ _ (heldN_freeze _ _ hHeld gk) (fun hHeld2 => ?_)
      clear hK K kc
      try simp only [Act.put, List.setIfInBounds_toArray, List.set_cons_zero, List.set_cons_succ]
      generalize hW : W2.freeze _ _ = W3 at *
      have ck : ∀ j, j < S.key3.length → W3.cell? ⟨bk, j, none⟩ = some (.int .u8 ((S.key3.getD j 0).toNat : Int)) := fun j hj => by rw [← hW, freeze_cell _ _ _ _ _ _ rowk]; exact (cell_of_row W2 bk j _ _ _ rowk).symm.trans (v8_cell rowk j hj)
      have zk : bk < W3.heap.size := block_lt_of_cell (ck 0 (by decide))
      have rowt2 : W3.heap[bt]? = some (.cells (S.v8 S.fox) 5 (0, 0)) := by rw [← hW, freeze_other _ _ _ _ (by show bt ≠ bk; omega)]; exact rowt
      clear rowt
      have rowt := rowt2
      clear rowt2
      clear hW hHeld rowk W2
      have hHeld := hHeld2
      clear hHeld2
      refine wpAnyH_ready (rs := [3]) (by kernel_rfl) (by simp) ?_
      refine AllReadyH.cons (o := { dst := some 12, op := Op.convert 26 26 (Operand.tmp 11), type := 26, pos := "law.go:31", after := #[{ on := 2, ground := Ground.data }], guard := none }) rfl (fun K hK => ?_) AllReadyH.nil
      have kc := conv_at W3 bt (S.v8 S.fox) 43 43 rowt
      go_simp
      refine hK.out _ _ (heldN_freeze _ _ hHeld gt) (fun hHeld2 => ?_)
      clear hK K kc
      try simp only [Act.put, List.setIfInBounds_toArray, List.set_cons_zero, List.set_cons_succ]
      generalize hW : W3.freeze _ _ = W4 at *
      have ct : ∀ j, j < S.fox.length → W4.cell? ⟨bt, j, none⟩ = some (.int .u8 ((S.fox.getD j 0).toNat : Int)) := fun j hj => by rw [← hW, freeze_cell _ _ _ _ _ _ rowt]; exact (cell_of_row W3 bt j _ _ _ rowt).symm.trans (v8_cell rowt j hj)
      have zt : bt < W4.heap.size := block_lt_of_cell (ct 0 (by decide))
      have ck2 : ∀ j, j < S.key3.length → W4.cell? ⟨bk, j, none⟩ = some (.int .u8 ((S.key3.getD j 0).toNat : Int)) := fun j hj => by rw [← hW, World.cell?_of_block (freeze_other W3 _ _ bk (by show bk ≠ bt; omega))]; exact ck j hj
      clear ck zk
      have ck := ck2
      have zk : bk < W4.heap.size := block_lt_of_cell (ck 0 (by decide))
      clear ck2
      clear hW hHeld rowt W3
      have hHeld := hHeld2
      clear hHeld2
      have sk : SliceAt W4 (.slice (some ⟨bk, 0, none⟩) 3 3) S.key3 := Or.inr (Or.inr ⟨bk, 0, 3, rfl, by decide, by decide, zk, fun j hj => by rw [Nat.zero_add]; exact ck j hj⟩)
      have st : SliceAt W4 (.slice (some ⟨bt, 0, none⟩) 43 43) S.fox := Or.inr (Or.inr ⟨bt, 0, 43, rfl, by decide, by decide, zt, fun j hj => by rw [Nat.zero_add]; exact ct j hj⟩)
      rotate_left
      refine AllReadyH.cons (o := { dst := some 12, op := Op.convert 26 26 (Operand.tmp 11), type := 26, pos := "law.go:31", after := #[{ on := 2, ground := Ground.data }], guard := none }) rfl (fun K hK => ?_) AllReadyH.nil
      have kc := conv_at W2 bt (S.v8 S.fox) 43 43 rowt
      go_simp
      refine hK.out _ _ (heldN_freeze _ _ hHeld gt) (fun hHeld2 => ?_)
      clear hK K kc
      try simp only [Act.put, List.setIfInBounds_toArray, List.set_cons_zero, List.set_cons_succ]
      generalize hW : W2.freeze _ _ = W3 at *
      have ct : ∀ j, j < S.fox.length → W3.cell? ⟨bt, j, none⟩ = some (.int .u8 ((S.fox.getD j 0).toNat : Int)) := fun j hj => by rw [← hW, freeze_cell _ _ _ _ _ _ rowt]; exact (cell_of_row W2 bt j _ _ _ rowt).symm.trans (v8_cell rowt j hj)
      have zt : bt < W3.heap.size := block_lt_of_cell (ct 0 (by decide))
      have rowk2 : W3.heap[bk]? = some (.cells (S.v8 S.key3) 5 (0, 0)) := by rw [← hW, freeze_other _ _ _ _ (by show bk ≠ bt; omega)]; exact rowk
      clear rowk
      have rowk := rowk2
      clear rowk2
      clear hW hHeld rowt W2
      have hHeld := hHeld2
      clear hHeld2
      refine wpAnyH_ready (rs := [1]) (by kernel_rfl) (by simp) ?_
      refine AllReadyH.cons (o := { dst := some 10, op := Op.convert 26 26 (Operand.tmp 9), type := 26, pos := "law.go:31", after := #[{ on := 0, ground := Ground.data }], guard := none }) rfl (fun K hK => ?_) AllReadyH.nil
      have kc := conv_at W3 bk (S.v8 S.key3) 3 3 rowk
      go_simp
      refine hK.out _ _ (heldN_freeze _ _ hHeld gk) (fun hHeld2 => ?_)
      clear hK K kc
      try simp only [Act.put, List.setIfInBounds_toArray, List.set_cons_zero, List.set_cons_succ]
      generalize hW : W3.freeze _ _ = W4 at *
      have ck : ∀ j, j < S.key3.length → W4.cell? ⟨bk, j, none⟩ = some (.int .u8 ((S.key3.getD j 0).toNat : Int)) := fun j hj => by rw [← hW, freeze_cell _ _ _ _ _ _ rowk]; exact (cell_of_row W3 bk j _ _ _ rowk).symm.trans (v8_cell rowk j hj)
      have zk : bk < W4.heap.size := block_lt_of_cell (ck 0 (by decide))
      have ct2 : ∀ j, j < S.fox.length → W4.cell? ⟨bt, j, none⟩ = some (.int .u8 ((S.fox.getD j 0).toNat : Int)) := fun j hj => by rw [← hW, World.cell?_of_block (freeze_other W3 _ _ bt (by show bt ≠ bk; omega))]; exact ct j hj
      clear ct zt
      have ct := ct2
      have zt : bt < W4.heap.size := block_lt_of_cell (ct 0 (by decide))
      clear ct2
      clear hW hHeld rowk W3
      have hHeld := hHeld2
      clear hHeld2
      have sk : SliceAt W4 (.slice (some ⟨bk, 0, none⟩) 3 3) S.key3 := Or.inr (Or.inr ⟨bk, 0, 3, rfl, by decide, by decide, zk, fun j hj => by rw [Nat.zero_add]; exact ck j hj⟩)
      have st : SliceAt W4 (.slice (some ⟨bt, 0, none⟩) 43 43) S.fox := Or.inr (Or.inr ⟨bt, 0, 43, rfl, by decide, by decide, zt, fun j hj => by rw [Nat.zero_add]; exact ct j hj⟩)
      rotate_left
      refine AllReadyH.cons (o := { dst := some 12, op := Op.convert 26 26 (Operand.tmp 11), type := 26, pos := "law.go:31", after := #[{ on := 2, ground := Ground.data }], guard := none }) rfl (fun K hK => ?_) AllReadyH.nil
      have kc := conv_at W1 bt (S.v8 S.fox) 43 43 rowt
      go_simp
      refine hK.out _ _ (heldN_freeze _ _ hHeld gt) (fun hHeld2 => ?_)
      clear hK K kc
      try simp only [Act.put, List.setIfInBounds_toArray, List.set_cons_zero, List.set_cons_succ]
      generalize hW : W1.freeze _ _ = W2 at *
      have ct : ∀ j, j < S.fox.length → W2.cell? ⟨bt, j, none⟩ = some (.int .u8 ((S.fox.getD j 0).toNat : Int)) := fun j hj => by rw [← hW, freeze_cell _ _ _ _ _ _ rowt]; exact (cell_of_row W1 bt j _ _ _ rowt).symm.trans (v8_cell rowt j hj)
      have zt : bt < W2.heap.size := block_lt_of_cell (ct 0 (by decide))
      clear hW hHeld rowt W1
      have hHeld := hHeld2
      clear hHeld2
      refine wpAnyH_ready (rs := [0]) (by kernel_rfl) (by simp) ?_
      refine AllReadyH.cons (o := { dst := some 9, op := Op.buildSlice 26 3 #[(0, Operand.const (Value.int IntKind.u8 107)), (1, Operand.const (Value.int IntKind.u8 101)), (2, Operand.const (Value.int IntKind.u8 121))], type := 26, pos := "law.go:31", after := #[], guard := none }) rfl (fun K hK => ?_) AllReadyH.nil
      go_simp
      refine hK.out _ _ (heldN_alloc _ hHeld) (fun hHeld2 => ?_)
      clear hK K
      try simp only [Act.put, List.setIfInBounds_toArray, List.set_cons_zero, List.set_cons_succ]
      generalize hW : W2.alloc _ = W3 at *
      have rowk : W3.heap[W2.heap.size]? = some (.cells (S.v8 S.key3) 5 (0, 0)) := by rw [← hW]; exact heap_alloc_new _ _
      have gk : g < W2.heap.size := heldN_lt hHeld
      have ct2 : ∀ j, j < S.fox.length → W3.cell? ⟨bt, j, none⟩ = some (.int .u8 ((S.fox.getD j 0).toNat : Int)) := fun j hj => by rw [← hW, World.cell?_alloc_past _ _ _ zt]; exact ct j hj
      have zt2 : bt < W3.heap.size := by rw [← hW]; simp; omega
      have hne : bt ≠ W2.heap.size := by omega
      clear ct zt
      have ct := ct2
      have zt := zt2
      clear ct2 zt2
      clear hW hHeld
      have hHeld := hHeld2
      clear hHeld2
      generalize W2.heap.size = bk at *
      clear W2
      refine wpAnyH_ready (rs := [1]) (by kernel_rfl) (by simp) ?_
      refine AllReadyH.cons (o := { dst := some 10, op := Op.convert 26 26 (Operand.tmp 9), type := 26, pos := "law.go:31", after := #[{ on := 0, ground := Ground.data }], guard := none }) rfl (fun K hK => ?_) AllReadyH.nil
      have kc := conv_at W3 bk (S.v8 S.key3) 3 3 rowk
      go_simp
      refine hK.out _ _ (heldN_freeze _ _ hHeld gk) (fun hHeld2 => ?_)
      clear hK K kc
      try simp only [Act.put, List.setIfInBounds_toArray, List.set_cons_zero, List.set_cons_succ]
      generalize hW : W3.freeze _ _ = W4 at *
      have ck : ∀ j, j < S.key3.length → W4.cell? ⟨bk, j, none⟩ = some (.int .u8 ((S.key3.getD j 0).toNat : Int)) := fun j hj => by rw [← hW, freeze_cell _ _ _ _ _ _ rowk]; exact (cell_of_row W3 bk j _ _ _ rowk).symm.trans (v8_cell rowk j hj)
      have zk : bk < W4.heap.size := block_lt_of_cell (ck 0 (by decide))
      have ct2 : ∀ j, j < S.fox.length → W4.cell? ⟨bt, j, none⟩ = some (.int .u8 ((S.fox.getD j 0).toNat : Int)) := fun j hj => by rw [← hW, World.cell?_of_block (freeze_other W3 _ _ bt (by show bt ≠ bk; omega))]; exact ct j hj
      clear ct zt
      have ct := ct2
      have zt : bt < W4.heap.size := block_lt_of_cell (ct 0 (by decide))
      clear ct2
      clear hW hHeld rowk W3
      have hHeld := hHeld2
      clear hHeld2
      have sk : SliceAt W4 (.slice (some ⟨bk, 0, none⟩) 3 3) S.key3 := Or.inr (Or.inr ⟨bk, 0, 3, rfl, by decide, by decide, zk, fun j hj => by rw [Nat.zero_add]; exact ck j hj⟩)
      have st : SliceAt W4 (.slice (some ⟨bt, 0, none⟩) 43 43) S.fox := Or.inr (Or.inr ⟨bt, 0, 43, rfl, by decide, by decide, zt, fun j hj => by rw [Nat.zero_add]; exact ct j hj⟩)
      rotate_left

      all_goals
        refine wpAnyH_ready (rs := [4]) (by kernel_rfl) (by simp) ?_
        refine AllReadyH.cons (o := { dst := some 13, op := Op.call { callee := Callee.value (Operand.func 10), args := #[Operand.tmp 10, Operand.tmp 12], argTypes := #[26, 26] }, type := 23, pos := "law.go:31", after := #[{ on := 1, ground := Ground.data }, { on := 3, ground := Ground.data }], guard := none }) rfl (fun K hK => ?_) AllReadyH.nil
        go_simp
        refine (Mac_any _ S.key3 _ S.fox _ sk st (heldN_K hHeld)).mono ?_
        rintro e w2 ⟨rfl, hbx⟩
        have hk := heldN_below hHeld hbx
        clear hbx hHeld
        go_wp2_with fail
        refine hK.out _ _ hk (fun hHeld => ?_)
        clear hK K hk
        try simp only [Act.put, List.setIfInBounds_toArray, List.set_cons_zero, List.set_cons_succ]
        clear sk st ck ct zk zt
        refine wpAnyH_ready (rs := [5]) (by kernel_rfl) (by simp) ?_
        refine AllReadyH.cons (o := { dst := some 14, op := Op.call { callee := Callee.value (Operand.func 9), args := #[Operand.tmp 13], argTypes := #[23] }, type := 9, pos := "law.go:31", after := #[{ on := 4, ground := Ground.data }, { on := 4, ground := Ground.chain }], guard := none }) rfl (fun K hK => ?_) AllReadyH.nil
        go_simp
        refine (hex_any (S.mac S.key3 S.fox) (S.mac_length _ _) _).mono ?_
        rintro e w2 ⟨rfl, hbx⟩
        have hk := heldN_below hHeld hbx
        clear hbx hHeld
        go_wp2_with fail
        refine hK.out _ _ hk (fun hHeld => ?_)
        clear hK K hk
        try simp only [Act.put, List.setIfInBounds_toArray, List.set_cons_zero, List.set_cons_succ]
        refine wpAnyH_take (i := 6) (oi := { dst := some 15, op := Op.binOp BinOp.eql 9 (Operand.tmp 14) (Operand.const (Value.string { data := #[102, 55, 98, 99, 56, 51, 102, 52, 51, 48, 53, 51, 56, 52, 50, 52, 98, 49, 51, 50, 57, 56, 101, 54, 97, 97, 54, 102, 98, 49, 52, 51, 101, 102, 52, 100, 53, 57, 97, 49, 52, 57, 52, 54, 49, 55, 53, 57, 57, 55, 52, 55, 57, 100, 98, 99, 50, 100, 49, 97, 51, 99, 100, 56] })) 9, type := 4, pos := "law.go:31", after := #[{ on := 5, ground := Ground.data }], guard := none }) (v := ?_) rfl (by kernel_rfl) (by kernel_rfl) (by kernel_rfl) (fun _ _ _ h => h) (Or.inl ⟨by rfl, ?_⟩) (by assumption) ?_
        rotate_left
        · intro w hSw
          clear hSw
          go_simp
          all_goals with_reducible rfl
        simp only [Act.put, List.setIfInBounds_toArray, List.set_cons_zero, List.set_cons_succ]
        refine wpAnyH_take (i := 7) (oi := { dst := some 16, op := Op.move (Operand.tmp 15), type := 4, pos := "law.go:31", after := #[{ on := 6, ground := Ground.data }, { on := 5, ground := Ground.chain }], guard := none }) (v := ?_) rfl (by kernel_rfl) (by kernel_rfl) (by kernel_rfl) (fun _ _ _ h => h) (Or.inl ⟨by rfl, ?_⟩) (by assumption) ?_
        rotate_left
        · intro w hSw
          clear hSw
          go_simp
          all_goals with_reducible rfl
        simp only [Act.put, List.setIfInBounds_toArray, List.set_cons_zero, List.set_cons_succ]
        refine wpAnyH_take (i := 8) (oi := { dst := some 17, op := Op.load 23 (Operand.tmp 1), type := 23, pos := "law.go:31", after := #[{ on := 7, ground := Ground.guard }], guard := some (7, true) }) (v := .agg cs.toArray) rfl (by kernel_rfl) (by kernel_rfl) (by kernel_rfl) (fun _ _ _ h => h) (yieldsIf_load_mid (by rfl) _ _ rfl g 0 rfl cs _ (fun _ hSw => hSw.1) hu rfl hi) (by assumption) ?_
        simp only [Act.put, List.setIfInBounds_toArray, List.set_cons_zero, List.set_cons_succ]
        refine wpAnyH_take (i := 10) (oi := { dst := some 19, op := Op.build 23 #[(0, Operand.const (Value.int IntKind.u8 255)), (1, Operand.const (Value.int IntKind.u8 255))], type := 23, pos := "law.go:31", after := #[{ on := 7, ground := Ground.guard }], guard := some (7, true) }) (v := .agg (S.v8 S.two)) rfl (by kernel_rfl) (by kernel_rfl) (by kernel_rfl) (fun _ _ _ h => h) (yieldsIf_build (by rfl) _ _ rfl (S.v8 S.two) (by kernel_rfl)) (by assumption) ?_
        simp only [Act.put, List.setIfInBounds_toArray, List.set_cons_zero, List.set_cons_succ]
        refine wpAnyH_ready (rs := [9]) (by kernel_rfl) (by simp) ?_
        refine AllReadyH.cons (o := { dst := some 18, op := Op.call { callee := Callee.value (Operand.func 11), args := #[Operand.tmp 17, Operand.const (Value.int IntKind.i64 2)], argTypes := #[23, 3] }, type := 23, pos := "law.go:31", after := #[{ on := 8, ground := Ground.data }, { on := 7, ground := Ground.chain }, { on := 7, ground := Ground.guard }], guard := some (7, true) }) rfl (fun K hK => ?_) AllReadyH.nil
        go_simp
        refine ((cutN cs ones HCS hl _).1).mono ?_
        rintro e w2 ⟨rfl, hbx⟩
        have hk := heldN_below hHeld hbx
        clear hbx hHeld
        go_wp2_with fail
        refine hK.out _ _ hk (fun hHeld => ?_)
        clear hK K hk
        try simp only [Act.put, List.setIfInBounds_toArray, List.set_cons_zero, List.set_cons_succ]
        refine wpAnyH_take (i := 11) (oi := { dst := some 20, op := Op.binOp BinOp.eql 23 (Operand.tmp 18) (Operand.tmp 19) 23, type := 4, pos := "law.go:31", after := #[{ on := 9, ground := Ground.data }, { on := 10, ground := Ground.data }, { on := 7, ground := Ground.guard }], guard := some (7, true) }) (v := ?_) rfl (by kernel_rfl) (by kernel_rfl) (by kernel_rfl) (fun _ _ _ h => h) (Or.inl ⟨by rfl, ?_⟩) (by assumption) ?_
        rotate_left
        · intro w hSw
          clear hSw
          go_simp
          all_goals with_reducible rfl
        simp only [Act.put, List.setIfInBounds_toArray, List.set_cons_zero, List.set_cons_succ]
        refine wpAnyH_take (i := 12) (oi := { dst := some 21, op := Op.pick (Operand.tmp 16) (Operand.tmp 20) (Operand.const (Value.bool false)), type := 4, pos := "law.go:31", after := #[{ on := 7, ground := Ground.data }, { on := 11, ground := Ground.data }], guard := none }) (v := ?_) rfl (by kernel_rfl) (by kernel_rfl) (by kernel_rfl) (fun _ _ _ h => h) (Or.inl ⟨by rfl, ?_⟩) (by assumption) ?_
        rotate_left
        · intro w hSw
          clear hSw
          go_simp
          all_goals with_reducible rfl
        simp only [Act.put, List.setIfInBounds_toArray, List.set_cons_zero, List.set_cons_succ]
        refine wpAnyH_take (i := 13) (oi := { dst := some 22, op := Op.move (Operand.tmp 21), type := 4, pos := "law.go:31", after := #[{ on := 12, ground := Ground.data }, { on := 9, ground := Ground.chain }], guard := none }) (v := ?_) rfl (by kernel_rfl) (by kernel_rfl) (by kernel_rfl) (fun _ _ _ h => h) (Or.inl ⟨by rfl, ?_⟩) (by assumption) ?_
        rotate_left
        · intro w hSw
          clear hSw
          go_simp
          all_goals with_reducible rfl
        simp only [Act.put, List.setIfInBounds_toArray, List.set_cons_zero, List.set_cons_succ]
        refine wpAnyH_take (i := 14) (oi := { dst := some 23, op := Op.load 23 (Operand.tmp 1), type := 23, pos := "law.go:31", after := #[{ on := 13, ground := Ground.guard }], guard := some (13, true) }) (v := .agg cs.toArray) rfl (by kernel_rfl) (by kernel_rfl) (by kernel_rfl) (fun _ _ _ h => h) (yieldsIf_load_mid (by rfl) _ _ rfl g 0 rfl cs _ (fun _ hSw => hSw.1) hu rfl hi) (by assumption) ?_
        simp only [Act.put, List.setIfInBounds_toArray, List.set_cons_zero, List.set_cons_succ]
        refine wpAnyH_take (i := 16) (oi := { dst := some 25, op := Op.build 23 #[], type := 23, pos := "law.go:31", after := #[{ on := 13, ground := Ground.guard }], guard := some (13, true) }) (v := .agg (S.v8 (S.zeros 32))) rfl (by kernel_rfl) (by kernel_rfl) (by kernel_rfl) (fun _ _ _ h => h) (yieldsIf_build (by rfl) _ _ rfl (S.v8 (S.zeros 32)) (by kernel_rfl)) (by assumption) ?_
        simp only [Act.put, List.setIfInBounds_toArray, List.set_cons_zero, List.set_cons_succ]
        refine wpAnyH_ready (rs := [15]) (by kernel_rfl) (by simp) ?_
        refine AllReadyH.cons (o := { dst := some 24, op := Op.call { callee := Callee.value (Operand.func 11), args := #[Operand.tmp 23, Operand.const (Value.int IntKind.i64 0)], argTypes := #[23, 3] }, type := 23, pos := "law.go:31", after := #[{ on := 14, ground := Ground.data }, { on := 13, ground := Ground.chain }, { on := 13, ground := Ground.guard }], guard := some (13, true) }) rfl (fun K hK => ?_) AllReadyH.nil
        go_simp
        refine ((cutN cs ones HCS hl _).2.1).mono ?_
        rintro e w2 ⟨rfl, hbx⟩
        have hk := heldN_below hHeld hbx
        clear hbx hHeld
        go_wp2_with fail
        refine hK.out _ _ hk (fun hHeld => ?_)
        clear hK K hk
        try simp only [Act.put, List.setIfInBounds_toArray, List.set_cons_zero, List.set_cons_succ]
        refine wpAnyH_take (i := 17) (oi := { dst := some 26, op := Op.binOp BinOp.eql 23 (Operand.tmp 24) (Operand.tmp 25) 23, type := 4, pos := "law.go:31", after := #[{ on := 15, ground := Ground.data }, { on := 16, ground := Ground.data }, { on := 13, ground := Ground.guard }], guard := some (13, true) }) (v := ?_) rfl (by kernel_rfl) (by kernel_rfl) (by kernel_rfl) (fun _ _ _ h => h) (Or.inl ⟨by rfl, ?_⟩) (by assumption) ?_
        rotate_left
        · intro w hSw
          clear hSw
          go_simp
          all_goals with_reducible rfl
        simp only [Act.put, List.setIfInBounds_toArray, List.set_cons_zero, List.set_cons_succ]
        refine wpAnyH_take (i := 18) (oi := { dst := some 27, op := Op.pick (Operand.tmp 22) (Operand.tmp 26) (Operand.const (Value.bool false)), type := 4, pos := "law.go:31", after := #[{ on := 13, ground := Ground.data }, { on := 17, ground := Ground.data }], guard := none }) (v := ?_) rfl (by kernel_rfl) (by kernel_rfl) (by kernel_rfl) (fun _ _ _ h => h) (Or.inl ⟨by rfl, ?_⟩) (by assumption) ?_
        rotate_left
        · intro w hSw
          clear hSw
          go_simp
          all_goals with_reducible rfl
        simp only [Act.put, List.setIfInBounds_toArray, List.set_cons_zero, List.set_cons_succ]
        refine wpAnyH_take (i := 19) (oi := { dst := some 28, op := Op.move (Operand.tmp 27), type := 4, pos := "law.go:31", after := #[{ on := 18, ground := Ground.data }, { on := 15, ground := Ground.chain }], guard := none }) (v := ?_) rfl (by kernel_rfl) (by kernel_rfl) (by kernel_rfl) (fun _ _ _ h => h) (Or.inl ⟨by rfl, ?_⟩) (by assumption) ?_
        rotate_left
        · intro w hSw
          clear hSw
          go_simp
          all_goals with_reducible rfl
        simp only [Act.put, List.setIfInBounds_toArray, List.set_cons_zero, List.set_cons_succ]
        refine wpAnyH_take (i := 20) (oi := { dst := some 29, op := Op.load 23 (Operand.tmp 1), type := 23, pos := "law.go:31", after := #[{ on := 19, ground := Ground.guard }], guard := some (19, true) }) (v := .agg cs.toArray) rfl (by kernel_rfl) (by kernel_rfl) (by kernel_rfl) (fun _ _ _ h => h) (yieldsIf_load_mid (by rfl) _ _ rfl g 0 rfl cs _ (fun _ hSw => hSw.1) hu rfl hi) (by assumption) ?_
        simp only [Act.put, List.setIfInBounds_toArray, List.set_cons_zero, List.set_cons_succ]
        refine wpAnyH_take (i := 22) (oi := { dst := some 31, op := Op.build 23 #[], type := 23, pos := "law.go:31", after := #[{ on := 19, ground := Ground.guard }], guard := some (19, true) }) (v := .agg (S.v8 (S.zeros 32))) rfl (by kernel_rfl) (by kernel_rfl) (by kernel_rfl) (fun _ _ _ h => h) (yieldsIf_build (by rfl) _ _ rfl (S.v8 (S.zeros 32)) (by kernel_rfl)) (by assumption) ?_
        simp only [Act.put, List.setIfInBounds_toArray, List.set_cons_zero, List.set_cons_succ]
        refine wpAnyH_ready (rs := [21]) (by kernel_rfl) (by simp) ?_
        refine AllReadyH.cons (o := { dst := some 30, op := Op.call { callee := Callee.value (Operand.func 11), args := #[Operand.tmp 29, Operand.const (Value.int IntKind.i64 (-1))], argTypes := #[23, 3] }, type := 23, pos := "law.go:31", after := #[{ on := 20, ground := Ground.data }, { on := 19, ground := Ground.chain }, { on := 19, ground := Ground.guard }], guard := some (19, true) }) rfl (fun K hK => ?_) AllReadyH.nil
        go_simp
        refine ((cutN cs ones HCS hl _).2.2.1).mono ?_
        rintro e w2 ⟨rfl, hbx⟩
        have hk := heldN_below hHeld hbx
        clear hbx hHeld
        go_wp2_with fail
        refine hK.out _ _ hk (fun hHeld => ?_)
        clear hK K hk
        try simp only [Act.put, List.setIfInBounds_toArray, List.set_cons_zero, List.set_cons_succ]
        refine wpAnyH_take (i := 23) (oi := { dst := some 32, op := Op.binOp BinOp.eql 23 (Operand.tmp 30) (Operand.tmp 31) 23, type := 4, pos := "law.go:31", after := #[{ on := 21, ground := Ground.data }, { on := 22, ground := Ground.data }, { on := 19, ground := Ground.guard }], guard := some (19, true) }) (v := ?_) rfl (by kernel_rfl) (by kernel_rfl) (by kernel_rfl) (fun _ _ _ h => h) (Or.inl ⟨by rfl, ?_⟩) (by assumption) ?_
        rotate_left
        · intro w hSw
          clear hSw
          go_simp
          all_goals with_reducible rfl
        simp only [Act.put, List.setIfInBounds_toArray, List.set_cons_zero, List.set_cons_succ]
        refine wpAnyH_take (i := 24) (oi := { dst := some 33, op := Op.pick (Operand.tmp 28) (Operand.tmp 32) (Operand.const (Value.bool false)), type := 4, pos := "law.go:31", after := #[{ on := 19, ground := Ground.data }, { on := 23, ground := Ground.data }], guard := none }) (v := ?_) rfl (by kernel_rfl) (by kernel_rfl) (by kernel_rfl) (fun _ _ _ h => h) (Or.inl ⟨by rfl, ?_⟩) (by assumption) ?_
        rotate_left
        · intro w hSw
          clear hSw
          go_simp
          all_goals with_reducible rfl
        simp only [Act.put, List.setIfInBounds_toArray, List.set_cons_zero, List.set_cons_succ]
        refine wpAnyH_take (i := 25) (oi := { dst := some 34, op := Op.move (Operand.tmp 33), type := 4, pos := "law.go:31", after := #[{ on := 24, ground := Ground.data }, { on := 21, ground := Ground.chain }], guard := none }) (v := ?_) rfl (by kernel_rfl) (by kernel_rfl) (by kernel_rfl) (fun _ _ _ h => h) (Or.inl ⟨by rfl, ?_⟩) (by assumption) ?_
        rotate_left
        · intro w hSw
          clear hSw
          go_simp
          all_goals with_reducible rfl
        simp only [Act.put, List.setIfInBounds_toArray, List.set_cons_zero, List.set_cons_succ]
        refine wpAnyH_take (i := 26) (oi := { dst := some 35, op := Op.load 23 (Operand.tmp 1), type := 23, pos := "law.go:31", after := #[{ on := 25, ground := Ground.guard }], guard := some (25, true) }) (v := .agg cs.toArray) rfl (by kernel_rfl) (by kernel_rfl) (by kernel_rfl) (fun _ _ _ h => h) (yieldsIf_load_mid (by rfl) _ _ rfl g 0 rfl cs _ (fun _ hSw => hSw.1) hu rfl hi) (by assumption) ?_
        simp only [Act.put, List.setIfInBounds_toArray, List.set_cons_zero, List.set_cons_succ]
        refine wpAnyH_take (i := 28) (oi := { dst := some 37, op := Op.load 23 (Operand.tmp 1), type := 23, pos := "law.go:31", after := #[{ on := 25, ground := Ground.guard }], guard := some (25, true) }) (v := .agg cs.toArray) rfl (by kernel_rfl) (by kernel_rfl) (by kernel_rfl) (fun _ _ _ h => h) (yieldsIf_load_mid (by rfl) _ _ rfl g 0 rfl cs _ (fun _ hSw => hSw.1) hu rfl hi) (by assumption) ?_
        simp only [Act.put, List.setIfInBounds_toArray, List.set_cons_zero, List.set_cons_succ]
        refine wpAnyH_ready (rs := [27]) (by kernel_rfl) (by simp) ?_
        refine AllReadyH.cons (o := { dst := some 36, op := Op.call { callee := Callee.value (Operand.func 11), args := #[Operand.tmp 35, Operand.const (Value.int IntKind.i64 40)], argTypes := #[23, 3] }, type := 23, pos := "law.go:31", after := #[{ on := 26, ground := Ground.data }, { on := 25, ground := Ground.chain }, { on := 25, ground := Ground.guard }], guard := some (25, true) }) rfl (fun K hK => ?_) AllReadyH.nil
        go_simp
        refine ((cutN cs ones HCS hl _).2.2.2).mono ?_
        rintro e w2 ⟨rfl, hbx⟩
        have hk := heldN_below hHeld hbx
        clear hbx hHeld
        go_wp2_with fail
        refine hK.out _ _ hk (fun hHeld => ?_)
        clear hK K hk
        try simp only [Act.put, List.setIfInBounds_toArray, List.set_cons_zero, List.set_cons_succ]
        refine wpAnyH_take (i := 29) (oi := { dst := some 38, op := Op.binOp BinOp.eql 23 (Operand.tmp 36) (Operand.tmp 37) 23, type := 4, pos := "law.go:31", after := #[{ on := 27, ground := Ground.data }, { on := 28, ground := Ground.data }, { on := 25, ground := Ground.guard }], guard := some (25, true) }) (v := ?_) rfl (by kernel_rfl) (by kernel_rfl) (by kernel_rfl) (fun _ _ _ h => h) (Or.inl ⟨by rfl, ?_⟩) (by assumption) ?_
        rotate_left
        · intro w hSw
          clear hSw
          go_simp
          all_goals with_reducible rfl
        simp only [Act.put, List.setIfInBounds_toArray, List.set_cons_zero, List.set_cons_succ]
        refine wpAnyH_take (i := 30) (oi := { dst := some 39, op := Op.pick (Operand.tmp 34) (Operand.tmp 38) (Operand.const (Value.bool false)), type := 4, pos := "law.go:31", after := #[{ on := 25, ground := Ground.data }, { on := 29, ground := Ground.data }], guard := none }) (v := ?_) rfl (by kernel_rfl) (by kernel_rfl) (by kernel_rfl) (fun _ _ _ h => h) (Or.inl ⟨by rfl, ?_⟩) (by assumption) ?_
        rotate_left
        · intro w hSw
          clear hSw
          go_simp
          all_goals with_reducible rfl
        simp only [Act.put, List.setIfInBounds_toArray, List.set_cons_zero, List.set_cons_succ]
        refine wpAnyH_take (i := 31) (oi := { dst := some 40, op := Op.move (Operand.tmp 39), type := 4, pos := "law.go:31", after := #[{ on := 30, ground := Ground.data }, { on := 27, ground := Ground.chain }], guard := none }) (v := ?_) rfl (by kernel_rfl) (by kernel_rfl) (by kernel_rfl) (fun _ _ _ h => h) (Or.inl ⟨by rfl, ?_⟩) (by assumption) ?_
        rotate_left
        · intro w hSw
          clear hSw
          go_simp
          all_goals with_reducible rfl
        simp only [Act.put, List.setIfInBounds_toArray, List.set_cons_zero, List.set_cons_succ]
        refine wpAnyH_ready (rs := [32]) (by kernel_rfl) (by simp) ?_
        refine AllReadyH.cons (o := { dst := some 41, op := Op.call { callee := Callee.value (Operand.func 12), args := #[Operand.const (Value.slice none 0 0)], argTypes := #[38] }, type := 26, pos := "law.go:31", after := #[{ on := 31, ground := Ground.chain }, { on := 31, ground := Ground.guard }], guard := some (31, true) }) rfl (fun K hK => ?_) AllReadyH.nil
        go_simp
        refine (join_none _).mono ?_
        rintro e w2 ⟨rfl, hbx⟩
        have hk := heldN_below hHeld hbx
        clear hbx hHeld
        go_wp2_with fail
        refine hK.out _ _ hk (fun hHeld => ?_)
        clear hK K hk
        try simp only [Act.put, List.setIfInBounds_toArray, List.set_cons_zero, List.set_cons_succ]
        refine wpAnyH_take (i := 33) (oi := { dst := some 42, op := Op.call { callee := Callee.builtin Builtin.len, args := #[Operand.tmp 41], argTypes := #[26] }, type := 3, pos := "law.go:31", after := #[{ on := 32, ground := Ground.data }, { on := 31, ground := Ground.guard }], guard := some (31, true) }) (v := ?_) rfl (by kernel_rfl) (by kernel_rfl) (by kernel_rfl) (fun _ _ _ h => h) (Or.inl ⟨by rfl, ?_⟩) (by assumption) ?_
        rotate_left
        · intro w hSw
          clear hSw
          go_simp
          all_goals with_reducible rfl
        simp only [Act.put, List.setIfInBounds_toArray, List.set_cons_zero, List.set_cons_succ]
        refine wpAnyH_take (i := 34) (oi := { dst := some 43, op := Op.binOp BinOp.eql 3 (Operand.tmp 42) (Operand.const (Value.int IntKind.i64 0)) 3, type := 4, pos := "law.go:31", after := #[{ on := 33, ground := Ground.data }, { on := 31, ground := Ground.guard }], guard := some (31, true) }) (v := ?_) rfl (by kernel_rfl) (by kernel_rfl) (by kernel_rfl) (fun _ _ _ h => h) (Or.inl ⟨by rfl, ?_⟩) (by assumption) ?_
        rotate_left
        · intro w hSw
          clear hSw
          go_simp
          all_goals with_reducible rfl
        simp only [Act.put, List.setIfInBounds_toArray, List.set_cons_zero, List.set_cons_succ]
        refine wpAnyH_take (i := 35) (oi := { dst := some 44, op := Op.pick (Operand.tmp 40) (Operand.tmp 43) (Operand.const (Value.bool false)), type := 4, pos := "law.go:31", after := #[{ on := 31, ground := Ground.data }, { on := 34, ground := Ground.data }], guard := none }) (v := ?_) rfl (by kernel_rfl) (by kernel_rfl) (by kernel_rfl) (fun _ _ _ h => h) (Or.inl ⟨by rfl, ?_⟩) (by assumption) ?_
        rotate_left
        · intro w hSw
          clear hSw
          go_simp
          all_goals with_reducible rfl
        simp only [Act.put, List.setIfInBounds_toArray, List.set_cons_zero, List.set_cons_succ]
        refine wpAnyH_take (i := 36) (oi := { dst := some 45, op := Op.move (Operand.tmp 44), type := 4, pos := "law.go:31", after := #[{ on := 35, ground := Ground.data }, { on := 32, ground := Ground.chain }], guard := none }) (v := ?_) rfl (by kernel_rfl) (by kernel_rfl) (by kernel_rfl) (fun _ _ _ h => h) (Or.inl ⟨by rfl, ?_⟩) (by assumption) ?_
        rotate_left
        · intro w hSw
          clear hSw
          go_simp
          all_goals with_reducible rfl
        simp only [Act.put, List.setIfInBounds_toArray, List.set_cons_zero, List.set_cons_succ]
        refine wpAnyH_ready (rs := [37]) (by kernel_rfl) (by simp) ?_
        refine AllReadyH.cons (o := { dst := some 46, op := Op.call { callee := Callee.value (Operand.func 13), args := #[], argTypes := #[] }, type := 4, pos := "law.go:31", after := #[{ on := 36, ground := Ground.chain }, { on := 36, ground := Ground.guard }], guard := some (36, true) }) rfl (fun K hK => ?_) AllReadyH.nil
        go_simp
        refine (known_any _ (heldN_K hHeld)).mono ?_
        rintro e w2 ⟨rfl, hbx⟩
        have hk := heldN_below hHeld hbx
        clear hbx hHeld
        go_wp2_with fail
        refine hK.out _ _ hk (fun hHeld => ?_)
        clear hK K hk
        try simp only [Act.put, List.setIfInBounds_toArray, List.set_cons_zero, List.set_cons_succ]
        refine wpAnyH_take (i := 38) (oi := { dst := some 47, op := Op.pick (Operand.tmp 45) (Operand.tmp 46) (Operand.const (Value.bool false)), type := 4, pos := "law.go:31", after := #[{ on := 36, ground := Ground.data }, { on := 37, ground := Ground.data }], guard := none }) (v := ?_) rfl (by kernel_rfl) (by kernel_rfl) (by kernel_rfl) (fun _ _ _ h => h) (Or.inl ⟨by rfl, ?_⟩) (by assumption) ?_
        rotate_left
        · intro w hSw
          clear hSw
          go_simp
          all_goals with_reducible rfl
        simp only [Act.put, List.setIfInBounds_toArray, List.set_cons_zero, List.set_cons_succ]
        refine wpAnyH_take (i := 39) (oi := { dst := some 0, op := Op.assign (Operand.tmp 47), type := 4, pos := "law.go:31", after := #[{ on := 38, ground := Ground.data }, { on := 37, ground := Ground.chain }, { on := 0, ground := Ground.phase }, { on := 1, ground := Ground.phase }, { on := 2, ground := Ground.phase }, { on := 3, ground := Ground.phase }, { on := 4, ground := Ground.phase }, { on := 5, ground := Ground.phase }, { on := 6, ground := Ground.phase }, { on := 7, ground := Ground.phase }, { on := 8, ground := Ground.phase }, { on := 9, ground := Ground.phase }, { on := 10, ground := Ground.phase }, { on := 11, ground := Ground.phase }, { on := 12, ground := Ground.phase }, { on := 13, ground := Ground.phase }, { on := 14, ground := Ground.phase }, { on := 15, ground := Ground.phase }, { on := 16, ground := Ground.phase }, { on := 17, ground := Ground.phase }, { on := 18, ground := Ground.phase }, { on := 19, ground := Ground.phase }, { on := 20, ground := Ground.phase }, { on := 21, ground := Ground.phase }, { on := 22, ground := Ground.phase }, { on := 23, ground := Ground.phase }, { on := 24, ground := Ground.phase }, { on := 25, ground := Ground.phase }, { on := 26, ground := Ground.phase }, { on := 27, ground := Ground.phase }, { on := 28, ground := Ground.phase }, { on := 29, ground := Ground.phase }, { on := 30, ground := Ground.phase }, { on := 31, ground := Ground.phase }, { on := 32, ground := Ground.phase }, { on := 33, ground := Ground.phase }, { on := 34, ground := Ground.phase }, { on := 35, ground := Ground.phase }, { on := 36, ground := Ground.phase }, { on := 37, ground := Ground.phase }, { on := 38, ground := Ground.phase }], guard := none }) (v := ?_) rfl (by kernel_rfl) (by kernel_rfl) (by kernel_rfl) (fun _ _ _ h => h) (Or.inl ⟨by rfl, ?_⟩) (by assumption) ?_
        rotate_left
        · intro w hSw
          clear hSw
          go_simp
          all_goals with_reducible rfl
        simp only [Act.put, List.setIfInBounds_toArray, List.set_cons_zero]
        refine wpAnyH_done (by kernel_rfl) ?_ _
        refine NoPanic.normal ?_
        go_wp2
        go_ret
        exact ⟨rfl, heldN_nx hHeld⟩
end Go.Proofs.YtdfjbajehcedaaaDoor
