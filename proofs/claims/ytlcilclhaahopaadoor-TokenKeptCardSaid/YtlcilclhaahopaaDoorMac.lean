/- keyBlock: a key brought to the length of a block is the plain function's block; nothing that was there changes. -/
import Derived.Test.YtlcilclhaahopaaDoorSum
namespace Go.Proofs.YtlcilclhaahopaaDoor
open Go.RowKit
def S.keyb (ks : List UInt8) : List UInt8 := if 64 < ks.length then splice (S.zeros 64) 0 (S.sum ks) else splice (S.zeros 64) 0 ks
theorem S.keyb_length (ks : List UInt8) : (S.keyb ks).length = 64 := by
  unfold S.keyb
  split
  · rw [length_splice _ _ _ (by rw [S.sum_length, S.zeros_length]; omega), S.zeros_length]
  · rw [length_splice _ _ _ (by rw [S.zeros_length]; omega), S.zeros_length]
theorem size64 : (Tryd.prog.info? 143).map (·.size) = some 64 := by kernel_rfl
theorem size_keyb (ks : List UInt8) : (Tryd.prog.info? 143).map (·.size) = some (S.v8 (S.keyb ks)).size := by rw [S.v8_size, S.keyb_length]; exact size64
theorem zeros_keyb (ks : List UInt8) : (S.v8 (S.zeros 64)).size = (S.v8 (S.keyb ks)).size := by rw [S.v8_size, S.v8_size, S.keyb_length]; rfl
set_option maxHeartbeats 800000 in
set_option maxRecDepth 100000 in
theorem keyb_short (ao : Option Addr) (len cap : Nat) (ks : List UInt8) (hlen : len = ks.length) (hs : len ≤ 64) (w : World) (hsrc : Src w ao ks) :
   Calls Tryd.prog 85 #[.slice ao len cap] w fun e w' => e = .returned (.agg (S.v8 (S.keyb ks))) ∧ Below w.heap.size w w' := by
  have q1 : (len : Int) ≤ 64 := by omega
  have HS := hide hsrc
  have HN : Hid ((S.v8l ks).length = Nat.min len 64) := by show (S.v8l ks).length = Nat.min len 64; rw [S.v8l_length, hlen]; show _ = min _ _; omega
  have HF : Hid (0 + (S.v8l ks).length ≤ (S.v8l (S.zeros 64)).length) := by show 0 + (S.v8l ks).length ≤ (S.v8l (S.zeros 64)).length; rw [S.v8l_length, S.v8l_length, S.zeros_length]; omega
  have HB : Hid (S.keyb ks = splice (S.zeros 64) 0 ks) := by show S.keyb ks = splice (S.zeros 64) 0 ks; unfold S.keyb; rw [if_neg (by omega)]
  have HNX : Hid (Below w.heap.size w ((w.alloc (.cells (S.v8 (S.zeros 64)) 143)).alloc (.cells (S.v8 (S.zeros 64)) 143))) := ((Below.refl _ _).alloc (Nat.le_refl _) _).alloc (by simp) _
  have HR : Hid (((w.alloc (.cells (S.v8 (S.zeros 64)) 143)).alloc (.cells (S.v8 (S.zeros 64)) 143)).heap[w.heap.size]? = some (.cells (S.v8 (S.zeros 64)) 143 (0, 0))) := heap_alloc2_old _ _ _
  clear hsrc hlen
  go_enter Tryd.func85, Tryd.ntmps85
  go_wp2_with (first | (refine wpList_copy_splice rfl (.tmp 13) (.tmp 14) 30 30 rfl 5 Tryd.underlying30 size5 _ _ _ _ _ _ rfl rfl (w.heap.size + 1) 0 (S.v8l (S.zeros 64)) 143 (heap_alloc2_new _ _ _) (S.v8l ks) HN.out (copy_src _ HS.out HNX.out) HF.out (S.v8l_one _) (w.heap.size + 1) ((w.alloc (.cells (S.v8 (S.zeros 64)) 143)).alloc (.cells (S.v8 (S.zeros 64)) 143)) (Below.refl _ _) (Nat.le_refl _) ?_; intro w2 HG2 hB2; have HG3 := hide (spl_rowT HG2); clear HG2; rw [← HB.out] at HG3; have HR2 := hide ((hB2.block w.heap.size (by omega)).trans HR.out); have HN2 := hide (HNX.out.trans (hB2.mono (by omega))); clear hB2) | refine wpList_load_row rfl 143 _ rfl (w.heap.size + 1) rfl 143 _ _ _ HG3.out Tryd.underlying143 rfl (size_keyb ks) ?_ | refine wpList_store_row rfl 143 _ _ rfl w.heap.size (S.v8 (S.keyb ks)) rfl rfl 143 _ HR2.out (size_keyb ks) (zeros_keyb ks) (S.v8_one _) ?_)
  exact bodyPost_ret (v := .agg (S.v8 (S.keyb ks))) (results_cell_row (g := w.heap.size) (t := 143) (fr := (0, 0)) Tryd.results85 _ _ _ _ rfl (setRow_heap _ _ _ _ _ _ HR2.out) Tryd.underlying143 rfl (size_keyb ks)) rfl ⟨rfl, below_setRow HN2.out (Nat.le_refl _) _⟩
set_option maxHeartbeats 800000 in
set_option maxRecDepth 100000 in
theorem keyb_long (ao : Option Addr) (len cap : Nat) (ks : List UInt8) (hlen : len = ks.length) (hs : 64 < len) (hs2 : len ≤ 140737488355328) (w : World) (hv : SliceAt w (.slice ao len cap) ks) (hK : KAt w) :
   Calls Tryd.prog 85 #[.slice ao len cap] w fun e w' => e = .returned (.agg (S.v8 (S.keyb ks))) ∧ Below w.heap.size w w' := by
  have q1 : (64 : Int) < (len : Int) := by omega
  have HV := hide hv
  have HK := hide hK
  have h0 := hK.pos
  have HB : Hid (S.keyb ks = splice (S.zeros 64) 0 (S.sum ks)) := by show S.keyb ks = splice (S.zeros 64) 0 (S.sum ks); unfold S.keyb; rw [if_pos (by omega)]
  have HNX : Hid (Below w.heap.size w ((w.alloc (.cells (S.v8 (S.zeros 64)) 143)).alloc (.cells (S.v8 (S.zeros 64)) 143))) := ((Below.refl _ _).alloc (Nat.le_refl _) _).alloc (by simp) _
  have HR : Hid (((w.alloc (.cells (S.v8 (S.zeros 64)) 143)).alloc (.cells (S.v8 (S.zeros 64)) 143)).heap[w.heap.size]? = some (.cells (S.v8 (S.zeros 64)) 143 (0, 0))) := heap_alloc2_old _ _ _
  have HR1 : Hid (((w.alloc (.cells (S.v8 (S.zeros 64)) 143)).alloc (.cells (S.v8 (S.zeros 64)) 143)).heap[w.heap.size + 1]? = some (.cells (S.v8 (S.zeros 64)) 143 (0, 0))) := heap_alloc2_new _ _ _
  clear hlen hv hK
  go_enter Tryd.func85, Tryd.ntmps85
  go_wp2_with fail
  refine (Sum_any _ ks ((w.alloc (.cells (S.v8 (S.zeros 64)) 143)).alloc (.cells (S.v8 (S.zeros 64)) 143)) (HV.out.below HNX.out (Nat.le_refl _)) (HK.out.below HNX.out h0)).mono ?_
  rintro e w1 ⟨rfl, hb1⟩
  have hz1 : w.heap.size + 2 ≤ w1.heap.size := by have := hb1.size; simp at this; omega
  have a0 := (hb1.block w.heap.size (by simp; omega)).trans HR.out
  have a1 := (hb1.block (w.heap.size + 1) (by simp)).trans HR1.out
  have hn1 := HNX.out.trans (hb1.mono (by simp; omega))
  have A0 := hide a0
  have A1 := hide a1
  have A2 := hide hn1
  clear hb1 HR HR1 HNX a0 a1 hn1
  go_wp2_with (refine wpList_store_row rfl 25 _ _ rfl w1.heap.size (S.v8 (S.sum ks)) rfl rfl 25 (S.v8 (S.zeros 32)) (heap_alloc_new _ _) (size_sum ks) (zeros_sum ks) (S.v8_one _) ?_)
  simp only [Act.put]
  generalize hW1 : World.setRow _ w1.heap.size (S.v8 (S.sum ks)) = W1
  have r2 : W1.heap[w1.heap.size]? = some (.cells (S.v8 (S.sum ks)) 25 (0, 0)) := by rw [← hW1]; exact setRow_heap _ _ _ _ _ _ (heap_alloc_new _ _)
  have r0 : W1.heap[w.heap.size]? = some (.cells (S.v8 (S.zeros 64)) 143 (0, 0)) := by rw [← hW1]; exact (setRow_other _ _ _ _ (by omega)).trans ((heap_alloc_old _ _ (by omega)).trans A0.out)
  have r1 : W1.heap[w.heap.size + 1]? = some (.cells (S.v8 (S.zeros 64)) 143 (0, 0)) := by rw [← hW1]; exact (setRow_other _ _ _ _ (by omega)).trans ((heap_alloc_old _ _ (by omega)).trans A1.out)
  have hn : Below w.heap.size w W1 := by rw [← hW1]; exact below_setRow (A2.out.alloc (by omega) _) (by omega) _
  clear hW1 A0 A1 A2
  generalize w1.heap.size = g at *
  clear w1
  have HR := hide r0
  have HR1 := hide r1
  have HNX := hide hn
  have HS : Hid (Src W1.drew (some ⟨g, 0, none⟩) (S.sum ks)) := fun _ => ⟨g, 0, rfl, block_lt_of_row r2, fun j hj => by rw [Nat.zero_add]; exact v8_cell (w := W1.drew) r2 j hj⟩
  have HN : Hid ((S.v8l (S.sum ks)).length = Nat.min 32 64) := by show (S.v8l (S.sum ks)).length = Nat.min 32 64; rw [S.v8l_length, S.sum_length]; rfl
  have HF : Hid (0 + (S.v8l (S.sum ks)).length ≤ (S.v8l (S.zeros 64)).length) := by show 0 + (S.v8l (S.sum ks)).length ≤ (S.v8l (S.zeros 64)).length; rw [S.v8l_length, S.v8l_length, S.zeros_length, S.sum_length]; omega
  clear r0 r1 r2 hn
  refine region_tail 2 (by kernel_rfl) ?_
  simp only [List.take_succ_cons, List.take_zero, List.drop_succ_cons, List.drop_zero]
  repeat still_step
  refine wpStill_nil ?_
  go_wp2_with (first | (refine wpList_copy_splice rfl (.tmp 10) (.tmp 11) 30 30 rfl 5 Tryd.underlying30 size5 _ _ _ _ _ _ rfl rfl (w.heap.size + 1) 0 (S.v8l (S.zeros 64)) 143 HR1.out (S.v8l (S.sum ks)) HN.out (copy_src _ HS.out (Below.refl _ _)) HF.out (S.v8l_one _) (w.heap.size + 1) W1 (Below.refl _ _).drew (Nat.le_refl _) ?_; intro w2 HG2 hB2; have HG3 := hide (spl_rowT HG2); clear HG2; rw [← HB.out] at HG3; have HR2 := hide ((hB2.block w.heap.size (by omega)).trans HR.out); have HN2 := hide (HNX.out.trans (hB2.mono (by omega))); clear hB2) | refine wpList_load_row rfl 143 _ rfl (w.heap.size + 1) rfl 143 _ _ _ HG3.out Tryd.underlying143 rfl (size_keyb ks) ?_ | refine wpList_store_row rfl 143 _ _ rfl w.heap.size (S.v8 (S.keyb ks)) rfl rfl 143 _ HR2.out (size_keyb ks) (zeros_keyb ks) (S.v8_one _) ?_)
  exact bodyPost_ret (v := .agg (S.v8 (S.keyb ks))) (results_cell_row (g := w.heap.size) (t := 143) (fr := (0, 0)) Tryd.results85 _ _ _ _ rfl (setRow_heap _ _ _ _ _ _ HR2.out) Tryd.underlying143 rfl (size_keyb ks)) rfl ⟨rfl, below_setRow HN2.out (Nat.le_refl _) _⟩
theorem keyb_any (v : Value) (ks : List UInt8) (w : World) (hv : SliceAt w v ks) (hK : KAt w) :
   Calls Tryd.prog 85 #[v] w fun e w' => e = .returned (.agg (S.v8 (S.keyb ks))) ∧ Below w.heap.size w w' := by
  obtain ⟨ao, len, cap, rfl, hl, hm, hs⟩ := hv.shape
  by_cases h : 64 < len
  · exact keyb_long ao len cap ks hl h hm w hv hK
  · exact keyb_short ao len cap ks hl (by omega) w hs
end Go.Proofs.YtlcilclhaahopaaDoor
namespace Go.Proofs.YtlcilclhaahopaaDoor
open Go.RowKit
namespace S
def xorTo (l : List UInt8) (pad : UInt8) : Nat → List UInt8
  | 0 => l
  | k + 1 => (xorTo l pad k).set k ((xorTo l pad k).getD k 0 ^^^ pad)
theorem xorTo_length (l : List UInt8) (pad : UInt8) (k : Nat) : (xorTo l pad k).length = l.length := by
  induction k with
  | zero => rfl
  | succ k ih => simp [xorTo, ih]
def keyed (ks : List UInt8) (pad : UInt8) : List UInt32 := comp H0 (xorTo (keyb ks) pad 64)
theorem keyed_length (ks : List UInt8) (pad : UInt8) : (keyed ks pad).length = 8 := rfl
end S
theorem size_keyed (ks : List UInt8) (pad : UInt8) : (Tryd.prog.info? 101).map (·.size) = some (S.v32 (S.keyed ks pad)).size := by rw [S.v32_size, S.keyed_length]; exact size49
theorem zeros_keyed (ks : List UInt8) (pad : UInt8) : (S.v32 (List.replicate 8 0)).size = (S.v32 (S.keyed ks pad)).size := by rw [S.v32_size, S.v32_size, S.keyed_length]; rfl
theorem u8_xor_cast (x y : UInt8) : bits .xor .u8 (x.toNat : Int) (y.toNat : Int) = ((x ^^^ y).toNat : Int) := by
  rw [u8_xor_nat _ _ x.toNat_lt y.toNat_lt, UInt8.toNat_xor]
theorem step_store_row {P : Program} {md : Region.Mode} {ops : Array Oper} {Q : Exit → Act → World → Prop} {S : World → Prop} {fuel : Nat} {listed : Array Bool} {a : Act} {w : World} {i : Nat} {o : Oper} (ho : ops[i]? = some o) (hgd : o.guard = none)
    (ty : TypeId) (x y : Operand) (hop : o.op = .store ty x y) (g : Nat) (cells : Array Value) (hx : a.eval x = .pointer (some ⟨g, 0, none⟩)) (hy : a.eval y = .agg cells)
    (t : TypeId) (old : Array Value) (hg : w.heap[g]? = some (.cells old t (0, 0))) (hi : (P.info? ty).map (·.size) = some cells.size) (hold : old.size = cells.size) (h1 : cells.all (·.oneCell') = true)
    (hS : S (w.setRow g cells)) (h : wpAnyH P md ops Q S fuel (listed.setIfInBounds i true) (a.put o.dst undef) (w.setRow g cells)) : AllReadyH P md ops Q S fuel listed a w [i] :=
  AllReadyH.cons ho (fun K hK => by
    rw [if_pos (by simp [Region.wanted, hgd])]
    exact wp_store_row ty x y hop g cells hx hy t old hg hi hold h1 (hK.out _ _ hS (fun _ => h))) AllReadyH.nil
set_option maxHeartbeats 800000 in
set_option maxRecDepth 100000 in
theorem keyed_any (v : Value) (ks : List UInt8) (pad : UInt8) (w : World) (hv : SliceAt w v ks) (hK : KAt w) :
   Calls Tryd.prog 66 #[v, .int .u8 (pad.toNat : Int)] w fun e w' => e = .returned (.agg (S.v32 (S.keyed ks pad))) ∧ Below w.heap.size w w' := by
  have HV := hide hv
  have HK := hide hK
  have h0 := hK.pos
  clear hv hK
  go_enter Tryd.func66, Tryd.ntmps66
  go_wp2_with fail
  generalize hW0 : w.alloc _ = W0
  have r0 : W0.heap[w.heap.size]? = some (.cells (S.v32 (List.replicate 8 0)) 101 (0, 0)) := by rw [← hW0]; exact heap_alloc_new _ _
  have hn0 : Below w.heap.size w W0 := by rw [← hW0]; exact (Below.refl _ _).alloc (Nat.le_refl _) _
  clear hW0
  refine (keyb_any v ks W0 (HV.out.below hn0 (Nat.le_refl _)) (HK.out.below hn0 h0)).mono ?_
  rintro e w1 ⟨rfl, hb1⟩
  have hz0 := block_lt_of_row r0
  have hn1 : Below w.heap.size w w1 := hn0.trans (hb1.mono (by omega))
  have r1 := (hb1.block w.heap.size hz0).trans r0
  have hz1 := block_lt_of_row r1
  have A1 := hide r1
  have A2 := hide hn1
  clear r0 hn0 hb1 hz0 r1 hn1
  go_wp2_with (refine wpList_store_row rfl 143 _ _ rfl w1.heap.size (S.v8 (S.keyb ks)) rfl rfl 143 (S.v8 (S.zeros 64)) (heap_alloc_new _ _) (size_keyb ks) (zeros_keyb ks) (S.v8_one _) ?_)
  generalize hW1 : World.setRow _ w1.heap.size (S.v8 (S.keyb ks)) = W1
  have r1 : W1.heap[w1.heap.size]? = some (.cells (S.v8 (S.keyb ks)) 143 (0, 0)) := by rw [← hW1]; exact setRow_heap _ _ _ _ _ _ (heap_alloc_new _ _)
  have q1 : W1.heap[w.heap.size]? = some (.cells (S.v32 (List.replicate 8 0)) 101 (0, 0)) := by rw [← hW1]; exact (setRow_other _ _ _ _ (by omega)).trans ((heap_alloc_old _ _ (by omega)).trans A1.out)
  have hn1 : Below w.heap.size w W1 := by rw [← hW1]; exact below_setRow (A2.out.alloc (by omega) _) (by omega) _
  clear hW1 A1 A2 W0
  generalize w1.heap.size = g at *
  clear w1
  go_wp2
  go_loopw [9] (fun i wr => ∃ k : Nat, k ≤ 64 ∧ i = .int .i64 (k : Int) ∧ wr.heap[g]? = some (.cells (S.v8 (S.xorTo (S.keyb ks) pad k)) 143 (0, 0)) ∧ wr.heap[w.heap.size]? = some (.cells (S.v32 (List.replicate 8 0)) 101 (0, 0)) ∧ Below w.heap.size w wr)
    (fun i _ => 64 - (intOf i).toNat)
  case atStart => exact ⟨0, by omega, rfl, r1, q1, hn1⟩
  case round =>
    obtain ⟨k, hk, rfl, r2, q2, hn2⟩ := hrel
    have hl : (S.xorTo (S.keyb ks) pad k).length = 64 := by rw [S.xorTo_length, S.keyb_length]
    by_cases hlt : k < 64
    · have ce := v8_cell r2 k (by omega)
      have cf := frozen_of_row _ _ k _ _ r2
      obtain ⟨x, hx⟩ : ∃ x : UInt8, x = (S.xorTo (S.keyb ks) pad k).getD k 0 := ⟨_, rfl⟩
      rw [← hx] at ce
      have R2 := v8_set r2 k (x ^^^ pad)
      have hnext : (S.xorTo (S.keyb ks) pad k).set k (x ^^^ pad) = S.xorTo (S.keyb ks) pad (k + 1) := by rw [hx]; rfl
      rw [hnext] at R2
      have p1 : (0 : Int) ≤ (k : Int) := by omega
      have p2 : (k : Int) < 64 := by omega
      have A := hide R2
      have B := hide q2
      have C := hide hn2
      clear R2 r2 q2 hn2 hx hl hnext r1 q1 hn1
      go_wp2
      go_roundw
      case rel =>
        rw [u8_xor_cast]
        exact ⟨k + 1, by omega, by go_num, A.out, (heap_setCell_other _ _ _ _ (by show w.heap.size ≠ g; omega)).trans B.out, C.out.setCell (by show w.heap.size ≤ g; omega) _⟩
      case measure => simp [intOf]; omega
    · obtain rfl : k = 64 := by omega
      generalize wr = W2 at *
      have hg2 := block_lt_of_row r2
      clear r1 q1 hn1
      go_wp2
      refine wp_region_noPanic ?_
      refine wp_region_held_drew (S := (fun _ => True)) follows trivial (fun hHeld => ?_)
      refine wpAnyH_take (i := 1) (oi := { dst := some 20, op := Op.slice 143 (Operand.tmp 5) none none none, type := 30, pos := "sha.go:33", after := #[], guard := none }) (v := ?_) rfl (by kernel_rfl) (by kernel_rfl) (by kernel_rfl) (fun _ _ _ h => h) (Or.inl ⟨by rfl, ?_⟩) (by assumption) ?_
      rotate_left
      · intro w hSw
        clear hSw
        go_simp
        all_goals with_reducible rfl
      simp only [Act.put, List.setIfInBounds_toArray, List.set_cons_zero, List.set_cons_succ]
      refine wpAnyH_ready (rs := [0]) (by kernel_rfl) (by simp) ?_
      refine AllReadyH.cons (o := { dst := some 19, op := Op.call { callee := Callee.value (Operand.func 87), args := #[], argTypes := #[] }, type := 101, pos := "sha.go:33", after := #[], guard := none }) rfl (fun K hK => ?_) AllReadyH.nil
      go_simp
      refine (firstState_any _).mono ?_
      rintro e w3 ⟨rfl, hb3⟩
      have hn3 := hn2.drew.trans (hb3.mono hn2.size)
      have r3 := (hb3.block g hg2).trans r2
      have q3 := (hb3.block w.heap.size (by show w.heap.size < W2.heap.size; omega)).trans q2
      have hz3 : W2.heap.size ≤ w3.heap.size := hb3.size
      have B1 := hide hn3
      have B2 := hide r3
      have B3 := hide q3
      clear hb3 hn3 r3 q3
      go_wp2_with fail
      refine hK.out _ _ ?_ (fun hHeld => ?_)
      · exact trivial
      clear hK K
      try simp only [Act.put, List.setIfInBounds_toArray, List.set_cons_zero, List.set_cons_succ]
      refine wpAnyH_ready (rs := [2]) (by kernel_rfl) (by simp) ?_
      refine AllReadyH.cons (o := { dst := some 21, op := Op.call { callee := Callee.value (Operand.func 86), args := #[Operand.tmp 19, Operand.tmp 20], argTypes := #[101, 30] }, type := 101, pos := "sha.go:33", after := #[{ on := 0, ground := Ground.data }, { on := 1, ground := Ground.data }, { on := 0, ground := Ground.chain }], guard := none }) rfl (fun K hK => ?_) AllReadyH.nil
      go_simp
      refine (compress_any S.H0 rfl g 0 64 (S.xorTo (S.keyb ks) pad 64) _ (block_lt_of_row B2.out) (HK.out.below B1.out h0) (fun j hj => by rw [Nat.zero_add]; exact v8_cell B2.out j (by rw [S.xorTo_length, S.keyb_length]; exact hj))).mono ?_
      rintro e w4 ⟨rfl, hb4⟩
      have hn4 := B1.out.trans (hb4.mono B1.out.size)
      have q4 := (hb4.block w.heap.size (by omega)).trans B3.out
      have C1 := hide hn4
      have C2 := hide q4
      clear hb4 hn4 q4
      go_wp2_with fail
      refine hK.out _ _ ?_ (fun hHeld => ?_)
      · exact trivial
      clear hK K
      try simp only [Act.put, List.setIfInBounds_toArray, List.set_cons_zero, List.set_cons_succ]
      refine wpAnyH_ready (rs := [3]) (by kernel_rfl) (by simp) ?_
      refine step_store_row (o := { dst := none, op := Op.store 101 (Operand.tmp 4) (Operand.tmp 21), type := 0, pos := "sha.go:33", after := #[{ on := 2, ground := Ground.data }, { on := 2, ground := Ground.chain }, { on := 0, ground := Ground.phase }, { on := 1, ground := Ground.phase }, { on := 2, ground := Ground.phase }], guard := none }) rfl rfl 101 _ _ rfl w.heap.size (S.v32 (S.keyed ks pad)) rfl rfl 101 _ C2.out (size_keyed ks pad) (zeros_keyed ks pad) (S.v32_one _) trivial ?_
      simp only [Act.put]
      refine wpAnyH_done (by kernel_rfl) ?_ _
      refine NoPanic.normal ?_
      go_wp2
      exact bodyPost_ret (v := .agg (S.v32 (S.keyed ks pad))) (results_cell_row (g := w.heap.size) (t := 101) (fr := (0, 0)) Tryd.results66 _ _ _ _ rfl (setRow_heap _ _ _ _ _ _ C2.out) Tryd.underlying101 rfl (size_keyed ks pad)) rfl ⟨rfl, below_setRow C1.out (Nat.le_refl _) _⟩
end Go.Proofs.YtlcilclhaahopaaDoor
namespace Go.Proofs.YtlcilclhaahopaaDoor
open Go.RowKit
theorem S.fin_length (st : List UInt32) (n : Nat) (bs : List UInt8) : (S.fin st n bs).length = 32 := S.dig_length _ _
def S.mac (ks bs : List UInt8) : List UInt8 := S.fin (S.keyed ks 92) 64 (S.fin (S.keyed ks 54) 64 bs)
theorem S.mac_length (ks bs : List UInt8) : (S.mac ks bs).length = 32 := S.fin_length _ _ _
theorem size_mac (ks bs : List UInt8) : (Tryd.prog.info? 25).map (·.size) = some (S.v8 (S.mac ks bs)).size := by rw [S.v8_size, S.mac_length]; exact size23
theorem zeros_mac (ks bs : List UInt8) : (S.v8 (S.zeros 32)).size = (S.v8 (S.mac ks bs)).size := by rw [S.v8_size, S.v8_size, S.mac_length]; rfl
theorem size_fin (st : List UInt32) (n : Nat) (bs : List UInt8) : (Tryd.prog.info? 25).map (·.size) = some (S.v8 (S.fin st n bs)).size := by rw [S.v8_size, S.fin_length]; exact size23
theorem zeros_fin (st : List UInt32) (n : Nat) (bs : List UInt8) : (S.v8 (S.zeros 32)).size = (S.v8 (S.fin st n bs)).size := by rw [S.v8_size, S.v8_size, S.fin_length]; rfl
/-- A digest that lies in a block of its own, sliced whole. -/
theorem sliceAt_row {w : World} {g : Nat} {st : List UInt32} {n : Nat} {bs : List UInt8} {t : TypeId} (h : w.heap[g]? = some (.cells (S.v8 (S.fin st n bs)) t (0, 0))) : SliceAt w (.slice (some ⟨g, 0, none⟩) 32 32) (S.fin st n bs) :=
  Or.inr (Or.inr ⟨g, 0, 32, by rw [S.fin_length], by rw [S.fin_length]; omega, by rw [S.fin_length]; omega, block_lt_of_row h, fun j hj => by rw [Nat.zero_add]; exact v8_cell h j hj⟩)
theorem keyed_54 (v : Value) (ks : List UInt8) (w : World) (hv : SliceAt w v ks) (hK : KAt w) :
   Calls Tryd.prog 66 #[v, .int .u8 54] w fun e w' => e = .returned (.agg (S.v32 (S.keyed ks 54))) ∧ Below w.heap.size w w' := keyed_any v ks 54 w hv hK
theorem keyed_92 (v : Value) (ks : List UInt8) (w : World) (hv : SliceAt w v ks) (hK : KAt w) :
   Calls Tryd.prog 66 #[v, .int .u8 92] w fun e w' => e = .returned (.agg (S.v32 (S.keyed ks 92))) ∧ Below w.heap.size w w' := keyed_any v ks 92 w hv hK
theorem finish_64 (st : List UInt32) (hst : st.length = 8) (v : Value) (bs : List UInt8) (w : World) (hv : SliceAt w v bs) (hK : KAt w) :
   Calls Tryd.prog 65 #[.agg (S.v32 st), .int .u64 64, v] w fun e w' => e = .returned (.agg (S.v8 (S.fin st 64 bs))) ∧ Below w.heap.size w w' :=
  finish_any st hst 64 (by omega) v bs w hv hK
theorem finish_mac (ks bs : List UInt8) (v : Value) (w : World) (hv : SliceAt w v (S.fin (S.keyed ks 54) 64 bs)) (hK : KAt w) :
   Calls Tryd.prog 65 #[.agg (S.v32 (S.keyed ks 92)), .int .u64 64, v] w fun e w' => e = .returned (.agg (S.v8 (S.mac ks bs))) ∧ Below w.heap.size w w' := by
  have h : S.mac ks bs = S.fin (S.keyed ks 92) 64 (S.fin (S.keyed ks 54) 64 bs) := by rw [S.mac]
  rw [h]
  exact finish_64 _ (S.keyed_length _ _) v _ w hv hK
set_option maxHeartbeats 800000 in
set_option maxRecDepth 100000 in
theorem Mac_any (v : Value) (ks : List UInt8) (u : Value) (bs : List UInt8) (w : World) (hv : SliceAt w v ks) (hu : SliceAt w u bs) (hK : KAt w) :
   Calls Tryd.prog 36 #[v, u] w fun e w' => e = .returned (.agg (S.v8 (S.mac ks bs))) ∧ Below w.heap.size w w' := by
  have HV := hide hv
  have HU := hide hu
  have HK := hide hK
  have h0 := hK.pos
  clear hv hu hK
  go_enter Tryd.func36, Tryd.ntmps36
  go_wp2_with fail
  generalize hW0 : w.alloc _ = W0
  have r0 : W0.heap[w.heap.size]? = some (.cells (S.v8 (S.zeros 32)) 25 (0, 0)) := by rw [← hW0]; exact heap_alloc_new _ _
  have hn0 : Below w.heap.size w W0 := by rw [← hW0]; exact (Below.refl _ _).alloc (Nat.le_refl _) _
  clear hW0
  refine (keyed_54 v ks W0 (HV.out.below hn0 (Nat.le_refl _)) (HK.out.below hn0 h0)).mono ?_
  rintro e w1 ⟨rfl, hb1⟩
  have hz0 := block_lt_of_row r0
  have hn1 : Below w.heap.size w w1 := hn0.trans (hb1.mono (by omega))
  have r1 := (hb1.block w.heap.size hz0).trans r0
  have hz1 := block_lt_of_row r1
  have A1 := hide r1
  have A2 := hide hn1
  clear r0 hn0 hb1 hz0 r1 hn1
  go_wp2_with fail
  refine (finish_64 (S.keyed ks 54) (S.keyed_length _ _) u bs w1 (HU.out.below A2.out (Nat.le_refl _)) (HK.out.below A2.out h0)).mono ?_
  rintro e w2 ⟨rfl, hb2⟩
  have hn2 : Below w.heap.size w w2 := A2.out.trans (hb2.mono (by omega))
  have r2 := (hb2.block w.heap.size hz1).trans A1.out
  have hz2 := block_lt_of_row r2
  have B1 := hide r2
  have B2 := hide hn2
  clear hb2 r2 hn2 A1 A2 hz1
  clear w1
  go_wp2_with (refine wpList_store_row rfl 25 _ _ rfl w2.heap.size (S.v8 (S.fin (S.keyed ks 54) 64 bs)) rfl rfl 25 (S.v8 (S.zeros 32)) (heap_alloc_new _ _) (size_fin _ _ _) (zeros_fin _ _ _) (S.v8_one _) ?_)
  simp only [Act.put]
  generalize hW2 : World.setRow _ w2.heap.size (S.v8 (S.fin (S.keyed ks 54) 64 bs)) = W2
  have r1 : W2.heap[w2.heap.size]? = some (.cells (S.v8 (S.fin (S.keyed ks 54) 64 bs)) 25 (0, 0)) := by rw [← hW2]; exact setRow_heap _ _ _ _ _ _ (heap_alloc_new _ _)
  have q1 : W2.heap[w.heap.size]? = some (.cells (S.v8 (S.zeros 32)) 25 (0, 0)) := by rw [← hW2]; exact (setRow_other _ _ _ _ (by omega)).trans ((heap_alloc_old _ _ (by omega)).trans B1.out)
  have hn : Below w.heap.size w W2 := by rw [← hW2]; exact below_setRow (B2.out.alloc (by omega) _) (by omega) _
  clear hW2 B1 B2 W0
  generalize w2.heap.size = g at *
  clear w2
  have hg2 := block_lt_of_row r1
  have D1 := hide hn
  have D2 := hide r1
  have D3 := hide q1
  clear hn r1 q1
  refine wp_region_noPanic ?_
  refine wp_region_held_drew (S := (fun _ => True)) follows trivial (fun hHeld => ?_)
  refine wpAnyH_take (i := 0) (oi := { dst := some 10, op := Op.move (Operand.tmp 0), type := 30, pos := "sha.go:24", after := #[], guard := none }) (v := ?_) rfl (by kernel_rfl) (by kernel_rfl) (by kernel_rfl) (fun _ _ _ h => h) (Or.inl ⟨by rfl, ?_⟩) (by assumption) ?_
  rotate_left
  · intro w hSw
    clear hSw
    go_simp
    all_goals with_reducible rfl
  simp only [Act.put, List.setIfInBounds_toArray, List.set_cons_zero, List.set_cons_succ]
  refine wpAnyH_take (i := 2) (oi := { dst := some 12, op := Op.slice 25 (Operand.tmp 5) none none none, type := 30, pos := "sha.go:24", after := #[], guard := none }) (v := ?_) rfl (by kernel_rfl) (by kernel_rfl) (by kernel_rfl) (fun _ _ _ h => h) (Or.inl ⟨by rfl, ?_⟩) (by assumption) ?_
  rotate_left
  · intro w hSw
    clear hSw
    go_simp
    all_goals with_reducible rfl
  simp only [Act.put, List.setIfInBounds_toArray, List.set_cons_zero, List.set_cons_succ]
  refine wpAnyH_ready (rs := [1]) (by kernel_rfl) (by simp) ?_
  refine AllReadyH.cons (o := { dst := some 11, op := Op.call { callee := Callee.value (Operand.func 66), args := #[Operand.tmp 10, Operand.const (Value.int IntKind.u8 92)], argTypes := #[30, 5] }, type := 101, pos := "sha.go:24", after := #[{ on := 0, ground := Ground.data }], guard := none }) rfl (fun K hK => ?_) AllReadyH.nil
  go_simp
  refine (keyed_92 v ks _ (HV.out.below D1.out.drew (Nat.le_refl _)) (HK.out.below D1.out.drew h0)).mono ?_
  rintro e w3 ⟨rfl, hb3⟩
  have hn3 := D1.out.drew.trans (hb3.mono D1.out.size)
  have r3 := (hb3.block g hg2).trans D2.out
  have q3 := (hb3.block w.heap.size (by show w.heap.size < W2.heap.size; omega)).trans D3.out
  have B1 := hide hn3
  have B2 := hide r3
  have B3 := hide q3
  clear hb3 hn3 r3 q3
  go_wp2_with fail
  refine hK.out _ _ ?_ (fun hHeld => ?_)
  · exact trivial
  clear hK K
  try simp only [Act.put, List.setIfInBounds_toArray, List.set_cons_zero, List.set_cons_succ]
  refine wpAnyH_ready (rs := [3]) (by kernel_rfl) (by simp) ?_
  refine AllReadyH.cons (o := { dst := some 13, op := Op.call { callee := Callee.value (Operand.func 65), args := #[Operand.tmp 11, Operand.const (Value.int IntKind.u64 64), Operand.tmp 12], argTypes := #[101, 46, 30] }, type := 25, pos := "sha.go:24", after := #[{ on := 1, ground := Ground.data }, { on := 2, ground := Ground.data }, { on := 1, ground := Ground.chain }], guard := none }) rfl (fun K hK => ?_) AllReadyH.nil
  go_simp
  refine (finish_mac ks bs _ _ (sliceAt_row B2.out) (HK.out.below B1.out h0)).mono ?_
  rintro e w4 ⟨rfl, hb4⟩
  have hn4 := B1.out.trans (hb4.mono B1.out.size)
  have q4 := (hb4.block w.heap.size (block_lt_of_row B3.out)).trans B3.out
  have C1 := hide hn4
  have C2 := hide q4
  clear hb4 hn4 q4
  go_wp2_with fail
  refine hK.out _ _ ?_ (fun hHeld => ?_)
  · exact trivial
  clear hK K
  try simp only [Act.put, List.setIfInBounds_toArray, List.set_cons_zero, List.set_cons_succ]
  refine wpAnyH_ready (rs := [4]) (by kernel_rfl) (by simp) ?_
  refine step_store_row (o := { dst := none, op := Op.store 25 (Operand.tmp 4) (Operand.tmp 13), type := 0, pos := "sha.go:24", after := #[{ on := 3, ground := Ground.data }, { on := 3, ground := Ground.chain }, { on := 0, ground := Ground.phase }, { on := 1, ground := Ground.phase }, { on := 2, ground := Ground.phase }, { on := 3, ground := Ground.phase }], guard := none }) rfl rfl 25 _ _ rfl w.heap.size (S.v8 (S.mac ks bs)) rfl rfl 25 _ C2.out (size_mac ks bs) (zeros_mac ks bs) (S.v8_one _) trivial ?_
  simp only [Act.put]
  refine wpAnyH_done (by kernel_rfl) ?_ _
  refine NoPanic.normal ?_
  go_wp2
  exact bodyPost_ret (v := .agg (S.v8 (S.mac ks bs))) (results_cell_row (g := w.heap.size) (t := 25) (fr := (0, 0)) Tryd.results36 _ _ _ _ rfl (setRow_heap _ _ _ _ _ _ C2.out) Tryd.underlying25 rfl (size_mac ks bs)) rfl ⟨rfl, below_setRow C1.out (Nat.le_refl _) _⟩
end Go.Proofs.YtlcilclhaahopaaDoor
