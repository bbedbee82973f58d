/- keyedState: the state behind the block of a key and a pad is the plain function's; nothing that was there changes. -/
import Derived.Test.YtdfjbajehcedaaaDoorKeyb
namespace Go.Proofs.YtdfjbajehcedaaaDoor
open Go.RowKit
namespace S
def xorTo (l : List UInt8) (pad : UInt8) : Nat → List UInt8
  | 0 => l
  | k + 1 => (xorTo l pad k).set k ((xorTo l pad k).getD k 0 ^^^ pad)
theorem xorTo_length (l : List UInt8) (pad : UInt8) (k : Nat) : (xorTo l pad k).length = l.length := by
  induction k with
  | zero => rfl
  | succ k ih => simp [xorTo, ih]
def keyed (ks : List UInt8) (pad : UInt8) : List UInt32 := comp H0 (xorTo (keyb ks) pad 64)
theorem keyed_length (ks : List UInt8) (pad : UInt8) : (keyed ks pad).length = 8 := rfl
end S
theorem size_keyed (ks : List UInt8) (pad : UInt8) : (Tryd.prog.info? 49).map (·.size) = some (S.v32 (S.keyed ks pad)).size := by rw [S.v32_size, S.keyed_length]; exact size49
theorem zeros_keyed (ks : List UInt8) (pad : UInt8) : (S.v32 (List.replicate 8 0)).size = (S.v32 (S.keyed ks pad)).size := by rw [S.v32_size, S.v32_size, S.keyed_length]; rfl
theorem u8_xor_cast (x y : UInt8) : bits .xor .u8 (x.toNat : Int) (y.toNat : Int) = ((x ^^^ y).toNat : Int) := by
  rw [u8_xor_nat _ _ x.toNat_lt y.toNat_lt, UInt8.toNat_xor]
theorem step_store_row {P : Program} {md : Region.Mode} {ops : Array Oper} {Q : Exit → Act → World → Prop} {S : World → Prop} {fuel : Nat} {listed : Array Bool} {a : Act} {w : World} {i : Nat} {o : Oper} (ho : ops[i]? = some o) (hgd : o.guard = none)
    (ty : TypeId) (x y : Operand) (hop : o.op = .store ty x y) (g : Nat) (cells : Array Value) (hx : a.eval x = .pointer (some ⟨g, 0, none⟩)) (hy : a.eval y = .agg cells)
    (t : TypeId) (old : Array Value) (hg : w.heap[g]? = some (.cells old t (0, 0))) (hi : (P.info? ty).map (·.size) = some cells.size) (hold : old.size = cells.size) (h1 : cells.all (·.oneCell') = true)
    (hS : S (w.setRow g cells)) (h : wpAnyH P md ops Q S fuel (listed.setIfInBounds i true) (a.put o.dst undef) (w.setRow g cells)) : AllReadyH P md ops Q S fuel listed a w [i] :=
  AllReadyH.cons ho (fun K hK => by
    rw [if_pos (by simp [Region.wanted, hgd])]
    exact wp_store_row ty x y hop g cells hx hy t old hg hi hold h1 (hK.out _ _ hS (fun _ => h))) AllReadyH.nil
set_option maxHeartbeats 800000 in
set_option maxRecDepth 100000 in
theorem keyed_any (v : Value) (ks : List UInt8) (pad : UInt8) (w : World) (hv : SliceAt w v ks) (hK : KAt w) :
   Calls Tryd.prog 26 #[v, .int .u8 (pad.toNat : Int)] w fun e w' => e = .returned (.agg (S.v32 (S.keyed ks pad))) ∧ Below w.heap.size w w' := by
  have HV := hide hv
  have HK := hide hK
  have h0 := hK.pos
  clear hv hK
  go_enter Tryd.func26, Tryd.ntmps26
  go_wp2_with fail
  generalize hW0 : w.alloc _ = W0
  have r0 : W0.heap[w.heap.size]? = some (.cells (S.v32 (List.replicate 8 0)) 49 (0, 0)) := by rw [← hW0]; exact heap_alloc_new _ _
  have hn0 : Below w.heap.size w W0 := by rw [← hW0]; exact (Below.refl _ _).alloc (Nat.le_refl _) _
  clear hW0
  refine (keyb_any v ks W0 (HV.out.below hn0 (Nat.le_refl _)) (HK.out.below hn0 h0)).mono ?_
  rintro e w1 ⟨rfl, hb1⟩
  have hz0 := block_lt_of_row r0
  have hn1 : Below w.heap.size w w1 := hn0.trans (hb1.mono (by omega))
  have r1 := (hb1.block w.heap.size hz0).trans r0
  have hz1 := block_lt_of_row r1
  have A1 := hide r1
  have A2 := hide hn1
  clear r0 hn0 hb1 hz0 r1 hn1
  go_wp2_with (refine wpList_store_row rfl 64 _ _ rfl w1.heap.size (S.v8 (S.keyb ks)) rfl rfl 64 (S.v8 (S.zeros 64)) (heap_alloc_new _ _) (size_keyb ks) (zeros_keyb ks) (S.v8_one _) ?_)
  generalize hW1 : World.setRow _ w1.heap.size (S.v8 (S.keyb ks)) = W1
  have r1 : W1.heap[w1.heap.size]? = some (.cells (S.v8 (S.keyb ks)) 64 (0, 0)) := by rw [← hW1]; exact setRow_heap _ _ _ _ _ _ (heap_alloc_new _ _)
  have q1 : W1.heap[w.heap.size]? = some (.cells (S.v32 (List.replicate 8 0)) 49 (0, 0)) := by rw [← hW1]; exact (setRow_other _ _ _ _ (by omega)).trans ((heap_alloc_old _ _ (by omega)).trans A1.out)
  have hn1 : Below w.heap.size w W1 := by rw [← hW1]; exact below_setRow (A2.out.alloc (by omega) _) (by omega) _
  clear hW1 A1 A2 W0
  generalize w1.heap.size = g at *
  clear w1
  go_wp2
  go_loopw [9] (fun i wr => ∃ k : Nat, k ≤ 64 ∧ i = .int .i64 (k : Int) ∧ wr.heap[g]? = some (.cells (S.v8 (S.xorTo (S.keyb ks) pad k)) 64 (0, 0)) ∧ wr.heap[w.heap.size]? = some (.cells (S.v32 (List.replicate 8 0)) 49 (0, 0)) ∧ Below w.heap.size w wr)
    (fun i _ => 64 - (intOf i).toNat)
  case atStart => exact ⟨0, by omega, rfl, r1, q1, hn1⟩
  case round =>
    obtain ⟨k, hk, rfl, r2, q2, hn2⟩ := hrel
    have hl : (S.xorTo (S.keyb ks) pad k).length = 64 := by rw [S.xorTo_length, S.keyb_length]
    by_cases hlt : k < 64
    · have ce := v8_cell r2 k (by omega)
      have cf := frozen_of_row _ _ k _ _ r2
      obtain ⟨x, hx⟩ : ∃ x : UInt8, x = (S.xorTo (S.keyb ks) pad k).getD k 0 := ⟨_, rfl⟩
      rw [← hx] at ce
      have R2 := v8_set r2 k (x ^^^ pad)
      have hnext : (S.xorTo (S.keyb ks) pad k).set k (x ^^^ pad) = S.xorTo (S.keyb ks) pad (k + 1) := by rw [hx]; rfl
      rw [hnext] at R2
      have p1 : (0 : Int) ≤ (k : Int) := by omega
      have p2 : (k : Int) < 64 := by omega
      have A := hide R2
      have B := hide q2
      have C := hide hn2
      clear R2 r2 q2 hn2 hx hl hnext r1 q1 hn1
      go_wp2
      go_roundw
      case rel =>
        rw [u8_xor_cast]
        exact ⟨k + 1, by omega, by go_num, A.out, (heap_setCell_other _ _ _ _ (by show w.heap.size ≠ g; omega)).trans B.out, C.out.setCell (by show w.heap.size ≤ g; omega) _⟩
      case measure => simp [intOf]; omega
    · obtain rfl : k = 64 := by omega
      generalize wr = W2 at *
      have hg2 := block_lt_of_row r2
      clear r1 q1 hn1
      go_wp2
      refine wp_region_noPanic ?_
      refine wp_region_held_drew (S := (fun _ => True)) follows trivial (fun hHeld => ?_)
      refine wpAnyH_take (i := 1) (oi := { dst := some 20, op := Op.slice 64 (Operand.tmp 5) none none none, type := 26, pos := "sha.go:33", after := #[], guard := none }) (v := ?_) rfl (by kernel_rfl) (by kernel_rfl) (by kernel_rfl) (fun _ _ _ h => h) (Or.inl ⟨by rfl, ?_⟩) (by assumption) ?_
      rotate_left
      · intro w hSw
        clear hSw
        go_simp
        all_goals with_reducible rfl
      simp only [Act.put, List.setIfInBounds_toArray, List.set_cons_zero, List.set_cons_succ]
      refine wpAnyH_ready (rs := [0]) (by kernel_rfl) (by simp) ?_
      refine AllReadyH.cons (o := { dst := some 19, op := Op.call { callee := Callee.value (Operand.func 29), args := #[], argTypes := #[] }, type := 49, pos := "sha.go:33", after := #[], guard := none }) rfl (fun K hK => ?_) AllReadyH.nil
      go_simp
      refine (firstState_any _).mono ?_
      rintro e w3 ⟨rfl, hb3⟩
      have hn3 := hn2.drew.trans (hb3.mono hn2.size)
      have r3 := (hb3.block g hg2).trans r2
      have q3 := (hb3.block w.heap.size (by show w.heap.size < W2.heap.size; omega)).trans q2
      have hz3 : W2.heap.size ≤ w3.heap.size := hb3.size
      have B1 := hide hn3
      have B2 := hide r3
      have B3 := hide q3
      clear hb3 hn3 r3 q3
      go_wp2_with fail
      refine hK.out _ _ ?_ (fun hHeld => ?_)
      · exact trivial
      clear hK K
      try simp only [Act.put, List.setIfInBounds_toArray, List.set_cons_zero, List.set_cons_succ]
      refine wpAnyH_ready (rs := [2]) (by kernel_rfl) (by simp) ?_
      refine AllReadyH.cons (o := { dst := some 21, op := Op.call { callee := Callee.value (Operand.func 37), args := #[Operand.tmp 19, Operand.tmp 20], argTypes := #[49, 26] }, type := 49, pos := "sha.go:33", after := #[{ on := 0, ground := Ground.data }, { on := 1, ground := Ground.data }, { on := 0, ground := Ground.chain }], guard := none }) rfl (fun K hK => ?_) AllReadyH.nil
      go_simp
      refine (compress_any S.H0 rfl g 0 64 (S.xorTo (S.keyb ks) pad 64) _ (block_lt_of_row B2.out) (HK.out.below B1.out h0) (fun j hj => by rw [Nat.zero_add]; exact v8_cell B2.out j (by rw [S.xorTo_length, S.keyb_length]; exact hj))).mono ?_
      rintro e w4 ⟨rfl, hb4⟩
      have hn4 := B1.out.trans (hb4.mono B1.out.size)
      have q4 := (hb4.block w.heap.size (by omega)).trans B3.out
      have C1 := hide hn4
      have C2 := hide q4
      clear hb4 hn4 q4
      go_wp2_with fail
      refine hK.out _ _ ?_ (fun hHeld => ?_)
      · exact trivial
      clear hK K
      try simp only [Act.put, List.setIfInBounds_toArray, List.set_cons_zero, List.set_cons_succ]
      refine wpAnyH_ready (rs := [3]) (by kernel_rfl) (by simp) ?_
      refine step_store_row (o := { dst := none, op := Op.store 49 (Operand.tmp 4) (Operand.tmp 21), type := 0, pos := "sha.go:33", after := #[{ on := 2, ground := Ground.data }, { on := 2, ground := Ground.chain }, { on := 0, ground := Ground.phase }, { on := 1, ground := Ground.phase }, { on := 2, ground := Ground.phase }], guard := none }) rfl rfl 49 _ _ rfl w.heap.size (S.v32 (S.keyed ks pad)) rfl rfl 49 _ C2.out (size_keyed ks pad) (zeros_keyed ks pad) (S.v32_one _) trivial ?_
      simp only [Act.put]
      refine wpAnyH_done (by kernel_rfl) ?_ _
      refine NoPanic.normal ?_
      go_wp2
      exact bodyPost_ret (v := .agg (S.v32 (S.keyed ks pad))) (results_cell_row (g := w.heap.size) (t := 49) (fr := (0, 0)) Tryd.results26 _ _ _ _ rfl (setRow_heap _ _ _ _ _ _ C2.out) Tryd.underlying49 rfl (size_keyed ks pad)) rfl ⟨rfl, below_setRow C1.out (Nat.le_refl _) _⟩
end Go.Proofs.YtdfjbajehcedaaaDoor
