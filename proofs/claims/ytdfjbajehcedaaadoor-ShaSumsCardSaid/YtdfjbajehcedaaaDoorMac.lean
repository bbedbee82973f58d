/- Mac: of a key and a text that lie in memory, Mac answers the plain function's tag; nothing that was there changes. -/
import Derived.Test.YtdfjbajehcedaaaDoorKeyed
namespace Go.Proofs.YtdfjbajehcedaaaDoor
open Go.RowKit
theorem S.fin_length (st : List UInt32) (n : Nat) (bs : List UInt8) : (S.fin st n bs).length = 32 := S.dig_length _ _
def S.mac (ks bs : List UInt8) : List UInt8 := S.fin (S.keyed ks 92) 64 (S.fin (S.keyed ks 54) 64 bs)
theorem S.mac_length (ks bs : List UInt8) : (S.mac ks bs).length = 32 := S.fin_length _ _ _
theorem size_mac (ks bs : List UInt8) : (Tryd.prog.info? 23).map (·.size) = some (S.v8 (S.mac ks bs)).size := by rw [S.v8_size, S.mac_length]; exact size23
theorem zeros_mac (ks bs : List UInt8) : (S.v8 (S.zeros 32)).size = (S.v8 (S.mac ks bs)).size := by rw [S.v8_size, S.v8_size, S.mac_length]; rfl
theorem size_fin (st : List UInt32) (n : Nat) (bs : List UInt8) : (Tryd.prog.info? 23).map (·.size) = some (S.v8 (S.fin st n bs)).size := by rw [S.v8_size, S.fin_length]; exact size23
theorem zeros_fin (st : List UInt32) (n : Nat) (bs : List UInt8) : (S.v8 (S.zeros 32)).size = (S.v8 (S.fin st n bs)).size := by rw [S.v8_size, S.v8_size, S.fin_length]; rfl
/-- A digest that lies in a block of its own, sliced whole. -/
theorem sliceAt_row {w : World} {g : Nat} {st : List UInt32} {n : Nat} {bs : List UInt8} {t : TypeId} (h : w.heap[g]? = some (.cells (S.v8 (S.fin st n bs)) t (0, 0))) : SliceAt w (.slice (some ⟨g, 0, none⟩) 32 32) (S.fin st n bs) :=
  Or.inr (Or.inr ⟨g, 0, 32, by rw [S.fin_length], by rw [S.fin_length]; omega, by rw [S.fin_length]; omega, block_lt_of_row h, fun j hj => by rw [Nat.zero_add]; exact v8_cell h j hj⟩)
theorem keyed_54 (v : Value) (ks : List UInt8) (w : World) (hv : SliceAt w v ks) (hK : KAt w) :
   Calls Tryd.prog 26 #[v, .int .u8 54] w fun e w' => e = .returned (.agg (S.v32 (S.keyed ks 54))) ∧ Below w.heap.size w w' := keyed_any v ks 54 w hv hK
theorem keyed_92 (v : Value) (ks : List UInt8) (w : World) (hv : SliceAt w v ks) (hK : KAt w) :
   Calls Tryd.prog 26 #[v, .int .u8 92] w fun e w' => e = .returned (.agg (S.v32 (S.keyed ks 92))) ∧ Below w.heap.size w w' := keyed_any v ks 92 w hv hK
theorem finish_64 (st : List UInt32) (hst : st.length = 8) (v : Value) (bs : List UInt8) (w : World) (hv : SliceAt w v bs) (hK : KAt w) :
   Calls Tryd.prog 25 #[.agg (S.v32 st), .int .u64 64, v] w fun e w' => e = .returned (.agg (S.v8 (S.fin st 64 bs))) ∧ Below w.heap.size w w' :=
  finish_any st hst 64 (by omega) v bs w hv hK
theorem finish_mac (ks bs : List UInt8) (v : Value) (w : World) (hv : SliceAt w v (S.fin (S.keyed ks 54) 64 bs)) (hK : KAt w) :
   Calls Tryd.prog 25 #[.agg (S.v32 (S.keyed ks 92)), .int .u64 64, v] w fun e w' => e = .returned (.agg (S.v8 (S.mac ks bs))) ∧ Below w.heap.size w w' := by
  have h : S.mac ks bs = S.fin (S.keyed ks 92) 64 (S.fin (S.keyed ks 54) 64 bs) := by rw [S.mac]
  rw [h]
  exact finish_64 _ (S.keyed_length _ _) v _ w hv hK
set_option maxHeartbeats 800000 in
set_option maxRecDepth 100000 in
theorem Mac_any (v : Value) (ks : List UInt8) (u : Value) (bs : List UInt8) (w : World) (hv : SliceAt w v ks) (hu : SliceAt w u bs) (hK : KAt w) :
   Calls Tryd.prog 10 #[v, u] w fun e w' => e = .returned (.agg (S.v8 (S.mac ks bs))) ∧ Below w.heap.size w w' := by
  have HV := hide hv
  have HU := hide hu
  have HK := hide hK
  have h0 := hK.pos
  clear hv hu hK
  go_enter Tryd.func10, Tryd.ntmps10
  go_wp2_with fail
  generalize hW0 : w.alloc _ = W0
  have r0 : W0.heap[w.heap.size]? = some (.cells (S.v8 (S.zeros 32)) 23 (0, 0)) := by rw [← hW0]; exact heap_alloc_new _ _
  have hn0 : Below w.heap.size w W0 := by rw [← hW0]; exact (Below.refl _ _).alloc (Nat.le_refl _) _
  clear hW0
  refine (keyed_54 v ks W0 (HV.out.below hn0 (Nat.le_refl _)) (HK.out.below hn0 h0)).mono ?_
  rintro e w1 ⟨rfl, hb1⟩
  have hz0 := block_lt_of_row r0
  have hn1 : Below w.heap.size w w1 := hn0.trans (hb1.mono (by omega))
  have r1 := (hb1.block w.heap.size hz0).trans r0
  have hz1 := block_lt_of_row r1
  have A1 := hide r1
  have A2 := hide hn1
  clear r0 hn0 hb1 hz0 r1 hn1
  go_wp2_with fail
  refine (finish_64 (S.keyed ks 54) (S.keyed_length _ _) u bs w1 (HU.out.below A2.out (Nat.le_refl _)) (HK.out.below A2.out h0)).mono ?_
  rintro e w2 ⟨rfl, hb2⟩
  have hn2 : Below w.heap.size w w2 := A2.out.trans (hb2.mono (by omega))
  have r2 := (hb2.block w.heap.size hz1).trans A1.out
  have hz2 := block_lt_of_row r2
  have B1 := hide r2
  have B2 := hide hn2
  clear hb2 r2 hn2 A1 A2 hz1
  clear w1
  go_wp2_with (refine wpList_store_row rfl 23 _ _ rfl w2.heap.size (S.v8 (S.fin (S.keyed ks 54) 64 bs)) rfl rfl 23 (S.v8 (S.zeros 32)) (heap_alloc_new _ _) (size_fin _ _ _) (zeros_fin _ _ _) (S.v8_one _) ?_)
  simp only [Act.put]
  generalize hW2 : World.setRow _ w2.heap.size (S.v8 (S.fin (S.keyed ks 54) 64 bs)) = W2
  have r1 : W2.heap[w2.heap.size]? = some (.cells (S.v8 (S.fin (S.keyed ks 54) 64 bs)) 23 (0, 0)) := by rw [← hW2]; exact setRow_heap _ _ _ _ _ _ (heap_alloc_new _ _)
  have q1 : W2.heap[w.heap.size]? = some (.cells (S.v8 (S.zeros 32)) 23 (0, 0)) := by rw [← hW2]; exact (setRow_other _ _ _ _ (by omega)).trans ((heap_alloc_old _ _ (by omega)).trans B1.out)
  have hn : Below w.heap.size w W2 := by rw [← hW2]; exact below_setRow (B2.out.alloc (by omega) _) (by omega) _
  clear hW2 B1 B2 W0
  generalize w2.heap.size = g at *
  clear w2
  have hg2 := block_lt_of_row r1
  have D1 := hide hn
  have D2 := hide r1
  have D3 := hide q1
  clear hn r1 q1
  refine wp_region_noPanic ?_
  refine wp_region_held_drew (S := (fun _ => True)) follows trivial (fun hHeld => ?_)
  refine wpAnyH_take (i := 0) (oi := { dst := some 10, op := Op.move (Operand.tmp 0), type := 26, pos := "sha.go:24", after := #[], guard := none }) (v := ?_) rfl (by kernel_rfl) (by kernel_rfl) (by kernel_rfl) (fun _ _ _ h => h) (Or.inl ⟨by rfl, ?_⟩) (by assumption) ?_
  rotate_left
  · intro w hSw
    clear hSw
    go_simp
    all_goals with_reducible rfl
  simp only [Act.put, List.setIfInBounds_toArray, List.set_cons_zero, List.set_cons_succ]
  refine wpAnyH_take (i := 2) (oi := { dst := some 12, op := Op.slice 23 (Operand.tmp 5) none none none, type := 26, pos := "sha.go:24", after := #[], guard := none }) (v := ?_) rfl (by kernel_rfl) (by kernel_rfl) (by kernel_rfl) (fun _ _ _ h => h) (Or.inl ⟨by rfl, ?_⟩) (by assumption) ?_
  rotate_left
  · intro w hSw
    clear hSw
    go_simp
    all_goals with_reducible rfl
  simp only [Act.put, List.setIfInBounds_toArray, List.set_cons_zero, List.set_cons_succ]
  refine wpAnyH_ready (rs := [1]) (by kernel_rfl) (by simp) ?_
  refine AllReadyH.cons (o := { dst := some 11, op := Op.call { callee := Callee.value (Operand.func 26), args := #[Operand.tmp 10, Operand.const (Value.int IntKind.u8 92)], argTypes := #[26, 5] }, type := 49, pos := "sha.go:24", after := #[{ on := 0, ground := Ground.data }], guard := none }) rfl (fun K hK => ?_) AllReadyH.nil
  go_simp
  refine (keyed_92 v ks _ (HV.out.below D1.out.drew (Nat.le_refl _)) (HK.out.below D1.out.drew h0)).mono ?_
  rintro e w3 ⟨rfl, hb3⟩
  have hn3 := D1.out.drew.trans (hb3.mono D1.out.size)
  have r3 := (hb3.block g hg2).trans D2.out
  have q3 := (hb3.block w.heap.size (by show w.heap.size < W2.heap.size; omega)).trans D3.out
  have B1 := hide hn3
  have B2 := hide r3
  have B3 := hide q3
  clear hb3 hn3 r3 q3
  go_wp2_with fail
  refine hK.out _ _ ?_ (fun hHeld => ?_)
  · exact trivial
  clear hK K
  try simp only [Act.put, List.setIfInBounds_toArray, List.set_cons_zero, List.set_cons_succ]
  refine wpAnyH_ready (rs := [3]) (by kernel_rfl) (by simp) ?_
  refine AllReadyH.cons (o := { dst := some 13, op := Op.call { callee := Callee.value (Operand.func 25), args := #[Operand.tmp 11, Operand.const (Value.int IntKind.u64 64), Operand.tmp 12], argTypes := #[49, 51, 26] }, type := 23, pos := "sha.go:24", after := #[{ on := 1, ground := Ground.data }, { on := 2, ground := Ground.data }, { on := 1, ground := Ground.chain }], guard := none }) rfl (fun K hK => ?_) AllReadyH.nil
  go_simp
  refine (finish_mac ks bs _ _ (sliceAt_row B2.out) (HK.out.below B1.out h0)).mono ?_
  rintro e w4 ⟨rfl, hb4⟩
  have hn4 := B1.out.trans (hb4.mono B1.out.size)
  have q4 := (hb4.block w.heap.size (block_lt_of_row B3.out)).trans B3.out
  have C1 := hide hn4
  have C2 := hide q4
  clear hb4 hn4 q4
  go_wp2_with fail
  refine hK.out _ _ ?_ (fun hHeld => ?_)
  · exact trivial
  clear hK K
  try simp only [Act.put, List.setIfInBounds_toArray, List.set_cons_zero, List.set_cons_succ]
  refine wpAnyH_ready (rs := [4]) (by kernel_rfl) (by simp) ?_
  refine step_store_row (o := { dst := none, op := Op.store 23 (Operand.tmp 4) (Operand.tmp 13), type := 0, pos := "sha.go:24", after := #[{ on := 3, ground := Ground.data }, { on := 3, ground := Ground.chain }, { on := 0, ground := Ground.phase }, { on := 1, ground := Ground.phase }, { on := 2, ground := Ground.phase }, { on := 3, ground := Ground.phase }], guard := none }) rfl rfl 23 _ _ rfl w.heap.size (S.v8 (S.mac ks bs)) rfl rfl 23 _ C2.out (size_mac ks bs) (zeros_mac ks bs) (S.v8_one _) trivial ?_
  simp only [Act.put]
  refine wpAnyH_done (by kernel_rfl) ?_ _
  refine NoPanic.normal ?_
  go_wp2
  exact bodyPost_ret (v := .agg (S.v8 (S.mac ks bs))) (results_cell_row (g := w.heap.size) (t := 23) (fr := (0, 0)) Tryd.results10 _ _ _ _ rfl (setRow_heap _ _ _ _ _ _ C2.out) Tryd.underlying23 rfl (size_mac ks bs)) rfl ⟨rfl, below_setRow C1.out (Nat.le_refl _) _⟩
end Go.Proofs.YtdfjbajehcedaaaDoor
