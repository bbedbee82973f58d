/- What the closed sentence needs besides: Join of nothing, a digest cut by -1, a constant text made to bytes, a digest built in place. -/
import Derived.Test.YtdfjbajehcedaaaDoorCuts
import Derived.Test.YtdfjbajehcedaaaDoorMac
import Derived.Lib.UnsafeStr
namespace Go.Proofs.YtdfjbajehcedaaaDoor
open Go.RowKit
set_option maxHeartbeats 400000 in
set_option maxRecDepth 100000 in
theorem join_none (w : World) : Calls Tryd.prog 12 #[.slice none 0 0] w fun e w' => e = .returned (.slice (some ⟨w.heap.size, 0, none⟩) 0 0) ∧ Below w.heap.size w w' := by
  have hmk : ∀ w, (Instr.makeSlice 26 (.int .i64 0) (.int .i64 0)).run Tryd.prog w = .ok (.slice (some ⟨w.heap.size, 0, none⟩) 0 0) (w.alloc (.cells #[] 5)) := fun _ => by kernel_rfl
  go_enter Tryd.func12, Tryd.ntmps12
  go_wp2
  refine wp_loop_rounds 1 ?_
  rw [rounds_succ]
  go_wp2
  refine wp_loop_rounds 1 ?_
  rw [rounds_succ]
  go_wp2
  go_ret
  exact ⟨rfl, (Below.refl _ _).alloc (Nat.le_refl _) _⟩
theorem size_cut (d : List UInt8) (a : Nat) (hd : d.length = 32) : (Tryd.prog.info? 23).map (·.size) = some (S.v8 (S.cut d a)).size := by rw [S.v8_size, S.cut_length, hd]; exact size23
theorem zeros_cut (d : List UInt8) (a : Nat) (hd : d.length = 32) : (S.v8 (S.zeros 32)).size = (S.v8 (S.cut d a)).size := by rw [S.v8_size, S.v8_size, S.cut_length, hd]; rfl
set_option maxHeartbeats 400000 in
set_option maxRecDepth 100000 in
theorem cut_m1 (d : List UInt8) (hd : d.length = 32) (w : World) :
   Calls Tryd.prog 11 #[.agg (S.v8 d), .int .i64 (-1)] w fun e w' => e = .returned (.agg (S.v8 (S.cut d 0))) ∧ Below w.heap.size w w' := by
  have HD := hide hd
  clear hd
  go_enter Tryd.func11, Tryd.ntmps11
  go_wp2
  go_loopw [5] (fun i wr => ∃ n : Nat, n ≤ 32 ∧ i = .int .i64 (n : Int) ∧ wr.heap[w.heap.size]? = some (.cells (S.v8 (S.zero d 0 n)) 23 (0, 0)) ∧ wr.heap[w.heap.size + 1]? = some (.cells (S.v8 (S.zeros 32)) 23 (0, 0)) ∧ Below w.heap.size w wr)
    (fun i _ => 32 - (intOf i).toNat)
  case atStart => exact ⟨0, by omega, rfl, heap_alloc2_old _ _ _, heap_alloc2_new _ _ _, ((Below.refl _ _).alloc (Nat.le_refl _) _).alloc (by simp) _⟩
  case round =>
    obtain ⟨k, hk, rfl, r0, r1, hnx⟩ := hrel
    have hl : (S.zero d 0 k).length = 32 := by rw [S.zero_length]; exact HD.out
    by_cases hlt : k < 32
    · have ce := v8_cell r0 k (by omega)
      have cf := frozen_of_row _ _ k _ _ r0
      have R1 := v8_set r0 k 0
      have hnext : (S.zero d 0 k).set k 0 = S.zero d 0 (k + 1) := by show _ = (S.zero d 0 k).set (0 + k) 0; rw [Nat.zero_add]
      rw [hnext] at R1
      have q1 : (0 : Int) ≤ (k : Int) := by omega
      have q2 : (k : Int) < 32 := by omega
      have A := hide R1
      have B := hide r1
      have C := hide hnx
      clear R1 r0 r1 hnx hl hnext
      go_wp2
      go_roundw
      case rel => exact ⟨k + 1, by omega, by go_num, A.out, (heap_setCell_other _ _ _ _ (by simp)).trans B.out, C.out.setCell (by exact Nat.le_refl _) _⟩
      case measure => simp [intOf]; omega
    · obtain rfl : k = 32 := by omega
      have A : Hid (wr.heap[w.heap.size]? = some (.cells (S.v8 (S.cut d 0)) 23 (0, 0))) := r0
      have B := hide r1
      have C := hide hnx
      clear r0 r1 hnx hl
      go_wp2_with (first | refine wpList_load_row rfl 23 _ rfl w.heap.size rfl 23 _ _ _ A.out Tryd.underlying23 rfl (size_cut d 0 HD.out) ?_ | refine wpList_store_row rfl 23 _ _ rfl (w.heap.size + 1) (S.v8 (S.cut d 0)) rfl rfl 23 _ B.out (size_cut d 0 HD.out) (zeros_cut d 0 HD.out) (S.v8_one _) ?_)
      exact bodyPost_ret (v := .agg (S.v8 (S.cut d 0))) (results_cell_row (g := w.heap.size + 1) (t := 23) (fr := (0, 0)) Tryd.results11 _ _ _ _ rfl (setRow_heap _ _ _ _ _ _ B.out) Tryd.underlying23 rfl (size_cut d 0 HD.out)) rfl ⟨rfl, below_setRow C.out (by omega) _⟩
theorem conv_at (w : World) (b : Nat) (C : Array Value) (n c : Nat) (h : w.heap[b]? = some (.cells C 5 (0, 0))) :
    (convert 26 26 (.slice (some ⟨b, 0, none⟩) n c)).run Tryd.prog w = .ok (.slice (some ⟨b, 0, none⟩) n c) (w.freeze ⟨b, C.size, none⟩ 1) := by
  have hsh : w.shape? b = some (5, C.size) := by unfold World.shape?; rw [h]
  simp [convert, run_underlying Tryd.underlying26, run_underlying Tryd.underlying5, markStringish, hsh]
theorem freeze_other (w : World) (p : Addr) (n k : Nat) (h : k ≠ p.block) : (w.freeze p n).heap[k]? = w.heap[k]? := by
  unfold World.freeze
  split
  · rfl
  · simp only [Array.getElem?_modify]
    rw [if_neg (fun e => h e.symm)]
theorem freeze_cell (w : World) (b j n k : Nat) (C : Array Value) (h : w.heap[b]? = some (.cells C 5 (0, 0))) : (w.freeze ⟨b, k, none⟩ n).cell? ⟨b, j, none⟩ = C[j]? := by
  unfold World.freeze
  split
  · exact cell_of_row w b j C 5 _ h
  · have h2 : (w.heap.modify b fun
      | .cells c elem (lo, hi) => .cells c elem (if lo == hi then (k, k + n) else (min lo k, max hi (k + n)))
      | o => o)[b]? = some (.cells C 5 (k, k + n)) := by
      rw [Array.getElem?_modify, if_pos rfl, h]; rfl
    exact cell_of_row _ b j C 5 _ h2
def HeldN (w : World) (g : Nat) (w' : World) : Prop := KAt w' ∧ Below w.heap.size w w' ∧ g < w'.heap.size ∧ 0 < w.heap.size ∧ w.heap.size ≤ g
theorem heldN_below {w W w' : World} {g : Nat} {cs : List Value} (h : W.rangeAt g 0 cs ∧ HeldN w g W) (hb : Below W.heap.size W w') : w'.rangeAt g 0 cs ∧ HeldN w g w' := by
  obtain ⟨h1, h2, h4, h5, h6, h7⟩ := h
  exact ⟨fun j u hu => (hb.cell (p := ⟨g, 0 + j, none⟩) (by exact h5)).trans (h1 j u hu), h2.below hb (Nat.lt_of_lt_of_le h6 h4.size), h4.trans (hb.mono h4.size), Nat.lt_of_lt_of_le h5 hb.size, h6, h7⟩
theorem heldN_alloc {w W : World} {g : Nat} {cs : List Value} (o : Obj) (h : W.rangeAt g 0 cs ∧ HeldN w g W) : (W.alloc o).rangeAt g 0 cs ∧ HeldN w g (W.alloc o) :=
  heldN_below h ((Below.refl _ _).alloc (Nat.le_refl _) _)
theorem heldN_freeze {w W : World} {g : Nat} {cs : List Value} (p : Addr) (n : Nat) (h : W.rangeAt g 0 cs ∧ HeldN w g W) (hp : g < p.block) : (W.freeze p n).rangeAt g 0 cs ∧ HeldN w g (W.freeze p n) := by
  obtain ⟨h1, h2, h4, h5, h6, h7⟩ := h
  have hb : Below w.heap.size w (W.freeze p n) := Lib.below_freeze h4 (by omega) n
  have hK : KAt (W.freeze p n) := fun j hj => (World.cell?_of_block (freeze_other W p n 0 (by omega))).trans (h2 j hj)
  have hs : (W.freeze p n).heap.size = W.heap.size := by unfold World.freeze; split <;> simp
  exact ⟨fun j u hu => (World.cell?_of_block (freeze_other W p n g (by omega))).trans (h1 j u hu), hK, hb, by omega, h6, h7⟩
theorem heldN_K {w W : World} {g : Nat} {cs : List Value} (h : W.rangeAt g 0 cs ∧ HeldN w g W) : KAt W := h.2.1
theorem heldN_nx {w W : World} {g : Nat} {cs : List Value} (h : W.rangeAt g 0 cs ∧ HeldN w g W) : Below w.heap.size w W := h.2.2.1
theorem heldN_lt {w W : World} {g : Nat} {cs : List Value} (h : W.rangeAt g 0 cs ∧ HeldN w g W) : g < W.heap.size := h.2.2.2.1
theorem yieldsIf_build {P : Program} {ops : Array Oper} {S : World → Prop} {op : Oper} {a : Act} (hw : Region.wanted op (yielded ops a.tmps) = true) (t : TypeId) (parts : Array (Nat × Operand)) (ho : op.op = .build t parts) (cs : Array Value)
    (hf : P.built t (parts.map fun (i, x) => (i, a.eval x)).toList = some cs) : YieldsIf P ops S op (.agg cs) a :=
  .inl ⟨hw, fun w _ => by
    unfold execOp
    simp only [ho, Sem.run_bind, run_build w t _ cs hf, Result.andThen_ok, Sem.run_pure]⟩
def S.key3 : List UInt8 := [107, 101, 121]
def S.fox : List UInt8 := [84, 104, 101, 32, 113, 117, 105, 99, 107, 32, 98, 114, 111, 119, 110, 32, 102, 111, 120, 32, 106, 117, 109, 112, 115, 32, 111, 118, 101, 114, 32, 116, 104, 101, 32, 108, 97, 122, 121, 32, 100, 111, 103]
def S.onesTo : Nat → List UInt8
  | 0 => S.zeros 32
  | k + 1 => (S.onesTo k).set k 255
theorem S.onesTo_length (k : Nat) : (S.onesTo k).length = 32 := by
  induction k with
  | zero => rfl
  | succ k ih => simp [S.onesTo, ih]
def S.two : List UInt8 := [255, 255] ++ S.zeros 30
set_option maxRecDepth 1000000 in
theorem hex_mac : (S.hexS (S.mac S.key3 S.fox) 32).data.toList = [102, 55, 98, 99, 56, 51, 102, 52, 51, 48, 53, 51, 56, 52, 50, 52, 98, 49, 51, 50, 57, 56, 101, 54, 97, 97, 54, 102, 98, 49, 52, 51, 101, 102, 52, 100, 53, 57, 97, 49, 52, 57, 52, 54, 49, 55, 53, 57, 57, 55, 52, 55, 57, 100, 98, 99, 50, 100, 49, 97, 51, 99, 100, 56] := by decide +kernel
theorem cut_two : S.cut (S.onesTo 32) 2 = S.two := by decide +kernel
theorem cut_nought : S.cut (S.onesTo 32) 0 = S.zeros 32 := by decide +kernel
theorem cut_all : S.cut (S.onesTo 32) 40 = S.onesTo 32 := by decide +kernel
theorem cutN (cs : List Value) (d : List UInt8) (hcs : Hid (cs = S.v8l d)) (hd : d.length = 32) (w : World) :
   (Calls Tryd.prog 11 #[.agg cs.toArray, .int .i64 2] w fun e w' => e = .returned (.agg (S.v8 (S.cut d 2))) ∧ Below w.heap.size w w') ∧
   (Calls Tryd.prog 11 #[.agg cs.toArray, .int .i64 0] w fun e w' => e = .returned (.agg (S.v8 (S.cut d 0))) ∧ Below w.heap.size w w') ∧
   (Calls Tryd.prog 11 #[.agg cs.toArray, .int .i64 (-1)] w fun e w' => e = .returned (.agg (S.v8 (S.cut d 0))) ∧ Below w.heap.size w w') ∧
   (Calls Tryd.prog 11 #[.agg cs.toArray, .int .i64 40] w fun e w' => e = .returned (.agg (S.v8 (S.cut d 40))) ∧ Below w.heap.size w w') := by
  rw [hcs.out]
  exact ⟨cut_any d hd 2 (by omega) w, cut_any d hd 0 (by omega) w, cut_m1 d hd w, cut_any d hd 40 (by omega) w⟩
end Go.Proofs.YtdfjbajehcedaaaDoor
