/- keyBlock: a key brought to the length of a block is the plain function's block; nothing that was there changes. -/
import Derived.Test.YtdfjbajehcedaaaDoorSum
namespace Go.Proofs.YtdfjbajehcedaaaDoor
open Go.RowKit
theorem SliceAt.shape {w : World} {v : Value} {bs : List UInt8} (h : SliceAt w v bs) : ∃ ao len cap, v = .slice ao len cap ∧ len = bs.length ∧ len ≤ 140737488355328 ∧ Src w ao bs := by
  rcases h with ⟨rfl, rfl⟩ | ⟨a, cap, rfl, _, rfl⟩ | ⟨b, off, cap, rfl, h1, h2, h3, h4⟩
  · exact ⟨_, _, _, rfl, rfl, by omega, fun hp => absurd hp (by simp)⟩
  · exact ⟨_, _, _, rfl, rfl, by omega, fun hp => absurd hp (by simp)⟩
  · exact ⟨_, _, _, rfl, rfl, by omega, fun _ => ⟨b, off, rfl, h3, h4⟩⟩
def S.keyb (ks : List UInt8) : List UInt8 := if 64 < ks.length then splice (S.zeros 64) 0 (S.sum ks) else splice (S.zeros 64) 0 ks
theorem S.keyb_length (ks : List UInt8) : (S.keyb ks).length = 64 := by
  unfold S.keyb
  split
  · rw [length_splice _ _ _ (by rw [S.sum_length, S.zeros_length]; omega), S.zeros_length]
  · rw [length_splice _ _ _ (by rw [S.zeros_length]; omega), S.zeros_length]
theorem size64 : (Tryd.prog.info? 64).map (·.size) = some 64 := by kernel_rfl
theorem size_keyb (ks : List UInt8) : (Tryd.prog.info? 64).map (·.size) = some (S.v8 (S.keyb ks)).size := by rw [S.v8_size, S.keyb_length]; exact size64
theorem zeros_keyb (ks : List UInt8) : (S.v8 (S.zeros 64)).size = (S.v8 (S.keyb ks)).size := by rw [S.v8_size, S.v8_size, S.keyb_length]; rfl
theorem spl_rowT {w2 : World} {g n : Nat} {bs : List UInt8} {t : TypeId} (h : Hid (w2.heap[g]? = some (.cells (splice (S.v8l (S.zeros n)) 0 (S.v8l bs)).toArray t (0, 0)))) : w2.heap[g]? = some (.cells (S.v8 (splice (S.zeros n) 0 bs)) t (0, 0)) := by
  have := h.out
  rw [S.v8l_splice] at this
  exact this
set_option maxHeartbeats 800000 in
set_option maxRecDepth 100000 in
theorem keyb_short (ao : Option Addr) (len cap : Nat) (ks : List UInt8) (hlen : len = ks.length) (hs : len ≤ 64) (w : World) (hsrc : Src w ao ks) :
   Calls Tryd.prog 36 #[.slice ao len cap] w fun e w' => e = .returned (.agg (S.v8 (S.keyb ks))) ∧ Below w.heap.size w w' := by
  have q1 : (len : Int) ≤ 64 := by omega
  have HS := hide hsrc
  have HN : Hid ((S.v8l ks).length = Nat.min len 64) := by show (S.v8l ks).length = Nat.min len 64; rw [S.v8l_length, hlen]; show _ = min _ _; omega
  have HF : Hid (0 + (S.v8l ks).length ≤ (S.v8l (S.zeros 64)).length) := by show 0 + (S.v8l ks).length ≤ (S.v8l (S.zeros 64)).length; rw [S.v8l_length, S.v8l_length, S.zeros_length]; omega
  have HB : Hid (S.keyb ks = splice (S.zeros 64) 0 ks) := by show S.keyb ks = splice (S.zeros 64) 0 ks; unfold S.keyb; rw [if_neg (by omega)]
  have HNX : Hid (Below w.heap.size w ((w.alloc (.cells (S.v8 (S.zeros 64)) 64)).alloc (.cells (S.v8 (S.zeros 64)) 64))) := ((Below.refl _ _).alloc (Nat.le_refl _) _).alloc (by simp) _
  have HR : Hid (((w.alloc (.cells (S.v8 (S.zeros 64)) 64)).alloc (.cells (S.v8 (S.zeros 64)) 64)).heap[w.heap.size]? = some (.cells (S.v8 (S.zeros 64)) 64 (0, 0))) := heap_alloc2_old _ _ _
  clear hsrc hlen
  go_enter Tryd.func36, Tryd.ntmps36
  go_wp2_with (first | (refine wpList_copy_splice rfl (.tmp 13) (.tmp 14) 26 26 rfl 5 Tryd.underlying26 size5 _ _ _ _ _ _ rfl rfl (w.heap.size + 1) 0 (S.v8l (S.zeros 64)) 64 (heap_alloc2_new _ _ _) (S.v8l ks) HN.out (copy_src _ HS.out HNX.out) HF.out (S.v8l_one _) (w.heap.size + 1) ((w.alloc (.cells (S.v8 (S.zeros 64)) 64)).alloc (.cells (S.v8 (S.zeros 64)) 64)) (Below.refl _ _) (Nat.le_refl _) ?_; intro w2 HG2 hB2; have HG3 := hide (spl_rowT HG2); clear HG2; rw [← HB.out] at HG3; have HR2 := hide ((hB2.block w.heap.size (by omega)).trans HR.out); have HN2 := hide (HNX.out.trans (hB2.mono (by omega))); clear hB2) | refine wpList_load_row rfl 64 _ rfl (w.heap.size + 1) rfl 64 _ _ _ HG3.out Tryd.underlying64 rfl (size_keyb ks) ?_ | refine wpList_store_row rfl 64 _ _ rfl w.heap.size (S.v8 (S.keyb ks)) rfl rfl 64 _ HR2.out (size_keyb ks) (zeros_keyb ks) (S.v8_one _) ?_)
  exact bodyPost_ret (v := .agg (S.v8 (S.keyb ks))) (results_cell_row (g := w.heap.size) (t := 64) (fr := (0, 0)) Tryd.results36 _ _ _ _ rfl (setRow_heap _ _ _ _ _ _ HR2.out) Tryd.underlying64 rfl (size_keyb ks)) rfl ⟨rfl, below_setRow HN2.out (Nat.le_refl _) _⟩
set_option maxHeartbeats 800000 in
set_option maxRecDepth 100000 in
theorem keyb_long (ao : Option Addr) (len cap : Nat) (ks : List UInt8) (hlen : len = ks.length) (hs : 64 < len) (hs2 : len ≤ 140737488355328) (w : World) (hv : SliceAt w (.slice ao len cap) ks) (hK : KAt w) :
   Calls Tryd.prog 36 #[.slice ao len cap] w fun e w' => e = .returned (.agg (S.v8 (S.keyb ks))) ∧ Below w.heap.size w w' := by
  have q1 : (64 : Int) < (len : Int) := by omega
  have HV := hide hv
  have HK := hide hK
  have h0 := hK.pos
  have HB : Hid (S.keyb ks = splice (S.zeros 64) 0 (S.sum ks)) := by show S.keyb ks = splice (S.zeros 64) 0 (S.sum ks); unfold S.keyb; rw [if_pos (by omega)]
  have HNX : Hid (Below w.heap.size w ((w.alloc (.cells (S.v8 (S.zeros 64)) 64)).alloc (.cells (S.v8 (S.zeros 64)) 64))) := ((Below.refl _ _).alloc (Nat.le_refl _) _).alloc (by simp) _
  have HR : Hid (((w.alloc (.cells (S.v8 (S.zeros 64)) 64)).alloc (.cells (S.v8 (S.zeros 64)) 64)).heap[w.heap.size]? = some (.cells (S.v8 (S.zeros 64)) 64 (0, 0))) := heap_alloc2_old _ _ _
  have HR1 : Hid (((w.alloc (.cells (S.v8 (S.zeros 64)) 64)).alloc (.cells (S.v8 (S.zeros 64)) 64)).heap[w.heap.size + 1]? = some (.cells (S.v8 (S.zeros 64)) 64 (0, 0))) := heap_alloc2_new _ _ _
  clear hlen hv hK
  go_enter Tryd.func36, Tryd.ntmps36
  go_wp2_with fail
  refine (Sum_any _ ks ((w.alloc (.cells (S.v8 (S.zeros 64)) 64)).alloc (.cells (S.v8 (S.zeros 64)) 64)) (HV.out.below HNX.out (Nat.le_refl _)) (HK.out.below HNX.out h0)).mono ?_
  rintro e w1 ⟨rfl, hb1⟩
  have hz1 : w.heap.size + 2 ≤ w1.heap.size := by have := hb1.size; simp at this; omega
  have a0 := (hb1.block w.heap.size (by simp; omega)).trans HR.out
  have a1 := (hb1.block (w.heap.size + 1) (by simp)).trans HR1.out
  have hn1 := HNX.out.trans (hb1.mono (by simp; omega))
  have A0 := hide a0
  have A1 := hide a1
  have A2 := hide hn1
  clear hb1 HR HR1 HNX a0 a1 hn1
  go_wp2_with (refine wpList_store_row rfl 23 _ _ rfl w1.heap.size (S.v8 (S.sum ks)) rfl rfl 23 (S.v8 (S.zeros 32)) (heap_alloc_new _ _) (size_sum ks) (zeros_sum ks) (S.v8_one _) ?_)
  simp only [Act.put]
  generalize hW1 : World.setRow _ w1.heap.size (S.v8 (S.sum ks)) = W1
  have r2 : W1.heap[w1.heap.size]? = some (.cells (S.v8 (S.sum ks)) 23 (0, 0)) := by rw [← hW1]; exact setRow_heap _ _ _ _ _ _ (heap_alloc_new _ _)
  have r0 : W1.heap[w.heap.size]? = some (.cells (S.v8 (S.zeros 64)) 64 (0, 0)) := by rw [← hW1]; exact (setRow_other _ _ _ _ (by omega)).trans ((heap_alloc_old _ _ (by omega)).trans A0.out)
  have r1 : W1.heap[w.heap.size + 1]? = some (.cells (S.v8 (S.zeros 64)) 64 (0, 0)) := by rw [← hW1]; exact (setRow_other _ _ _ _ (by omega)).trans ((heap_alloc_old _ _ (by omega)).trans A1.out)
  have hn : Below w.heap.size w W1 := by rw [← hW1]; exact below_setRow (A2.out.alloc (by omega) _) (by omega) _
  clear hW1 A0 A1 A2
  generalize w1.heap.size = g at *
  clear w1
  have HR := hide r0
  have HR1 := hide r1
  have HNX := hide hn
  have HS : Hid (Src W1.drew (some ⟨g, 0, none⟩) (S.sum ks)) := fun _ => ⟨g, 0, rfl, block_lt_of_row r2, fun j hj => by rw [Nat.zero_add]; exact v8_cell (w := W1.drew) r2 j hj⟩
  have HN : Hid ((S.v8l (S.sum ks)).length = Nat.min 32 64) := by show (S.v8l (S.sum ks)).length = Nat.min 32 64; rw [S.v8l_length, S.sum_length]; rfl
  have HF : Hid (0 + (S.v8l (S.sum ks)).length ≤ (S.v8l (S.zeros 64)).length) := by show 0 + (S.v8l (S.sum ks)).length ≤ (S.v8l (S.zeros 64)).length; rw [S.v8l_length, S.v8l_length, S.zeros_length, S.sum_length]; omega
  clear r0 r1 r2 hn
  refine region_tail 2 (by kernel_rfl) ?_
  simp only [List.take_succ_cons, List.take_zero, List.drop_succ_cons, List.drop_zero]
  repeat still_step
  refine wpStill_nil ?_
  go_wp2_with (first | (refine wpList_copy_splice rfl (.tmp 10) (.tmp 11) 26 26 rfl 5 Tryd.underlying26 size5 _ _ _ _ _ _ rfl rfl (w.heap.size + 1) 0 (S.v8l (S.zeros 64)) 64 HR1.out (S.v8l (S.sum ks)) HN.out (copy_src _ HS.out (Below.refl _ _)) HF.out (S.v8l_one _) (w.heap.size + 1) W1 (Below.refl _ _).drew (Nat.le_refl _) ?_; intro w2 HG2 hB2; have HG3 := hide (spl_rowT HG2); clear HG2; rw [← HB.out] at HG3; have HR2 := hide ((hB2.block w.heap.size (by omega)).trans HR.out); have HN2 := hide (HNX.out.trans (hB2.mono (by omega))); clear hB2) | refine wpList_load_row rfl 64 _ rfl (w.heap.size + 1) rfl 64 _ _ _ HG3.out Tryd.underlying64 rfl (size_keyb ks) ?_ | refine wpList_store_row rfl 64 _ _ rfl w.heap.size (S.v8 (S.keyb ks)) rfl rfl 64 _ HR2.out (size_keyb ks) (zeros_keyb ks) (S.v8_one _) ?_)
  exact bodyPost_ret (v := .agg (S.v8 (S.keyb ks))) (results_cell_row (g := w.heap.size) (t := 64) (fr := (0, 0)) Tryd.results36 _ _ _ _ rfl (setRow_heap _ _ _ _ _ _ HR2.out) Tryd.underlying64 rfl (size_keyb ks)) rfl ⟨rfl, below_setRow HN2.out (Nat.le_refl _) _⟩
theorem keyb_any (v : Value) (ks : List UInt8) (w : World) (hv : SliceAt w v ks) (hK : KAt w) :
   Calls Tryd.prog 36 #[v] w fun e w' => e = .returned (.agg (S.v8 (S.keyb ks))) ∧ Below w.heap.size w w' := by
  obtain ⟨ao, len, cap, rfl, hl, hm, hs⟩ := hv.shape
  by_cases h : 64 < len
  · exact keyb_long ao len cap ks hl h hm w hv hK
  · exact keyb_short ao len cap ks hl (by omega) w hs
end Go.Proofs.YtdfjbajehcedaaaDoor
