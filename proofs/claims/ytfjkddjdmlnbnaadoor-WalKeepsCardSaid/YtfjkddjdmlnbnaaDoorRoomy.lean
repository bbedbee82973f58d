/- Roomy: a list of bytes behind which 80 marks lie, in memory of its own; nothing that was there changes. -/
import Derived.Test.YtfjkddjdmlnbnaaDoorGa
namespace Go.Proofs.YtfjkddjdmlnbnaaDoor
open Go.RowKit
namespace S
/-- bs, m marks, and noughts up to 80 behind it. -/
def roomTo (bs : List UInt8) (m : Nat) : List UInt8 := bs ++ (List.replicate m 165 ++ S.zeros (80 - m))
def roomy (bs : List UInt8) : List UInt8 := bs ++ List.replicate 80 165
theorem roomTo_length (bs : List UInt8) (m : Nat) (h : m ≤ 80) : (roomTo bs m).length = bs.length + 80 := by
  simp only [roomTo, List.length_append, List.length_replicate, zeros_length]; omega
theorem roomy_length (bs : List UInt8) : (roomy bs).length = bs.length + 80 := by
  simp only [roomy, List.length_append, List.length_replicate]
theorem roomTo_all (bs : List UInt8) : roomTo bs 80 = roomy bs := by simp [roomTo, roomy, zeros]
theorem roomTo_set (bs : List UInt8) (m : Nat) (h : m < 80) : (roomTo bs m).set (bs.length + m) 165 = roomTo bs (m + 1) := by
  unfold roomTo
  rw [List.set_append_right _ _ (by omega), Nat.add_sub_cancel_left, List.set_append_right _ _ (by simp)]
  simp only [List.length_replicate, Nat.sub_self]
  have e : zeros (80 - m) = 0 :: zeros (80 - (m + 1)) := by
    simp only [zeros]
    rw [show 80 - m = (80 - (m + 1)) + 1 from by omega, List.replicate_succ]
  rw [e, List.set_cons_zero, List.replicate_succ', List.append_assoc]
  rfl
end S
set_option maxHeartbeats 800000 in
set_option maxRecDepth 100000 in
theorem roomy_any (v : Value) (bs : List UInt8) (w : World) (hv : SliceAt w v bs) (hl : bs.length + 80 ≤ 140737488355328) :
   Calls Tryd.prog 44 #[v, .int .u8 165] w fun e w' => ∃ g, e = .returned (.slice (some ⟨g, 0, none⟩) (bs.length + 80) (bs.length + 80)) ∧ w.heap.size ≤ g ∧ w'.heap[g]? = some (.cells (S.v8 (S.roomy bs)) 5 (0, 0)) ∧ Below w.heap.size w w' := by
  obtain ⟨ao, len, cap, rfl, hlen, hmax, hsrc⟩ := hv.shape
  obtain ⟨N, hN⟩ : ∃ N, N = len + 80 := ⟨_, rfl⟩
  have hmk : ∀ w : World, (Instr.makeSlice 29 (.int .i64 ((len : Int) + 80)) (.int .i64 ((len : Int) + 80))).run Tryd.prog w = .ok (.slice (some ⟨w.heap.size, 0, none⟩) N N) (w.alloc (.cells (S.v8 (S.zeros N)) 5)) := fun w => by
    have h := make_bytes_big N (by omega) w
    rw [show (N : Int) = (len : Int) + 80 from by omega] at h
    exact h
  have HS := hide hsrc
  have HN : Hid ((S.v8l bs).length = Nat.min len N) := by show (S.v8l bs).length = Nat.min len N; rw [S.v8l_length]; show _ = min _ _; omega
  have HF : Hid (0 + (S.v8l bs).length ≤ (S.v8l (S.zeros N)).length) := by show 0 + (S.v8l bs).length ≤ (S.v8l (S.zeros N)).length; rw [S.v8l_length, S.v8l_length, S.zeros_length]; omega
  have HNX : Hid (Below w.heap.size w (w.alloc (.cells (S.v8 (S.zeros N)) 5))) := (Below.refl _ _).alloc (Nat.le_refl _) _
  have HL := hide hlen
  have hNl : N ≤ 140737488355328 := by omega
  have HNN := hide hN
  clear hsrc hv hlen hN
  go_enter Tryd.func44, Tryd.ntmps44
  go_wp2_with (first | (refine wpList_copy_splice rfl (.tmp 11) (.tmp 12) 29 29 rfl 5 Tryd.underlying29 size5 _ _ _ _ _ _ rfl rfl w.heap.size 0 (S.v8l (S.zeros N)) 5 (heap_alloc_new _ _) (S.v8l bs) HN.out (copy_src _ HS.out HNX.out) HF.out (S.v8l_one _) w.heap.size (w.alloc (.cells (S.v8 (S.zeros N)) 5)) (Below.refl _ _) (Nat.le_refl _) ?_; intro w2 HG2 hB2; have HG3 := hide (spl_rowT HG2); clear HG2; have HN2 := hide (HNX.out.trans hB2); clear hB2))
  have rb : w2.heap[w.heap.size]? = some (.cells (S.v8 (S.roomTo bs 0)) 5 (0, 0)) := by
    have e : splice (S.zeros N) 0 bs = S.roomTo bs 0 := by
      rw [splice_front, show N - bs.length = 80 from by have := HL.out; have := HNN.out; omega]
      rfl
    rw [← e]; exact HG3.out
  have RB := hide rb
  clear rb HG3 HNX HF HN HS hmk
  go_loopw [6] (fun i wr => ∃ k m : Nat, k = len + m ∧ m ≤ 80 ∧ i = .int .i64 (k : Int) ∧ wr.heap[w.heap.size]? = some (.cells (S.v8 (S.roomTo bs m)) 5 (0, 0)) ∧ Below w.heap.size w wr) (fun i _ => N - (intOf i).toNat)
  case atStart => exact ⟨len, 0, rfl, by omega, rfl, RB.out, HN2.out⟩
  case round =>
    obtain ⟨k, m, hk, hm, rfl, hrow, hb⟩ := hrel
    clear RB HN2
    by_cases hlt : m < 80
    · have hll := S.roomTo_length bs m hm
      have c1 := v8_cell hrow k (by have := HL.out; omega)
      have f1 := frozen_of_row _ _ k _ _ hrow
      have V1 := hide (v8_set hrow k 165)
      rw [show (S.roomTo bs m).set k 165 = S.roomTo bs (m + 1) from by rw [hk, HL.out]; exact S.roomTo_set bs m hlt] at V1
      have V3 := hide (hb.setCell (p := ⟨w.heap.size, k, none⟩) (Nat.le_refl _) (.int .u8 165))
      have q1 : (0 : Int) ≤ (k : Int) := by omega
      have q2 : (k : Int) < (N : Int) := by have := HNN.out; omega
      have q4 : IntKind.i64.wrap ((k : Int) + 1) = (k : Int) + 1 := by rw [IntKind.wrap_i64]; have := HNN.out; omega
      have HKK := hide hk
      clear hrow hb hk hll
      go_wp2
      go_roundw
      case rel => exact ⟨k + 1, m + 1, by rw [HKK.out]; rfl, by omega, by go_num, V1.out, V3.out⟩
      case measure => simp [intOf]; omega
    · obtain rfl : m = 80 := by omega
      rw [S.roomTo_all] at hrow
      obtain rfl : N = k := by have := HNN.out; omega
      have q2 : ¬ ((N : Int) < (N : Int)) := by omega
      have A := hide hrow
      have B := hide hb
      clear hrow hb
      go_wp2
      go_ret
      exact ⟨w.heap.size, by rw [← HL.out]; rfl, Nat.le_refl _, A.out, B.out⟩
end Go.Proofs.YtfjkddjdmlnbnaaDoor
